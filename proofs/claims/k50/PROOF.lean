import PyProof.Rows.All
import Wide.All
import OpenK.AllK
import Wide.FinOn
import HandS.ForMost
import KE.GoesEnum
import HandS.Style
import KE.KRevSl
import PyProof.ReprRoads
import HandS.OwnEq
import PyProof.InstNe
import HandS.TupSets
import HandS.IsInst
import HandS.Walk
import HandS.Zip
import HandS.TupAny
import HandS.Deep
import HandS.Conv
import HandS.More
import HandS.Wide
import HandS.Text
import HandS.TupMul
import HandS.Iter
import HandS.TupLe
import HandS.SortRule
import HandS.SortOrd
import KE.KDictSum
import HandS.FStr
import PyProof.ReprBulk
import HandS.RaiseMore
import PySem.Challenge.RW_ringvouch_k50_rules_written_and_read
set_option Elab.async false
set_option linter.all false
set_option maxRecDepth 100000
namespace RV
open PySem PySem.Spec PyProof.Rows L2
set_option maxHeartbeats 4000000 in
theorem meets_en1 {val : Value} {ob : Obj} {HH : Heap → Prop} (B : Begins val ob HH) :
    Meets (Builtin.«enumerate.__new__» ⟨[.type "enumerate", val], []⟩) (fun _ R st => HH st.heap ∧
      R (.ok (.ret (.ref (st.heap.push ob).objs.size)))
        { st with heap := (st.heap.push ob).push { cls := .type "enumerate", data := .fields #[.none, .bool false, .ref st.heap.objs.size, rawInt 0, .none, .none] } }) :=
  .of_wp fun prog w A R st hyp => by
    obtain ⟨hp, gs, dr, tk, os⟩ := st
    obtain ⟨hyp1, hyp2⟩ := hyp
    have hsub := sub_enumerate
    have it1 : ∀ {A' : Around} {E : Value → Shared → Prop} {Q : Value → Shared → Prop}, Q (.ref hp.objs.size) ⟨hp.push ob, gs, dr, tk, os⟩ →
        wpAny (model prog w) A' (pyIter val) Q E ⟨hp, gs, dr, tk, os⟩ := fun q => B.iter prog w _ _ ⟨hp, gs, dr, tk, os⟩ _ hyp1 q
    wp_walk using it1
    refine wpAny_stack_any fun sk => wpAny_pure ?_
    split
    · rename_i cc _ _ _ _ _
      cases (cc == Value.type "enumerate") <;> (wp_walk using it1; exact ⟨_, rfl, hyp2⟩)
    · wp_walk using it1
      exact ⟨_, rfl, hyp2⟩
section
variable {prog : Program} {w : World} {A : Around} {E : Value → Shared → Prop} {s : Shared}
theorem call_en1 {val : Value} {ob : Obj} {HH : Heap → Prop} {Q : Value → Shared → Prop} (B : Begins val ob HH) (hh : HH s.heap)
    (k : ∀ h', IsEnum h' (s.heap.objs.size + 1) s.heap.objs.size 0 .none → h'.get? s.heap.objs.size = some ob → h'.objs.size = s.heap.objs.size + 2 →
      (∀ b o, s.heap.get? b = some o → h'.get? b = some o) → Q (.ref (s.heap.objs.size + 1)) { s with heap := h' }) :
    wpAny (model prog w) A (call (.type "enumerate") [val]) Q E s := by
  refine callType_new F.called_enumerate (by decide) (F.typeCall_enumerate_1 _) (F.newCall_enumerate_1 _) (fun oo => F.args_object_init_2 oo _) F.entry_enumerate_new (meets_en1 B) ⟨hh, ?_⟩
  have z1 : (s.heap.push ob).objs.size = s.heap.objs.size + 1 := Heap.size_push ..
  show _ ∧ _
  rw [z1]
  have z2 : IsEnum ((s.heap.push ob).push { cls := .type "enumerate", data := .fields #[.none, .bool false, .ref s.heap.objs.size, rawInt 0, .none, .none] }) (s.heap.objs.size + 1) s.heap.objs.size 0 .none := by
    have z3 := Heap.get?_push_size (s.heap.push ob) (o := { cls := .type "enumerate", data := .fields #[.none, .bool false, .ref s.heap.objs.size, rawInt 0, .none, .none] }) rfl
    rw [z1] at z3; exact z3
  refine ⟨⟨_, z2, rfl⟩, k _ z2 (Heap.get?_push_of_some _ (Heap.get?_push_size _ B.free)) (by rw [Heap.size_push, z1]) fun b o x => ?_⟩
  exact Heap.get?_push_of_some _ (Heap.get?_push_of_some _ x)
end
/-- enumerate of a tuple: the items in new pairs -/
def IteT (K : PySem.W.Frag) (a : Addr) : It where
  go i H := ∃ (xs : List V) (x : V), SqT K H a xs ∧ xs[i]? = some x
  yld i H v H' := ∃ T x, v = .ref T ∧ H T = none ∧ H' = upd H T (.tup [.int (i : Nat), x]) ∧ ∀ xs, SqT K H a xs → xs[i]? = some x
  stop i H := ∃ xs : List V, SqT K H a xs ∧ xs.length ≤ i
theorem turn_enT {P : Program} {w : World} {K : PySem.W.Frag} {elts : List Expr} {kk : Nat} {tpos : Pos} (a e it : Addr) :
    Turn P w K (.Tuple elts kk tpos) (IteT K a) [e, it] e (fun i h => (∃ old, IsEnum h e it ((i : Nat) : Int) old) ∧ h.IsTupleIter it a i ∧ e ≠ it ∧ a ≠ it ∧ a ≠ e) where
  mem := by simp
  obj := fun i h st b hb => by
    obtain ⟨⟨old, he⟩, ⟨o, ho, hc, hd⟩, _, _⟩ := st
    have eb : b = e ∨ b = it := by simpa using hb
    rcases eb with rfl | rfl
    · exact ⟨_, he, fun v q => nomatch q⟩
    · exact ⟨o, ho, fun v q => by rw [hd] at q; cases q⟩
  keep := fun i h h' st k => let ⟨⟨old, he⟩, hi, hne⟩ := st; ⟨⟨old, k e (by simp) _ he⟩, hi.at fun o q => k it (by simp) o q, hne⟩
  item := by
    intro X hP hw hK hc i pins s σ H E I hf st hg
    subst hP hw hK
    obtain ⟨⟨old, he⟩, hit, hne, hai, hae⟩ := st
    obtain ⟨xs, x, hq, hx⟩ := hg
    obtain ⟨its, rv, p, hz⟩ := I.tuple hq
    obtain ⟨u, hu, ru⟩ := rv.get hx
    have hel : e < s.heap.objs.size := Heap.lt_size he
    have hil : it < s.heap.objs.size := by obtain ⟨_, q, _⟩ := hit; exact Heap.lt_size q
    have hi : i < its.toArray.size := by
      have := (List.getElem?_eq_some_iff.mp hu).1
      simpa using this
    refine wpAny_pyNext_enum_itemD (A := X.A) (Draws.tuple (A := X.A.in1) (show X.A.in1.handled = none from I.ok.hd hc) it a hai its.toArray) he ⟨hit, p⟩ hi hne (by simp [hne, Ne.symm hae]) fun y h' tk hy ho hst hT hsz hk => ?_
    have hyu : y = u := by
      have e1 : its[i]? = some y := by simpa using hy
      rw [hu] at e1
      exact (Option.some.inj e1).symm
    subst hyu
    refine ⟨_, rfl, wpAny_letOwnedTupleGo_enum (s := { s with heap := h', toks := tk + 1 }) ho fun h'' he' sb => ?_⟩
    have hT2 : h''.get? s.heap.objs.size = some { cls := .type "tuple", data := .seq #[.int i tk, y] } := (sb.2 _ (Nat.ne_of_gt hel)).trans hT
    have new : ObjOk X.prog X.w (upd H s.heap.objs.size (.tup [.int (i : Nat), x])) h'' s.heap.objs.size (.tup [.int (i : Nat), x]) :=
      ⟨by show 2 ≤ sizeLine; decide, [.int i tk, y], .cons ⟨_, rfl⟩ (.cons ru .nil), ⟨_, hT2, rfl, _, rfl⟩⟩
    have I1 : Inv X pins σ (upd H s.heap.objs.size (.tup [.int (i : Nat), x])) { s with heap := h'', toks := tk + 1 } := by
      refine I.turnedNew (ch := [e, it]) (fun b ob hb q => ?_) hf (Nat.le_refl _) new
      exact (sb.2 b (fun z => hb (by simp [z]))).trans (hk b ob (fun z => hb (by simp [z])) (fun z => hb (by simp [z])) q)
    refine ⟨.ref s.heap.objs.size, _, I1, rfl, ⟨_, x, rfl, I.hok.fresh (Nat.le_refl _), rfl, fun ys hy => ?_⟩, ⟨⟨y, ?_⟩, hst.1.at fun o q => (sb.2 it (Ne.symm hne)).trans q, hne, hai, hae⟩, fun b hb => ?_⟩
    · rw [I.tuple_inj hy hq]; exact hx
    · rw [show ((i + 1 : Nat) : Int) = (i : Int) + 1 by omega]; exact he'
    · have eb : b = e ∨ b = it := by simpa using hb
      have hb' : b < s.heap.objs.size := by
        rcases eb with z | z <;> rw [z] <;> assumption
      rw [upd_ne (Nat.ne_of_lt hb')]
      exact (hf b hb).1
  done := by
    intro X hP hw hK hc i pins s σ H E I hf st hg
    subst hP hw hK
    obtain ⟨⟨old, he⟩, hit, hne, hai, hae⟩ := st
    obtain ⟨xs, hq, hx⟩ := hg
    obtain ⟨its, rv, p, hz⟩ := I.tuple hq
    obtain ⟨f0, f1, f2, f3, f4, f5⟩ := hf it (by simp)
    have hl := rv.length
    have hT : s.TypeIs (.ref e) "enumerate" := ⟨_, he, rfl⟩
    unfold pyNext
    refine wpAny_bind (wpAny_attempt (wpAny_callSpecial?_slot (name := Str.ofString "__next__") hT F.slot_enumerate_next (wpAny_call_entry F.slot_enumerate_next hT F.entry_enumerate_next ?_ (F.args_enumerate_next_1 _))))
    show wpAny _ _ (field (.ref e) 2 >>= _) _ _ _
    refine wpAny_bind (wpAny_field he rfl (x := .ref it) rfl ?_)
    refine wpAny_bind (wpAny_nextOf_tuple_end (I.ok.hd hc) hit p (by simp; omega) fun h' x he' hx' => ?_)
    obtain ⟨o, ho, hco⟩ := hx'
    refine wpAny_bind (wpAny_isInstance (T := "StopIteration") (b := true) ⟨o, ho, hco⟩ isSubtype_stop ?_)
    exact wpAny_pure ⟨rfl, I.turned (t' := s.toks) (fun b o hb q => he' b o hb q) f0 f1 f3 f4 f5⟩
  self := fun A i s Q E st h => let ⟨⟨_, he⟩, _⟩ := st; wpAny_pyIter_enum he h
def iEnT (K : PySem.W.Frag) (ta : TA) : TI := fun σ H R => ta σ H fun vs H1 => ∃ a xs, vs = [.ref a] ∧ SqT K H1 a xs ∧ R (IteT K a) H1
theorem pi_enT {X : Cx} {e : Expr} {ta : TA} {p pos tpos : Pos} {elts : List Expr} {kk : Nat} (hg : Gl X "enumerate") (hm : X.mg "enumerate" = none) (ha : PA X [e] ta)
    (hs : starEach [e] X.env = [(false, eval e X.env)] := by rfl) : PI X (.Tuple elts kk tpos) (.Call (.Name "enumerate" p) [e] [] pos) (iEnT X.K ta) := by
  refine ⟨fun pins s σ H R I h => Call_ (ld_blt I hg hm boot_enumerate (PyProof.Rows.callWith_type1 (thn (ha.run pos pins s σ H _ I h) fun us s1 ⟨vs, H1, I1, r1, q1⟩ => ?_) hs rfl))⟩
  obtain ⟨a, xs, ex, hq, q⟩ := q1
  subst ex
  cases r1 with
  | cons r rr =>
    cases rr
    cases r
    obtain ⟨its, rv, p', hz⟩ := I1.tuple hq
    have ha0 : a < s1.heap.objs.size := by
      obtain ⟨o, ho, _⟩ := p'
      exact Heap.lt_size ho
    refine call_en1 (begins_tuple a its.toArray) p' fun h' he hit hsz hk => wpAny_pyIter_enum he ?_
    have I2 : Inv X pins σ H1 { s1 with heap := h' } := I1.kept (t' := s1.toks) hk
    refine ⟨s1.heap.objs.size + 1, [s1.heap.objs.size + 1, s1.heap.objs.size], _, _, H1, rfl, I2, turn_enT a (s1.heap.objs.size + 1) s1.heap.objs.size,
      ⟨⟨.none, he⟩, ⟨_, hit, rfl, rfl⟩, Nat.succ_ne_self _, Nat.ne_of_lt ha0, Nat.ne_of_lt (Nat.lt_succ_of_lt ha0)⟩, fun b hb => ?_, q⟩
    have eb : b = s1.heap.objs.size + 1 ∨ b = s1.heap.objs.size := by simpa using hb
    have hle : s1.heap.objs.size ≤ b := by
      rcases eb with z | z
      · rw [z]; exact Nat.le_add_right _ _
      · rw [z]; exact Nat.le_refl _
    exact I1.fpOk hle (I1.hok.fresh hle)
end RV
set_option maxHeartbeats 4000000
namespace RV
open PySem PySem.Spec PyProof.Rows L2 HT
theorem back_places (n : Nat) : Builtin.Slice.slicePlaces ((n : Int) - 1) (-1) (-1) = n := by
  unfold Builtin.Slice.slicePlaces
  rw [if_neg (show ¬ ((-1 : Int) > 0) by decide)]
  by_cases hn : (n : Int) - 1 > -1
  · rw [if_pos hn, show (- -1 : Int) = 1 from rfl, Int.ediv_one]; omega
  · rw [if_neg hn]; omega
theorem back_pick (xs : Array Value) : ((List.range xs.size).filterMap fun (m : Nat) => xs[((xs.size : Int) - 1 + (m : Int) * (-1)).toNat]?).toArray = xs.toList.reverse.toArray := by
  have e0 : ∀ (l : List Nat), (∀ m ∈ l, m < xs.size) → l.filterMap (fun (m : Nat) => xs[((xs.size : Int) - 1 + (m : Int) * (-1)).toNat]?) = (l.map fun k => xs.size - 1 - k).filterMap (xs[·]?) := by
    intro l
    induction l with
    | nil => intro _; rfl
    | cons m r ih =>
      intro hm
      have h1 := hm m (List.mem_cons_self ..)
      have h2 := ih fun z hz => hm z (List.mem_cons_of_mem _ hz)
      rw [List.map_cons, List.filterMap_cons, List.filterMap_cons, h2, show ((xs.size : Int) - 1 + (m : Int) * (-1)).toNat = xs.size - 1 - m by omega]
  have e1 := e0 (List.range xs.size) fun m hm => List.mem_range.mp hm
  rw [e1, PySem.W.krv_range, List.filterMap_reverse, PySem.W.krv_all]
section
variable {prog : Program} {w : World} {A : Around} {E : Value → Shared → Prop} {s : Shared}
theorem applied_back {sl : Addr} {vl vu vs : Value} {n : Nat} {Q : Int × Int × Nat → Shared → Prop} (hs : s.heap.IsSliceOf sl vl vu vs) (pl : IsPart vl none) (pu : IsPart vu none) (ps : IsPart vs (some (-1)))
    (k : Q ((n : Int) - 1, -1, n) s) : wpAny (model prog w) A (Builtin.Slice.sliceApplied (.ref sl) (pure (n : Int))) Q E s := by
  obtain ⟨os, o1, o2, o3⟩ := id hs
  unfold Builtin.Slice.sliceApplied Builtin.Slice.sliceFields
  refine wpAny_bind (wpAny_bind (wpAny_field o1 o3 (x := vl) rfl (wpAny_bind (wpAny_field o1 o3 (x := vu) rfl (wpAny_bind (wpAny_field o1 o3 (x := vs) rfl (wpAny_pure ?_)))))))
  refine wpAny_bind (slicePart_ ps ?_)
  show wpAny _ _ (if ((-1 : Int) == 0) = true then _ else _) _ _ s
  rw [if_neg (by decide)]
  refine wpAny_bind (slicePart_ pl (wpAny_bind (slicePart_ pu (wpAny_bind (wpAny_pure ?_)))))
  show wpAny _ _ (pure ((n : Int) - 1, (-1 : Int), Builtin.Slice.slicePlaces ((n : Int) - 1) (-1) (-1))) _ _ s
  rw [back_places]
  exact wpAny_pure k
theorem item_back {t sl : Addr} {items : Array Value} {vl vu vs : Value} {Q : Value → Shared → Prop} (ht : IsTup s.heap t items) (hs : s.heap.IsSliceOf sl vl vu vs) (pl : IsPart vl none) (pu : IsPart vu none) (ps : IsPart vs (some (-1)))
    (k : Q (.ref s.heap.objs.size) { s with heap := s.heap.push { cls := .type "tuple", data := .seq items.toList.reverse.toArray } })
    (hsz : items.size ≤ sizeLine) : wpAny (model prog w) A (getItem (.ref t) (.ref sl)) Q E s := by
  have hok : sizeOk (.seq items.toList.reverse.toArray) := by
    show items.toList.reverse.toArray.size ≤ sizeLine
    simpa using hsz
  obtain ⟨os, o1, o2, o3⟩ := id hs
  have hTs : s.TypeIs (.ref sl) "slice" := ⟨os, o1, o2⟩
  unfold getItem
  try with_reducible refine wpAny_holding ?_
  first | refine wpAny_bind (wpAny_pure ?_) | skip
  refine wpAny_bind (wpAny_sequenceKey ht.typeIs (by decide) ?_)
  refine wpAny_bind (wpAny_callSpecial?_slot (name := Str.ofString "__getitem__") ht.typeIs PyProof.Rows.slot_tuple_getitem (wpAny_call_entry PyProof.Rows.slot_tuple_getitem ht.typeIs entry_tuple_getitem ?_ (args_tuple_getitem _ _)))
  show wpAny _ _ (Builtin.Tuple.tupleItemsOf (.ref t) >>= _) _ _ s
  refine wpAny_bind (tupleItemsOf_ ht (wpAny_bind (wpAny_typeOf hTs ?_)))
  rw [if_pos (by decide)]
  refine wpAny_bind (applied_back hs pl pu ps ?_)
  show wpAny _ _ (if (((items.size : Int) - 1) == 0 && (-1 : Int) == 1 && items.size == items.size) = true then _ else _) _ _ s
  rw [if_neg (by simp), back_pick]
  first
    | exact wpAny_bind (m := Builtin.Tuple.tupleExact _) (wpAny_newObj_type (wpAny_pure ⟨_, rfl, wpAny_pure k⟩) hok)
    | exact wpAny_bind (wpAny_bind (m := Builtin.Tuple.tupleExact _) (wpAny_newObj_type (wpAny_pure (wpAny_pure ⟨_, rfl, wpAny_pure k⟩)) hok))
    | exact wpAny_bind (wpAny_bind (m := Builtin.Tuple.tupleExact _) (wpAny_newObj_type (wpAny_pure ⟨_, rfl, wpAny_pure k⟩) hok))
    | exact wpAny_bind (m := Builtin.Tuple.tupleExact _) (wpAny_newObj_type (wpAny_bind (wpAny_pure (wpAny_pure ⟨_, rfl, wpAny_pure k⟩))) hok)
end
section
variable {X : Cx}
/-- t[::-1] of a tuple -/
def tBackT (K : PySem.W.Frag) (te : TE) : TE := fun σ H Q => te σ H fun x H1 => ∃ a xs, x = .ref a ∧ SqT K H1 a xs ∧ ∀ p, H1 p = none → Q (.ref p) (upd H1 p (.tup xs.reverse))
theorem pe_backT {e : Expr} {te : TE} {k : Nat} {p1 p2 p3 pos : Pos} (he : PE X e te) : PE X (.Subscript e (.Slice none none (some (.UnaryOp .USub (.Constant (.int 1) k p1) p2)) p3) pos) (tBackT X.K te) := by
  refine ⟨fun pins s σ H Q I h => Subscript_ (thn (he.run pins s σ H _ I h) fun v s1 ⟨x, H1, I1, r1, q1⟩ => ?_)⟩
  obtain ⟨a, xs, ex, hx, q⟩ := q1
  subst ex
  cases r1
  have hst : PO X (some (.UnaryOp .USub (.Constant (.int 1) k p1) p2)) (tPart (tUn (rU fun i => .int (-i)) (tC (.int 1)))) := po_some (pe_un un_neg pe_int)
  refine wpAny_Slice (thn (po_none.run pins s1 σ H1 (fun o H2 => o = none ∧ H2 = H1) I1 ⟨rfl, rfl⟩) fun vl s2 ⟨l, H2, I2, pl, el, e2⟩ => ?_)
  subst el e2
  refine thn (po_none.run pins s2 σ H2 (fun o H3 => o = none ∧ H3 = H2) I2 ⟨rfl, rfl⟩) fun vu s3 ⟨u, H3, I3, pu, eu, e3⟩ => ?_
  subst eu e3
  refine thn (hst.run pins s3 σ H3 (fun o H4 => o = some (-1) ∧ H4 = H3) I3 ⟨1, rfl, -1, rfl, rfl, rfl⟩) fun vs s4 ⟨o, H4, I4, ps, eo, e4⟩ => ?_
  subst eo e4
  have I5 : Inv X pins σ H4 { s4 with heap := s4.heap.push { cls := .type "slice", data := .fields #[vl, vu, vs] } } := I4.kept (t' := s4.toks) fun b ob q => Heap.get?_push_of_some _ q
  obtain ⟨its, r, ht, hz⟩ := I5.tuple hx
  have hlen := r.length
  show wpAny (model X.prog X.w) X.A (subscriptTail e _ (.ref a) (.ref s4.heap.objs.size)) (EP X pins σ Q) X.xe { s4 with heap := s4.heap.push { cls := .type "slice", data := .fields #[vl, vu, vs] } }
  refine tail_any (ops := [.ref a, .ref s4.heap.objs.size]) ht.typeIs (PyProof.Rows.slot_tuple_getitem.lookup) ?_ (by with_unfolding_all rfl)
  refine item_back ht (Heap.IsSliceOf.new _ vl vu vs) pl pu ps ?_ (by rw [List.size_toArray]; omega)
  refine ⟨.ref _, _, I5.laid (t' := s4.toks) (o := .tup xs.reverse) (fun b ob q => Heap.get?_push_of_some _ q) (Nat.le_refl _) ?_, rfl, q _ (I5.hok.fresh (Nat.le_refl _))⟩
  exact ⟨by rw [List.length_reverse]; exact hz, its.reverse, r.reverse, IsTup.new _ _⟩
end
end RV
set_option maxHeartbeats 4000000
namespace RV
open PySem PySem.Spec PyProof.Rows L2
/-- as the layer's promise of a def, where no repr runs around -/
structure FnG (P : Program) (w : World) (K : PySem.W.Frag) (mg : Str → Option Value) (base : Heap) (CX : CXT) (k : Nat) (f : Addr) (fd : FuncData) (ps : List Str) (sp : Sp) : Prop where
  many : ∀ vs H Q E, sp vs H Q E → vs.length = ps.length
  goes : ∀ (A : Around) (outer : List Env) (s : Shared) (H : Hp) (args : Args) (us : List Value) (vs : List V) (Q : VK) (E : XK), A.guards = some [] → Room k A → Env0 P w K mg base A outer s H →
    BindsTo s fd args (ps.zip us) → Vals vs us → sp vs H Q E → codeAny (model P w) A (.call (.ref f) args) (CR CX outer P w H s Q E) s
section
variable {P : Program} {w : World} {K : PySem.W.Frag} {mg : Str → Option Value} {base : Heap} {CX : CXT} {k : Nat} {f : Addr} {fd : FuncData} {N ps : List Str} {sp : Sp} {x qual : Str} {st : Stmt}
theorem okG (F : Fun K x qual st f fd) (S : FnScope N ps (defScope st)) (len : ∀ vs H Q E, sp vs H Q E → vs.length = ps.length)
    (body : ∀ (cdv : Value) (A : Around) (outer : List Env) (s : Shared) (H : Hp) (vs : List V) (Q : VK) (E : XK), A.guards = some [] → Room k (A.deeper (envOfC qual (defScope st) s.heap.objs.size f cdv)) → sp vs H Q E →
      ∃ t, PSs (cxOf CX0 P w K mg base N qual (defScope st) f cdv A outer s H E).nox (defBody st) t ∧ t { nx := fun _ H' => Q .non H', rt := Q } (start N vs) H) : FnG P w K mg base CX0 (k + 1) f fd ps sp := by
  obtain ⟨oc, od, kV, doc, pm, an, cdv, ct, osl, rfl, lk, hcd⟩ := F.ex
  refine ⟨len, fun A outer s H args us vs Q E gd hr e0 hb r hsp => ?_⟩
  have KX : K.In s.heap := e0.mod.kin.keeps fun b o z => (e0.bs b o z).1
  have lim : s.heap.NoLimit := e0.mod.nolimit.keeps fun b o z => (e0.bs b o z).1
  have kinds : ∀ y ∈ ps.zip us, (defScope st).names.lookup y.1 = some .local ∨ ((defScope st).names.lookup y.1 = some .cell ∧ ((cellsFrom (s.heap.objs.size + 1) (defScope st).names []).lookup y.1).isSome = true) := by
    rintro ⟨n, v⟩ hy
    exact (S.par n (List.of_mem_zip hy).1).imp id fun q => ⟨q, PySem.W.cellsFrom_some _ _ _ (.inl q)⟩
  refine codeAny_call_function hr.depth (KX _ _ lk) rfl S.co S.gen rfl (PySem.W.codeRec_of KX hcd) (hb _ _ _ _ (wpAny_newFunctionEnv_cells S.kind kinds fun env he s1 z => ?_))
  subst he
  refine ⟨lim.keeps z.toInCall.keep, codeAny_func ?_⟩
  obtain ⟨t, ht, hq⟩ := body cdv A outer s H vs Q E gd (hr.deeper _) hsp
  have I : Inv (cxOf CX0 P w K mg base N qual (defScope st) f cdv A outer s H E) [] (start N vs) H s1 := inv_start S hr.hd e0 (len _ _ _ _ hsp) r z
  refine wpAny_mono (ht.nox.run [] s1 (start N vs) H _ I hq) (fun fl s' hs => ?_) fun e s' hs => hs
  cases fl with
  | ret u =>
    obtain ⟨v, σ', H', J, rv, q⟩ := hs
    exact ⟨v, H', J.os, J.bare, J.base, J.hok, rv, q⟩
  | next =>
    obtain ⟨σ', H', J, q⟩ := hs
    exact ⟨V.non, H', J.os, J.bare, J.base, J.hok, rfl, q⟩
  | brk => exact hs.elim fun _ z => z.elim fun _ y => False.elim y.2
  | cont => exact hs.elim fun _ z => z.elim fun _ y => False.elim y.2
end
section
variable {X : Cx} {CX : CXT} {k : Nat} {f : Addr} {fd : FuncData} {ps : List Str} {sp : Sp} {dvs : List V} {ds : List Value} {E : XK} {x : Str} {p pos : Pos} {e : Expr} {es : List Expr} {t : TA}
/-- f(e, ..) of such a def -/
theorem pe_callG (F : FnG X.prog X.w X.K X.mg X.base CX k f fd ps sp) (gd : X.A.guards = some []) (hr : Room k X.A) (hg : Gl X x) (hm : X.mg x = some (.ref f)) (hk : PySem.W.keepIn X.K (.ref f) = true) (hb : Binds X.K fd ps ds) (hd : Vals dvs ds) (hx : Passes CX X E)
    (ha : PA X (e :: es) t) (hdb : (x == ("__debug__" : Str)) = false := by decide) (he : starEach (e :: es) X.env = (false, eval e X.env) :: starEach es X.env := by rfl) (hpl : (backTo pos (starEach es X.env)).any (·.1) = false := by rfl) :
    PE X (.Call (.Name x p) (e :: es) [] pos) (tCall sp dvs E t) := by
  refine ⟨fun pins s σ H Q I h => wpAny_Call_Name_kw (ld_glob I hg hm ?_ hdb)⟩
  refine PySem.W.callWith_K (h₀ := X.base) I.ok.mod.kin hk (thn (ha.run pos pins s σ H _ I h) fun us s1 ⟨vs, H1, I1, r, q⟩ => ⟨I1.kIn, ?_⟩) he hpl
  have r2 : Vals (vs ++ dvs) (us ++ ds) := r.append hd
  have hl : (us ++ ds).length = ps.length := r2.length ▸ F.many _ _ _ _ q
  refine wpAny_call (codeAny_mono (F.goes X.A X.stack s1 H1 ⟨us, []⟩ (us ++ ds) (vs ++ dvs) Q E gd hr I1.env0 (hb s1 us I1.kIn hl) r2 q) fun rr s' hq => ?_)
  cases rr with
  | error ee => exact hx pins σ H1 s1 ee s' I1 hq
  | ok fl => cases fl <;> first | exact I1.after hq | exact False.elim hq
/-- repr(x), x an object read as data -/
theorem call_reprD (gd : X.A.guards = some []) (hu : X.A.units + 65 < cLine) : CallR X (.builtin "repr") (fun xs H Q => ∃ (a : Addr) (d : PyData), xs = [.ref a] ∧ Dp X.K H (.ref a) d ∧ d.showable = true ∧ d.hasDict = false ∧ d.depth ≤ 64 ∧ d.shown.length ≤ sizeLine ∧ Q (.str d.shown) H) := by
  intro pins s σ H xs us Q I r h
  obtain ⟨a, d, rfl, hd, h1, h2, h3, h4, q⟩ := h
  obtain ⟨u, rfl, ru⟩ := vals1 r
  cases ru
  obtain ⟨as, rd⟩ := Dp.reads I d (.ref a) (.ref a) hd rfl
  refine repr_of_reads' rd h1 (fun z => by rw [h2] at z; cases z) gd (by omega) (fun _ _ z => z) (fun h' uu tk k => ?_) h4
  exact ⟨.str d.shown, H, I.kept k, ⟨uu, rfl⟩, q⟩
end
section
/-- the law's call, from such a promise -/
theorem law_callG {P : Program} {w : World} {K : PySem.W.Frag} {mg mb : Str → Option Value} {k : Nat} {fa a : Addr} {fd : FuncData} {x : Str} {sp : Sp} {st : Shared} {vs : List Value} {ns : List Int}
    (KX : K.In st.heap) (n1 : st.heap.Ns mainGlobals mg) (n2 : st.heap.Ns builtinsNs mb) (n3 : ∀ x : Str, x ≠ "__name__" → mb x = bootBuiltins x) (n4 : st.heap.NoLimit) (n5 : st.gens = #[])
    (ha : st.heap.get? a = some { cls := .type "list", data := .seq vs.toArray }) (hi : IntsAre vs ns) (hl : ns.length ≤ sizeLine) (hr : Room k callerA)
    (F : ∀ base : Heap, K.In base → base.Ns mainGlobals mg → FnG P w K mg base CX0 k fa fd [x] sp) (bnd : ∀ (s : Shared) (u : Value), BindsTo s fd ⟨[u], []⟩ [(x, u)])
    (hsp : ∀ H : Hp, Only H → SqL K H a (ns.map V.int) → sp [.ref a] H (fun v _ => v = .bl true) fun _ _ _ => False) :
    codeAny (model P w) callerA (.call (.ref fa) ⟨[.ref a], []⟩) (fun r s' => r = .ok (.ret (.bool true)) ∧ OldK st.heap s'.heap ∧ s'.os = st.os ∧ AllBare s'.gens) st := by
  have rv := vals_ints hi
  have lv := hi.length
  have key : ∀ H : Hp, Only H → SqL K H a (ns.map V.int) → HOk P w H st.heap → (∀ b, H b ≠ none → b = a) → (H a ≠ none → K.lookup a = none) →
      codeAny (model P w) callerA (.call (.ref fa) ⟨[.ref a], []⟩) (fun r s' => r = .ok (.ret (.bool true)) ∧ OldK st.heap s'.heap ∧ s'.os = st.os ∧ AllBare s'.gens) st := by
    intro H hO hS hok hA hK
    have noA : ∀ {b : Addr} {o : Obj} {es : Array DictEntry} {ep : Nat}, st.heap.get? b = some o → o.data = .dict es ep → H b = none := by
      intro b o es ep e d
      cases q : H b with
      | none => rfl
      | some u =>
        obtain rfl : b = a := hA b (by rw [q]; simp)
        rw [ha] at e
        cases e
        cases (show Data.seq vs.toArray _ = Data.dict es ep from d)
    have nsK : ∀ {b : Addr} {m : Str → Option Value}, st.heap.Ns b m → (hidT st.heap H).Ns b m := fun {b m} ⟨o, es, ep, e, d, r⟩ => ⟨o, es, ep, hidT_get e (noA e d), d, r⟩
    have kb : K.In (hidT st.heap H) := fun b o e => hidT_get (KX b o e) (by
      cases q : H b with
      | none => rfl
      | some u =>
        obtain rfl : b = a := hA b (by rw [q]; simp)
        rw [hK (by rw [q]; simp)] at e
        cases e)
    obtain ⟨mc, l1, l2⟩ := n4
    have e0 : Env0 P w K mg (hidT st.heap H) callerA [] st H :=
      ⟨rfl, ⟨kb, nsK n1, ⟨mb, nsK n2, n3⟩, ⟨mc, nsK l1, l2⟩⟩, fun b o e => of_hidT e, Nat.le_of_eq (hidT_size _ _), trivial, fun b hb => absurd (show b ∈ ([] : List Addr) from hb) (by simp), hok, .of_eq n5⟩
    refine codeAny_mono ((F _ kb (nsK n1)).goes callerA [] st H ⟨[.ref a], []⟩ [.ref a] [.ref a] _ _ rfl hr e0 (bnd st (.ref a)) (.cons rfl .nil) (hsp H hO hS)) fun r s' h => ?_
    cases r with
    | error e => exact False.elim h
    | ok fl =>
      cases fl with
      | next => exact False.elim h
      | brk => exact False.elim h
      | cont => exact False.elim h
      | ret u =>
        obtain ⟨v, H', os, bare, un, hok', r', q⟩ := h
        obtain rfl : v = .bl true := q
        obtain rfl : u = Value.bool true := r'
        refine ⟨rfl, OldK.of_keep fun b o e => ?_, os, bare⟩
        rcases hO b with z | ⟨ob, xs, z⟩
        · exact un.keep b o e z (fun y => absurd (show b ∈ ([] : List Addr) from y) (by simp)) (by simp)
        · have z2 := un.frzs b ob _ z
          obtain ⟨e1, _⟩ := hok b _ z
          obtain ⟨e2, _⟩ := hok' b _ z2
          rw [e] at e1
          cases e1
          exact e2
  cases hk : K.lookup a with
  | some o =>
    have e := KX a o hk
    rw [ha] at e
    cases e
    exact key (fun _ => none) (fun _ => .inl rfl) (.inr ⟨_, vs.toArray, _, hk, rfl, rfl, rfl, by rw [List.size_toArray, lv]; exact hl, by simpa using rv⟩)
      (fun b u z => by cases (show (none : Option HO) = some u from z)) (fun b z => absurd rfl z) fun z => absurd rfl z
  | none =>
    refine key (fun b => if b = a then some (.frz { cls := .type "list", data := .seq vs.toArray } (.lst (ns.map V.int))) else none) (fun b => ?_) (.inl (.inr ⟨{ cls := .type "list", data := .seq vs.toArray }, if_pos rfl⟩)) (fun b u z => ?_) (fun b z => ?_) fun _ => hk
    · by_cases hb : b = a
      · exact .inr ⟨_, _, if_pos hb⟩
      · exact .inl (if_neg hb)
    · by_cases hb : b = a
      · cases (if_pos hb).symm.trans z
        subst hb
        exact ⟨ha, by rw [List.length_map]; exact hl, vs, _, rv, ha⟩
      · cases (if_neg hb).symm.trans z
    · exact Classical.byContradiction fun hb => z (if_neg hb)
theorem walk_G {l : PySem.W.OpenLaw} {n k : Nat} {q : Program} {loose : List Str} {XP : (Str → Option Value) → Heap → Prop} {YP : World → Heap → Prop} {d : DefRec} {K : Params → PySem.W.Frag} {sp : World → Sp} {x : Str}
    (hn : l.most = some n) (hn2 : n ≤ sizeLine) (hdf : d.params.defaults = []) (hr : Room k callerA) (hY : ∀ (w : World) (h : Heap), YP w h → (K w.params).In h)
    (F : ∀ (w : World) (mg : Str → Option Value) (fa : Addr) (h : Heap), (K w.params).In h → h.Ns mainGlobals mg → mg d.name = some (.ref fa) →
      ∃ fd : FuncData, (∀ (s : Shared) (u : Value), BindsTo s fd ⟨[u], []⟩ [(x, u)]) ∧ ∀ base : Heap, (K w.params).In base → base.Ns mainGlobals mg → FnG l.prog w (K w.params) mg base CX0 k fa fd [x] (sp w))
    (hsp : ∀ (w : World) (H : Hp) (a : Addr) (ns : List Int), ns.length ≤ n → Only H → SqL (K w.params) H a (ns.map V.int) → sp w [.ref a] H (fun v _ => v = .bl true) fun _ _ _ => False) :
    PySem.W.WalkO q loose XP YP l.row.toRowW d [] (fun f vs => PySem.call f vs) := by
  refine Att.attach_call hn hdf fun w s₀ st mg mb fa o pm cd doc a vs ns G Y ho hd hcd hmg hobj hints hlen hg => ?_
  obtain ⟨fd, hb, hF⟩ := F w mg fa _ (hY w _ Y) G.T.g hmg
  exact law_callG (hY w _ Y) G.T.g G.T.b G.T.builtins G.T.nolimit hg hobj hints (Nat.le_trans hlen hn2) hr hF hb fun H hO hS => hsp w H a ns hlen hO hS
end
end RV
set_option maxHeartbeats 4000000
namespace RV
open PySem PySem.Spec PyProof.Rows L2 PySem.W
section
variable {prog : Program} {w : World} {A : Around} {E : Value → Shared → Prop} {s : Shared} {K : Frag} {x C L f : Addr} {h₀ : Heap} {m : Str → Option Value} {ox : Obj} {od : Option Obj} {b tb : Value}
theorem ne_bound {Q : Option Value → Shared → Prop} (X : K.In s.heap) (I : InstAt s.heap x ox C od) (hs : findIn K (.ref C) "__ne__" = some (some (.builtin "object.__ne__")))
    (h : wpAny (model prog w) A (call (.builtin "object.__ne__") [.ref x, b]) (fun v => Q (some v)) E s) : wpAny (model prog w) A (callSpecialIfBound? (.ref x) "__ne__" [b]) Q E s := by
  simp only [callSpecialIfBound?, bindSpecialIfBound?]
  refine wpAny_holding (wpAny_bind (wpAny_bind (wpAny_bind (I.type.here ((looks_findIn X hs).here ?_)))))
  refine wpAny_bind (wpAny_askSetting (wpAny_ite ?_))
  have fin : wpAny (model prog w) A (call (.builtin "object.__ne__") ([.ref x] ++ [b]) >>= fun v => pure (some v)) Q E s :=
    wpAny_bind (wpAny_mono h (fun v s' z => wpAny_pure z) fun _ _ z => z)
  split
  · rw [F.cmp_object.ne.bind]
    exact wpAny_bind (wpAny_pure (wpAny_pure fin))
  · rw [F.cmp_object.ne.bind]
    exact wpAny_tryCatch (wpAny_bind (wpAny_pure (wpAny_pure fin)))
theorem obj_ne {Q : Fin → Shared → Prop} (X : K.In s.heap) (hu : A.units < cLine) (I : InstAt s.heap x ox C od) (hs : findIn K (.ref C) "__eq__" = some (some (.ref f))) (hf : isFn K (.ref f) = true)
    (h : wpAny (model prog w) A (call (.ref f) [.ref x, b]) (fun v s' => ∃ c, v = .bool c ∧ Q (.done (.ret (.bool (!c)))) s') E s) :
    wpAny (model prog w) A (Builtin.«object.__ne__» ⟨[.ref x, b], []⟩) Q E s := by
  unfold Builtin.«object.__ne__»
  repeat (first
    | with_reducible refine wpAny_cRoomFor hu ?_
    | (refine wpAny_bind (m := callSpecialIfBound? (.ref x) (Str.ofString "__eq__") [b])
        (ifBound_K X I hs hf (wpAny_mono h (fun r s' hr => by
          obtain ⟨c, rfl, hq⟩ := hr
          repeat (first | exact hq | exact wpAny_pure hq | exact wpAny_truthy_bool hq | (refine wpAny_bind (m := truthy (.bool _)) (wpAny_truthy_bool ?_)) | wp_step)) fun _ _ z => z)))
    | wp_step)
theorem cmp_ne {Q : Value → Shared → Prop} (hu : A.units + 1 < cLine) (F0 : Fr h₀ L s.heap m) (X₀ : K.In h₀) (I : InstAt s.heap x ox C od) (hb : Looks (model prog w) s.heap (typeOf b) (.ref C))
    (hn : findIn K (.ref C) "__ne__" = some (some (.builtin "object.__ne__"))) (hm : mroIn K C (.type "object") = some true)
    (hs : findIn K (.ref C) "__eq__" = some (some (.ref f))) (hf : isFn K (.ref f) = true)
    (h : wpAny (model prog w) A.in1 (call (.ref f) [.ref x, b]) (fun v s' => ∃ c, v = .bool c ∧ Q (.bool (!c)) s') E s) : wpAny (model prog w) A (richCompare .NotEq (.ref x) b) Q E s := by
  have X := X₀.keeps F0.keep
  have one : wpAny (model prog w) A (tryCompare (.ref x) "__ne__" b) (fun r s' => ∃ v, r = some v ∧ Q v s') E s := by
    unfold tryCompare
    refine wpAny_bind (ne_bound X I hn (wpAny_call (codeAny_call_builtin F.cmp_object.ne.plain F.cmpEntry_ne ?_)))
    refine check_slot F.cmpKind_ne F.cmpSplit_ne ?_ (F.cmpArgs_ne _ _) ?_
    · exact I.type.andThen (looks_mroIn X hm)
    · refine obj_ne (A := A.in1) X hu I hs hf (wpAny_mono h (fun v s' hv => ?_) fun _ _ z => z)
      obtain ⟨c, rfl, hq⟩ := hv
      exact ⟨c, rfl, wpAny_pure ⟨_, rfl, hq⟩⟩
  unfold richCompare
  simp only [oneThing_ref]
  refine wpAny_holding (wpAny_bind (wpAny_cRoomFor (Nat.lt_of_succ_lt hu) ?_))
  rw [cmpInfo_NotEq]
  dsimp only
  refine wpAny_bind (I.type.here (wpAny_bind (hb.here ?_)))
  rw [show (Value.ref C != Value.ref C) = false from by simp]
  simp only [Bool.false_eq_true, if_false]
  refine wpAny_bind (wpAny_pure ?_)
  simp only [Bool.false_eq_true, if_false]
  refine wpAny_bind (wpAny_mono one (fun r s' z => ?_) fun _ _ z => z)
  obtain ⟨v, rfl, hq⟩ := z
  exact wpAny_pure hq
end
section
variable {X : Cx} {CX : CXT} {n : Nat} {C f : Addr} {fd : FuncData} {ps : List Str} {sp : Sp} {E : XK}
/-- x != y, instances of the class at C, by the text's own == -/
def rNeI (C : Addr) (sp : Sp) (E : XK) : R2 := fun x y H Q => ∃ a b dx dy fs gs, x = .ref a ∧ y = .ref b ∧ H a = some (.ins C dx fs) ∧ H b = some (.ins C dy gs) ∧ sp [.ref a, .ref b] H (fun v H' => ∃ c, v = .bl c ∧ Q (.bl (!c)) H') E
def rEqI (C : Addr) (sp : Sp) (E : XK) : R2 := fun x y H Q => ∃ a b dx dy fs gs, x = .ref a ∧ y = .ref b ∧ H a = some (.ins C dx fs) ∧ H b = some (.ins C dy gs) ∧ sp [.ref a, .ref b] H (fun v H' => ∃ c, v = .bl c ∧ Q (.bl c) H') E
theorem op_neI (G : FnOk X.prog X.w X.K X.mg X.base CX n f fd ps sp) (hr : Room (n + 1) X.A) (hn : findIn X.K (.ref C) "__ne__" = some (some (.builtin "object.__ne__"))) (hm : mroIn X.K C (.type "object") = some true)
    (hs : findIn X.K (.ref C) "__eq__" = some (some (.ref f))) (hf : isFn X.K (.ref f) = true) (hb : Binds X.K fd ps []) (hx : Passes CX X E) : OpR X (compareOp .NotEq) (rNeI C sp E) := by
  intro pins s σ H x y v u Q I rx ry hq
  obtain ⟨a, b, dx, dy, fs, gs, rfl, rfl, ha, hb', q⟩ := hq
  cases rx
  cases ry
  obtain ⟨mA, J, _⟩ := ins_get I.hok ha
  obtain ⟨mB, J', _⟩ := ins_get I.hok hb'
  obtain ⟨od, J, _⟩ := J.look
  obtain ⟨od', J', _⟩ := J'.look
  obtain ⟨m, hF⟩ := I.fr
  show wpAny (model X.prog X.w) X.A (richCompare .NotEq (.ref a) (.ref b)) (EP X pins σ Q) X.xe s
  refine cmp_ne (by have := hr.un; omega) hF I.ok.mod.kin J J'.type hn hm hs hf ?_
  have hl := G.len _ _ _ _ q
  have r2 : Vals [V.ref a, V.ref b] [Value.ref a, Value.ref b] := .cons rfl (.cons rfl .nil)
  refine wpAny_call (codeAny_mono (G.run X.A.in1 X.stack s H ⟨[.ref a, .ref b], []⟩ [.ref a, .ref b] [.ref a, .ref b] _ E hr.in1 I.env0.in1 (by simpa using hb s [.ref a, .ref b] I.kIn (by simpa using hl)) r2 q) fun r s' hq => ?_)
  cases r with
  | error e => exact hx pins σ H s e s' I hq
  | ok fl =>
    cases fl with
    | ret w =>
      obtain ⟨z, H', I', rz, c, ez, ex⟩ := I.after hq
      subst ez
      cases rz
      exact ⟨c, rfl, .bl (!c), H', I', rfl, ex⟩
    | next => exact False.elim hq
    | brk => exact False.elim hq
    | cont => exact False.elim hq
theorem op_eqI (G : FnOk X.prog X.w X.K X.mg X.base CX n f fd ps sp) (hr : Room n X.A)
    (hs : findIn X.K (.ref C) "__eq__" = some (some (.ref f))) (hf : isFn X.K (.ref f) = true) (hb : Binds X.K fd ps []) (hx : Passes CX X E) : OpR X (compareOp .Eq) (rEqI C sp E) := by
  intro pins s σ H x y v u Q I rx ry hq
  obtain ⟨a, b, dx, dy, fs, gs, rfl, rfl, ha, hb', q⟩ := hq
  cases rx
  cases ry
  obtain ⟨mA, J, _⟩ := ins_get I.hok ha
  obtain ⟨mB, J', _⟩ := ins_get I.hok hb'
  obtain ⟨od, J, _⟩ := J.look
  obtain ⟨od', J', _⟩ := J'.look
  obtain ⟨m, hF⟩ := I.fr
  show wpAny (model X.prog X.w) X.A (richCompare .Eq (.ref a) (.ref b)) (EP X pins σ Q) X.xe s
  refine PySem.W.cmp_K (op := .Eq) (tb := .ref C) hr.units0 hF I.ok.mod.kin J J'.type (by simp [PySem.W.notFirst]) hs hf ?_
  have hl := G.len _ _ _ _ q
  have r2 : Vals [V.ref a, V.ref b] [Value.ref a, Value.ref b] := .cons rfl (.cons rfl .nil)
  refine wpAny_call (codeAny_mono (G.run X.A X.stack s H ⟨[.ref a, .ref b], []⟩ [.ref a, .ref b] [.ref a, .ref b] _ E hr I.env0 (by simpa using hb s [.ref a, .ref b] I.kIn (by simpa using hl)) r2 q) fun r s' hq => ?_)
  cases r with
  | error e => exact hx pins σ H s e s' I hq
  | ok fl =>
    cases fl with
    | ret w =>
      obtain ⟨z, H', I', rz, c, ez, ex⟩ := I.after hq
      subst ez
      cases rz
      exact ⟨.bl c, H', I', rfl, ex⟩
    | next => exact False.elim hq
    | brk => exact False.elim hq
    | cont => exact False.elim hq
end
end RV
set_option maxHeartbeats 4000000
/-! set(xs) of tuples of ints, xs of any length, where few of them are unlike -/
namespace RV
open PySem PySem.Spec PyProof.Rows L2
/-- fewer than 63 unlike ones -/
def FewUnlike (ks : List (Addr × List Int)) : Prop := ∀ L : List (Addr × List Int), (L.map (·.2)).Nodup → (∀ p ∈ L, p ∈ ks) → L.length + 1 < 64
abbrev noneYet (w : World) : Obj := { cls := .type "set", dict := none, data := .set #[] 0 (.fresh 0 0 (!w.params.followText "set-order")) }
section
variable {P : Program} {w : World} {A : Around} {E : Value → Shared → Prop} {s : Shared}
theorem setN_loop {R : Result → Shared → Prop} (hh : A.in1.handled = none) (S l it : Addr) (hSl : S ≠ l) (hSi : S ≠ it) (hli : l ≠ it) (items : Array Value) (ks : List (Addr × List Int)) (few : FewUnlike ks)
    (refs : ∀ (i : Nat) (p : Addr × List Int), ks[i]? = some p → items[i]? = some (Value.ref p.1)) (size : items.size = ks.length) (old : Heap) (tups : ∀ p ∈ ks, IsT P w old p.2 p.1) (o1 : old.get? S = none) (o2 : old.get? it = none) (hu : A.in1.units < cLine) :
    ∀ (k i : Nat) (s : Shared), ks.length - i = k → i ≤ ks.length → s.heap.IsListIter it l i → s.heap.IsList l items → (∀ b o, old.get? b = some o → s.heap.get? b = some o) → (∃ L es ep t, SetTR P w s.heap S L es ep t ∧ Got ks i L) →
      (∀ h' tk L es ep t, SetTR P w h' S L es ep t → Got ks ks.length L → (∀ b o, old.get? b = some o → h'.get? b = some o) → R (.ok (.ret .none)) { s with heap := h', toks := tk }) →
      codeAny (model P w) A (.builtin "set.update.loop" ⟨[.ref S, .ref it], []⟩) R s
  | 0, i, s, hk, hi, hit, hl, keep, ⟨L, es, ep, t, hS, got⟩, fin => by
    obtain rfl : i = ks.length := by omega
    refine codeAny_builtin F.entry_set_update_loop ?_
    rw [Around.under_plainId F.plain_set_update_loop _]
    show wpAny _ A.in1 (pyNext (.ref it) >>= _) _ _ s
    refine wpAny_bind (wpAny_pyNext_list_end hh hit hl (by simp [size]) fun h' ext => ?_)
    have keep' : ∀ b o, old.get? b = some o → h'.get? b = some o := fun b o e => ext b o (fun z => by rw [z, o2] at e; cases e) (keep b o e)
    exact wpAny_pure (fin h' s.toks L es ep t (hS.keep (fun o e => ext S o hSi e) fun p hp => isT_keep (tups p (List.mem_of_mem_take (got.sub p hp))) keep') got keep')
  | k + 1, i, s, hk, hi, hit, hl, keep, ⟨L, es, ep, t, hS, got⟩, fin => by
    obtain ⟨p, hp⟩ : ∃ p, ks[i]? = some p := ⟨_, List.getElem?_eq_getElem (by omega)⟩
    refine codeAny_builtin F.entry_set_update_loop ?_
    rw [Around.under_plainId F.plain_set_update_loop _]
    show wpAny _ A.in1 (pyNext (.ref it) >>= _) _ _ s
    refine wpAny_bind (wpAny_pyNext_list_item hit hl (refs i p hp) fun h1 hit1 sb1 => ?_)
    have keep1 : ∀ b o, old.get? b = some o → h1.get? b = some o := fun b o e => (sb1.2 b fun z => by rw [z, o2] at e; cases e).trans (keep b o e)
    have inKs : ∀ q ∈ L, q ∈ ks := fun q hq => List.mem_of_mem_take (got.sub q hq)
    have hS1 : SetTR P w h1 S L es ep t := hS.keep (fun o e => (sb1.2 S hSi).trans e) fun q hq => isT_keep (tups q (inKs q hq)) keep1
    have hT : IsT P w h1 p.2 p.1 := isT_keep (tups p (List.mem_of_getElem? hp)) keep1
    show wpAny _ A.in1 (holding [Value.ref p.1] (setAdd S (.ref p.1)) >>= _) _ _ _
    refine wpAny_bind (wpAny_holding ?_)
    unfold setAdd
    refine wpAny_holding (wpAny_bind (wpAny_pyHash_tuple hu hT ?_))
    refine add_at (s := { s with heap := h1, toks := s.toks + (p.2.length + 1) }) hS1 hT hu (few L hS1.nd inKs) fun b h2 L2 es2 ep2 t2 sb2 hS2 yes no => ?_
    have got2 : Got ks (i + 1) L2 := by
      by_cases c : p.2 ∈ L.map (·.2)
      · rw [yes c]; exact got.same hp c
      · exact got.more hp (no c)
    have keep2 : ∀ b o, old.get? b = some o → h2.get? b = some o := fun b o e => (sb2.2 b fun z => by rw [z, o1] at e; cases e).trans (keep1 b o e)
    refine wpAny_pure ⟨plainId_quiet F.plain_set_update_loop _, setN_loop hh S l it hSl hSi hli items ks few refs size old tups o1 o2 hu k (i + 1) _ (by omega) (by omega)
      (hit1.at fun o e => (sb2.2 it (Ne.symm hSi)).trans e) ((hl.at fun o e => (sb1.2 l hli).trans e).at fun o e => (sb2.2 l (Ne.symm hSl)).trans e) keep2 ⟨L2, es2, ep2, t2, hS2, got2⟩ fun h' tk L' es' ep' t' z1 z2 z3 => ?_⟩
    exact fin h' tk L' es' ep' t' z1 z2 z3
set_option maxHeartbeats 8000000 in
theorem call_setN {l : Addr} {items : Array Value} (ks : List (Addr × List Int)) {Q : Value → Shared → Prop} (hh : A.handled = none) (hl : s.heap.IsList l items) (refs : items.toList = ks.map fun p => Value.ref p.1)
    (tups : ∀ p ∈ ks, IsT P w s.heap p.2 p.1) (few : FewUnlike ks) (hu : A.units + 3 < cLine)
    (k : ∀ (h' : Heap) (tk : Nat) L es ep t, SetTR P w h' s.heap.objs.size L es ep t → Got ks ks.length L → (∀ b o, s.heap.get? b = some o → h'.get? b = some o) → Q (.ref s.heap.objs.size) { s with heap := h', toks := tk }) :
    wpAny (model P w) A (call (.type "set") [.ref l]) Q E s := by
  have size : items.size = ks.length := by simpa using congrArg List.length refs
  have refs' : ∀ (i : Nat) (p : Addr × List Int), ks[i]? = some p → items[i]? = some (Value.ref p.1) := fun i p e => by
    rw [← Array.getElem?_toList, refs, List.getElem?_map, e]; rfl
  obtain ⟨c, tl, hm⟩ := F.called_set.mro
  have a1 := F.called_set.made
  have a2 := F.called_set.sub
  have a3 := F.called_set.notType
  have a4 := F.called_set.canCreate
  have a5 := F.typeCall_set_1 (.ref l)
  refine wpAny_call (codeAny_of_tree ?_)
  show wpAny _ _ (callAny (.type "set") _) _ _ _
  refine wpAny_pure ⟨Code.quiet_builtin _ (by decide +kernel), codeAny_builtin F.entry_type_call ?_⟩
  rw [Around.under_plain (weight_type_call_type "set" [.ref l] []) rfl]
  repeat (any_goals (first | assumption | wp_step))
  refine codeAny_mono (code_set_led1 (.ref l) (E := E) (Q₁ := fun obj s₁ => obj = .ref s.heap.objs.size ∧ s₁ = { s with heap := s.heap.push (noneYet w) }) ⟨rfl, rfl⟩) fun r s₁ hr => ?_
  match r, hr with
  | .error e, hr => exact hr
  | .ok .next, hr => exact hr.elim
  | .ok .brk, hr => exact hr.elim
  | .ok .cont, hr => exact hr.elim
  | .ok (.ret obj), hr =>
    obtain ⟨rfl, rfl⟩ := hr
    have hS : (s.heap.push (noneYet w)).get? s.heap.objs.size = some (noneYet w) := Heap.get?_push_size _ rfl
    have hT : Shared.TypeIs { s with heap := s.heap.push (noneYet w) } (.ref s.heap.objs.size) "set" := ⟨_, hS, rfl⟩
    have b1 := F.called_set.init.lookup
    have b2 := F.called_set.init.bind (.ref s.heap.objs.size)
    repeat (any_goals (first | assumption | wp_step))
    refine codeAny_mono (codeAny_call_builtin (R := wants (fun r s₂ => r = .none ∧ ∃ h' tk L es ep t, s₂ = { s with heap := h', toks := tk } ∧ SetTR P w h' s.heap.objs.size L es ep t ∧ Got ks ks.length L ∧
        (∀ b o, s.heap.get? b = some o → h'.get? b = some o)) E) F.called_set.init.plain F.entry_set_init (check_set_init_1 hT ?_)) fun r₂ s₂ hr₂ => ?_
    · obtain ⟨⟨oc, od, dt, os⟩, g1, g2, nl, g3⟩ := hl
      simp only at g2 g3
      subst g2 g3
      have g4 : (s.heap.push (noneYet w)).get? l = some { cls := .type "list", dict := od, data := .seq items nl, slots := os } := Heap.get?_push_of_some _ g1
      have c1 := F.sub_list_set
      have c2 := F.sub_list_frozenset
      have c3 : (Value.type "list" == Value.type "dict") = false := by decide
      have isl : (s.heap.push (noneYet w)).IsList l items := ⟨_, g4, rfl, nl, rfl⟩
      unfold Builtin.«set.__init__» noKeywords Builtin.Frozenset.updateFrom
      generalize hpi : pyIter = pI
      wp_walk
      subst hpi
      refine wpAny_pyIter_list isl (wpAny_bind (wpAny_runValue ?_))
      have lt : l < s.heap.objs.size := Heap.lt_size g1
      have z1 : (s.heap.push (noneYet w)).objs.size = s.heap.objs.size + 1 := Heap.size_push ..
      have none1 : ∀ b, s.heap.objs.size ≤ b → s.heap.get? b = none := fun b hb => by
        cases q : s.heap.get? b with
        | none => rfl
        | some o => exact absurd (Nat.lt_of_lt_of_le (Heap.lt_size q) hb) (Nat.lt_irrefl _)
      refine setN_loop (A := A.in1.in1) (by simp [hh]) s.heap.objs.size l (s.heap.push (noneYet w)).objs.size (Nat.ne_of_gt lt) (by rw [z1]; exact Nat.ne_of_lt (Nat.lt_succ_self _)) (by rw [z1]; exact Nat.ne_of_lt (Nat.lt_succ_of_lt lt)) items ks few refs' size s.heap tups (none1 _ (Nat.le_refl _)) (none1 _ (by rw [z1]; exact Nat.le_succ _)) hu (ks.length - 0) 0 _ rfl (Nat.zero_le _)
        ⟨_, Heap.get?_push_size _ rfl, rfl, rfl⟩ (isl.push _) (fun b o e => Heap.get?_push_of_some _ (Heap.get?_push_of_some _ e)) ⟨[], #[], 0, _, setTR_fresh (Heap.get?_push_of_some _ hS), Got.zero ks⟩ fun h' tk L es ep t q1 q2 q3 => ?_
      show wpAny _ _ _ _ _ _
      refine wpAny_pure ?_
      show wpAny _ _ (ret Value.none) _ _ _
      exact wpAny_pure ⟨rfl, h', tk, L, es, ep, t, rfl, q1, q2, q3⟩
    · match r₂, hr₂ with
      | .error e, hr₂ => exact hr₂
      | .ok .next, hr₂ => exact hr₂.elim
      | .ok .brk, hr₂ => exact hr₂.elim
      | .ok .cont, hr₂ => exact hr₂.elim
      | .ok (.ret r), hr₂ =>
        obtain ⟨rfl, h', tk, L, es, ep, t, rfl, q1, q2, q3⟩ := hr₂
        repeat (any_goals (first | assumption | wp_step))
        exact k _ _ _ _ _ _ q1 q2 q3
end
section
variable {X : Cx}
def rSetN (K : PySem.W.Frag) (P : Program) (w : World) : List V → Hp → VK → Prop := fun xs H Q => ∃ (l : Addr) (ks : List (Addr × List Int)), xs = [V.ref l] ∧ SqL K H l (ks.map fun p => V.ref p.1) ∧ (∀ p ∈ ks, SqT K H p.1 (p.2.map V.int)) ∧ FewUnlike ks ∧
  ∀ a L, H a = none → (∀ p ∈ L, p ∈ ks) → (∀ p ∈ ks, p.2 ∈ L.map (·.2)) → Q (.ref a) (upd H a (SetTO P w a L))
theorem cr_setN (hc : X.calm = true) (hu : X.A.units + 64 < cLine) : CallR X (.type "set") (rSetN X.K X.prog X.w) := by
  intro pins s σ H xs us Q I r h
  obtain ⟨l, ks, rfl, hl, hk, few, q⟩ := h
  rw [Vals.ref1 r]
  obtain ⟨its, rv, pl, hz⟩ := I.list hl
  refine call_setN ks (I.ok.hd hc) pl.isList (by simpa using refs_of_vals rv) (fun p hp => I.isT (hk p hp)) few (by omega) fun h' tk L es ep t R g kp => ?_
  refine ⟨.ref s.heap.objs.size, upd H s.heap.objs.size (SetTO X.prog X.w s.heap.objs.size L), I.laid (t' := tk) kp (Nat.le_refl _) (setTO_new R.t0), rfl, ?_⟩
  exact q _ L (I.hok.fresh (Nat.le_refl _)) (fun p hp => List.mem_of_mem_take (g.sub p hp)) fun p hp => g.all p (by rw [List.take_length]; exact hp)
end
end RV
set_option maxHeartbeats 4000000
namespace RV
open PySem PySem.Spec PyProof.Rows L2
/-! ### heaps -/
theorem same_upd {H : Hp} {p : Addr} {o : HO} (h : H p = none) : Same H (upd H p o) := fun b x e => by
  rw [upd_ne (ne_of_none e h)]
  exact e
theorem sqT_same {K : PySem.W.Frag} {H H' : Hp} {a : Addr} {xs : List V} (e : Same H H') (h : SqT K H a xs) : SqT K H' a xs := SqT.ext h e
theorem sqL_same {K : PySem.W.Frag} {H H' : Hp} {a : Addr} {xs : List V} (e : Same H H') (h : SqL K H a xs) : SqL K H' a xs := SqL.ext h e
theorem tyT {K : PySem.W.Frag} {H : Hp} {a : Addr} {xs : List V} (h : SqT K H a xs) : TyX K H (.ref a) (.type "tuple") := by
  rcases h with (h | ⟨o, h⟩) | ⟨o, its, n, h1, h2, _⟩
  · exact .base (.tup h)
  · exact .fTuple h
  · exact .kTuple h1 h2
theorem tupNew {K : PySem.W.Frag} {H : Hp} {a : Addr} {xs : List V} (h : H a = some (.tup xs)) : SqT K H a xs := .inl (.inl h)
theorem lstNew {K : PySem.W.Frag} {H : Hp} {a : Addr} {xs : List V} (h : H a = some (.lst xs)) : SqL K H a xs := .inl (.inl h)
theorem walk_enT {K : PySem.W.Frag} {a : Addr} {xs : List V} : Walk (IteT K a) xs.length (fun H => SqT K H a xs) (YPair (fun i => some (.int (i : Nat))) (fun i => xs[i]?)) := by
  refine ⟨fun i _ hi q => ⟨xs, xs[i], q, by simp [hi]⟩, fun _ q => ⟨xs, q, Nat.le_refl _⟩, fun i H v H' _ q y => ?_⟩
  obtain ⟨T, x, h1, h2, h3, h4⟩ := y
  exact ⟨T, .int (i : Nat), x, h1, h2, h3, rfl, h4 xs q⟩
theorem walk_zipT {K : PySem.W.Frag} {a b : Addr} {xs ys : List V} {n : Nat} (hn : n = min xs.length ys.length) : Walk (RZ.ItzT K a b) n (fun H => SqT K H a xs ∧ SqT K H b ys) (YPair (fun i => xs[i]?) (fun i => ys[i]?)) := by
  subst hn
  refine ⟨fun i _ hi q => ⟨xs, ys, xs[i]'(by omega), ys[i]'(by omega), q.1, q.2, List.getElem?_eq_getElem _, List.getElem?_eq_getElem _⟩, fun _ q => ⟨xs, ys, q.1, q.2, by omega⟩, fun i H v H' _ q y => ?_⟩
  obtain ⟨T, x, z, h1, h2, h3, h4, h5⟩ := y
  exact ⟨T, x, z, h1, h2, h3, h4 xs q.1, h5 ys q.2⟩
/-- a tuple of tuples of ints -/
def Tups (K : PySem.W.Frag) (H : Hp) (a : Addr) (ps : List (List Int)) : Prop := ∃ ks : List (Addr × List Int), ks.map (·.2) = ps ∧ SqT K H a (ks.map fun p => V.ref p.1) ∧ ∀ p ∈ ks, SqT K H p.1 (p.2.map V.int)
/-- a list of tuples of ints -/
def Lots (K : PySem.W.Frag) (H : Hp) (a : Addr) (ps : List (List Int)) : Prop := ∃ ks : List (Addr × List Int), ks.map (·.2) = ps ∧ SqL K H a (ks.map fun p => V.ref p.1) ∧ ∀ p ∈ ks, SqT K H p.1 (p.2.map V.int)
theorem Tups.same {K : PySem.W.Frag} {H H' : Hp} {a : Addr} {ps : List (List Int)} (h : Tups K H a ps) (e : Same H H') : Tups K H' a ps :=
  let ⟨ks, h1, h2, h3⟩ := h; ⟨ks, h1, sqT_same e h2, fun p hp => sqT_same e (h3 p hp)⟩
theorem Lots.same {K : PySem.W.Frag} {H H' : Hp} {a : Addr} {ps : List (List Int)} (h : Lots K H a ps) (e : Same H H') : Lots K H' a ps :=
  let ⟨ks, h1, h2, h3⟩ := h; ⟨ks, h1, sqL_same e h2, fun p hp => sqT_same e (h3 p hp)⟩
theorem dpInts {K : PySem.W.Frag} {H : Hp} : ∀ ns : List Int, DpAll K H (ns.map V.int) (ns.map PyData.int)
  | [] => .nil
  | n :: r => .cons (.int n) (dpInts r)
def dI (ns : List Int) : PyData := .tuple (ns.map PyData.int)
def dTT (ps : List (List Int)) : PyData := .tuple (ps.map dI)
theorem dpT {K : PySem.W.Frag} {H : Hp} {a : Addr} {ns : List Int} (h : SqT K H a (ns.map V.int)) : Dp K H (.ref a) (dI ns) := .tup h (dpInts ns)
theorem dpTs {K : PySem.W.Frag} {H : Hp} : ∀ ks : List (Addr × List Int), (∀ p ∈ ks, SqT K H p.1 (p.2.map V.int)) → DpAll K H (ks.map fun p => V.ref p.1) ((ks.map (·.2)).map dI)
  | [], _ => .nil
  | p :: r, h => .cons (dpT (h p (List.mem_cons_self ..))) (dpTs r fun q hq => h q (List.mem_cons_of_mem _ hq))
theorem Tups.dp {K : PySem.W.Frag} {H : Hp} {a : Addr} {ps : List (List Int)} (h : Tups K H a ps) : Dp K H (.ref a) (dTT ps) := by
  obtain ⟨ks, rfl, h2, h3⟩ := h
  exact .tup h2 (dpTs ks h3)
theorem map_at {α β : Type} {f : α → β} {l : List α} {i : Nat} {y : β} (h : (l.map f)[i]? = some y) : ∃ x, l[i]? = some x ∧ y = f x := by
  rw [List.getElem?_map] at h
  cases e : l[i]? with
  | none => rw [e] at h; cases h
  | some x => rw [e] at h; exact ⟨x, rfl, (Option.some.inj h).symm⟩
theorem all_true : ∀ n : Nat, (List.replicate n true).all id = true
  | 0 => rfl
  | n + 1 => by rw [List.replicate_succ, List.all_cons, all_true n]; rfl
theorem rep_bl (n : Nat) : List.replicate n (V.bl true) = (List.replicate n true).map V.bl := by rw [List.map_replicate]
theorem rep_next {α : Type} (n : Nat) (x : α) : List.replicate n x ++ [x] = List.replicate (n + 1) x := by rw [List.replicate_succ', ]
theorem tt_yes {σ : L2.St} {H : Hp} {A B : Hp → Prop} (h : A H) : tYes σ H (fun b H3 => if b = true then A H3 else B H3) := iteT (A := A H) (B := B H) h
theorem un65 {k : Nat} {A : Around} (r : Room k A) : A.units + 65 < cLine := by have := r.un; omega
theorem few1 {n : Nat} (h : n ≤ 1000) : n < sizeLine := small1000 h
/-! ### data of ints, tuples of these -/
theorem lay_ints : ∀ ns : List Int, PyData.canLayAll0 (ns.map PyData.int) = true
  | [] => by simp [PyData.canLayAll0]
  | n :: r => by simp [PyData.canLayAll0, PyData.canLay0, lay_ints r]
theorem dep_ints : ∀ ns : List Int, PyData.depthAll (ns.map PyData.int) = 0
  | [] => by simp [PyData.depthAll]
  | n :: r => by simp [PyData.depthAll, PyData.depth, dep_ints r]
theorem dI_lay (ns : List Int) : (dI ns).canLay0 = true := by simp only [dI, PyData.canLay0]; exact lay_ints ns
theorem dI_dep (ns : List Int) : (dI ns).depth = 1 := by simp only [dI, PyData.depth, dep_ints]
theorem lay_dI : ∀ ps : List (List Int), PyData.canLayAll0 (ps.map dI) = true
  | [] => by simp [PyData.canLayAll0]
  | n :: r => by simp [PyData.canLayAll0, dI_lay, lay_dI r]
theorem dep_dI : ∀ ps : List (List Int), PyData.depthAll (ps.map dI) ≤ 1
  | [] => by simp [PyData.depthAll]
  | n :: r => by
    have h := dep_dI r
    simp only [List.map_cons, PyData.depthAll, dI_dep]
    omega
theorem shapedI (ns : List Int) : SeqAt.shaped (dI ns) = true := by
  show ((dI ns).canLay0 && decide ((dI ns).depth ≤ 64)) = true
  rw [dI_lay, dI_dep]; rfl
theorem shapedTT (ps : List (List Int)) : SeqAt.shaped (dTT ps) = true := by
  have h := dep_dI ps
  have e : (dTT ps).depth ≤ 64 := by simp only [dTT, PyData.depth]; omega
  show ((dTT ps).canLay0 && decide ((dTT ps).depth ≤ 64)) = true
  rw [decide_eq_true e, Bool.and_true]
  simp only [dTT, PyData.canLay0]; exact lay_dI ps
theorem eqv_ints : ∀ ns ms : List Int, PyData.eqvAll (ns.map PyData.int) (ms.map PyData.int) = decide (ns = ms)
  | [], [] => by simp [PyData.eqvAll]
  | [], m :: r => by simp [PyData.eqvAll]
  | n :: r, [] => by simp [PyData.eqvAll]
  | n :: r, m :: q => by
    have h := eqv_ints r q
    simp only [List.map_cons, PyData.eqvAll, PyData.eqv, h]
    by_cases e : n = m
    · subst e; by_cases e2 : r = q <;> simp [e2]
    · simp [e]
theorem eqvI (ns ms : List Int) : PyData.eqv (dI ns) (dI ms) = decide (ns = ms) := by simp only [dI, PyData.eqv, eqv_ints]
theorem eqv_dIs : ∀ ns ms : List (List Int), PyData.eqvAll (ns.map dI) (ms.map dI) = decide (ns = ms)
  | [], [] => by simp [PyData.eqvAll]
  | [], m :: r => by simp [PyData.eqvAll]
  | n :: r, [] => by simp [PyData.eqvAll]
  | n :: r, m :: q => by
    have h := eqv_dIs r q
    simp only [List.map_cons, PyData.eqvAll, eqvI, h]
    by_cases e : n = m
    · subst e; by_cases e2 : r = q <;> simp [e2]
    · simp [e]
theorem eqvTT (ns ms : List (List Int)) : PyData.eqv (dTT ns) (dTT ms) = decide (ns = ms) := by simp only [dTT, PyData.eqv, eqv_dIs]
theorem any_dI (p : List Int) : ∀ ps : List (List Int), (ps.map dI).any (fun y => PyData.eqv y (dI p)) = decide (p ∈ ps)
  | [] => rfl
  | q :: r => by
    rw [List.map_cons, List.any_cons, any_dI p r, eqvI]
    by_cases e : q = p
    · subst e; simp
    · have e' : ¬ p = q := fun z => e z.symm
      by_cases e2 : p ∈ r <;> simp [e, e', e2]
section
variable {X : Cx}
/-- t in ts, of tuples of ints -/
def rInTs (K : PySem.W.Frag) : R2 := fun x y H Q => ∃ (a b : Addr) (p : List Int) (ps : List (List Int)), x = .ref a ∧ y = .ref b ∧ SqT K H a (p.map V.int) ∧ Tups K H b ps ∧ Q (.bl (decide (p ∈ ps))) H
theorem op_inTs (hu : X.A.units + 65 < cLine) : OpR X (compareOp .In) (rInTs X.K) := by
  intro pins s σ H x y v u Q I rx ry h
  obtain ⟨a, b, p, ps, rfl, rfl, h1, h2, q⟩ := h
  obtain ⟨as, r1⟩ := Dp.reads I (dI p) (.ref a) v (dpT h1) rx
  obtain ⟨bs, r2⟩ := Dp.reads I (dTT ps) (.ref b) u h2.dp ry
  refine SeqAt.in_tuple_reads (xs := ps.map dI) r2 r1 (lay_dI ps) (dI_lay p) ?_ ⟨.bl _, H, I, rfl, ?_⟩
  · have := Nat.min_le_right (PyData.depthAll (ps.map dI)) (dI p).depth
    have e := dI_dep p
    omega
  · rw [any_dI]; exact q
/-- two tuples of ints, two tuples of tuples of ints compared -/
def rEqI1 (K : PySem.W.Frag) : R2 := fun x y H Q => ∃ (a b : Addr) (p q : List Int), x = .ref a ∧ y = .ref b ∧ SqT K H a (p.map V.int) ∧ SqT K H b (q.map V.int) ∧ Q (.bl (decide (p = q))) H
def rEqTs (K : PySem.W.Frag) : R2 := fun x y H Q => ∃ (a b : Addr) (p q : List (List Int)), x = .ref a ∧ y = .ref b ∧ Tups K H a p ∧ Tups K H b q ∧ Q (.bl (decide (p = q))) H
theorem op_eqI1 (hu : X.A.units + 64 < cLine) : OpR X (compareOp .Eq) (rEqI1 X.K) := by
  intro pins s σ H x y v u Q I rx ry h
  obtain ⟨a, b, p, ps, rfl, rfl, h1, h2, q⟩ := h
  refine op_eqD hu pins s σ H _ _ v u Q I rx ry ⟨dI p, dI ps, dpT h1, dpT h2, shapedI p, shapedI ps, ?_⟩
  rw [eqvI]; exact q
theorem op_eqTs (hu : X.A.units + 64 < cLine) : OpR X (compareOp .Eq) (rEqTs X.K) := by
  intro pins s σ H x y v u Q I rx ry h
  obtain ⟨a, b, p, ps, rfl, rfl, h1, h2, q⟩ := h
  refine op_eqD hu pins s σ H _ _ v u Q I rx ry ⟨dTT p, dTT ps, h1.dp, h2.dp, shapedTT p, shapedTT ps, ?_⟩
  rw [eqvTT]; exact q
end
section
variable {X : Cx} {K : PySem.W.Frag}
/-! the rules whose reading names the written part, for a comprehension's block -/
theorem ix_tupK (h : X.K = K) : IxR X (rIxT K) := h ▸ ix_tup
theorem pg_tupK {es : List Expr} {k : Nat} {t : TGs} {n : Nat} {pos : Pos} (h : X.K = K) (hc : X.calm = true) (hg : PGs X es t)
    (hn : (assignEach es X.env).length = n := by rfl) (hst : (assignEach es X.env).findIdx? (·.1) = none := by rfl) : PG X (.Tuple es k pos) (gTup K n t) := h ▸ pg_tup hc hg hn hst
theorem op_inTsK (h : X.K = K) (hu : X.A.units + 65 < cLine) : OpR X (compareOp .In) (rInTs K) := h ▸ op_inTs hu
theorem op_ltTK (h : X.K = K) (hu : X.A.units < cLine) : OpR X (compareOp .Lt) (rLtT K) := h ▸ op_ltT hu
def rLenS (K : PySem.W.Frag) : List V → Hp → VK → Prop := fun xs H Q => ∃ p ys, xs = [.ref p] ∧ (SqL K H p ys ∨ SqT K H p ys) ∧ Q (.int ys.length) H
theorem call_lenK (h : X.K = K) : CallR X (.builtin "len") (rLenS K) := h ▸ call_len_seq
end
end RV
set_option maxHeartbeats 4000000
/-! numbers and words written as texts -/
namespace RV
open PySem PySem.Spec PyProof.Rows L2 TL
/-- the text of a number -/
def num (n : Nat) : Str := Str.ofString (toString ((n : Nat) : Int))
theorem tl_nm (n : Nat) : tl (num n) = numL n := tl_num n
theorem num_of {x : Int} (h : 0 ≤ x) : (V.str (toString x)) = V.str (num x.toNat) := by
  have e : x = ((x.toNat : Nat) : Int) := by omega
  rw [e]
  rfl
theorem num_one {n : Nat} (h : n < 10) : tl (num n) = [48 + n] := by rw [tl_nm, numL_lt h]
theorem num_pos (n : Nat) : 0 < (num n).length := by
  rw [len_tl, tl_nm]
  exact List.length_pos_iff.mpr (numL_ne n)
theorem num_len {n : Nat} (h : n < 10 ^ 30) : (num n).length ≤ 30 := by
  rw [len_tl, tl_nm]
  exact numL_len (by decide) h
theorem num_two {n : Nat} (h : 1 < (num n).length) : 10 ≤ n := by
  rw [len_tl, tl_nm] at h
  by_cases e : n < 10
  · rw [numL_lt e] at h; simp at h
  · omega
theorem numL_head : ∀ (n : Nat), 1 ≤ n → ∃ c r, numL n = c :: r ∧ c ≠ 48 := by
  intro n
  induction n using Nat.strongRecOn with
  | _ n ih =>
    intro h
    by_cases e : n < 10
    · rw [numL_lt e]
      exact ⟨48 + n, [], rfl, by omega⟩
    · obtain ⟨c, r, e1, e2⟩ := ih (n / 10) (by omega) (by omega)
      rw [numL_step (by omega), e1]
      exact ⟨c, r ++ [48 + n % 10], rfl, e2⟩
theorem num_log {n : Nat} (h : n < 10 ^ 30) : ((n : Nat) : Int).natAbs.log2 < 1920 := by
  show n.log2 < 1920
  by_cases e : n = 0
  · subst e; decide
  · rw [Nat.log2_lt e]
    exact Nat.lt_of_lt_of_le h (by decide)
theorem num_int {n : Nat} (h : n < 10 ^ 30) : PySem.intText? (num n) = some (n : Int) := by
  refine int_num ?_
  have := num_len h
  rw [len_tl, tl_nm] at this
  omega
theorem num_sign {n c : Nat} (h : c ∈ tl (num n)) : c ∈ tl (Str.ofString "0123456789") := by
  rw [tl_nm] at h
  have hc := numL_digits n c h
  have e : tl (Str.ofString "0123456789") = [48, 49, 50, 51, 52, 53, 54, 55, 56, 57] := by rw [tl_ofString]; decide
  rw [e]
  have h0 : 48 ≤ c := hc.1
  have h1 : c ≤ 57 := hc.2
  have : c = 48 ∨ c = 49 ∨ c = 50 ∨ c = 51 ∨ c = 52 ∨ c = 53 ∨ c = 54 ∨ c = 55 ∨ c = 56 ∨ c = 57 := by omega
  simp only [List.mem_cons, List.mem_nil_iff, or_false, List.not_mem_nil]
  exact this
theorem num_free {n s : Nat} (h : s < 48 ∨ 57 < s) : s ∉ tl (num n) := by rw [tl_nm]; exact numL_free h
theorem num_inj {m n : Nat} (h : num m = num n) : m = n := numL_inj (by rw [← tl_nm, ← tl_nm, h])
/-! ### words put together -/
theorem joinL_len (S : List Nat) : ∀ l : List (List Nat), (joinL S l).length ≤ (l.map List.length).sum + l.length * S.length
  | [] => by simp [joinL]
  | [p] => by simp [joinL]
  | p :: q :: r => by
    have h := joinL_len S (q :: r)
    have e : joinL S (p :: q :: r) = p ++ (S ++ joinL S (q :: r)) := rfl
    rw [e, List.length_append, List.length_append]
    simp only [List.map_cons, List.sum_cons, List.length_cons, Nat.add_mul, Nat.one_mul] at h ⊢
    omega
theorem join_len (y : Str) (l : List Str) : (Str.join y l).length ≤ (l.map (·.length)).sum + l.length * y.length := by
  have h := joinL_len (tl y) (l.map tl)
  rw [len_tl, tl_join]
  rw [List.map_map, List.length_map] at h
  have e : List.map (List.length ∘ tl) l = l.map (·.length) := List.map_congr_left fun x _ => (len_tl x).symm
  rw [e, ← len_tl] at h
  exact h
theorem sum_le {l : List Str} {k : Nat} (h : ∀ x ∈ l, x.length ≤ k) : (l.map (·.length)).sum ≤ l.length * k := by
  induction l with
  | nil => simp
  | cons a r ih =>
    have h1 := h a (List.mem_cons_self ..)
    have h2 := ih fun x hx => h x (List.mem_cons_of_mem _ hx)
    simp only [List.map_cons, List.sum_cons, List.length_cons, Nat.add_mul, Nat.one_mul]
    omega
theorem join_short {y : Str} {l : List Str} {k m : Nat} (h : ∀ x ∈ l, x.length ≤ k) (hm : l.length ≤ m) : (Str.join y l).length ≤ m * (k + y.length) := by
  have h1 := join_len y l
  have h2 := sum_le h
  have h3 : l.length * k + l.length * y.length = l.length * (k + y.length) := by rw [Nat.mul_add]
  have h4 : l.length * (k + y.length) ≤ m * (k + y.length) := Nat.mul_le_mul_right _ hm
  omega
theorem join_room {y : Str} {l : List Str} {k m : Nat} (h : ∀ x ∈ l, x.length ≤ k) (hm : l.length ≤ m) (hz : m * (k + y.length) ≤ 16777216) : (l.map (·.length)).sum + l.length * y.length ≤ 16777216 := by
  have h2 := sum_le h
  have h3 : l.length * k + l.length * y.length = l.length * (k + y.length) := by rw [Nat.mul_add]
  have h4 : l.length * (k + y.length) ≤ m * (k + y.length) := Nat.mul_le_mul_right _ hm
  omega
/-- a row of a word and numbers -/
def rowW (w : Str) (p : List Int) : List Str := w :: p.map fun x => num x.toNat
def sp1 : Str := Str.ofString " "
def nl1 : Str := Str.ofString "\n"
theorem tl_sp : tl sp1 = [32] := by unfold sp1; rw [tl_ofString]; decide
theorem tl_nl : tl nl1 = [10] := by unfold nl1; rw [tl_ofString]; decide
theorem row3 (w : Str) (x y : Int) : tl (Str.join sp1 (rowW w [x, y])) = tl w ++ (32 :: (numL x.toNat ++ (32 :: numL y.toNat))) := by
  rw [tl_join, tl_sp]
  show joinL [32] [tl w, tl (num x.toNat), tl (num y.toNat)] = _
  rw [tl_nm, tl_nm]
  rfl
theorem row2 (w : Str) (n : Nat) : tl (Str.join sp1 [w, num n]) = tl w ++ (32 :: numL n) := by
  rw [tl_join, tl_sp]
  show joinL [32] [tl w, tl (num n)] = _
  rw [tl_nm]
  rfl
theorem mem_joinL {s : Nat} {S : List Nat} (hS : s ∉ S) : ∀ l : List (List Nat), (∀ p ∈ l, s ∉ p) → s ∉ joinL S l
  | [], _ => by simp [joinL]
  | [p], h => h p (List.mem_cons_self ..)
  | p :: q :: r, h => by
    have h1 := mem_joinL hS (q :: r) fun x hx => h x (List.mem_cons_of_mem _ hx)
    have h2 := h p (List.mem_cons_self ..)
    have e : joinL S (p :: q :: r) = p ++ (S ++ joinL S (q :: r)) := rfl
    rw [e, List.mem_append, List.mem_append]
    rintro (z | z | z)
    · exact h2 z
    · exact hS z
    · exact h1 z
theorem mem_join {s : Nat} {y : Str} {l : List Str} (hS : s ∉ tl y) (h : ∀ x ∈ l, s ∉ tl x) : s ∉ tl (Str.join y l) := by
  rw [tl_join]
  refine mem_joinL hS _ fun p hp => ?_
  obtain ⟨x, hx, rfl⟩ := List.mem_map.mp hp
  exact h x hx
end RV
set_option maxHeartbeats 4000000
namespace RV
open PySem PySem.Spec PyProof.Rows L2
theorem nx_step {i : Nat} {v : V} {σ : L2.St} {H : Hp} {G : L2.St → Hp → Prop} (h : G (σ.set i (some v)) H) : gName i v σ H G := h
theorem seq_mid {t1 t2 : TS} {D : Ends} {σ : L2.St} {H : Hp} (J : L2.St → Hp → Prop) (h2 : ∀ σ H, J σ H → t2 D σ H) (h1 : (∀ σ H, J σ H → t2 D σ H) → tSeq t1 t2 D σ H) : tSeq t1 t2 D σ H := h1 h2
section
variable {X : Cx} {K : PySem.W.Frag}
theorem op_notInDK (h : X.K = K) (hu : X.A.units + 65 < cLine) : OpR X (compareOp .NotIn) (rNotInD K) := h ▸ op_notInD hu
theorem pe_backTK {e : Expr} {te : TE} {k : Nat} {p1 p2 p3 pos : Pos} (h : X.K = K) (he : PE X e te) : PE X (.Subscript e (.Slice none none (some (.UnaryOp .USub (.Constant (.int 1) k p1) p2)) p3) pos) (tBackT K te) := h ▸ pe_backT he
end
section
variable {X : Cx} {K : PySem.W.Frag}
theorem op_inDK (h : X.K = K) (hu : X.A.units + 65 < cLine) : OpR X (compareOp .In) (rInD K) := h ▸ op_inD hu
theorem ix_listK (h : X.K = K) : IxR X (rIxL K) := h ▸ ix_list
end
theorem take_filt {α : Type} {c : α → Bool} {ks : List α} {k : α} {i : Nat} (g : ks[i]? = some k) : (ks.take (i + 1)).filter c = (ks.take i).filter c ++ (if c k = true then [k] else []) := by
  rw [List.take_add_one, g]
  show (ks.take i ++ [k]).filter c = _
  rw [List.filter_append]
  by_cases e : c k = true
  · rw [if_pos e]; simp [e]
  · rw [if_neg e]; simp [e]
section
variable {K : PySem.W.Frag} {tt : TT} {te : TE} {f : Int → Bool} {σ : L2.St} {H1 : Hp} {a D : Addr} {v : Nat} {ns : List Int} {Qd : Hp → Prop}
/-- [x for x in t if ..], t a tuple of ints -/
theorem lc_filtT (hT : SqT K H1 a (ns.map V.int)) (hl : ns.length ≤ 1000) (nD : H1 D = none)
    (htest : ∀ x ∈ ns, ∀ H', Same H1 H' → ∀ A B : Hp → Prop, (∀ H2, Same H' H2 → if f x = true then A H2 else B H2) → tt ((wipe σ [v]).set v (some (.int x))) H' (fun b H3 => if b = true then A H3 else B H3))
    (hte : ∀ (x : Int) (H' : Hp) (Q : VK), Q (.int x) H' → te ((wipe σ [v]).set v (some (.int x))) H' Q)
    (hd : ∀ H', Same H1 H' → H' D = some (.lst ((ns.filter f).map V.int)) → Qd H') :
    ∃ W : Nat → Nat → Hp → Prop, (∃ m, W 0 m (upd H1 D (.lst []))) ∧ ∀ i m H, W i m H →
      ((Itt K a).stop i H ∧ Qd H) ∨ ((Itt K a).go i H ∧ ∃ Nx : Hp → Prop, (∀ H', Nx H' → ∃ m', m' < m ∧ W (i + 1) m' H') ∧ ∀ x H', (Itt K a).yld i H x H' → gName v x (wipe σ [v]) H' fun σ2 H2 => wipe σ2 [v] = wipe σ [v] ∧ tt σ2 H2 fun b H3 =>
        if b = true then te σ2 H3 fun y H4 => ∃ acc, H4 D = some (.lst acc) ∧ acc.length < sizeLine ∧ Nx (upd H4 D (.lst (acc ++ [y]))) else Nx H3) := by
  refine lc_tup (K := K) (a := a) (xs := ns.map V.int) (fun i H' => Same H1 H' ∧ H' D = some (.lst (((ns.take i).filter f).map V.int))) ⟨same_upd nD, upd_same⟩ (fun i H' _ p => sqT_same p.1 hT) (fun i x H' hx p => ?_) fun H' p => ?_
  · obtain ⟨k, g, rfl⟩ := map_at hx
    refine ⟨by simp [wipe, List.set_set], htest k (List.mem_of_getElem? g) H' p.1 _ _ fun H2 s2 => ?_⟩
    have s12 := p.1.trans s2
    have e2 := s2 _ _ p.2
    by_cases e : f k = true
    · rw [if_pos e]
      refine hte k H2 _ ⟨_, e2, ?_, fun b o z => ?_, ?_⟩
      · rw [List.length_map]
        exact few1 (Nat.le_trans (List.length_filter_le _ _) (by rw [List.length_take]; omega))
      · rw [upd_ne (ne_of_none z nD)]; exact s12 b o z
      · rw [upd_same, take_filt g, if_pos e, List.map_append]; rfl
    · rw [if_neg e]
      exact ⟨s12, by rw [take_filt g, if_neg e, List.append_nil]; exact e2⟩
  · rw [List.length_map, List.take_of_length_le (Nat.le_refl _)] at p
    exact hd H' p.1 p.2
/-- [x for x in l if ..], l a list of ints -/
theorem lc_filtL (hT : SqL K H1 a (ns.map V.int)) (hl : ns.length ≤ 1000) (nD : H1 D = none)
    (htest : ∀ x ∈ ns, ∀ H', Same H1 H' → ∀ A B : Hp → Prop, (∀ H2, Same H' H2 → if f x = true then A H2 else B H2) → tt ((wipe σ [v]).set v (some (.int x))) H' (fun b H3 => if b = true then A H3 else B H3))
    (hte : ∀ (x : Int) (H' : Hp) (Q : VK), Q (.int x) H' → te ((wipe σ [v]).set v (some (.int x))) H' Q)
    (hd : ∀ H', Same H1 H' → H' D = some (.lst ((ns.filter f).map V.int)) → Qd H') :
    ∃ W : Nat → Nat → Hp → Prop, (∃ m, W 0 m (upd H1 D (.lst []))) ∧ ∀ i m H, W i m H →
      ((Itl K a).stop i H ∧ Qd H) ∨ ((Itl K a).go i H ∧ ∃ Nx : Hp → Prop, (∀ H', Nx H' → ∃ m', m' < m ∧ W (i + 1) m' H') ∧ ∀ x H', (Itl K a).yld i H x H' → gName v x (wipe σ [v]) H' fun σ2 H2 => wipe σ2 [v] = wipe σ [v] ∧ tt σ2 H2 fun b H3 =>
        if b = true then te σ2 H3 fun y H4 => ∃ acc, H4 D = some (.lst acc) ∧ acc.length < sizeLine ∧ Nx (upd H4 D (.lst (acc ++ [y]))) else Nx H3) := by
  refine lc_list (K := K) (a := a) (xs := ns.map V.int) (fun i H' => Same H1 H' ∧ H' D = some (.lst (((ns.take i).filter f).map V.int))) ⟨same_upd nD, upd_same⟩ (fun i H' _ p => sqL_same p.1 hT) (fun i x H' hx p => ?_) fun H' p => ?_
  · obtain ⟨k, g, rfl⟩ := map_at hx
    refine ⟨by simp [wipe, List.set_set], htest k (List.mem_of_getElem? g) H' p.1 _ _ fun H2 s2 => ?_⟩
    have s12 := p.1.trans s2
    have e2 := s2 _ _ p.2
    by_cases e : f k = true
    · rw [if_pos e]
      refine hte k H2 _ ⟨_, e2, ?_, fun b o z => ?_, ?_⟩
      · rw [List.length_map]
        exact few1 (Nat.le_trans (List.length_filter_le _ _) (by rw [List.length_take]; omega))
      · rw [upd_ne (ne_of_none z nD)]; exact s12 b o z
      · rw [upd_same, take_filt g, if_pos e, List.map_append]; rfl
    · rw [if_neg e]
      exact ⟨s12, by rw [take_filt g, if_neg e, List.append_nil]; exact e2⟩
  · rw [List.length_map, List.take_of_length_le (Nat.le_refl _)] at p
    exact hd H' p.1 p.2
end
/-! ### x in l, of ints -/
theorem dpL {K : PySem.W.Frag} {H : Hp} {a : Addr} {ns : List Int} (h : SqL K H a (ns.map V.int)) : Dp K H (.ref a) (.list (ns.map PyData.int)) := .lst h (dpInts ns)
theorem shapedLI (ns : List Int) : SeqAt.shaped (.list (ns.map PyData.int)) = true := by
  have h1 : (PyData.list (ns.map PyData.int)).canLay0 = true := by simp only [PyData.canLay0]; exact lay_ints ns
  have h2 : (PyData.list (ns.map PyData.int)).depth ≤ 64 := by simp only [PyData.depth, dep_ints]; omega
  show ((PyData.list (ns.map PyData.int)).canLay0 && decide ((PyData.list (ns.map PyData.int)).depth ≤ 64)) = true
  rw [h1, decide_eq_true h2]; rfl
theorem shapedN (n : Int) : SeqAt.shaped (.int n) = true := by
  show ((PyData.int n).canLay0 && decide ((PyData.int n).depth ≤ 64)) = true
  simp [PyData.canLay0, PyData.depth]
theorem any_int (x : Int) : ∀ ns : List Int, (ns.map PyData.int).any (fun y => PyData.eqv y (.int x)) = decide (x ∈ ns)
  | [] => rfl
  | n :: r => by
    rw [List.map_cons, List.any_cons, any_int x r]
    by_cases e : x = n
    · subst e; simp [PyData.eqv]
    · have e' : ¬ n = x := fun z => e z.symm
      by_cases e2 : x ∈ r <;> simp [PyData.eqv, e, e', e2]
section
variable {X : Cx}
/-- n in t, t a tuple of ints -/
def rInTI (K : PySem.W.Frag) : R2 := fun x y H Q => ∃ (b : Addr) (n : Int) (ns : List Int), x = .int n ∧ y = .ref b ∧ SqT K H b (ns.map V.int) ∧ Q (.bl (decide (n ∈ ns))) H
theorem op_inTI (hu : X.A.units + 65 < cLine) : OpR X (compareOp .In) (rInTI X.K) := by
  intro pins s σ H x y v u Q I rx ry h
  obtain ⟨b, n, ns, rfl, rfl, h2, q⟩ := h
  obtain ⟨as, r1⟩ := Dp.reads I (.int n) (.int n) v (.int n) rx
  obtain ⟨bs, r2⟩ := Dp.reads I (dI ns) (.ref b) u (dpT h2) ry
  refine SeqAt.in_tuple_reads (xs := ns.map PyData.int) r2 r1 (lay_ints ns) (by simp [PyData.canLay0]) ?_ ⟨.bl _, H, I, rfl, ?_⟩
  · have := Nat.min_le_right (PyData.depthAll (ns.map PyData.int)) (PyData.int n).depth
    have e : (PyData.int n).depth = 0 := by simp [PyData.depth]
    omega
  · rw [any_int]; exact q
theorem op_inTIK {K : PySem.W.Frag} (h : X.K = K) (hu : X.A.units + 65 < cLine) : OpR X (compareOp .In) (rInTI K) := h ▸ op_inTI hu
end
end RV
namespace RV
open PySem L2
/-! ### lists that rise -/
theorem sorted_eq {α : Type} {f : α → Int} : ∀ {l l' : List α}, l.Pairwise (fun a b => f a < f b) → l'.Pairwise (fun a b => f a < f b) → (∀ x, x ∈ l ↔ x ∈ l') → l = l'
  | [], [], _, _, _ => rfl
  | [], y :: r, _, _, h => nomatch (h y).mpr (List.mem_cons_self ..)
  | x :: r, [], _, _, h => nomatch (h x).mp (List.mem_cons_self ..)
  | x :: l, y :: l', h1, h2, h => by
    rw [List.pairwise_cons] at h1 h2
    have exy : x = y := by
      rcases List.mem_cons.mp ((h x).mp (List.mem_cons_self ..)) with e | e
      · exact e
      · rcases List.mem_cons.mp ((h y).mpr (List.mem_cons_self ..)) with e' | e'
        · exact e'.symm
        · have := h2.1 x e
          have := h1.1 y e'
          omega
    subst exy
    rw [sorted_eq h1.2 h2.2 fun z => ⟨fun hz => ?_, fun hz => ?_⟩]
    · rcases List.mem_cons.mp ((h z).mp (List.mem_cons_of_mem _ hz)) with e | e
      · have := h1.1 z hz
        rw [e] at this; omega
      · exact e
    · rcases List.mem_cons.mp ((h z).mpr (List.mem_cons_of_mem _ hz)) with e | e
      · have := h2.1 z hz
        rw [e] at this; omega
      · exact e
theorem nodup_le {α : Type} [DecidableEq α] : ∀ {l us : List α}, l.Nodup → (∀ x ∈ l, x ∈ us) → l.length ≤ us.length
  | [], _, _, _ => Nat.zero_le _
  | x :: l, us, h, hs => by
    rw [List.nodup_cons] at h
    have hx := hs x (List.mem_cons_self ..)
    have ih : l.length ≤ (us.erase x).length := nodup_le h.2 fun z hz => by
      refine (List.mem_erase_of_ne fun e => ?_).mpr (hs z (List.mem_cons_of_mem _ hz))
      subst e; exact h.1 hz
    have hl := List.length_erase_of_mem hx
    have hp : 0 < us.length := List.length_pos_of_mem hx
    rw [List.length_cons]; omega
/-! ### pairs -/
/-- a pair of marks below b -/
def Pr (b : Int) (p : List Int) : Prop := ∃ x y : Int, p = [x, y] ∧ (0 ≤ x ∧ x < b) ∧ (0 ≤ y ∧ y < b)
abbrev cd (p : List Int) : Int := TS.code 64 p
theorem cd_pair (x y : Int) : cd [x, y] = x * 64 + y := code_pair x y
theorem lt_lex {p q : List Int} (hp : Pr 64 p) (hq : Pr 64 q) (h : cd p < cd q) : HT.lexLt p q = true := by
  obtain ⟨x, y, rfl, hx, hy⟩ := hp
  obtain ⟨x', y', rfl, hx', hy'⟩ := hq
  rw [cd_pair, cd_pair] at h
  rw [HT.lexLt_cons, HT.lexLt_cons, HT.lexLt_nil_nil]
  by_cases e : x = x'
  · rw [if_pos e]
    have : y < y' := by omega
    rw [if_neg (by omega)]; exact decide_eq_true this
  · rw [if_neg e]; exact decide_eq_true (by omega)
theorem lt_of {p q : List Int} (hp : Pr 64 p) (hq : Pr 64 q) (h : cd p ≤ cd q) (ne : p ≠ q) : cd p < cd q := by
  obtain ⟨x, y, rfl, hx, hy⟩ := hp
  obtain ⟨x', y', rfl, hx', hy'⟩ := hq
  have z := pair_lt h ne hx hy hx' hy'
  rw [cd_pair, cd_pair]
  omega
theorem Pr.mono {b c : Int} {p : List Int} (h : Pr b p) (hbc : b ≤ c) : Pr c p := by
  obtain ⟨x, y, e, hx, hy⟩ := h
  exact ⟨x, y, e, by omega, by omega⟩
theorem sorted_lt {l : List (List Int)} (hb : ∀ p ∈ l, Pr 64 p) (nd : l.Nodup) (h : l.Pairwise fun p q => cd p ≤ cd q) : l.Pairwise fun p q => cd p < cd q := by
  have h2 := List.Pairwise.and h nd
  exact List.Pairwise.imp_of_mem (fun {p q} hp hq z => lt_of (hb p hp) (hb q hq) z.1 z.2) h2
theorem adj_rise {l : List (List Int)} (hb : ∀ p ∈ l, Pr 64 p) (h : l.Pairwise fun p q => cd p < cd q) (i : Nat) (p q : List Int) (h1 : l[i]? = some p) (h2 : l[i + 1]? = some q) : HT.lexLt p q = true := by
  obtain ⟨l1, e1⟩ := List.getElem?_eq_some_iff.mp h1
  obtain ⟨l2, e2⟩ := List.getElem?_eq_some_iff.mp h2
  have := List.pairwise_iff_getElem.mp h i (i + 1) l1 l2 (Nat.lt_succ_self _)
  rw [e1, e2] at this
  exact lt_lex (hb p (List.mem_of_getElem? h1)) (hb q (List.mem_of_getElem? h2)) this
/-! ### all pairs, row by row -/
def rowOf (d : Int) (Pd : Int → Int → Bool) (i n : Nat) : List (List Int) := ((List.range n).filter fun (j : Nat) => Pd (i : Int) (j : Int)).map fun (j : Nat) => [d + (i : Int), d + (j : Int)]
def gridOf (d : Int) (Pd : Int → Int → Bool) (m n : Nat) : List (List Int) := (List.range n).flatMap fun (i : Nat) => rowOf d Pd i m
theorem row_next (d : Int) (Pd : Int → Int → Bool) (i n : Nat) : rowOf d Pd i (n + 1) = rowOf d Pd i n ++ (if Pd (i : Int) (n : Int) = true then [[d + (i : Int), d + (n : Int)]] else []) := by
  unfold rowOf
  rw [List.range_succ, List.filter_append, List.map_append]
  by_cases h : Pd (i : Int) (n : Int) = true <;> simp [h]
theorem grid_next (d : Int) (Pd : Int → Int → Bool) (m n : Nat) : gridOf d Pd m (n + 1) = gridOf d Pd m n ++ rowOf d Pd n m := by
  unfold gridOf
  rw [List.range_succ, List.flatMap_append]; simp
theorem row_len (d : Int) (Pd : Int → Int → Bool) (i n : Nat) : (rowOf d Pd i n).length ≤ n := by
  unfold rowOf
  rw [List.length_map]
  exact Nat.le_trans (List.length_filter_le _ _) (by rw [List.length_range]; exact Nat.le_refl _)
theorem grid_len (d : Int) (Pd : Int → Int → Bool) (m : Nat) : ∀ n, (gridOf d Pd m n).length ≤ n * m
  | 0 => by simp [gridOf]
  | n + 1 => by
    have h := grid_len d Pd m n
    have h2 := row_len d Pd n m
    rw [grid_next, List.length_append, Nat.succ_mul]; omega
theorem mem_row {d : Int} {Pd : Int → Int → Bool} {i n : Nat} {p : List Int} : p ∈ rowOf d Pd i n ↔ ∃ j : Nat, j < n ∧ Pd (i : Int) (j : Int) = true ∧ p = [d + (i : Int), d + (j : Int)] := by
  unfold rowOf
  rw [List.mem_map]
  constructor
  · rintro ⟨j, hj, e⟩
    rw [List.mem_filter, List.mem_range] at hj
    exact ⟨j, hj.1, hj.2, e.symm⟩
  · rintro ⟨j, h1, h2, e⟩
    exact ⟨j, List.mem_filter.mpr ⟨List.mem_range.mpr h1, h2⟩, e.symm⟩
theorem mem_grid {d : Int} {Pd : Int → Int → Bool} {m n : Nat} {p : List Int} : p ∈ gridOf d Pd m n ↔ ∃ i j : Nat, i < n ∧ j < m ∧ Pd (i : Int) (j : Int) = true ∧ p = [d + (i : Int), d + (j : Int)] := by
  unfold gridOf
  rw [List.mem_flatMap]
  constructor
  · rintro ⟨i, hi, hp⟩
    obtain ⟨j, h1, h2, h3⟩ := mem_row.mp hp
    exact ⟨i, j, List.mem_range.mp hi, h1, h2, h3⟩
  · rintro ⟨i, j, h1, h2, h3, h4⟩
    exact ⟨i, List.mem_range.mpr h1, mem_row.mpr ⟨j, h2, h3, h4⟩⟩
theorem grid_rise {d : Int} {Pd : Int → Int → Bool} {m n : Nat} (hd : 0 ≤ d) (hm : d + (m : Int) ≤ 64) : (gridOf d Pd m n).Pairwise fun p q => cd p < cd q := by
  unfold gridOf
  rw [List.pairwise_flatMap]
  refine ⟨fun i _ => ?_, ?_⟩
  · unfold rowOf
    rw [List.pairwise_map]
    refine List.Pairwise.imp (fun {a b} (h : a < b) => ?_) (List.Pairwise.filter _ List.pairwise_lt_range)
    rw [cd_pair, cd_pair]; omega
  · refine List.Pairwise.imp (fun {a b} (h : a < b) x hx y hy => ?_) List.pairwise_lt_range
    obtain ⟨j, h1, _, rfl⟩ := mem_row.mp hx
    obtain ⟨k, h2, _, rfl⟩ := mem_row.mp hy
    rw [cd_pair, cd_pair]; omega
theorem grid_pr {d : Int} {Pd : Int → Int → Bool} {m n : Nat} {b : Int} (hd : 0 ≤ d) (hm : d + (m : Int) ≤ b) (hn : d + (n : Int) ≤ b) : ∀ p ∈ gridOf d Pd m n, Pr b p := by
  intro p hp
  obtain ⟨i, j, h1, h2, _, rfl⟩ := mem_grid.mp hp
  exact ⟨_, _, rfl, by omega, by omega⟩
end RV
namespace RV
open PySem L2
/-! ### who comes to whom by one step or more -/
inductive Rch (ps : List (List Int)) : Int → Int → Prop where
  | one {i j : Int} : [i, j] ∈ ps → Rch ps i j
  | more {i j k : Int} : Rch ps i j → [j, k] ∈ ps → Rch ps i k
theorem Rch.trans {ps : List (List Int)} {i j k : Int} (h : Rch ps i j) (g : Rch ps j k) : Rch ps i k := by
  induction g with
  | one e => exact .more h e
  | more _ e ih => exact .more ih e
theorem Rch.bound {ps : List (List Int)} {n : Int} (hb : ∀ p ∈ ps, Pr n p) {i j : Int} (h : Rch ps i j) : (0 ≤ i ∧ i < n) ∧ (0 ≤ j ∧ j < n) := by
  induction h with
  | one e =>
    obtain ⟨x, y, e2, hx, hy⟩ := hb _ e
    injection e2 with e3 e4
    injection e4 with e4 _
    subst e3 e4
    exact ⟨hx, hy⟩
  | more _ e ih =>
    obtain ⟨x, y, e2, hx, hy⟩ := hb _ e
    injection e2 with e3 e4
    injection e4 with e4 _
    subst e3 e4
    exact ⟨ih.1, hy⟩
/-- a lot that holds all right behind m and is closed -/
theorem rch_closed {ps : List (List Int)} {m : Int} {fs : List Int} (h1 : ∀ j, [m, j] ∈ ps → j ∈ fs) (h2 : ∀ x ∈ fs, ∀ j, [x, j] ∈ ps → j ∈ fs) {j : Int} (h : Rch ps m j) : j ∈ fs := by
  induction h with
  | one e => exact h1 _ e
  | more _ e ih => exact h2 _ ih _ e
noncomputable def rB (ps : List (List Int)) (i j : Int) : Bool := @decide (Rch ps i j) (Classical.propDecidable _)
theorem rB_iff {ps : List (List Int)} {i j : Int} : rB ps i j = true ↔ Rch ps i j := by
  unfold rB
  exact @decide_eq_true_iff _ (Classical.propDecidable _)
/-! ### numbers below n -/
def upN (n : Nat) : List Int := (List.range n).map fun (i : Nat) => (i : Int)
theorem upN_get {n k : Nat} (h : k < n) : (upN n)[k]? = some (k : Int) := by
  unfold upN
  rw [List.getElem?_map, List.getElem?_range h]; rfl
theorem upN_len (n : Nat) : (upN n).length = n := by unfold upN; rw [List.length_map, List.length_range]
theorem mem_upN {n : Nat} {x : Int} : x ∈ upN n ↔ 0 ≤ x ∧ x < (n : Int) := by
  unfold upN
  rw [List.mem_map]
  constructor
  · rintro ⟨k, hk, rfl⟩
    have := List.mem_range.mp hk
    omega
  · rintro ⟨h0, h1⟩
    exact ⟨x.toNat, List.mem_range.mpr (by omega), by omega⟩
theorem upN_rise (n : Nat) : (upN n).Pairwise (· < ·) := by
  unfold upN
  rw [List.pairwise_map]
  exact List.Pairwise.imp (fun {a b} (h : a < b) => by omega) List.pairwise_lt_range
/-! ### the lot of a mark -/
noncomputable def lotOf (ps : List (List Int)) (n : Nat) (m : Int) : List Int := (upN n).filter fun j => rB ps m j && rB ps j m
theorem mem_lot {ps : List (List Int)} {n : Nat} {m j : Int} : j ∈ lotOf ps n m ↔ (0 ≤ j ∧ j < (n : Int)) ∧ Rch ps m j ∧ Rch ps j m := by
  unfold lotOf
  rw [List.mem_filter, mem_upN, Bool.and_eq_true, rB_iff, rB_iff]
theorem lot_rise (ps : List (List Int)) (n : Nat) (m : Int) : (lotOf ps n m).Pairwise (· < ·) := (upN_rise n).filter _
theorem lot_len (ps : List (List Int)) (n : Nat) (m : Int) : (lotOf ps n m).length ≤ n := by
  have := List.length_filter_le (fun j => rB ps m j && rB ps j m) (upN n)
  rw [upN_len] at this
  exact this
theorem lot_eq {ps : List (List Int)} {n : Nat} {m j : Int} (h : j ∈ lotOf ps n m) : lotOf ps n j = lotOf ps n m := by
  obtain ⟨_, h1, h2⟩ := mem_lot.mp h
  unfold lotOf
  refine List.filter_congr fun x _ => ?_
  rw [Bool.eq_iff_iff, Bool.and_eq_true, Bool.and_eq_true, rB_iff, rB_iff, rB_iff, rB_iff]
  exact ⟨fun ⟨a, b⟩ => ⟨h1.trans a, b.trans h2⟩, fun ⟨a, b⟩ => ⟨h2.trans a, b.trans h1⟩⟩
theorem lot_self {ps : List (List Int)} {n : Nat} {m : Int} (hm : 0 ≤ m ∧ m < (n : Int)) (h : Rch ps m m) : m ∈ lotOf ps n m := mem_lot.mpr ⟨hm, h, h⟩
theorem lot_none {ps : List (List Int)} {n : Nat} {m : Int} (h : ¬ Rch ps m m) : lotOf ps n m = [] := by
  refine List.eq_nil_iff_forall_not_mem.mpr fun j hj => ?_
  obtain ⟨_, h1, h2⟩ := mem_lot.mp hj
  exact h (h1.trans h2)
theorem lot_some {ps : List (List Int)} {n : Nat} {m j : Int} (h : j ∈ lotOf ps n m) : Rch ps m m := by
  obtain ⟨_, h1, h2⟩ := mem_lot.mp h
  exact h1.trans h2
/-! ### the parts -/
noncomputable def isHead (ps : List (List Int)) (n : Nat) (m : Int) : Bool := decide ((lotOf ps n m).head? = some m)
noncomputable def partsOf (ps : List (List Int)) (n : Nat) : List (List Int) := ((upN n).filter (isHead ps n)).map (lotOf ps n)
theorem mem_parts {ps : List (List Int)} {n : Nat} {p : List Int} : p ∈ partsOf ps n ↔ ∃ m : Int, (0 ≤ m ∧ m < (n : Int)) ∧ (lotOf ps n m).head? = some m ∧ p = lotOf ps n m := by
  unfold partsOf isHead
  rw [List.mem_map]
  constructor
  · rintro ⟨m, hm, rfl⟩
    obtain ⟨h1, h2⟩ := List.mem_filter.mp hm
    exact ⟨m, mem_upN.mp h1, of_decide_eq_true h2, rfl⟩
  · rintro ⟨m, h1, h2, rfl⟩
    exact ⟨m, List.mem_filter.mpr ⟨mem_upN.mpr h1, decide_eq_true h2⟩, rfl⟩
theorem lot_part {ps : List (List Int)} {n : Nat} {m j : Int} (h : j ∈ lotOf ps n m) : lotOf ps n m ∈ partsOf ps n := by
  cases e : lotOf ps n m with
  | nil => rw [e] at h; cases h
  | cons x r =>
    have hx : x ∈ lotOf ps n m := by rw [e]; exact List.mem_cons_self ..
    have ex := lot_eq hx
    refine mem_parts.mpr ⟨x, (mem_lot.mp hx).1, ?_, ?_⟩
    · rw [ex, e]; rfl
    · rw [ex, e]
theorem part_ne {ps : List (List Int)} {n : Nat} {p : List Int} (h : p ∈ partsOf ps n) : p ≠ [] := by
  obtain ⟨m, _, h2, rfl⟩ := mem_parts.mp h
  intro e
  rw [e] at h2; cases h2
theorem part_lot {ps : List (List Int)} {n : Nat} {p : List Int} {x : Int} (h : p ∈ partsOf ps n) (hx : x ∈ p) : lotOf ps n x = p := by
  obtain ⟨m, _, _, rfl⟩ := mem_parts.mp h
  exact lot_eq hx
def hd0 (l : List Int) : Int := l.headD 0
theorem parts_rise (ps : List (List Int)) (n : Nat) : (partsOf ps n).Pairwise fun p q => hd0 p < hd0 q := by
  unfold partsOf
  rw [List.pairwise_map]
  refine List.Pairwise.imp_of_mem (fun {a b} ha hb (h : a < b) => ?_) ((upN_rise n).filter _)
  have ea : (lotOf ps n a).head? = some a := of_decide_eq_true (List.mem_filter.mp ha).2
  have eb : (lotOf ps n b).head? = some b := of_decide_eq_true (List.mem_filter.mp hb).2
  unfold hd0
  rw [List.headD_eq_head?_getD, List.headD_eq_head?_getD, ea, eb]
  exact h
theorem parts_nodup (ps : List (List Int)) (n : Nat) : (partsOf ps n).Nodup := (parts_rise ps n).imp fun {a b} h e => by rw [e] at h; omega
theorem parts_len (ps : List (List Int)) (n : Nat) : (partsOf ps n).length ≤ n := by
  unfold partsOf
  rw [List.length_map]
  have := List.length_filter_le (isHead ps n) (upN n)
  rw [upN_len] at this
  exact this
/-- of two lots unlike heads tell which is ahead -/
theorem part_hd {ps : List (List Int)} {n : Nat} {p q : List Int} (hp : p ∈ partsOf ps n) (hq : q ∈ partsOf ps n) (h : hd0 p = hd0 q) : p = q := by
  obtain ⟨a, _, ea, rfl⟩ := mem_parts.mp hp
  obtain ⟨b, _, eb, rfl⟩ := mem_parts.mp hq
  unfold hd0 at h
  rw [List.headD_eq_head?_getD, List.headD_eq_head?_getD, ea, eb] at h
  have h' : a = b := h
  rw [h']
/-! ### the table that is gone on with, mark by mark -/
def Wsh (ps : List (List Int)) : Nat → Int → Int → Prop
  | 0, i, j => [i, j] ∈ ps
  | k + 1, i, j => Wsh ps k i j ∨ (Wsh ps k i (k : Int) ∧ Wsh ps k (k : Int) j)
theorem Wsh.up {ps : List (List Int)} {i j : Int} (h : [i, j] ∈ ps) : ∀ k, Wsh ps k i j
  | 0 => h
  | k + 1 => .inl (Wsh.up h k)
theorem Wsh.rch {ps : List (List Int)} : ∀ {k : Nat} {i j : Int}, Wsh ps k i j → Rch ps i j
  | 0, _, _, h => .one h
  | k + 1, _, _, .inl h => Wsh.rch h
  | k + 1, _, _, .inr h => (Wsh.rch h.1).trans (Wsh.rch h.2)
theorem Wsh.amid {ps : List (List Int)} : ∀ (k : Nat) (m : Nat) (i j : Int), m < k → Wsh ps k i (m : Int) → Wsh ps k (m : Int) j → Wsh ps k i j
  | 0, _, _, _, h, _, _ => absurd h (Nat.not_lt_zero _)
  | k + 1, m, i, j, h, h1, h2 => by
    by_cases e : m = k
    · subst e
      have a1 : Wsh ps m i (m : Int) := h1.elim id fun z => z.1
      have a2 : Wsh ps m (m : Int) j := h2.elim id fun z => z.2
      exact .inr ⟨a1, a2⟩
    · have hm : m < k := by omega
      have T := fun i j => Wsh.amid (ps := ps) k m i j hm
      rcases h1 with h1 | ⟨p1, p2⟩
      · rcases h2 with h2 | ⟨q1, q2⟩
        · exact .inl (T _ _ h1 h2)
        · exact .inr ⟨T _ _ h1 q1, q2⟩
      · rcases h2 with h2 | ⟨q1, q2⟩
        · exact .inr ⟨p1, T _ _ p2 h2⟩
        · exact .inr ⟨p1, q2⟩
theorem rch_wsh {ps : List (List Int)} {n : Nat} (hb : ∀ p ∈ ps, Pr (n : Int) p) {i j : Int} (h : Rch ps i j) : Wsh ps n i j := by
  induction h with
  | one e => exact Wsh.up e n
  | @more j k _ e ih =>
    have b := (Rch.bound hb (.one e)).1
    have ej : j = ((j.toNat : Nat) : Int) := by omega
    rw [ej] at ih e
    exact Wsh.amid n j.toNat _ _ (by omega) ih (Wsh.up e n)
end RV
set_option maxHeartbeats 4000000
namespace RV
open PySem PySem.Spec PyProof.Rows L2
section
variable {K : PySem.W.Frag} {tt : TT} {te : TE} {f : Int → Bool} {σ : L2.St} {H1 : Hp} {D : Addr} {v n : Nat} {Qd : Hp → Prop}
/-- [x for x in range(n) if ..] -/
theorem lc_filtR (hl : n ≤ 1000) (nD : H1 D = none)
    (htest : ∀ x : Int, 0 ≤ x → x < (n : Int) → ∀ H', Same H1 H' → ∀ A B : Hp → Prop, (∀ H2, Same H' H2 → if f x = true then A H2 else B H2) → tt ((wipe σ [v]).set v (some (.int x))) H' (fun b H3 => if b = true then A H3 else B H3))
    (hte : ∀ (x : Int) (H' : Hp) (Q : VK), Q (.int x) H' → te ((wipe σ [v]).set v (some (.int x))) H' Q)
    (hd : ∀ H', Same H1 H' → H' D = some (.lst (((upN n).filter f).map V.int)) → Qd H') :
    ∃ W : Nat → Nat → Hp → Prop, (∃ m, W 0 m (upd H1 D (.lst []))) ∧ ∀ i m H, W i m H →
      ((Itr 0 n).stop i H ∧ Qd H) ∨ ((Itr 0 n).go i H ∧ ∃ Nx : Hp → Prop, (∀ H', Nx H' → ∃ m', m' < m ∧ W (i + 1) m' H') ∧ ∀ x H', (Itr 0 n).yld i H x H' → gName v x (wipe σ [v]) H' fun σ2 H2 => wipe σ2 [v] = wipe σ [v] ∧ tt σ2 H2 fun b H3 =>
        if b = true then te σ2 H3 fun y H4 => ∃ acc, H4 D = some (.lst acc) ∧ acc.length < sizeLine ∧ Nx (upd H4 D (.lst (acc ++ [y]))) else Nx H3) := by
  refine lc_range (lo := 0) (n := n) (fun i H' => Same H1 H' ∧ H' D = some (.lst ((((upN n).take i).filter f).map V.int))) ⟨same_upd nD, upd_same⟩ (fun i H' hi p => ?_) fun H' p => ?_
  · have g : (upN n)[i]? = some (i : Int) := upN_get hi
    rw [Int.zero_add]
    refine ⟨by simp [wipe, List.set_set], htest (i : Int) (by omega) (by omega) H' p.1 _ _ fun H2 s2 => ?_⟩
    have s12 := p.1.trans s2
    have e2 := s2 _ _ p.2
    by_cases e : f (i : Int) = true
    · rw [if_pos e]
      refine hte _ H2 _ ⟨_, e2, ?_, fun b o z => ?_, ?_⟩
      · rw [List.length_map]
        exact few1 (Nat.le_trans (List.length_filter_le _ _) (by rw [List.length_take, upN_len]; omega))
      · rw [upd_ne (ne_of_none z nD)]; exact s12 b o z
      · rw [upd_same, take_filt g, if_pos e, List.map_append]; rfl
    · rw [if_neg e]
      exact ⟨s12, by rw [take_filt g, if_neg e, List.append_nil]; exact e2⟩
  · rw [List.take_of_length_le (by rw [upN_len]; exact Nat.le_refl _)] at p
    exact hd H' p.1 p.2
end
end RV
set_option maxHeartbeats 4000000
namespace RV
open PySem PySem.Spec PyProof.Rows L2
def fromN (lo : Int) (n : Nat) : List Int := (List.range n).map fun (i : Nat) => lo + (i : Int)
theorem fromN_get {lo : Int} {n k : Nat} (h : k < n) : (fromN lo n)[k]? = some (lo + (k : Int)) := by
  unfold fromN
  rw [List.getElem?_map, List.getElem?_range h]; rfl
theorem fromN_len (lo : Int) (n : Nat) : (fromN lo n).length = n := by unfold fromN; rw [List.length_map, List.length_range]
theorem mem_fromN {lo : Int} {n : Nat} {x : Int} : x ∈ fromN lo n ↔ lo ≤ x ∧ x < lo + (n : Int) := by
  unfold fromN
  rw [List.mem_map]
  constructor
  · rintro ⟨k, hk, rfl⟩
    have := List.mem_range.mp hk
    omega
  · rintro ⟨h0, h1⟩
    exact ⟨(x - lo).toNat, List.mem_range.mpr (by omega), by omega⟩
theorem pe_weakR {X : Cx} {e : Expr} {t t' : TE} (h : PE X e t) (imp : ∀ σ H Q, t' σ H Q → t σ H Q) : PE X e t' := ⟨fun pins s σ H Q I q => h.run pins s σ H Q I (imp σ H Q q)⟩
section
variable {X : Cx} {K : PySem.W.Frag}
theorem cr_allK (h : X.K = K) (hc : X.calm = true) : CallR X (.builtin "all") (rAll K) := h ▸ cr_all hc
theorem pi_listK {tg l : Expr} {tl : TE} (h : X.K = K) (hl : PE X l tl) : PI X tg l (iList K tl) := h ▸ pi_list hl
theorem pi_tupK {tg l : Expr} {tl : TE} (h : X.K = K) (hl : PE X l tl) : PI X tg l (iTup K tl) := h ▸ pi_tup hl
end
section
variable {K : PySem.W.Frag} {tt : TT} {te : TE} {f : Int → Bool} {h : Int → Int} {σ : L2.St} {H1 : Hp} {D : Addr} {v n : Nat} {lo : Int} {Qd : Hp → Prop}
/-- [h(x) for x in range(lo, ..) if f(x)] -/
theorem lc_mapR (hl : n ≤ 1000) (nD : H1 D = none)
    (htest : ∀ x ∈ fromN lo n, ∀ H', Same H1 H' → ∀ A B : Hp → Prop, (∀ H2, Same H' H2 → if f x = true then A H2 else B H2) → tt ((wipe σ [v]).set v (some (.int x))) H' (fun b H3 => if b = true then A H3 else B H3))
    (hte : ∀ x ∈ fromN lo n, ∀ (H' : Hp) (Q : VK), Same H1 H' → f x = true → (∀ H2, Same H' H2 → Q (.int (h x)) H2) → te ((wipe σ [v]).set v (some (.int x))) H' Q)
    (hd : ∀ H', Same H1 H' → H' D = some (.lst ((((fromN lo n).filter f).map h).map V.int)) → Qd H') :
    ∃ W : Nat → Nat → Hp → Prop, (∃ m, W 0 m (upd H1 D (.lst []))) ∧ ∀ i m H, W i m H →
      ((Itr lo n).stop i H ∧ Qd H) ∨ ((Itr lo n).go i H ∧ ∃ Nx : Hp → Prop, (∀ H', Nx H' → ∃ m', m' < m ∧ W (i + 1) m' H') ∧ ∀ x H', (Itr lo n).yld i H x H' → gName v x (wipe σ [v]) H' fun σ2 H2 => wipe σ2 [v] = wipe σ [v] ∧ tt σ2 H2 fun b H3 =>
        if b = true then te σ2 H3 fun y H4 => ∃ acc, H4 D = some (.lst acc) ∧ acc.length < sizeLine ∧ Nx (upd H4 D (.lst (acc ++ [y]))) else Nx H3) := by
  refine lc_range (lo := lo) (n := n) (fun i H' => Same H1 H' ∧ H' D = some (.lst (((((fromN lo n).take i).filter f).map h).map V.int))) ⟨same_upd nD, upd_same⟩ (fun i H' hi p => ?_) fun H' p => ?_
  · have g : (fromN lo n)[i]? = some (lo + (i : Int)) := fromN_get hi
    have hm := List.mem_of_getElem? g
    refine ⟨by simp [wipe, List.set_set], htest _ hm H' p.1 _ _ fun H2 s2 => ?_⟩
    have s12 := p.1.trans s2
    have e2 := s2 _ _ p.2
    by_cases e : f (lo + (i : Int)) = true
    · rw [if_pos e]
      refine hte _ hm H2 _ s12 e fun H3 s3 => ⟨_, s3 _ _ e2, ?_, fun b o z => ?_, ?_⟩
      · rw [List.length_map, List.length_map]
        exact few1 (Nat.le_trans (List.length_filter_le _ _) (by rw [List.length_take, fromN_len]; omega))
      · rw [upd_ne (ne_of_none z nD)]; exact s3 _ _ (s12 b o z)
      · rw [upd_same, take_filt g, if_pos e, List.map_append, List.map_append]; rfl
    · rw [if_neg e]
      exact ⟨s12, by rw [take_filt g, if_neg e, List.append_nil]; exact e2⟩
  · rw [List.take_of_length_le (by rw [fromN_len]; exact Nat.le_refl _)] at p
    exact hd H' p.1 p.2
end
/-- [c(x) for x in l] of truths, l a list of ints -/
theorem lc_blL {K : PySem.W.Frag} {te : TE} {c : Int → Bool} {σ : L2.St} {H1 : Hp} {a D : Addr} {v : Nat} {ns : List Int} {Qd : Hp → Prop} (hT : SqL K H1 a (ns.map V.int)) (hl : ns.length ≤ 1000) (nD : H1 D = none)
    (hte : ∀ x ∈ ns, ∀ (H' : Hp) (Q : VK), Same H1 H' → Q (.bl (c x)) H' → te ((wipe σ [v]).set v (some (.int x))) H' Q)
    (hd : ∀ H', Same H1 H' → H' D = some (.lst ((ns.map c).map V.bl)) → Qd H') :
    ∃ W : Nat → Nat → Hp → Prop, (∃ m, W 0 m (upd H1 D (.lst []))) ∧ ∀ i m H, W i m H →
      ((Itl K a).stop i H ∧ Qd H) ∨ ((Itl K a).go i H ∧ ∃ Nx : Hp → Prop, (∀ H', Nx H' → ∃ m', m' < m ∧ W (i + 1) m' H') ∧ ∀ x H', (Itl K a).yld i H x H' → gName v x (wipe σ [v]) H' fun σ2 H2 => wipe σ2 [v] = wipe σ [v] ∧ tYes σ2 H2 fun b H3 =>
        if b = true then te σ2 H3 fun y H4 => ∃ acc, H4 D = some (.lst acc) ∧ acc.length < sizeLine ∧ Nx (upd H4 D (.lst (acc ++ [y]))) else Nx H3) := by
  refine lc_list (K := K) (a := a) (xs := ns.map V.int) (fun i H' => Same H1 H' ∧ H' D = some (.lst (((ns.take i).map c).map V.bl))) ⟨same_upd nD, upd_same⟩ (fun i H' _ p => sqL_same p.1 hT) (fun i x H' hx p => ?_) fun H' p => ?_
  · obtain ⟨k, g, rfl⟩ := map_at hx
    refine ⟨by simp [wipe, List.set_set], tt_yes (hte k (List.mem_of_getElem? g) H' _ p.1 ⟨_, p.2, ?_, fun b o z => ?_, ?_⟩)⟩
    · rw [List.length_map, List.length_map, List.length_take]; exact few1 (by omega)
    · rw [upd_ne (ne_of_none z nD)]; exact p.1 b o z
    · rw [upd_same, List.take_add_one, g, List.map_append, List.map_append]; rfl
  · rw [List.length_map, List.take_of_length_le (Nat.le_refl _)] at p
    exact hd H' p.1 p.2
end RV
set_option maxHeartbeats 4000000
namespace RV
open PySem PySem.Spec PyProof.Rows L2
section
variable {X : Cx} {K : PySem.W.Frag}
/-- t + u of any two tuples, wherever the sum stands -/
def rCatW (K : PySem.W.Frag) : R2 := fun x y H Q => ∃ a b xs ys, x = .ref a ∧ y = .ref b ∧ SqT K H a xs ∧ SqT K H b ys ∧ xs.length + ys.length ≤ sizeLine ∧ ∀ (p : Addr) (H' : Hp), Same H H' → SqT K H' p (xs ++ ys) → Q (.ref p) H'
theorem op_catW : OpR X (binaryOp .Add) (rCatW X.K) := by
  intro pins s σ H x y v u Q I rx ry h
  obtain ⟨a, b, xs, ys, e1, e2, h1, h2, hl, q⟩ := h
  refine op_catA pins s σ H x y v u Q I rx ry ⟨a, b, xs, ys, e1, e2, h1, h2, hl, fun z => ?_, fun _ z => ?_, fun _ _ p np => ?_⟩
  · exact q b H (fun _ _ e => e) (by rw [z]; exact h2)
  · exact q a H (fun _ _ e => e) (by rw [z, List.append_nil]; exact h1)
  · exact q p _ (same_upd np) (tupNew upd_same)
theorem op_catWK (h : X.K = K) : OpR X (binaryOp .Add) (rCatW K) := h ▸ op_catW
/-- t[lo:hi], wherever the slice stands -/
def rSlW (K : PySem.W.Frag) : V → Option Int → Option Int → Hp → VK → Prop := fun x lo hi H Q => ∃ a xs, x = .ref a ∧ SqT K H a xs ∧ ∀ (p : Addr) (H' : Hp), Same H H' → SqT K H' p (cutV xs lo hi) → Q (.ref p) H'
theorem sl_tupW : SlR X (rSlW X.K) := by
  intro pins s σ H x v vl vu lo hi sl Q I rx hs pl pu h
  obtain ⟨a, xs, e, h1, q⟩ := h
  refine sl_tupA pins s σ H x v vl vu lo hi sl Q I rx hs pl pu ⟨a, xs, e, h1, fun z => ?_, fun _ p np => ?_⟩
  · refine q a H (fun _ _ e => e) ?_
    unfold cutV
    rw [z.1, z.2, List.drop_zero, Nat.sub_zero, List.take_of_length_le (Nat.le_refl _)]
    exact h1
  · exact q p _ (same_upd np) (tupNew upd_same)
theorem sl_tupWK (h : X.K = K) : SlR X (rSlW K) := h ▸ sl_tupW
theorem cut_from (xs : List V) (k : Nat) : cutV xs (some (k : Int)) none = xs.drop k := by
  unfold cutV
  rw [HT.sIx_nat, HT.sIx_none]
  rcases Nat.le_total k xs.length with h | h
  · rw [Nat.min_eq_left h, List.take_of_length_le (by rw [List.length_drop]; exact Nat.le_refl _)]
  · rw [Nat.min_eq_right h, Nat.sub_self, List.take_zero, List.drop_eq_nil_of_le h]
theorem cut_to (xs : List V) (k : Nat) : cutV xs none (some (k : Int)) = xs.take k := by
  unfold cutV
  rw [HT.sIx_nat, HT.sIx_none, List.drop_zero, Nat.sub_zero]
  rcases Nat.le_total k xs.length with h | h
  · rw [Nat.min_eq_left h]
  · rw [Nat.min_eq_right h, List.take_of_length_le (Nat.le_refl _), List.take_of_length_le h]
theorem tuple_mul1 (l : Addr) (items : Array Value) (n : Nat) (dd : Option Addr) (sl : Array (Option Value)) (x : Int) (u : Tok) (c0 : (decide (x < -(2 ^ 63)) || decide (x ≥ 2 ^ 63)) = false) (c1 : (items.isEmpty || x == 1) = true) :
    Meets (Builtin.«tuple.__mul__» ⟨[.ref l, .int x u], []⟩) (fun _ R s => s.heap.get? l = some { cls := .type "tuple", dict := dd, data := .seq items n, slots := sl } ∧ R (.ok (.ret (Value.ref l))) s) :=
  .of_wp fun prog w A R s h => by
    obtain ⟨hp, g, d, tk, os⟩ := s
    obtain ⟨hl, h⟩ := h
    have f1 := AutoSeq1.idx_int
    wp_walk using wpAny_loadPart' hl
    repeat (first
      | (refine wpAny_ite_false (decide_eq_false (by rw [c0]; exact Bool.false_ne_true)) ?_; wp_walk using wpAny_loadPart' hl)
      | (refine wpAny_ite_true (decide_eq_true (by rw [c1])) ?_; wp_walk using wpAny_loadPart' hl))
    exact ⟨_, rfl, h⟩
theorem tuple_mul0 (l : Addr) (items : Array Value) (n : Nat) (dd : Option Addr) (sl : Array (Option Value)) (x : Int) (u : Tok) (c0 : (decide (x < -(2 ^ 63)) || decide (x ≥ 2 ^ 63)) = false) (c1 : (items.isEmpty || x == 1) = false) (c2 : (decide (x ≤ 0) || items.isEmpty) = true) :
    Meets (Builtin.«tuple.__mul__» ⟨[.ref l, .int x u], []⟩) (fun _ R s => s.heap.get? l = some { cls := .type "tuple", dict := dd, data := .seq items n, slots := sl } ∧ R (.ok (.ret (Value.ref s.heap.objs.size))) { s with heap := s.heap.push { cls := Value.type "tuple", data := Data.seq #[] }, toks := s.toks }) :=
  .of_wp fun prog w A R s h => by
    obtain ⟨hp, g, d, tk, os⟩ := s
    obtain ⟨hl, h⟩ := h
    have f1 := AutoSeq1.idx_int
    wp_walk using wpAny_loadPart' hl
    repeat (first
      | (refine wpAny_ite_false (decide_eq_false (by rw [c0]; exact Bool.false_ne_true)) ?_; wp_walk using wpAny_loadPart' hl)
      | (refine wpAny_ite_false (decide_eq_false (by rw [c1]; exact Bool.false_ne_true)) ?_; wp_walk using wpAny_loadPart' hl)
      | (refine wpAny_ite_true (decide_eq_true (by rw [c2])) ?_; wp_walk using wpAny_loadPart' hl))
    exact ⟨_, rfl, h⟩
/-- t * k, k from 0 on -/
def rRepW (K : PySem.W.Frag) : R2 := fun x y H Q => ∃ l k xs, x = .ref l ∧ y = .int k ∧ SqT K H l xs ∧ 0 ≤ k ∧ k ≤ 1000 ∧ xs.length ≤ 1000 ∧ ∀ (p : Addr) (H' : Hp), Same H H' → SqT K H' p (List.replicate k.toNat xs).flatten → Q (.ref p) H'
theorem flat_nil : ∀ m : Nat, (List.replicate m ([] : List V)).flatten = []
  | 0 => rfl
  | m + 1 => by rw [List.replicate_succ, List.flatten_cons, flat_nil m]; rfl
theorem op_repW : OpR X (binaryOp .Mult) (rRepW X.K) := by
  intro pins s σ H x y v u Q I rx ry h
  obtain ⟨l, k, xs, rfl, rfl, hT, h0, h1, hz, q⟩ := h
  by_cases hbig : xs ≠ [] ∧ 2 ≤ k
  · exact op_repT pins s σ H _ _ v u Q I rx ry ⟨l, k, xs, rfl, rfl, hT, hbig.1, hbig.2, h1, hz, fun p np => q p _ (same_upd np) (tupNew upd_same)⟩
  cases rx
  obtain ⟨t, rfl⟩ := ry
  obtain ⟨its, r, ⟨⟨cls, dd, data, sl⟩, ho, hc, n, hd⟩, hs⟩ := I.tuple hT
  simp only at hc hd
  subst hc hd
  have hle : its.length = xs.length := r.length.symm
  have c0 : (decide (k < -(2 ^ 63)) || decide (k ≥ 2 ^ 63)) = false := by
    rw [decide_eq_false (by omega), decide_eq_false (by omega)] <;> rfl
  by_cases e1 : xs = [] ∨ k = 1
  · have c1 : (its.toArray.isEmpty || k == 1) = true := by
      rcases e1 with e | e
      · have : its = [] := List.eq_nil_of_length_eq_zero (by rw [hle, e]; rfl)
        rw [this]; rfl
      · rw [e]; simp
    refine wpAny_binaryOp_repeat_ref (T := "tuple") (U := "int") (by decide) ⟨_, ho, rfl⟩ (fun s' => typeIs_int s' k t) noFill_tuple_mul F.fills_int_mul F.slot_int_rmul repeat_tuple F.slot_int_index.lookup
      (call_meets F.slot_int_rmul (typeIs_int s k t) F.entry_int_rmul (F.args_int_rmul_2 _ _) (int_rmul_tuple k t l its.toArray n dd sl)
        ⟨ho, rfl, ⟨_, ho, rfl⟩, call_meets F.slot_tuple_mul ⟨_, ho, rfl⟩ F.entry_tuple_mul (F.args_tuple_mul_2 _ _) (tuple_mul1 l its.toArray n dd sl k t c0 c1) ⟨ho, ?_⟩⟩)
    refine ⟨.ref l, H, I, rfl, q l H (fun _ _ e => e) ?_⟩
    rcases e1 with e | e
    · subst e; rw [flat_nil]; exact hT
    · subst e
      show SqT X.K H l ([xs].flatten)
      rw [List.flatten_cons, List.flatten_nil, List.append_nil]; exact hT
  · have e2 : xs ≠ [] := fun e => e1 (.inl e)
    have e3 : k = 0 := by
      rcases Int.lt_or_le k 2 with z | z
      · have : k ≠ 1 := fun e => e1 (.inr e)
        omega
      · exact absurd ⟨e2, z⟩ hbig
    have hi : its.toArray.isEmpty = false := by
      cases its with
      | nil => exact absurd (List.eq_nil_of_length_eq_zero hle.symm) e2
      | cons a b => rfl
    have c1 : (its.toArray.isEmpty || k == 1) = false := by
      rw [hi, e3]; rfl
    have c2 : (decide (k ≤ 0) || its.toArray.isEmpty) = true := by
      rw [e3]; rfl
    refine wpAny_binaryOp_repeat_ref (T := "tuple") (U := "int") (by decide) ⟨_, ho, rfl⟩ (fun s' => typeIs_int s' k t) noFill_tuple_mul F.fills_int_mul F.slot_int_rmul repeat_tuple F.slot_int_index.lookup
      (call_meets F.slot_int_rmul (typeIs_int s k t) F.entry_int_rmul (F.args_int_rmul_2 _ _) (int_rmul_tuple k t l its.toArray n dd sl)
        ⟨ho, rfl, ⟨_, ho, rfl⟩, call_meets F.slot_tuple_mul ⟨_, ho, rfl⟩ F.entry_tuple_mul (F.args_tuple_mul_2 _ _) (tuple_mul0 l its.toArray n dd sl k t c0 c1 c2) ⟨ho, ?_⟩⟩)
    refine ⟨.ref s.heap.objs.size, _, I.laid (t' := s.toks) (o := .tup []) (fun b ob q => Heap.get?_push_of_some _ q) (Nat.le_refl _) ?_, rfl, q _ _ (same_upd (I.hok.fresh (Nat.le_refl _))) (by rw [e3]; exact tupNew upd_same)⟩
    exact ⟨Nat.zero_le _, [], .nil, IsTup.new _ _⟩
theorem op_eqI1K (h : X.K = K) (hu : X.A.units + 64 < cLine) : OpR X (compareOp .Eq) (rEqI1 K) := h ▸ op_eqI1 hu
theorem op_repWK (h : X.K = K) : OpR X (binaryOp .Mult) (rRepW K) := h ▸ op_repW
end
/-- [h(x) for x in t], t a tuple of ints -/
theorem lc_mapT {K : PySem.W.Frag} {te : TE} {h : Int → Int} {σ : L2.St} {H1 : Hp} {a D : Addr} {v : Nat} {ns : List Int} {Qd : Hp → Prop} (hT : SqT K H1 a (ns.map V.int)) (hl : ns.length ≤ 1000) (nD : H1 D = none)
    (hte : ∀ x ∈ ns, ∀ (H' : Hp) (Q : VK), Same H1 H' → (∀ H2, Same H' H2 → Q (.int (h x)) H2) → te ((wipe σ [v]).set v (some (.int x))) H' Q)
    (hd : ∀ H', Same H1 H' → H' D = some (.lst ((ns.map h).map V.int)) → Qd H') :
    ∃ W : Nat → Nat → Hp → Prop, (∃ m, W 0 m (upd H1 D (.lst []))) ∧ ∀ i m H, W i m H →
      ((Itt K a).stop i H ∧ Qd H) ∨ ((Itt K a).go i H ∧ ∃ Nx : Hp → Prop, (∀ H', Nx H' → ∃ m', m' < m ∧ W (i + 1) m' H') ∧ ∀ x H', (Itt K a).yld i H x H' → gName v x (wipe σ [v]) H' fun σ2 H2 => wipe σ2 [v] = wipe σ [v] ∧ tYes σ2 H2 fun b H3 =>
        if b = true then te σ2 H3 fun y H4 => ∃ acc, H4 D = some (.lst acc) ∧ acc.length < sizeLine ∧ Nx (upd H4 D (.lst (acc ++ [y]))) else Nx H3) := by
  refine lc_tup (K := K) (a := a) (xs := ns.map V.int) (fun i H' => Same H1 H' ∧ H' D = some (.lst (((ns.take i).map h).map V.int))) ⟨same_upd nD, upd_same⟩ (fun i H' _ p => sqT_same p.1 hT) (fun i x H' hx p => ?_) fun H' p => ?_
  · obtain ⟨k, g, rfl⟩ := map_at hx
    refine ⟨by simp [wipe, List.set_set], tt_yes (hte k (List.mem_of_getElem? g) H' _ p.1 fun H2 s2 => ⟨_, s2 _ _ p.2, ?_, fun b o z => ?_, ?_⟩)⟩
    · rw [List.length_map, List.length_map, List.length_take]; exact few1 (by omega)
    · rw [upd_ne (ne_of_none z nD)]; exact s2 _ _ (p.1 b o z)
    · rw [upd_same, List.take_add_one, g, List.map_append, List.map_append]; rfl
  · rw [List.length_map, List.take_of_length_le (Nat.le_refl _)] at p
    exact hd H' p.1 p.2
end RV
set_option maxHeartbeats 4000000
namespace RV
open PySem PySem.Spec PyProof.Rows L2
/-- [h(x) for x in l], l a list of ints -/
theorem lc_mapL {K : PySem.W.Frag} {te : TE} {h : Int → Int} {σ : L2.St} {H1 : Hp} {a D : Addr} {v : Nat} {ns : List Int} {Qd : Hp → Prop} (hT : SqL K H1 a (ns.map V.int)) (hl : ns.length ≤ 100000) (nD : H1 D = none)
    (hte : ∀ x ∈ ns, ∀ (H' : Hp) (Q : VK), Same H1 H' → (∀ H2, Same H' H2 → Q (.int (h x)) H2) → te ((wipe σ [v]).set v (some (.int x))) H' Q)
    (hd : ∀ H', Same H1 H' → H' D = some (.lst ((ns.map h).map V.int)) → Qd H') :
    ∃ W : Nat → Nat → Hp → Prop, (∃ m, W 0 m (upd H1 D (.lst []))) ∧ ∀ i m H, W i m H →
      ((Itl K a).stop i H ∧ Qd H) ∨ ((Itl K a).go i H ∧ ∃ Nx : Hp → Prop, (∀ H', Nx H' → ∃ m', m' < m ∧ W (i + 1) m' H') ∧ ∀ x H', (Itl K a).yld i H x H' → gName v x (wipe σ [v]) H' fun σ2 H2 => wipe σ2 [v] = wipe σ [v] ∧ tYes σ2 H2 fun b H3 =>
        if b = true then te σ2 H3 fun y H4 => ∃ acc, H4 D = some (.lst acc) ∧ acc.length < sizeLine ∧ Nx (upd H4 D (.lst (acc ++ [y]))) else Nx H3) := by
  refine lc_list (K := K) (a := a) (xs := ns.map V.int) (fun i H' => Same H1 H' ∧ H' D = some (.lst (((ns.take i).map h).map V.int))) ⟨same_upd nD, upd_same⟩ (fun i H' _ p => sqL_same p.1 hT) (fun i x H' hx p => ?_) fun H' p => ?_
  · obtain ⟨k, g, rfl⟩ := map_at hx
    refine ⟨by simp [wipe, List.set_set], tt_yes (hte k (List.mem_of_getElem? g) H' _ p.1 fun H2 s2 => ⟨_, s2 _ _ p.2, ?_, fun b o z => ?_, ?_⟩)⟩
    · rw [List.length_map, List.length_map, List.length_take, sizeLine_eq]; omega
    · rw [upd_ne (ne_of_none z nD)]; exact s2 _ _ (p.1 b o z)
    · rw [upd_same, List.take_add_one, g, List.map_append, List.map_append]; rfl
  · rw [List.length_map, List.take_of_length_le (Nat.le_refl _)] at p
    exact hd H' p.1 p.2
/-- [h(i) for i in range(lo, lo + n)] -/
theorem lc_mapG {te : TE} {h : Int → Int} {σ : L2.St} {H1 : Hp} {D : Addr} {v n : Nat} {lo : Int} {Qd : Hp → Prop} (hl : n ≤ 100000) (nD : H1 D = none)
    (hte : ∀ i, i < n → ∀ (H' : Hp) (Q : VK), Same H1 H' → (∀ H2, Same H' H2 → Q (.int (h (lo + (i : Int)))) H2) → te ((wipe σ [v]).set v (some (.int (lo + (i : Int))))) H' Q)
    (hd : ∀ H', Same H1 H' → H' D = some (.lst (((List.range n).map fun (i : Nat) => h (lo + (i : Int))).map V.int)) → Qd H') :
    ∃ W : Nat → Nat → Hp → Prop, (∃ m, W 0 m (upd H1 D (.lst []))) ∧ ∀ i m H, W i m H →
      ((Itr lo n).stop i H ∧ Qd H) ∨ ((Itr lo n).go i H ∧ ∃ Nx : Hp → Prop, (∀ H', Nx H' → ∃ m', m' < m ∧ W (i + 1) m' H') ∧ ∀ x H', (Itr lo n).yld i H x H' → gName v x (wipe σ [v]) H' fun σ2 H2 => wipe σ2 [v] = wipe σ [v] ∧ tYes σ2 H2 fun b H3 =>
        if b = true then te σ2 H3 fun y H4 => ∃ acc, H4 D = some (.lst acc) ∧ acc.length < sizeLine ∧ Nx (upd H4 D (.lst (acc ++ [y]))) else Nx H3) := by
  refine lc_range (lo := lo) (n := n) (fun i H' => Same H1 H' ∧ H' D = some (.lst (((List.range i).map fun (i : Nat) => h (lo + (i : Int))).map V.int))) ⟨same_upd nD, upd_same⟩ (fun i H' hi p => ?_) fun H' p => hd H' p.1 p.2
  refine ⟨by simp [wipe, List.set_set], tt_yes (hte i hi H' _ p.1 fun H2 s2 => ⟨_, s2 _ _ p.2, ?_, fun b o z => ?_, ?_⟩)⟩
  · rw [List.length_map, List.length_map, List.length_range, sizeLine_eq]; omega
  · rw [upd_ne (ne_of_none z nD)]; exact s2 _ _ (p.1 b o z)
  · rw [upd_same, List.range_succ, List.map_append, List.map_append]; rfl
end RV
set_option maxHeartbeats 4000000
namespace RV
open PySem PySem.Spec PyProof.Rows L2 TL
/-- [.. for x in l], l a list of any values xs, which gives the values ys -/
theorem lc_mapV {K : PySem.W.Frag} {te : TE} {ys : List V} {σ : L2.St} {H1 : Hp} {a D : Addr} {v : Nat} {xs : List V} {Qd : Hp → Prop} (hT : SqL K H1 a xs) (hl : xs.length ≤ 100000) (hy : ys.length = xs.length) (nD : H1 D = none)
    (hte : ∀ (i : Nat) (x y : V), xs[i]? = some x → ys[i]? = some y → ∀ (H' : Hp) (Q : VK), Same H1 H' → (∀ H2, Same H' H2 → Q y H2) → te ((wipe σ [v]).set v (some x)) H' Q)
    (hd : ∀ H', Same H1 H' → H' D = some (.lst ys) → Qd H') :
    ∃ W : Nat → Nat → Hp → Prop, (∃ m, W 0 m (upd H1 D (.lst []))) ∧ ∀ i m H, W i m H →
      ((Itl K a).stop i H ∧ Qd H) ∨ ((Itl K a).go i H ∧ ∃ Nx : Hp → Prop, (∀ H', Nx H' → ∃ m', m' < m ∧ W (i + 1) m' H') ∧ ∀ x H', (Itl K a).yld i H x H' → gName v x (wipe σ [v]) H' fun σ2 H2 => wipe σ2 [v] = wipe σ [v] ∧ tYes σ2 H2 fun b H3 =>
        if b = true then te σ2 H3 fun y H4 => ∃ acc, H4 D = some (.lst acc) ∧ acc.length < sizeLine ∧ Nx (upd H4 D (.lst (acc ++ [y]))) else Nx H3) := by
  refine lc_list (K := K) (a := a) (xs := xs) (fun i H' => Same H1 H' ∧ H' D = some (.lst (ys.take i))) ⟨same_upd nD, upd_same⟩ (fun i H' _ p => sqL_same p.1 hT) (fun i x H' hx p => ?_) fun H' p => ?_
  · have hi : i < xs.length := (List.getElem?_eq_some_iff.mp hx).1
    obtain ⟨y, ey⟩ : ∃ y, ys[i]? = some y := ⟨_, List.getElem?_eq_getElem (by omega)⟩
    refine ⟨by simp [wipe, List.set_set], tt_yes (hte i x y hx ey H' _ p.1 fun H2 s2 => ⟨_, s2 _ _ p.2, ?_, fun b o z => ?_, ?_⟩)⟩
    · rw [List.length_take, sizeLine_eq]; omega
    · rw [upd_ne (ne_of_none z nD)]; exact s2 _ _ (p.1 b o z)
    · rw [upd_same, List.take_add_one, ey]; rfl
  · rw [← hy, List.take_of_length_le (Nat.le_refl _)] at p
    exact hd H' p.1 p.2
/-- [.. for sign in text], all true -/
theorem lc_signs {te : TE} {σ : L2.St} {H1 : Hp} {D : Addr} {v : Nat} {z : Str} {Qd : Hp → Prop} (hl : z.length ≤ 100000) (nD : H1 D = none)
    (hte : ∀ c ∈ tl z, ∀ (H' : Hp) (Q : VK), Same H1 H' → (∀ H2, Same H' H2 → Q (.bl true) H2) → te ((wipe σ [v]).set v (some (.str ⟨#[c]⟩))) H' Q)
    (hd : ∀ H', Same H1 H' → H' D = some (.lst (List.replicate z.length (V.bl true))) → Qd H') :
    ∃ W : Nat → Nat → Hp → Prop, (∃ m, W 0 m (upd H1 D (.lst []))) ∧ ∀ i m H, W i m H →
      ((Its z).stop i H ∧ Qd H) ∨ ((Its z).go i H ∧ ∃ Nx : Hp → Prop, (∀ H', Nx H' → ∃ m', m' < m ∧ W (i + 1) m' H') ∧ ∀ x H', (Its z).yld i H x H' → gName v x (wipe σ [v]) H' fun σ2 H2 => wipe σ2 [v] = wipe σ [v] ∧ tYes σ2 H2 fun b H3 =>
        if b = true then te σ2 H3 fun y H4 => ∃ acc, H4 D = some (.lst acc) ∧ acc.length < sizeLine ∧ Nx (upd H4 D (.lst (acc ++ [y]))) else Nx H3) := by
  have ez : z.cps.size = z.length := rfl
  refine ⟨fun i m H' => i ≤ z.length ∧ m = z.length - i ∧ Same H1 H' ∧ H' D = some (.lst (List.replicate i (V.bl true))), ⟨_, Nat.zero_le _, rfl, same_upd nD, upd_same⟩, fun i m H' p => ?_⟩
  obtain ⟨p1, p2, p3, p4⟩ := p
  by_cases e : i < z.length
  · refine Or.inr ⟨e, fun H' => i + 1 ≤ z.length ∧ Same H1 H' ∧ H' D = some (.lst (List.replicate (i + 1) (V.bl true))), fun H2 q => ⟨z.length - (i + 1), by omega, q.1, rfl, q.2⟩, fun x H2 y => ?_⟩
    obtain ⟨rfl, c, hc, rfl⟩ := y
    refine nx_step ?_
    refine ⟨by simp [wipe, List.set_set], tt_yes (hte c ?_ _ _ p3 fun H3 s3 => ⟨_, s3 _ _ p4, ?_, e, fun b o w => ?_, ?_⟩)⟩
    · exact List.mem_of_getElem? (by rw [Array.getElem?_toList]; exact hc)
    · rw [List.length_replicate, sizeLine_eq]; omega
    · rw [upd_ne (ne_of_none w nD)]; exact s3 _ _ (p3 b o w)
    · rw [upd_same, List.replicate_succ']
  · refine Or.inl ⟨by show z.cps.size ≤ i; rw [ez]; omega, hd H' p3 ?_⟩
    rw [show z.length = i by omega]
    exact p4
end RV
set_option maxHeartbeats 4000000
namespace K50
open PySem PySem.Spec PyProof.Rows L2 RV
/-! ### the text by places -/
def topS (i : Nat) : Stmt := PySem.Challenge.pw_ringvouch_k50_rules_written_and_read.main.body.getD i (.Pass ⟨0, 0, 0, 0⟩)
abbrev sShow : Stmt := topS 1
abbrev sWhole : Stmt := topS 7
abbrev sMark : Stmt := topS 8
abbrev sMarks : Stmt := topS 9
abbrev sMirrors : Stmt := topS 13
abbrev sSteps : Stmt := topS 14
abbrev sStep : Stmt := topS 15
abbrev sRising : Stmt := topS 16
abbrev sBehind : Stmt := topS 17
abbrev sNumIn : Stmt := topS 21
abbrev sNumsIn : Stmt := topS 22
abbrev sReadRule : Stmt := topS 23
abbrev sFirstRow : Stmt := topS 24
abbrev sCanStand : Stmt := topS 25
abbrev sMirrorsBy : Stmt := topS 26
abbrev sPail : Stmt := topS 28
abbrev sDraw : Stmt := topS 29
abbrev sOf : Stmt := topS 30
abbrev sDMirrors : Stmt := topS 31
abbrev sDSteps : Stmt := topS 32
abbrev sRuleText : Stmt := topS 33
abbrev sRight : Stmt := topS 34
abbrev sLaw : Stmt := topS 35
abbrev sInit : Stmt := inClass (topS 12) 0
abbrev sEq : Stmt := inClass (topS 12) 4
abbrev sMarksM : Stmt := inClass (topS 12) 1
abbrev sMirrorM : Stmt := inClass (topS 12) 2
abbrev sBehindM : Stmt := inClass (topS 12) 3
/-- a def of the text as the top has left it -/
structure DefAt (K : PySem.W.Frag) (mg : Str → Option Value) (x : Str) (st : Stmt) (ps : List Str) (f : Addr) (fd : FuncData) : Prop where
  fn : Fun K x x st f fd
  bi : Binds K fd ps []
  mg : mg x = some (.ref f)
/-- the names that are the interpreter's own -/
structure Bare (mg : Str → Option Value) : Prop where
  len : mg "len" = none
  isinstance : mg "isinstance" = none
  int : mg "int" = none
  bool : mg "bool" = none
  tuple : mg "tuple" = none
  all : mg "all" = none
  enumerate : mg "enumerate" = none
  zip : mg "zip" = none
  range : mg "range" = none
  list : mg "list" = none
  set : mg "set" = none
  sorted : mg "sorted" = none
  abs : mg "abs" = none
  max : mg "max" = none
  min : mg "min" = none
  repr : mg "repr" = none
  dict : mg "dict" = none
  any : mg "any" = none
  str : mg "str" = none
section
variable {P : Program} {w : World} {K : PySem.W.Frag} {mg : Str → Option Value} {base : Heap}
/-! ### is_whole -/
theorem scWhole : FnScope ["thing"] ["thing"] (defScope sWhole) := ⟨rfl, rfl, rfl, by decide +kernel, rfl, by decide +kernel, by decide +kernel⟩
def spWhole : Sp := fun vs H Q _ => ∃ i : Int, vs = [.int i] ∧ Q (.bl true) H
theorem ok_whole {f : Addr} {fd : FuncData} (F : Fun K "is_whole" "is_whole" sWhole f fd) (B : Bare mg) : FnOk P w K mg base CX0 1 f fd ["thing"] spWhole := by
  refine F.ok scWhole (fun vs H Q E h => ?_) (fun cdv A outer s H vs Q E hr h => ?_)
  · obtain ⟨i, rfl, _⟩ := h
    rfl
  · obtain ⟨i, rfl, q⟩ := h
    refine ⟨_, pss_one (ps_ret (pe_and (pe_callB call_isi (by rfl) B.isinstance (by decide +kernel) (pa_cons (pv 0) (pa_cons (pe_bltn (v := .ty "int") (by rfl) B.int boot_int rfl) pa_nil)))
      (pe_one (pe_not (pe_callB call_isi (by rfl) B.isinstance (by decide +kernel) (pa_cons (pv 0) (pa_cons (pe_bltn (v := .ty "bool") (by rfl) B.bool (by decide +kernel) rfl) pa_nil))))))), ?_⟩
    refine ⟨.int i, rfl, .int i, .ty "int", _, _, true, rfl, .ty "int", .base (.int i), kit_ty (by decide +kernel), true, rfl, iteT ?_⟩
    exact ⟨.int i, rfl, .int i, .ty "bool", _, _, false, rfl, .ty "bool", .base (.int i), kit_ty (by decide +kernel), false, rfl, q⟩
/-! ### is_below -/
theorem scMark : FnScope ["thing", "many"] ["thing", "many"] (defScope sMark) := ⟨rfl, rfl, rfl, by decide +kernel, rfl, by decide +kernel, by decide +kernel⟩
def spMark : Sp := fun vs H Q _ => ∃ i n : Int, vs = [.int i, .int n] ∧ 0 ≤ i ∧ i < n ∧ Q (.bl true) H
theorem ok_mark {f fW : Addr} {fd fdW : FuncData} (F : Fun K "is_below" "is_below" sMark f fd) (D : DefAt K mg "is_whole" sWhole ["thing"] fW fdW) (B : Bare mg) : FnOk P w K mg base CX0 2 f fd ["thing", "many"] spMark := by
  have GW : FnOk P w K mg base CX0 1 fW fdW ["thing"] spWhole := ok_whole D.fn B
  refine F.ok scMark (fun vs H Q E h => ?_) (fun cdv A outer s H vs Q E hr h => ?_)
  · obtain ⟨i, n, rfl, _⟩ := h
    rfl
  · obtain ⟨i, n, rfl, h1, h2, q⟩ := h
    refine ⟨_, pss_one (ps_ret (pe_and (pe_call GW hr (by rfl) D.mg D.fn.kp D.bi .nil pass0 (pa_cons (pv 0) pa_nil)) (pe_one (pe_chain op_le op_lt pe_int (pv 0) (pv 1))))), ?_⟩
    refine ⟨.int i, rfl, i, rfl, true, rfl, iteT ?_⟩
    refine ⟨.int i, rfl, 0, i, rfl, rfl, _, rfl, ?_⟩
    rw [decide_eq_true h1]
    refine iteT ⟨.int n, rfl, i, n, rfl, rfl, ?_⟩
    show Q (.bl (decide (i < n))) H
    rw [decide_eq_true h2]
    exact q
/-! ### are_marks -/
theorem scMarks : FnScope ["thing", "many", "mark"] ["thing", "many"] (defScope sMarks) := ⟨rfl, rfl, rfl, by decide +kernel, rfl, by decide +kernel, by decide +kernel⟩
def spMarks (K : PySem.W.Frag) : Sp := fun vs H Q _ => ∃ (a : Addr) (ns : List Int) (n : Int), vs = [.ref a, .int n] ∧ SqT K H a (ns.map V.int) ∧ 0 < ns.length ∧ ns.length ≤ 1000 ∧ (∀ i ∈ ns, 0 ≤ i ∧ i < n) ∧ ∀ H', Same H H' → Q (.bl true) H'
theorem ok_marks {f fM fW : Addr} {fd fdM fdW : FuncData} (F : Fun K "are_marks" "are_marks" sMarks f fd) (DM : DefAt K mg "is_below" sMark ["thing", "many"] fM fdM) (DW : DefAt K mg "is_whole" sWhole ["thing"] fW fdW) (B : Bare mg) :
    FnOk P w K mg base CX0 3 f fd ["thing", "many"] (spMarks K) := by
  have GM : FnOk P w K mg base CX0 2 fM fdM ["thing", "many"] spMark := ok_mark DM.fn DW B
  refine F.ok scMarks (fun vs H Q E h => ?_) (fun cdv A outer s H vs Q E hr h => ?_)
  · obtain ⟨a, ns, n, rfl, _⟩ := h
    rfl
  · obtain ⟨a, ns, n, rfl, hT, h0, hm, hin, q⟩ := h
    refine ⟨_, pss_one (ps_ret (pe_and (pe_callB call_isi (by rfl) B.isinstance (by decide +kernel) (pa_cons (pv 0) (pa_cons (pe_bltn (v := .ty "tuple") (by rfl) B.tuple (by decide +kernel) rfl) pa_nil)))
      (pe_and (pe_cmpR op_gt (pe_callB call_len_seq (by rfl) B.len PySem.boot_len (pa_cons (pv 0) pa_nil)) pe_int (nomark _))
      (pe_one (pe_callB (cr_all rfl) (by rfl) B.all (by decide +kernel) (pa_cons
        (pe_lc (own := [("mark", 2)]) (g := gName 2) (tt := tYes) rfl scMarks.nd (pi_tup (pv 0)) (blkOk_by (N := ["thing", "many", "mark"]) (sc := defScope sMarks) (by decide +kernel)) (fun _ _ _ _ _ => pg_name (i := 2) scMarks.nd rfl (Or.inl rfl)) (fun _ _ _ _ _ => pts_nil)
          (fun _ _ _ _ _ => pe_call GM hr (by rfl) DM.mg DM.fn.kp DM.bi .nil pass0 (pa_cons (pv 2) (pa_cons (pv 1) pa_nil)))) pa_nil)))))), ?_⟩
    refine ⟨.ref a, rfl, .ref a, .ty "tuple", _, _, true, rfl, .ty "tuple", tyT hT, kit_ty (by decide +kernel), true, rfl, iteT ?_⟩
    refine ⟨.ref a, rfl, a, _, rfl, .inr hT, _, _, rfl, rfl, decide (((ns.map V.int).length : Int) > 0), rfl, ?_⟩
    rw [decide_eq_true (show ((ns.map V.int).length : Int) > 0 by rw [List.length_map]; omega)]
    refine iteT ⟨.ref a, rfl, a, rfl, ⟨_, hT⟩, fun D nD => ?_⟩
    refine lc_tup (K := K) (a := a) (xs := ns.map V.int) (fun i H' => Same H H' ∧ H' D = some (.lst (List.replicate i (V.bl true)))) ⟨same_upd nD, upd_same⟩ (fun i H' _ p => sqT_same p.1 hT) (fun i x H' hx p => ?_) fun H' p => ?_
    · obtain ⟨m, hm', rfl⟩ := map_at hx
      have hi : i < ns.length := (List.getElem?_eq_some_iff.mp hm').1
      have hr' := hin m (List.mem_of_getElem? hm')
      refine ⟨rfl, tt_yes ⟨.int m, rfl, .int n, rfl, m, n, rfl, hr'.1, hr'.2, _, p.2, ?_, ?_, ?_⟩⟩
      · rw [List.length_replicate]; exact few1 (by omega)
      · exact fun b o e => by rw [upd_ne (ne_of_none e nD)]; exact p.1 b o e
      · rw [upd_same, rep_next]
    · rw [List.length_map, rep_bl] at p
      refine ⟨D, _, rfl, lstNew p.2, ?_⟩
      rw [all_true]
      exact q H' p.1
end
end K50
set_option maxHeartbeats 4000000
namespace K50
open PySem PySem.Spec PyProof.Rows L2 RV
/-- mirrors of one to eight marks -/
structure Mir (ns : List Int) : Prop where
  pos : 0 < ns.length
  few : ns.length ≤ 8
  inn : ∀ i ∈ ns, 0 ≤ i ∧ i < (ns.length : Int)
  back : ∀ (k : Nat) (m : Int), ns[k]? = some m → ns[m.toNat]? = some (k : Int)
/-- a rising tuple of steps, with their mirror steps -/
structure Stp (ns : List Int) (ps : List (List Int)) : Prop where
  few : ps.length ≤ 64
  pair : ∀ p ∈ ps, ∃ x y : Int, p = [x, y] ∧ (0 ≤ x ∧ x < (ns.length : Int)) ∧ (0 ≤ y ∧ y < (ns.length : Int))
  rise : ∀ (i : Nat) (p q : List Int), ps[i]? = some p → ps[i + 1]? = some q → HT.lexLt p q = true
  mirr : ∀ x y mx my : Int, [x, y] ∈ ps → ns[x.toNat]? = some mx → ns[y.toNat]? = some my → [my, mx] ∈ ps
  nd : ps.Nodup
section
variable {P : Program} {w : World} {K : PySem.W.Frag} {mg : Str → Option Value} {base : Heap}
/-! ### are_mirrors -/
theorem scMirrors : FnScope ["thing", "mark", "mirror"] ["thing"] (defScope sMirrors) := ⟨rfl, rfl, rfl, by decide +kernel, rfl, by decide +kernel, by decide +kernel⟩
def spMirrors (K : PySem.W.Frag) : Sp := fun vs H Q _ => ∃ (a : Addr) (ns : List Int), vs = [.ref a] ∧ SqT K H a (ns.map V.int) ∧ Mir ns ∧ ∀ H', Same H H' → Q (.bl true) H'
theorem ok_mirrors {f fA : Addr} {fd fdA : FuncData} {t : Tok} (F : Fun K "are_mirrors" "are_mirrors" sMirrors f fd) (DA : DefAt K mg "are_marks" sMarks ["thing", "many"] fA fdA) (GA : FnOk P w K mg base CX0 3 fA fdA ["thing", "many"] (spMarks K)) (B : Bare mg)
    (mM : mg "MOST_MARKS" = some (.int 8 t)) : FnOk P w K mg base CX0 4 f fd ["thing"] (spMirrors K) := by
  refine F.ok scMirrors (fun vs H Q E h => ?_) (fun cdv A outer s H vs Q E hr h => ?_)
  · obtain ⟨a, ns, rfl, _⟩ := h
    rfl
  · obtain ⟨a, ns, rfl, hT, hM, q⟩ := h
    refine ⟨_, pss_cons (ps_if (PW.pt (pw_or (pt_not (pt_val (pe_callB call_isi (by rfl) B.isinstance (by decide +kernel) (pa_cons (pv 0) (pa_cons (pe_bltn (v := .ty "tuple") (by rfl) B.tuple (by decide +kernel) rfl) pa_nil)))))
        (pw_or1 (pt_cmpR op_gt (pe_callB call_len_seq (by rfl) B.len PySem.boot_len (pa_cons (pv 0) pa_nil)) (pe_glob (v := .int 8) rfl mM ⟨_, rfl⟩) (nomark _))))) (pss_one (ps_ret pe_bl)) pss_nil)
      (pss_cons (ps_if (pt_not (pt_val (pe_call GA hr (by rfl) DA.mg DA.fn.kp DA.bi .nil pass0 (pa_cons (pv 0) (pa_cons (pe_callB call_len_seq (by rfl) B.len PySem.boot_len (pa_cons (pv 0) pa_nil)) pa_nil))))) (pss_one (ps_ret pe_bl)) pss_nil)
      (pss_one (ps_ret (pe_callB (cr_all rfl) (by rfl) B.all (by decide +kernel) (pa_cons
        (pe_lc (own := [("mark", 1), ("mirror", 2)]) (g := gTup K 2 (gCons (gName 1) (gCons (gName 2) gNil))) (tt := tYes) rfl scMirrors.nd (pi_enT (by rfl) B.enumerate (pa_cons (pv 0) pa_nil)) (blkOk_by (N := ["thing", "mark", "mirror"]) (sc := defScope sMirrors) (by decide +kernel))
          (fun _ _ _ _ _ => pg_tupK rfl rfl (pgs_cons (pg_name (i := 1) scMirrors.nd rfl (Or.inl rfl)) (pgs_cons (pg_name (i := 2) scMirrors.nd rfl (Or.inl rfl)) pgs_nil))) (fun _ _ _ _ _ => pts_nil)
          (fun _ _ _ _ _ => pe_cmpR op_eq (pe_ix (ix_tupK (K := K) rfl) (pv 0) (pv 2) (fun _ _ => rfl)) (pv 1) (nomark _))) pa_nil))))), ?_⟩
    refine ⟨.ref a, rfl, .ref a, .ty "tuple", _, _, true, rfl, .ty "tuple", tyT hT, kit_ty (by decide +kernel), true, rfl, iteF ?_⟩
    refine ⟨.ref a, rfl, a, _, rfl, .inr hT, _, _, rfl, rfl, decide (((ns.map V.int).length : Int) > 8), rfl, ?_⟩
    have h8 := hM.few
    rw [decide_eq_false (show ¬ ((ns.map V.int).length : Int) > 8 by rw [List.length_map]; omega)]
    refine iteF ?_
    refine ⟨.ref a, rfl, .ref a, rfl, a, _, rfl, .inr hT, a, ns, _, rfl, hT, hM.pos, by omega, fun i hi => ?_, fun H1 s1 => ⟨true, rfl, iteF ?_⟩⟩
    · rw [List.length_map]; exact hM.inn i hi
    · refine ⟨.ref a, rfl, a, _, rfl, sqT_same s1 hT, fun D nD => ?_⟩
      refine lc_it (walk_enT (K := K) (a := a) (xs := ns.map V.int)) (fun i H' => Same H1 H' ∧ H' D = some (.lst (List.replicate i (V.bl true)))) ⟨same_upd nD, upd_same⟩ (fun i H' _ p => sqT_same p.1 (sqT_same s1 hT)) (fun i x H2 H3 hi p y => ?_) fun H' p => ?_
      · obtain ⟨T, x1, x2, rfl, nT, rfl, e1, e2⟩ := y
        have e1' : x1 = .int (i : Nat) := (Option.some.inj e1).symm
        subst e1'
        obtain ⟨m, hm, rfl⟩ := map_at e2
        have hin := hM.inn m (List.mem_of_getElem? hm)
        have hil : i < ns.length := (List.getElem?_eq_some_iff.mp hm).1
        have hDT : D ≠ T := ne_of_none p.2 nT
        have sT : Same H2 (upd H2 T (.tup [.int (i : Nat), .int m])) := same_upd nT
        have hA : SqT K (upd H2 T (.tup [.int (i : Nat), .int m])) a (ns.map V.int) := sqT_same sT (sqT_same p.1 (sqT_same s1 hT))
        have gm : (ns.map V.int)[m.toNat]? = some (.int (i : Nat)) := by
          rw [List.getElem?_map, hM.back i m hm]; rfl
        refine ⟨T, _, rfl, tupNew upd_same, rfl, _, _, rfl, _, _, rfl, rfl, rfl, tt_yes ⟨.ref a, rfl, .int m, rfl, a, _, m, .int (i : Nat), rfl, rfl, hA, ?_, .int (i : Nat), rfl, rfl, _, (sT _ _ p.2), ?_, ?_, ?_⟩⟩
        · have e : m = ((m.toNat : Nat) : Int) := by omega
          rw [e]; exact atI_nat gm
        · rw [List.length_replicate]; exact few1 (by omega)
        · exact fun b o e => by rw [upd_ne (ne_of_none e nD)]; exact sT b o (p.1 b o e)
        · rw [upd_same, decide_eq_true rfl, rep_next]
      · rw [List.length_map, rep_bl] at p
        refine ⟨D, _, rfl, lstNew p.2, ?_⟩
        rw [all_true]
        exact q H' (s1.trans p.1)
end
end K50
namespace K50
open PySem PySem.Spec PyProof.Rows L2 RV
def rgI (a b : Int) : List Int := (List.range (b - a).toNat).map fun (i : Nat) => a + (i : Int)
theorem rgV_rgI (a b : Int) : rgV a b = (rgI a b).map V.int := by
  unfold rgV rgI
  rw [List.map_map]; rfl
theorem rgI_len (a b : Int) : (rgI a b).length = (b - a).toNat := by unfold rgI; rw [List.length_map, List.length_range]
theorem rgI_get {a b : Int} {k : Nat} {m : Int} : (rgI a b)[k]? = some m ↔ k < (b - a).toNat ∧ m = a + (k : Int) := by
  unfold rgI
  rw [List.getElem?_map]
  by_cases h : k < (b - a).toNat
  · rw [List.getElem?_range h]
    simp [h, eq_comm]
  · rw [List.getElem?_eq_none (by rw [List.length_range]; omega)]
    simp [h]
/-! ### mirrors drawn: fs so far, ls the marks left -/
structure Half (m : Nat) (fs ls : List Int) : Prop where
  len : fs.length = m
  inn : ∀ (k : Nat) (x : Int), fs[k]? = some x → 0 ≤ x ∧ x < (m : Int)
  back : ∀ (k : Nat) (x : Int), fs[k]? = some x → fs[x.toNat]? = some (k : Int)
  nd : ls.Nodup
  lin : ∀ x ∈ ls, 0 ≤ x ∧ x < (m : Int)
  self : ∀ x ∈ ls, fs[x.toNat]? = some x
theorem half_start (m : Nat) : Half m (rgI 0 (m : Int)) (rgI 0 (m : Int)) := by
  have mem : ∀ x ∈ rgI 0 (m : Int), 0 ≤ x ∧ x < (m : Int) := fun x hx => by
    obtain ⟨k, hk, e⟩ := List.getElem_of_mem hx
    have z : (rgI 0 (m : Int))[k]? = some x := by rw [List.getElem?_eq_getElem hk, e]
    rw [rgI_get] at z; omega
  refine ⟨by rw [rgI_len]; omega, fun k x h => ?_, fun k x h => ?_, ?_, mem, fun x hx => ?_⟩
  · rw [rgI_get] at h; omega
  · rw [rgI_get] at h ⊢; omega
  · unfold rgI
    refine List.Pairwise.map _ (fun a b (h : a < b) => ?_) List.pairwise_lt_range
    omega
  · have := mem x hx
    rw [rgI_get]; omega
theorem half_drop {m : Nat} {fs ls : List Int} {x : Int} (h : Half m fs (x :: ls)) : Half m fs ls :=
  ⟨h.len, h.inn, h.back, (List.nodup_cons.mp h.nd).2, fun y hy => h.lin y (List.mem_cons_of_mem _ hy), fun y hy => h.self y (List.mem_cons_of_mem _ hy)⟩
theorem not_in_erase : ∀ {ls : List Int} {r : Nat} {z : Int}, ls.Nodup → ls[r]? = some z → z ∉ ls.eraseIdx r
  | [], _, _, _, h => by simp at h
  | a :: l, 0, z, nd, h => by
    have e : a = z := Option.some.inj h
    subst e
    exact (List.nodup_cons.mp nd).1
  | a :: l, r + 1, z, nd, h => by
    have h' : l[r]? = some z := h
    intro hz
    rcases List.mem_cons.mp (show z ∈ a :: l.eraseIdx r from hz) with e | e
    · exact (List.nodup_cons.mp nd).1 (e ▸ List.mem_of_getElem? h')
    · exact not_in_erase (List.nodup_cons.mp nd).2 h' e
theorem half_pair {m : Nat} {fs ls : List Int} {x y : Int} {r : Nat} (h : Half m fs (x :: ls)) (hy : ls[r]? = some y) : Half m ((fs.set x.toNat y).set y.toNat x) (ls.eraseIdx r) := by
  have hx := h.lin x (List.mem_cons_self ..)
  have hyl : y ∈ ls := List.mem_of_getElem? hy
  have hy1 := h.lin y (List.mem_cons_of_mem _ hyl)
  have hxy : x ≠ y := fun e => (List.nodup_cons.mp h.nd).1 (e ▸ hyl)
  have sx := h.self x (List.mem_cons_self ..)
  have sy := h.self y (List.mem_cons_of_mem _ hyl)
  have hl := h.len
  have nxy : x.toNat ≠ y.toNat := by omega
  have get : ∀ k : Nat, ((fs.set x.toNat y).set y.toNat x)[k]? = if y.toNat = k then (if k < m then some x else none) else if x.toNat = k then (if k < m then some y else none) else fs[k]? := fun k => by
    rw [List.getElem?_set, List.getElem?_set, List.length_set, hl]
    by_cases e1 : y.toNat = k
    · simp [e1]
    · by_cases e2 : x.toNat = k
      · simp [e1, e2]
      · simp [e1, e2]
  have sub : ∀ z ∈ ls.eraseIdx r, z ∈ ls := fun z hz => List.mem_of_mem_eraseIdx hz
  refine ⟨by rw [List.length_set, List.length_set]; exact hl, fun k z hz => ?_, fun k z hz => ?_, ?_, fun z hz => h.lin z (List.mem_cons_of_mem _ (sub z hz)), fun z hz => ?_⟩
  · rw [get] at hz
    split at hz
    · split at hz
      · cases hz; exact hx
      · cases hz
    · split at hz
      · split at hz
        · cases hz; exact hy1
        · cases hz
      · exact h.inn k z hz
  · rw [get] at hz
    split at hz
    · rename_i e1
      split at hz
      · cases hz
        rw [get, if_neg (by omega), if_pos rfl, if_pos (by omega)]
        congr 1; omega
      · cases hz
    · rename_i e1
      split at hz
      · rename_i e2
        split at hz
        · cases hz
          rw [get, if_pos rfl, if_pos (by omega)]
          congr 1; omega
        · cases hz
      · rename_i e2
        have b1 := h.back k z hz
        have i1 := h.inn k z hz
        have n1 : y.toNat ≠ z.toNat := fun e => by
          have : z = y := by omega
          subst this
          rw [sy] at b1
          have := Option.some.inj b1
          omega
        have n2 : x.toNat ≠ z.toNat := fun e => by
          have : z = x := by omega
          subst this
          rw [sx] at b1
          have := Option.some.inj b1
          omega
        rw [get, if_neg n1, if_neg n2]; exact b1
  · exact List.Nodup.sublist (List.eraseIdx_sublist ls r) (List.nodup_cons.mp h.nd).2
  · have hzl := sub z hz
    have z1 := h.lin z (List.mem_cons_of_mem _ hzl)
    have zx : z ≠ x := fun e => (List.nodup_cons.mp h.nd).1 (e ▸ hzl)
    have zy : z ≠ y := fun e => by
      subst e
      exact not_in_erase (List.nodup_cons.mp h.nd).2 hy hz
    rw [get, if_neg (by omega), if_neg (by omega)]
    exact h.self z (List.mem_cons_of_mem _ hzl)
theorem half_mir {m : Nat} {fs : List Int} (h : Half m fs []) (h1 : 1 ≤ m) (h8 : m ≤ 8) : Mir fs := by
  have hl := h.len
  refine ⟨by omega, by omega, fun x hx => ?_, h.back⟩
  obtain ⟨k, hk, e⟩ := List.getElem_of_mem hx
  have := h.inn k x (by rw [List.getElem?_eq_getElem hk, e])
  omega
end K50
set_option maxHeartbeats 4000000
namespace K50
open PySem PySem.Spec PyProof.Rows L2 RV
/-- a pail of numbers stands at p, t have been mixed -/
def PailAt (H : Hp) (p : Addr) (t : Nat) : Prop := ∃ x y : Int, H p = some (.lst [.int x, .int y, .int (t : Int)]) ∧ 0 ≤ x ∧ 0 ≤ y ∧ y < 2147483629
/-- all stands but what is at p -/
def But (p : Addr) (H H' : Hp) : Prop := ∀ c o, H c = some o → c ≠ p → H' c = some o
theorem But.refl (p : Addr) (H : Hp) : But p H H := fun _ _ e _ => e
theorem But.trans {p : Addr} {H H1 H2 : Hp} (a : But p H H1) (b : But p H1 H2) : But p H H2 := fun c o e z => b c o (a c o e z) z
theorem But.of {p : Addr} {H H' : Hp} (s : Same H H') : But p H H' := fun c o e _ => s c o e
section
variable {P : Program} {w : World} {K : PySem.W.Frag} {mg : Str → Option Value} {base : Heap}
/-! ### _law_pail -/
theorem scPail : FnScope ["_law_script", "_law_at", "_law_cell", "_law_own"] ["_law_script", "_law_at"] (defScope sPail) := ⟨rfl, rfl, rfl, by decide +kernel, rfl, by decide +kernel, by decide +kernel⟩
def spPail (K : PySem.W.Frag) : Sp := fun vs H Q _ => ∃ (a : Addr) (ns : List Int) (k : Nat), vs = [.ref a, .int (k : Int)] ∧ SqL K H a (ns.map V.int) ∧ k < 64 ∧ ∀ H' p, Same H H' → H p = none → PailAt H' p 0 → Q (.ref p) H'
theorem flag01 (b : Bool) : -(2 ^ 64) < (if b = true then (1 : Int) else 0) ∧ (if b = true then (1 : Int) else 0) < 2 ^ 64 := by cases b <;> decide
theorem mul_flag {x : Int} (h : 0 ≤ x) (b : Bool) : 0 ≤ x * (if b = true then (1 : Int) else 0) := by
  cases b
  · show 0 ≤ x * 0
    rw [Int.mul_zero]; exact Int.le_refl _
  · show 0 ≤ x * 1
    rw [Int.mul_one]; exact h
theorem pow60 : ((10 : Int) ^ (60 : Int).toNat).natAbs < 2 ^ 200 := by decide +kernel
theorem pow120 : ((10 : Int) ^ (60 : Int).toNat * (10 : Int) ^ (60 : Int).toNat).natAbs < 2 ^ 400 := by decide +kernel
theorem pow180 : (0 : Int) < (10 : Int) ^ (60 : Int).toNat * (10 : Int) ^ (60 : Int).toNat * (10 : Int) ^ (60 : Int).toNat := by decide +kernel
theorem ok_pail {f : Addr} {fd : FuncData} (F : Fun K "_law_pail" "_law_pail" sPail f fd) (B : Bare mg) : FnOk P w K mg base CX0 1 f fd ["_law_script", "_law_at"] (spPail K) := by
  refine F.ok scPail (fun vs H Q E h => ?_) (fun cdv A outer s H vs Q E hr h => ?_)
  · obtain ⟨a, ns, k, rfl, _⟩ := h
    rfl
  · obtain ⟨a, ns, k, rfl, hS, hk, q⟩ := h
    refine ⟨_, pss_cons (ps_set (i := 2) scPail.nd rfl (Or.inl rfl) (pe_ifExp (pt_cmpR op_lt (pv 1) (pe_callB call_len_seq (by rfl) B.len PySem.boot_len (pa_cons (pv 0) pa_nil)) (nomark _)) (pe_ix ix_list (pv 0) (pv 1) (fun _ _ => rfl)) (pe_op op_add (pe_op op_mul pe_int (pv 1)) pe_int)))
      (pss_cons (ps_set (i := 3) scPail.nd rfl (Or.inl rfl) (pe_op op_mod (pe_callB call_abs (by rfl) B.abs (by decide +kernel) (pa_cons (pv 2) pa_nil)) (pe_op op_mulW (pe_op op_mulW (pe_op op_pow pe_int pe_int) (pe_op op_pow pe_int pe_int)) (pe_op op_pow pe_int pe_int))))
      (pss_one (ps_ret (pe_lst (pa_cons (pe_op op_mul (pv 3) (pe_callTy call_int1 (by rfl) B.int boot_int (pa_cons (pe_cmpR op_ge (pe_callB call_abs (by rfl) B.abs (by decide +kernel) (pa_cons (pv 2) pa_nil)) (pe_op op_pow pe_int pe_int) (nomark _)) pa_nil)))
        (pa_cons (pe_op op_mod (pe_op op_mul (pe_op op_add (pe_op op_add (pe_op op_mod (pv 2) pe_int) (pe_op op_mul pe_int (pv 1))) pe_int) pe_int) pe_int) (pa_cons pe_int pa_nil))))))), ?_⟩
    refine ⟨.int (k : Int), rfl, .ref a, rfl, a, _, rfl, .inl hS, (k : Int), _, rfl, rfl, _, rfl, ?_⟩
    refine ite2 (fun hlt => ?_) (fun _ => ?_)
    · have hkl : k < ns.length := by
        have z := of_decide_eq_true hlt
        rw [List.length_map] at z; omega
      refine ⟨.ref a, rfl, .int (k : Int), rfl, a, _, (k : Int), .int ns[k], rfl, rfl, hS, atI_nat (by rw [List.getElem?_map, List.getElem?_eq_getElem hkl]; rfl), ?_⟩
      refine ⟨_, rfl, ns[k], rfl, 10, 60, rfl, rfl, ⟨by decide, by decide, by decide⟩, 10, 60, rfl, rfl, ⟨by decide, by decide, by decide⟩, _, _, rfl, rfl, wide_mul pow60 pow60 (by decide) (by decide) (by decide), 10, 60, rfl, rfl, ⟨by decide, by decide, by decide⟩, _, _, rfl, rfl, wide_mul pow120 pow60 (by decide) (by decide) (by decide), _, _, rfl, rfl, pow180, ?_⟩
      have own0 := Int.emod_nonneg (if ns[k] < 0 then -ns[k] else ns[k]) (Int.ne_of_gt pow180)
      refine ⟨_, rfl, _, rfl, ns[k], rfl, 10, 18, rfl, rfl, ⟨by decide, by decide, by decide⟩, _, _, rfl, rfl, .inr ⟨_, rfl, _, _, rfl, rfl, .inr ?_, _, rfl, ns[k], 2305843009213693951, rfl, rfl, (show (0 : Int) < 2305843009213693951 by decide), .int (k : Int), rfl, 7877, (k : Int), rfl, rfl, .inl ⟨by decide, by decide⟩, _, _, rfl, rfl, _, 29, rfl, rfl, _, 39373, rfl, rfl, .inr ⟨by decide, by decide⟩, _, 2147483629, rfl, rfl, (show (0 : Int) < 2147483629 by decide), ?_, fun p np => ?_⟩⟩
      · exact flag01 _
      · show 3 ≤ sizeLine; decide
      · refine q _ p (same_upd np) np ⟨_, _, upd_same, ?_, Int.emod_nonneg _ (by decide), Int.emod_lt_of_pos _ (by decide)⟩
        exact mul_flag own0 _
    · refine ⟨.int (k : Int), rfl, 11, (k : Int), rfl, rfl, .inl ⟨by decide, by decide⟩, _, 5, rfl, rfl, ?_⟩
      refine ⟨_, rfl, (11 * (k : Int) + 5), rfl, 10, 60, rfl, rfl, ⟨by decide, by decide, by decide⟩, 10, 60, rfl, rfl, ⟨by decide, by decide, by decide⟩, _, _, rfl, rfl, wide_mul pow60 pow60 (by decide) (by decide) (by decide), 10, 60, rfl, rfl, ⟨by decide, by decide, by decide⟩, _, _, rfl, rfl, wide_mul pow120 pow60 (by decide) (by decide) (by decide), _, _, rfl, rfl, pow180, ?_⟩
      have own0 := Int.emod_nonneg (if (11 * (k : Int) + 5) < 0 then -(11 * (k : Int) + 5) else (11 * (k : Int) + 5)) (Int.ne_of_gt pow180)
      refine ⟨_, rfl, _, rfl, (11 * (k : Int) + 5), rfl, 10, 18, rfl, rfl, ⟨by decide, by decide, by decide⟩, _, _, rfl, rfl, .inr ⟨_, rfl, _, _, rfl, rfl, .inr ?_, _, rfl, (11 * (k : Int) + 5), 2305843009213693951, rfl, rfl, (show (0 : Int) < 2305843009213693951 by decide), .int (k : Int), rfl, 7877, (k : Int), rfl, rfl, .inl ⟨by decide, by decide⟩, _, _, rfl, rfl, _, 29, rfl, rfl, _, 39373, rfl, rfl, .inr ⟨by decide, by decide⟩, _, 2147483629, rfl, rfl, (show (0 : Int) < 2147483629 by decide), ?_, fun p np => ?_⟩⟩
      · exact flag01 _
      · show 3 ≤ sizeLine; decide
      · refine q _ p (same_upd np) np ⟨_, _, upd_same, ?_, Int.emod_nonneg _ (by decide), Int.emod_lt_of_pos _ (by decide)⟩
        exact mul_flag own0 _
end
end K50
set_option maxHeartbeats 4000000
namespace K50
open PySem PySem.Spec PyProof.Rows L2 RV
section
variable {P : Program} {w : World} {K : PySem.W.Frag} {mg : Str → Option Value} {base : Heap}
/-! ### _law_draw -/
theorem scDraw : FnScope ["_law_pail_here", "_law_many", "_law_told", "_law_turn", "_law_prime", "_law_mixed"] ["_law_pail_here", "_law_many"] (defScope sDraw) := ⟨rfl, rfl, rfl, by decide +kernel, rfl, by decide +kernel, by decide +kernel⟩
def spDraw : Sp := fun vs H Q _ => ∃ (p : Addr) (t : Nat) (m : Int), vs = [.ref p, .int m] ∧ PailAt H p t ∧ t ≤ 2000 ∧ 1 ≤ m ∧ m ≤ 1000000 ∧
  ∀ (r : Int) (t' : Nat) (H' : Hp), 0 ≤ r → r < m → t' ≤ t + 1 → PailAt H' p t' → But p H H' → Q (.int r) H'
theorem primes_at (t : Int) (h : 0 ≤ t) : ∃ v : Int, atI [V.int 2147483587, V.int 2147483579, V.int 2147483563, V.int 2147483549, V.int 2147483543] (t % 5) = some (.int v) ∧ 0 < v ∧ v < 2147483648 := by
  have h5 : t % 5 = 0 ∨ t % 5 = 1 ∨ t % 5 = 2 ∨ t % 5 = 3 ∨ t % 5 = 4 := by omega
  rcases h5 with e | e | e | e | e <;> rw [e] <;> exact ⟨_, rfl, by decide, by decide⟩
theorem ix3 (j : Nat) (h : j < 3) : ixN 3 (j : Int) = some j := by
  rcases (show j = 0 ∨ j = 1 ∨ j = 2 by omega) with e | e | e <;> subst e <;> rfl
theorem ok_draw {f : Addr} {fd : FuncData} (F : Fun K "_law_draw" "_law_draw" sDraw f fd) : FnOk P w K mg base CX0 1 f fd ["_law_pail_here", "_law_many"] spDraw := by
  refine F.ok scDraw (fun vs H Q E h => ?_) (fun cdv A outer s H vs Q E hr h => ?_)
  · obtain ⟨p, t, m, rfl, _⟩ := h
    rfl
  · obtain ⟨p, t, m, rfl, ⟨x, y, hp, hx, hy0, hy1⟩, ht, hm1, hm2, q⟩ := h
    refine ⟨_, pss_cons (ps_if (pt_cmpR op_gt (pe_ix ix_list (pv 0) pe_int (fun _ _ => rfl)) pe_int (nomark _))
        (pss_cons (ps_set (i := 2) scDraw.nd rfl (Or.inl rfl) (pe_op op_mod (pe_ix ix_list (pv 0) pe_int (fun _ _ => rfl)) (pv 1)))
        (pss_cons (ps_asg (pe_op op_fdiv (pe_ix ix_list (pv 0) pe_int (fun _ _ => rfl)) (pv 1)) (pg_sub (pv 0) pe_int set_list))
        (pss_one (ps_ret (pv 2))))) pss_nil)
      (pss_cons (ps_asg (pe_op op_add (pe_ix ix_list (pv 0) pe_int (fun _ _ => rfl)) pe_int) (pg_sub (pv 0) pe_int set_list))
      (pss_cons (ps_set (i := 3) scDraw.nd rfl (Or.inl rfl) (pe_ix ix_list (pv 0) pe_int (fun _ _ => rfl)))
      (pss_cons (ps_set (i := 4) scDraw.nd rfl (Or.inl rfl) (pe_ix ix_list (pe_lst (pa_cons pe_int (pa_cons pe_int (pa_cons pe_int (pa_cons pe_int (pa_cons pe_int pa_nil)))))) (pe_op op_mod (pv 3) pe_int) (fun _ _ => rfl)))
      (pss_cons (ps_set (i := 5) scDraw.nd rfl (Or.inl rfl) (pe_op op_mod (pe_op op_pow (pe_op op_add (pe_op op_add (pe_ix ix_list (pv 0) pe_int (fun _ _ => rfl)) (pe_op op_mul (pe_op op_mul pe_int (pv 3)) (pv 3))) (pe_op op_mul pe_int (pv 3))) pe_int) (pv 4)))
      (pss_one (ps_ret (pe_op op_mod (pe_op op_fdiv (pe_op op_mod (pe_op op_mul (pv 5) (pe_op op_add (pe_op op_add (pe_op op_mod (pv 5) pe_int) (pv 3)) pe_int)) (pv 4)) pe_int) (pv 1)))))))), ?_⟩
    refine ⟨.ref p, rfl, p, _, 0, .int x, rfl, rfl, lstNew hp, rfl, x, 0, rfl, rfl, _, rfl, ite2 (fun hx0 => ?_) (fun _ => ?_)⟩
    · refine ⟨.ref p, rfl, p, _, 0, .int x, rfl, rfl, lstNew hp, rfl, .int m, rfl, x, m, rfl, rfl, (show 0 < m by omega), ?_⟩
      refine ⟨.ref p, rfl, p, _, 0, .int x, rfl, rfl, lstNew hp, rfl, .int m, rfl, x, m, rfl, rfl, ⟨by omega, by omega⟩, .ref p, rfl, p, _, 0, 0, rfl, rfl, hp, rfl, ?_⟩
      refine ⟨_, rfl, ?_⟩
      exact q (x % m) t _ (Int.emod_nonneg _ (by omega)) (Int.emod_lt_of_pos _ (by omega)) (by omega) ⟨x / m, y, upd_same, Int.ediv_nonneg hx (by omega), hy0, hy1⟩ fun c o e z => by rw [upd_ne z]; exact e
    · refine ⟨.ref p, rfl, p, _, 2, .int (t : Int), rfl, rfl, lstNew hp, rfl, (t : Int), 1, rfl, rfl, .ref p, rfl, p, _, 2, 2, rfl, rfl, hp, rfl, ?_⟩
      have hp1 : (upd H p (.lst [.int x, .int y, .int ((t : Int) + 1)])) p = some (.lst [.int x, .int y, .int ((t : Int) + 1)]) := upd_same
      have b1 : But p H (upd H p (.lst [.int x, .int y, .int ((t : Int) + 1)])) := fun c o e z => by rw [upd_ne z]; exact e
      refine ⟨.ref p, rfl, p, _, 2, .int ((t : Int) + 1), rfl, rfl, lstNew upd_same, rfl, ?_⟩
      obtain ⟨v, hv, v0, v1⟩ := primes_at ((t : Int) + 1) (by omega)
      refine ⟨(by show 5 ≤ sizeLine; decide), fun l nl => ⟨.int ((t : Int) + 1), rfl, (t : Int) + 1, 5, rfl, rfl, (show (0 : Int) < 5 by decide), l, _, _, .int v, rfl, rfl, lstNew upd_same, hv, ?_⟩⟩
      have s2 := same_upd (H := upd H p (.lst [.int x, .int y, .int ((t : Int) + 1)])) (o := .lst [.int 2147483587, .int 2147483579, .int 2147483563, .int 2147483549, .int 2147483543]) nl
      have hp2 := s2 _ _ hp1
      have tt : 0 ≤ ((t : Int) + 1) ∧ ((t : Int) + 1) ≤ 2001 := by omega
      have sq : 6151 * ((t : Int) + 1) * ((t : Int) + 1) ≤ 6151 * 2001 * 2001 := by
        have h1 : 6151 * ((t : Int) + 1) ≤ 6151 * 2001 := by omega
        exact Int.mul_le_mul h1 tt.2 tt.1 (by decide)
      have sq0 : 0 ≤ 6151 * ((t : Int) + 1) * ((t : Int) + 1) := Int.mul_nonneg (by omega) tt.1
      refine ⟨.ref p, rfl, p, _, 1, .int y, rfl, rfl, lstNew hp2, rfl, .int ((t : Int) + 1), rfl, 6151, _, rfl, rfl, .inl ⟨by decide, by decide⟩, .int ((t : Int) + 1), rfl, _, _, rfl, rfl, .inl ⟨by omega, by omega⟩, y, _, rfl, rfl, .int ((t : Int) + 1), rfl, 17, _, rfl, rfl, .inl ⟨by decide, by decide⟩, _, _, rfl, rfl, _, 3, rfl, rfl, ⟨by decide, by decide, ?_⟩, .int v, rfl, _, v, rfl, rfl, v0, ?_⟩
      · show (y + 6151 * ((t : Int) + 1) * ((t : Int) + 1) + 17 * ((t : Int) + 1)).natAbs < 2 ^ 64
        omega
      have z0 := Int.emod_nonneg ((y + 6151 * ((t : Int) + 1) * ((t : Int) + 1) + 17 * ((t : Int) + 1)) ^ (3 : Int).toNat) (show v ≠ 0 by omega)
      have z1 := Int.emod_lt_of_pos ((y + 6151 * ((t : Int) + 1) * ((t : Int) + 1) + 17 * ((t : Int) + 1)) ^ (3 : Int).toNat) v0
      refine ⟨_, rfl, _, rfl, _, 1009, rfl, rfl, (show (0 : Int) < 1009 by decide), .int ((t : Int) + 1), rfl, _, _, rfl, rfl, _, 1, rfl, rfl, _, _, rfl, rfl, .inl ?_, .int v, rfl, _, v, rfl, rfl, v0, _, 19, rfl, rfl, ⟨by decide, by decide⟩, .int m, rfl, _, m, rfl, rfl, (show 0 < m by omega), ?_⟩
      · exact ⟨by omega, by omega⟩
      · exact q _ (t + 1) _ (Int.emod_nonneg _ (by omega)) (Int.emod_lt_of_pos _ (by omega)) (Nat.le_refl _) ⟨x, y, hp2, hx, hy0, hy1⟩ (b1.trans (But.of s2))
end
end K50
set_option maxHeartbeats 4000000
namespace K50
open PySem PySem.Spec PyProof.Rows L2 RV
/-! ### what a draw leaves -/
theorem sqT_pail {K : PySem.W.Frag} {H H' : Hp} {p : Addr} {t : Nat} (hp : PailAt H p t) (b : But p H H') {a : Addr} {xs : List V} (h : SqT K H a xs) : SqT K H' a xs := by
  obtain ⟨x, y, e, _⟩ := hp
  rcases h with (h | ⟨o, h⟩) | h
  · exact .inl (.inl (b _ _ h fun z => by rw [z, e] at h; cases h))
  · exact .inl (.inr ⟨o, b _ _ h fun z => by rw [z, e] at h; cases h⟩)
  · exact .inr h
theorem sqL_but {K : PySem.W.Frag} {H H' : Hp} {p a : Addr} (b : But p H H') (n : a ≠ p) {xs : List V} (h : SqL K H a xs) : SqL K H' a xs := by
  rcases h with (h | ⟨o, h⟩) | h
  · exact .inl (.inl (b _ _ h n))
  · exact .inl (.inr ⟨o, b _ _ h n⟩)
  · exact .inr h
theorem tups_pail {K : PySem.W.Frag} {H H' : Hp} {p : Addr} {t : Nat} (hp : PailAt H p t) (b : But p H H') {a : Addr} {ps : List (List Int)} (h : Tups K H a ps) : Tups K H' a ps := by
  obtain ⟨ks, h1, h2, h3⟩ := h
  exact ⟨ks, h1, sqT_pail hp b h2, fun q hq => sqT_pail hp b (h3 q hq)⟩
theorem same_but {p : Addr} {H H1 H2 : Hp} (s : Same H H1) (n : H p = none) (b : But p H1 H2) : Same H H2 := fun c o e => b c o (s c o e) (ne_of_none e n)
theorem pail_same {p : Addr} {H H' : Hp} {t : Nat} (h : PailAt H p t) (s : Same H H') : PailAt H' p t := by
  obtain ⟨x, y, e, r⟩ := h
  exact ⟨x, y, s _ _ e, r⟩
theorem pail_new {p a : Addr} {H : Hp} {o : HO} {t : Nat} (h : PailAt H p t) (n : H a = none) : PailAt (upd H a o) p t := pail_same h (same_upd n)
theorem pail_set {p l : Addr} {H : Hp} {o : HO} {t : Nat} (h : PailAt H p t) (n : l ≠ p) : PailAt (upd H l o) p t := by
  obtain ⟨x, y, e, r⟩ := h
  exact ⟨x, y, by rw [upd_ne n.symm]; exact e, r⟩
theorem pail_ne {p a : Addr} {H : Hp} {t : Nat} (h : PailAt H p t) (n : H a = none) : a ≠ p := by
  obtain ⟨x, y, e, r⟩ := h
  exact (ne_of_none e n).symm
section
variable {P : Program} {w : World} {K : PySem.W.Frag} {mg : Str → Option Value} {base : Heap}
/-! ### _law_of -/
theorem scOf : FnScope ["_law_pail_here", "_law_some"] ["_law_pail_here", "_law_some"] (defScope sOf) := ⟨rfl, rfl, rfl, by decide +kernel, rfl, by decide +kernel, by decide +kernel⟩
def spOf (K : PySem.W.Frag) : Sp := fun vs H Q _ => ∃ (p a : Addr) (t : Nat) (xs : List V), vs = [.ref p, .ref a] ∧ PailAt H p t ∧ t ≤ 2000 ∧ SqL K H a xs ∧ a ≠ p ∧ 0 < xs.length ∧ xs.length ≤ 1000 ∧
  ∀ (j : Nat) (v : V) (t' : Nat) (H' : Hp), xs[j]? = some v → t' ≤ t + 1 → PailAt H' p t' → But p H H' → Q v H'
theorem ok_of {f fD : Addr} {fd fdD : FuncData} (F : Fun K "_law_of" "_law_of" sOf f fd) (DD : DefAt K mg "_law_draw" sDraw ["_law_pail_here", "_law_many"] fD fdD) (B : Bare mg) : FnOk P w K mg base CX0 2 f fd ["_law_pail_here", "_law_some"] (spOf K) := by
  have GD : FnOk P w K mg base CX0 1 fD fdD ["_law_pail_here", "_law_many"] spDraw := ok_draw DD.fn
  refine F.ok scOf (fun vs H Q E h => ?_) (fun cdv A outer s H vs Q E hr h => ?_)
  · obtain ⟨p, a, t, xs, rfl, _⟩ := h
    rfl
  · obtain ⟨p, a, t, xs, rfl, hp, ht, hS, hne, h0, h1, q⟩ := h
    refine ⟨_, pss_one (ps_ret (pe_ix ix_list (pv 1) (pe_call GD hr (by rfl) DD.mg DD.fn.kp DD.bi .nil pass0 (pa_cons (pv 0) (pa_cons (pe_callB call_len_seq (by rfl) B.len PySem.boot_len (pa_cons (pv 1) pa_nil)) pa_nil))) (fun _ _ => rfl))), ?_⟩
    refine ⟨.ref a, rfl, .ref p, rfl, .ref a, rfl, a, xs, rfl, .inl hS, p, t, (xs.length : Int), rfl, hp, ht, by omega, by omega, fun r t1 H1 r0 r1 ht1 hp1 b1 => ?_⟩
    obtain ⟨v, hv⟩ : ∃ v, xs[r.toNat]? = some v := ⟨_, List.getElem?_eq_getElem (by omega)⟩
    refine ⟨a, xs, r, v, rfl, rfl, sqL_but b1 hne hS, ?_, q r.toNat v t1 H1 hv ht1 hp1 b1⟩
    rw [show r = ((r.toNat : Nat) : Int) by omega]
    exact atI_nat hv
theorem erase_map {α β : Type} (f : α → β) : ∀ (l : List α) (i : Nat), (l.map f).eraseIdx i = (l.eraseIdx i).map f
  | [], _ => rfl
  | a :: l, 0 => rfl
  | a :: l, i + 1 => by
    show f a :: (l.map f).eraseIdx i = f a :: (l.eraseIdx i).map f
    rw [erase_map f l i]
theorem ix_at {n : Nat} {i : Int} (h1 : i < (n : Int)) (h0 : 0 ≤ i) : ixN n i = some i.toNat := by
  unfold ixN
  rw [if_pos h0, if_pos h1]
/-! ### _law_mirrors -/
theorem scDMirrors : FnScope ["_law_pail_here", "_law_many", "_law_left", "_law_found", "_law_mark", "_law_other"] ["_law_pail_here", "_law_many"] (defScope sDMirrors) := ⟨rfl, rfl, rfl, by decide +kernel, rfl, by decide +kernel, by decide +kernel⟩
def spDMirrors (K : PySem.W.Frag) : Sp := fun vs H Q _ => ∃ (p : Addr) (t m : Nat), vs = [.ref p, .int (m : Int)] ∧ PailAt H p t ∧ t ≤ 1500 ∧ 1 ≤ m ∧ m ≤ 8 ∧
  ∀ (H' : Hp) (u : Addr) (t' : Nat) (ns : List Int), PailAt H' p t' → t' ≤ t + 20 → But p H H' → SqT K H' u (ns.map V.int) → Mir ns → Q (.ref u) H'
def lenAt (H : Hp) (a : Addr) : Nat := match H a with
  | some (.lst xs) => xs.length
  | _ => 0
theorem lenAt_eq {H : Hp} {a : Addr} {xs : List V} (h : H a = some (.lst xs)) : lenAt H a = xs.length := by unfold lenAt; rw [h]
theorem shapedL (ns : List Int) : SeqAt.shaped (.list (ns.map PyData.int)) = true := by
  have h1 : (PyData.list (ns.map PyData.int)).canLay0 = true := by simp only [PyData.canLay0]; exact lay_ints ns
  have h2 : (PyData.list (ns.map PyData.int)).depth ≤ 64 := by simp only [PyData.depth, dep_ints]; omega
  show ((PyData.list (ns.map PyData.int)).canLay0 && decide ((PyData.list (ns.map PyData.int)).depth ≤ 64)) = true
  rw [h1, decide_eq_true h2]; rfl
theorem eqvL (ns ms : List Int) : PyData.eqv (.list (ns.map PyData.int)) (.list (ms.map PyData.int)) = decide (ns = ms) := by simp only [PyData.eqv, eqv_ints]
theorem ok_dmirrors {f fD : Addr} {fd fdD : FuncData} (F : Fun K "_law_mirrors" "_law_mirrors" sDMirrors f fd) (DD : DefAt K mg "_law_draw" sDraw ["_law_pail_here", "_law_many"] fD fdD) (B : Bare mg) : FnOk P w K mg base CX0 2 f fd ["_law_pail_here", "_law_many"] (spDMirrors K) := by
  have GD : FnOk P w K mg base CX0 1 fD fdD ["_law_pail_here", "_law_many"] spDraw := ok_draw DD.fn
  refine F.ok scDMirrors (fun vs H Q E h => ?_) (fun cdv A outer s H vs Q E hr h => ?_)
  · obtain ⟨p, t, m, rfl, _⟩ := h
    rfl
  · obtain ⟨p, t, m, rfl, hp, ht, m1, m8, q⟩ := h
    refine ⟨_, pss_cons (ps_par (i := 2) (j := 3) (by rfl) scDMirrors.nd rfl rfl (by decide) rfl rfl (pa_cons (pe_listRg rfl (by rfl) B.list (prg_1 (by rfl) B.range (pv 1))) (pa_cons (pe_listRg rfl (by rfl) B.list (prg_1 (by rfl) B.range (pv 1))) pa_nil)) (by rfl))
      (pss_cons (ps_while PassesOwn.never (pt_cmpR (op_neD hr.units) (pv 2) (pe_lst pa_nil) (nomark _))
        (pss_cons (ps_set (i := 4) scDMirrors.nd rfl (Or.inl rfl) (pe_bm PySem.F.plainAttrs_list PySem.F.slot_list_pop PySem.F.type_list_pop mt_popAt (pv 2) (pa_cons pe_int pa_nil)))
        (pss_one (ps_if (PW.pt (pw_and (pt_cmpR (op_neD hr.units) (pv 2) (pe_lst pa_nil) (nomark _)) (pw_and1 (pt_cmpR op_eq (pe_call GD hr (by rfl) DD.mg DD.fn.kp DD.bi .nil pass0 (pa_cons (pv 0) (pa_cons pe_int pa_nil))) pe_int (nomark _)))))
          (pss_cons (ps_set (i := 5) scDMirrors.nd rfl (Or.inl rfl) (pe_bm PySem.F.plainAttrs_list PySem.F.slot_list_pop PySem.F.type_list_pop mt_popAt (pv 2) (pa_cons (pe_call GD hr (by rfl) DD.mg DD.fn.kp DD.bi .nil pass0 (pa_cons (pv 0) (pa_cons (pe_callB call_len_seq (by rfl) B.len PySem.boot_len (pa_cons (pv 2) pa_nil)) pa_nil))) pa_nil)))
          (pss_cons (ps_asg (pv 5) (pg_sub (pv 3) (pv 4) set_list))
          (pss_one (ps_asg (pv 4) (pg_sub (pv 3) (pv 5) set_list))))) pss_nil))))
      (pss_one (ps_ret (pe_tupleOf (by rfl) B.tuple (pv 3))))), ?_⟩
    refine ⟨.int (m : Int), rfl, (m : Int), rfl, RgOk.of_le (by omega) (by omega) (by omega) (by omega), fun a na => ?_⟩
    refine ⟨.int (m : Int), rfl, (m : Int), rfl, RgOk.of_le (by omega) (by omega) (by omega) (by omega), fun b nb => ⟨.ref a, .ref b, rfl, ?_⟩⟩
    have hab : a ≠ b := ne_of_none upd_same nb
    have hap : a ≠ p := pail_ne hp na
    have hbp : b ≠ p := pail_ne (pail_new hp na) nb
    have nbH : H b = none := (same_upd na).free nb
    have s0 := (same_upd (o := .lst (rgV 0 (m : Int))) na).trans (same_upd (o := .lst (rgV 0 (m : Int))) nb)
    refine while_by (fun σ H' => ∃ (y4 y5 : Option V) (t' : Nat) (fs ls : List Int), σ = [some (.ref p), some (.int (m : Int)), some (.ref a), some (.ref b), y4, y5] ∧ But p H H' ∧ PailAt H' p t' ∧ t' + 2 * ls.length ≤ t + 16 ∧ H' a = some (.lst (ls.map V.int)) ∧ H' b = some (.lst (fs.map V.int)) ∧ Half m fs ls)
      (fun σ H' => lenAt H' a) ?_ ?_ ?_
    · refine ⟨none, none, t, rgI 0 (m : Int), rgI 0 (m : Int), rfl, But.of s0, pail_same hp s0, by rw [rgI_len]; omega, ?_, ?_, half_start m⟩
      · rw [upd_ne hab, upd_same, rgV_rgI]
      · rw [upd_same, rgV_rgI]
    · rintro σ H1 ⟨y4, y5, t1, fs, ls, rfl, b1, hp1, ht1, ea, eb, hh⟩
      refine ⟨.ref a, rfl, Nat.zero_le _, fun c nc => ?_⟩
      have sc := same_upd (o := .lst []) nc
      have ea2 := sc _ _ ea
      have eb2 := sc _ _ eb
      have hp2 := pail_same hp1 sc
      have b2 := b1.trans (But.of (p := p) sc)
      have ec : (upd H1 c (.lst [])) c = some (.lst []) := upd_same
      refine ⟨.list (ls.map PyData.int), .list (([] : List Int).map PyData.int), .lst (lstNew ea2) (dpInts ls), .lst (lstNew ec) .nil, shapedL ls, shapedL [], _, rfl, ?_⟩
      rw [eqvL]
      have lt1 : lenAt H1 a = ls.length := by rw [lenAt_eq ea, List.length_map]
      generalize upd H1 c (.lst []) = H2 at ea2 eb2 hp2 b2 ⊢
      clear ea eb sc nc ec
      cases ls with
      | nil =>
        rw [decide_eq_true rfl]
        refine iteF ?_
        refine ⟨.ref b, rfl, .inl ⟨b, _, rfl, lstNew eb2, fun u nu => ?_⟩⟩
        exact q _ u t1 fs (pail_new hp2 nu) (by omega) (b2.trans (But.of (same_upd nu))) (tupNew upd_same) (half_mir hh m1 m8)
      | cons x l =>
        rw [decide_eq_false (by simp)]
        refine iteT ?_
        -- mark = left.pop(0)
        refine ⟨.ref a, rfl, .inl ⟨rfl, _, lstNew ea2⟩, a, _, 0, 0, .int x, rfl, rfl, ea2, by decide, by decide, by simp [seqIndex?], rfl, ?_⟩
        have ea3 : (upd H2 a (.lst (((x :: l).map V.int).eraseIdx 0))) a = some (.lst (l.map V.int)) := upd_same
        have eb3 : (upd H2 a (.lst (((x :: l).map V.int).eraseIdx 0))) b = some (.lst (fs.map V.int)) := by rw [upd_ne hab.symm]; exact eb2
        have hp3 := pail_set (o := .lst (((x :: l).map V.int).eraseIdx 0)) hp2 hap
        have b3 : But p H (upd H2 a (.lst (((x :: l).map V.int).eraseIdx 0))) := fun k o e z => by rw [upd_ne (ne_of_none e na)]; exact b2 k o e z
        generalize upd H2 a (.lst (((x :: l).map V.int).eraseIdx 0)) = H3 at ea3 eb3 hp3 b3 ⊢
        -- left != []
        refine ⟨.ref a, rfl, Nat.zero_le _, fun c2 nc2 => ?_⟩
        have sc2 := same_upd (o := .lst []) nc2
        have ea4 := sc2 _ _ ea3
        have eb4 := sc2 _ _ eb3
        have hp4 := pail_same hp3 sc2
        have b4 := b3.trans (But.of (p := p) sc2)
        have ec2 : (upd H3 c2 (.lst [])) c2 = some (.lst []) := upd_same
        refine ⟨.list (l.map PyData.int), .list (([] : List Int).map PyData.int), .lst (lstNew ea4) (dpInts l), .lst (lstNew ec2) .nil, shapedL l, shapedL [], _, rfl, ?_⟩
        rw [eqvL]
        generalize upd H3 c2 (.lst []) = H4 at ea4 eb4 hp4 b4 ⊢
        clear ea3 eb3 hp3 b3 sc2 nc2 ec2 ea2 eb2 hp2 b2 b1 hp1
        rw [List.length_cons] at lt1 ht1
        have hxl := hh.lin x (List.mem_cons_self ..)
        cases l with
        | nil =>
          rw [decide_eq_true rfl]
          refine iteF (iteF ?_)
          refine ⟨⟨_, _, t1, fs, [], rfl, b4, hp4, by simp only [List.length_nil]; omega, ea4, eb4, half_drop hh⟩, ?_⟩
          rw [lenAt_eq ea4, lt1]; simp
        | cons y0 l =>
          rw [decide_eq_false (by simp)]
          refine iteT ?_
          rw [List.length_cons] at lt1 ht1
          have hl8 : (y0 :: l).length ≤ 8 := by
            have := nodup_le (us := rgI 0 (m : Int)) (half_drop hh).nd fun z hz => by
              have h1 := (half_drop hh).lin z hz
              exact List.mem_of_getElem? (i := z.toNat) (rgI_get.mpr ⟨by omega, by omega⟩)
            rw [rgI_len] at this; omega
          rw [List.length_cons] at hl8
          refine ⟨.ref p, rfl, p, t1, 2, rfl, hp4, by omega, by decide, by decide, fun r t5 H5 r0 r1 ht5 hp5 b5 => ⟨rfl, _, rfl, ite2 (fun _ => ?_) (fun _ => ?_)⟩⟩
          · have ea5 := b5 _ _ ea4 hap
            have eb5 := b5 _ _ eb4 hbp
            refine ⟨.ref a, rfl, .inl ⟨rfl, _, lstNew ea5⟩, .ref p, rfl, .ref a, rfl, a, _, rfl, .inl (lstNew ea5), p, t5, _, rfl, hp5, by omega, by simp; omega, by simp; omega, fun r2 t6 H6 r20 r21 ht6 hp6 b6 => ?_⟩
            have ea6 := b6 _ _ ea5 hap
            have eb6 := b6 _ _ eb5 hbp
            rw [List.length_map, List.length_cons] at r21
            obtain ⟨y, hy⟩ : ∃ y, (y0 :: l)[r2.toNat]? = some y := ⟨_, List.getElem?_eq_getElem (by rw [List.length_cons]; omega)⟩
            refine ⟨a, _, r2, r2.toNat, .int y, rfl, rfl, ea6, by omega, by omega, ?_, by rw [List.getElem?_map, hy]; rfl, ?_⟩
            · rw [List.length_map]
              unfold seqIndex?
              simp only [if_neg (show ¬ r2 < 0 by omega)]
              rw [if_pos]
              simp only [Bool.and_eq_true, decide_eq_true_eq]
              exact ⟨r20, by rw [List.length_cons]; omega⟩
            have hyl := (half_drop hh).lin y (List.mem_of_getElem? hy)
            have hfl := hh.len
            have b06 : But p H H6 := (b4.trans b5).trans b6
            have ea7 : (upd H6 a (.lst (((y0 :: l).map V.int).eraseIdx r2.toNat))) a = some (.lst (((y0 :: l).eraseIdx r2.toNat).map V.int)) := by rw [upd_same, erase_map]
            have eb7 : (upd H6 a (.lst (((y0 :: l).map V.int).eraseIdx r2.toNat))) b = some (.lst (fs.map V.int)) := by rw [upd_ne hab.symm]; exact eb6
            have hp7 := pail_set (o := .lst (((y0 :: l).map V.int).eraseIdx r2.toNat)) hp6 hap
            have b7 : But p H (upd H6 a (.lst (((y0 :: l).map V.int).eraseIdx r2.toNat))) := fun k o e z => by rw [upd_ne (ne_of_none e na)]; exact b06 k o e z
            generalize upd H6 a (.lst (((y0 :: l).map V.int).eraseIdx r2.toNat)) = H7 at ea7 eb7 hp7 b7 ⊢
            -- found[mark] = other; found[other] = mark
            refine ⟨.int y, rfl, .ref b, rfl, .int x, rfl, b, _, x, x.toNat, rfl, rfl, eb7, ix_at (by rw [List.length_map]; omega) hxl.1, ?_⟩
            refine ⟨.int x, rfl, .ref b, rfl, .int y, rfl, b, _, y, y.toNat, rfl, rfl, upd_same, ix_at (by rw [List.length_set, List.length_map]; omega) hyl.1, ?_⟩
            have hlen : ((y0 :: l).eraseIdx r2.toNat).length = l.length := by rw [List.length_eraseIdx_of_lt (by rw [List.length_cons]; omega)]; rfl
            refine ⟨⟨_, _, t6, (fs.set x.toNat y).set y.toNat x, (y0 :: l).eraseIdx r2.toNat, rfl, fun k o e z => ?_, pail_set (pail_set hp7 hbp) hbp, by rw [hlen]; omega, ?_, ?_, half_pair hh hy⟩, ?_⟩
            · rw [upd_ne (ne_of_none e nbH), upd_ne (ne_of_none e nbH)]; exact b7 k o e z
            · rw [upd_ne hab, upd_ne hab]; exact ea7
            · rw [upd_same, List.map_set, List.map_set]
            · rw [lenAt_eq (xs := ((y0 :: l).eraseIdx r2.toNat).map V.int) (by rw [upd_ne hab, upd_ne hab]; exact ea7), lt1, List.length_map, hlen]; omega
          · refine ⟨⟨_, _, t5, fs, y0 :: l, rfl, b4.trans b5, hp5, by rw [List.length_cons]; omega, b5 _ _ ea4 hap, b5 _ _ eb4 hbp, half_drop hh⟩, ?_⟩
            rw [lenAt_eq (b5 _ _ ea4 hap), lt1, List.length_map, List.length_cons]; omega
    · intro σ H1 Q1 Q2 hq h
      obtain ⟨v, e, z, h⟩ := h
      refine ⟨v, e, z, fun c nc => ?_⟩
      obtain ⟨d, e', h1, h2, h3, h4, k, h5, h6⟩ := h c nc
      exact ⟨d, e', h1, h2, h3, h4, k, h5, hq _ _ h6⟩
end
end K50
set_option maxHeartbeats 4000000
namespace K50
open PySem PySem.Spec PyProof.Rows L2 RV TL
def sFig : Str := Str.ofString "0123456789"
theorem atI_0 {α : Type} {c : α} {r : List α} : atI (c :: r) 0 = some c := atI_nat (xs := c :: r) (j := 0) rfl
section
variable {P : Program} {w : World} {K : PySem.W.Frag} {mg : Str → Option Value} {base : Heap} {t1 t2 : Tok}
/-! ### number_in -/
theorem scNI : FnScope ["word", "sign"] ["word"] (defScope sNumIn) := ⟨rfl, rfl, rfl, by decide +kernel, rfl, by decide +kernel, by decide +kernel⟩
def spNI : Sp := fun vs H Q _ => ∃ n : Nat, vs = [.str (num n)] ∧ n < 10 ^ 30 ∧ ∀ H', Same H H' → Q (.int (n : Int)) H'
theorem ok_ni {f : Addr} {fd : FuncData} (F : Fun K "number_in" "number_in" sNumIn f fd) (B : Bare mg) (mS : mg "FIGURES" = some (.str sFig t1)) (mF : mg "MOST_FIGURES" = some (.int 30 t2)) : FnOk P w K mg base CX0 1 f fd ["word"] spNI := by
  refine F.ok scNI (fun vs H Q E h => ?_) (fun cdv A outer s H vs Q E hr h => ?_)
  · obtain ⟨n, rfl, _⟩ := h
    rfl
  · obtain ⟨n, rfl, hn, q⟩ := h
    refine ⟨_, pss_cons (ps_if (PW.pt (pw_or (pt_not (pt_chain op_lt op_le pe_int (pe_callB call_len_str (by rfl) B.len PySem.boot_len (pa_cons (pv 0) pa_nil)) (pe_glob (v := .int 30) rfl mF ⟨_, rfl⟩)))
        (pw_or1 (pt_not (pt_val (pe_callB (cr_all rfl) (by rfl) B.all (by decide +kernel) (pa_cons (pe_lc (own := [("sign", 1)]) (g := gName 1) (tt := tYes) rfl scNI.nd (pi_str (pv 0)) (blkOk_by (N := ["word", "sign"]) (sc := defScope sNumIn) (by decide +kernel)) (fun _ _ _ _ _ => pg_name (i := 1) scNI.nd rfl (Or.inl rfl)) (fun _ _ _ _ _ => pts_nil)
          (fun _ _ _ _ _ => pe_cmpR op_in_sign (pv 1) (pe_glob (v := .str sFig) rfl mS ⟨_, rfl⟩) (by rfl))) pa_nil))))))) (pss_one (ps_ret pe_non)) pss_nil)
      (pss_cons (ps_if (PW.pt (pw_and (pt_cmpR op_gt (pe_callB call_len_str (by rfl) B.len PySem.boot_len (pa_cons (pv 0) pa_nil)) pe_int (nomark _)) (pw_and1 (pt_cmpR op_eq (pe_ix ix_str (pv 0) pe_int (fun _ _ => rfl)) pe_str (nomark _))))) (pss_one (ps_ret pe_non)) pss_nil)
      (pss_one (ps_ret (pe_callTy call_int_str (by rfl) B.int (by decide +kernel) (pa_cons (pv 0) pa_nil))))), ?_⟩
    have hl := num_len hn
    have h0 := num_pos n
    refine ⟨.str (num n), rfl, num n, rfl, by rw [sizeLine_eq]; omega, 0, _, rfl, rfl, _, rfl, ?_⟩
    rw [decide_eq_true (show (0 : Int) < ((num n).length : Int) by omega)]
    refine iteT ⟨_, _, rfl, rfl, decide (((num n).length : Int) ≤ 30), rfl, ?_⟩
    rw [decide_eq_true (show ((num n).length : Int) ≤ 30 by omega)]
    refine iteF ⟨.str (num n), rfl, num n, rfl, fun D nD => lc_signs (by omega) nD (fun c hc H' Q' s1 q1 => ?_) fun H1 s1 e1 => ?_⟩
    · exact ⟨_, rfl, c, sFig, rfl, rfl, by rw [show decide (c ∈ sFig.cps.toList) = true from decide_eq_true (num_sign hc)]; exact q1 H' (Same.refl H')⟩
    refine ⟨D, List.replicate (num n).length true, rfl, lstNew (by rw [e1, rep_bl]), ?_⟩
    rw [all_true]
    refine ⟨true, rfl, iteF ?_⟩
    unfold tNext
    dsimp only
    refine ⟨.str (num n), rfl, num n, rfl, by rw [sizeLine_eq]; omega, _, 1, rfl, rfl, decide (((num n).length : Int) > 1), rfl, ?_⟩
    have last : Q (.int (n : Int)) H1 := q H1 s1
    by_cases e : 1 < (num n).length
    · rw [decide_eq_true (show ((num n).length : Int) > 1 by omega)]
      obtain ⟨c, r, e2, e3⟩ := numL_head n (by have := num_two e; omega)
      refine iteT ⟨.str (num n), rfl, num n, 0, c, rfl, rfl, by rw [sizeLine_eq]; omega, ?_, rfl, false, ?_, iteF ?_⟩
      · have : tl (num n) = c :: r := by rw [tl_nm, e2]
        show atI (tl (num n)) 0 = some c
        rw [this]; exact atI_0
      · refine congrArg V.bl (decide_eq_false fun z => e3 ?_)
        have z1 : tl (⟨#[c]⟩ : Str) = tl (Str.ofString "0") := by
          have := V.str.inj z
          rw [this]
        rw [tl_ofString] at z1
        exact (List.cons.inj z1).1
      · exact ⟨.str (num n), rfl, num n, (n : Int), rfl, num_int hn, by omega, last⟩
    · rw [decide_eq_false (show ¬ ((num n).length : Int) > 1 by omega)]
      refine iteF (iteF ?_)
      exact ⟨.str (num n), rfl, num n, (n : Int), rfl, num_int hn, by omega, last⟩
/-! ### numbers_in -/
theorem scNs : FnScope ["words", "numbers", "word", "number"] ["words"] (defScope sNumsIn) := ⟨rfl, rfl, rfl, by decide +kernel, rfl, by decide +kernel, by decide +kernel⟩
def spNs (K : PySem.W.Frag) : Sp := fun vs H Q _ => ∃ (a : Addr) (ns : List Nat), vs = [.ref a] ∧ SqL K H a (ns.map fun n => V.str (num n)) ∧ ns.length ≤ 1000 ∧ (∀ n ∈ ns, n < 10 ^ 30) ∧ ∀ (b : Addr) H', Same H H' → SqT K H' b ((ns.map fun (n : Nat) => (n : Int)).map V.int) → Q (.ref b) H'
theorem ok_ns {f fN : Addr} {fd fdN : FuncData} (F : Fun K "numbers_in" "numbers_in" sNumsIn f fd) (DN : DefAt K mg "number_in" sNumIn ["word"] fN fdN) (B : Bare mg) (mS : mg "FIGURES" = some (.str sFig t1)) (mF : mg "MOST_FIGURES" = some (.int 30 t2)) : FnOk P w K mg base CX0 2 f fd ["words"] (spNs K) := by
  have GN : FnOk P w K mg base CX0 1 fN fdN ["word"] spNI := ok_ni DN.fn B mS mF
  refine F.ok scNs (fun vs H Q E h => ?_) (fun cdv A outer s H vs Q E hr h => ?_)
  · obtain ⟨a, ns, rfl, _⟩ := h
    rfl
  · obtain ⟨a, ns, rfl, hS, hl, hn, q⟩ := h
    refine ⟨_, pss_cons (ps_setLc (i := 1) (own := [("word", 2)]) (g := gName 2) (tt := tYes) rfl scNs.nd rfl rfl (by rfl) (pi_list (pv 0)) (blkOk_by (N := ["words", "numbers", "word", "number"]) (sc := defScope sNumsIn) (by decide +kernel)) (fun _ _ _ _ _ => pg_name (i := 2) scNs.nd rfl (Or.inl rfl)) (fun _ _ _ _ _ => pts_nil)
          (fun _ _ _ _ _ => pe_call GN hr (by rfl) DN.mg DN.fn.kp DN.bi .nil pass0 (pa_cons (pv 2) pa_nil)))
      (pss_cons (ps_if (pt_val (pe_callB (cr_any rfl) (by rfl) B.any (by decide +kernel) (pa_cons (pe_lc (own := [("number", 3)]) (g := gName 3) (tt := tYes) rfl scNs.nd (pi_list (pv 1)) (blkOk_by (N := ["words", "numbers", "word", "number"]) (sc := defScope sNumsIn) (by decide +kernel)) (fun _ _ _ _ _ => pg_name (i := 3) scNs.nd rfl (Or.inl rfl)) (fun _ _ _ _ _ => pts_nil)
          (fun _ _ _ _ _ => pe_cmpR op_isN (pv 3) pe_non (nomark _))) pa_nil))) (pss_one (ps_ret pe_non)) pss_nil)
      (pss_one (ps_ret (pe_tupleOf (by rfl) B.tuple (pv 1))))), ?_⟩
    refine ⟨.ref a, rfl, a, rfl, ⟨_, hS⟩, fun D nD => ?_⟩
    refine lc_mapV (ys := ns.map fun (n : Nat) => V.int (n : Int)) hS (by rw [List.length_map]; omega) (by rw [List.length_map, List.length_map]) nD (fun i x y hx hy H' Q' s1 q1 => ?_) fun H1 s1 e1 => ?_
    · obtain ⟨n, g, rfl⟩ := map_at hx
      obtain ⟨n', g', rfl⟩ := map_at hy
      cases g.symm.trans g'
      exact ⟨.str (num n), rfl, n, rfl, hn n (List.mem_of_getElem? g), fun H2 s2 => q1 H2 s2⟩
    refine nx_step ?_
    have L1 : SqL K H1 D (ns.map fun (n : Nat) => V.int (n : Int)) := lstNew e1
    refine ⟨.ref D, rfl, D, rfl, ⟨_, L1⟩, fun D2 nD2 => ?_⟩
    refine lc_mapV (ys := List.replicate ns.length (V.bl false)) L1 (by rw [List.length_map]; omega) (by rw [List.length_replicate, List.length_map]) nD2 (fun i x y hx hy H' Q' s2 q1 => ?_) fun H2 s2 e2 => ?_
    · obtain ⟨n, g, rfl⟩ := map_at hx
      have ey : y = V.bl false := (List.mem_replicate.mp (List.mem_of_getElem? hy)).2
      subst ey
      exact ⟨_, rfl, rfl, q1 H' (Same.refl H')⟩
    refine ⟨D2, List.replicate ns.length false, rfl, lstNew (by rw [e2, List.map_replicate]), ?_⟩
    have e3 : (List.replicate ns.length false).any id = false := by
      rw [List.any_eq_false]
      intro x hx
      rw [(List.mem_replicate.mp hx).2]; decide
    rw [e3]
    refine ⟨false, rfl, iteF ?_⟩
    unfold tNext
    dsimp only
    refine ⟨.ref D, rfl, .inl ⟨D, _, rfl, sqL_same s2 L1, fun b nb => q b _ ((s1.trans s2).trans (same_upd nb)) (tupNew (by rw [upd_same, List.map_map]; rfl))⟩⟩
end
end K50
set_option maxHeartbeats 4000000
namespace RV
open PySem PySem.Spec PyProof.Rows L2
/-- a list of tuples of ints, one that is written -/
def TLp (K : PySem.W.Frag) (H : Hp) (F : Addr) (Ls : List (List Int)) : Prop := ∃ ks : List (Addr × List Int), ks.map (·.2) = Ls ∧ H F = some (.lst (ks.map fun q => V.ref q.1)) ∧ ∀ q ∈ ks, SqT K H q.1 (q.2.map V.int)
theorem sqT_over {K : PySem.W.Frag} {H : Hp} {D : Addr} {vs : List V} {o' : HO} (e : H D = some (.lst vs)) {a : Addr} {xs : List V} (h : SqT K H a xs) : SqT K (upd H D o') a xs := by
  rcases h with (h | ⟨o, h⟩) | h
  · exact .inl (.inl (by rw [upd_ne (fun z => by rw [z, e] at h; cases h)]; exact h))
  · exact .inl (.inr ⟨o, by rw [upd_ne (fun z => by rw [z, e] at h; cases h)]; exact h⟩)
  · exact .inr h
theorem TLp.same {K : PySem.W.Frag} {H H' : Hp} {F : Addr} {Ls : List (List Int)} (h : TLp K H F Ls) (s : Same H H') : TLp K H' F Ls := by
  obtain ⟨ks, h1, h2, h3⟩ := h
  exact ⟨ks, h1, s _ _ h2, fun q hq => sqT_same s (h3 q hq)⟩
theorem TLp.nil {K : PySem.W.Frag} {H : Hp} {F : Addr} (h : H F = some (.lst [])) : TLp K H F [] := ⟨[], rfl, h, fun _ z => nomatch z⟩
theorem TLp.put {K : PySem.W.Frag} {H : Hp} {F t : Addr} {ks : List (Addr × List Int)} {w : List Int} (h2 : H F = some (.lst (ks.map fun q => V.ref q.1))) (h3 : ∀ q ∈ ks, SqT K H q.1 (q.2.map V.int)) (ht : SqT K H t (w.map V.int)) :
    TLp K (upd H F (.lst ((ks.map fun q => V.ref q.1) ++ [.ref t]))) F (ks.map (·.2) ++ [w]) := by
  refine ⟨ks ++ [(t, w)], by rw [List.map_append]; rfl, by rw [upd_same, List.map_append]; rfl, fun q hq => sqT_over h2 ?_⟩
  rcases List.mem_append.mp hq with z | z
  · exact h3 q z
  · rcases List.mem_singleton.mp z with rfl
    exact ht
theorem TLp.over {K : PySem.W.Frag} {H : Hp} {F D : Addr} {vs : List V} {o' : HO} {Ls : List (List Int)} (h : TLp K H F Ls) (e : H D = some (.lst vs)) (ne : F ≠ D) : TLp K (upd H D o') F Ls := by
  obtain ⟨ks, h1, h2, h3⟩ := h
  exact ⟨ks, h1, by rw [upd_ne ne]; exact h2, fun q hq => sqT_over e (h3 q hq)⟩
theorem TLp.len {K : PySem.W.Frag} {H : Hp} {F : Addr} {Ls : List (List Int)} (h : TLp K H F Ls) : ∃ xs : List V, H F = some (.lst xs) ∧ xs.length = Ls.length := by
  obtain ⟨ks, h1, h2, h3⟩ := h
  exact ⟨_, h2, by rw [← h1, List.length_map, List.length_map]⟩
theorem TLp.tups {K : PySem.W.Frag} {H : Hp} {F b : Addr} {Ls : List (List Int)} (h : TLp K H F Ls) (n : H b = none) : ∃ xs : List V, H F = some (.lst xs) ∧ Tups K (upd H b (.tup xs)) b Ls := by
  obtain ⟨ks, h1, h2, h3⟩ := h
  exact ⟨_, h2, ks, h1, tupNew upd_same, fun q hq => sqT_same (same_upd n) (h3 q hq)⟩
theorem dpAll_refs {K : PySem.W.Frag} {H : Hp} : ∀ ks : List (Addr × List Int), (∀ q ∈ ks, SqT K H q.1 (q.2.map V.int)) → DpAll K H (ks.map fun q => V.ref q.1) ((ks.map (·.2)).map dI)
  | [], _ => .nil
  | q :: r, h => .cons (dpT (h q (List.mem_cons_self ..))) (dpAll_refs r fun z hz => h z (List.mem_cons_of_mem _ hz))
theorem TLp.dp {K : PySem.W.Frag} {H : Hp} {F : Addr} {Ls : List (List Int)} (h : TLp K H F Ls) : Dp K H (.ref F) (.list (Ls.map dI)) := by
  obtain ⟨ks, h1, h2, h3⟩ := h
  subst h1
  exact .lst (lstNew h2) (dpAll_refs ks h3)
/-- [x for t in l for x in t] -/
theorem lc_flat {K : PySem.W.Frag} {σ : L2.St} {H1 : Hp} {a D : Addr} {vc vm : Nat} {ps : List (List Int)} {Qd : Hp → Prop} (hT : TLp K H1 a ps) (hl : ps.length ≤ 1000) (hp : ∀ p ∈ ps, p.length ≤ 100) (nD : H1 D = none) (lc : vc < σ.length) (lm : vm < σ.length) (ne : vc ≠ vm)
    (hd : ∀ H', Same H1 H' → H' D = some (.lst (ps.flatten.map V.int)) → Qd H') :
    ∃ W : Nat → Nat → Hp → Prop, (∃ m, W 0 m (upd H1 D (.lst []))) ∧ ∀ i m H, W i m H →
      ((Itl K a).stop i H ∧ Qd H) ∨ ((Itl K a).go i H ∧ ∃ Nx : Hp → Prop, (∀ H', Nx H' → ∃ m', m' < m ∧ W (i + 1) m' H') ∧ ∀ x H', (Itl K a).yld i H x H' → gName vc x (wipe σ [vc, vm]) H' fun σ2 H2 => wipe σ2 [vc, vm] = wipe σ [vc, vm] ∧ tYes σ2 H2 fun b H3 =>
        if b = true then iTup K (tVar vc) σ2 H3 fun J1 H4 => ∃ W1 : Nat → Nat → Hp → Prop, (∃ m, W1 0 m H4) ∧ ∀ j k H, W1 j k H →
          (J1.stop j H ∧ Nx H) ∨ (J1.go j H ∧ ∃ Nx1 : Hp → Prop, (∀ H', Nx1 H' → ∃ k', k' < k ∧ W1 (j + 1) k' H') ∧ ∀ x H', J1.yld j H x H' → gName vm x (wipe σ2 [vm]) H' fun σ3 H5 => wipe σ3 [vm] = wipe σ2 [vm] ∧ tYes σ3 H5 fun b H6 =>
            if b = true then tVar vm σ3 H6 fun y H7 => ∃ acc, H7 D = some (.lst acc) ∧ acc.length < sizeLine ∧ Nx1 (upd H7 D (.lst (acc ++ [y]))) else Nx1 H6)
        else Nx H3) := by
  obtain ⟨ks, rfl, h2, h3⟩ := hT
  rw [List.length_map] at hl
  have short : ∀ l : List (Addr × List Int), (∀ q ∈ l, q.2.length ≤ 100) → ((l.map (·.2)).flatten).length ≤ l.length * 100 := by
    intro l
    induction l with
    | nil => intro _; simp
    | cons q r ih =>
      intro h
      have h1 := h q (List.mem_cons_self ..)
      have h2 := ih fun z hz => h z (List.mem_cons_of_mem _ hz)
      simp only [List.map_cons, List.flatten_cons, List.length_append, List.length_cons]
      omega
  have hq : ∀ q ∈ ks, q.2.length ≤ 100 := fun q z => hp q.2 (List.mem_map.mpr ⟨q, z, rfl⟩)
  have hL : ∀ H', Same H1 H' → SqL K H' a (ks.map fun q => V.ref q.1) := fun H' s => lstNew (s _ _ h2)
  refine ⟨fun i m H => m = ks.length - i ∧ i ≤ ks.length ∧ Same H1 H ∧ H D = some (.lst ((((ks.take i).map (·.2)).flatten).map V.int)), ⟨ks.length, by simp, Nat.zero_le _, same_upd nD, upd_same⟩, ?_⟩
  rintro i m H ⟨rfl, hi, s1, e1⟩
  by_cases hlt : i < ks.length
  · have eg : ks[i]? = some ks[i] := List.getElem?_eq_getElem hlt
    refine .inr ⟨⟨_, V.ref ks[i].1, hL H s1, by rw [List.getElem?_map, eg]; rfl⟩, fun H' => Same H1 H' ∧ H' D = some (.lst ((((ks.take (i + 1)).map (·.2)).flatten).map V.int)), fun H' p => ⟨ks.length - (i + 1), by omega, rfl, hlt, p.1, p.2⟩, fun x H' y => ?_⟩
    obtain ⟨rfl, y⟩ := y
    have ex := y _ (hL _ s1)
    rw [List.getElem?_map, eg] at ex
    cases ex
    refine nx_step ?_
    have hT1 : SqT K H' ks[i].1 (ks[i].2.map V.int) := sqT_same s1 (h3 _ (List.getElem_mem hlt))
    refine ⟨?_, tt_yes ⟨.ref ks[i].1, ?_, ks[i].1, rfl, ⟨_, hT1⟩, ?_⟩⟩
    · simp [wipe, List.set_set, List.set_comm, ne]
    · simp [wipe, lc, lm, ne, ne.symm]
    have e2 : (((ks.take (i + 1)).map (·.2)).flatten) = ((ks.take i).map (·.2)).flatten ++ ks[i].2 := by
      rw [List.take_add_one, eg, List.map_append, List.flatten_append]
      simp
    have hlen : (((ks.take i).map (·.2)).flatten).length ≤ 100000 := by
      have := short (ks.take i) fun q z => hq q (List.mem_of_mem_take z)
      have h4 : (ks.take i).length ≤ 1000 := by rw [List.length_take]; omega
      omega
    have hlen2 := hq _ (List.getElem_mem hlt)
    refine ⟨fun j k H2 => k = ks[i].2.length - j ∧ j ≤ ks[i].2.length ∧ Same H1 H2 ∧ H2 D = some (.lst ((((ks.take i).map (·.2)).flatten ++ ks[i].2.take j).map V.int)), ⟨_, rfl, Nat.zero_le _, s1, by rw [List.take_zero, List.append_nil]; exact e1⟩, ?_⟩
    rintro j k H2 ⟨rfl, hj, s2, f1⟩
    have hT2 : SqT K H2 ks[i].1 (ks[i].2.map V.int) := sqT_same s2 (h3 _ (List.getElem_mem hlt))
    by_cases hjt : j < ks[i].2.length
    · have ej : ks[i].2[j]? = some ks[i].2[j] := List.getElem?_eq_getElem hjt
      refine .inr ⟨⟨_, V.int ks[i].2[j], hT2, by rw [List.getElem?_map, ej]; rfl⟩, fun H' => Same H1 H' ∧ H' D = some (.lst ((((ks.take i).map (·.2)).flatten ++ ks[i].2.take (j + 1)).map V.int)), fun H' p => ⟨_, by omega, rfl, hjt, p.1, p.2⟩, fun x H3 y => ?_⟩
      obtain ⟨rfl, y⟩ := y
      have ex := y _ hT2
      rw [List.getElem?_map, ej] at ex
      cases ex
      refine nx_step ?_
      refine ⟨by simp [wipe, List.set_set], tt_yes ⟨.int ks[i].2[j], ?_, _, f1, ?_, fun b o z => ?_, ?_⟩⟩
      · simp [wipe, lc, lm, ne, ne.symm]
      · rw [List.length_map, List.length_append, List.length_take, sizeLine_eq]; omega
      · rw [upd_ne (ne_of_none z nD)]; exact s2 b o z
      · rw [upd_same, List.take_add_one, ej, ← List.append_assoc, List.map_append (l₁ := _ ++ _)]; rfl
    · have e3 : ks[i].2.take j = ks[i].2 := List.take_of_length_le (Nat.le_of_not_lt hjt)
      refine .inl ⟨⟨_, hT2, by rw [List.length_map]; exact Nat.le_of_not_lt hjt⟩, s2, ?_⟩
      rw [e2, f1, e3]
  · have e : i = ks.length := by omega
    subst e
    refine .inl ⟨⟨_, hL H s1, by rw [List.length_map]; exact Nat.le_refl _⟩, hd H s1 ?_⟩
    rw [e1, List.take_of_length_le (Nat.le_refl _)]
/-! ### tuples of two, compared -/
theorem le_pair {u v x y : Int} (h : HT.lexLt [u, v] [x, y] = true) : Ob.lexAt (fun j => decide ([x, y].getD j 0 = [u, v].getD j 0)) (fun j => decide ([x, y].getD j 0 ≤ [u, v].getD j 0)) (decide ([x, y].length ≤ [u, v].length)) 0 (min [x, y].length [u, v].length) = false := by
  have h1 : (if u = x then (if v = y then false else decide (v < y)) else decide (u < x)) = true := h
  show (if decide (x = u) = true then (if decide (y = v) = true then _ else decide (y ≤ v)) else decide (x ≤ u)) = false
  by_cases e : u = x
  · subst e
    rw [if_pos rfl] at h1
    by_cases e2 : v = y
    · rw [if_pos e2] at h1; cases h1
    · rw [if_neg e2] at h1
      have h2 := of_decide_eq_true h1
      rw [if_pos (by simp), if_neg (by simp; omega)]
      simp; omega
  · rw [if_neg e] at h1
    have h2 := of_decide_eq_true h1
    rw [if_neg (by simp; omega)]
    simp; omega
end RV
set_option maxHeartbeats 4000000
namespace K50
open PySem PySem.Spec PyProof.Rows L2 RV TL
def wMarks : Str := Str.ofString "marks"
def wMirror : Str := Str.ofString "mirror"
def wStep : Str := Str.ofString "step"
theorem dpStrs {K : PySem.W.Frag} {H : Hp} : ∀ ss : List Str, DpAll K H (ss.map V.str) (ss.map PyData.str)
  | [] => .nil
  | s :: r => .cons (.str s) (dpStrs r)
theorem shapedM : SeqAt.shaped (.list ([wMarks].map PyData.str)) = true := by
  have h1 : (PyData.list ([wMarks].map PyData.str)).canLay0 = true := by
    simp only [PyData.canLay0, List.map_cons, List.map_nil, PyData.canLayAll0]
    decide +kernel
  have h2 : (PyData.list ([wMarks].map PyData.str)).depth ≤ 64 := by simp [PyData.depth, PyData.depthAll]
  show ((PyData.list ([wMarks].map PyData.str)).canLay0 && decide ((PyData.list ([wMarks].map PyData.str)).depth ≤ 64)) = true
  rw [h1, decide_eq_true h2]; rfl
section
variable {P : Program} {w : World} {K : PySem.W.Frag} {mg : Str → Option Value} {base : Heap} {t1 t2 t3 : Tok}
/-! ### first_row -/
theorem scFR : FnScope ["words", "many"] ["words"] (defScope sFirstRow) := ⟨rfl, rfl, rfl, by decide +kernel, rfl, by decide +kernel, by decide +kernel⟩
def spFR (K : PySem.W.Frag) : Sp := fun vs H Q _ => ∃ (a : Addr) (n : Nat), vs = [.ref a] ∧ SqL K H a [.str wMarks, .str (num n)] ∧ 1 ≤ n ∧ n ≤ 8 ∧ ∀ H', Same H H' → Q (.int (n : Int)) H'
theorem ok_fr {f fN : Addr} {fd fdN : FuncData} (F : Fun K "first_row" "first_row" sFirstRow f fd) (DN : DefAt K mg "number_in" sNumIn ["word"] fN fdN) (B : Bare mg) (mS : mg "FIGURES" = some (.str sFig t1)) (mF : mg "MOST_FIGURES" = some (.int 30 t2)) (mM : mg "MOST_MARKS" = some (.int 8 t3)) : FnOk P w K mg base CX0 2 f fd ["words"] (spFR K) := by
  have GN : FnOk P w K mg base CX0 1 fN fdN ["word"] spNI := ok_ni DN.fn B mS mF
  refine F.ok scFR (fun vs H Q E h => ?_) (fun cdv A outer s H vs Q E hr h => ?_)
  · obtain ⟨a, n, rfl, _⟩ := h
    rfl
  · obtain ⟨a, n, rfl, hS, h1, h8, q⟩ := h
    refine ⟨_, pss_cons (ps_set (i := 1) scFR.nd rfl (Or.inl rfl) (pe_call GN hr (by rfl) DN.mg DN.fn.kp DN.bi .nil pass0 (pa_cons (pe_ix ix_list (pv 0) (pe_un un_neg pe_int) (fun _ _ => rfl)) pa_nil)))
      (pss_cons (ps_if (PW.pt (pw_or (pt_cmpR (op_neD hr.units) (pe_slice sl_list (pv 0) po_none (po_some (pe_un un_neg pe_int))) (pe_lst (pa_cons pe_str pa_nil)) (nomark _)) (pw_or (pt_cmpR op_isN (pv 1) pe_non (nomark _)) (pw_or1 (pt_not (pt_chain op_le op_le pe_int (pv 1) (pe_glob (v := .int 8) rfl mM ⟨_, rfl⟩)))))))
        (pss_one ps_never) pss_nil)
      (pss_one (ps_ret (pv 1)))), ?_⟩
    refine ⟨.ref a, rfl, 1, rfl, a, _, -1, .str (num n), rfl, rfl, hS, rfl, n, rfl, by omega, fun H1 s1 => ?_⟩
    refine nx_step ?_
    dsimp only
    refine ⟨.ref a, rfl, 1, rfl, _, rfl, a, _, rfl, sqL_same s1 hS, fun b nb => ?_⟩
    have eb : (upd H1 b (.lst (cutV [.str wMarks, .str (num n)] none (some (-1))))) b = some (.lst [V.str wMarks]) := upd_same
    have sb := same_upd (o := .lst (cutV [.str wMarks, .str (num n)] none (some (-1)))) nb
    generalize upd H1 b (.lst (cutV [.str wMarks, .str (num n)] none (some (-1)))) = H2 at eb sb ⊢
    refine ⟨by show 1 ≤ sizeLine; decide, fun c nc => ?_⟩
    have sc := same_upd (o := .lst [V.str wMarks]) nc
    refine ⟨.list ([wMarks].map PyData.str), .list ([wMarks].map PyData.str), .lst (lstNew (sc _ _ eb)) (dpStrs [wMarks]), .lst (lstNew upd_same) (dpStrs [wMarks]), shapedM, shapedM, false, ?_, iteF ⟨.int (n : Int), rfl, rfl, false, rfl, iteF ?_⟩⟩
    · show V.bl (!PyData.eqv _ _) = _
      simp [PyData.eqv, PyData.eqvAll]
    refine ⟨.int (n : Int), rfl, 1, (n : Int), rfl, rfl, _, rfl, ?_⟩
    rw [decide_eq_true (show (1 : Int) ≤ (n : Int) by omega)]
    refine iteT ⟨_, _, rfl, rfl, decide ((n : Int) ≤ 8), rfl, ?_⟩
    rw [decide_eq_true (show (n : Int) ≤ 8 by omega)]
    refine iteF ?_
    exact ⟨.int (n : Int), rfl, q _ ((s1.trans sb).trans sc)⟩
/-! ### mirrors_by -/
def setP (L p : List Int) : List Int := match p with
  | [a, b] => (L.set a.toNat b).set b.toNat a
  | _ => L
theorem scMB : FnScope ["many", "pairs", "mirrors", "a", "b"] ["many", "pairs"] (defScope sMirrorsBy) := ⟨rfl, rfl, rfl, by decide +kernel, rfl, by decide +kernel, by decide +kernel⟩
def spMB (K : PySem.W.Frag) : Sp := fun vs H Q _ => ∃ (m : Nat) (a : Addr) (ps : List (List Int)), vs = [.int (m : Int), .ref a] ∧ TLp K H a ps ∧ m ≤ 1000 ∧ ps.length ≤ 1000 ∧ (∀ p ∈ ps, ∃ x y : Int, p = [x, y] ∧ (0 ≤ x ∧ x < (m : Int)) ∧ (0 ≤ y ∧ y < (m : Int))) ∧
  ∀ (b : Addr) H', Same H H' → SqT K H' b ((ps.foldl setP (rgI 0 (m : Int))).map V.int) → Q (.ref b) H'
theorem setP_len (L p : List Int) : (setP L p).length = L.length := by
  unfold setP
  split
  · rw [List.length_set, List.length_set]
  · rfl
theorem foldP_len : ∀ (ps : List (List Int)) (L : List Int), (ps.foldl setP L).length = L.length
  | [], _ => rfl
  | p :: r, L => by rw [List.foldl_cons, foldP_len r, setP_len]
theorem ok_mb {f : Addr} {fd : FuncData} (F : Fun K "mirrors_by" "mirrors_by" sMirrorsBy f fd) (B : Bare mg) : FnOk P w K mg base CX0 1 f fd ["many", "pairs"] (spMB K) := by
  refine F.ok scMB (fun vs H Q E h => ?_) (fun cdv A outer s H vs Q E hr h => ?_)
  · obtain ⟨m, a, ps, rfl, _⟩ := h
    rfl
  · obtain ⟨m, a, ps, rfl, hT, hm, hl, hp, q⟩ := h
    refine ⟨_, pss_cons (ps_set (i := 2) scMB.nd rfl (Or.inl rfl) (pe_listRg rfl (by rfl) B.list (prg_1 (by rfl) B.range (pv 0))))
      (pss_cons (ps_for PassesOwn.never rfl (pi_list (pv 1)) (pg_tup rfl (pgs_cons (pg_name (i := 3) scMB.nd rfl (Or.inl rfl)) (pgs_cons (pg_name (i := 4) scMB.nd rfl (Or.inl rfl)) pgs_nil)))
        (pss_cons (ps_asg (pv 4) (pg_sub (pv 2) (pv 3) set_list)) (pss_one (ps_asg (pv 3) (pg_sub (pv 2) (pv 4) set_list)))))
      (pss_one (ps_ret (pe_tupleOf (by rfl) B.tuple (pv 2))))), ?_⟩
    obtain ⟨ks, rfl, hL, hks⟩ := hT
    rw [List.length_map] at hl
    refine ⟨.int (m : Int), rfl, (m : Int), rfl, RgOk.of_le (by omega) (by omega) (by omega) (by omega), fun b nb => ?_⟩
    refine nx_step ?_
    dsimp only
    have sb := same_upd (o := .lst (rgV 0 (m : Int))) nb
    have eb : (upd H b (.lst (rgV 0 (m : Int)))) b = some (.lst ((rgI 0 (m : Int)).map V.int)) := by rw [upd_same, rgV_rgI]
    generalize upd H b (.lst (rgV 0 (m : Int))) = H1 at sb eb ⊢
    refine ⟨.ref a, rfl, a, rfl, ⟨_, lstNew (sb _ _ hL)⟩, ?_⟩
    refine for_list (K := K) (a := a) (xs := ks.map fun q => V.ref q.1) (fun i σ H' => ∃ (y3 y4 : Option V), σ = [some (.int (m : Int)), some (.ref a), some (.ref b), y3, y4] ∧ Same H H' ∧ H' b = some (.lst ((((ks.take i).map (·.2)).foldl setP (rgI 0 (m : Int))).map V.int)))
      ⟨none, none, rfl, sb, eb⟩ (fun i σ H' _ h => ?_) (fun i x σ H' hx h => ?_) (fun σ H' h => ?_)
    · obtain ⟨_, _, _, s', _⟩ := h
      exact lstNew (s' _ _ hL)
    · obtain ⟨y3, y4, rfl, s', e'⟩ := h
      obtain ⟨k, g, rfl⟩ := map_at hx
      have hk : k ∈ ks := List.mem_of_getElem? g
      obtain ⟨x, y, e, bx, by_⟩ := hp k.2 (List.mem_map.mpr ⟨k, hk, rfl⟩)
      have hkT : SqT K H' k.1 ([x, y].map V.int) := by rw [← e]; exact sqT_same s' (hks k hk)
      have hlen : (((ks.take i).map (·.2)).foldl setP (rgI 0 (m : Int))).length = m := by rw [foldP_len, rgI_len]; omega
      refine ⟨k.1, _, rfl, hkT, rfl, _, _, rfl, _, _, rfl, rfl, ?_⟩
      dsimp only
      refine ⟨.int y, rfl, .ref b, rfl, .int x, rfl, b, _, x, x.toNat, rfl, rfl, e', ix_at (by rw [List.length_map, hlen]; omega) bx.1, ?_⟩
      refine ⟨.int x, rfl, .ref b, rfl, .int y, rfl, b, _, y, y.toNat, rfl, rfl, upd_same, ix_at (by rw [List.length_set, List.length_map, hlen]; omega) by_.1, ?_⟩
      refine ⟨_, _, rfl, fun c o z => ?_, ?_⟩
      · rw [upd_ne (ne_of_none z nb), upd_ne (ne_of_none z nb)]; exact s' c o z
      · rw [upd_same, List.take_add_one, g, List.map_append, List.foldl_append]
        show _ = some (HO.lst ((setP _ k.2).map V.int))
        rw [e]
        show _ = some (HO.lst (((List.set _ x.toNat y).set y.toNat x).map V.int))
        rw [List.map_set, List.map_set]
    · obtain ⟨y3, y4, rfl, s', e'⟩ := h
      rw [List.length_map, List.take_of_length_le (Nat.le_refl _)] at e'
      refine ⟨.ref b, rfl, .inl ⟨b, _, rfl, lstNew e', fun c nc => ?_⟩⟩
      exact q c _ (s'.trans (same_upd nc)) (tupNew upd_same)
end
end K50
set_option maxHeartbeats 4000000
namespace K50
open PySem PySem.Spec PyProof.Rows L2 RV
section
variable {P : Program} {w : World} {K : PySem.W.Frag} {mg : Str → Option Value} {base : Heap}
/-! ### is_step -/
theorem scStep : FnScope ["thing", "many"] ["thing", "many"] (defScope sStep) := ⟨rfl, rfl, rfl, by decide +kernel, rfl, by decide +kernel, by decide +kernel⟩
def spStep (K : PySem.W.Frag) : Sp := fun vs H Q _ => ∃ (a : Addr) (x y n : Int), vs = [.ref a, .int n] ∧ SqT K H a ([x, y].map V.int) ∧ (0 ≤ x ∧ x < n) ∧ (0 ≤ y ∧ y < n) ∧ ∀ H', Same H H' → Q (.bl true) H'
theorem ok_step {f fA : Addr} {fd fdA : FuncData} (F : Fun K "is_step" "is_step" sStep f fd) (DA : DefAt K mg "are_marks" sMarks ["thing", "many"] fA fdA) (GA : FnOk P w K mg base CX0 3 fA fdA ["thing", "many"] (spMarks K)) (B : Bare mg) :
    FnOk P w K mg base CX0 4 f fd ["thing", "many"] (spStep K) := by
  refine F.ok scStep (fun vs H Q E h => ?_) (fun cdv A outer s H vs Q E hr h => ?_)
  · obtain ⟨a, x, y, n, rfl, _⟩ := h
    rfl
  · obtain ⟨a, x, y, n, rfl, hT, hx, hy, q⟩ := h
    refine ⟨_, pss_one (ps_ret (pe_and (pe_call GA hr (by rfl) DA.mg DA.fn.kp DA.bi .nil pass0 (pa_cons (pv 0) (pa_cons (pv 1) pa_nil))) (pe_one (pe_cmpR op_eq (pe_callB call_len_seq (by rfl) B.len PySem.boot_len (pa_cons (pv 0) pa_nil)) pe_int (nomark _))))), ?_⟩
    refine ⟨.ref a, rfl, .int n, rfl, a, [x, y], n, rfl, hT, by simp, by simp, fun i hi => ?_, fun H1 s1 => ⟨true, rfl, iteT ?_⟩⟩
    · simp only [List.mem_cons, List.mem_nil_iff, or_false, List.not_mem_nil] at hi
      rcases hi with rfl | rfl
      · exact hx
      · exact hy
    · refine ⟨.ref a, rfl, a, _, rfl, .inr (sqT_same s1 hT), rfl, ?_⟩
      exact q H1 s1
/-! ### is_rising -/
theorem scRising : FnScope ["pairs", "one", "other"] ["pairs"] (defScope sRising) := ⟨rfl, rfl, rfl, by decide +kernel, rfl, by decide +kernel, by decide +kernel⟩
def spRising (K : PySem.W.Frag) : Sp := fun vs H Q _ => ∃ (a : Addr) (ps : List (List Int)), vs = [.ref a] ∧ Tups K H a ps ∧ ps.length ≤ 1000 ∧ (∀ (i : Nat) (p q : List Int), ps[i]? = some p → ps[i + 1]? = some q → HT.lexLt p q = true) ∧ ∀ H', Same H H' → Q (.bl true) H'
theorem cut1 (xs : List V) : cutV xs (some 1) none = xs.drop 1 := by
  unfold cutV
  rw [show HT.sIx xs.length 0 (some 1) = min 1 xs.length from HT.sIx_nat xs.length 0 1, HT.sIx_none]
  cases xs with
  | nil => rfl
  | cons x r =>
    rw [show min 1 (x :: r).length = 1 by rw [List.length_cons]; omega]
    show (List.take ((x :: r).length - 1) r) = r
    rw [List.length_cons, Nat.add_sub_cancel]
    exact List.take_length
theorem ok_rising {f : Addr} {fd : FuncData} (F : Fun K "is_rising" "is_rising" sRising f fd) (B : Bare mg) : FnOk P w K mg base CX0 1 f fd ["pairs"] (spRising K) := by
  refine F.ok scRising (fun vs H Q E h => ?_) (fun cdv A outer s H vs Q E hr h => ?_)
  · obtain ⟨a, ps, rfl, _⟩ := h
    rfl
  · obtain ⟨a, ps, rfl, hTT, hl, hrise, q⟩ := h
    obtain ⟨ks, rfl, hT, hks⟩ := hTT
    refine ⟨_, pss_one (ps_ret (pe_callB (cr_all rfl) (by rfl) B.all (by decide +kernel) (pa_cons
        (pe_lc (own := [("one", 1), ("other", 2)]) (g := gTup K 2 (gCons (gName 1) (gCons (gName 2) gNil))) (tt := tYes) rfl scRising.nd (RZ.pi_zipA (by rfl) B.zip (pa_cons (pv 0) (pa_cons (pe_slice sl_tupA (pv 0) (po_some pe_int) po_none) pa_nil))) (blkOk_by (N := ["pairs", "one", "other"]) (sc := defScope sRising) (by decide +kernel))
          (fun _ _ _ _ _ => pg_tupK rfl rfl (pgs_cons (pg_name (i := 1) scRising.nd rfl (Or.inl rfl)) (pgs_cons (pg_name (i := 2) scRising.nd rfl (Or.inl rfl)) pgs_nil))) (fun _ _ _ _ _ => pts_nil)
          (fun _ _ _ _ _ => pe_cmpR (op_ltTK (K := K) rfl hr.units0) (pv 1) (pv 2) (nomark _))) pa_nil))), ?_⟩
    have go : ∀ (b : Addr) (H1 : Hp) (Qc : VK), Same H H1 → SqT K H1 b ((ks.map fun p => V.ref p.1).drop 1) → (∀ D H', Same H1 H' → H' D = some (.lst (List.replicate (ks.length - 1) (V.bl true))) → Qc (.ref D) H') →
        tLc (fun _ H2 R => R (RZ.ItzT K a b) H2) (gTup K 2 (gCons (gName 1) (gCons (gName 2) gNil))) tYes (tOp (rLtT K) (tVar 1) (tVar 2)) [1, 2] (start ["pairs", "one", "other"] [.ref a]) H1 Qc := by
      intro b H1 Qc s1 hb fin D nD
      refine lc_it (walk_zipT (K := K) (a := a) (b := b) (xs := ks.map fun p => V.ref p.1) (ys := (ks.map fun p => V.ref p.1).drop 1) (n := ks.length - 1) (by rw [List.length_drop, List.length_map]; omega))
        (fun i H' => Same H1 H' ∧ H' D = some (.lst (List.replicate i (V.bl true)))) ⟨same_upd nD, upd_same⟩ (fun i H' _ p => ⟨sqT_same p.1 (sqT_same s1 hT), sqT_same p.1 hb⟩) (fun i x H2 H3 hi p y => ?_) fun H' p => fin D H' p.1 p.2
      obtain ⟨T, x1, x2, rfl, nT, rfl, e1, e2⟩ := y
      have e3 : ((ks.map fun p => V.ref p.1).drop 1)[i]? = some x2 := e2
      rw [List.getElem?_drop] at e3
      obtain ⟨k1, g1, rfl⟩ := map_at e1
      obtain ⟨k2, g2, rfl⟩ := map_at e3
      have sT : Same H2 (upd H2 T (.tup [V.ref k1.1, V.ref k2.1])) := same_upd nT
      have sA : Same H (upd H2 T (.tup [V.ref k1.1, V.ref k2.1])) := (s1.trans p.1).trans sT
      have lt : HT.lexLt k1.2 k2.2 = true := by
        refine hrise i k1.2 k2.2 ?_ ?_
        · rw [List.getElem?_map, g1]; rfl
        · rw [Nat.add_comm, List.getElem?_map, g2]; rfl
      refine ⟨T, _, rfl, tupNew upd_same, rfl, _, _, rfl, _, _, rfl, rfl, rfl, tt_yes ⟨.ref k1.1, rfl, .ref k2.1, rfl, k1.1, k2.1, k1.2, k2.2, rfl, rfl, sqT_same sA (hks k1 (List.mem_of_getElem? g1)), sqT_same sA (hks k2 (List.mem_of_getElem? g2)), _, sT _ _ p.2, ?_, ?_, ?_⟩⟩
      · rw [List.length_replicate]; rw [List.length_map] at hl; exact few1 (by omega)
      · exact fun b o e => by rw [upd_ne (ne_of_none e nD)]; exact sT b o (p.1 b o e)
      · rw [upd_same, lt, rep_next]
    have fin : ∀ (H1 : Hp), Same H H1 → ∀ D H', Same H1 H' → H' D = some (.lst (List.replicate (ks.length - 1) (V.bl true))) → ∃ (a : Addr) (bs : List Bool), [V.ref D] = [V.ref a] ∧ SqL K H' a (bs.map V.bl) ∧ Q (.bl (bs.all id)) H' := by
      intro H1 s1 D H' s2 e
      refine ⟨D, List.replicate (ks.length - 1) true, rfl, lstNew (by rw [e, rep_bl]), ?_⟩
      rw [all_true]
      exact q H' (s1.trans s2)
    refine ⟨.ref a, rfl, .ref a, rfl, 1, rfl, a, _, rfl, hT, fun hw => ?_, fun hw c nc => ?_⟩
    · have e0 : ks.map (fun p => V.ref p.1) = [] := by
        cases hk : ks.map (fun p => V.ref p.1) with
        | nil => rfl
        | cons x r =>
          rw [hk] at hw
          have h1 := hw.1
          rw [show HT.sIx (x :: r).length 0 (some 1) = min 1 (x :: r).length from HT.sIx_nat _ 0 1, List.length_cons] at h1
          omega
      refine ⟨a, a, _, _, rfl, .inr ⟨hT, hT, ?_⟩⟩
      refine go a H (fun v H2 => ∃ (a : Addr) (bs : List Bool), [v] = [V.ref a] ∧ SqL K H2 a (bs.map V.bl) ∧ Q (.bl (bs.all id)) H2) (Same.refl H) ?_ ?_
      · rw [e0]; rw [e0] at hT; exact hT
      · exact fin H (Same.refl H)
    · have s1 : Same H (upd H c (.tup (cutV (ks.map fun p => V.ref p.1) (some 1) none))) := same_upd nc
      refine ⟨a, c, _, _, rfl, .inr ⟨sqT_same s1 hT, tupNew upd_same, ?_⟩⟩
      refine go c _ (fun v H2 => ∃ (a : Addr) (bs : List Bool), [v] = [V.ref a] ∧ SqL K H2 a (bs.map V.bl) ∧ Q (.bl (bs.all id)) H2) s1 ?_ ?_
      · exact tupNew (by rw [upd_same, cut1])
      · exact fin _ s1
end
end K50
set_option maxHeartbeats 4000000
namespace K50
open PySem PySem.Spec PyProof.Rows L2 RV
/-- the marks behind m by the steps ps -/
def behindOf (ps : List (List Int)) (m : Int) : List Int := (ps.filter fun p => decide (p.getD 0 0 = m)).map fun p => p.getD 1 0
section
variable {P : Program} {w : World} {K : PySem.W.Frag} {mg : Str → Option Value} {base : Heap}
/-! ### marks_behind -/
theorem scBehind : FnScope ["steps", "mark", "a", "b"] ["steps", "mark"] (defScope sBehind) := ⟨rfl, rfl, rfl, by decide +kernel, rfl, by decide +kernel, by decide +kernel⟩
def spBehind (K : PySem.W.Frag) : Sp := fun vs H Q _ => ∃ (a : Addr) (ps : List (List Int)) (m : Int), vs = [.ref a, .int m] ∧ Tups K H a ps ∧ ps.length ≤ 1000 ∧ (∀ p ∈ ps, ∃ x y : Int, p = [x, y]) ∧
  ∀ H' t, Same H H' → H t = none → H' t = some (.tup ((behindOf ps m).map V.int)) → Q (.ref t) H'
theorem behind_next {ps : List (List Int)} {m : Int} {i : Nat} {x y : Int} (h : ps[i]? = some [x, y]) : behindOf (ps.take (i + 1)) m = behindOf (ps.take i) m ++ (if x = m then [y] else []) := by
  unfold behindOf
  rw [List.take_add_one, h]
  show List.map _ (List.filter _ (ps.take i ++ [[x, y]])) = _
  rw [List.filter_append, List.map_append]
  by_cases e : x = m
  · simp [e]
  · simp [e]
theorem behind_len (ps : List (List Int)) (m : Int) : (behindOf ps m).length ≤ ps.length := by
  unfold behindOf
  rw [List.length_map]
  exact List.length_filter_le _ _
theorem ok_behind {f : Addr} {fd : FuncData} (F : Fun K "marks_behind" "marks_behind" sBehind f fd) (B : Bare mg) : FnOk P w K mg base CX0 1 f fd ["steps", "mark"] (spBehind K) := by
  refine F.ok scBehind (fun vs H Q E h => ?_) (fun cdv A outer s H vs Q E hr h => ?_)
  · obtain ⟨a, ps, m, rfl, _⟩ := h
    rfl
  · obtain ⟨a, ps, m, rfl, hTT, hl, hp, q⟩ := h
    obtain ⟨ks, rfl, hT, hks⟩ := hTT
    refine ⟨_, pss_one (ps_ret (pe_tupleOf (by rfl) B.tuple
        (pe_lc (own := [("a", 2), ("b", 3)]) (g := gTup K 2 (gCons (gName 2) (gCons (gName 3) gNil))) rfl scBehind.nd (pi_tup (pv 0)) (blkOk_by (N := ["steps", "mark", "a", "b"]) (sc := defScope sBehind) (by decide +kernel))
          (fun _ _ _ _ _ => pg_tupK rfl rfl (pgs_cons (pg_name (i := 2) scBehind.nd rfl (Or.inl rfl)) (pgs_cons (pg_name (i := 3) scBehind.nd rfl (Or.inl rfl)) pgs_nil))) (fun _ _ _ _ _ => pts_one (pt_cmpR op_eq (pv 2) (pv 1) (nomark _)))
          (fun _ _ _ _ _ => pv 3)))), ?_⟩
    refine ⟨.ref a, rfl, a, rfl, ⟨_, hT⟩, fun D nD => ?_⟩
    refine lc_tup (K := K) (a := a) (xs := ks.map fun p => V.ref p.1) (fun i H' => Same H H' ∧ H' D = some (.lst ((behindOf ((ks.map (·.2)).take i) m).map V.int))) ⟨same_upd nD, by rw [upd_same]; rfl⟩ (fun i H' _ p => sqT_same p.1 hT) (fun i x H' hx p => ?_) fun H' p => ?_
    · obtain ⟨k, g, rfl⟩ := map_at hx
      have hk : k ∈ ks := List.mem_of_getElem? g
      obtain ⟨x, y, e⟩ := hp k.2 (List.mem_map_of_mem hk)
      have hkT : SqT K H' k.1 ([x, y].map V.int) := by rw [← e]; exact sqT_same p.1 (hks k hk)
      have gi : (ks.map (·.2))[i]? = some [x, y] := by rw [List.getElem?_map, g, ← e]; rfl
      refine ⟨k.1, _, rfl, hkT, rfl, _, _, rfl, _, _, rfl, rfl, rfl, .int x, rfl, .int m, rfl, rfl, _, rfl, ?_⟩
      have hle := behind_len ((ks.map (·.2)).take i) m
      rw [List.length_take] at hle
      by_cases e : x = m
      · subst e
        rw [decide_eq_true rfl]
        refine iteT ⟨.int y, rfl, _, p.2, ?_, ?_, ?_⟩
        · rw [List.length_map]; exact few1 (by omega)
        · exact fun b o z => by rw [upd_ne (ne_of_none z nD)]; exact p.1 b o z
        · rw [upd_same, behind_next gi, if_pos rfl, List.map_append]; rfl
      · rw [decide_eq_false (fun z => e (V.int.inj z))]
        refine iteF ⟨p.1, ?_⟩
        rw [p.2, behind_next gi, if_neg e, List.append_nil]
    · rw [List.length_map] at p
      have e : (ks.map (·.2)).take ks.length = ks.map (·.2) := List.take_of_length_le (by rw [List.length_map]; exact Nat.le_refl _)
      rw [e] at p
      refine .inl ⟨D, _, rfl, lstNew p.2, fun t nt => ?_⟩
      exact q _ t (p.1.trans (same_upd nt)) (p.1.free nt) upd_same
/-! ### are_steps -/
theorem scSteps : FnScope ["mirrors", "thing", "pair", "a", "b"] ["mirrors", "thing"] (defScope sSteps) := ⟨rfl, rfl, rfl, by decide +kernel, rfl, by decide +kernel, by decide +kernel⟩
def spSteps (K : PySem.W.Frag) : Sp := fun vs H Q _ => ∃ (a b : Addr) (ns : List Int) (ps : List (List Int)), vs = [.ref a, .ref b] ∧ SqT K H a (ns.map V.int) ∧ Tups K H b ps ∧ Mir ns ∧ Stp ns ps ∧ ∀ H', Same H H' → Q (.bl true) H'
theorem ok_steps {f fS fR : Addr} {fd fdS fdR : FuncData} (F : Fun K "are_steps" "are_steps" sSteps f fd) (DS : DefAt K mg "is_step" sStep ["thing", "many"] fS fdS) (GS : FnOk P w K mg base CX0 4 fS fdS ["thing", "many"] (spStep K))
    (DR : DefAt K mg "is_rising" sRising ["pairs"] fR fdR) (B : Bare mg) : FnOk P w K mg base CX0 5 f fd ["mirrors", "thing"] (spSteps K) := by
  have GR : FnOk P w K mg base CX0 1 fR fdR ["pairs"] (spRising K) := ok_rising DR.fn B
  refine F.ok scSteps (fun vs H Q E h => ?_) (fun cdv A outer s H vs Q E hr h => ?_)
  · obtain ⟨a, b, ns, ps, rfl, _⟩ := h
    rfl
  · obtain ⟨a, b, ns, ps, rfl, hA, hTT, hM, hS, q⟩ := h
    have hTT0 := hTT
    obtain ⟨ks, rfl, hT, hks⟩ := hTT
    have h64 := hS.few
    rw [List.length_map] at h64
    refine ⟨_, pss_cons (ps_if (pt_not (pt_val (pe_callB call_isi (by rfl) B.isinstance (by decide +kernel) (pa_cons (pv 1) (pa_cons (pe_bltn (v := .ty "tuple") (by rfl) B.tuple (by decide +kernel) rfl) pa_nil))))) (pss_one (ps_ret pe_bl)) pss_nil)
      (pss_cons (ps_if (pt_not (pt_val (pe_callB (cr_all rfl) (by rfl) B.all (by decide +kernel) (pa_cons
        (pe_lc (own := [("pair", 2)]) (g := gName 2) (tt := tYes) rfl scSteps.nd (pi_tup (pv 1)) (blkOk_by (N := ["mirrors", "thing", "pair", "a", "b"]) (sc := defScope sSteps) (by decide +kernel)) (fun _ _ _ _ _ => pg_name (i := 2) scSteps.nd rfl (Or.inl rfl)) (fun _ _ _ _ _ => pts_nil)
          (fun _ _ _ _ _ => pe_call GS hr (by rfl) DS.mg DS.fn.kp DS.bi .nil pass0 (pa_cons (pv 2) (pa_cons (pe_callB (call_lenK (K := K) rfl) (by rfl) B.len PySem.boot_len (pa_cons (pv 0) pa_nil)) pa_nil)))) pa_nil)))) (pss_one (ps_ret pe_bl)) pss_nil)
      (pss_cons (ps_if (pt_not (pt_val (pe_call GR (hr.mono (by decide)) (by rfl) DR.mg DR.fn.kp DR.bi .nil pass0 (pa_cons (pv 1) pa_nil)))) (pss_one (ps_ret pe_bl)) pss_nil)
      (pss_one (ps_ret (pe_callB (cr_all rfl) (by rfl) B.all (by decide +kernel) (pa_cons
        (pe_lc (own := [("a", 3), ("b", 4)]) (g := gTup K 2 (gCons (gName 3) (gCons (gName 4) gNil))) (tt := tYes) rfl scSteps.nd (pi_tup (pv 1)) (blkOk_by (N := ["mirrors", "thing", "pair", "a", "b"]) (sc := defScope sSteps) (by decide +kernel))
          (fun _ _ _ _ _ => pg_tupK rfl rfl (pgs_cons (pg_name (i := 3) scSteps.nd rfl (Or.inl rfl)) (pgs_cons (pg_name (i := 4) scSteps.nd rfl (Or.inl rfl)) pgs_nil))) (fun _ _ _ _ _ => pts_nil)
          (fun _ _ _ _ _ => pe_cmpR (op_inTsK (K := K) rfl (un65 hr)) (pe_tup (pa_cons (pe_ix (ix_tupK (K := K) rfl) (pv 0) (pv 4) (fun _ _ => rfl)) (pa_cons (pe_ix (ix_tupK (K := K) rfl) (pv 0) (pv 3) (fun _ _ => rfl)) pa_nil))) (pv 1) (by rfl))) pa_nil)))))), ?_⟩
    -- isinstance(thing, tuple)
    refine ⟨.ref b, rfl, .ref b, .ty "tuple", _, _, true, rfl, .ty "tuple", tyT hT, kit_ty (by decide +kernel), true, rfl, iteF ?_⟩
    -- all of them are steps
    refine ⟨.ref b, rfl, b, rfl, ⟨_, hT⟩, fun D nD => ?_⟩
    refine lc_tup (K := K) (a := b) (xs := ks.map fun p => V.ref p.1) (fun i H' => Same H H' ∧ H' D = some (.lst (List.replicate i (V.bl true)))) ⟨same_upd nD, upd_same⟩ (fun i H' _ p => sqT_same p.1 hT) (fun i x H' hx p => ?_) fun H1 p => ?_
    · obtain ⟨k, g, rfl⟩ := map_at hx
      have hk : k ∈ ks := List.mem_of_getElem? g
      have hi : i < ks.length := (List.getElem?_eq_some_iff.mp g).1
      obtain ⟨x, y, e, hx1, hy1⟩ := hS.pair k.2 (List.mem_map_of_mem hk)
      have hkT : SqT K H' k.1 ([x, y].map V.int) := by rw [← e]; exact sqT_same p.1 (hks k hk)
      refine ⟨rfl, tt_yes ⟨.ref k.1, rfl, .ref a, rfl, a, _, rfl, .inr (sqT_same p.1 hA), k.1, x, y, _, rfl, hkT, ?_, ?_, fun H2 s2 => ⟨_, s2 _ _ p.2, ?_, ?_, ?_⟩⟩⟩
      · rw [List.length_map]; exact hx1
      · rw [List.length_map]; exact hy1
      · rw [List.length_replicate]; exact few1 (by omega)
      · exact fun c o z => by rw [upd_ne (ne_of_none z nD)]; exact s2 c o (p.1 c o z)
      · rw [upd_same, rep_next]
    · rw [rep_bl] at p
      refine ⟨D, _, rfl, lstNew p.2, ?_⟩
      rw [all_true]
      refine ⟨true, rfl, iteF ?_⟩
      -- they rise
      refine ⟨.ref b, rfl, b, _, rfl, hTT0.same p.1, by rw [List.length_map]; omega, hS.rise, fun H2 s2 => ⟨true, rfl, iteF ?_⟩⟩
      have s02 : Same H H2 := p.1.trans s2
      -- their mirror steps
      refine ⟨.ref b, rfl, b, rfl, ⟨_, sqT_same s02 hT⟩, fun D2 nD2 => ?_⟩
      refine lc_tup (K := K) (a := b) (xs := ks.map fun p => V.ref p.1) (fun i H' => Same H2 H' ∧ H' D2 = some (.lst (List.replicate i (V.bl true)))) ⟨same_upd nD2, upd_same⟩ (fun i H' _ p => sqT_same p.1 (sqT_same s02 hT)) (fun i x H' hx p => ?_) fun H3 p => ?_
      · obtain ⟨k, g, rfl⟩ := map_at hx
        have hk : k ∈ ks := List.mem_of_getElem? g
        have hi : i < ks.length := (List.getElem?_eq_some_iff.mp g).1
        obtain ⟨x, y, e, hx1, hy1⟩ := hS.pair k.2 (List.mem_map_of_mem hk)
        have s0' : Same H H' := s02.trans p.1
        have hkT : SqT K H' k.1 ([x, y].map V.int) := by rw [← e]; exact sqT_same s0' (hks k hk)
        obtain ⟨mx, gx⟩ : ∃ mx, ns[x.toNat]? = some mx := ⟨_, List.getElem?_eq_getElem (by omega)⟩
        obtain ⟨my, gy⟩ : ∃ my, ns[y.toNat]? = some my := ⟨_, List.getElem?_eq_getElem (by omega)⟩
        have hin : [my, mx] ∈ ks.map (·.2) := hS.mirr x y mx my (by rw [← e]; exact List.mem_map_of_mem hk) gx gy
        have ax : atI (ns.map V.int) x = some (.int mx) := by
          rw [show x = ((x.toNat : Nat) : Int) by omega]; exact atI_nat (by rw [List.getElem?_map, gx]; rfl)
        have ay : atI (ns.map V.int) y = some (.int my) := by
          rw [show y = ((y.toNat : Nat) : Int) by omega]; exact atI_nat (by rw [List.getElem?_map, gy]; rfl)
        refine ⟨k.1, _, rfl, hkT, rfl, _, _, rfl, _, _, rfl, rfl, rfl, tt_yes ⟨.ref a, rfl, .int y, rfl, a, _, y, _, rfl, rfl, sqT_same s0' hA, ay, .ref a, rfl, .int x, rfl, a, _, x, _, rfl, rfl, sqT_same s0' hA, ax, (by show 2 ≤ sizeLine; decide), fun T nT => ?_⟩⟩
        have sT : Same H' (upd H' T (.tup [.int my, .int mx])) := same_upd nT
        refine ⟨.ref b, rfl, T, b, [my, mx], _, rfl, rfl, tupNew upd_same, (hTT0.same s0').same sT, _, sT _ _ p.2, ?_, ?_, ?_⟩
        · rw [List.length_replicate]; exact few1 (by omega)
        · exact fun c o z => by rw [upd_ne (ne_of_none z nD2)]; exact sT c o (p.1 c o z)
        · rw [upd_same, decide_eq_true hin, rep_next]
      · rw [rep_bl] at p
        refine ⟨D2, _, rfl, lstNew p.2, ?_⟩
        rw [all_true]
        exact q H3 (s02.trans p.1)
end
end K50
set_option maxHeartbeats 4000000
namespace K50
open PySem PySem.Spec PyProof.Rows L2 RV
/-! ### a Rule's fields -/
theorem n1 : ¬ (("mirrors" : Str) = "steps") := by decide +kernel
theorem n2 : ¬ (("mirrors" : Str) = "followers") := by decide +kernel
theorem n3 : ¬ (("steps" : Str) = "followers") := by decide +kernel
def flds (a b t : Addr) : List (Str × V) := putF "followers" (.ref t) (putF "steps" (.ref b) (putF "mirrors" (.ref a) []))
theorem flds_m (a b t : Addr) : (flds a b t).lookup ("mirrors" : Str) = some (.ref a) := by
  unfold flds
  rw [lookup_putF, if_neg n2, lookup_putF, if_neg n1, lookup_putF, if_pos rfl]
theorem flds_s (a b t : Addr) : (flds a b t).lookup ("steps" : Str) = some (.ref b) := by
  unfold flds
  rw [lookup_putF, if_neg n3, lookup_putF, if_pos rfl]
/-- all that a mark is followed by, mark by mark -/
def follow (n : Nat) (ps : List (List Int)) : List (List Int) := (List.range n).map fun (i : Nat) => behindOf ps (i : Int)
/-- a Rule stands at p -/
structure RuleAt (K : PySem.W.Frag) (C : Addr) (H : Hp) (p : Addr) (ns : List Int) (ps : List (List Int)) : Prop where
  ex : ∃ dx a b t, H p = some (.ins C dx (flds a b t)) ∧ SqT K H a (ns.map V.int) ∧ Tups K H b ps ∧ Tups K H t (follow ns.length ps)
theorem RuleAt.same {K : PySem.W.Frag} {C : Addr} {H H' : Hp} {p : Addr} {ns : List Int} {ps : List (List Int)} (r : RuleAt K C H p ns ps) (s : Same H H') : RuleAt K C H' p ns ps := by
  obtain ⟨dx, a, b, t, h1, h2, h3, h4⟩ := r.ex
  exact ⟨dx, a, b, t, s _ _ h1, sqT_same s h2, h3.same s, h4.same s⟩
/-- what the class is, behind the top -/
structure Txt (K : PySem.W.Frag) (mg : Str → Option Value) (C : Addr) : Prop where
  cl : Cls K C
  nM : NoAttr K C "mirrors"
  nS : NoAttr K C "steps"
  nF : NoAttr K C "followers"
  mgC : mg "Rule" = some (.ref C)
  c1 : PySem.W.findIn K (.ref C) "__class__" = some (some (.builtin "object.__class__"))
  c2 : PySem.W.specialIn K (.builtin "object.__class__") "__get__" = some (some (.builtin "getset_descriptor.__get__"))
  c3 : PySem.W.takesIn K (.builtin "object.__class__") = some true
  c4 : PySem.W.mroIn K C (.type "object") = some true
  c5 : PySem.W.kitOne K (.ref C) (.ref C) = some true
section
variable {P : Program} {w : World} {K : PySem.W.Frag} {mg : Str → Option Value} {base : Heap}
/-! ### __init__ -/
theorem scInit : FnScope ["self", "mirrors", "steps", "mark"] ["self", "mirrors", "steps"] (defScope sInit) := ⟨rfl, rfl, rfl, by decide +kernel, rfl, by decide +kernel, by decide +kernel⟩
def spInit (K : PySem.W.Frag) (C : Addr) : Sp := fun vs H Q _ => ∃ (p dx a b : Addr) (ns : List Int) (ps : List (List Int)), vs = [.ref p, .ref a, .ref b] ∧ H p = some (.ins C dx []) ∧ SqT K H a (ns.map V.int) ∧ Tups K H b ps ∧ Mir ns ∧ Stp ns ps ∧
  ∀ H' t, (∀ c o, H c = some o → c ≠ p → H' c = some o) → H' p = some (.ins C dx (flds a b t)) → Tups K H' t (follow ns.length ps) → Q .non H'
theorem sqT_but {H H' : Hp} {p C dx : Addr} {fs : List (Str × V)} (hp : H p = some (.ins C dx fs)) (k : ∀ c o, H c = some o → c ≠ p → H' c = some o) {a : Addr} {xs : List V} (h : SqT K H a xs) : SqT K H' a xs := by
  rcases h with (h | ⟨o, h⟩) | h
  · exact .inl (.inl (k _ _ h fun z => by rw [z, hp] at h; cases h))
  · exact .inl (.inr ⟨o, k _ _ h fun z => by rw [z, hp] at h; cases h⟩)
  · exact .inr h
theorem tups_but {H H' : Hp} {p C dx : Addr} {fs : List (Str × V)} (hp : H p = some (.ins C dx fs)) (k : ∀ c o, H c = some o → c ≠ p → H' c = some o) {a : Addr} {ps : List (List Int)} (h : Tups K H a ps) : Tups K H' a ps := by
  obtain ⟨ks, h1, h2, h3⟩ := h
  exact ⟨ks, h1, sqT_but hp k h2, fun q hq => sqT_but hp k (h3 q hq)⟩
theorem follow_next (i : Nat) (ps : List (List Int)) : follow (i + 1) ps = follow i ps ++ [behindOf ps (i : Int)] := by
  unfold follow
  rw [List.range_succ, List.map_append]; rfl
theorem ok_init {f fM fS fB C : Addr} {fd fdM fdS fdB : FuncData} (F : Fun K "__init__" "Rule.__init__" sInit f fd) (T : Txt K mg C)
    (DM : DefAt K mg "are_mirrors" sMirrors ["thing"] fM fdM) (GM : FnOk P w K mg base CX0 4 fM fdM ["thing"] (spMirrors K)) (DS : DefAt K mg "are_steps" sSteps ["mirrors", "thing"] fS fdS) (GS : FnOk P w K mg base CX0 5 fS fdS ["mirrors", "thing"] (spSteps K))
    (DB : DefAt K mg "marks_behind" sBehind ["steps", "mark"] fB fdB) (B : Bare mg) : FnOk P w K mg base CX0 6 f fd ["self", "mirrors", "steps"] (spInit K C) := by
  have GB : FnOk P w K mg base CX0 1 fB fdB ["steps", "mark"] (spBehind K) := ok_behind DB.fn B
  refine F.ok scInit (fun vs H Q E h => ?_) (fun cdv A outer s H vs Q E hr h => ?_)
  · obtain ⟨p, dx, a, b, ns, ps, rfl, _⟩ := h
    rfl
  · obtain ⟨p, dx, a, b, ns, ps, rfl, hp, hA, hB, hM, hS, q⟩ := h
    refine ⟨_, pss_cons (ps_if (pt_not (pt_val (pe_call GM (hr.mono (by decide)) (by rfl) DM.mg DM.fn.kp DM.bi .nil pass0 (pa_cons (pv 1) pa_nil)))) (pss_one ps_never) pss_nil)
      (pss_cons (ps_if (pt_not (pt_val (pe_call GS hr (by rfl) DS.mg DS.fn.kp DS.bi .nil pass0 (pa_cons (pv 1) (pa_cons (pv 2) pa_nil))))) (pss_one ps_never) pss_nil)
      (pss_cons (ps_fld (pv 0) (pv 1) rfl)
      (pss_cons (ps_fld (pv 0) (pv 2) rfl)
      (pss_one (ps_fld (pv 0) (pe_tupleOf (by rfl) B.tuple
        (pe_lc (own := [("mark", 3)]) (g := gName 3) (tt := tYes) rfl scInit.nd (pi_range1 (by rfl) B.range (pa_cons (pe_callB call_len_seq (by rfl) B.len PySem.boot_len (pa_cons (pv 1) pa_nil)) pa_nil)) (blkOk_by (N := ["self", "mirrors", "steps", "mark"]) (sc := defScope sInit) (by decide +kernel))
          (fun _ _ _ _ _ => pg_name (i := 3) scInit.nd rfl (Or.inl rfl)) (fun _ _ _ _ _ => pts_nil)
          (fun _ _ _ _ _ => pe_call GB (hr.mono (by decide)) (by rfl) DB.mg DB.fn.kp DB.bi .nil pass0 (pa_cons (pv 2) (pa_cons (pv 3) pa_nil))))) rfl))))), ?_⟩
    refine ⟨.ref a, rfl, a, ns, rfl, hA, hM, fun H1 s1 => ⟨true, rfl, iteF ?_⟩⟩
    refine ⟨.ref a, rfl, .ref b, rfl, a, b, ns, ps, rfl, sqT_same s1 hA, hB.same s1, hM, hS, fun H2 s2 => ⟨true, rfl, iteF ?_⟩⟩
    have s02 : Same H H2 := s1.trans s2
    have hp2 := s02 _ _ hp
    refine ⟨.ref a, rfl, .ref p, rfl, p, C, dx, [], rfl, hp2, T.cl, T.nM, (by show 0 < 1000; decide), ?_⟩
    refine ⟨.ref b, rfl, .ref p, rfl, p, C, dx, _, rfl, upd_same, T.cl, T.nS, (by show 1 < 1000; decide), ?_⟩
    -- the heap behind both stores
    have k4 : ∀ c o, H2 c = some o → c ≠ p → (upd (upd H2 p (.ins C dx (putF "mirrors" (.ref a) []))) p (.ins C dx (putF "steps" (.ref b) (putF "mirrors" (.ref a) [])))) c = some o := fun c o e z => by
      rw [upd_ne z, upd_ne z]; exact e
    generalize e4 : upd (upd H2 p (.ins C dx (putF "mirrors" (.ref a) []))) p (.ins C dx (putF "steps" (.ref b) (putF "mirrors" (.ref a) []))) = H4 at k4 ⊢
    have hp4 : H4 p = some (.ins C dx (putF "steps" (.ref b) (putF "mirrors" (.ref a) []))) := by rw [← e4, upd_same]
    have hA4 : SqT K H4 a (ns.map V.int) := sqT_but hp2 k4 (sqT_same s02 hA)
    have hB4 : Tups K H4 b ps := tups_but hp2 k4 (hB.same s02)
    have h8 := hM.few
    refine ⟨.ref a, rfl, a, _, rfl, .inr hA4, _, rfl, ?_, ?_, fun D nD => ?_⟩
    · rw [List.length_map]; omega
    · rw [List.length_map]; omega
    rw [List.length_map, Int.toNat_natCast]
    refine lc_range (lo := 0) (n := ns.length) (fun i H' => Same H4 H' ∧ ∃ ks : List (Addr × List Int), ks.map (·.2) = follow i ps ∧ H' D = some (.lst (ks.map fun p => V.ref p.1)) ∧ ∀ q ∈ ks, SqT K H' q.1 (q.2.map V.int)) ⟨same_upd nD, [], rfl, upd_same, fun _ z => nomatch z⟩ (fun i H' hi z => ?_) fun H' z => ?_
    · obtain ⟨s5, ks, e1, e2, e3⟩ := z
      have hkl : ks.length = i := by
        have := congrArg List.length e1
        rw [List.length_map] at this
        rw [this]; unfold follow; rw [List.length_map, List.length_range]
      refine ⟨rfl, tt_yes ⟨.ref b, rfl, .int (0 + (i : Nat)), rfl, b, ps, _, rfl, hB4.same s5, by have := hS.few; omega, fun q hq => ?_, fun H6 t s6 nt et => ⟨_, s6 _ _ e2, ?_, ?_, ?_⟩⟩⟩
      · obtain ⟨x, y, e, _⟩ := hS.pair q hq
        exact ⟨x, y, e⟩
      · rw [List.length_map]; exact few1 (by omega)
      · exact fun c o e => by rw [upd_ne (ne_of_none e nD)]; exact s6 c o (s5 c o e)
      · have hk6 : ∀ c o, H6 c = some o → c ≠ D → (upd H6 D (.lst ((ks.map fun p => V.ref p.1) ++ [V.ref t]))) c = some o := fun c o e z => by rw [upd_ne z]; exact e
        have tk : ∀ {c : Addr} {xs : List V}, SqT K H6 c xs → SqT K (upd H6 D (.lst ((ks.map fun p => V.ref p.1) ++ [V.ref t]))) c xs := by
          intro c xs h
          have eD := s6 _ _ e2
          rcases h with (h | ⟨o, h⟩) | h
          · exact .inl (.inl (hk6 _ _ h fun z => by rw [z, eD] at h; cases h))
          · exact .inl (.inr ⟨o, hk6 _ _ h fun z => by rw [z, eD] at h; cases h⟩)
          · exact .inr h
        refine ⟨ks ++ [(t, behindOf ps (i : Int))], ?_, ?_, fun q hq => ?_⟩
        · rw [List.map_append, e1, follow_next]; rfl
        · rw [upd_same, List.map_append]; rfl
        · rcases List.mem_append.mp hq with z | z
          · exact tk (sqT_same s6 (e3 q z))
          · rw [List.mem_singleton.mp z]
            refine tk (tupNew ?_)
            rw [et, show (0 + ((i : Nat) : Int)) = (i : Int) by omega]
    · obtain ⟨s5, ks, e1, e2, e3⟩ := z
      refine .inl ⟨D, _, rfl, lstNew e2, fun t nt => ?_⟩
      have sT : Same H' (upd H' t (.tup (ks.map fun p => V.ref p.1))) := same_upd nt
      have hpT := sT _ _ (s5 _ _ hp4)
      refine ⟨.ref p, rfl, p, C, dx, _, rfl, hpT, T.cl, T.nF, (by
        show (putF "steps" (V.ref b) (putF "mirrors" (V.ref a) [])).length < 1000
        show (if ("mirrors" : Str) = "steps" then [(("mirrors" : Str), V.ref b)] else (("mirrors" : Str), V.ref a) :: putF "steps" (V.ref b) []).length < 1000
        rw [if_neg n1]; show 2 < 1000; decide), ?_⟩
      refine q _ t (fun c o e z => ?_) upd_same ?_
      · rw [upd_ne z]
        exact sT _ _ (s5 _ _ (k4 _ _ (s02 _ _ e) z))
      · have tt : Tups K (upd H' t (.tup (ks.map fun p => V.ref p.1))) t (follow ns.length ps) := ⟨ks, e1, tupNew upd_same, fun q hq => sqT_same sT (e3 q hq)⟩
        exact tups_but hpT (fun c o e z => by rw [upd_ne z]; exact e) tt
end
end K50
set_option maxHeartbeats 4000000
/-! sorted(d), d a dict whose keys are pairs of ints -/
namespace RV
open PySem PySem.Spec PyProof.Rows L2
/-- a pair of ints as a key, and back -/
def keyP (p : List Int) : List L2.Key := p.map Sum.inl
def pairOf (k : List L2.Key) : List Int := k.map fun x => match x with | .inl i => i | .inr _ => 0
theorem pairOf_keyP (p : List Int) : pairOf (keyP p) = p := by
  unfold pairOf keyP
  rw [List.map_map]
  exact List.map_id p
theorem kV_keyP (p : List Int) : (keyP p).map kV = p.map V.int := by
  unfold keyP
  rw [List.map_map]; rfl
abbrev two (p : List Int) : Int × Int := (p.getD 0 0, p.getD 1 0)
open Classical in
noncomputable def readP (h : Heap) (v : Value) : Int × Int := if e : ∃ p : Int × Int, Srt.IsPair h v p.1 p.2 then Classical.choose e else (0, 0)
theorem readP_eq {h : Heap} {v : Value} {x y : Int} (e : Srt.IsPair h v x y) : readP h v = (x, y) := by
  have ex : ∃ p : Int × Int, Srt.IsPair h v p.1 p.2 := ⟨(x, y), e⟩
  unfold readP
  rw [dif_pos ex]
  have c := Classical.choose_spec ex
  generalize Classical.choose ex = p at c
  obtain ⟨a, o, t, u, n, e1, e2, e3, e4⟩ := c
  obtain ⟨a', o', t', u', n', f1, f2, f3, f4⟩ := e
  rw [e1] at f1
  cases f1
  rw [e2] at f2
  cases f2
  rw [e4] at f4
  injection f4 with g1 g2
  have g3 : [Value.int p.1 t, Value.int p.2 u] = [Value.int x t', Value.int y u'] := by
    have := congrArg Array.toList g1
    simpa using this
  injection g3 with g4 g5
  injection g5 with g5 _
  injection g4 with g4 _
  injection g5 with g5 _
  obtain ⟨p1, p2⟩ := p
  simp only at g4 g5
  rw [g4, g5]
theorem paired_mem {α β : Type} {F : α → β → Prop} : ∀ {l : List α} {m : List β}, Paired F l m → ∀ y ∈ m, ∃ x ∈ l, F x y
  | _, _, .nil, y, h => nomatch h
  | _, _, .cons f t, y, h => by
    rcases List.mem_cons.mp h with e | e
    · rw [e]; exact ⟨_, List.mem_cons_self .., f⟩
    · obtain ⟨x, hx, fx⟩ := paired_mem t y e
      exact ⟨x, List.mem_cons_of_mem _ hx, fx⟩
theorem paired_map {α β γ : Type} {F : α → β → Prop} {f : α → γ} {g : β → γ} (h : ∀ a b, F a b → f a = g b) : ∀ {l : List α} {m : List β}, Paired F l m → l.map f = m.map g
  | _, _, .nil => rfl
  | _, _, .cons e t => by rw [List.map_cons, List.map_cons, h _ _ e, paired_map h t]
section
variable {X : Cx}
/-- sorted(d) -/
def rSortDT : List V → Hp → VK → Prop := fun xs H Q => ∃ (d : Addr) (kvs : List (List L2.Key × V)) (ps : List (List Int)), xs = [.ref d] ∧ Rd H d (.dT kvs) ∧ kvs.map (·.1) = ps.map keyP ∧ (∀ p ∈ ps, ∃ x y : Int, p = [x, y]) ∧ kvs.length ≤ 1000 ∧
  ∀ (L : List (Addr × List Int)) (q : Addr), H q = none → (L.map (·.2)).Perm ps → L.Pairwise (fun a b => SrtO.lexB (two b.2) (two a.2) = false) → (∀ a ∈ L, H a.1 = some (.tup (a.2.map V.int))) → Q (.ref q) (upd H q (.lst (L.map fun a => V.ref a.1)))
theorem cr_sortedDT (hc : X.calm = true) : CallR X (.builtin "sorted") rSortDT := by
  intro pins s σ H xs us Q I r h
  obtain ⟨d, kvs, ps, rfl, hd, hks, hpr, h1000, q⟩ := h
  obtain ⟨u, rfl, rx⟩ := vals1 r
  cases rx
  obtain ⟨z, hs, ks, pr, o, es, ep, ho, hx, hdt, he, hn⟩ := (show ObjOk X.prog X.w H s.heap d (.dT kvs) from hd.ok I.hok)
  have l1 : es.size = ks.length := size_of_entries he
  have l2 : kvs.length = ks.length := Paired.length pr
  refine Calls.call_function_entry kind_sorted plain_sorted entry_sorted (args_sorted1 _) ?_
  unfold Builtin.«sorted»
  refine wpAny_bind (m := checkCount "sorted" 1 1 _) (wpAny_pure ?_)
  refine wpAny_bind (PySem.W.kdu_collect (A := X.A.in1) (kdl_raw hs hx hdt) (I.ok.hd hc) ho (by rw [l1, ← l2]; exact Nat.le_of_lt (small1000 h1000)) fun h' tk acc kp it => ?_)
  -- what was collected
  have ea : acc.toList = ks.map fun x => Value.ref x.2.1 := by
    have hl : acc.toList.length = ks.length := by rw [Array.length_toList, it.1, l1]
    refine List.ext_getElem (by rw [hl, List.length_map]) fun j j1 j2 => ?_
    have ja : acc.toList[j]? = some acc.toList[j] := List.getElem?_eq_getElem j1
    obtain ⟨en, hen, hv⟩ := it.2 j _ (by rw [← Array.getElem?_toList]; exact ja)
    have qe := entry_at he j
    have jk : j < ks.length := by rw [List.length_map] at j2; exact j2
    rw [hen, List.getElem?_eq_getElem jk] at qe
    have e2 : en = entryOfKey (tupleKind (mixKind X.prog X.w)) ks[j] := Option.some.inj qe
    rw [hv, e2, List.getElem_map]; rfl
  have I1 : Inv X pins σ H { s with heap := h', toks := tk } := I.kept kp
  have hal : acc.toList.length = ks.length := by rw [ea, List.length_map]
  refine wpAny_bind (wpAny_newList ?_ (by rw [hal, ← l2]; exact Nat.le_of_lt (small1000 h1000)))
  have hoL : (h'.push (seqObj "list" acc.toList.toArray 0)).get? h'.objs.size = some (seqObj "list" acc.toList.toArray 0) := Heap.get?_push_size _ rfl
  show wpAny _ _ _ _ _ { s with heap := h'.push (seqObj "list" acc.toList.toArray 0), toks := tk }
  -- each is a pair
  have ent : ∀ v ∈ acc.toList, ∃ (b : Addr) (p : List Int), v = .ref b ∧ p ∈ ps ∧ H b = some (.tup (p.map V.int)) ∧ ∃ x y : Int, p = [x, y] ∧ Srt.IsPair h' v x y := by
    intro v hv
    rw [ea] at hv
    obtain ⟨x, hx1, rfl⟩ := List.mem_map.mp hv
    obtain ⟨kv, hkv, q1, q2, _⟩ := paired_mem pr x hx1
    have hk2 : kv.1 ∈ ps.map keyP := by rw [← hks]; exact List.mem_map_of_mem hkv
    obtain ⟨p, hp, ep⟩ := List.mem_map.mp hk2
    have hb : H x.2.1 = some (.tup (p.map V.int)) := by rw [q2, ← ep, kV_keyP]
    obtain ⟨x', y', e'⟩ := hpr p hp
    refine ⟨x.2.1, p, rfl, hp, hb, x', y', e', ?_⟩
    obtain ⟨_, its2, r2, oo, ho2, hc2, n2, hd2⟩ := (show ObjOk X.prog X.w H s.heap x.2.1 (.tup (p.map V.int)) from I.hok _ _ hb)
    rw [e'] at r2
    obtain ⟨u1, u2, rfl, ri, rj⟩ := vals2 r2
    obtain ⟨t1, rfl⟩ := ri
    obtain ⟨t2, rfl⟩ := rj
    exact ⟨x.2.1, oo, t1, t2, n2, rfl, kp _ _ ho2, hc2, hd2⟩
  have isp : ∀ v ∈ acc.toList, Srt.IsPair h' v (readP h' v).1 (readP h' v).2 := fun v hv => by
    obtain ⟨b, p, _, _, _, x, y, _, e⟩ := ent v hv
    rw [readP_eq e]; exact e
  refine wpAny_bind (wpAny_holding (wpAny_call_entry slot_list_sort ⟨_, hoL, rfl⟩ entry_list_sort (SrtO.list_sort_ord (s := { s with heap := h'.push (seqObj "list" acc.toList.toArray 0), toks := tk }) (ltv := fun v u => SrtO.lexB (readP h' v) (readP h' u)) (SrtO.swo_lex (readP h')) hoL
    (by rw [hal, ← l2]; exact Nat.le_of_lt (small1000 h1000)) (fun h2 => ?_) fun out g1 g2 => ⟨_, rfl, ?_⟩) (args_list_sort _)))
  · refine SrtO.pairs_sortableO (k := readP h') (s := { s with heap := h'.push (seqObj "list" acc.toList.toArray 0), toks := tk }) (by omega) (fun v hm => (isp v hm).keeps fun b o e _ => Heap.get?_push_of_some _ e) fun o e => ?_
    have e' : some o = some (seqObj "list" acc.toList.toArray 0) := e.symm.trans hoL
    cases e'
    intro c
    exact absurd (Value.type.inj c) (by decide)
  · obtain ⟨e', he'⟩ := sortedHeap_at (vs := acc.toList) (out := out.toArray) hoL
    -- as addresses with their ints
    have inV : ∀ v ∈ out, v ∈ acc.toList := fun v hv => g2.perm.mem_iff.mp hv
    let ad : Value → Addr := fun v => match v with | .ref b => b | _ => 0
    let L : List (Addr × List Int) := out.map fun v => (ad v, [(readP h' v).1, (readP h' v).2])
    have tell : ∀ v ∈ out, v = .ref (ad v) ∧ [(readP h' v).1, (readP h' v).2] ∈ ps ∧ H (ad v) = some (.tup (([(readP h' v).1, (readP h' v).2] : List Int).map V.int)) := fun v hv => by
      obtain ⟨b, p, rfl, hp, hb, x, y, rfl, e⟩ := ent v (inV v hv)
      rw [readP_eq e]
      exact ⟨rfl, hp, hb⟩
    have eo : out = L.map fun a => Value.ref a.1 := by
      show out = (out.map _).map _
      rw [List.map_map]
      conv => lhs; rw [← List.map_id out]
      exact List.map_congr_left fun v hv => (tell v hv).1
    have eks : ∀ v ∈ acc.toList, True := fun _ _ => trivial
    have hLlen : (L.map fun a => V.ref a.1).length ≤ sizeLine := by
      rw [List.length_map, List.length_map, g2.len, hal, ← l2]; exact Nat.le_of_lt (small1000 h1000)
    have rv : Vals (L.map fun a => V.ref a.1) out := by
      rw [eo]
      have : ∀ M : List (Addr × List Int), Vals (M.map fun a => V.ref a.1) (M.map fun a => Value.ref a.1) := fun M => by
        induction M with
        | nil => exact .nil
        | cons m r ih => exact .cons rfl ih
      exact this L
    have e2 : L.map (·.2) = out.map fun v => [(readP h' v).1, (readP h' v).2] := by
      show (out.map _).map _ = _
      rw [List.map_map]; rfl
    have e3 : (acc.toList.map fun v => [(readP h' v).1, (readP h' v).2]) = ps := by
      have w1 : ks.map (fun x => pairOf x.1) = ps := by
        rw [← paired_map (f := fun (a : List L2.Key × V) => pairOf a.1) (g := fun (b : List L2.Key × Addr × Value) => pairOf b.1) (fun a b f => by rw [f.1]) pr]
        have w2 : kvs.map (fun a => pairOf a.1) = (kvs.map (·.1)).map pairOf := by rw [List.map_map]; rfl
        rw [w2, hks, List.map_map]
        conv => rhs; rw [← List.map_id ps]
        exact List.map_congr_left fun p _ => pairOf_keyP p
      rw [← w1, ea, List.map_map]
      refine List.map_congr_left fun x hx1 => ?_
      obtain ⟨kv, hkv, q1, q2, _⟩ := paired_mem pr x hx1
      obtain ⟨b, p, eb, hp, hb, x', y', e', isP⟩ := ent (.ref x.2.1) (by rw [ea]; exact List.mem_map.mpr ⟨x, hx1, rfl⟩)
      cases eb
      show [(readP h' (.ref x.2.1)).1, (readP h' (.ref x.2.1)).2] = pairOf x.1
      rw [readP_eq isP, ← q1]
      have hk2 : kv.1 ∈ ps.map keyP := by rw [← hks]; exact List.mem_map_of_mem hkv
      obtain ⟨p2, hp2, ep2⟩ := List.mem_map.mp hk2
      rw [← ep2, pairOf_keyP]
      rw [hb, ← ep2, kV_keyP] at q2
      have q3 : p.map V.int = p2.map V.int := by
        injection q2 with q2
        injection q2
      have q4 : p = p2 := by
        have inj : ∀ l m : List Int, l.map V.int = m.map V.int → l = m := fun l => by
          induction l with
          | nil => intro m e; cases m with | nil => rfl | cons => cases e
          | cons a r ih =>
            intro m e
            cases m with
            | nil => cases e
            | cons b t =>
              rw [List.map_cons, List.map_cons] at e
              injection e with e1 e2
              injection e1 with e1
              rw [e1, ih t e2]
        exact inj p p2 q3
      rw [← q4, e']
    refine wpAny_pure ⟨_, rfl, .ref h'.objs.size, upd H h'.objs.size (.lst (L.map fun a => V.ref a.1)), I1.laid (t' := tk) (fun b u e => ?_) (Nat.le_refl _)
      (show ObjOk X.prog X.w _ _ _ (.lst (L.map fun a => V.ref a.1)) from ⟨hLlen, out, e', rv, he'⟩), rfl, q L _ (I1.hok.fresh (Nat.le_refl _)) ?_ ?_ fun a ha => ?_⟩
    · have hb : b < h'.objs.size := Heap.lt_size e
      rw [sortedHeap_old (Nat.ne_of_lt hb) (by rw [size_push']; exact Nat.lt_succ_of_lt hb)]
      exact Heap.get?_push_of_some _ e
    · rw [e2, ← e3]
      exact g2.perm.map _
    · show (out.map _).Pairwise _
      rw [List.pairwise_map]
      exact g1
    · obtain ⟨v, hv, rfl⟩ := List.mem_map.mp ha
      exact (tell v hv).2.2
end
end RV
set_option maxHeartbeats 4000000
namespace K50
open PySem PySem.Spec PyProof.Rows L2 RV
/-! ### a dict of pairs, by its keys -/
def addP (ps : List (List Int)) (p : List Int) : List (List Int) := if p ∈ ps then ps else ps ++ [p]
theorem keyP_inj {p q : List Int} (h : keyP p = keyP q) : p = q := by
  have := congrArg pairOf h
  rwa [pairOf_keyP, pairOf_keyP] at this
theorem key_mem {p : List Int} {ps : List (List Int)} : keyP p ∈ ps.map keyP ↔ p ∈ ps := by
  constructor
  · intro h
    obtain ⟨q, hq, e⟩ := List.mem_map.mp h
    rw [← keyP_inj e]; exact hq
  · exact fun h => List.mem_map_of_mem h
theorem put_keys {kvs : List (List L2.Key × V)} {ps : List (List Int)} {p : List Int} {v : V} (h : kvs.map (·.1) = ps.map keyP) : (putK kvs (keyP p) v).map (·.1) = (addP ps p).map keyP := by
  unfold addP
  cases e : valV kvs (keyP p) with
  | none =>
    have n : p ∉ ps := fun z => valV_not e (by rw [h]; exact key_mem.mpr z)
    rw [putK_new v e, if_neg n, List.map_append, List.map_append, h]; rfl
  | some x =>
    have y : p ∈ ps := key_mem.mp (by rw [← h]; exact valV_in e)
    rw [if_pos y, ← h]
    unfold putK
    rw [valV_any, e]
    show (kvs.map fun kv => if kv.1 = keyP p then (kv.1, v) else kv).map (·.1) = kvs.map (·.1)
    rw [List.map_map]
    refine List.map_congr_left fun kv _ => ?_
    show (if kv.1 = keyP p then (kv.1, v) else kv).1 = kv.1
    split <;> rfl
theorem mem_addP {ps : List (List Int)} {p q : List Int} : q ∈ addP ps p ↔ q ∈ ps ∨ q = p := by
  unfold addP
  split
  · rename_i h
    constructor
    · exact .inl
    · rintro (z | rfl)
      · exact z
      · exact h
  · rw [List.mem_append, List.mem_singleton]
theorem nd_addP {ps : List (List Int)} {p : List Int} (h : ps.Nodup) : (addP ps p).Nodup := by
  unfold addP
  split
  · exact h
  · rename_i n
    rw [List.nodup_append]
    exact ⟨h, by simp, fun a ha b hb e => n (by rw [← List.mem_singleton.mp hb, ← e]; exact ha)⟩
/-- a tuple of tuples of ints, all of them seen -/
def TupsH (H : Hp) (a : Addr) (ps : List (List Int)) : Prop := ∃ ks : List (Addr × List Int), ks.map (·.2) = ps ∧ H a = some (.tup (ks.map fun p => V.ref p.1)) ∧ ∀ p ∈ ks, H p.1 = some (.tup (p.2.map V.int))
theorem TupsH.tups {K : PySem.W.Frag} {H : Hp} {a : Addr} {ps : List (List Int)} (h : TupsH H a ps) : Tups K H a ps :=
  let ⟨ks, h1, h2, h3⟩ := h; ⟨ks, h1, tupNew h2, fun p hp => tupNew (h3 p hp)⟩
theorem TupsH.same {H H' : Hp} {a : Addr} {ps : List (List Int)} (h : TupsH H a ps) (e : Same H H') : TupsH H' a ps :=
  let ⟨ks, h1, h2, h3⟩ := h; ⟨ks, h1, e _ _ h2, fun p hp => e _ _ (h3 p hp)⟩
theorem TupsH.but {H H' : Hp} {p a : Addr} {t : Nat} {ps : List (List Int)} (h : TupsH H a ps) (hp : PailAt H p t) (b : But p H H') : TupsH H' a ps := by
  obtain ⟨ks, h1, h2, h3⟩ := h
  obtain ⟨x, y, e, _⟩ := hp
  exact ⟨ks, h1, b _ _ h2 fun z => (by rw [z, e] at h2; cases h2), fun q hq => b _ _ (h3 q hq) fun z => (by have h := h3 q hq; rw [z, e] at h; cases h)⟩
/-- steps drawn so far -/
structure Part (ns : List Int) (ps : List (List Int)) : Prop where
  nd : ps.Nodup
  pr : ∀ p ∈ ps, Pr (ns.length : Int) p
  mi : ∀ x y mx my : Int, [x, y] ∈ ps → ns[x.toNat]? = some mx → ns[y.toNat]? = some my → [my, mx] ∈ ps
theorem Part.nil (ns : List Int) : Part ns [] := ⟨List.nodup_nil, (fun _ h => nomatch h), fun _ _ _ _ h => nomatch h⟩
theorem Part.add {ns : List Int} {ps : List (List Int)} {x y mx my : Int} (M : Mir ns) (h : Part ns ps) (hx : 0 ≤ x ∧ x < (ns.length : Int)) (hy : 0 ≤ y ∧ y < (ns.length : Int)) (ex : ns[x.toNat]? = some mx) (ey : ns[y.toNat]? = some my) :
    Part ns (addP (addP ps [x, y]) [my, mx]) := by
  have bx := M.back _ _ ex
  have bY := M.back _ _ ey
  have ix := M.inn mx (List.mem_of_getElem? ex)
  have iy := M.inn my (List.mem_of_getElem? ey)
  refine ⟨nd_addP (nd_addP h.nd), fun p hp => ?_, fun a b ma mb hab ha hb => ?_⟩
  · rcases mem_addP.mp hp with z | rfl
    · rcases mem_addP.mp z with z | rfl
      · exact h.pr p z
      · exact ⟨x, y, rfl, hx, hy⟩
    · exact ⟨my, mx, rfl, iy, ix⟩
  · rw [mem_addP, mem_addP] at hab ⊢
    rcases hab with (z | z) | z
    · exact .inl (.inl (h.mi a b ma mb z ha hb))
    · injection z with z1 z2
      injection z2 with z2 _
      subst z1 z2
      rw [ex] at ha
      rw [ey] at hb
      cases ha
      cases hb
      exact .inr rfl
    · injection z with z1 z2
      injection z2 with z2 _
      subst z1 z2
      rw [bY] at ha
      rw [bx] at hb
      cases ha
      cases hb
      refine .inl (.inr ?_)
      rw [show ((x.toNat : Nat) : Int) = x by omega, show ((y.toNat : Nat) : Int) = y by omega]
theorem Part.len {ns : List Int} {ps : List (List Int)} (h : Part ns ps) (M : Mir ns) : ps.length ≤ 64 := by
  have := nodup_le (us := gridOf 0 (fun _ _ => true) ns.length ns.length) h.nd fun p hp => by
    obtain ⟨x, y, rfl, hx, hy⟩ := h.pr p hp
    refine mem_grid.mpr ⟨x.toNat, y.toNat, by omega, by omega, rfl, ?_⟩
    rw [show (0 + ((x.toNat : Nat) : Int)) = x by omega, show (0 + ((y.toNat : Nat) : Int)) = y by omega]
  have g := grid_len 0 (fun _ _ => true) ns.length ns.length
  have m8 : ns.length * ns.length ≤ 8 * 8 := Nat.mul_le_mul M.few M.few
  omega
theorem le_of_two {p q : List Int} (hp : Pr 64 p) (hq : Pr 64 q) (h : SrtO.lexB (two q) (two p) = false) : cd p ≤ cd q := by
  obtain ⟨x, y, rfl, hx, hy⟩ := hp
  obtain ⟨x', y', rfl, hx', hy'⟩ := hq
  have z := SrtO.lexB_no.mp h
  have z' : ¬ (x' < x ∨ (x' = x ∧ y' < y)) := z
  rw [cd_pair, cd_pair]; omega
/-- sorted, they are a rule's steps -/
theorem Part.stp {ns : List Int} {ps : List (List Int)} {L : List (Addr × List Int)} (M : Mir ns) (h : Part ns ps) (pm : (L.map (·.2)).Perm ps) (pw : L.Pairwise fun a b => SrtO.lexB (two b.2) (two a.2) = false) : Stp ns (L.map (·.2)) := by
  have h8 := M.few
  have pr : ∀ p ∈ L.map (·.2), Pr (ns.length : Int) p := fun p hp => h.pr p (pm.mem_iff.mp hp)
  have pr64 : ∀ p ∈ L.map (·.2), Pr 64 p := fun p hp => (pr p hp).mono (by omega)
  have le : (L.map (·.2)).Pairwise fun p q => cd p ≤ cd q := by
    rw [List.pairwise_map]
    exact List.Pairwise.imp_of_mem (fun {a b} ha hb z => le_of_two (pr64 _ (List.mem_map_of_mem ha)) (pr64 _ (List.mem_map_of_mem hb)) z) pw
  refine ⟨by rw [pm.length_eq]; exact h.len M, fun p hp => pr p hp, adj_rise pr64 (sorted_lt pr64 (pm.nodup_iff.mpr h.nd) le), fun x y mx my hxy hx hy => ?_, pm.nodup_iff.mpr h.nd⟩
  exact pm.mem_iff.mpr (h.mi x y mx my (pm.mem_iff.mp hxy) hx hy)
section
variable {P : Program} {w : World} {K : PySem.W.Frag} {mg : Str → Option Value} {base : Heap}
/-! ### _law_steps -/
theorem scDSteps : FnScope ["_law_pail_here", "_law_mirrors_here", "_law_found", "_law_share", "_law_one", "_law_other"] ["_law_pail_here", "_law_mirrors_here"] (defScope sDSteps) := ⟨rfl, rfl, rfl, by decide +kernel, rfl, by decide +kernel, by decide +kernel⟩
def spDSteps (K : PySem.W.Frag) : Sp := fun vs H Q _ => ∃ (p u : Addr) (t : Nat) (ns : List Int), vs = [.ref p, .ref u] ∧ PailAt H p t ∧ t ≤ 1500 ∧ SqT K H u (ns.map V.int) ∧ Mir ns ∧
  ∀ (H' : Hp) (c : Addr) (t' : Nat) (ps : List (List Int)), PailAt H' p t' → t' ≤ t + 70 → But p H H' → TupsH H' c ps → Stp ns ps → Q (.ref c) H'
theorem ok_dsteps {f fD fO : Addr} {fd fdD fdO : FuncData} (F : Fun K "_law_steps" "_law_steps" sDSteps f fd) (DD : DefAt K mg "_law_draw" sDraw ["_law_pail_here", "_law_many"] fD fdD) (DO : DefAt K mg "_law_of" sOf ["_law_pail_here", "_law_some"] fO fdO) (B : Bare mg) : FnOk P w K mg base CX0 3 f fd ["_law_pail_here", "_law_mirrors_here"] (spDSteps K) := by
  have GD : FnOk P w K mg base CX0 1 fD fdD ["_law_pail_here", "_law_many"] spDraw := ok_draw DD.fn
  have GO : FnOk P w K mg base CX0 2 fO fdO ["_law_pail_here", "_law_some"] (spOf K) := ok_of DO.fn DD B
  refine F.ok scDSteps (fun vs H Q E h => ?_) (fun cdv A outer s H vs Q E hr h => ?_)
  · obtain ⟨p, u, t, ns, rfl, _⟩ := h
    rfl
  · obtain ⟨p, u, t, ns, rfl, hp, ht, hT, M, q⟩ := h
    have hu := hu_of hr
    have hr1 := hr.mono (show 1 ≤ 2 by decide)
    refine ⟨_, pss_cons (ps_par (i := 2) (j := 3) (by rfl) scDSteps.nd rfl rfl (by decide) rfl rfl (pa_cons pe_dnewT (pa_cons (pe_call GO hr (by rfl) DO.mg DO.fn.kp DO.bi .nil pass0 (pa_cons (pv 0) (pa_cons (pe_lst (pa_cons pe_int (pa_cons pe_int (pa_cons pe_int (pa_cons pe_int pa_nil))))) pa_nil))) pa_nil)) (by rfl))
      (pss_cons (ps_for PassesOwn.never rfl (pi_range1 (by rfl) B.range (pa_cons (pe_callB call_len_seq (by rfl) B.len PySem.boot_len (pa_cons (pv 1) pa_nil)) pa_nil)) (pg_name (i := 4) scDSteps.nd rfl (Or.inl rfl))
        (pss_one (ps_for PassesOwn.never rfl (pi_range1 (by rfl) B.range (pa_cons (pe_callB call_len_seq (by rfl) B.len PySem.boot_len (pa_cons (pv 1) pa_nil)) pa_nil)) (pg_name (i := 5) scDSteps.nd rfl (Or.inl rfl))
          (pss_one (ps_if (PW.pt (pw_and (pt_cmp (pc_dnotin hu (pe_tup (pa_cons (pv 4) (pa_cons (pv 5) pa_nil))) (pv 2))) (pw_and1 (pt_cmpR op_eq (pe_call GD hr1 (by rfl) DD.mg DD.fn.kp DD.bi .nil pass0 (pa_cons (pv 0) (pa_cons (pv 3) pa_nil))) pe_int (nomark _)))))
            (pss_cons (ps_dput hu (pv 2) (pe_tup (pa_cons (pv 4) (pa_cons (pv 5) pa_nil))) pe_bl rfl)
            (pss_one (ps_dput hu (pv 2) (pe_tup (pa_cons (pe_ix ix_tup (pv 1) (pv 5) (fun _ _ => rfl)) (pa_cons (pe_ix ix_tup (pv 1) (pv 4) (fun _ _ => rfl)) pa_nil))) pe_bl rfl))) pss_nil)))))
      (pss_one (ps_ret (pe_tupleOf (by rfl) B.tuple (pe_callB (cr_sortedDT rfl) (by rfl) B.sorted (by decide +kernel) (pa_cons (pv 2) pa_nil)))))), ?_⟩
    intro d nd
    have hdp : d ≠ p := pail_ne hp nd
    refine ⟨.ref p, rfl, (by show 4 ≤ sizeLine; decide), fun l nl => ⟨p, l, t, [.int 2, .int 3, .int 4, .int 6], rfl, pail_new (pail_new hp nd) nl, by omega, lstNew upd_same, pail_ne (pail_new hp nd) nl, by decide, by decide, fun j v t1 H1 hv ht1 hp1 b1 => ⟨.ref d, v, rfl, ?_⟩⟩⟩
    obtain ⟨sh, rfl, sh1, sh6⟩ : ∃ sh : Int, v = .int sh ∧ 1 ≤ sh ∧ sh ≤ 6 := by
      have hj : j < 4 := (List.getElem?_eq_some_iff.mp hv).1
      rcases (show j = 0 ∨ j = 1 ∨ j = 2 ∨ j = 3 by omega) with e | e | e | e <;> subst e <;> cases hv <;> exact ⟨_, rfl, by decide, by decide⟩
    have s0 := (same_upd (o := .dT []) nd).trans (same_upd (o := .lst [.int 2, .int 3, .int 4, .int 6]) nl)
    have ed1 : H1 d = some (.dT []) := b1 _ _ (same_upd nl _ _ upd_same) hdp
    have b01 : But p H H1 := (But.of s0).trans b1
    have hT1 : SqT K H1 u (ns.map V.int) := sqT_pail hp b01 hT
    have hn8 := M.few
    refine ⟨.ref u, rfl, u, _, rfl, .inr hT1, _, rfl, by rw [List.length_map]; omega, by rw [List.length_map]; omega, ?_⟩
    refine for_range (lo := 0) (n := _) (fun i σ H' => ∃ (kvs : List (List L2.Key × V)) (ps : List (List Int)) (t' : Nat) (y4 y5 : Option V), σ = [some (.ref p), some (.ref u), some (.ref d), some (.int sh), y4, y5] ∧ But p H H' ∧ PailAt H' p t' ∧ t' ≤ t + 1 + i * 8 ∧ H' d = some (.dT kvs) ∧ kvs.map (·.1) = ps.map keyP ∧ Part ns ps)
      ⟨[], [], t1, none, none, rfl, b01, hp1, by omega, ed1, rfl, Part.nil ns⟩ ?_ ?_
    · rintro i σ H2 hi ⟨kvs, ps, t2, y4, y5, rfl, b2, hp2, ht2, ed2, ek2, P2⟩
      rw [List.length_map, Int.toNat_natCast] at hi
      have hT2 : SqT K H2 u (ns.map V.int) := sqT_pail hp b2 hT
      refine ⟨.ref u, rfl, u, _, rfl, .inr hT2, _, rfl, by rw [List.length_map]; omega, by rw [List.length_map]; omega, ?_⟩
      refine for_range (lo := 0) (n := _) (fun j σ H' => ∃ (kvs : List (List L2.Key × V)) (ps : List (List Int)) (t' : Nat) (y5 : Option V), σ = [some (.ref p), some (.ref u), some (.ref d), some (.int sh), some (.int (0 + (i : Nat))), y5] ∧ But p H H' ∧ PailAt H' p t' ∧ t' ≤ t + 1 + i * 8 + j ∧ H' d = some (.dT kvs) ∧ kvs.map (·.1) = ps.map keyP ∧ Part ns ps)
        ⟨kvs, ps, t2, y5, rfl, b2, hp2, by omega, ed2, ek2, P2⟩ ?_ ?_
      · rintro j σ H3 hj ⟨kvs, ps, t3, y5, rfl, b3, hp3, ht3, ed3, ek3, P3⟩
        rw [List.length_map, Int.toNat_natCast] at hj
        have ei : (0 + ((i : Nat) : Int)) = (i : Int) := by omega
        have ej : (0 + ((j : Nat) : Int)) = (j : Int) := by omega
        have hl3 := P3.len M
        have hkl : kvs.length ≤ 64 := by
          have z := congrArg List.length ek3
          rw [List.length_map, List.length_map] at z; omega
        -- (one, other) not in found
        refine ⟨.int (0 + (i : Nat)), rfl, .int (0 + (j : Nat)), rfl, (by show 2 ≤ sizeLine; decide), fun T nT => ?_⟩
        have sT := same_upd (o := .tup [.int (0 + (i : Nat)), .int (0 + (j : Nat))]) nT
        have eT : (upd H3 T (.tup [.int (0 + (i : Nat)), .int (0 + (j : Nat))])) T = some (.tup ((keyP [0 + (i : Nat), 0 + (j : Nat)]).map kV)) := upd_same
        have ed4 := sT _ _ ed3
        have b4 := b3.trans (But.of (p := p) sT)
        have hp4 := pail_same hp3 sT
        generalize upd H3 T (.tup [.int (0 + (i : Nat)), .int (0 + (j : Nat))]) = H4 at eT ed4 b4 hp4 ⊢
        refine ⟨.ref d, rfl, d, _, rfl, DGet.t ed4 eT, _, rfl, ?_⟩
        cases ev : valV kvs (keyP [0 + (i : Nat), 0 + (j : Nat)]) with
        | some x =>
          refine iteF (iteF ?_)
          exact ⟨kvs, ps, t3, _, rfl, b4, hp4, by omega, ed4, ek3, P3⟩
        | none =>
          refine iteT ?_
          refine ⟨.ref p, rfl, .int sh, rfl, p, t3, sh, rfl, hp4, by omega, sh1, by omega, fun r t5 H5 r0 r1 ht5 hp5 b5 => ⟨rfl, _, rfl, ite2 (fun _ => ?_) (fun _ => ?_)⟩⟩
          · have ed5 := b5 _ _ ed4 hdp
            have b05 := b4.trans b5
            have hT5 : SqT K H5 u (ns.map V.int) := sqT_pail hp b05 hT
            -- found[one, other] = True
            refine ⟨.ref d, rfl, .int (0 + (i : Nat)), rfl, .int (0 + (j : Nat)), rfl, (by show 2 ≤ sizeLine; decide), fun T2 nT2 => ?_⟩
            have sT2 := same_upd (o := .tup [.int (0 + (i : Nat)), .int (0 + (j : Nat))]) nT2
            have eT2 : (upd H5 T2 (.tup [.int (0 + (i : Nat)), .int (0 + (j : Nat))])) T2 = some (.tup ((keyP [0 + (i : Nat), 0 + (j : Nat)]).map kV)) := upd_same
            refine ⟨d, _, rfl, DPut.t (sT2 _ _ ed5) eT2 (few1 (by omega)), ?_⟩
            have ed6 : (upd (upd H5 T2 (.tup [.int (0 + (i : Nat)), .int (0 + (j : Nat))])) d (.dT (putK kvs (keyP [0 + (i : Nat), 0 + (j : Nat)]) (.bl true)))) d = some (.dT (putK kvs (keyP [0 + (i : Nat), 0 + (j : Nat)]) (.bl true))) := upd_same
            have b6 : But p H (upd (upd H5 T2 (.tup [.int (0 + (i : Nat)), .int (0 + (j : Nat))])) d (.dT (putK kvs (keyP [0 + (i : Nat), 0 + (j : Nat)]) (.bl true)))) := fun k o e z => by rw [upd_ne (ne_of_none e nd)]; exact sT2 _ _ (b05 k o e z)
            have hp6 := pail_set (o := .dT (putK kvs (keyP [0 + (i : Nat), 0 + (j : Nat)]) (.bl true))) (pail_same hp5 sT2) hdp
            have ek6 := put_keys (p := [0 + ((i : Nat) : Int), 0 + ((j : Nat) : Int)]) (v := .bl true) ek3
            have l6 : (putK kvs (keyP [0 + (i : Nat), 0 + (j : Nat)]) (.bl true)).length ≤ 65 := by
              rw [putK_new _ ev, List.length_append]
              show kvs.length + 1 ≤ 65
              omega
            generalize upd (upd H5 T2 (.tup [.int (0 + (i : Nat)), .int (0 + (j : Nat))])) d (.dT (putK kvs (keyP [0 + (i : Nat), 0 + (j : Nat)]) (.bl true))) = H6 at ed6 b6 hp6 ⊢
            generalize putK kvs (keyP [0 + (i : Nat), 0 + (j : Nat)]) (.bl true) = kvs6 at ed6 ek6 l6
            have hT6 : SqT K H6 u (ns.map V.int) := sqT_pail hp b6 hT
            -- found[mirrors[other], mirrors[one]] = True
            obtain ⟨mi, gi⟩ : ∃ mi, ns[i]? = some mi := ⟨_, List.getElem?_eq_getElem hi⟩
            obtain ⟨mj, gj⟩ : ∃ mj, ns[j]? = some mj := ⟨_, List.getElem?_eq_getElem hj⟩
            have ai : atI (ns.map V.int) (0 + (i : Nat)) = some (.int mi) := by rw [ei]; exact atI_nat (by rw [List.getElem?_map, gi]; rfl)
            have aj : atI (ns.map V.int) (0 + (j : Nat)) = some (.int mj) := by rw [ej]; exact atI_nat (by rw [List.getElem?_map, gj]; rfl)
            refine ⟨.ref d, rfl, .ref u, rfl, .int (0 + (j : Nat)), rfl, u, _, _, _, rfl, rfl, hT6, aj, .ref u, rfl, .int (0 + (i : Nat)), rfl, u, _, _, _, rfl, rfl, hT6, ai, (by show 2 ≤ sizeLine; decide), fun T3 nT3 => ?_⟩
            have sT3 := same_upd (o := .tup [.int mj, .int mi]) nT3
            have eT3 : (upd H6 T3 (.tup [.int mj, .int mi])) T3 = some (.tup ((keyP [mj, mi]).map kV)) := upd_same
            refine ⟨d, _, rfl, DPut.t (sT3 _ _ ed6) eT3 (few1 (by omega)), ?_⟩
            have P7 := Part.add (x := (i : Int)) (y := (j : Int)) M P3 (by omega) (by omega) (by rw [Int.toNat_natCast]; exact gi) (by rw [Int.toNat_natCast]; exact gj)
            refine ⟨_, addP (addP ps [0 + ((i : Nat) : Int), 0 + ((j : Nat) : Int)]) [mj, mi], t5, _, rfl, fun k o e z => ?_, pail_set (pail_same hp6 sT3) hdp, by omega, upd_same, put_keys ek6, by rw [ei, ej]; exact P7⟩
            rw [upd_ne (ne_of_none e nd)]; exact sT3 _ _ (b6 k o e z)
          · exact ⟨kvs, ps, t5, _, rfl, b4.trans b5, hp5, by omega, b5 _ _ ed4 hdp, ek3, P3⟩
      · rintro σ H3 ⟨kvs, ps, t3, y5, rfl, b3, hp3, ht3, ed3, ek3, P3⟩
        rw [List.length_map, Int.toNat_natCast] at ht3
        exact ⟨kvs, ps, t3, _, _, rfl, b3, hp3, by omega, ed3, ek3, P3⟩
    · rintro σ H2 ⟨kvs, ps, t2, y4, y5, rfl, b2, hp2, ht2, ed2, ek2, P2⟩
      rw [List.length_map, Int.toNat_natCast] at ht2
      have hl2 := P2.len M
      have hkl : kvs.length ≤ 64 := by
        have z := congrArg List.length ek2
        rw [List.length_map, List.length_map] at z; omega
      refine ⟨.ref d, rfl, d, kvs, ps, rfl, .inl ed2, ek2, fun z hz => ?_, by omega, fun L c nc pm pw tu => .inl ⟨c, _, rfl, lstNew upd_same, fun e ne => ?_⟩⟩
      · obtain ⟨x, y, e, _⟩ := P2.pr z hz
        exact ⟨x, y, e⟩
      · have s3 := (same_upd (o := .lst (L.map fun a => V.ref a.1)) nc).trans (same_upd (o := .tup (L.map fun a => V.ref a.1)) ne)
        exact q _ e t2 (L.map (·.2)) (pail_same hp2 s3) (by omega) (b2.trans (But.of s3)) ⟨L, rfl, upd_same, fun k hk => s3 _ _ (tu k hk)⟩ (P2.stp M pm pw)
end
end K50
set_option maxHeartbeats 4000000
namespace K50
open PySem PySem.Spec PyProof.Rows L2 RV
theorem mro_tuple : PySem.fastBuiltinMro "tuple" = some [.type "tuple", .type "object"] := by decide +kernel
theorem mro_none : PySem.fastBuiltinMro "NoneType" = some [.type "NoneType", .type "object"] := by decide +kernel
theorem mro_str : PySem.fastBuiltinMro "str" = some [.type "str", .type "object"] := by decide +kernel
theorem mro_int : PySem.fastBuiltinMro "int" = some [.type "int", .type "object"] := by decide +kernel
theorem kit_other {K : PySem.W.Frag} {C : Addr} {T : String} (h1 : (PySem.W.clsIn K C).isSome = true) (h2 : PySem.W.typeIn K (.ref C) = some (.type "type")) (h3 : PySem.fastBuiltinMro T = some [.type T, .type "object"]) : PySem.W.kitOne K (.type T) (.ref C) = some false := by
  unfold PySem.W.kitOne PySem.W.kitCls
  rw [if_neg (by simp)]
  show (if ((PySem.W.clsIn K C).isSome && PySem.W.typeIn K (.ref C) == some (.type "type")) = true then PySem.W.subIn K (.type T) (.ref C) else none) = some false
  rw [h1, h2, if_pos (by simp)]
  show (PySem.fastBuiltinMro T).map (·.contains (.ref C)) = some false
  rw [h3]
  simp
theorem kit_self {K : PySem.W.Frag} {C : Addr} : PySem.W.kitOne K (.ref C) (.ref C) = some true := by
  unfold PySem.W.kitOne
  simp
section
variable {P : Program} {w : World} {K : PySem.W.Frag} {mg : Str → Option Value} {base : Heap}
/-! ### __eq__ -/
theorem scEq : FnScope ["self", "other"] ["self", "other"] (defScope sEq) := ⟨rfl, rfl, rfl, by decide +kernel, rfl, by decide +kernel, by decide +kernel⟩
def spEq (K : PySem.W.Frag) (C : Addr) : Sp := fun vs H Q _ => ∃ (p : Addr) (v : V) (ns : List Int) (ps : List (List Int)), vs = [.ref p, v] ∧ RuleAt K C H p ns ps ∧
  ((∃ (q : Addr) (ns' : List Int) (ps' : List (List Int)), v = .ref q ∧ RuleAt K C H q ns' ps' ∧ Q (.bl (decide (ns = ns') && decide (ps = ps'))) H) ∨ (∃ t, TyX K H v t ∧ PySem.W.kitOne K t (.ref C) = some false ∧ Q (.bl false) H))
theorem ok_eq {f C : Addr} {fd : FuncData} (F : Fun K "__eq__" "Rule.__eq__" sEq f fd) (T : Txt K mg C) (B : Bare mg) : FnOk P w K mg base CX0 1 f fd ["self", "other"] (spEq K C) := by
  refine F.ok scEq (fun vs H Q E h => ?_) (fun cdv A outer s H vs Q E hr h => ?_)
  · obtain ⟨p, v, ns, ps, rfl, _⟩ := h
    rfl
  · obtain ⟨p, v, ns, ps, rfl, R1, h⟩ := h
    obtain ⟨dx, a, b, t, h1, h2, h3, h4⟩ := R1.ex
    refine ⟨_, pss_one (ps_ret (pe_and (pe_callB call_isi (by rfl) B.isinstance (by decide +kernel) (pa_cons (pv 1) (pa_cons (pe_glob (v := .ref C) rfl T.mgC rfl) pa_nil)))
      (pe_and (pe_cmpR (op_eqI1 hr.units) (pe_fld (pv 0) rfl) (pe_fld (pv 1) rfl) (nomark _)) (pe_one (pe_cmpR (op_eqTs hr.units) (pe_fld (pv 0) rfl) (pe_fld (pv 1) rfl) (nomark _)))))), ?_⟩
    rcases h with ⟨q, ns', ps', rfl, R2, k⟩ | ⟨ty, hty, hk, k⟩
    · obtain ⟨dx', a', b', t', g1, g2, g3, g4⟩ := R2.ex
      refine ⟨.ref q, rfl, .ref q, .ref C, _, _, true, rfl, .own C, .base (.ins g1 T.cl T.c1 T.c2 T.c3 T.c4), T.c5, true, rfl, iteT ?_⟩
      refine ⟨.ref p, rfl, p, C, dx, _, _, rfl, h1, T.cl, T.nM, flds_m _ _ _, .ref q, rfl, q, C, dx', _, _, rfl, g1, T.cl, T.nM, flds_m _ _ _, a, a', ns, ns', rfl, rfl, h2, g2, _, rfl, ?_⟩
      by_cases e : ns = ns'
      · rw [decide_eq_true e] at k ⊢
        refine iteT ⟨.ref p, rfl, p, C, dx, _, _, rfl, h1, T.cl, T.nS, flds_s _ _ _, .ref q, rfl, q, C, dx', _, _, rfl, g1, T.cl, T.nS, flds_s _ _ _, b, b', ps, ps', rfl, rfl, h3, g3, ?_⟩
        rw [Bool.true_and] at k
        exact k
      · rw [decide_eq_false e] at k ⊢
        rw [Bool.false_and] at k
        exact iteF k
    · exact ⟨v, rfl, v, .ref C, _, _, false, rfl, .own C, hty, hk, false, rfl, iteF k⟩
/-! ### marks, mirror, behind -/
theorem scMarksM : FnScope ["self"] ["self"] (defScope sMarksM) := ⟨rfl, rfl, rfl, by decide +kernel, rfl, by decide +kernel, by decide +kernel⟩
def spMarksM (K : PySem.W.Frag) (C : Addr) : Sp := fun vs H Q _ => ∃ (p : Addr) (ns : List Int) (ps : List (List Int)), vs = [.ref p] ∧ RuleAt K C H p ns ps ∧ Q (.int (ns.length : Int)) H
theorem ok_marksM {f C : Addr} {fd : FuncData} (F : Fun K "marks" "Rule.marks" sMarksM f fd) (T : Txt K mg C) (B : Bare mg) : FnOk P w K mg base CX0 1 f fd ["self"] (spMarksM K C) := by
  refine F.ok scMarksM (fun vs H Q E h => ?_) (fun cdv A outer s H vs Q E hr h => ?_)
  · obtain ⟨p, ns, ps, rfl, _⟩ := h
    rfl
  · obtain ⟨p, ns, ps, rfl, R1, k⟩ := h
    obtain ⟨dx, a, b, t, h1, h2, h3, h4⟩ := R1.ex
    refine ⟨_, pss_one (ps_ret (pe_callB call_len_seq (by rfl) B.len PySem.boot_len (pa_cons (pe_fld (pv 0) rfl) pa_nil))), ?_⟩
    refine ⟨.ref p, rfl, p, C, dx, _, _, rfl, h1, T.cl, T.nM, flds_m _ _ _, a, _, rfl, .inr h2, ?_⟩
    rw [List.length_map]; exact k
theorem scMirrorM : FnScope ["self", "mark"] ["self", "mark"] (defScope sMirrorM) := ⟨rfl, rfl, rfl, by decide +kernel, rfl, by decide +kernel, by decide +kernel⟩
def spMirrorM (K : PySem.W.Frag) (C : Addr) : Sp := fun vs H Q _ => ∃ (p : Addr) (ns : List Int) (ps : List (List Int)) (i : Nat) (x : Int), vs = [.ref p, .int (i : Int)] ∧ RuleAt K C H p ns ps ∧ ns[i]? = some x ∧ Q (.int x) H
theorem ok_mirrorM {f C : Addr} {fd : FuncData} (F : Fun K "mirror" "Rule.mirror" sMirrorM f fd) (T : Txt K mg C) : FnOk P w K mg base CX0 1 f fd ["self", "mark"] (spMirrorM K C) := by
  refine F.ok scMirrorM (fun vs H Q E h => ?_) (fun cdv A outer s H vs Q E hr h => ?_)
  · obtain ⟨p, ns, ps, i, x, rfl, _⟩ := h
    rfl
  · obtain ⟨p, ns, ps, i, x, rfl, R1, e, k⟩ := h
    obtain ⟨dx, a, b, t, h1, h2, h3, h4⟩ := R1.ex
    refine ⟨_, pss_one (ps_ret (pe_ix ix_tup (pe_fld (pv 0) rfl) (pv 1) (fun _ _ => rfl))), ?_⟩
    exact ⟨.ref p, rfl, p, C, dx, _, _, rfl, h1, T.cl, T.nM, flds_m _ _ _, .int (i : Int), rfl, a, _, _, _, rfl, rfl, h2, atI_nat (by rw [List.getElem?_map, e]; rfl), k⟩
theorem n4 : ¬ (("followers" : Str) = "steps") := by decide +kernel
theorem flds_f (a b t : Addr) : (flds a b t).lookup ("followers" : Str) = some (.ref t) := by
  unfold flds
  rw [lookup_putF, if_pos rfl]
theorem scBehindM : FnScope ["self", "mark"] ["self", "mark"] (defScope sBehindM) := ⟨rfl, rfl, rfl, by decide +kernel, rfl, by decide +kernel, by decide +kernel⟩
def spBehindM (K : PySem.W.Frag) (C : Addr) : Sp := fun vs H Q _ => ∃ (p : Addr) (ns : List Int) (ps : List (List Int)) (i : Nat), vs = [.ref p, .int (i : Int)] ∧ RuleAt K C H p ns ps ∧ i < ns.length ∧ ∀ c, SqT K H c ((behindOf ps (i : Int)).map V.int) → Q (.ref c) H
theorem ok_behindM {f C : Addr} {fd : FuncData} (F : Fun K "behind" "Rule.behind" sBehindM f fd) (T : Txt K mg C) : FnOk P w K mg base CX0 1 f fd ["self", "mark"] (spBehindM K C) := by
  refine F.ok scBehindM (fun vs H Q E h => ?_) (fun cdv A outer s H vs Q E hr h => ?_)
  · obtain ⟨p, ns, ps, i, rfl, _⟩ := h
    rfl
  · obtain ⟨p, ns, ps, i, rfl, R1, hi, k⟩ := h
    obtain ⟨dx, a, b, t, h1, h2, h3, h4⟩ := R1.ex
    obtain ⟨ks, e1, e2, e3⟩ := h4
    refine ⟨_, pss_one (ps_ret (pe_ix ix_tup (pe_fld (pv 0) rfl) (pv 1) (fun _ _ => rfl))), ?_⟩
    have hkl : ks.length = ns.length := by
      have z := congrArg List.length e1
      rw [List.length_map] at z
      rw [z]; unfold follow; rw [List.length_map, List.length_range]
    have hk : i < ks.length := by omega
    have e4 : (ks.map (·.2))[i]? = some ks[i].2 := by rw [List.getElem?_map, List.getElem?_eq_getElem hk]; rfl
    have e5 : ks[i].2 = behindOf ps (i : Int) := by
      rw [e1] at e4
      unfold follow at e4
      rw [List.getElem?_map, List.getElem?_range hi] at e4
      exact (Option.some.inj e4).symm
    refine ⟨.ref p, rfl, p, C, dx, _, _, rfl, h1, T.cl, T.nF, flds_f _ _ _, .int (i : Int), rfl, t, _, _, .ref ks[i].1, rfl, rfl, e2, atI_nat (by rw [List.getElem?_map, List.getElem?_eq_getElem hk]; rfl), k _ ?_⟩
    rw [← e5]; exact e3 _ (List.getElem_mem hk)
/-- what a call Rule(a, b) comes to -/
theorem make_rule {C a b x dx : Addr} {H : Hp} {Qh : Hp → Prop} {E : XK} {ns : List Int} {ps : List (List Int)} (hA : SqT K H a (ns.map V.int)) (hB : Tups K H b ps) (hM : Mir ns) (hS : Stp ns ps) (nx : H x = none) (nd : H dx = none) (ne : dx ≠ x)
    (k : ∀ H', Same H H' → RuleAt K C H' x ns ps → Qh H') :
    spInit K C (.ref x :: ([.ref a, .ref b] ++ [])) (upd (upd H dx (.own x)) x (.ins C dx [])) (fun v H2 => v = .non ∧ Qh H2) E := by
  have s0 : Same H (upd (upd H dx (.own x)) x (.ins C dx [])) := fun c o e => by
    rw [upd_ne (ne_of_none e nx), upd_ne (ne_of_none e nd)]; exact e
  refine ⟨x, dx, a, b, ns, ps, rfl, upd_same, sqT_same s0 hA, hB.same s0, hM, hS, fun H' t k1 k2 k3 => ⟨rfl, ?_⟩⟩
  have s1 : Same H H' := fun c o e => k1 c o (s0 c o e) (ne_of_none e nx)
  exact k H' s1 ⟨dx, a, b, t, k2, sqT_same s1 hA, hB.same s1, k3⟩
end
end K50
set_option maxHeartbeats 4000000
namespace K50
open PySem PySem.Spec PyProof.Rows L2 RV TL
/-- the two lists of pairs, by their words -/
def PairsAt (K : PySem.W.Frag) (H : Hp) (d dM dS : Addr) (Ms Ss : List (List Int)) : Prop := H d = some (.dK [(.inr wMirror, .ref dM), (.inr wStep, .ref dS)]) ∧ TLp K H dM Ms ∧ TLp K H dS Ss
theorem PairsAt.same {K : PySem.W.Frag} {H H' : Hp} {d dM dS : Addr} {Ms Ss : List (List Int)} (h : PairsAt K H d dM dS Ms Ss) (s : Same H H') : PairsAt K H' d dM dS Ms Ss := ⟨s _ _ h.1, h.2.1.same s, h.2.2.same s⟩
theorem get_m {H : Hp} {d dM dS : Addr} (h : H d = some (.dK [(.inr wMirror, .ref dM), (.inr wStep, .ref dS)])) : DGet H d (.str wMirror) (some (.ref dM)) := by
  have e : valV [((.inr wMirror : L2.Key), V.ref dM), (.inr wStep, .ref dS)] (.inr wMirror) = some (.ref dM) := by
    unfold valV
    rw [List.find?_cons_of_pos (by simp)]; rfl
  have z := DGet.k (k := .inr wMirror) h
  rw [e] at z
  exact z
theorem get_s {H : Hp} {d dM dS : Addr} (h : H d = some (.dK [(.inr wMirror, .ref dM), (.inr wStep, .ref dS)])) : DGet H d (.str wStep) (some (.ref dS)) := by
  have ne : ¬ ((.inr wMirror : L2.Key) = .inr wStep) := by decide +kernel
  have e : valV [((.inr wMirror : L2.Key), V.ref dM), (.inr wStep, .ref dS)] (.inr wStep) = some (.ref dS) := by
    unfold valV
    rw [List.find?_cons_of_neg (by simp only [decide_eq_true_eq]; exact ne), List.find?_cons_of_pos (by simp)]; rfl
  have z := DGet.k (k := .inr wStep) h
  rw [e] at z
  exact z
section
variable {P : Program} {w : World} {K : PySem.W.Frag} {mg : Str → Option Value} {base : Heap} {t1 t2 t3 : Tok}
/-! ### can_stand -/
abbrev nCS : List Str := ["many", "pairs", "word", "pair", "ahead", "known", "mark", "couple"]
theorem scCS : FnScope nCS ["many", "pairs", "word", "pair"] (defScope sCanStand) := ⟨rfl, rfl, rfl, by decide +kernel, rfl, by decide +kernel, by decide +kernel⟩
def CanS (Ms Ss : List (List Int)) (wd : Str) (x y : Int) : Prop :=
  (wd = wStep ∧ ∀ l, Ss.getLast? = some l → ∃ u v : Int, l = [u, v] ∧ HT.lexLt [u, v] [x, y] = true) ∨
  (wd = wMirror ∧ Ss = [] ∧ (∀ l, Ms.getLast? = some l → ∃ u v : Int, l = [u, v] ∧ HT.lexLt [u, v] [x, y] = true) ∧ x < y ∧ ∀ p ∈ Ms, x ∉ p ∧ y ∉ p)
def spCS (K : PySem.W.Frag) : Sp := fun vs H Q _ => ∃ (m : Nat) (d dM dS t : Addr) (wd : Str) (x y : Int) (Ms Ss : List (List Int)), vs = [.int (m : Int), .ref d, .str wd, .ref t] ∧ PairsAt K H d dM dS Ms Ss ∧ SqT K H t ([x, y].map V.int) ∧ (0 ≤ x ∧ x < (m : Int)) ∧ (0 ≤ y ∧ y < (m : Int)) ∧ m ≤ 1000 ∧
  CanS Ms Ss wd x y ∧ Ms.length ≤ 1000 ∧ (∀ p ∈ Ms, p.length ≤ 100) ∧ ∀ H', Same H H' → Q (.bl true) H'
theorem ok_cs {f fA : Addr} {fd fdA : FuncData} (F : Fun K "can_stand" "can_stand" sCanStand f fd) (DA : DefAt K mg "are_marks" sMarks ["thing", "many"] fA fdA) (GA : FnOk P w K mg base CX0 3 fA fdA ["thing", "many"] (spMarks K)) (B : Bare mg) : FnOk P w K mg base CX0 4 f fd ["many", "pairs", "word", "pair"] (spCS K) := by
  refine F.ok scCS (fun vs H Q E h => ?_) (fun cdv A outer s H vs Q E hr h => ?_)
  · obtain ⟨m, d, dM, dS, t, wd, x, y, Ms, Ss, rfl, _⟩ := h
    rfl
  · obtain ⟨m, d, dM, dS, t, wd, x, y, Ms, Ss, rfl, hP, hT, hx, hy, hm, hc, hl, hp, q⟩ := h
    have hu1 := Nat.lt_of_le_of_lt (Nat.add_le_add_left (show 1 ≤ 64 by decide) _) hr.units
    refine ⟨_, pss_cons (ps_if (PW.pt (pw_or (pt_cmpR op_notIn_seq (pv 2) (pe_tup (pa_cons pe_str (pa_cons pe_str pa_nil))) (by rfl)) (pw_or (pt_cmpR op_isN (pv 3) pe_non (nomark _)) (pw_or (pt_cmpR op_ne (pe_callB call_len_seq (by rfl) B.len PySem.boot_len (pa_cons (pv 3) pa_nil)) pe_int (nomark _))
        (pw_or1 (pt_not (pt_val (pe_call GA hr (by rfl) DA.mg DA.fn.kp DA.bi .nil pass0 (pa_cons (pv 3) (pa_cons (pv 0) pa_nil)))))))))) (pss_one (ps_ret pe_bl)) pss_nil)
      (pss_cons (ps_set (i := 4) scCS.nd rfl (Or.inl rfl) (pe_dget hu1 (pv 1) (pv 2) (fun _ _ => rfl)))
      (pss_cons (ps_if (PW.pt (pw_and (pt_cmpR op_gt (pe_callB call_len_seq (by rfl) B.len PySem.boot_len (pa_cons (pv 4) pa_nil)) pe_int (nomark _)) (pw_and1 (pt_cmpR (op_leT hr.units0) (pv 3) (pe_ix ix_list (pv 4) (pe_un un_neg pe_int) (fun _ _ => rfl)) (nomark _))))) (pss_one (ps_ret pe_bl)) pss_nil)
      (pss_cons (ps_if (pt_cmpR op_eq (pv 2) pe_str (nomark _)) (pss_one (ps_ret pe_bl)) pss_nil)
      (pss_cons (ps_setLc2 (i := 5) (own := [("couple", 7), ("mark", 6)]) (vs1 := [6]) (g := gName 7) (tt := tYes) (g1 := gName 6) (tt1 := tYes) rfl scCS.nd rfl rfl (by rfl) (pi_list (pv 4)) (blkOk_by (N := nCS) (sc := defScope sCanStand) (by decide +kernel)) (by simp)
          (fun _ _ _ _ _ => pg_name (i := 7) scCS.nd rfl (Or.inl rfl)) (fun _ _ _ _ _ => pts_nil) (fun _ _ _ _ _ => pi_tupK (K := K) rfl (pv 7)) (fun _ _ _ _ _ => pg_name (i := 6) scCS.nd rfl (Or.inl rfl)) (fun _ _ _ _ _ => pts_nil) (fun _ _ _ _ _ => pv 6))
      (pss_one (ps_ret (pe_and (pe_cmpR op_lt (pe_ix ix_tup (pv 3) pe_int (fun _ _ => rfl)) (pe_ix ix_tup (pv 3) pe_int (fun _ _ => rfl)) (nomark _)) (pe_and (pe_cmpR op_eq (pe_callB call_len_seq (by rfl) B.len PySem.boot_len (pa_cons (pe_dget hu1 (pv 1) pe_str (fun _ _ => rfl)) pa_nil)) pe_int (nomark _))
        (pe_and (pe_cmpR op_notIn_seq (pe_ix ix_tup (pv 3) pe_int (fun _ _ => rfl)) (pv 5) (by rfl)) (pe_one (pe_cmpR op_notIn_seq (pe_ix ix_tup (pv 3) pe_int (fun _ _ => rfl)) (pv 5) (by rfl)))))))))))), ?_⟩
    have hw : inV (.str wd) [.str (Str.ofString "mirror"), .str (Str.ofString "step")] = true := by
      rcases hc with ⟨rfl, _⟩ | ⟨rfl, _⟩
      · decide +kernel
      · decide +kernel
    refine ⟨.str wd, rfl, by show 2 ≤ sizeLine; decide, fun c nc => ⟨c, _, rfl, .inr (tupNew upd_same), rfl, rfl, false, ?_, iteF ?_⟩⟩
    · show V.bl (if true = true then !inV (.str wd) [.str (Str.ofString "mirror"), .str (Str.ofString "step")] else _) = _
      rw [if_pos rfl, hw]; rfl
    have s1 := same_upd (o := .tup [.str (Str.ofString "mirror"), .str (Str.ofString "step")]) nc
    generalize upd H c (.tup [.str (Str.ofString "mirror"), .str (Str.ofString "step")]) = H1 at s1 ⊢
    have hT1 := sqT_same s1 hT
    refine ⟨.ref t, rfl, rfl, false, rfl, iteF ?_⟩
    refine ⟨.ref t, rfl, t, _, rfl, .inr hT1, rfl, false, rfl, iteF ?_⟩
    refine ⟨.ref t, rfl, .int (m : Int), rfl, t, [x, y], (m : Int), rfl, hT1, by simp, by simp, ?_, fun H2 s2 => ⟨true, rfl, iteF ?_⟩⟩
    · intro i hi
      simp only [List.mem_cons, List.mem_nil_iff, or_false, List.not_mem_nil] at hi
      rcases hi with rfl | rfl
      · exact hx
      · exact hy
    unfold tNext
    dsimp only
    have s12 := s1.trans s2
    have hP2 := hP.same s12
    have hT2 := sqT_same s12 hT
    obtain ⟨hd, hMs, hSs⟩ := hP2
    -- ahead
    have step : ∀ (F : Addr) (Ls : List (List Int)), TLp K H2 F Ls → (∀ l, Ls.getLast? = some l → ∃ u v : Int, l = [u, v] ∧ HT.lexLt [u, v] [x, y] = true) → ∃ (xs : List V), H2 F = some (.lst xs) ∧ xs.length = Ls.length ∧ (Ls.length = 0 ∨ ∃ (a : Addr) (u v : Int), atI xs (-1) = some (.ref a) ∧ SqT K H2 a ([u, v].map V.int) ∧ HT.lexLt [u, v] [x, y] = true) := by
      intro F Ls hF hlast
      obtain ⟨ks, rfl, h2, h3⟩ := hF
      refine ⟨_, h2, by rw [List.length_map, List.length_map], ?_⟩
      by_cases e0 : ks = []
      · subst e0; exact .inl rfl
      refine .inr ?_
      have el : ks.getLast? = some (ks.getLast e0) := List.getLast?_eq_some_getLast e0
      obtain ⟨u, v, e, lt⟩ := hlast (ks.getLast e0).2 (by rw [List.getLast?_map, el]; rfl)
      refine ⟨(ks.getLast e0).1, u, v, ?_, ?_, lt⟩
      · have hpos : 0 < ks.length := List.length_pos_iff.mpr e0
        unfold atI
        have e1 : ixN (ks.map fun q => V.ref q.1).length (-1) = some (ks.length - 1) := by
          unfold ixN
          rw [List.length_map]
          rw [if_neg (by omega)]
          first
          | (rw [if_pos (by omega)]; congr 1; omega)
          | (simp; omega)
        rw [e1]
        show (ks.map fun q => V.ref q.1)[ks.length - 1]? = _
        rw [List.getElem?_map, ← List.getLast?_eq_getElem?, el]; rfl
      · rw [← e]; exact h3 _ (List.getLast_mem e0)
    rcases hc with ⟨rfl, hlast⟩ | ⟨rfl, hS0, hlast, hxy, hnin⟩
    · refine ⟨.ref d, rfl, .str wStep, rfl, d, .ref dS, rfl, get_s hd, ?_⟩
      refine nx_step ?_
      dsimp only
      obtain ⟨xs, e1, e2, e3⟩ := step dS Ss hSs hlast
      refine ⟨.ref dS, rfl, dS, xs, rfl, .inl (lstNew e1), _, 0, rfl, rfl, decide ((xs.length : Int) > 0), rfl, ?_⟩
      rcases e3 with e3 | ⟨a, u, v, e4, e5, e6⟩
      · rw [decide_eq_false (show ¬ (xs.length : Int) > 0 by omega)]
        refine iteF (iteF ?_)
        exact ⟨.str wStep, rfl, rfl, true, by decide +kernel, iteT (q H2 s12)⟩
      · by_cases e0 : (xs.length : Int) > 0
        · rw [decide_eq_true e0]
          refine iteT ⟨.ref t, rfl, .ref dS, rfl, 1, rfl, dS, xs, -1, .ref a, rfl, rfl, lstNew e1, e4, t, a, [x, y], [u, v], rfl, rfl, hT2, e5, false, congrArg V.bl (le_pair e6), iteF ?_⟩
          exact ⟨.str wStep, rfl, rfl, true, by decide +kernel, iteT (q H2 s12)⟩
        · rw [decide_eq_false e0]
          refine iteF (iteF ?_)
          exact ⟨.str wStep, rfl, rfl, true, by decide +kernel, iteT (q H2 s12)⟩
    · refine ⟨.ref d, rfl, .str wMirror, rfl, d, .ref dM, rfl, get_m hd, ?_⟩
      refine nx_step ?_
      dsimp only
      obtain ⟨xs, e1, e2, e3⟩ := step dM Ms hMs hlast
      refine seq_mid (fun σ H => σ = [some (.int (m : Int)), some (.ref d), some (.str wMirror), some (.ref t), some (.ref dM), none, none, none] ∧ H = H2) ?main (fun tail => ?test)
      case test =>
        refine ⟨.ref dM, rfl, dM, xs, rfl, .inl (lstNew e1), _, 0, rfl, rfl, decide ((xs.length : Int) > 0), rfl, ?_⟩
        rcases e3 with e3 | ⟨a, u, v, e4, e5, e6⟩
        · rw [decide_eq_false (show ¬ (xs.length : Int) > 0 by omega)]
          exact iteF (iteF (tail _ _ ⟨rfl, rfl⟩))
        · by_cases e0 : (xs.length : Int) > 0
          · rw [decide_eq_true e0]
            exact iteT ⟨.ref t, rfl, .ref dM, rfl, 1, rfl, dM, xs, -1, .ref a, rfl, rfl, lstNew e1, e4, t, a, [x, y], [u, v], rfl, rfl, hT2, e5, false, congrArg V.bl (le_pair e6), iteF (tail _ _ ⟨rfl, rfl⟩)⟩
          · rw [decide_eq_false e0]
            exact iteF (iteF (tail _ _ ⟨rfl, rfl⟩))
      case main =>
        rintro σ H3 ⟨rfl, rfl⟩
        refine ⟨.str wMirror, rfl, rfl, false, by decide +kernel, iteF ?_⟩
        dsimp only
        refine ⟨.ref dM, rfl, dM, rfl, ⟨_, lstNew e1⟩, fun D nD => ?_⟩
        refine lc_flat (vc := 7) (vm := 6) hMs hl hp nD (by show 7 < 8; decide) (by show 6 < 8; decide) (by decide) fun H4 s4 e5 => ?_
        refine nx_step ?_
        dsimp only
        have hT4 := sqT_same s4 hT2
        have hnot : ∀ z : Int, (∀ p ∈ Ms, z ∉ p) → inV (.int z) (Ms.flatten.map V.int) = false := by
          intro z hz
          unfold inV
          rw [List.any_eq_false]
          intro v hv
          obtain ⟨n, hn, rfl⟩ := List.mem_map.mp hv
          obtain ⟨p, h1, h2⟩ := List.mem_flatten.mp hn
          have : n ≠ z := fun e => hz p h1 (e ▸ h2)
          simp [eqV, this]
        have hflat : (Ms.flatten.map V.int).all flatV = true := by
          rw [List.all_eq_true]
          intro v hv
          obtain ⟨n, hn, rfl⟩ := List.mem_map.mp hv
          rfl
        refine ⟨.ref t, rfl, t, _, 0, .int x, rfl, rfl, hT4, rfl, .ref t, rfl, t, _, 1, .int y, rfl, rfl, hT4, rfl, x, y, rfl, rfl, true, ?_, iteT ?_⟩
        · exact congrArg V.bl (decide_eq_true hxy)
        obtain ⟨zs, f1, f2⟩ := (hSs.same s4).len
        refine ⟨.ref d, rfl, d, .ref dS, rfl, get_s (s4 _ _ hd), dS, zs, rfl, .inl (lstNew f1), rfl, true, ?_, iteT ?_⟩
        · subst hS0
          rw [f2]; rfl
        refine ⟨.ref t, rfl, t, _, 0, .int x, rfl, rfl, hT4, rfl, .ref D, rfl, D, _, rfl, .inl (lstNew e5), rfl, hflat, true, ?_, iteT ?_⟩
        · show V.bl (if true = true then !inV (.int x) (Ms.flatten.map V.int) else _) = _
          rw [if_pos rfl, hnot x fun p hp => (hnin p hp).1]; rfl
        refine ⟨.ref t, rfl, t, _, 1, .int y, rfl, rfl, hT4, rfl, .ref D, rfl, D, _, rfl, .inl (lstNew e5), rfl, hflat, ?_⟩
        rw [if_pos rfl, hnot y fun p hp => (hnin p hp).2]
        exact q H4 (s12.trans s4)
end
end K50
set_option maxHeartbeats 4000000
namespace K50
open PySem PySem.Spec PyProof.Rows L2 RV TL
/-! ### the pairs of mirrors, least mark first -/
def mps (ns : List Int) (n : Nat) : List (List Int) := ((List.range n).filter fun (i : Nat) => decide ((i : Int) < ns.getD i 0)).map fun (i : Nat) => [(i : Int), ns.getD i 0]
theorem mps_next (ns : List Int) (n : Nat) : mps ns (n + 1) = mps ns n ++ (if (n : Int) < ns.getD n 0 then [[(n : Int), ns.getD n 0]] else []) := by
  unfold mps
  rw [List.range_succ, List.filter_append, List.map_append]
  congr 1
  by_cases e : (n : Int) < ns.getD n 0
  · rw [if_pos e]; simp only [List.filter_cons, decide_eq_true e, List.filter_nil, if_true]; rfl
  · rw [if_neg e]; simp only [List.filter_cons, decide_eq_false e, List.filter_nil]; rfl
theorem mps_len (ns : List Int) (n : Nat) : (mps ns n).length ≤ n := by
  unfold mps
  rw [List.length_map]
  exact Nat.le_trans (List.length_filter_le _ _) (by rw [List.length_range]; exact Nat.le_refl _)
theorem getD_at {ns : List Int} {i : Nat} (h : i < ns.length) : ns[i]? = some (ns.getD i 0) := by
  rw [List.getD_eq_getElem?_getD, List.getElem?_eq_getElem h]; rfl
theorem mem_mps {ns : List Int} (M : Mir ns) {n : Nat} (hn : n ≤ ns.length) {p : List Int} (h : p ∈ mps ns n) : ∃ i : Nat, i < n ∧ p = [(i : Int), ns.getD i 0] ∧ (i : Int) < ns.getD i 0 ∧ ns.getD i 0 < (ns.length : Int) := by
  obtain ⟨i, hi, rfl⟩ := List.mem_map.mp h
  obtain ⟨h1, h2⟩ := List.mem_filter.mp hi
  have h3 := List.mem_range.mp h1
  exact ⟨i, h3, rfl, of_decide_eq_true h2, (M.inn _ (List.mem_of_getElem? (getD_at (by omega)))).2⟩
theorem mps_rise (ns : List Int) (n : Nat) : (mps ns n).Pairwise fun p q => ∃ i j : Nat, i < j ∧ p = [(i : Int), ns.getD i 0] ∧ q = [(j : Int), ns.getD j 0] := by
  unfold mps
  refine List.Pairwise.map _ (fun a b (h : a < b) => ⟨a, b, h, rfl, rfl⟩) (List.Pairwise.filter _ List.pairwise_lt_range)
theorem stands_m {ns : List Int} (M : Mir ns) {k : Nat} {p : List Int} (h : (mps ns ns.length)[k]? = some p) : ∃ x y : Int, p = [x, y] ∧ (0 ≤ x ∧ x < (ns.length : Int)) ∧ (0 ≤ y ∧ y < (ns.length : Int)) ∧ CanS ((mps ns ns.length).take k) [] wMirror x y := by
  obtain ⟨i, hi, rfl, h1, h2⟩ := mem_mps M (Nat.le_refl _) (List.mem_of_getElem? h)
  have hk : k < (mps ns ns.length).length := (List.getElem?_eq_some_iff.mp h).1
  have ek : (mps ns ns.length)[k] = [(i : Int), ns.getD i 0] := (List.getElem?_eq_some_iff.mp h).2
  have ahead : ∀ q ∈ (mps ns ns.length).take k, ∃ u : Nat, u < i ∧ u < ns.length ∧ q = [(u : Int), ns.getD u 0] ∧ (u : Int) < ns.getD u 0 := by
    intro q hq
    obtain ⟨j, hj, e⟩ := List.getElem_of_mem hq
    rw [List.length_take] at hj
    rw [List.getElem_take] at e
    obtain ⟨a, b, hab, ea, eb⟩ := List.pairwise_iff_getElem.mp (mps_rise ns ns.length) j k (by omega) hk (by omega)
    rw [ek] at eb
    have e1 : (i : Int) = (b : Int) := (List.cons.inj eb).1
    obtain ⟨c, hc, ec, h3, _⟩ := mem_mps M (Nat.le_refl _) (List.getElem_mem (l := mps ns ns.length) (n := j) (by omega))
    refine ⟨c, ?_, hc, by rw [← e, ec], h3⟩
    rw [ea] at ec
    have e2 : (a : Int) = (c : Int) := (List.cons.inj ec).1
    omega
  refine ⟨_, _, rfl, ⟨by omega, by omega⟩, ⟨by omega, h2⟩, .inr ⟨rfl, rfl, fun l hl => ?_, h1, fun q hq => ?_⟩⟩
  · obtain ⟨u, hu, _, rfl, _⟩ := ahead l (List.mem_of_getLast? hl)
    refine ⟨_, _, rfl, ?_⟩
    show (if (u : Int) = (i : Int) then _ else decide ((u : Int) < (i : Int))) = true
    rw [if_neg (by omega), decide_eq_true (by omega)]
  · obtain ⟨u, hu, hul, rfl, h3⟩ := ahead q hq
    have bu := M.back u _ (getD_at hul)
    have bi := M.back i _ (getD_at hi)
    have hu0 : 0 ≤ ns.getD u 0 := by omega
    constructor
    · intro z
      simp only [List.mem_cons, List.mem_nil_iff, or_false, List.not_mem_nil] at z
      rcases z with z | z
      · omega
      · rw [← z] at bu
        rw [show ((i : Int)).toNat = i by omega, getD_at hi] at bu
        have := Option.some.inj bu
        omega
    · intro z
      simp only [List.mem_cons, List.mem_nil_iff, or_false, List.not_mem_nil] at z
      rcases z with z | z
      · omega
      · rw [z] at bi
        rw [bi] at bu
        have := Option.some.inj bu
        omega
/-- the mirrors, of their pairs -/
def halfL (ns : List Int) (n : Nat) : List Int := (List.range ns.length).map fun (j : Nat) => if j < n ∨ ns.getD j 0 < (n : Int) then ns.getD j 0 else (j : Int)
theorem halfL_get {ns : List Int} {n j : Nat} (h : j < ns.length) : (halfL ns n)[j]? = some (if j < n ∨ ns.getD j 0 < (n : Int) then ns.getD j 0 else (j : Int)) := by
  unfold halfL
  rw [List.getElem?_map, List.getElem?_range h]; rfl
theorem halfL_len (ns : List Int) (n : Nat) : (halfL ns n).length = ns.length := by unfold halfL; rw [List.length_map, List.length_range]
theorem fold_mps {ns : List Int} (M : Mir ns) : ∀ n, n ≤ ns.length → (mps ns n).foldl setP (rgI 0 (ns.length : Int)) = halfL ns n := by
  intro n
  induction n with
  | zero =>
    intro _
    show rgI 0 (ns.length : Int) = _
    refine List.ext_getElem? fun j => ?_
    by_cases hj : j < ns.length
    · rw [halfL_get hj, if_neg (by have := (M.inn _ (List.mem_of_getElem? (getD_at hj))).1; omega)]
      exact rgI_get.mpr ⟨by omega, by omega⟩
    · rw [List.getElem?_eq_none (by rw [rgI_len]; omega), List.getElem?_eq_none (by rw [halfL_len]; omega)]
  | succ n ih =>
    intro hn
    have ih := ih (by omega)
    rw [mps_next, List.foldl_append, ih]
    have gn := getD_at (ns := ns) (i := n) (by omega)
    have inn := M.inn _ (List.mem_of_getElem? gn)
    have bn := M.back n _ gn
    have other : ∀ j, j < ns.length → (ns.getD j 0 = (n : Int) ↔ (j : Int) = ns.getD n 0) := by
      intro j hj
      have bj := M.back j _ (getD_at hj)
      constructor
      · intro e
        rw [e, show ((n : Int)).toNat = n by omega, gn] at bj
        have := Option.some.inj bj
        omega
      · intro e
        rw [← e, show ((j : Int)).toNat = j by omega, getD_at hj] at bn
        exact Option.some.inj bn
    refine List.ext_getElem? fun j => ?_
    by_cases hj : j < ns.length
    · have oj := other j hj
      rw [halfL_get hj]
      by_cases e : (n : Int) < ns.getD n 0
      · rw [if_pos e]
        show (((halfL ns n).set ((n : Int)).toNat (ns.getD n 0)).set (ns.getD n 0).toNat (n : Int))[j]? = _
        rw [List.getElem?_set, List.getElem?_set, halfL_get hj]
        simp only [List.length_set, halfL_len]
        by_cases c1 : (ns.getD n 0).toNat = j
        · rw [if_pos c1, if_pos (show (ns.getD n 0).toNat < ns.length by omega)]
          have := oj.mpr (by omega)
          rw [if_pos (by right; omega), this]
        · rw [if_neg c1]
          by_cases c2 : ((n : Int)).toNat = j
          · rw [if_pos c2, if_pos (show ((n : Int)).toNat < ns.length by omega)]
            have e2 : n = j := by omega
            subst e2
            rw [if_pos (by left; omega)]
          · rw [if_neg c2]
            have n1 : ¬ ns.getD j 0 = (n : Int) := fun z => c1 (by have := oj.mp z; omega)
            by_cases c3 : j < n ∨ ns.getD j 0 < (n : Int)
            · rw [if_pos c3, if_pos (by omega)]
            · rw [if_neg c3, if_neg (by omega)]
      · rw [if_neg e]
        show (halfL ns n)[j]? = _
        rw [halfL_get hj]
        by_cases c2 : j = n
        · subst c2
          rw [if_pos (c := j < j + 1 ∨ _) (by left; omega)]
          by_cases c3 : j < j ∨ ns.getD j 0 < (j : Int)
          · rw [if_pos c3]
          · rw [if_neg c3]
            congr 1; omega
        · by_cases c3 : j < n ∨ ns.getD j 0 < (n : Int)
          · rw [if_pos c3, if_pos (by omega)]
          · have n1 : ¬ ns.getD j 0 = (n : Int) := fun z => by have := oj.mp z; omega
            rw [if_neg c3, if_neg (by omega)]
    · rw [List.getElem?_eq_none (l := halfL ns (n + 1)) (by rw [halfL_len]; omega)]
      refine List.getElem?_eq_none ?_
      have : (List.foldl setP (halfL ns n) (if (n : Int) < ns.getD n 0 then [[(n : Int), ns.getD n 0]] else [])).length = ns.length := by rw [foldP_len, halfL_len]
      omega
theorem fold_all {ns : List Int} (M : Mir ns) : (mps ns ns.length).foldl setP (rgI 0 (ns.length : Int)) = ns := by
  rw [fold_mps M _ (Nat.le_refl _)]
  refine List.ext_getElem? fun j => ?_
  by_cases hj : j < ns.length
  · rw [halfL_get hj, if_pos (.inl hj), getD_at hj]
  · rw [List.getElem?_eq_none (by rw [halfL_len]; omega), List.getElem?_eq_none (by omega)]
/-! ### the text -/
def rowsT (ns : List Int) (ps : List (List Int)) : List (List Str) := [wMarks, num ns.length] :: ((mps ns ns.length).map (rowW wMirror) ++ ps.map (rowW wStep))
def textOf (ns : List Int) (ps : List (List Int)) : Str := Str.join nl1 ((rowsT ns ps).map (Str.join sp1))
theorem free_w : ∀ w ∈ [wMarks, wMirror, wStep], 32 ∉ tl w ∧ 10 ∉ tl w ∧ w.length ≤ 30 := by
  intro w hw
  have e1 : tl wMarks = [109, 97, 114, 107, 115] := by unfold wMarks; rw [tl_ofString]; decide
  have e2 : tl wMirror = [109, 105, 114, 114, 111, 114] := by unfold wMirror; rw [tl_ofString]; decide
  have e3 : tl wStep = [115, 116, 101, 112] := by unfold wStep; rw [tl_ofString]; decide
  simp only [List.mem_cons, List.mem_nil_iff, or_false, List.not_mem_nil] at hw
  rcases hw with rfl | rfl | rfl
  · rw [len_tl, e1]; decide
  · rw [len_tl, e2]; decide
  · rw [len_tl, e3]; decide
structure RowOk (r : List Str) : Prop where
  ne : r ≠ []
  few : r.length ≤ 3
  ok : ∀ w ∈ r, 32 ∉ tl w ∧ 10 ∉ tl w ∧ w.length ≤ 30
theorem num_ok {n : Nat} (h : n < 10 ^ 30) : 32 ∉ tl (num n) ∧ 10 ∉ tl (num n) ∧ (num n).length ≤ 30 := ⟨num_free (.inl (by omega)), num_free (.inl (by omega)), num_len h⟩
theorem row_ok {w : Str} (hw : w ∈ [wMarks, wMirror, wStep]) {x y : Int} (hx : x < 10) (hy : y < 10) : RowOk (rowW w [x, y]) := by
  refine ⟨by simp [rowW], by simp [rowW], fun z hz => ?_⟩
  simp only [rowW, List.map_cons, List.map_nil, List.mem_cons, List.mem_nil_iff, or_false, List.not_mem_nil] at hz
  rcases hz with rfl | rfl | rfl
  · exact free_w _ hw
  · exact num_ok (by have : x.toNat < 10 := by omega
                     exact Nat.lt_trans this (by decide))
  · exact num_ok (by have : y.toNat < 10 := by omega
                     exact Nat.lt_trans this (by decide))
theorem rows_ok {ns : List Int} {ps : List (List Int)} (M : Mir ns) (S : Stp ns ps) : ∀ r ∈ rowsT ns ps, RowOk r := by
  intro r hr
  have f8 := M.few
  rcases List.mem_cons.mp hr with rfl | hr
  · refine ⟨by simp, by simp, fun z hz => ?_⟩
    simp only [List.mem_cons, List.mem_nil_iff, or_false, List.not_mem_nil] at hz
    rcases hz with rfl | rfl
    · exact free_w _ (by simp)
    · exact num_ok (Nat.lt_of_le_of_lt f8 (by decide))
  · rcases List.mem_append.mp hr with hr | hr
    · obtain ⟨p, hp, rfl⟩ := List.mem_map.mp hr
      obtain ⟨i, hi, rfl, h1, h2⟩ := mem_mps M (Nat.le_refl _) hp
      exact row_ok (by simp) (by omega) (by omega)
    · obtain ⟨p, hp, rfl⟩ := List.mem_map.mp hr
      obtain ⟨x, y, rfl, hx, hy⟩ := S.pair p hp
      exact row_ok (by simp) (by omega) (by omega)
theorem RowOk.split {r : List Str} (h : RowOk r) : Txt.split (Str.join sp1 r) sp1 = r := by
  rw [← join_eq]
  exact split_join (s := 32) (S := []) tl_sp (by decide +kernel) h.ne fun p hp => (h.ok p hp).1
theorem RowOk.nl {r : List Str} (h : RowOk r) : 10 ∉ tl (Str.join sp1 r) := mem_join (by rw [tl_sp]; decide) fun x hx => (h.ok x hx).2.1
theorem RowOk.len {r : List Str} (h : RowOk r) : (Str.join sp1 r).length ≤ 93 := by
  have := join_short (y := sp1) (l := r) (k := 30) (m := 3) (fun x hx => (h.ok x hx).2.2) h.few
  have e : sp1.length = 1 := by rw [len_tl, tl_sp]; rfl
  rw [e] at this
  exact this
theorem rows_len {ns : List Int} {ps : List (List Int)} (M : Mir ns) (S : Stp ns ps) : (rowsT ns ps).length ≤ 73 := by
  have h1 := mps_len ns ns.length
  have h2 := M.few
  have h3 := S.few
  unfold rowsT
  rw [List.length_cons, List.length_append, List.length_map, List.length_map]
  omega
theorem text_split {ns : List Int} {ps : List (List Int)} (M : Mir ns) (S : Stp ns ps) : Txt.split (textOf ns ps) nl1 = (rowsT ns ps).map (Str.join sp1) := by
  unfold textOf
  rw [← join_eq]
  refine split_join (s := 10) (S := []) (parts := (rowsT ns ps).map (Str.join sp1)) tl_nl (by decide +kernel) (by simp [rowsT]) fun p hp => ?_
  obtain ⟨r, hr, rfl⟩ := List.mem_map.mp hp
  exact (rows_ok M S r hr).nl
theorem text_len {ns : List Int} {ps : List (List Int)} (M : Mir ns) (S : Stp ns ps) : (textOf ns ps).length ≤ 10000 := by
  have := join_short (y := nl1) (l := (rowsT ns ps).map (Str.join sp1)) (k := 93) (m := 73) (fun x hx => by
    obtain ⟨r, hr, rfl⟩ := List.mem_map.mp hx
    exact (rows_ok M S r hr).len) (by rw [List.length_map]; exact rows_len M S)
  have e : nl1.length = 1 := by rw [len_tl, tl_nl]; rfl
  rw [e] at this
  unfold textOf
  omega
end K50
set_option maxHeartbeats 4000000
namespace K50
open PySem PySem.Spec PyProof.Rows L2 RV TL
/-- a list of lists of words -/
def Rws (K : PySem.W.Frag) (H : Hp) (a : Addr) (rs : List (List Str)) : Prop := ∃ ks : List (Addr × List Str), ks.map (·.2) = rs ∧ H a = some (.lst (ks.map fun q => V.ref q.1)) ∧ ∀ q ∈ ks, SqL K H q.1 (q.2.map V.str)
theorem Rws.same {K : PySem.W.Frag} {H H' : Hp} {a : Addr} {rs : List (List Str)} (h : Rws K H a rs) (s : Same H H') : Rws K H' a rs := by
  obtain ⟨ks, h1, h2, h3⟩ := h
  exact ⟨ks, h1, s _ _ h2, fun q hq => sqL_same s (h3 q hq)⟩
theorem Rws.at {K : PySem.W.Frag} {H : Hp} {a : Addr} {rs : List (List Str)} {i : Nat} {r : List Str} (h : Rws K H a rs) (e : rs[i]? = some r) : ∃ (xs : List V) (b : Addr), H a = some (.lst xs) ∧ atI xs (i : Int) = some (.ref b) ∧ SqL K H b (r.map V.str) := by
  obtain ⟨ks, rfl, h2, h3⟩ := h
  rw [List.getElem?_map] at e
  cases g : ks[i]? with
  | none => rw [g] at e; cases e
  | some k =>
    rw [g] at e
    cases e
    exact ⟨_, k.1, h2, atI_nat (by rw [List.getElem?_map, g]; rfl), h3 k (List.mem_of_getElem? g)⟩
theorem op_inDK' {X : Cx} {K : PySem.W.Frag} (h : X.K = K) (hu : X.A.units + 65 < cLine) : OpR X (compareOp .In) (rInD K) := h ▸ op_inD hu
theorem merge2 {a b : Addr} : mergeK [] [((.inr wMirror : L2.Key), V.ref a), (.inr wStep, .ref b)] = [(.inr wMirror, .ref a), (.inr wStep, .ref b)] := by
  have ne : ¬ ((.inr wMirror : L2.Key) = .inr wStep) := by decide +kernel
  show putK (putK ([] : List (L2.Key × V)) (.inr wMirror) (.ref a)) (.inr wStep) (.ref b) = _
  have e1 : putK ([] : List (L2.Key × V)) (.inr wMirror) (.ref a) = [(.inr wMirror, .ref a)] := by unfold putK; rfl
  rw [e1]
  unfold putK
  rw [if_neg (by simp only [List.any_cons, List.any_nil, Bool.or_false, decide_eq_true_eq]; exact ne)]
  rfl
theorem shapedTL (ps : List (List Int)) : SeqAt.shaped (.list (ps.map dI)) = true := by
  have h := dep_dI ps
  have e : (PyData.list (ps.map dI)).depth ≤ 64 := by simp only [PyData.depth]; omega
  show ((PyData.list (ps.map dI)).canLay0 && decide ((PyData.list (ps.map dI)).depth ≤ 64)) = true
  rw [decide_eq_true e, Bool.and_true]
  simp only [PyData.canLay0]; exact lay_dI ps
/-- the i-th row behind the first: what it is, how the lists grow -/
theorem row_at {ns : List Int} {ps : List (List Int)} (M : Mir ns) (S : Stp ns ps) {i : Nat} (hi : i < (mps ns ns.length).length + ps.length) : ∃ (wd : Str) (x y : Int), (rowsT ns ps)[i + 1]? = some (rowW wd [x, y]) ∧ (0 ≤ x ∧ x < (ns.length : Int)) ∧ (0 ≤ y ∧ y < (ns.length : Int)) ∧
    CanS ((mps ns ns.length).take i) (ps.take (i - (mps ns ns.length).length)) wd x y ∧
    ((wd = wMirror ∧ (mps ns ns.length).take (i + 1) = (mps ns ns.length).take i ++ [[x, y]] ∧ ps.take (i + 1 - (mps ns ns.length).length) = ps.take (i - (mps ns ns.length).length)) ∨
     (wd = wStep ∧ (mps ns ns.length).take (i + 1) = (mps ns ns.length).take i ∧ ps.take (i + 1 - (mps ns ns.length).length) = ps.take (i - (mps ns ns.length).length) ++ [[x, y]])) := by
  have er : (rowsT ns ps)[i + 1]? = ((mps ns ns.length).map (rowW wMirror) ++ ps.map (rowW wStep))[i]? := rfl
  rw [er]
  by_cases h : i < (mps ns ns.length).length
  · obtain ⟨x, y, e, hx, hy, c⟩ := stands_m M (List.getElem?_eq_getElem h)
    have ei : (mps ns ns.length)[i]? = some [x, y] := by rw [List.getElem?_eq_getElem h, e]
    have z1 : i - (mps ns ns.length).length = 0 := by omega
    have z2 : i + 1 - (mps ns ns.length).length = 0 := by omega
    refine ⟨wMirror, x, y, ?_, hx, hy, ?_, .inl ⟨rfl, ?_, by rw [z1, z2]⟩⟩
    · rw [List.getElem?_append_left (by rw [List.length_map]; exact h), List.getElem?_map, ei]; rfl
    · rw [z1]; exact c
    · rw [List.take_add_one, ei]; rfl
  · have hj : i - (mps ns ns.length).length < ps.length := by omega
    have ej : ps[i - (mps ns ns.length).length]? = some ps[i - (mps ns ns.length).length] := List.getElem?_eq_getElem hj
    obtain ⟨x, y, e, hx, hy⟩ := S.pair _ (List.getElem_mem hj)
    rw [e] at ej
    have z2 : i + 1 - (mps ns ns.length).length = (i - (mps ns ns.length).length) + 1 := by omega
    refine ⟨wStep, x, y, ?_, hx, hy, .inl ⟨rfl, fun l hl => ?_⟩, .inr ⟨rfl, ?_, ?_⟩⟩
    · rw [List.getElem?_append_right (by rw [List.length_map]; omega), List.length_map, List.getElem?_map, ej]; rfl
    · obtain ⟨a, b, rfl, _⟩ := S.pair l (List.mem_of_mem_take (List.mem_of_getLast? hl))
      refine ⟨a, b, rfl, ?_⟩
      rw [List.getLast?_eq_getElem?, List.length_take, Nat.min_eq_left (by omega)] at hl
      by_cases c0 : i - (mps ns ns.length).length = 0
      · rw [c0] at hl; simp at hl
      · rw [List.getElem?_take, if_pos (by omega)] at hl
        have e3 : i - (mps ns ns.length).length - 1 + 1 = i - (mps ns ns.length).length := by omega
        exact S.rise (i - (mps ns ns.length).length - 1) [a, b] [x, y] hl (by rw [e3]; exact ej)
    · rw [List.take_of_length_le (by omega), List.take_of_length_le (by omega)]
    · rw [z2, List.take_add_one, ej]; rfl
section
variable {P : Program} {w : World} {K : PySem.W.Frag} {mg : Str → Option Value} {base : Heap} {t1 t2 t3 : Tok}
/-- [row.split(' ') for row in l] -/
theorem lc_split {te : TE} {σ : L2.St} {H1 : Hp} {a D : Addr} {v : Nat} {rs : List (List Str)} {Qd : Hp → Prop} (hT : SqL K H1 a ((rs.map (Str.join sp1)).map V.str)) (hl : rs.length ≤ 10000) (nD : H1 D = none)
    (hte : ∀ r ∈ rs, ∀ (H' : Hp) (Q : VK), Same H1 H' → (∀ p, H' p = none → Q (.ref p) (upd H' p (.lst (r.map V.str)))) → te ((wipe σ [v]).set v (some (.str (Str.join sp1 r)))) H' Q)
    (hd : ∀ H', Same H1 H' → Rws K H' D rs → Qd H') :
    ∃ W : Nat → Nat → Hp → Prop, (∃ m, W 0 m (upd H1 D (.lst []))) ∧ ∀ i m H, W i m H →
      ((Itl K a).stop i H ∧ Qd H) ∨ ((Itl K a).go i H ∧ ∃ Nx : Hp → Prop, (∀ H', Nx H' → ∃ m', m' < m ∧ W (i + 1) m' H') ∧ ∀ x H', (Itl K a).yld i H x H' → gName v x (wipe σ [v]) H' fun σ2 H2 => wipe σ2 [v] = wipe σ [v] ∧ tYes σ2 H2 fun b H3 =>
        if b = true then te σ2 H3 fun y H4 => ∃ acc, H4 D = some (.lst acc) ∧ acc.length < sizeLine ∧ Nx (upd H4 D (.lst (acc ++ [y]))) else Nx H3) := by
  refine lc_list (K := K) (a := a) (xs := (rs.map (Str.join sp1)).map V.str) (fun i H' => Same H1 H' ∧ ∃ ks : List (Addr × List Str), ks.map (·.2) = rs.take i ∧ H' D = some (.lst (ks.map fun q => V.ref q.1)) ∧ ∀ q ∈ ks, H' q.1 = some (.lst (q.2.map V.str)) ∧ q.1 ≠ D)
    ⟨same_upd nD, [], rfl, upd_same, fun _ z => nomatch z⟩ (fun i H' _ p => sqL_same p.1 hT) (fun i x H' hx p => ?_) fun H' p => ?_
  · obtain ⟨s1, ks, e1, e2, e3⟩ := p
    obtain ⟨z, g, rfl⟩ := map_at hx
    rw [List.getElem?_map] at g
    cases g2 : rs[i]? with
    | none => rw [g2] at g; cases g
    | some r =>
      rw [g2] at g
      cases g
      refine ⟨by simp [wipe, List.set_set], tt_yes (hte r (List.mem_of_getElem? g2) H' _ s1 fun p np => ?_)⟩
      have s2 := same_upd (o := .lst (r.map V.str)) np
      have hpD : p ≠ D := fun z => by rw [z, e2] at np; cases np
      have hlen : ks.length ≤ 10000 := by
        have z := congrArg List.length e1
        rw [List.length_map, List.length_take] at z
        omega
      refine ⟨_, s2 _ _ e2, by rw [List.length_map, sizeLine_eq]; omega, fun b o z => ?_, ks ++ [(p, r)], ?_, ?_, fun q hq => ?_⟩
      · rw [upd_ne (ne_of_none z nD)]; exact s2 _ _ (s1 b o z)
      · rw [List.map_append, e1, List.take_add_one, g2]; rfl
      · rw [upd_same, List.map_append]; rfl
      · rcases List.mem_append.mp hq with z | z
        · exact ⟨by rw [upd_ne (e3 q z).2]; exact s2 _ _ (e3 q z).1, (e3 q z).2⟩
        · rcases List.mem_singleton.mp z with rfl
          exact ⟨by rw [upd_ne hpD, upd_same], hpD⟩
  · obtain ⟨s1, ks, e1, e2, e3⟩ := p
    rw [List.take_of_length_le (by rw [List.length_map, List.length_map]; exact Nat.le_refl _)] at e1
    exact hd H' s1 ⟨ks, e1, e2, fun q hq => lstNew (e3 q hq).1⟩
/-! ### read_rule -/
abbrev nRR : List Str := ["text", "rows", "row", "many", "pairs", "at", "pair", "mirrors", "steps", "a", "b"]
theorem scRR : FnScope nRR ["text"] (defScope sReadRule) := ⟨rfl, rfl, rfl, by decide +kernel, rfl, by decide +kernel, by decide +kernel⟩
def newRule (K : PySem.W.Frag) (C : Addr) (H : Hp) (Q : VK) (ns : List Int) (ps : List (List Int)) : Prop := ∀ H' p, Same H H' → RuleAt K C H' p ns ps → Q (.ref p) H'
def spRR (K : PySem.W.Frag) (C : Addr) : Sp := fun vs H Q _ => ∃ (ns : List Int) (ps : List (List Int)), vs = [.str (textOf ns ps)] ∧ Mir ns ∧ Stp ns ps ∧ newRule K C H Q ns ps
structure RDefs (K : PySem.W.Frag) (mg : Str → Option Value) (fNI fNs fFR fCS fMB : Addr) (dNI dNs dFR dCS dMB : FuncData) : Prop where
  ni : DefAt K mg "number_in" sNumIn ["word"] fNI dNI
  ns : DefAt K mg "numbers_in" sNumsIn ["words"] fNs dNs
  fr : DefAt K mg "first_row" sFirstRow ["words"] fFR dFR
  cs : DefAt K mg "can_stand" sCanStand ["many", "pairs", "word", "pair"] fCS dCS
  mb : DefAt K mg "mirrors_by" sMirrorsBy ["many", "pairs"] fMB dMB
variable {fNI fNs fFR fCS fMB : Addr} {dNI dNs dFR dCS dMB : FuncData}
theorem ok_rr {f fI fA C : Addr} {fd fdI fdA : FuncData} (F : Fun K "read_rule" "read_rule" sReadRule f fd) (T : Txt K mg C) (M : Mk K C fI) (bI : Binds K fdI ["self", "mirrors", "steps"] []) (GI : FnOk P w K mg base CX0 6 fI fdI ["self", "mirrors", "steps"] (spInit K C)) (B : Bare mg)
    (R : RDefs K mg fNI fNs fFR fCS fMB dNI dNs dFR dCS dMB) (DA : DefAt K mg "are_marks" sMarks ["thing", "many"] fA fdA) (GA : FnOk P w K mg base CX0 3 fA fdA ["thing", "many"] (spMarks K))
    (mS : mg "FIGURES" = some (.str sFig t1)) (mF : mg "MOST_FIGURES" = some (.int 30 t2)) (mM : mg "MOST_MARKS" = some (.int 8 t3)) : FnOk P w K mg base CX0 8 f fd ["text"] (spRR K C) := by
  have GNs : FnOk P w K mg base CX0 2 fNs dNs ["words"] (spNs K) := ok_ns R.ns.fn R.ni B mS mF
  have GFR : FnOk P w K mg base CX0 2 fFR dFR ["words"] (spFR K) := ok_fr R.fr.fn R.ni B mS mF mM
  have GCS : FnOk P w K mg base CX0 4 fCS dCS ["many", "pairs", "word", "pair"] (spCS K) := ok_cs R.cs.fn DA GA B
  have GMB : FnOk P w K mg base CX0 1 fMB dMB ["many", "pairs"] (spMB K) := ok_mb R.mb.fn B
  refine F.ok scRR (fun vs H Q E h => ?_) (fun cdv A outer s H vs Q E hr h => ?_)
  · obtain ⟨ns, ps, rfl, _⟩ := h
    rfl
  · obtain ⟨ns, ps, rfl, hM, hS, q⟩ := h
    have hu1 := Nat.lt_of_le_of_lt (Nat.add_le_add_left (show 1 ≤ 64 by decide) _) hr.units
    have hu5 := un65 hr
    have r2 := hr.mono (show 2 ≤ 7 by decide)
    have r4 := hr.mono (show 4 ≤ 7 by decide)
    refine ⟨_, pss_cons (ps_if (pt_not (pt_val (pe_callB call_isi (by rfl) B.isinstance (by decide +kernel) (pa_cons (pv 0) (pa_cons (pe_bltn (v := .ty "str") (by rfl) B.str (by decide +kernel) rfl) pa_nil))))) (pss_one ps_never) pss_nil)
      (pss_cons (ps_setLc (i := 1) (own := [("row", 2)]) (g := gName 2) (tt := tYes) rfl scRR.nd rfl rfl (by rfl) (pi_list (pe_split (pv 0) pe_str)) (blkOk_by (N := nRR) (sc := defScope sReadRule) (by decide +kernel)) (fun _ _ _ _ _ => pg_name (i := 2) scRR.nd rfl (Or.inl rfl)) (fun _ _ _ _ _ => pts_nil)
          (fun _ _ _ _ _ => pe_split (pv 2) pe_str))
      (pss_cons (ps_set (i := 3) scRR.nd rfl (Or.inl rfl) (pe_call GFR r2 (by rfl) R.fr.mg R.fr.fn.kp R.fr.bi .nil pass0 (pa_cons (pe_ix ix_list (pv 1) pe_int (fun _ _ => rfl)) pa_nil)))
      (pss_cons (ps_set (i := 4) scRR.nd rfl (Or.inl rfl) (pe_disp (pps_cons pe_str (pe_lst pa_nil) (pps_cons pe_str (pe_lst pa_nil) pps_nil)) rfl rfl (by simp) (by decide)))
      (pss_cons (ps_for PassesOwn.never rfl (pi_range2 (by rfl) B.range (pa_cons pe_int (pa_cons (pe_callB call_len_seq (by rfl) B.len PySem.boot_len (pa_cons (pv 1) pa_nil)) pa_nil))) (pg_name (i := 5) scRR.nd rfl (Or.inl rfl))
        (pss_cons (ps_set (i := 6) scRR.nd rfl (Or.inl rfl) (pe_call GNs r2 (by rfl) R.ns.mg R.ns.fn.kp R.ns.bi .nil pass0 (pa_cons (pe_slice sl_list (pe_ix ix_list (pv 1) (pv 5) (fun _ _ => rfl)) (po_some pe_int) po_none) pa_nil)))
        (pss_cons (ps_if (pt_not (pt_val (pe_call GCS r4 (by rfl) R.cs.mg R.cs.fn.kp R.cs.bi .nil pass0 (pa_cons (pv 3) (pa_cons (pv 4) (pa_cons (pe_ix ix_list (pe_ix ix_list (pv 1) (pv 5) (fun _ _ => rfl)) pe_int (fun _ _ => rfl)) (pa_cons (pv 6) pa_nil))))))) (pss_one ps_never) pss_nil)
        (pss_one (ps_expr (pe_bm PySem.F.plainAttrs_list PySem.F.slot_list_append PySem.F.type_list_append mt_append (pe_dget hu1 (pv 4) (pe_ix ix_list (pe_ix ix_list (pv 1) (pv 5) (fun _ _ => rfl)) pe_int (fun _ _ => rfl)) (fun _ _ => rfl)) (pa_cons (pv 6) pa_nil)))))))
      (pss_cons (ps_set (i := 7) scRR.nd rfl (Or.inr rfl) (pe_call GMB (hr.mono (by decide)) (by rfl) R.mb.mg R.mb.fn.kp R.mb.bi .nil pass0 (pa_cons (pv 3) (pa_cons (pe_dget hu1 (pv 4) pe_str (fun _ _ => rfl)) pa_nil))))
      (pss_cons (ps_set (i := 8) scRR.nd rfl (Or.inr rfl) (pe_dget hu1 (pv 4) pe_str (fun _ _ => rfl)))
      (pss_cons (ps_if (pt_not (pt_val (pe_callB (cr_all rfl) (by rfl) B.all (by decide +kernel) (pa_cons
          (pe_lc (own := [("a", 9), ("b", 10)]) (g := gTup K 2 (gCons (gName 9) (gCons (gName 10) gNil))) (tt := tYes) rfl scRR.nd (pi_list (pv 8)) (blkOk_by (N := nRR) (sc := defScope sReadRule) (by decide +kernel))
          (fun _ _ _ _ _ => pg_tupK rfl rfl (pgs_cons (pg_name (i := 9) scRR.nd rfl (Or.inl rfl)) (pgs_cons (pg_name (i := 10) scRR.nd rfl (Or.inl rfl)) pgs_nil))) (fun _ _ _ _ _ => pts_nil)
          (fun _ _ _ _ _ => pe_cmpR (op_inDK' (K := K) rfl hu5) (pe_tup (pa_cons (pe_ix (ix_tupK (K := K) rfl) (pv 7) (pv 10) (fun _ _ => rfl)) (pa_cons (pe_ix (ix_tupK (K := K) rfl) (pv 7) (pv 9) (fun _ _ => rfl)) pa_nil))) (pv 8) (by rfl))) pa_nil)))) (pss_one ps_never) pss_nil)
      (pss_one (ps_ret (pe_make M GI hr (by rfl) T.mgC bI .nil pass0 (pa_cons (pv 7) (pa_cons (pe_tupleOf (by rfl) B.tuple (pv 8)) pa_nil)))))))))))), ?_⟩
    have len1 : (mps ns ns.length).length ≤ 8 := Nat.le_trans (mps_len _ _) hM.few
    have m8 := hM.few
    have m1 := hM.pos
    have lps := hS.few
    have lrow : (rowsT ns ps).length = (mps ns ns.length).length + ps.length + 1 := by
      unfold rowsT
      rw [List.length_cons, List.length_append, List.length_map, List.length_map]
    have ltx := text_len hM hS
    refine ⟨.str (textOf ns ps), rfl, .str (textOf ns ps), .ty "str", _, _, true, rfl, .ty "str", .base (.str _), kit_ty (by decide +kernel), true, rfl, iteF ?_⟩
    unfold tNext
    dsimp only
    -- rows
    refine ⟨.str (textOf ns ps), rfl, ⟨_, rfl⟩, textOf ns ps, nl1, rfl, rfl, by decide +kernel, by rw [sizeLine_eq]; omega, fun la nla => ?_⟩
    rw [text_split hM hS]
    have ela : (upd H la (.lst (((rowsT ns ps).map (Str.join sp1)).map V.str))) la = some (.lst (((rowsT ns ps).map (Str.join sp1)).map V.str)) := upd_same
    have sla := same_upd (o := .lst (((rowsT ns ps).map (Str.join sp1)).map V.str)) nla
    generalize upd H la (.lst (((rowsT ns ps).map (Str.join sp1)).map V.str)) = H1 at ela sla ⊢
    refine ⟨la, rfl, ⟨_, lstNew ela⟩, fun Rw nRw => ?_⟩
    refine lc_split (K := K) (rs := rowsT ns ps) (lstNew ela) (by omega) nRw (fun r hr' H' Q' s' k => ?_) fun H2 s2 hRw => ?_
    · have ok := rows_ok hM hS r hr'
      refine ⟨.str (Str.join sp1 r), rfl, ⟨_, rfl⟩, Str.join sp1 r, sp1, rfl, rfl, by decide +kernel, by have := ok.len; rw [sizeLine_eq]; omega, fun p np => ?_⟩
      rw [ok.split]
      exact k p np
    refine nx_step ?_
    dsimp only
    -- first_row
    obtain ⟨xs0, b0, f1, f2, f3⟩ := hRw.at (i := 0) (r := [wMarks, num ns.length]) rfl
    refine ⟨.ref Rw, rfl, Rw, xs0, 0, .ref b0, rfl, rfl, lstNew f1, f2, b0, ns.length, rfl, f3, by omega, by omega, fun H3 s3 => ?_⟩
    refine nx_step ?_
    dsimp only
    have hRw3 := hRw.same s3
    have s03 : Same H H3 := (sla.trans s2).trans s3
    clear f1 f2 f3 xs0 b0
    -- pairs
    intro d nd
    refine ⟨Nat.zero_le _, fun dM nM => ⟨Nat.zero_le _, fun dS nS => ?_⟩⟩
    have dMd : dM ≠ d := fun z => by rw [z, upd_same] at nM; cases nM
    have dSd : dS ≠ d := fun z => by rw [z, upd_ne (fun c => dMd c.symm), upd_same] at nS; cases nS
    have dSM : dS ≠ dM := fun z => by rw [z, upd_same] at nS; cases nS
    have nM3 : H3 dM = none := by rw [upd_ne dMd] at nM; exact nM
    have nS3 : H3 dS = none := by rw [upd_ne dSM, upd_ne dSd] at nS; exact nS
    refine ⟨by rw [upd_ne dSd.symm, upd_ne dMd.symm, upd_same], [(.inr wMirror, .ref dM), (.inr wStep, .ref dS)], rfl, by show 2 ≤ 15; decide, ?_⟩
    rw [merge2]
    refine nx_step ?_
    dsimp only
    have s4 : Same H3 (upd (upd (upd (upd H3 d (.dK [])) dM (.lst [])) dS (.lst [])) d (.dK [(.inr wMirror, .ref dM), (.inr wStep, .ref dS)])) := fun c o z => by
      rw [upd_ne (ne_of_none z nd), upd_ne (ne_of_none z nS3), upd_ne (ne_of_none z nM3), upd_ne (ne_of_none z nd)]; exact z
    have P4 : PairsAt K (upd (upd (upd (upd H3 d (.dK [])) dM (.lst [])) dS (.lst [])) d (.dK [(.inr wMirror, .ref dM), (.inr wStep, .ref dS)])) d dM dS [] [] := by
      refine ⟨upd_same, TLp.nil ?_, TLp.nil ?_⟩
      · rw [upd_ne dMd, upd_ne dSM.symm, upd_same]
      · rw [upd_ne dSd, upd_same]
    generalize upd (upd (upd (upd H3 d (.dK [])) dM (.lst [])) dS (.lst [])) d (.dK [(.inr wMirror, .ref dM), (.inr wStep, .ref dS)]) = H4 at s4 P4 ⊢
    -- the rows behind the first
    obtain ⟨ks0, ek0, ex0, _⟩ := hRw3.same s4
    have lk0 : (ks0.map fun q => V.ref q.1).length = (mps ns ns.length).length + ps.length + 1 := by rw [List.length_map, ← lrow, ← ek0, List.length_map]
    refine ⟨.ref Rw, rfl, Rw, _, rfl, .inl (lstNew ex0), 1, _, rfl, ⟨by decide, by decide, by omega, by omega⟩, ?_⟩
    have en : (((ks0.map fun q => V.ref q.1).length : Int) - 1).toNat = (mps ns ns.length).length + ps.length := by rw [lk0]; omega
    rw [en]
    refine for_range (lo := 1) (n := (mps ns ns.length).length + ps.length) (fun i σ H' => ∃ (y5 y6 : Option V), σ = [some (.str (textOf ns ps)), some (.ref Rw), none, some (.int (ns.length : Int)), some (.ref d), y5, y6, none, none, none, none] ∧ Same H3 H' ∧ PairsAt K H' d dM dS ((mps ns ns.length).take i) (ps.take (i - (mps ns ns.length).length)))
      ⟨none, none, rfl, s4, by rw [Nat.zero_sub, List.take_zero, List.take_zero]; exact P4⟩ (fun i σ H' hi h => ?_) (fun σ H' h => ?_)
    · obtain ⟨y5, y6, rfl, s5, P5⟩ := h
      refine nx_step ?_
      dsimp only
      obtain ⟨wd, x, y, er, hx, hy, hc, grow⟩ := row_at hM hS hi
      obtain ⟨xs, b, f1, f2, f3⟩ := (hRw3.same s5).at er
      have hat : (1 : Int) + (i : Int) = ((i + 1 : Nat) : Int) := by omega
      have hx10 : x.toNat < 10 ^ 30 := Nat.lt_of_le_of_lt (show x.toNat ≤ 8 by omega) (by decide)
      have hy10 : y.toNat < 10 ^ 30 := Nat.lt_of_le_of_lt (show y.toNat ≤ 8 by omega) (by decide)
      rw [hat]
      -- numbers_in(rows[at][1:])
      refine ⟨.ref Rw, rfl, .int ((i + 1 : Nat) : Int), rfl, Rw, xs, _, .ref b, rfl, rfl, lstNew f1, f2, 1, rfl, b, _, rfl, f3, fun c nc => ?_⟩
      have ec : (upd H' c (.lst (cutV ((rowW wd [x, y]).map V.str) (some 1) none))) c = some (.lst ([x.toNat, y.toNat].map fun (n : Nat) => V.str (num n))) := by
        rw [upd_same, cut1]; rfl
      have sc := same_upd (o := .lst (cutV ((rowW wd [x, y]).map V.str) (some 1) none)) nc
      generalize upd H' c (.lst (cutV ((rowW wd [x, y]).map V.str) (some 1) none)) = H5 at ec sc ⊢
      refine ⟨c, [x.toNat, y.toNat], rfl, lstNew ec, by show 2 ≤ 1000; decide, fun n hn => ?_, fun t H6 s6 hT => ?_⟩
      · simp only [List.mem_cons, List.mem_nil_iff, or_false, List.not_mem_nil] at hn
        rcases hn with rfl | rfl
        · exact hx10
        · exact hy10
      have hT' : SqT K H6 t ([x, y].map V.int) := by
        have e : ([x.toNat, y.toNat].map fun (n : Nat) => (n : Int)) = [x, y] := by
          show [((x.toNat : Nat) : Int), ((y.toNat : Nat) : Int)] = [x, y]
          rw [show ((x.toNat : Nat) : Int) = x by omega, show ((y.toNat : Nat) : Int) = y by omega]
        rw [e] at hT
        exact hT
      refine nx_step ?_
      dsimp only
      have s56 := sc.trans s6
      have P6 := P5.same s56
      have s36 : Same H3 H6 := s5.trans s56
      have f1' := s56 _ _ f1
      have f3' := sqL_same s56 f3
      have aw : atI ((rowW wd [x, y]).map V.str) 0 = some (.str wd) := atI_0
      -- can_stand
      refine ⟨.int (ns.length : Int), rfl, .ref d, rfl, .ref Rw, rfl, .int ((i + 1 : Nat) : Int), rfl, Rw, xs, _, .ref b, rfl, rfl, lstNew f1', f2, b, _, 0, .str wd, rfl, rfl, f3', aw, .ref t, rfl, ns.length, d, dM, dS, t, wd, x, y, _, _, rfl, P6, hT', hx, hy, by omega, hc, by rw [List.length_take]; omega, fun p hp => ?_, fun H7 s7 => ⟨true, rfl, iteF ?_⟩⟩
      · obtain ⟨u, _, rfl, _⟩ := mem_mps hM (Nat.le_refl _) (List.mem_of_mem_take hp)
        show 2 ≤ 100; decide
      dsimp only
      have P7 := P6.same s7
      have s37 := s36.trans s7
      have hT7 := sqT_same s7 hT'
      have f1'' := s7 _ _ f1'
      have f3'' := sqL_same s7 f3'
      obtain ⟨hd7, hM7, hS7⟩ := P7
      -- append
      rcases grow with ⟨rfl, g1, g2⟩ | ⟨rfl, g1, g2⟩
      · obtain ⟨ks, e1, e2, e3⟩ := hM7
        have lks : ks.length ≤ 8 := by
          have z := congrArg List.length e1
          rw [List.length_map, List.length_take] at z; omega
        refine ⟨.ref d, rfl, .ref Rw, rfl, .int ((i + 1 : Nat) : Int), rfl, Rw, xs, _, .ref b, rfl, rfl, lstNew f1'', f2, b, _, 0, .str wMirror, rfl, rfl, f3'', aw, d, .ref dM, rfl, get_m hd7, .inl ⟨rfl, _, lstNew e2⟩, .ref t, rfl, dM, _, .ref t, rfl, rfl, e2, by rw [List.length_map, sizeLine_eq]; omega, ?_⟩
        refine ⟨_, _, rfl, fun c o z => ?_, ?_, ?_, ?_⟩
        · rw [upd_ne (ne_of_none z nM3)]; exact s37 c o z
        · rw [upd_ne dMd.symm]; exact hd7
        · rw [g1, ← e1]; exact TLp.put e2 e3 hT7
        · rw [g2]; exact hS7.over e2 dSM
      · obtain ⟨ks, e1, e2, e3⟩ := hS7
        have lks : ks.length ≤ 64 := by
          have z := congrArg List.length e1
          rw [List.length_map, List.length_take] at z; omega
        refine ⟨.ref d, rfl, .ref Rw, rfl, .int ((i + 1 : Nat) : Int), rfl, Rw, xs, _, .ref b, rfl, rfl, lstNew f1'', f2, b, _, 0, .str wStep, rfl, rfl, f3'', aw, d, .ref dS, rfl, get_s hd7, .inl ⟨rfl, _, lstNew e2⟩, .ref t, rfl, dS, _, .ref t, rfl, rfl, e2, by rw [List.length_map, sizeLine_eq]; omega, ?_⟩
        refine ⟨_, _, rfl, fun c o z => ?_, ?_, ?_, ?_⟩
        · rw [upd_ne (ne_of_none z nS3)]; exact s37 c o z
        · rw [upd_ne dSd.symm]; exact hd7
        · rw [g1]; exact hM7.over e2 dSM.symm
        · rw [g2, ← e1]; exact TLp.put e2 e3 hT7
    · obtain ⟨y5, y6, rfl, s5, hd5, hM5, hS5⟩ := h
      dsimp only
      rw [List.take_of_length_le (by omega)] at hM5
      rw [Nat.add_sub_cancel_left, List.take_of_length_le (Nat.le_refl _)] at hS5
      -- mirrors
      refine ⟨.int (ns.length : Int), rfl, .ref d, rfl, d, .ref dM, rfl, get_m hd5, ns.length, dM, _, rfl, hM5, by omega, by omega, fun p hp => ?_, fun b H6 s6 hb => ?_⟩
      · obtain ⟨u, hu, rfl, h1, h2⟩ := mem_mps hM (Nat.le_refl _) hp
        exact ⟨_, _, rfl, ⟨by omega, by omega⟩, ⟨by omega, h2⟩⟩
      rw [fold_all hM] at hb
      refine nx_step ?_
      dsimp only
      have hd6 := s6 _ _ hd5
      have hS6 := hS5.same s6
      refine ⟨.ref d, rfl, d, .ref dS, rfl, get_s hd6, ?_⟩
      refine nx_step ?_
      dsimp only
      obtain ⟨ks, e1, e2, e3⟩ := hS6
      have lks : ks.length ≤ 64 := by rw [← e1, List.length_map] at lps; exact lps
      -- their mirror steps
      refine ⟨.ref dS, rfl, dS, rfl, ⟨_, lstNew e2⟩, fun D nD => ?_⟩
      refine lc_list (K := K) (a := dS) (xs := ks.map fun q => V.ref q.1) (fun i H' => Same H6 H' ∧ H' D = some (.lst (List.replicate i (V.bl true)))) ⟨same_upd nD, upd_same⟩ (fun i H' _ p => lstNew (p.1 _ _ e2)) (fun i x H' hx p => ?_) fun H7 p => ?_
      · obtain ⟨k, g, rfl⟩ := map_at hx
        have hk : k ∈ ks := List.mem_of_getElem? g
        have hi : i < ks.length := (List.getElem?_eq_some_iff.mp g).1
        obtain ⟨x, y, e, hx1, hy1⟩ := hS.pair k.2 (by rw [← e1]; exact List.mem_map_of_mem hk)
        have hkT : SqT K H' k.1 ([x, y].map V.int) := by rw [← e]; exact sqT_same p.1 (e3 k hk)
        obtain ⟨mx, gx⟩ : ∃ mx, ns[x.toNat]? = some mx := ⟨_, List.getElem?_eq_getElem (by omega)⟩
        obtain ⟨my, gy⟩ : ∃ my, ns[y.toNat]? = some my := ⟨_, List.getElem?_eq_getElem (by omega)⟩
        have hin : [my, mx] ∈ ps := hS.mirr x y mx my (by rw [← e, ← e1]; exact List.mem_map_of_mem hk) gx gy
        have ax : atI (ns.map V.int) x = some (.int mx) := by
          rw [show x = ((x.toNat : Nat) : Int) by omega]; exact atI_nat (by rw [List.getElem?_map, gx]; rfl)
        have ay : atI (ns.map V.int) y = some (.int my) := by
          rw [show y = ((y.toNat : Nat) : Int) by omega]; exact atI_nat (by rw [List.getElem?_map, gy]; rfl)
        have hb' := sqT_same p.1 hb
        refine ⟨k.1, _, rfl, hkT, rfl, _, _, rfl, _, _, rfl, rfl, rfl, tt_yes ⟨.ref b, rfl, .int y, rfl, b, _, y, _, rfl, rfl, hb', ay, .ref b, rfl, .int x, rfl, b, _, x, _, rfl, rfl, hb', ax, (by show 2 ≤ sizeLine; decide), fun Tt nT => ?_⟩⟩
        have sT : Same H' (upd H' Tt (.tup [.int my, .int mx])) := same_upd nT
        have dpS : Dp K (upd H' Tt (.tup [.int my, .int mx])) (.ref dS) (.list (ps.map dI)) := by
          have : TLp K H6 dS ps := ⟨ks, e1, e2, e3⟩
          exact (this.same (p.1.trans sT)).dp
        refine ⟨.ref dS, rfl, dI [my, mx], ps.map dI, dpT (tupNew upd_same), dpS, shapedI _, shapedTL _, _, sT _ _ p.2, ?_, ?_, ?_⟩
        · rw [List.length_replicate]; exact few1 (by omega)
        · exact fun c o z => by rw [upd_ne (ne_of_none z nD)]; exact sT c o (p.1 c o z)
        · rw [upd_same, any_dI, decide_eq_true hin, rep_next]
      · rw [rep_bl] at p
        refine ⟨D, _, rfl, lstNew p.2, ?_⟩
        rw [all_true]
        refine ⟨true, rfl, iteF ?_⟩
        dsimp only
        have s67 := p.1
        refine ⟨.ref b, rfl, .ref dS, rfl, .inl ⟨dS, _, rfl, lstNew (s67 _ _ e2), fun u nu => ?_⟩⟩
        have su := same_upd (o := .tup (ks.map fun q => V.ref q.1)) nu
        refine fun x dx nx nd ne => make_rule (ns := ns) (ps := ps) (sqT_same (s67.trans su) hb) ⟨ks, e1, tupNew upd_same, fun q hq => sqT_same (s67.trans su) (e3 q hq)⟩ hM hS nx nd ne fun H8 s8 R => ?_
        exact q H8 x (((((s03.trans s5).trans s6).trans s67).trans su).trans s8) R
end
end K50
set_option maxHeartbeats 4000000
namespace K50
open PySem PySem.Spec PyProof.Rows L2 RV TL
theorem len_app (x y : Str) : (x ++ y).length = x.length + y.length := by rw [len_tl, len_tl, len_tl, tl_append, List.length_append]
theorem num_str {x : Int} (h : 0 ≤ x) : ((toString x : String) : Str) = num x.toNat := by
  have z := num_of h
  exact V.str.inj z
theorem log_small {x : Int} (h0 : 0 ≤ x) (h : x < 10 ^ 30) : x.natAbs.log2 < 1920 := by
  have e : x = ((x.toNat : Nat) : Int) := by omega
  rw [e]
  exact num_log (by have : ((x.toNat : Nat) : Int) < 10 ^ 30 := by omega
                    exact_mod_cast this)
theorem nat_small {x : Int} (h0 : 0 ≤ x) (h : x < 10 ^ 30) : x.toNat < 10 ^ 30 := by
  have : ((x.toNat : Nat) : Int) < 10 ^ 30 := by omega
  exact_mod_cast this
/-- f'word {x} {y}' -/
theorem row_fmt {p w : Str} {σ : L2.St} {H : Hp} {i j : Nat} {x y : Int} {Q : Str → Hp → Prop} (ep : tl p = tl w ++ [32]) (lp : p.length ≤ 100) (hi : σ[i]? = some (some (.int x))) (hj : σ[j]? = some (some (.int y))) (x0 : 0 ≤ x) (x1 : x < 10 ^ 30) (y0 : 0 ≤ y) (y1 : y < 10 ^ 30) (k : Q (Str.join sp1 (rowW w [x, y])) H) :
    tJs [tC (.str p), tFmt (tVar i), tC (.str sp1), tFmt (tVar j)] Str.empty σ H Q := by
  have e1 := num_str x0
  have e2 := num_str y0
  have l1 := num_len (nat_small x0 x1)
  have l2 := num_len (nat_small y0 y1)
  have ls : sp1.length = 1 := by rw [len_tl, tl_sp]; rfl
  have le : Str.empty.length = 0 := rfl
  have z : sizeLine ≥ 100000 := by rw [sizeLine_eq]; decide
  refine ⟨p, rfl, by rw [len_app, le]; omega, .int x, hi, .inr ⟨x, rfl, log_small x0 x1, num x.toNat, by rw [← e1], by rw [len_app, len_app, le]; omega, ?_⟩⟩
  refine ⟨sp1, rfl, by rw [len_app, len_app, len_app, le, ls]; omega, .int y, hj, .inr ⟨y, rfl, log_small y0 y1, num y.toNat, by rw [← e2], by rw [len_app, len_app, len_app, len_app, le, ls]; omega, ?_⟩⟩
  have fin : Str.empty ++ p ++ num x.toNat ++ sp1 ++ num y.toNat = Str.join sp1 (rowW w [x, y]) := by
    refine ext_tl ?_
    rw [row3, tl_append, tl_append, tl_append, tl_append, tl_nm, tl_nm, tl_sp, ep]
    show ((([] ++ (tl w ++ [32])) ++ numL x.toNat) ++ [32]) ++ numL y.toNat = _
    simp
  show Q _ H
  rw [fin]
  exact k
theorem flds_no (a b t : Addr) {m : Str} (h1 : ¬ m = "mirrors") (h2 : ¬ m = "steps") (h3 : ¬ m = "followers") : (flds a b t).lookup m = none := by
  unfold flds
  rw [lookup_putF, if_neg h3, lookup_putF, if_neg h2, lookup_putF, if_neg h1]
  all_goals rfl
theorem ep_w {w : Str} {ws : String} {l : List Nat} (h : tl w = l) (e : ws.toList.map Char.toNat = l ++ [32]) : tl (Str.ofString ws) = tl w ++ [32] := by rw [tl_ofString, e, h]
theorem ep_m : tl (Str.ofString "mirror ") = tl wMirror ++ [32] := by
  unfold wMirror; rw [tl_ofString, tl_ofString]; decide
theorem ep_s : tl (Str.ofString "step ") = tl wStep ++ [32] := by
  unfold wStep; rw [tl_ofString, tl_ofString]; decide
theorem ep_k : tl (Str.ofString "marks ") = tl wMarks ++ [32] := by
  unfold wMarks; rw [tl_ofString, tl_ofString]; decide
theorem lp_m : (Str.ofString "mirror ").length ≤ 100 := by rw [len_tl, tl_ofString]; decide
theorem lp_s : (Str.ofString "step ").length ≤ 100 := by rw [len_tl, tl_ofString]; decide
theorem lp_k : (Str.ofString "marks ").length ≤ 100 := by rw [len_tl, tl_ofString]; decide
def teRow (p : Str) : TE := fun σ H Q => tJs [tC (.str p), tFmt (tVar 2), tC (.str sp1), tFmt (tVar 3)] Str.empty σ H fun out H1 => Q (.str out) H1
/-- the rows as texts -/
def txM (ns : List Int) (n : Nat) : List Str := ((mps ns n).map (rowW wMirror)).map (Str.join sp1)
def txS (ps : List (List Int)) : List Str := (ps.map (rowW wStep)).map (Str.join sp1)
theorem txM_next (ns : List Int) (n : Nat) : txM ns (n + 1) = txM ns n ++ (if (n : Int) < ns.getD n 0 then [Str.join sp1 (rowW wMirror [(n : Int), ns.getD n 0])] else []) := by
  unfold txM
  rw [mps_next, List.map_append, List.map_append]
  congr 1
  split <;> rfl
theorem txM_len (ns : List Int) (n : Nat) : (txM ns n).length ≤ n := by
  unfold txM
  rw [List.length_map, List.length_map]; exact mps_len ns n
theorem text_tx (ns : List Int) (ps : List (List Int)) : textOf ns ps = Str.join nl1 ([Str.join sp1 [wMarks, num ns.length]] ++ txM ns ns.length ++ txS ps) := by
  unfold textOf rowsT txM txS
  rw [List.map_cons, List.map_append]; rfl
section
variable {P : Program} {w : World} {K : PySem.W.Frag} {mg : Str → Option Value} {base : Heap} {t1 t2 t3 : Tok}
/-! ### show_rule -/
abbrev nSh : List Str := ["rule", "rows", "a", "b"]
theorem scSh : FnScope nSh ["rule"] (defScope sShow) := ⟨rfl, rfl, rfl, by decide +kernel, rfl, by decide +kernel, by decide +kernel⟩
def spShow (K : PySem.W.Frag) (C : Addr) : Sp := fun vs H Q _ => ∃ (r : Addr) (ns : List Int) (ps : List (List Int)), vs = [.ref r] ∧ RuleAt K C H r ns ps ∧ Mir ns ∧ Stp ns ps ∧ ∀ H', Same H H' → Q (.str (textOf ns ps)) H'
theorem ok_show {f C fM : Addr} {fd dM : FuncData} (F : Fun K "show_rule" "show_rule" sShow f fd) (T : Txt K mg C) (B : Bare mg) (FM : Fun K "marks" "Rule.marks" sMarksM fM dM) (bM : Binds K dM ["self"] []) (mM : Meth K C "marks" fM) : FnOk P w K mg base CX0 2 f fd ["rule"] (spShow K C) := by
  have GM : FnOk P w K mg base CX0 1 fM dM ["self"] (spMarksM K C) := ok_marksM FM T B
  refine F.ok scSh (fun vs H Q E h => ?_) (fun cdv A outer s H vs Q E hr h => ?_)
  · obtain ⟨r, ns, ps, rfl, _⟩ := h
    rfl
  · obtain ⟨r, ns, ps, rfl, R, hM, hS, q⟩ := h
    refine ⟨_, pss_cons (ps_set (i := 1) scSh.nd rfl (Or.inl rfl) (pe_lst (pa_cons (pe_joined (.cons pe_str (.cons (pe_fmt (pe_meth0 (pv 0) T.cl mM GM hr bM .nil pass0)) .nil))) pa_nil)))
      (pss_cons (ps_aug (i := 1) scSh.nd rfl (.inl rfl) (pe_lc (own := [("a", 2), ("b", 3)]) (g := gTup K 2 (gCons (gName 2) (gCons (gName 3) gNil))) rfl scSh.nd (pi_enT (by rfl) B.enumerate (pa_cons (pe_fld (pv 0) rfl) pa_nil)) (blkOk_by (N := nSh) (sc := defScope sShow) (by decide +kernel))
          (fun _ _ _ _ _ => pg_tupK rfl rfl (pgs_cons (pg_name (i := 2) scSh.nd rfl (Or.inl rfl)) (pgs_cons (pg_name (i := 3) scSh.nd rfl (Or.inl rfl)) pgs_nil))) (fun _ _ _ _ _ => pts_one (pt_cmpR op_lt (pv 2) (pv 3) (nomark _)))
          (fun _ _ _ _ _ => pe_joined (.cons pe_str (.cons (pe_fmt (pv 2)) (.cons pe_str (.cons (pe_fmt (pv 3)) .nil)))))) iop_ext)
      (pss_cons (ps_aug (i := 1) scSh.nd rfl (.inl rfl) (pe_lc (own := [("a", 2), ("b", 3)]) (g := gTup K 2 (gCons (gName 2) (gCons (gName 3) gNil))) (tt := tYes) rfl scSh.nd (pi_tup (pe_fld (pv 0) rfl)) (blkOk_by (N := nSh) (sc := defScope sShow) (by decide +kernel))
          (fun _ _ _ _ _ => pg_tupK rfl rfl (pgs_cons (pg_name (i := 2) scSh.nd rfl (Or.inl rfl)) (pgs_cons (pg_name (i := 3) scSh.nd rfl (Or.inl rfl)) pgs_nil))) (fun _ _ _ _ _ => pts_nil)
          (fun _ _ _ _ _ => pe_joined (.cons pe_str (.cons (pe_fmt (pv 2)) (.cons pe_str (.cons (pe_fmt (pv 3)) .nil)))))) iop_ext)
      (pss_one (ps_ret (pe_join pe_str (pv 1)))))), ?_⟩
    have m8 := hM.few
    have m1 := hM.pos
    have lps := hS.few
    have z : sizeLine ≥ 100000 := by rw [sizeLine_eq]; decide
    obtain ⟨dx, a0, b0, t0, h1, h2, h3, h4⟩ := R.ex
    have fno := flds_no a0 b0 t0 (m := "marks") (by decide +kernel) (by decide +kernel) (by decide +kernel)
    have ll := num_len (n := ns.length) (Nat.lt_of_le_of_lt m8 (by decide))
    have c0 : Str.empty ++ Str.ofString "marks " ++ num ns.length = Str.join sp1 [wMarks, num ns.length] := by
      refine ext_tl ?_
      rw [row2, tl_append, tl_append, tl_nm, ep_k]
      show ([] ++ (tl wMarks ++ [32])) ++ numL ns.length = _
      simp
    -- the first row
    have lk := lp_k
    have le : Str.empty.length = 0 := rfl
    refine ⟨_, rfl, by rw [len_app, le]; omega, .ref r, rfl, r, dx, _, rfl, h1, fno, r, ns, ps, rfl, R, .inr ⟨_, rfl, log_small (by omega) (by omega), num ns.length, by rw [num_str (by omega), Int.toNat_natCast], by rw [len_app, len_app, le]; omega, ?_⟩⟩
    rw [c0]
    refine ⟨by show 1 ≤ sizeLine; omega, fun A nA => ?_⟩
    refine nx_step ?_
    dsimp only
    have sA := same_upd (o := .lst [V.str (Str.join sp1 [wMarks, num ns.length])]) nA
    have eA : (upd H A (.lst [V.str (Str.join sp1 [wMarks, num ns.length])])) A = some (.lst (([Str.join sp1 [wMarks, num ns.length]] : List Str).map V.str)) := upd_same
    generalize upd H A (.lst [V.str (Str.join sp1 [wMarks, num ns.length])]) = H1 at sA eA ⊢
    -- the rows of mirrors
    refine ⟨.ref A, rfl, .ref r, rfl, r, C, dx, _, _, rfl, sA _ _ h1, T.cl, T.nM, flds_m _ _ _, a0, _, rfl, sqT_same sA h2, fun D nD => ?_⟩
    refine lc_it (te := teRow (Str.ofString "mirror ")) (walk_enT (K := K) (a := a0) (xs := ns.map V.int)) (fun i H' => Same H1 H' ∧ H' D = some (.lst ((txM ns i).map V.str))) ⟨same_upd nD, upd_same⟩ (fun i H' _ p => sqT_same p.1 (sqT_same sA h2)) (fun i x H2 H3 hi p y => ?_) fun H2 p => ?_
    · obtain ⟨Tt, x1, x2, rfl, nT, rfl, e1, e2⟩ := y
      have e1' : x1 = .int (i : Nat) := (Option.some.inj e1).symm
      subst e1'
      obtain ⟨m, hm, rfl⟩ := map_at e2
      have hin := hM.inn m (List.mem_of_getElem? hm)
      have hil : i < ns.length := (List.getElem?_eq_some_iff.mp hm).1
      have em : ns.getD i 0 = m := by have := getD_at hil; rw [hm] at this; exact (Option.some.inj this).symm
      have sT : Same H2 (upd H2 Tt (.tup [.int (i : Nat), .int m])) := same_upd nT
      have lt := txM_len ns i
      refine ⟨Tt, _, rfl, tupNew upd_same, rfl, _, _, rfl, _, _, rfl, rfl, rfl, .int (i : Nat), rfl, .int m, rfl, _, _, rfl, rfl, decide ((i : Int) < m), rfl, ?_⟩
      by_cases c : (i : Int) < m
      · rw [decide_eq_true c]
        refine iteT ?_
        refine row_fmt (w := wMirror) (i := 2) (j := 3) ep_m lp_m rfl rfl (by omega) (by omega) (by omega) (by omega) ⟨_, sT _ _ p.2, by rw [List.length_map]; omega, fun b o e => ?_, ?_⟩
        · rw [upd_ne (ne_of_none e nD)]; exact sT b o (p.1 b o e)
        · rw [upd_same, txM_next, em, if_pos c, List.map_append]; rfl
      · rw [decide_eq_false c]
        refine iteF ⟨p.1.trans sT, ?_⟩
        rw [txM_next, em, if_neg c, List.append_nil]; exact sT _ _ p.2
    rw [List.length_map] at p
    obtain ⟨s2, e2⟩ := p
    have lM := txM_len ns ns.length
    have nAD : D ≠ A := fun c => by rw [c, eA] at nD; cases nD
    refine ⟨A, D, _, _, rfl, rfl, s2 _ _ eA, e2, by rw [List.length_map, List.length_map]; simp only [List.length_cons, List.length_nil]; omega, ?_⟩
    have sAH : Same H (upd H2 A (.lst ((([Str.join sp1 [wMarks, num ns.length]] : List Str).map V.str) ++ (txM ns ns.length).map V.str))) := fun c o e => by
      rw [upd_ne (ne_of_none e nA)]; exact s2 _ _ (sA _ _ e)
    have eA3 : (upd H2 A (.lst ((([Str.join sp1 [wMarks, num ns.length]] : List Str).map V.str) ++ (txM ns ns.length).map V.str))) A = some (.lst (([Str.join sp1 [wMarks, num ns.length]] ++ txM ns ns.length).map V.str)) := by rw [upd_same, List.map_append]
    generalize upd H2 A (.lst ((([Str.join sp1 [wMarks, num ns.length]] : List Str).map V.str) ++ (txM ns ns.length).map V.str)) = H3 at sAH eA3 ⊢
    dsimp only
    -- the rows of steps
    obtain ⟨ks, ek, hks, hkk⟩ := h3.same sAH
    have lks : ks.length ≤ 64 := by rw [← ek, List.length_map] at lps; exact lps
    refine ⟨.ref A, rfl, .ref r, rfl, r, C, dx, _, _, rfl, sAH _ _ h1, T.cl, T.nS, flds_s _ _ _, b0, rfl, ⟨_, hks⟩, fun D2 nD2 => ?_⟩
    refine lc_tup (te := teRow (Str.ofString "step ")) (K := K) (a := b0) (xs := ks.map fun q => V.ref q.1) (fun i H' => Same H3 H' ∧ H' D2 = some (.lst ((txS ((ks.take i).map (·.2))).map V.str))) ⟨same_upd nD2, upd_same⟩ (fun i H' _ p => sqT_same p.1 hks) (fun i x H' hx p => ?_) fun H4 p => ?_
    · obtain ⟨k, g, rfl⟩ := map_at hx
      have hk : k ∈ ks := List.mem_of_getElem? g
      have hi : i < ks.length := (List.getElem?_eq_some_iff.mp g).1
      obtain ⟨x, y, e, hx1, hy1⟩ := hS.pair k.2 (by rw [← ek]; exact List.mem_map_of_mem hk)
      have hkT : SqT K H' k.1 ([x, y].map V.int) := by rw [← e]; exact sqT_same p.1 (hkk k hk)
      refine ⟨k.1, _, rfl, hkT, rfl, _, _, rfl, _, _, rfl, rfl, rfl, tt_yes ?_⟩
      refine row_fmt (w := wStep) (i := 2) (j := 3) ep_s lp_s rfl rfl (by omega) (by omega) (by omega) (by omega) ⟨_, p.2, ?_, fun b o c => ?_, ?_⟩
      · unfold txS
        rw [List.length_map, List.length_map, List.length_map, List.length_map, List.length_take]; omega
      · rw [upd_ne (ne_of_none c nD2)]; exact p.1 b o c
      · rw [upd_same, List.take_add_one, g]
        unfold txS
        rw [List.map_append, List.map_append, List.map_append, List.map_append]
        show _ = some (HO.lst (_ ++ [V.str (Str.join sp1 (rowW wStep k.2))]))
        rw [e]
    rw [List.length_map, List.take_of_length_le (Nat.le_refl _), ek] at p
    obtain ⟨s4, e4⟩ := p
    have lS : (txS ps).length ≤ 64 := by unfold txS; rw [List.length_map, List.length_map]; exact lps
    refine ⟨A, D2, _, _, rfl, rfl, s4 _ _ eA3, e4, by rw [List.length_map, List.length_map, List.length_append]; simp only [List.length_cons, List.length_nil]; omega, ?_⟩
    have eA5 : (upd H4 A (.lst ((([Str.join sp1 [wMarks, num ns.length]] ++ txM ns ns.length).map V.str) ++ (txS ps).map V.str))) A = some (.lst (([Str.join sp1 [wMarks, num ns.length]] ++ txM ns ns.length ++ txS ps).map V.str)) := by rw [upd_same, List.map_append (l₁ := _ ++ _)]
    have s5 : Same H (upd H4 A (.lst ((([Str.join sp1 [wMarks, num ns.length]] ++ txM ns ns.length).map V.str) ++ (txS ps).map V.str))) := fun c o e => by
      rw [upd_ne (ne_of_none e nA)]; exact s4 _ _ (sAH _ _ e)
    generalize upd H4 A (.lst ((([Str.join sp1 [wMarks, num ns.length]] ++ txM ns ns.length).map V.str) ++ (txS ps).map V.str)) = H5 at eA5 s5 ⊢
    dsimp only
    refine ⟨⟨_, rfl⟩, .ref A, rfl, nl1, A, _, rfl, rfl, .inl (lstNew eA5), ?_, ?_⟩
    · have er : ([Str.join sp1 [wMarks, num ns.length]] ++ txM ns ns.length ++ txS ps) = (rowsT ns ps).map (Str.join sp1) := by
        unfold rowsT txM txS
        rw [List.map_cons, List.map_append]; rfl
      rw [er]
      refine join_room (k := 93) (m := 73) (fun x hx => ?_) (by rw [List.length_map]; exact rows_len hM hS) ?_
      · obtain ⟨r', hr', rfl⟩ := List.mem_map.mp hx
        exact (rows_ok hM hS r' hr').len
      · rw [show nl1.length = 1 by rw [len_tl, tl_nl]; rfl]; decide
    · rw [join_eq, ← text_tx]
      exact q H5 s5
end
end K50
set_option maxHeartbeats 4000000
namespace K50
open PySem PySem.Spec PyProof.Rows L2 RV TL
def rJoin (K : PySem.W.Frag) : V → List V → Hp → VK → Prop := fun x xs H Q => ∃ a p, ∃ ys : List Str, x = .str a ∧ xs = [.ref p] ∧ (SqL K H p (ys.map V.str) ∨ SqT K H p (ys.map V.str)) ∧
      (ys.map (·.length)).sum + ys.length * a.length ≤ 16777216 ∧ Q (.str (Txt.join a ys)) H
theorem pe_joinK {X : Cx} {K : PySem.W.Frag} {o e : Expr} {to te : TE} {apos pos : Pos} (h : X.K = K) (ho : PE X o to) (he : PE X e te) (hs : starEach [e] X.env = [(false, eval e X.env)] := by rfl) (hbase : attributeBase o "join" X.env (eval o X.env) = eval o X.env := by rfl) (hline : (apos.endLine == pos.line) = true := by rfl) :
    PE X (.Call (.Attribute o "join" apos) [e] [] pos) (tM1 (rJoin K) to te) := by
  subst h
  exact pe_join ho he hs hbase hline
def teJ (K : PySem.W.Frag) (w : Str) (i j : Nat) : TE := tM1 (rJoin K) (tC (.str sp1)) (tLst (tCons (tC (.str w)) (tCons (tCB (fun xs H Q => ∃ i, xs = [.int i] ∧ i.natAbs.log2 < 1920 ∧ Q (.str (toString i)) H) (tCons (tVar i) tNil)) (tCons (tCB (fun xs H Q => ∃ i, xs = [.int i] ∧ i.natAbs.log2 < 1920 ∧ Q (.str (toString i)) H) (tCons (tVar j) tNil)) tNil))))
/-- ' '.join([w, str(x), str(y)]) -/
theorem row_join {K : PySem.W.Frag} {w : Str} {σ : L2.St} {H : Hp} {i j : Nat} {x y : Int} {Q : VK} (lw : w.length ≤ 100) (hi : σ[i]? = some (some (.int x))) (hj : σ[j]? = some (some (.int y))) (x0 : 0 ≤ x) (x1 : x < 10 ^ 30) (y0 : 0 ≤ y) (y1 : y < 10 ^ 30) (k : ∀ H', Same H H' → Q (.str (Str.join sp1 (rowW w [x, y]))) H') :
    teJ K w i j σ H Q := by
  have l1 := num_len (nat_small x0 x1)
  have l2 := num_len (nat_small y0 y1)
  refine ⟨⟨_, rfl⟩, .int x, hi, x, rfl, log_small x0 x1, .int y, hj, y, rfl, log_small y0 y1, by show 3 ≤ sizeLine; decide, fun l nl => ?_⟩
  rw [num_str x0, num_str y0]
  refine ⟨sp1, l, rowW w [x, y], rfl, rfl, .inl (lstNew upd_same), ?_, ?_⟩
  · refine join_room (k := 100) (m := 3) (fun z hz => ?_) (by show 3 ≤ 3; decide) (by rw [show sp1.length = 1 by rw [len_tl, tl_sp]; rfl]; decide)
    simp only [rowW, List.map_cons, List.map_nil, List.mem_cons, List.mem_nil_iff, or_false, List.not_mem_nil] at hz
    rcases hz with rfl | rfl | rfl <;> omega
  · rw [join_eq]
    exact k _ (same_upd nl)
section
variable {P : Program} {w : World} {K : PySem.W.Frag} {mg : Str → Option Value} {base : Heap} {t1 t2 t3 : Tok}
/-! ### _law_rule_text -/
abbrev nRT : List Str := ["_law_mirrors_here", "_law_steps_here", "_law_rows", "_law_mark", "_law_other", "_law_one"]
theorem scRT : FnScope nRT ["_law_mirrors_here", "_law_steps_here"] (defScope sRuleText) := ⟨rfl, rfl, rfl, by decide +kernel, rfl, by decide +kernel, by decide +kernel⟩
def spRT (K : PySem.W.Frag) : Sp := fun vs H Q _ => ∃ (a b : Addr) (ns : List Int) (ps : List (List Int)), vs = [.ref a, .ref b] ∧ SqT K H a (ns.map V.int) ∧ Tups K H b ps ∧ Mir ns ∧ Stp ns ps ∧ ∀ H', Same H H' → Q (.str (textOf ns ps)) H'
theorem ok_rt {f : Addr} {fd : FuncData} (F : Fun K "_law_rule_text" "_law_rule_text" sRuleText f fd) (B : Bare mg) : FnOk P w K mg base CX0 1 f fd ["_law_mirrors_here", "_law_steps_here"] (spRT K) := by
  refine F.ok scRT (fun vs H Q E h => ?_) (fun cdv A outer s H vs Q E hr h => ?_)
  · obtain ⟨a, b, ns, ps, rfl, _⟩ := h
    rfl
  · obtain ⟨a, b, ns, ps, rfl, hA, hB, hM, hS, q⟩ := h
    refine ⟨_, pss_cons (ps_set (i := 2) scRT.nd rfl (Or.inl rfl) (pe_lst (pa_cons (pe_op op_add_str pe_str (pe_callTy call_str_int (by rfl) B.str (by decide +kernel) (pa_cons (pe_callB call_len_seq (by rfl) B.len PySem.boot_len (pa_cons (pv 0) pa_nil)) pa_nil))) pa_nil)))
      (pss_cons (ps_for PassesOwn.never rfl (pi_enT (by rfl) B.enumerate (pa_cons (pv 0) pa_nil)) (pg_tup rfl (pgs_cons (pg_name (i := 3) scRT.nd rfl (Or.inl rfl)) (pgs_cons (pg_name (i := 4) scRT.nd rfl (Or.inl rfl)) pgs_nil)))
        (pss_one (ps_if (pt_cmpR op_lt (pv 3) (pv 4) (nomark _)) (pss_one (ps_expr (pe_bm PySem.F.plainAttrs_list PySem.F.slot_list_append PySem.F.type_list_append mt_append (pv 2) (pa_cons
          (pe_joinK (K := K) rfl pe_str (pe_lst (pa_cons pe_str (pa_cons (pe_callTy call_str_int (by rfl) B.str (by decide +kernel) (pa_cons (pv 3) pa_nil)) (pa_cons (pe_callTy call_str_int (by rfl) B.str (by decide +kernel) (pa_cons (pv 4) pa_nil)) pa_nil))))) pa_nil)))) pss_nil)))
      (pss_one (ps_ret (pe_joinK (K := K) rfl pe_str (pe_op op_cat (pv 2) (pe_lc (own := [("_law_one", 5), ("_law_other", 4)]) (g := gTup K 2 (gCons (gName 5) (gCons (gName 4) gNil))) (tt := tYes) rfl scRT.nd (pi_tup (pv 1)) (blkOk_by (N := nRT) (sc := defScope sRuleText) (by decide +kernel))
          (fun _ _ _ _ _ => pg_tupK rfl rfl (pgs_cons (pg_name (i := 5) scRT.nd rfl (Or.inl rfl)) (pgs_cons (pg_name (i := 4) scRT.nd rfl (Or.inl rfl)) pgs_nil))) (fun _ _ _ _ _ => pts_nil)
          (fun _ _ _ _ _ => pe_joinK (K := K) rfl pe_str (pe_lst (pa_cons pe_str (pa_cons (pe_callTy call_str_int (by rfl) B.str (by decide +kernel) (pa_cons (pv 5) pa_nil)) (pa_cons (pe_callTy call_str_int (by rfl) B.str (by decide +kernel) (pa_cons (pv 4) pa_nil)) pa_nil))))))))))), ?_⟩
    have m8 := hM.few
    have m1 := hM.pos
    have lps := hS.few
    have z : sizeLine ≥ 100000 := by rw [sizeLine_eq]; decide
    have ll := num_len (n := ns.length) (Nat.lt_of_le_of_lt m8 (by decide))
    have lk := lp_k
    have c0 : Str.ofString "marks " ++ num ns.length = Str.join sp1 [wMarks, num ns.length] := by
      refine ext_tl ?_
      rw [row2, tl_append, tl_nm, ep_k]
      simp
    refine ⟨.ref a, rfl, a, _, rfl, .inr hA, _, rfl, log_small (by omega) (by rw [List.length_map]; omega), _, _, rfl, rfl, by rw [num_str (by omega), List.length_map, Int.toNat_natCast]; omega, ?_⟩
    rw [num_str (by omega), List.length_map, Int.toNat_natCast, c0]
    refine ⟨by show 1 ≤ sizeLine; omega, fun A nA => ?_⟩
    refine nx_step ?_
    dsimp only
    have sA := same_upd (o := .lst [V.str (Str.join sp1 [wMarks, num ns.length])]) nA
    have eA : (upd H A (.lst [V.str (Str.join sp1 [wMarks, num ns.length])])) A = some (.lst (([Str.join sp1 [wMarks, num ns.length]] ++ txM ns 0).map V.str)) := upd_same
    generalize upd H A (.lst [V.str (Str.join sp1 [wMarks, num ns.length])]) = H1 at sA eA ⊢
    refine ⟨.ref a, rfl, a, _, rfl, sqT_same sA hA, ?_⟩
    refine for_it (walk_enT (K := K) (a := a) (xs := ns.map V.int)) (fun i σ H' => ∃ (y3 y4 : Option V), σ = [some (.ref a), some (.ref b), some (.ref A), y3, y4, none] ∧ Same H H' ∧ H' A = some (.lst (([Str.join sp1 [wMarks, num ns.length]] ++ txM ns i).map V.str)))
      ⟨none, none, rfl, sA, eA⟩ (fun i σ H' _ h => ?_) (fun i x σ H2 H3 hx h y => ?_) (fun σ H2 h => ?_)
    · obtain ⟨_, _, _, s', _⟩ := h
      exact sqT_same s' hA
    · obtain ⟨y3, y4, rfl, s2, e2⟩ := h
      obtain ⟨Tt, x1, x2, rfl, nT, rfl, e1, e3⟩ := y
      have e1' : x1 = .int (i : Nat) := (Option.some.inj e1).symm
      subst e1'
      obtain ⟨m, hm, rfl⟩ := map_at e3
      have hin := hM.inn m (List.mem_of_getElem? hm)
      have hil : i < ns.length := (List.getElem?_eq_some_iff.mp hm).1
      have em : ns.getD i 0 = m := by have := getD_at hil; rw [hm] at this; exact (Option.some.inj this).symm
      have sT : Same H2 (upd H2 Tt (.tup [.int (i : Nat), .int m])) := same_upd nT
      have lt := txM_len ns i
      refine ⟨Tt, _, rfl, tupNew upd_same, rfl, _, _, rfl, _, _, rfl, rfl, ?_⟩
      dsimp only
      refine ⟨.int (i : Nat), rfl, .int m, rfl, _, _, rfl, rfl, decide ((i : Int) < m), rfl, ?_⟩
      by_cases c : (i : Int) < m
      · rw [decide_eq_true c]
        refine iteT ⟨.ref A, rfl, .inl ⟨rfl, _, lstNew (sT _ _ e2)⟩, ?_⟩
        refine row_join (K := K) (w := wMirror) (i := 3) (j := 4) (by have := (free_w wMirror (by simp)).2.2; omega) rfl rfl (by omega) (by omega) (by omega) (by omega) fun H5 s5 => ?_
        refine ⟨A, _, _, rfl, rfl, s5 _ _ (sT _ _ e2), by rw [List.length_map, List.length_append]; simp only [List.length_cons, List.length_nil]; omega, ?_⟩
        refine ⟨_, _, rfl, fun b o e => ?_, ?_⟩
        · rw [upd_ne (ne_of_none e nA)]; exact s5 _ _ (sT b o (s2 b o e))
        · rw [upd_same, txM_next, em, if_pos c, ← List.append_assoc, List.map_append (l₁ := _ ++ _)]; rfl
      · rw [decide_eq_false c]
        refine iteF ⟨_, _, rfl, s2.trans sT, ?_⟩
        rw [txM_next, em, if_neg c, List.append_nil]; exact sT _ _ e2
    · obtain ⟨y3, y4, rfl, s2, e2⟩ := h
      rw [List.length_map] at e2
      dsimp only
      have lM := txM_len ns ns.length
      obtain ⟨ks, ek, hks, hkk⟩ := hB.same s2
      have lks : ks.length ≤ 64 := by rw [← ek, List.length_map] at lps; exact lps
      refine ⟨⟨_, rfl⟩, .ref A, rfl, .ref b, rfl, b, rfl, ⟨_, hks⟩, fun D2 nD2 => ?_⟩
      refine lc_tup (te := teJ K wStep 5 4) (K := K) (a := b) (xs := ks.map fun q => V.ref q.1) (fun i H' => Same H2 H' ∧ H' D2 = some (.lst ((txS ((ks.take i).map (·.2))).map V.str))) ⟨same_upd nD2, upd_same⟩ (fun i H' _ p => sqT_same p.1 hks) (fun i x H' hx p => ?_) fun H4 p => ?_
      · obtain ⟨k, g, rfl⟩ := map_at hx
        have hk : k ∈ ks := List.mem_of_getElem? g
        have hi : i < ks.length := (List.getElem?_eq_some_iff.mp g).1
        obtain ⟨x, y, e, hx1, hy1⟩ := hS.pair k.2 (by rw [← ek]; exact List.mem_map_of_mem hk)
        have hkT : SqT K H' k.1 ([x, y].map V.int) := by rw [← e]; exact sqT_same p.1 (hkk k hk)
        refine ⟨k.1, _, rfl, hkT, rfl, _, _, rfl, _, _, rfl, rfl, rfl, tt_yes ?_⟩
        refine row_join (K := K) (w := wStep) (i := 5) (j := 4) (by have := (free_w wStep (by simp)).2.2; omega) rfl rfl (by omega) (by omega) (by omega) (by omega) fun H5 s5 => ⟨_, s5 _ _ p.2, ?_, fun b o c => ?_, ?_⟩
        · unfold txS
          rw [List.length_map, List.length_map, List.length_map, List.length_map, List.length_take]; omega
        · rw [upd_ne (ne_of_none c nD2)]; exact s5 _ _ (p.1 b o c)
        · rw [upd_same, List.take_add_one, g]
          unfold txS
          rw [List.map_append, List.map_append, List.map_append, List.map_append]
          show _ = some (HO.lst (_ ++ [V.str (Str.join sp1 (rowW wStep k.2))]))
          rw [e]
      rw [List.length_map, List.take_of_length_le (Nat.le_refl _), ek] at p
      obtain ⟨s4, e4⟩ := p
      have lS : (txS ps).length ≤ 64 := by unfold txS; rw [List.length_map, List.length_map]; exact lps
      refine ⟨A, D2, _, _, rfl, rfl, s4 _ _ e2, e4, by rw [List.length_map, List.length_map, List.length_append]; simp only [List.length_cons, List.length_nil]; omega, fun o no => ?_⟩
      have so := same_upd (o := .lst ((([Str.join sp1 [wMarks, num ns.length]] ++ txM ns ns.length).map V.str) ++ (txS ps).map V.str)) no
      have eo : (upd H4 o (.lst ((([Str.join sp1 [wMarks, num ns.length]] ++ txM ns ns.length).map V.str) ++ (txS ps).map V.str))) o = some (.lst (([Str.join sp1 [wMarks, num ns.length]] ++ txM ns ns.length ++ txS ps).map V.str)) := by rw [upd_same, List.map_append (l₁ := _ ++ _)]
      generalize upd H4 o (.lst ((([Str.join sp1 [wMarks, num ns.length]] ++ txM ns ns.length).map V.str) ++ (txS ps).map V.str)) = H5 at so eo ⊢
      refine ⟨nl1, o, _, rfl, rfl, .inl (lstNew eo), ?_, ?_⟩
      · have er : ([Str.join sp1 [wMarks, num ns.length]] ++ txM ns ns.length ++ txS ps) = (rowsT ns ps).map (Str.join sp1) := by
          unfold rowsT txM txS
          rw [List.map_cons, List.map_append]; rfl
        rw [er]
        refine join_room (k := 93) (m := 73) (fun x hx => ?_) (by rw [List.length_map]; exact rows_len hM hS) ?_
        · obtain ⟨r', hr', rfl⟩ := List.mem_map.mp hx
          exact (rows_ok hM hS r' hr').len
        · rw [show nl1.length = 1 by rw [len_tl, tl_nl]; rfl]; decide
      · rw [join_eq, ← text_tx]
        exact q H5 ((s2.trans s4).trans so)
end
end K50
namespace RV
open PySem PySem.Spec PyProof.Rows L2
/-! ### what repr asks of tuples of pairs -/
theorem small_log {i : Int} (h : i.natAbs < 10 ^ 12) : i.natAbs.log2 < 1920 := by
  rcases Nat.eq_zero_or_pos i.natAbs with e | e
  · rw [e]; decide
  · have h1 : i.natAbs < 2 ^ 64 := Nat.lt_of_lt_of_le h (by decide)
    have h2 : i.natAbs.log2 < 64 := (Nat.log2_lt (by omega)).mpr h1
    omega
theorem show_ints : ∀ ns : List Int, (∀ n ∈ ns, n.natAbs < 10 ^ 12) → PyData.showableAll (ns.map PyData.int) = true
  | [], _ => by simp [PyData.showableAll]
  | n :: r, h => by
    have h1 := small_log (h n (List.mem_cons_self ..))
    have h2 := show_ints r fun m hm => h m (List.mem_cons_of_mem _ hm)
    simp [PyData.showableAll, PyData.showable, h1, h2]
theorem show_dIs : ∀ ps : List (List Int), (∀ p ∈ ps, ∀ n ∈ p, n.natAbs < 10 ^ 12) → PyData.showableAll (ps.map dI) = true
  | [], _ => by simp [PyData.showableAll]
  | p :: r, h => by
    have h1 := show_ints p (h p (List.mem_cons_self ..))
    have h2 := show_dIs r fun m hm => h m (List.mem_cons_of_mem _ hm)
    have h3 : (dI p).showable = true := by simp only [dI, PyData.showable]; exact h1
    simp [PyData.showableAll, h3, h2]
theorem short_dIs : ∀ ps : List (List Int), (∀ p ∈ ps, ∀ n ∈ p, n.natAbs < 10 ^ 12) → PyData.intsShortAll 13 (ps.map dI) = true
  | [], _ => by simp [PyData.intsShortAll]
  | p :: r, h => by
    have h1 := PyData.intsShortAll_ints p (h p (List.mem_cons_self ..))
    have h2 := short_dIs r fun m hm => h m (List.mem_cons_of_mem _ hm)
    have h3 : (dI p).intsShort 13 = true := by simp only [dI, PyData.intsShort]; exact h1
    simp [PyData.intsShortAll, h3, h2]
theorem bulk_ints : ∀ ns : List Int, PyData.bulkAll (ns.map PyData.int) = ns.length
  | [] => by simp [PyData.bulkAll]
  | n :: r => by simp [PyData.bulkAll, PyData.bulk, bulk_ints r]; omega
theorem bulk_dIs : ∀ ps : List (List Int), (∀ p ∈ ps, p.length ≤ 2) → PyData.bulkAll (ps.map dI) ≤ 3 * ps.length
  | [], _ => by simp [PyData.bulkAll]
  | p :: r, h => by
    have h1 : (dI p).bulk = p.length := by simp only [dI, PyData.bulk, bulk_ints]
    have h2 := bulk_dIs r fun m hm => h m (List.mem_cons_of_mem _ hm)
    have h3 := h p (List.mem_cons_self ..)
    simp only [List.map_cons, PyData.bulkAll, h1, List.length_cons]
    omega
/-- (ps, os), two tuples of pairs -/
def d2 (ps os : List (List Int)) : PyData := .tuple [dTT ps, dTT os]
theorem pr_small {b : Int} (hb : b ≤ 64) {ps : List (List Int)} (h : ∀ p ∈ ps, Pr b p) : ∀ p ∈ ps, ∀ n ∈ p, n.natAbs < 10 ^ 12 := fun p hp n hn => by
  obtain ⟨x, y, rfl, hx, hy⟩ := h p hp
  simp only [List.mem_cons, List.not_mem_nil, or_false] at hn
  rcases hn with rfl | rfl <;> omega
theorem pr_len {b : Int} {ps : List (List Int)} (h : ∀ p ∈ ps, Pr b p) : ∀ p ∈ ps, p.length ≤ 2 := fun p hp => by
  obtain ⟨x, y, rfl, _⟩ := h p hp
  simp
structure Reprs (ps os : List (List Int)) : Prop where
  h1 : (d2 ps os).showable = true
  h2 : (d2 ps os).hasDict = false
  h3 : (d2 ps os).depth ≤ 64
  h4 : (d2 ps os).shown.length ≤ sizeLine
theorem reprs {b c : Int} (hb : b ≤ 64) (hc : c ≤ 64) {ps os : List (List Int)} (h : ∀ p ∈ ps, Pr b p) (h' : ∀ p ∈ os, Pr c p) (l1 : ps.length ≤ 1000) (l2 : os.length ≤ 1000) : Reprs ps os := by
  have lay : (d2 ps os).canLay0 = true := by
    simp only [d2, dTT, PyData.canLay0, PyData.canLayAll0, lay_dI, Bool.and_self]
  refine ⟨?_, PyData.hasDict_of_canLay _ lay, ?_, ?_⟩
  · simp only [d2, dTT, PyData.showable, PyData.showableAll, show_dIs ps (pr_small hb h), show_dIs os (pr_small hc h'), Bool.and_self]
  · have h1 := dep_dI ps
    have h2 := dep_dI os
    simp only [d2, dTT, PyData.depth, PyData.depthAll]
    omega
  · refine PyData.shown_fits_bulk (B := 13) (by decide) (by decide) (PyData.leavesShort_of_canLay0 13 _ lay ?_) ?_
    · simp only [d2, dTT, PyData.intsShort, PyData.intsShortAll, short_dIs ps (pr_small hb h), short_dIs os (pr_small hc h'), Bool.and_self]
    · have h1 := bulk_dIs ps (pr_len h)
      have h2 := bulk_dIs os (pr_len h')
      simp only [d2, dTT, PyData.bulk, PyData.bulkAll]
      omega
theorem d2_dp {K : PySem.W.Frag} {H : Hp} {T a b : Addr} {ps os : List (List Int)} (h : H T = some (.tup [.ref a, .ref b])) (h1 : Tups K H a ps) (h2 : Tups K H b os) : Dp K H (.ref T) (d2 ps os) :=
  .tup (.inl (.inl h)) (.cons h1.dp (.cons h2.dp .nil))
end RV
namespace RV
open PySem PySem.Spec PyProof.Rows L2
/-- (ns, ps): mirrors and steps -/
def d1 (ns : List Int) (ps : List (List Int)) : PyData := .tuple [dI ns, dTT ps]
structure Shows (d : PyData) : Prop where
  h1 : d.showable = true
  h2 : d.hasDict = false
  h3 : d.depth ≤ 64
  h4 : d.shown.length ≤ sizeLine
theorem shows_d1 {b : Int} (hb : b ≤ 64) {ns : List Int} {ps : List (List Int)} (hn : ∀ n ∈ ns, n.natAbs < 10 ^ 12) (ln : ns.length ≤ 1000) (h : ∀ p ∈ ps, Pr b p) (l1 : ps.length ≤ 1000) : Shows (d1 ns ps) := by
  have lay : (d1 ns ps).canLay0 = true := by
    simp only [d1, dTT, PyData.canLay0, PyData.canLayAll0, lay_dI, dI_lay, Bool.and_self]
  have i1 : (dI ns).showable = true := by simp only [dI, PyData.showable]; exact show_ints ns hn
  have i2 : (dI ns).intsShort 13 = true := by simp only [dI, PyData.intsShort]; exact PyData.intsShortAll_ints ns hn
  have i3 : (dI ns).bulk = ns.length := by simp only [dI, PyData.bulk, bulk_ints]
  refine ⟨?_, PyData.hasDict_of_canLay _ lay, ?_, ?_⟩
  · simp only [d1, dTT, PyData.showable, PyData.showableAll, i1, show_dIs ps (pr_small hb h), Bool.and_self]
  · have h1 := dep_dI ps
    simp only [d1, dTT, PyData.depth, PyData.depthAll, dI_dep]
    omega
  · refine PyData.shown_fits_bulk (B := 13) (by decide) (by decide) (PyData.leavesShort_of_canLay0 13 _ lay ?_) ?_
    · simp only [d1, dTT, PyData.intsShort, PyData.intsShortAll, i2, short_dIs ps (pr_small hb h), Bool.and_self]
    · have h1 := bulk_dIs ps (pr_len h)
      simp only [d1, dTT, PyData.bulk, PyData.bulkAll, i3]
      omega
theorem shows_dI {ns : List Int} (hn : ∀ n ∈ ns, n.natAbs < 10 ^ 12) (ln : ns.length ≤ 1000) : Shows (dI ns) := by
  have i3 : (dI ns).bulk = ns.length := by simp only [dI, PyData.bulk, bulk_ints]
  refine ⟨by simp only [dI, PyData.showable]; exact show_ints ns hn, PyData.hasDict_of_canLay _ (dI_lay ns), by rw [dI_dep]; decide, ?_⟩
  refine PyData.shown_fits_bulk (B := 13) (by decide) (by decide) (PyData.leavesShort_of_canLay0 13 _ (dI_lay ns) ?_) (by rw [i3]; omega)
  simp only [dI, PyData.intsShort]; exact PyData.intsShortAll_ints ns hn
theorem d1_dp {K : PySem.W.Frag} {H : Hp} {T a b : Addr} {ns : List Int} {ps : List (List Int)} (h : H T = some (.tup [.ref a, .ref b])) (h1 : SqT K H a (ns.map V.int)) (h2 : Tups K H b ps) : Dp K H (.ref T) (d1 ns ps) :=
  .tup (.inl (.inl h)) (.cons (dpT h1) (.cons h2.dp .nil))
theorem shaped_d1 (ns : List Int) (ps : List (List Int)) : SeqAt.shaped (d1 ns ps) = true := by
  have h1 := dep_dI ps
  have e : (d1 ns ps).depth ≤ 64 := by simp only [d1, dTT, PyData.depth, PyData.depthAll, dI_dep]; omega
  show ((d1 ns ps).canLay0 && decide ((d1 ns ps).depth ≤ 64)) = true
  rw [decide_eq_true e, Bool.and_true]
  simp only [d1, dTT, PyData.canLay0, PyData.canLayAll0, lay_dI, dI_lay, Bool.and_self]
theorem eqv_d1 (ns ms : List Int) (ps qs : List (List Int)) : PyData.eqv (d1 ns ps) (d1 ms qs) = (decide (ns = ms) && decide (ps = qs)) := by
  simp only [d1, PyData.eqv, PyData.eqvAll, eqvI, eqvTT, Bool.and_true]
end RV
set_option maxHeartbeats 4000000
namespace K50
open PySem PySem.Spec PyProof.Rows L2 RV TL
theorem call_reprS {X : Cx} : CallR X (.builtin "repr") (fun xs H Q => ∃ a, xs = [.str a] ∧ (reprText a).length ≤ sizeLine ∧ Q (.str (reprText a)) H) := by
  intro pins s σ H xs us Q I r h
  obtain ⟨a, rfl, hz, q⟩ := h
  obtain ⟨u, rfl, t, rfl⟩ := vals1 r
  exact PySem.P.repr_of_str ⟨.str _, H, I.tok _, ⟨_, rfl⟩, q⟩ hz
theorem mir_small {ns : List Int} (M : Mir ns) : ∀ n ∈ ns, n.natAbs < 10 ^ 12 := fun n hn => by
  have := M.inn n hn
  have := M.few
  omega
theorem low_w : ∀ w ∈ [wMarks, wMirror, wStep], ∀ c ∈ tl w, c < 256 := by
  intro w hw
  have e1 : tl wMarks = [109, 97, 114, 107, 115] := by unfold wMarks; rw [tl_ofString]; decide
  have e2 : tl wMirror = [109, 105, 114, 114, 111, 114] := by unfold wMirror; rw [tl_ofString]; decide
  have e3 : tl wStep = [115, 116, 101, 112] := by unfold wStep; rw [tl_ofString]; decide
  simp only [List.mem_cons, List.mem_nil_iff, or_false, List.not_mem_nil] at hw
  rcases hw with rfl | rfl | rfl
  · rw [e1]; decide
  · rw [e2]; decide
  · rw [e3]; decide
theorem low_n (n : Nat) : ∀ c ∈ tl (num n), c < 256 := fun c hc => by
  rw [tl_nm] at hc
  have h1 : c ≤ 57 := (numL_digits n c hc).2
  omega
theorem low_join {y : Str} {l : List Str} (hy : ∀ c ∈ tl y, c < 256) (h : ∀ x ∈ l, ∀ c ∈ tl x, c < 256) : ∀ c ∈ tl (Str.join y l), c < 256 := fun c hc => by
  by_cases e : c < 256
  · exact e
  · exact absurd hc (mem_join (fun z => e (hy c z)) fun x hx z => e (h x hx c z))
theorem low_rowW {w : Str} (hw : w ∈ [wMarks, wMirror, wStep]) (p : List Int) : ∀ x ∈ rowW w p, ∀ c ∈ tl x, c < 256 := by
  intro x hx
  rcases List.mem_cons.mp hx with rfl | hx
  · exact low_w _ hw
  · obtain ⟨i, _, rfl⟩ := List.mem_map.mp hx
    exact low_n _
theorem low_text (ns : List Int) (ps : List (List Int)) : ∀ c ∈ tl (textOf ns ps), c < 256 := by
  refine low_join (by rw [tl_nl]; decide) fun x hx => ?_
  obtain ⟨r, hr, rfl⟩ := List.mem_map.mp hx
  refine low_join (by rw [tl_sp]; decide) ?_
  rcases List.mem_cons.mp hr with rfl | hr
  · intro x hx
    rcases List.mem_cons.mp hx with rfl | hx
    · exact low_w _ (by simp)
    · rcases List.mem_singleton.mp hx with rfl
      exact low_n _
  · rcases List.mem_append.mp hr with hr | hr
    · obtain ⟨p, _, rfl⟩ := List.mem_map.mp hr
      exact low_rowW (by simp) p
    · obtain ⟨p, _, rfl⟩ := List.mem_map.mp hr
      exact low_rowW (by simp) p
theorem text_repr {ns : List Int} {ps : List (List Int)} (M : Mir ns) (S : Stp ns ps) : (reprText (textOf ns ps)).length ≤ sizeLine := by
  have h1 := PySem.StrLaws.reprText_len (textOf ns ps) fun c hc => Nat.lt_trans (low_text ns ps c hc) (by decide)
  have h2 := text_len M S
  rw [sizeLine_eq]; omega
section
variable {P : Program} {w : World} {K : PySem.W.Frag} {mg : Str → Option Value} {base : Heap} {t1 t2 t3 : Tok}
/-! ### _law_right -/
abbrev nR : List Str := ["_law_mirrors_here", "_law_steps_here", "_law_rule", "_law_due", "_law_found"]
theorem scR : FnScope nR ["_law_mirrors_here", "_law_steps_here"] (defScope sRight) := ⟨rfl, rfl, rfl, by decide +kernel, rfl, by decide +kernel, by decide +kernel⟩
def spR (K : PySem.W.Frag) : Sp := fun vs H Q _ => ∃ (a b : Addr) (ns : List Int) (ps : List (List Int)), vs = [.ref a, .ref b] ∧ SqT K H a (ns.map V.int) ∧ Tups K H b ps ∧ Mir ns ∧ Stp ns ps ∧ ∀ H', Same H H' → Q (.bl true) H'
theorem ok_right {f fI fRT fSh fRR fE C : Addr} {fd fdI dRT dSh dRR dE : FuncData} (F : Fun K "_law_right" "_law_right" sRight f fd) (T : Txt K mg C) (M : Mk K C fI) (bI : Binds K fdI ["self", "mirrors", "steps"] []) (GI : FnOk P w K mg base CX0 6 fI fdI ["self", "mirrors", "steps"] (spInit K C)) (B : Bare mg)
    (DRT : DefAt K mg "_law_rule_text" sRuleText ["_law_mirrors_here", "_law_steps_here"] fRT dRT) (DSh : DefAt K mg "show_rule" sShow ["rule"] fSh dSh) (GSh : FnOk P w K mg base CX0 2 fSh dSh ["rule"] (spShow K C))
    (DRR : DefAt K mg "read_rule" sReadRule ["text"] fRR dRR) (GRR : FnOk P w K mg base CX0 8 fRR dRR ["text"] (spRR K C))
    (FE : Fun K "__eq__" "Rule.__eq__" sEq fE dE) (bE : Binds K dE ["self", "other"] []) (e1 : PySem.W.findIn K (.ref C) "__eq__" = some (some (.ref fE))) (e2 : PySem.W.isFn K (.ref fE) = true) (e3 : PySem.W.findIn K (.ref C) "__ne__" = some (some (.builtin "object.__ne__"))) :
    FnG P w K mg base CX0 9 f fd ["_law_mirrors_here", "_law_steps_here"] (spR K) := by
  have GRT : FnOk P w K mg base CX0 1 fRT dRT ["_law_mirrors_here", "_law_steps_here"] (spRT K) := ok_rt DRT.fn B
  have GE : FnOk P w K mg base CX0 1 fE dE ["self", "other"] (spEq K C) := ok_eq FE T B
  refine okG F scR (fun vs H Q E h => ?_) (fun cdv A outer s H vs Q E gd hr h => ?_)
  · obtain ⟨a, b, ns, ps, rfl, _⟩ := h
    rfl
  · obtain ⟨a, b, ns, ps, rfl, hA, hB, hM, hS, q⟩ := h
    have hu := un65 hr
    have r1 := hr.mono (show 1 ≤ 8 by decide)
    have r2 := hr.mono (show 2 ≤ 8 by decide)
    have r7 := hr.mono (show 7 ≤ 8 by decide)
    refine ⟨_, pss_cons (ps_par (i := 2) (j := 3) (by rfl) scR.nd rfl rfl (by decide) rfl rfl (pa_cons (pe_make M GI r7 (by rfl) T.mgC bI .nil pass0 (pa_cons (pv 0) (pa_cons (pv 1) pa_nil))) (pa_cons (pe_call GRT r1 (by rfl) DRT.mg DRT.fn.kp DRT.bi .nil pass0 (pa_cons (pv 0) (pa_cons (pv 1) pa_nil))) pa_nil)) (by rfl))
      (pss_cons (ps_if (pt_cmpR op_ne (pe_callB call_reprS (by rfl) B.repr (by decide +kernel) (pa_cons (pe_call GSh r2 (by rfl) DSh.mg DSh.fn.kp DSh.bi .nil pass0 (pa_cons (pv 2) pa_nil)) pa_nil)) (pe_callB call_reprS (by rfl) B.repr (by decide +kernel) (pa_cons (pv 3) pa_nil)) (nomark _)) (pss_one (ps_ret pe_bl)) pss_nil)
      (pss_cons (ps_set (i := 4) scR.nd rfl (Or.inl rfl) (pe_call GRR hr (by rfl) DRR.mg DRR.fn.kp DRR.bi .nil pass0 (pa_cons (pv 3) pa_nil)))
      (pss_cons (ps_if (PW.pt (pw_or (pt_not (pt_val (pe_callB call_isi (by rfl) B.isinstance (by decide +kernel) (pa_cons (pv 4) (pa_cons (pe_glob (v := .ref C) rfl T.mgC rfl) pa_nil))))) (pw_or (pt_cmpR (op_neI GE r2 e3 T.c4 e1 e2 bE pass0) (pv 4) (pv 2) (nomark _))
        (pw_or1 (pt_cmpR op_ne (pe_callB (call_reprD gd hu) (by rfl) B.repr (by decide +kernel) (pa_cons (pe_tup (pa_cons (pe_fld (pv 4) rfl) (pa_cons (pe_fld (pv 4) rfl) pa_nil))) pa_nil)) (pe_callB (call_reprD gd hu) (by rfl) B.repr (by decide +kernel) (pa_cons (pe_tup (pa_cons (pv 0) (pa_cons (pv 1) pa_nil))) pa_nil)) (nomark _)))))) (pss_one (ps_ret pe_bl)) pss_nil)
      (pss_one (ps_ret (pe_and (pe_cmpR op_eq (pe_call GSh r2 (by rfl) DSh.mg DSh.fn.kp DSh.bi .nil pass0 (pa_cons (pv 4) pa_nil)) (pv 3) (nomark _))
        (pe_one (pe_cmpR op_eq (pe_callB (call_reprD gd hu) (by rfl) B.repr (by decide +kernel) (pa_cons (pe_tup (pa_cons (pe_fld (pv 2) rfl) (pa_cons (pe_fld (pv 2) rfl) pa_nil))) pa_nil)) (pe_callB (call_reprD gd hu) (by rfl) B.repr (by decide +kernel) (pa_cons (pe_tup (pa_cons (pv 0) (pa_cons (pv 1) pa_nil))) pa_nil)) (nomark _))))))))), ?_⟩
    have h8 := hM.few
    have prs : ∀ p ∈ ps, Pr (ns.length : Int) p := fun p hp => hS.pair p hp
    have sh := shows_d1 (b := (ns.length : Int)) (by omega) (mir_small hM) (by omega) prs (by have := hS.few; omega)
    have rt := text_repr hM hS
    refine ⟨.ref a, rfl, .ref b, rfl, fun x dx nx nd ne => make_rule hA hB hM hS nx nd ne fun H1 s1 R => ?_⟩
    refine ⟨.ref a, rfl, .ref b, rfl, a, b, ns, ps, rfl, sqT_same s1 hA, hB.same s1, hM, hS, fun H2 s2 => ⟨.ref x, .str (textOf ns ps), rfl, ?_⟩⟩
    dsimp only
    have R2 := R.same s2
    have s02 := s1.trans s2
    -- repr(show_rule(rule)) != repr(due)
    refine ⟨.ref x, rfl, x, ns, ps, rfl, R2, hM, hS, fun H3 s3 => ⟨textOf ns ps, rfl, rt, .str (textOf ns ps), rfl, textOf ns ps, rfl, rt, rfl, _, rfl, iteNS rfl ?_⟩⟩
    unfold tNext
    dsimp only
    have R3 := R2.same s3
    have s03 := s02.trans s3
    -- read_rule
    refine ⟨.str (textOf ns ps), rfl, ns, ps, rfl, hM, hS, fun H4 y s4 Ry => ?_⟩
    refine nx_step ?_
    dsimp only
    have R4 := R3.same s4
    have s04 := s03.trans s4
    obtain ⟨dy, a1, b1, c1, g1, g2, g3, g4⟩ := Ry.ex
    obtain ⟨dx', a2, b2, c2, k1, k2, k3, k4⟩ := R4.ex
    refine ⟨.ref y, rfl, .ref y, .ref C, _, _, true, rfl, .own C, .base (.ins g1 T.cl T.c1 T.c2 T.c3 T.c4), T.c5, true, rfl, iteF ?_⟩
    -- found != rule
    refine ⟨.ref y, rfl, .ref x, rfl, y, x, dy, dx', _, _, rfl, rfl, g1, k1, y, .ref x, ns, ps, rfl, Ry, .inl ⟨x, ns, ps, rfl, R4, true, ?_, false, rfl, iteF ?_⟩⟩
    · rw [decide_eq_true rfl, decide_eq_true rfl]; rfl
    -- repr((found.mirrors, found.steps)) != repr((mirrors, steps))
    refine ⟨.ref y, rfl, y, C, dy, _, _, rfl, g1, T.cl, T.nM, flds_m _ _ _, .ref y, rfl, y, C, dy, _, _, rfl, g1, T.cl, T.nS, flds_s _ _ _, (by show 2 ≤ sizeLine; decide), fun U nU => ?_⟩
    have s5 := same_upd (o := .tup [.ref a1, .ref b1]) nU
    have d5 : Dp K (upd H4 U (.tup [.ref a1, .ref b1])) (.ref U) (RV.d1 ns ps) := d1_dp upd_same (sqT_same s5 g2) (g3.same s5)
    generalize upd H4 U (.tup [.ref a1, .ref b1]) = H5 at s5 d5 ⊢
    refine ⟨U, RV.d1 ns ps, rfl, d5, sh.h1, sh.h2, sh.h3, sh.h4, .ref a, rfl, .ref b, rfl, (by show 2 ≤ sizeLine; decide), fun U2 nU2 => ?_⟩
    have s6 := same_upd (o := .tup [.ref a, .ref b]) nU2
    have s06 := (s04.trans s5).trans s6
    refine ⟨U2, RV.d1 ns ps, rfl, d1_dp upd_same (sqT_same s06 hA) (hB.same s06), sh.h1, sh.h2, sh.h3, sh.h4, rfl, _, rfl, iteNS rfl ?_⟩
    generalize upd H5 U2 (.tup [.ref a, .ref b]) = H6 at s6 s06 ⊢
    dsimp only
    have s46 := s5.trans s6
    have Ry6 := Ry.same s46
    -- show_rule(found) == due
    refine ⟨.ref y, rfl, y, ns, ps, rfl, Ry6, hM, hS, fun H7 s7 => ⟨.str (textOf ns ps), rfl, rfl, true, by rw [decide_eq_true rfl], iteT ?_⟩⟩
    have s47 := s46.trans s7
    have s07 := s06.trans s7
    have k17 := s47 _ _ k1
    refine ⟨.ref x, rfl, x, C, dx', _, _, rfl, k17, T.cl, T.nM, flds_m _ _ _, .ref x, rfl, x, C, dx', _, _, rfl, k17, T.cl, T.nS, flds_s _ _ _, (by show 2 ≤ sizeLine; decide), fun U3 nU3 => ?_⟩
    have s8 := same_upd (o := .tup [.ref a2, .ref b2]) nU3
    have d8 : Dp K (upd H7 U3 (.tup [.ref a2, .ref b2])) (.ref U3) (RV.d1 ns ps) := d1_dp upd_same (sqT_same (s47.trans s8) k2) (k3.same (s47.trans s8))
    generalize upd H7 U3 (.tup [.ref a2, .ref b2]) = H8 at s8 d8 ⊢
    refine ⟨U3, RV.d1 ns ps, rfl, d8, sh.h1, sh.h2, sh.h3, sh.h4, .ref a, rfl, .ref b, rfl, (by show 2 ≤ sizeLine; decide), fun U4 nU4 => ?_⟩
    have s9 := same_upd (o := .tup [.ref a, .ref b]) nU4
    have s09 := (s07.trans s8).trans s9
    refine ⟨U4, RV.d1 ns ps, rfl, d1_dp upd_same (sqT_same s09 hA) (hB.same s09), sh.h1, sh.h2, sh.h3, sh.h4, rfl, ?_⟩
    rw [decide_eq_true rfl]
    exact q _ s09
end
end K50
set_option maxHeartbeats 4000000
namespace K50
open PySem PySem.Spec PyProof.Rows L2 RV TL
def mirB (ns : List Int) : Bool := decide (0 < ns.length) && decide (ns.length ≤ 8) && (List.range ns.length).all fun k => decide (0 ≤ ns.getD k 0) && decide (ns.getD k 0 < (ns.length : Int)) && decide (ns.getD (ns.getD k 0).toNat 0 = (k : Int))
theorem mir_of {ns : List Int} (h : mirB ns = true) : Mir ns := by
  unfold mirB at h
  simp only [Bool.and_eq_true, decide_eq_true_eq, List.all_eq_true, List.mem_range] at h
  obtain ⟨⟨h1, h2⟩, h3⟩ := h
  have at_ : ∀ (k : Nat) (m : Int), ns[k]? = some m → k < ns.length ∧ ns.getD k 0 = m := fun k m e => by
    have hk := (List.getElem?_eq_some_iff.mp e).1
    have := getD_at hk
    rw [e] at this
    exact ⟨hk, (Option.some.inj this).symm⟩
  refine ⟨h1, h2, fun i hi => ?_, fun k m e => ?_⟩
  · obtain ⟨k, hk, e⟩ := List.getElem_of_mem hi
    obtain ⟨z1, z2⟩ := at_ k i (by rw [List.getElem?_eq_getElem hk, e])
    have := h3 k hk
    rw [z2] at this
    exact this.1
  · obtain ⟨hk, e2⟩ := at_ k m e
    obtain ⟨⟨a1, a2⟩, a3⟩ := h3 k hk
    rw [e2] at a1 a2 a3
    rw [getD_at (ns := ns) (i := m.toNat) (by omega), a3]
theorem mir0 : Mir [0] := mir_of (by decide +kernel)
theorem mirA : Mir [1, 0, 3, 2, 5, 4, 7, 6] := mir_of (by decide +kernel)
theorem mirZ : Mir [7, 6, 5, 4, 3, 2, 1, 0] := mir_of (by decide +kernel)
theorem stp_nil (ns : List Int) : Stp ns [] := ⟨by decide, fun _ h => (by cases h), fun _ _ _ h => (by cases h), fun _ _ _ _ h => (by cases h), List.nodup_nil⟩
theorem stp_one0 : Stp [0] [[0, 0]] := by
  refine ⟨by decide, fun p hp => ?_, fun i p q h1 h2 => ?_, fun x y mx my h hx hy => ?_, by decide⟩
  · rcases List.mem_singleton.mp hp with rfl
    exact ⟨0, 0, rfl, by decide, by decide⟩
  · have := (List.getElem?_eq_some_iff.mp h2).1
    simp at this
  · have e := List.mem_singleton.mp h
    cases e
    cases hx
    cases hy
    exact List.mem_singleton.mpr rfl
def fullS (n : Nat) : List (List Int) := gridOf 0 (fun _ _ => true) 8 n
theorem mem_full {x y : Int} : [x, y] ∈ fullS 8 ↔ (0 ≤ x ∧ x < 8) ∧ (0 ≤ y ∧ y < 8) := by
  unfold fullS
  rw [mem_grid]
  constructor
  · rintro ⟨i, j, h1, h2, _, h⟩
    have e1 := (List.cons.inj h).1
    have e2 := (List.cons.inj (List.cons.inj h).2).1
    omega
  · rintro ⟨h1, h2⟩
    refine ⟨x.toNat, y.toNat, by omega, by omega, rfl, ?_⟩
    rw [show (0 : Int) + (x.toNat : Int) = x by omega, show (0 : Int) + (y.toNat : Int) = y by omega]
theorem stp_full {ns : List Int} (M : Mir ns) (h8 : ns.length = 8) : Stp ns (fullS 8) := by
  have pr : ∀ p ∈ fullS 8, Pr 8 p := grid_pr (by decide) (by decide) (by decide)
  have ri : (fullS 8).Pairwise fun p q => cd p < cd q := grid_rise (by decide) (by decide)
  refine ⟨?_, fun p hp => ?_, adj_rise (fun p hp => (pr p hp).mono (by decide)) ri, fun x y mx my h hx hy => ?_, ri.imp fun h e => by rw [e] at h; exact Int.lt_irrefl _ h⟩
  · exact grid_len 0 (fun _ _ => true) 8 8
  · rw [h8]; exact pr p hp
  · have a1 := M.inn mx (List.mem_of_getElem? hx)
    have a2 := M.inn my (List.mem_of_getElem? hy)
    rw [h8] at a1 a2
    exact mem_full.mpr ⟨a2, a1⟩
/-! ### the cases -/
abbrev Cs := Addr × Addr × Addr × List Int × List (List Int)
def CaseAt (K : PySem.W.Frag) (H : Hp) (k : Cs) : Prop := SqT K H k.1 [.ref k.2.1, .ref k.2.2.1] ∧ SqT K H k.2.1 (k.2.2.2.1.map V.int) ∧ Tups K H k.2.2.1 k.2.2.2.2 ∧ Mir k.2.2.2.1 ∧ Stp k.2.2.2.1 k.2.2.2.2
theorem CaseAt.same {K : PySem.W.Frag} {H H' : Hp} {k : Cs} (h : CaseAt K H k) (s : Same H H') : CaseAt K H' k := ⟨sqT_same s h.1, sqT_same s h.2.1, h.2.2.1.same s, h.2.2.2⟩
theorem CaseAt.pail {K : PySem.W.Frag} {H H' : Hp} {p : Addr} {t : Nat} {k : Cs} (h : CaseAt K H k) (hp : PailAt H p t) (b : But p H H') : CaseAt K H' k := ⟨sqT_pail hp b h.1, sqT_pail hp b h.2.1, tups_pail hp b h.2.2.1, h.2.2.2⟩
theorem CaseAt.over {K : PySem.W.Frag} {H : Hp} {D : Addr} {vs : List V} {o' : HO} {k : Cs} (h : CaseAt K H k) (e : H D = some (.lst vs)) : CaseAt K (upd H D o') k := by
  obtain ⟨h1, h2, ⟨ks, e1, e2, e3⟩, h4⟩ := h
  exact ⟨sqT_over e h1, sqT_over e h2, ⟨ks, e1, sqT_over e e2, fun q hq => sqT_over e (e3 q hq)⟩, h4⟩
def Cases (K : PySem.W.Frag) (H : Hp) (l : Addr) (n : Nat) : Prop := ∃ ks : List Cs, H l = some (.lst (ks.map fun k => V.ref k.1)) ∧ ks.length ≤ n ∧ ∀ k ∈ ks, CaseAt K H k
theorem Cases.same {K : PySem.W.Frag} {H H' : Hp} {l : Addr} {n : Nat} (h : Cases K H l n) (s : Same H H') : Cases K H' l n := by
  obtain ⟨ks, h1, h2, h3⟩ := h
  exact ⟨ks, s _ _ h1, h2, fun k hk => (h3 k hk).same s⟩
theorem Cases.pail {K : PySem.W.Frag} {H H' : Hp} {l p : Addr} {n t : Nat} (h : Cases K H l n) (hp : PailAt H p t) (b : But p H H') (ne : l ≠ p) : Cases K H' l n := by
  obtain ⟨ks, h1, h2, h3⟩ := h
  exact ⟨ks, b _ _ h1 ne, h2, fun k hk => (h3 k hk).pail hp b⟩
theorem Cases.put {K : PySem.W.Frag} {H : Hp} {l : Addr} {n : Nat} {ks : List Cs} {k : Cs} (h1 : H l = some (.lst (ks.map fun k => V.ref k.1))) (h2 : ks.length ≤ n) (h3 : ∀ k ∈ ks, CaseAt K H k) (hk : CaseAt K H k) :
    Cases K (upd H l (.lst ((ks.map fun k => V.ref k.1) ++ [.ref k.1]))) l (n + 1) := by
  refine ⟨ks ++ [k], by rw [upd_same, List.map_append]; rfl, by rw [List.length_append]; simp only [List.length_cons, List.length_nil]; omega, fun q hq => CaseAt.over ?_ h1⟩
  rcases List.mem_append.mp hq with z | z
  · exact h3 q z
  · rcases List.mem_singleton.mp z with rfl
    exact hk
theorem Cases.ne {K : PySem.W.Frag} {H : Hp} {l p : Addr} {n : Nat} (h : Cases K H l n) (np : H p = none) : l ≠ p := by
  obtain ⟨ks, h1, _⟩ := h
  exact ne_of_none h1 np
theorem tlp_cat {K : PySem.W.Frag} {H : Hp} {F D : Addr} {Ls : List (List Int)} {js : List (Addr × List Int)} (h : TLp K H F Ls) (e : H D = some (.lst (js.map fun q => V.ref q.1))) (hj : ∀ q ∈ js, H q.1 = some (.tup (q.2.map V.int))) :
    ∃ xs : List V, H F = some (.lst xs) ∧ xs.length = Ls.length ∧ TLp K (upd H F (.lst (xs ++ js.map fun q => V.ref q.1))) F (Ls ++ js.map (·.2)) := by
  obtain ⟨ks, rfl, h2, h3⟩ := h
  refine ⟨_, h2, by rw [List.length_map, List.length_map], ks ++ js, by rw [List.map_append], by rw [upd_same, List.map_append], fun q hq => sqT_over h2 ?_⟩
  rcases List.mem_append.mp hq with z | z
  · exact h3 q z
  · exact tupNew (hj q z)
section
variable {P : Program} {w : World} {K : PySem.W.Frag} {mg : Str → Option Value} {base : Heap}
/-! ### law -/
abbrev nLaw : List Str := ["_law_script", "_law_full", "_law_one", "_law_other", "_law_some", "_law_k", "_law_pail_here", "_law_turn", "_law_mirrors_here", "_law_steps_here"]
theorem scLaw : FnScope nLaw ["_law_script"] (defScope sLaw) := ⟨rfl, rfl, rfl, by decide +kernel, rfl, by decide +kernel, by decide +kernel⟩
def spLaw (K : PySem.W.Frag) : Sp := fun vs H Q _ => ∃ (a : Addr) (ns : List Int), vs = [.ref a] ∧ SqL K H a (ns.map V.int) ∧ ns.length ≤ 63 ∧ ∀ H', Q (.bl true) H'
structure LDefs (K : PySem.W.Frag) (mg : Str → Option Value) (fPa fD fO fDM fDS fR : Addr) (dPa dD dO dDM dDS dR : FuncData) : Prop where
  pail : DefAt K mg "_law_pail" sPail ["_law_script", "_law_at"] fPa dPa
  draw : DefAt K mg "_law_draw" sDraw ["_law_pail_here", "_law_many"] fD dD
  of : DefAt K mg "_law_of" sOf ["_law_pail_here", "_law_some"] fO dO
  mirrors : DefAt K mg "_law_mirrors" sDMirrors ["_law_pail_here", "_law_many"] fDM dDM
  steps : DefAt K mg "_law_steps" sDSteps ["_law_pail_here", "_law_mirrors_here"] fDS dDS
  right : DefAt K mg "_law_right" sRight ["_law_mirrors_here", "_law_steps_here"] fR dR
variable {fPa fD fO fDM fDS fR : Addr} {dPa dD dO dDM dDS dR : FuncData}
theorem ok_law {f : Addr} {fd : FuncData} (F : Fun K "law" "law" sLaw f fd) (B : Bare mg) (L : LDefs K mg fPa fD fO fDM fDS fR dPa dD dO dDM dDS dR) (GR : FnG P w K mg base CX0 9 fR dR ["_law_mirrors_here", "_law_steps_here"] (spR K)) : FnG P w K mg base CX0 10 f fd ["_law_script"] (spLaw K) := by
  have GPa : FnOk P w K mg base CX0 1 fPa dPa ["_law_script", "_law_at"] (spPail K) := ok_pail L.pail.fn B
  have GD : FnOk P w K mg base CX0 1 fD dD ["_law_pail_here", "_law_many"] spDraw := ok_draw L.draw.fn
  have GDM : FnOk P w K mg base CX0 2 fDM dDM ["_law_pail_here", "_law_many"] (spDMirrors K) := ok_dmirrors L.mirrors.fn L.draw B
  have GDS : FnOk P w K mg base CX0 3 fDS dDS ["_law_pail_here", "_law_mirrors_here"] (spDSteps K) := ok_dsteps L.steps.fn L.draw L.of B
  refine okG F scLaw (fun vs H Q E h => ?_) (fun cdv A outer s H vs Q E gd hr h => ?_)
  · obtain ⟨a, ns, rfl, _⟩ := h
    rfl
  · obtain ⟨a, cs, rfl, hS, hlen, q⟩ := h
    have r1 := hr.mono (show 1 ≤ 9 by decide)
    have r2 := hr.mono (show 2 ≤ 9 by decide)
    have r3 := hr.mono (show 3 ≤ 9 by decide)
    refine ⟨_, pss_cons (ps_set (i := 1) scLaw.nd rfl (Or.inl rfl) (pe_lst pa_nil))
      (pss_cons (ps_for PassesOwn.never rfl (pi_range1 (by rfl) B.range (pa_cons pe_int pa_nil)) (pg_name (i := 2) scLaw.nd rfl (Or.inr rfl))
        (pss_one (ps_expr (pe_bm PySem.F.plainAttrs_list PySem.F.slot_list_extend PySem.F.type_list_extend mt_extend (pv 1) (pa_cons (pe_lc (own := [("_law_other", 3)]) (g := gName 3) (tt := tYes) rfl scLaw.nd (pi_range1 (by rfl) B.range (pa_cons pe_int pa_nil)) (blkOk_by (N := nLaw) (sc := defScope sLaw) (by decide +kernel)) (fun _ _ _ _ _ => pg_name (i := 3) scLaw.nd rfl (Or.inl rfl)) (fun _ _ _ _ _ => pts_nil)
          (fun _ _ _ _ _ => pe_tup (pa_cons (pv 2) (pa_cons (pv 3) pa_nil)))) pa_nil)))))
      (pss_cons (ps_set (i := 4) scLaw.nd rfl (Or.inl rfl) (pe_lst (pa_cons (pe_tup (pa_cons (pe_tup (pa_cons pe_int pa_nil)) (pa_cons (pe_tup pa_nil) pa_nil)))
        (pa_cons (pe_tup (pa_cons (pe_tup (pa_cons pe_int pa_nil)) (pa_cons (pe_tup (pa_cons (pe_tup (pa_cons pe_int (pa_cons pe_int pa_nil))) pa_nil)) pa_nil)))
        (pa_cons (pe_tup (pa_cons (pe_tup (pa_cons pe_int (pa_cons pe_int (pa_cons pe_int (pa_cons pe_int (pa_cons pe_int (pa_cons pe_int (pa_cons pe_int (pa_cons pe_int pa_nil))))))))) (pa_cons (pe_tupleOf (by rfl) B.tuple (pv 1)) pa_nil)))
        (pa_cons (pe_tup (pa_cons (pe_tup (pa_cons pe_int (pa_cons pe_int (pa_cons pe_int (pa_cons pe_int (pa_cons pe_int (pa_cons pe_int (pa_cons pe_int (pa_cons pe_int pa_nil))))))))) (pa_cons (pe_tup pa_nil) pa_nil))) pa_nil))))))
      (pss_cons (ps_for PassesOwn.never rfl (pi_range1 (by rfl) B.range (pa_cons (pe_callB (call_max2 rfl) (by rfl) B.max (by decide +kernel) (pa_cons pe_int (pa_cons (pe_callB (call_min2 rfl) (by rfl) B.min (by decide +kernel) (pa_cons pe_int (pa_cons (pe_callB call_len_seq (by rfl) B.len PySem.boot_len (pa_cons (pv 0) pa_nil)) pa_nil))) pa_nil))) pa_nil)) (pg_name (i := 5) scLaw.nd rfl (Or.inl rfl))
        (pss_cons (ps_set (i := 6) scLaw.nd rfl (Or.inl rfl) (pe_call GPa r1 (by rfl) L.pail.mg L.pail.fn.kp L.pail.bi .nil pass0 (pa_cons (pv 0) (pa_cons (pv 5) pa_nil))))
        (pss_one (ps_for PassesOwn.never rfl (pi_range1 (by rfl) B.range (pa_cons pe_int pa_nil)) (pg_name (i := 7) scLaw.nd rfl (Or.inl rfl))
          (pss_cons (ps_set (i := 8) scLaw.nd rfl (Or.inl rfl) (pe_call GDM r2 (by rfl) L.mirrors.mg L.mirrors.fn.kp L.mirrors.bi .nil pass0 (pa_cons (pv 6) (pa_cons (pe_op op_add pe_int (pe_call GD r1 (by rfl) L.draw.mg L.draw.fn.kp L.draw.bi .nil pass0 (pa_cons (pv 6) (pa_cons pe_int pa_nil)))) pa_nil))))
          (pss_one (ps_expr (pe_bm PySem.F.plainAttrs_list PySem.F.slot_list_append PySem.F.type_list_append mt_append (pv 4) (pa_cons (pe_tup (pa_cons (pv 8) (pa_cons (pe_call GDS r3 (by rfl) L.steps.mg L.steps.fn.kp L.steps.bi .nil pass0 (pa_cons (pv 6) (pa_cons (pv 8) pa_nil))) pa_nil))) pa_nil)))))))))
      (pss_one (ps_ret (pe_callB (cr_all rfl) (by rfl) B.all (by decide +kernel) (pa_cons
          (pe_lc (own := [("_law_mirrors_here", 8), ("_law_steps_here", 9)]) (g := gTup K 2 (gCons (gName 8) (gCons (gName 9) gNil))) (tt := tYes) rfl scLaw.nd (pi_list (pv 4)) (blkOk_by (N := nLaw) (sc := defScope sLaw) (by decide +kernel))
          (fun _ _ _ _ _ => pg_tupK rfl rfl (pgs_cons (pg_name (i := 8) scLaw.nd rfl (Or.inl rfl)) (pgs_cons (pg_name (i := 9) scLaw.nd rfl (Or.inl rfl)) pgs_nil))) (fun _ _ _ _ _ => pts_nil)
          (fun _ _ _ _ _ => pe_callG GR gd hr (by rfl) L.right.mg L.right.fn.kp L.right.bi .nil pass0 (pa_cons (pv 8) (pa_cons (pv 9) pa_nil)))) pa_nil))))))), ?_⟩
    have two : (2 : Nat) ≤ sizeLine := by decide
    have z : sizeLine ≥ 100000 := by rw [sizeLine_eq]; decide
    refine ⟨Nat.zero_le _, fun F0 nF => ?_⟩
    refine nx_step ?_
    dsimp only
    refine ⟨8, rfl, by decide, by decide, ?_⟩
    refine for_range (lo := 0) (n := 8) (fun i σ H' => ∃ (y2 : Option V), σ = [some (.ref a), some (.ref F0), y2, none, none, none, none, none, none, none] ∧ Same H H' ∧ TLp K H' F0 (fullS i))
      ⟨none, rfl, same_upd nF, TLp.nil upd_same⟩ (fun i σ H1 hi h => ?_) (fun σ H1 h => ?_)
    · obtain ⟨y2, rfl, s1, hF⟩ := h
      refine nx_step ?_
      dsimp only
      obtain ⟨xs, ex, lx⟩ := hF.len
      refine ⟨.ref F0, rfl, .inl ⟨rfl, _, lstNew ex⟩, 8, rfl, by decide, by decide, fun D nD => ?_⟩
      refine lc_range (lo := 0) (n := 8) (fun j H' => Same H1 H' ∧ ∃ ks : List (Addr × List Int), ks.map (·.2) = rowOf 0 (fun _ _ => true) i j ∧ H' D = some (.lst (ks.map fun q => V.ref q.1)) ∧ ∀ q ∈ ks, H' q.1 = some (.tup (q.2.map V.int)) ∧ q.1 ≠ D)
        ⟨same_upd nD, [], rfl, upd_same, fun _ w => nomatch w⟩ (fun j H' hj p => ?_) fun H2 p => ?_
      · obtain ⟨s', ks, f1, f2, f3⟩ := p
        have lks : ks.length ≤ j := by
          have w := congrArg List.length f1
          rw [List.length_map] at w
          have := row_len 0 (fun _ _ => true) i j
          omega
        refine ⟨rfl, tt_yes ⟨.int (0 + (i : Nat)), rfl, .int (0 + (j : Nat)), rfl, two, fun T nT => ?_⟩⟩
        have sT := same_upd (o := .tup [.int (0 + (i : Nat)), .int (0 + (j : Nat))]) nT
        have hTD : T ≠ D := fun w => by rw [w, f2] at nT; cases nT
        refine ⟨_, sT _ _ f2, by rw [List.length_map]; omega, fun b o w => ?_, ks ++ [(T, [0 + (i : Int), 0 + (j : Int)])], ?_, ?_, fun q hq => ?_⟩
        · rw [upd_ne (ne_of_none w nD)]; exact sT _ _ (s' b o w)
        · rw [List.map_append, f1, row_next, if_pos rfl]; rfl
        · rw [upd_same, List.map_append]; rfl
        · rcases List.mem_append.mp hq with w | w
          · exact ⟨by rw [upd_ne (f3 q w).2]; exact sT _ _ (f3 q w).1, (f3 q w).2⟩
          · rcases List.mem_singleton.mp w with rfl
            exact ⟨by rw [upd_ne hTD, upd_same]; rfl, hTD⟩
      · obtain ⟨s2, js, f1, f2, f3⟩ := p
        obtain ⟨xs', ex', lx', hC⟩ := tlp_cat (hF.same s2) f2 fun q hq => (f3 q hq).1
        have lj : js.length ≤ 8 := by
          have w := congrArg List.length f1
          rw [List.length_map] at w
          have := row_len 0 (fun _ _ => true) i 8
          omega
        have lf := grid_len 0 (fun _ _ => true) 8 i
        refine ⟨F0, D, xs', _, rfl, rfl, ex', f2, by rw [lx', List.length_map]; unfold fullS; omega, ?_⟩
        refine ⟨_, rfl, fun b o w => ?_, ?_⟩
        · rw [upd_ne (ne_of_none w nF)]; exact s2 _ _ (s1 b o w)
        · rw [f1] at hC
          unfold fullS
          rw [grid_next]
          exact hC
    obtain ⟨y2, rfl, s1, hF⟩ := h
    dsimp only
    -- the four by hand
    refine ⟨by show 1 ≤ sizeLine; decide, fun c1 n1 => ?_⟩
    have s1' := same_upd (o := .tup [.int 0]) n1
    have e1 : (upd H1 c1 (.tup [.int 0])) c1 = some (.tup [.int 0]) := upd_same
    generalize upd H1 c1 (.tup [.int 0]) = G1 at s1' e1 ⊢
    refine ⟨by show 0 ≤ sizeLine; decide, fun c2 n2 => ?_⟩
    have s2 := same_upd (o := .tup []) n2
    have e2 : (upd G1 c2 (.tup [])) c2 = some (.tup []) := upd_same
    generalize upd G1 c2 (.tup []) = G2 at s2 e2 ⊢
    refine ⟨by show 2 ≤ sizeLine; decide, fun c3 n3 => ?_⟩
    have s3 := same_upd (o := .tup [.ref c1, .ref c2]) n3
    have e3 : (upd G2 c3 (.tup [.ref c1, .ref c2])) c3 = some (.tup [.ref c1, .ref c2]) := upd_same
    generalize upd G2 c3 (.tup [.ref c1, .ref c2]) = G3 at s3 e3 ⊢
    refine ⟨by show 1 ≤ sizeLine; decide, fun c4 n4 => ?_⟩
    have s4 := same_upd (o := .tup [.int 0]) n4
    have e4 : (upd G3 c4 (.tup [.int 0])) c4 = some (.tup [.int 0]) := upd_same
    generalize upd G3 c4 (.tup [.int 0]) = G4 at s4 e4 ⊢
    refine ⟨by show 2 ≤ sizeLine; decide, fun c5 n5 => ?_⟩
    have s5 := same_upd (o := .tup [.int 0, .int 0]) n5
    have e5 : (upd G4 c5 (.tup [.int 0, .int 0])) c5 = some (.tup [.int 0, .int 0]) := upd_same
    generalize upd G4 c5 (.tup [.int 0, .int 0]) = G5 at s5 e5 ⊢
    refine ⟨by show 1 ≤ sizeLine; decide, fun c6 n6 => ?_⟩
    have s6 := same_upd (o := .tup [.ref c5]) n6
    have e6 : (upd G5 c6 (.tup [.ref c5])) c6 = some (.tup [.ref c5]) := upd_same
    generalize upd G5 c6 (.tup [.ref c5]) = G6 at s6 e6 ⊢
    refine ⟨by show 2 ≤ sizeLine; decide, fun c7 n7 => ?_⟩
    have s7 := same_upd (o := .tup [.ref c4, .ref c6]) n7
    have e7 : (upd G6 c7 (.tup [.ref c4, .ref c6])) c7 = some (.tup [.ref c4, .ref c6]) := upd_same
    generalize upd G6 c7 (.tup [.ref c4, .ref c6]) = G7 at s7 e7 ⊢
    refine ⟨by show 8 ≤ sizeLine; decide, fun c8 n8 => ?_⟩
    have s8 := same_upd (o := .tup [.int 1, .int 0, .int 3, .int 2, .int 5, .int 4, .int 7, .int 6]) n8
    have e8 : (upd G7 c8 (.tup [.int 1, .int 0, .int 3, .int 2, .int 5, .int 4, .int 7, .int 6])) c8 = some (.tup [.int 1, .int 0, .int 3, .int 2, .int 5, .int 4, .int 7, .int 6]) := upd_same
    generalize upd G7 c8 (.tup [.int 1, .int 0, .int 3, .int 2, .int 5, .int 4, .int 7, .int 6]) = G8 at s8 e8 ⊢
    have s08 := (((((((s1.trans s1').trans s2).trans s3).trans s4).trans s5).trans s6).trans s7).trans s8
    have sF := ((((((s1'.trans s2).trans s3).trans s4).trans s5).trans s6).trans s7).trans s8
    obtain ⟨fs, ef, hfs⟩ := (hF.same sF).len
    obtain ⟨ks, ek, hk2, hk3⟩ := hF.same sF
    refine ⟨.ref F0, rfl, .inl ⟨F0, _, rfl, lstNew hk2, fun c9 n9 => ?_⟩⟩
    have s9 := same_upd (o := .tup (ks.map fun q => V.ref q.1)) n9
    have e9 : Tups K (upd G8 c9 (.tup (ks.map fun q => V.ref q.1))) c9 (fullS 8) := ⟨ks, ek, tupNew upd_same, fun q hq => sqT_same s9 (hk3 q hq)⟩
    generalize upd G8 c9 (.tup (ks.map fun q => V.ref q.1)) = G9 at s9 e9 ⊢
    refine ⟨by show 2 ≤ sizeLine; decide, fun c10 n10 => ?_⟩
    have s10 := same_upd (o := .tup [.ref c8, .ref c9]) n10
    have e10 : (upd G9 c10 (.tup [.ref c8, .ref c9])) c10 = some (.tup [.ref c8, .ref c9]) := upd_same
    generalize upd G9 c10 (.tup [.ref c8, .ref c9]) = G10 at s10 e10 ⊢
    refine ⟨by show 8 ≤ sizeLine; decide, fun c11 n11 => ?_⟩
    have s11 := same_upd (o := .tup [.int 7, .int 6, .int 5, .int 4, .int 3, .int 2, .int 1, .int 0]) n11
    have e11 : (upd G10 c11 (.tup [.int 7, .int 6, .int 5, .int 4, .int 3, .int 2, .int 1, .int 0])) c11 = some (.tup [.int 7, .int 6, .int 5, .int 4, .int 3, .int 2, .int 1, .int 0]) := upd_same
    generalize upd G10 c11 (.tup [.int 7, .int 6, .int 5, .int 4, .int 3, .int 2, .int 1, .int 0]) = G11 at s11 e11 ⊢
    refine ⟨by show 0 ≤ sizeLine; decide, fun c12 n12 => ?_⟩
    have s12 := same_upd (o := .tup []) n12
    have e12 : (upd G11 c12 (.tup [])) c12 = some (.tup []) := upd_same
    generalize upd G11 c12 (.tup []) = G12 at s12 e12 ⊢
    refine ⟨by show 2 ≤ sizeLine; decide, fun c13 n13 => ?_⟩
    have s13 := same_upd (o := .tup [.ref c11, .ref c12]) n13
    have e13 : (upd G12 c13 (.tup [.ref c11, .ref c12])) c13 = some (.tup [.ref c11, .ref c12]) := upd_same
    generalize upd G12 c13 (.tup [.ref c11, .ref c12]) = G13 at s13 e13 ⊢
    refine ⟨by show 4 ≤ sizeLine; decide, fun l nl => ?_⟩
    have sl := same_upd (o := .lst [.ref c3, .ref c7, .ref c10, .ref c13]) nl
    have el : (upd G13 l (.lst [.ref c3, .ref c7, .ref c10, .ref c13])) l = some (.lst [.ref c3, .ref c7, .ref c10, .ref c13]) := upd_same
    generalize upd G13 l (.lst [.ref c3, .ref c7, .ref c10, .ref c13]) = G14 at sl el ⊢
    have x13 := s13.trans sl
    have x12 := s12.trans x13
    have x11 := s11.trans x12
    have x10 := s10.trans x11
    have x9 := s9.trans x10
    have x8 := s8.trans x9
    have x7 := s7.trans x8
    have x6 := s6.trans x7
    have x5 := s5.trans x6
    have x4 := s4.trans x5
    have x3 := s3.trans x4
    have x2 := s2.trans x3
    have x0 := s1.trans (s1'.trans x2)
    have C0 : Cases K G14 l 4 := by
      refine ⟨[(c3, c1, c2, [0], []), (c7, c4, c6, [0], [[0, 0]]), (c10, c8, c9, [1, 0, 3, 2, 5, 4, 7, 6], fullS 8), (c13, c11, c12, [7, 6, 5, 4, 3, 2, 1, 0], [])], el, by show 4 ≤ 4; decide, fun k hk => ?_⟩
      simp only [List.mem_cons, List.mem_nil_iff, or_false, List.not_mem_nil] at hk
      rcases hk with rfl | rfl | rfl | rfl
      · exact ⟨tupNew (x4 _ _ e3), tupNew (x2 _ _ e1), ⟨[], rfl, tupNew (x3 _ _ e2), fun _ w => nomatch w⟩, mir0, stp_nil _⟩
      · exact ⟨tupNew (x8 _ _ e7), tupNew (x5 _ _ e4), ⟨[(c5, [0, 0])], rfl, tupNew (x7 _ _ e6), fun q hq => by rcases List.mem_singleton.mp hq with rfl; exact tupNew (x6 _ _ e5)⟩, mir0, stp_one0⟩
      · exact ⟨tupNew (x11 _ _ e10), tupNew (x9 _ _ e8), e9.same x10, mirA, stp_full mirA rfl⟩
      · exact ⟨tupNew (sl _ _ e13), tupNew (x12 _ _ e11), ⟨[], rfl, tupNew (x13 _ _ e12), fun _ w => nomatch w⟩, mirZ, stp_nil _⟩
    refine nx_step ?_
    dsimp only
    have nlH : H l = none := (((((((((((((s1.trans s1').trans s2).trans s3).trans s4).trans s5).trans s6).trans s7).trans s8).trans s9).trans s10).trans s11).trans s12).trans s13).free nl
    clear x2 x3 x4 x5 x6 x7 x8 x9 x10 x11 x12 x13 e1 e2 e3 e4 e5 e6 e7 e8 e9 e10 e11 e12 e13 el sl s2 s3 s4 s5 s6 s7 s8 s9 s10 s11 s12 s13 s1' sF s08 hfs ef hk3 hk2 ek n1 n2 n3 n4 n5 n6 n7 n8 n9 n10 n11 n12 n13 nl
    -- drawn ones
    refine ⟨.ref a, rfl, a, _, rfl, .inl (x0.seq hS), 4, _, rfl, 1, _, rfl, ?_⟩
    have vb : ∀ n : Int, 0 ≤ n → n ≤ 63 → 1 ≤ (if (if n < 4 then n else 4) > 1 then (if n < 4 then n else 4) else 1) ∧ (if (if n < 4 then n else 4) > 1 then (if n < 4 then n else 4) else 1) ≤ 4 := fun n _ _ => by
      split <;> split <;> omega
    have vb1 := vb ((cs.map V.int).length : Int) (by omega) (by rw [List.length_map]; omega)
    refine ⟨_, rfl, by omega, by omega, ?_⟩
    refine for_range (lo := 0) (n := _) (fun i σ H' => (∃ y1 y2 y3 y5 y6 y7 y8 y9 : Option V, σ = [some (.ref a), y1, y2, y3, some (.ref l), y5, y6, y7, y8, y9]) ∧ Same H H' ∧ Cases K H' l (4 + 2 * i))
      ⟨⟨_, _, _, _, _, _, _, _, rfl⟩, x0, C0⟩ ?_ ?_
    · rintro i σ H1 hi ⟨⟨y1, y2, y3, y5, y6, y7, y8, y9, rfl⟩, u1, C1⟩
      have hi4 : i < 4 := by omega
      refine nx_step ?_
      dsimp only
      refine ⟨.ref a, rfl, .int (0 + (i : Nat)), rfl, a, cs, i, by rw [Int.zero_add]; rfl, u1.seq hS, by omega, fun H2 p v2 np hp2 => ?_⟩
      refine nx_step ?_
      dsimp only
      have hlp : l ≠ p := C1.ne np
      refine ⟨2, rfl, by decide, by decide, ?_⟩
      refine for_range (lo := 0) (n := 2) (fun j σ H' => (∃ (y5 y7 y8 y9 : Option V) (t : Nat), σ = [some (.ref a), y1, y2, y3, some (.ref l), y5, some (.ref p), y7, y8, y9] ∧ PailAt H' p t ∧ t ≤ 200 * j) ∧ Same H H' ∧ Cases K H' l (4 + 2 * i + j))
        ⟨⟨_, _, _, _, 0, rfl, hp2, by omega⟩, u1.trans v2, C1.same v2⟩ (fun j σ H3 hj h => ?_) (fun σ H3 h => ?_)
      · obtain ⟨⟨y5, y7, y8, y9, t, rfl, hp3, ht⟩, u3, C3⟩ := h
        have npH : H p = none := u1.free np
        refine nx_step ?_
        dsimp only
        refine ⟨.ref p, rfl, .ref p, rfl, p, t, 8, rfl, hp3, by omega, by decide, by decide, fun m0 t4 H4 m00 m01 ht4 hp4 b4 => ⟨1, m0, rfl, rfl, ?_⟩⟩
        obtain ⟨m, em⟩ : ∃ m : Nat, 1 + m0 = (m : Int) := ⟨(1 + m0).toNat, by omega⟩
        refine ⟨p, t4, m, by rw [← em]; rfl, hp4, by omega, by omega, by omega, fun H5 u t5 ns hp5 ht5 b5 hT5 M => ?_⟩
        refine nx_step ?_
        dsimp only
        have C5 := (C3.pail hp3 b4 hlp).pail hp4 b5 hlp
        have u5 := same_but (same_but u3 npH b4) npH b5
        obtain ⟨ks5, k51, k52, k53⟩ := C5
        refine ⟨.ref l, rfl, .inl ⟨rfl, _, lstNew k51⟩, .ref u, rfl, .ref p, rfl, .ref u, rfl, p, u, t5, ns, rfl, hp5, by omega, hT5, M, fun H6 c t6 ps hp6 ht6 b6 hC6 S => ?_⟩
        refine ⟨two, fun T nT => ?_⟩
        have sT := same_upd (o := .tup [.ref u, .ref c]) nT
        have hT6 := sqT_pail hp5 b6 hT5
        have u6 := (same_but u5 npH b6).trans sT
        have kT : CaseAt K (upd H6 T (.tup [.ref u, .ref c])) (T, u, c, ns, ps) := ⟨tupNew upd_same, sqT_same sT hT6, hC6.tups.same sT, M, S⟩
        have k61 := sT _ _ (b6 _ _ k51 hlp)
        have k63 : ∀ k ∈ ks5, CaseAt K (upd H6 T (.tup [.ref u, .ref c])) k := fun k hk => ((k53 k hk).pail hp5 b6).same sT
        have hp7 := pail_same hp6 sT
        generalize upd H6 T (.tup [.ref u, .ref c]) = H7 at sT u6 kT k61 k63 hp7 ⊢
        refine ⟨l, _, .ref T, rfl, rfl, k61, by rw [List.length_map]; omega, ?_⟩
        refine ⟨⟨_, _, _, _, t6, rfl, pail_set hp7 hlp, by omega⟩, fun b o w => ?_, ?_⟩
        · rw [upd_ne (ne_of_none w nlH)]; exact u6 b o w
        · exact Cases.put k61 k52 k63 kT
      · obtain ⟨⟨y5, y7, y8, y9, t, rfl, hp3, ht⟩, u3, C3⟩ := h
        exact ⟨⟨_, _, _, _, _, _, _, _, rfl⟩, u3, C3⟩
    · rintro σ H1 ⟨⟨y1, y2, y3, y5, y6, y7, y8, y9, rfl⟩, u1, ks, k1, k2, k3⟩
      dsimp only
      have lks : ks.length ≤ 100 := by omega
      refine ⟨.ref l, rfl, l, rfl, ⟨_, lstNew k1⟩, fun D nD => ?_⟩
      refine lc_list (K := K) (a := l) (xs := ks.map fun k => V.ref k.1) (fun i H' => Same H1 H' ∧ H' D = some (.lst (List.replicate i (V.bl true)))) ⟨same_upd nD, upd_same⟩ (fun i H' _ p => lstNew (p.1 _ _ k1)) (fun i x H' hx p => ?_) fun H2 p => ?_
      · obtain ⟨k, g, rfl⟩ := map_at hx
        have hi : i < ks.length := (List.getElem?_eq_some_iff.mp g).1
        obtain ⟨c1, c2, c3, c4, c5⟩ := (k3 k (List.mem_of_getElem? g)).same p.1
        refine ⟨k.1, _, rfl, c1, rfl, _, _, rfl, _, _, rfl, rfl, rfl, tt_yes ⟨.ref k.2.1, rfl, .ref k.2.2.1, rfl, k.2.1, k.2.2.1, k.2.2.2.1, k.2.2.2.2, rfl, c2, c3, c4, c5, fun H3 s3 => ⟨_, s3 _ _ p.2, ?_, ?_, ?_⟩⟩⟩
        · rw [List.length_replicate]; exact few1 (by omega)
        · exact fun c o w => by rw [upd_ne (ne_of_none w nD)]; exact s3 c o (p.1 c o w)
        · rw [upd_same, rep_next]
      · rw [rep_bl] at p
        refine ⟨D, _, rfl, lstNew p.2, ?_⟩
        rw [all_true]
        exact q _
end
end K50
set_option maxHeartbeats 4000000
namespace K50
open PySem PySem.Spec PyProof.Rows L2 RV
theorem def_mk {K : PySem.W.Frag} {h : Heap} {mg : Str → Option Value} {x : Str} {st : Stmt} {ps : List Str} {f : Addr} {oc : Value} {od an : Option Addr} {sl : Array (Option Value)} {kV dc pm cd ct : Value} (X : K.In h) (G : h.Ns mainGlobals mg)
    (a : PySem.W.nsIn K mainGlobals x = some (some (.ref f))) (l : K.lookup f = some ⟨oc, od, .func (PySem.W.fnOf x x (defArgs st) (defBody st) (defScope st) .none kV dc pm an cd ct), sl⟩) (c : PySem.W.codeIn K cd x = true) (k : PySem.W.keepIn K (.ref f) = true)
    (hb : ∀ (kV doc pm : Value) (an : Option Addr) (cdv ct : Value) (us : List Value), us.length = ps.length → bindArgs (PySem.W.fnOf x x (defArgs st) (defBody st) (defScope st) .none kV doc pm an cdv ct) ⟨us, []⟩ = pure (ps.zip us)) :
    DefAt K mg x st ps f (PySem.W.fnOf x x (defArgs st) (defBody st) (defScope st) .none kV dc pm an cd ct) :=
  let F := fun_mk (st := st) l c k
  ⟨F, F.binds hb, PySem.W.mg_of X G a⟩
theorem all_mk {l : PySem.W.OpenLaw} {w : World} {K : PySem.W.Frag} {h : Heap} {mg : Str → Option Value} {fa C f1 f2 f3 f4 f5 f6 f7 f8 f9 f10 f11 f12 f13 f14 f15 f16 f17 f18 f19 f20 f21 f22 f23 f24 f25 f26 f27 f28 : Addr} {tk tk2 tk3 : Tok} (X : K.In h) (G : h.Ns mainGlobals mg) (hfa : mg "law" = some (.ref fa))
    {od1 an1 od2 an2 od3 an3 od4 an4 od5 an5 od6 an6 od7 an7 od8 an8 od9 an9 od10 an10 od11 an11 od12 an12 od13 an13 od14 an14 od15 an15 od16 an16 od17 an17 od18 an18 od19 an19 od20 an20 od21 an21 od22 an22 od23 an23 od24 an24 od25 an25 od26 an26 od27 an27 od28 an28 : Option Addr} {sl1 sl2 sl3 sl4 sl5 sl6 sl7 sl8 sl9 sl10 sl11 sl12 sl13 sl14 sl15 sl16 sl17 sl18 sl19 sl20 sl21 sl22 sl23 sl24 sl25 sl26 sl27 sl28 : Array (Option Value)}
    {oc1 kV1 dc1 pm1 cd1 ct1 oc2 kV2 dc2 pm2 cd2 ct2 oc3 kV3 dc3 pm3 cd3 ct3 oc4 kV4 dc4 pm4 cd4 ct4 oc5 kV5 dc5 pm5 cd5 ct5 oc6 kV6 dc6 pm6 cd6 ct6 oc7 kV7 dc7 pm7 cd7 ct7 oc8 kV8 dc8 pm8 cd8 ct8 oc9 kV9 dc9 pm9 cd9 ct9 oc10 kV10 dc10 pm10 cd10 ct10 oc11 kV11 dc11 pm11 cd11 ct11 oc12 kV12 dc12 pm12 cd12 ct12 oc13 kV13 dc13 pm13 cd13 ct13 oc14 kV14 dc14 pm14 cd14 ct14 oc15 kV15 dc15 pm15 cd15 ct15 oc16 kV16 dc16 pm16 cd16 ct16 oc17 kV17 dc17 pm17 cd17 ct17 oc18 kV18 dc18 pm18 cd18 ct18 oc19 kV19 dc19 pm19 cd19 ct19 oc20 kV20 dc20 pm20 cd20 ct20 oc21 kV21 dc21 pm21 cd21 ct21 oc22 kV22 dc22 pm22 cd22 ct22 oc23 kV23 dc23 pm23 cd23 ct23 oc24 kV24 dc24 pm24 cd24 ct24 oc25 kV25 dc25 pm25 cd25 ct25 oc26 kV26 dc26 pm26 cd26 ct26 oc27 kV27 dc27 pm27 cd27 ct27 oc28 kV28 dc28 pm28 cd28 ct28 : Value}
    (a1 : PySem.W.nsIn K mainGlobals "is_whole" = some (some (.ref f1)))
    (l1 : K.lookup f1 = some ⟨oc1, od1, .func (PySem.W.fnOf "is_whole" "is_whole" (defArgs sWhole) (defBody sWhole) (defScope sWhole) .none kV1 dc1 pm1 an1 cd1 ct1), sl1⟩)
    (c1 : PySem.W.codeIn K cd1 "is_whole" = true)
    (k1 : PySem.W.keepIn K (.ref f1) = true)
    (a2 : PySem.W.nsIn K mainGlobals "is_below" = some (some (.ref f2)))
    (l2 : K.lookup f2 = some ⟨oc2, od2, .func (PySem.W.fnOf "is_below" "is_below" (defArgs sMark) (defBody sMark) (defScope sMark) .none kV2 dc2 pm2 an2 cd2 ct2), sl2⟩)
    (c2 : PySem.W.codeIn K cd2 "is_below" = true)
    (k2 : PySem.W.keepIn K (.ref f2) = true)
    (a3 : PySem.W.nsIn K mainGlobals "are_marks" = some (some (.ref f3)))
    (l3 : K.lookup f3 = some ⟨oc3, od3, .func (PySem.W.fnOf "are_marks" "are_marks" (defArgs sMarks) (defBody sMarks) (defScope sMarks) .none kV3 dc3 pm3 an3 cd3 ct3), sl3⟩)
    (c3 : PySem.W.codeIn K cd3 "are_marks" = true)
    (k3 : PySem.W.keepIn K (.ref f3) = true)
    (a4 : PySem.W.nsIn K mainGlobals "are_mirrors" = some (some (.ref f4)))
    (l4 : K.lookup f4 = some ⟨oc4, od4, .func (PySem.W.fnOf "are_mirrors" "are_mirrors" (defArgs sMirrors) (defBody sMirrors) (defScope sMirrors) .none kV4 dc4 pm4 an4 cd4 ct4), sl4⟩)
    (c4 : PySem.W.codeIn K cd4 "are_mirrors" = true)
    (k4 : PySem.W.keepIn K (.ref f4) = true)
    (a5 : PySem.W.nsIn K mainGlobals "are_steps" = some (some (.ref f5)))
    (l5 : K.lookup f5 = some ⟨oc5, od5, .func (PySem.W.fnOf "are_steps" "are_steps" (defArgs sSteps) (defBody sSteps) (defScope sSteps) .none kV5 dc5 pm5 an5 cd5 ct5), sl5⟩)
    (c5 : PySem.W.codeIn K cd5 "are_steps" = true)
    (k5 : PySem.W.keepIn K (.ref f5) = true)
    (a6 : PySem.W.nsIn K mainGlobals "is_step" = some (some (.ref f6)))
    (l6 : K.lookup f6 = some ⟨oc6, od6, .func (PySem.W.fnOf "is_step" "is_step" (defArgs sStep) (defBody sStep) (defScope sStep) .none kV6 dc6 pm6 an6 cd6 ct6), sl6⟩)
    (c6 : PySem.W.codeIn K cd6 "is_step" = true)
    (k6 : PySem.W.keepIn K (.ref f6) = true)
    (a7 : PySem.W.nsIn K mainGlobals "is_rising" = some (some (.ref f7)))
    (l7 : K.lookup f7 = some ⟨oc7, od7, .func (PySem.W.fnOf "is_rising" "is_rising" (defArgs sRising) (defBody sRising) (defScope sRising) .none kV7 dc7 pm7 an7 cd7 ct7), sl7⟩)
    (c7 : PySem.W.codeIn K cd7 "is_rising" = true)
    (k7 : PySem.W.keepIn K (.ref f7) = true)
    (a8 : PySem.W.nsIn K mainGlobals "marks_behind" = some (some (.ref f8)))
    (l8 : K.lookup f8 = some ⟨oc8, od8, .func (PySem.W.fnOf "marks_behind" "marks_behind" (defArgs sBehind) (defBody sBehind) (defScope sBehind) .none kV8 dc8 pm8 an8 cd8 ct8), sl8⟩)
    (c8 : PySem.W.codeIn K cd8 "marks_behind" = true)
    (k8 : PySem.W.keepIn K (.ref f8) = true)
    (a9 : PySem.W.nsIn K mainGlobals "show_rule" = some (some (.ref f9)))
    (l9 : K.lookup f9 = some ⟨oc9, od9, .func (PySem.W.fnOf "show_rule" "show_rule" (defArgs sShow) (defBody sShow) (defScope sShow) .none kV9 dc9 pm9 an9 cd9 ct9), sl9⟩)
    (c9 : PySem.W.codeIn K cd9 "show_rule" = true)
    (k9 : PySem.W.keepIn K (.ref f9) = true)
    (a10 : PySem.W.nsIn K mainGlobals "number_in" = some (some (.ref f10)))
    (l10 : K.lookup f10 = some ⟨oc10, od10, .func (PySem.W.fnOf "number_in" "number_in" (defArgs sNumIn) (defBody sNumIn) (defScope sNumIn) .none kV10 dc10 pm10 an10 cd10 ct10), sl10⟩)
    (c10 : PySem.W.codeIn K cd10 "number_in" = true)
    (k10 : PySem.W.keepIn K (.ref f10) = true)
    (a11 : PySem.W.nsIn K mainGlobals "numbers_in" = some (some (.ref f11)))
    (l11 : K.lookup f11 = some ⟨oc11, od11, .func (PySem.W.fnOf "numbers_in" "numbers_in" (defArgs sNumsIn) (defBody sNumsIn) (defScope sNumsIn) .none kV11 dc11 pm11 an11 cd11 ct11), sl11⟩)
    (c11 : PySem.W.codeIn K cd11 "numbers_in" = true)
    (k11 : PySem.W.keepIn K (.ref f11) = true)
    (a12 : PySem.W.nsIn K mainGlobals "read_rule" = some (some (.ref f12)))
    (l12 : K.lookup f12 = some ⟨oc12, od12, .func (PySem.W.fnOf "read_rule" "read_rule" (defArgs sReadRule) (defBody sReadRule) (defScope sReadRule) .none kV12 dc12 pm12 an12 cd12 ct12), sl12⟩)
    (c12 : PySem.W.codeIn K cd12 "read_rule" = true)
    (k12 : PySem.W.keepIn K (.ref f12) = true)
    (a13 : PySem.W.nsIn K mainGlobals "first_row" = some (some (.ref f13)))
    (l13 : K.lookup f13 = some ⟨oc13, od13, .func (PySem.W.fnOf "first_row" "first_row" (defArgs sFirstRow) (defBody sFirstRow) (defScope sFirstRow) .none kV13 dc13 pm13 an13 cd13 ct13), sl13⟩)
    (c13 : PySem.W.codeIn K cd13 "first_row" = true)
    (k13 : PySem.W.keepIn K (.ref f13) = true)
    (a14 : PySem.W.nsIn K mainGlobals "can_stand" = some (some (.ref f14)))
    (l14 : K.lookup f14 = some ⟨oc14, od14, .func (PySem.W.fnOf "can_stand" "can_stand" (defArgs sCanStand) (defBody sCanStand) (defScope sCanStand) .none kV14 dc14 pm14 an14 cd14 ct14), sl14⟩)
    (c14 : PySem.W.codeIn K cd14 "can_stand" = true)
    (k14 : PySem.W.keepIn K (.ref f14) = true)
    (a15 : PySem.W.nsIn K mainGlobals "mirrors_by" = some (some (.ref f15)))
    (l15 : K.lookup f15 = some ⟨oc15, od15, .func (PySem.W.fnOf "mirrors_by" "mirrors_by" (defArgs sMirrorsBy) (defBody sMirrorsBy) (defScope sMirrorsBy) .none kV15 dc15 pm15 an15 cd15 ct15), sl15⟩)
    (c15 : PySem.W.codeIn K cd15 "mirrors_by" = true)
    (k15 : PySem.W.keepIn K (.ref f15) = true)
    (a16 : PySem.W.nsIn K mainGlobals "_law_pail" = some (some (.ref f16)))
    (l16 : K.lookup f16 = some ⟨oc16, od16, .func (PySem.W.fnOf "_law_pail" "_law_pail" (defArgs sPail) (defBody sPail) (defScope sPail) .none kV16 dc16 pm16 an16 cd16 ct16), sl16⟩)
    (c16 : PySem.W.codeIn K cd16 "_law_pail" = true)
    (k16 : PySem.W.keepIn K (.ref f16) = true)
    (a17 : PySem.W.nsIn K mainGlobals "_law_draw" = some (some (.ref f17)))
    (l17 : K.lookup f17 = some ⟨oc17, od17, .func (PySem.W.fnOf "_law_draw" "_law_draw" (defArgs sDraw) (defBody sDraw) (defScope sDraw) .none kV17 dc17 pm17 an17 cd17 ct17), sl17⟩)
    (c17 : PySem.W.codeIn K cd17 "_law_draw" = true)
    (k17 : PySem.W.keepIn K (.ref f17) = true)
    (a18 : PySem.W.nsIn K mainGlobals "_law_of" = some (some (.ref f18)))
    (l18 : K.lookup f18 = some ⟨oc18, od18, .func (PySem.W.fnOf "_law_of" "_law_of" (defArgs sOf) (defBody sOf) (defScope sOf) .none kV18 dc18 pm18 an18 cd18 ct18), sl18⟩)
    (c18 : PySem.W.codeIn K cd18 "_law_of" = true)
    (k18 : PySem.W.keepIn K (.ref f18) = true)
    (a19 : PySem.W.nsIn K mainGlobals "_law_mirrors" = some (some (.ref f19)))
    (l19 : K.lookup f19 = some ⟨oc19, od19, .func (PySem.W.fnOf "_law_mirrors" "_law_mirrors" (defArgs sDMirrors) (defBody sDMirrors) (defScope sDMirrors) .none kV19 dc19 pm19 an19 cd19 ct19), sl19⟩)
    (c19 : PySem.W.codeIn K cd19 "_law_mirrors" = true)
    (k19 : PySem.W.keepIn K (.ref f19) = true)
    (a20 : PySem.W.nsIn K mainGlobals "_law_steps" = some (some (.ref f20)))
    (l20 : K.lookup f20 = some ⟨oc20, od20, .func (PySem.W.fnOf "_law_steps" "_law_steps" (defArgs sDSteps) (defBody sDSteps) (defScope sDSteps) .none kV20 dc20 pm20 an20 cd20 ct20), sl20⟩)
    (c20 : PySem.W.codeIn K cd20 "_law_steps" = true)
    (k20 : PySem.W.keepIn K (.ref f20) = true)
    (a21 : PySem.W.nsIn K mainGlobals "_law_rule_text" = some (some (.ref f21)))
    (l21 : K.lookup f21 = some ⟨oc21, od21, .func (PySem.W.fnOf "_law_rule_text" "_law_rule_text" (defArgs sRuleText) (defBody sRuleText) (defScope sRuleText) .none kV21 dc21 pm21 an21 cd21 ct21), sl21⟩)
    (c21 : PySem.W.codeIn K cd21 "_law_rule_text" = true)
    (k21 : PySem.W.keepIn K (.ref f21) = true)
    (a22 : PySem.W.nsIn K mainGlobals "_law_right" = some (some (.ref f22)))
    (l22 : K.lookup f22 = some ⟨oc22, od22, .func (PySem.W.fnOf "_law_right" "_law_right" (defArgs sRight) (defBody sRight) (defScope sRight) .none kV22 dc22 pm22 an22 cd22 ct22), sl22⟩)
    (c22 : PySem.W.codeIn K cd22 "_law_right" = true)
    (k22 : PySem.W.keepIn K (.ref f22) = true)
    (a23 : PySem.W.nsIn K mainGlobals "law" = some (some (.ref f23)))
    (l23 : K.lookup f23 = some ⟨oc23, od23, .func (PySem.W.fnOf "law" "law" (defArgs sLaw) (defBody sLaw) (defScope sLaw) .none kV23 dc23 pm23 an23 cd23 ct23), sl23⟩)
    (c23 : PySem.W.codeIn K cd23 "law" = true)
    (k23 : PySem.W.keepIn K (.ref f23) = true)
    (aC : PySem.W.nsIn K mainGlobals "Rule" = some (some (.ref C)))
    (a24 : PySem.W.findIn K (.ref C) "__init__" = some (some (.ref f24)))
    (i24 : PySem.W.isFn K (.ref f24) = true)
    (l24 : K.lookup f24 = some ⟨oc24, od24, .func (PySem.W.fnOf "__init__" "Rule.__init__" (defArgs sInit) (defBody sInit) (defScope sInit) .none kV24 dc24 pm24 an24 cd24 ct24), sl24⟩)
    (c24 : PySem.W.codeIn K cd24 "Rule.__init__" = true)
    (k24 : PySem.W.keepIn K (.ref f24) = true)
    (a25 : PySem.W.findIn K (.ref C) "marks" = some (some (.ref f25)))
    (i25 : PySem.W.isFn K (.ref f25) = true)
    (l25 : K.lookup f25 = some ⟨oc25, od25, .func (PySem.W.fnOf "marks" "Rule.marks" (defArgs sMarksM) (defBody sMarksM) (defScope sMarksM) .none kV25 dc25 pm25 an25 cd25 ct25), sl25⟩)
    (c25 : PySem.W.codeIn K cd25 "Rule.marks" = true)
    (k25 : PySem.W.keepIn K (.ref f25) = true)
    (a26 : PySem.W.findIn K (.ref C) "mirror" = some (some (.ref f26)))
    (i26 : PySem.W.isFn K (.ref f26) = true)
    (l26 : K.lookup f26 = some ⟨oc26, od26, .func (PySem.W.fnOf "mirror" "Rule.mirror" (defArgs sMirrorM) (defBody sMirrorM) (defScope sMirrorM) .none kV26 dc26 pm26 an26 cd26 ct26), sl26⟩)
    (c26 : PySem.W.codeIn K cd26 "Rule.mirror" = true)
    (k26 : PySem.W.keepIn K (.ref f26) = true)
    (a27 : PySem.W.findIn K (.ref C) "behind" = some (some (.ref f27)))
    (i27 : PySem.W.isFn K (.ref f27) = true)
    (l27 : K.lookup f27 = some ⟨oc27, od27, .func (PySem.W.fnOf "behind" "Rule.behind" (defArgs sBehindM) (defBody sBehindM) (defScope sBehindM) .none kV27 dc27 pm27 an27 cd27 ct27), sl27⟩)
    (c27 : PySem.W.codeIn K cd27 "Rule.behind" = true)
    (k27 : PySem.W.keepIn K (.ref f27) = true)
    (a28 : PySem.W.findIn K (.ref C) "__eq__" = some (some (.ref f28)))
    (i28 : PySem.W.isFn K (.ref f28) = true)
    (l28 : K.lookup f28 = some ⟨oc28, od28, .func (PySem.W.fnOf "__eq__" "Rule.__eq__" (defArgs sEq) (defBody sEq) (defScope sEq) .none kV28 dc28 pm28 an28 cd28 ct28), sl28⟩)
    (c28 : PySem.W.codeIn K cd28 "Rule.__eq__" = true)
    (k28 : PySem.W.keepIn K (.ref f28) = true)
    (pg : PySem.W.plainGet K C Str.empty = true)
    (hd : PySem.W.hasDictIn K C = true)
    (po : PySem.W.plainOver K C = true)
    (sa : PySem.W.findIn K (.ref C) "__setattr__" = some (some (.builtin "object.__setattr__")))
    (mk : PySem.W.makesIn K C = true)
    (kc : PySem.W.keepIn K (.ref C) = true)
    (nM : PySem.W.findIn K (.ref C) "mirrors" = some none)
    (nS : PySem.W.findIn K (.ref C) "steps" = some none)
    (nF : PySem.W.findIn K (.ref C) "followers" = some none)
    (t1 : PySem.W.findIn K (.ref C) "__class__" = some (some (.builtin "object.__class__")))
    (t2 : PySem.W.specialIn K (.builtin "object.__class__") "__get__" = some (some (.builtin "getset_descriptor.__get__")))
    (t3 : PySem.W.takesIn K (.builtin "object.__class__") = some true)
    (t4 : PySem.W.mroIn K C (.type "object") = some true)
    (mM : PySem.W.nsIn K mainGlobals "MOST_MARKS" = some (some (.int 8 tk)))
    (mS : PySem.W.nsIn K mainGlobals "FIGURES" = some (some (.str sFig tk2)))
    (mF : PySem.W.nsIn K mainGlobals "MOST_FIGURES" = some (some (.int 30 tk3)))
    (fNe : PySem.W.findIn K (.ref C) "__ne__" = some (some (.builtin "object.__ne__")))
    (z0 : PySem.W.nsIn K mainGlobals "len" = some none)
    (z1 : PySem.W.nsIn K mainGlobals "isinstance" = some none)
    (z2 : PySem.W.nsIn K mainGlobals "int" = some none)
    (z3 : PySem.W.nsIn K mainGlobals "bool" = some none)
    (z4 : PySem.W.nsIn K mainGlobals "tuple" = some none)
    (z5 : PySem.W.nsIn K mainGlobals "all" = some none)
    (z6 : PySem.W.nsIn K mainGlobals "enumerate" = some none)
    (z7 : PySem.W.nsIn K mainGlobals "zip" = some none)
    (z8 : PySem.W.nsIn K mainGlobals "range" = some none)
    (z9 : PySem.W.nsIn K mainGlobals "list" = some none)
    (z10 : PySem.W.nsIn K mainGlobals "set" = some none)
    (z11 : PySem.W.nsIn K mainGlobals "sorted" = some none)
    (z12 : PySem.W.nsIn K mainGlobals "abs" = some none)
    (z13 : PySem.W.nsIn K mainGlobals "max" = some none)
    (z14 : PySem.W.nsIn K mainGlobals "min" = some none)
    (z15 : PySem.W.nsIn K mainGlobals "repr" = some none)
    (z16 : PySem.W.nsIn K mainGlobals "dict" = some none)
    (z17 : PySem.W.nsIn K mainGlobals "any" = some none)
    (z18 : PySem.W.nsIn K mainGlobals "str" = some none) :
    ∃ fd : FuncData, (∀ (s : Shared) (v : Value), BindsTo s fd ⟨[v], []⟩ [("_law_script", v)]) ∧ ∀ base : Heap, K.In base → base.Ns mainGlobals mg → FnG l.prog w K mg base CX0 10 fa fd ["_law_script"] (spLaw K) := by
  have e := hfa.symm.trans (PySem.W.mg_of X G a23)
  cases e
  have B : Bare mg := ⟨PySem.W.mg_none_of X G z0, PySem.W.mg_none_of X G z1, PySem.W.mg_none_of X G z2, PySem.W.mg_none_of X G z3, PySem.W.mg_none_of X G z4, PySem.W.mg_none_of X G z5, PySem.W.mg_none_of X G z6, PySem.W.mg_none_of X G z7, PySem.W.mg_none_of X G z8, PySem.W.mg_none_of X G z9, PySem.W.mg_none_of X G z10, PySem.W.mg_none_of X G z11, PySem.W.mg_none_of X G z12, PySem.W.mg_none_of X G z13, PySem.W.mg_none_of X G z14, PySem.W.mg_none_of X G z15, PySem.W.mg_none_of X G z16, PySem.W.mg_none_of X G z17, PySem.W.mg_none_of X G z18⟩
  have D1 := def_mk (st := sWhole) (ps := ["thing"]) X G a1 l1 c1 k1 fun _ _ _ _ _ _ us hl => match us, hl with | [_], _ => rfl
  have D2 := def_mk (st := sMark) (ps := ["thing", "many"]) X G a2 l2 c2 k2 fun _ _ _ _ _ _ us hl => match us, hl with | [_, _], _ => rfl
  have D3 := def_mk (st := sMarks) (ps := ["thing", "many"]) X G a3 l3 c3 k3 fun _ _ _ _ _ _ us hl => match us, hl with | [_, _], _ => rfl
  have D4 := def_mk (st := sMirrors) (ps := ["thing"]) X G a4 l4 c4 k4 fun _ _ _ _ _ _ us hl => match us, hl with | [_], _ => rfl
  have D5 := def_mk (st := sSteps) (ps := ["mirrors", "thing"]) X G a5 l5 c5 k5 fun _ _ _ _ _ _ us hl => match us, hl with | [_, _], _ => rfl
  have D6 := def_mk (st := sStep) (ps := ["thing", "many"]) X G a6 l6 c6 k6 fun _ _ _ _ _ _ us hl => match us, hl with | [_, _], _ => rfl
  have D7 := def_mk (st := sRising) (ps := ["pairs"]) X G a7 l7 c7 k7 fun _ _ _ _ _ _ us hl => match us, hl with | [_], _ => rfl
  have D8 := def_mk (st := sBehind) (ps := ["steps", "mark"]) X G a8 l8 c8 k8 fun _ _ _ _ _ _ us hl => match us, hl with | [_, _], _ => rfl
  have D9 := def_mk (st := sShow) (ps := ["rule"]) X G a9 l9 c9 k9 fun _ _ _ _ _ _ us hl => match us, hl with | [_], _ => rfl
  have D10 := def_mk (st := sNumIn) (ps := ["word"]) X G a10 l10 c10 k10 fun _ _ _ _ _ _ us hl => match us, hl with | [_], _ => rfl
  have D11 := def_mk (st := sNumsIn) (ps := ["words"]) X G a11 l11 c11 k11 fun _ _ _ _ _ _ us hl => match us, hl with | [_], _ => rfl
  have D12 := def_mk (st := sReadRule) (ps := ["text"]) X G a12 l12 c12 k12 fun _ _ _ _ _ _ us hl => match us, hl with | [_], _ => rfl
  have D13 := def_mk (st := sFirstRow) (ps := ["words"]) X G a13 l13 c13 k13 fun _ _ _ _ _ _ us hl => match us, hl with | [_], _ => rfl
  have D14 := def_mk (st := sCanStand) (ps := ["many", "pairs", "word", "pair"]) X G a14 l14 c14 k14 fun _ _ _ _ _ _ us hl => match us, hl with | [_, _, _, _], _ => rfl
  have D15 := def_mk (st := sMirrorsBy) (ps := ["many", "pairs"]) X G a15 l15 c15 k15 fun _ _ _ _ _ _ us hl => match us, hl with | [_, _], _ => rfl
  have D16 := def_mk (st := sPail) (ps := ["_law_script", "_law_at"]) X G a16 l16 c16 k16 fun _ _ _ _ _ _ us hl => match us, hl with | [_, _], _ => rfl
  have D17 := def_mk (st := sDraw) (ps := ["_law_pail_here", "_law_many"]) X G a17 l17 c17 k17 fun _ _ _ _ _ _ us hl => match us, hl with | [_, _], _ => rfl
  have D18 := def_mk (st := sOf) (ps := ["_law_pail_here", "_law_some"]) X G a18 l18 c18 k18 fun _ _ _ _ _ _ us hl => match us, hl with | [_, _], _ => rfl
  have D19 := def_mk (st := sDMirrors) (ps := ["_law_pail_here", "_law_many"]) X G a19 l19 c19 k19 fun _ _ _ _ _ _ us hl => match us, hl with | [_, _], _ => rfl
  have D20 := def_mk (st := sDSteps) (ps := ["_law_pail_here", "_law_mirrors_here"]) X G a20 l20 c20 k20 fun _ _ _ _ _ _ us hl => match us, hl with | [_, _], _ => rfl
  have D21 := def_mk (st := sRuleText) (ps := ["_law_mirrors_here", "_law_steps_here"]) X G a21 l21 c21 k21 fun _ _ _ _ _ _ us hl => match us, hl with | [_, _], _ => rfl
  have D22 := def_mk (st := sRight) (ps := ["_law_mirrors_here", "_law_steps_here"]) X G a22 l22 c22 k22 fun _ _ _ _ _ _ us hl => match us, hl with | [_, _], _ => rfl
  have F23 := fun_mk (st := sLaw) l23 c23 k23
  have F24 := fun_mk (st := sInit) l24 c24 k24
  have b24 := F24.binds (ps := ["self", "mirrors", "steps"]) fun _ _ _ _ _ _ us hl => match us, hl with | [_, _, _], _ => rfl
  have F25 := fun_mk (st := sMarksM) l25 c25 k25
  have b25 := F25.binds (ps := ["self"]) fun _ _ _ _ _ _ us hl => match us, hl with | [_], _ => rfl
  have F26 := fun_mk (st := sMirrorM) l26 c26 k26
  have b26 := F26.binds (ps := ["self", "mark"]) fun _ _ _ _ _ _ us hl => match us, hl with | [_, _], _ => rfl
  have F27 := fun_mk (st := sBehindM) l27 c27 k27
  have b27 := F27.binds (ps := ["self", "mark"]) fun _ _ _ _ _ _ us hl => match us, hl with | [_, _], _ => rfl
  have F28 := fun_mk (st := sEq) l28 c28 k28
  have b28 := F28.binds (ps := ["self", "other"]) fun _ _ _ _ _ _ us hl => match us, hl with | [_, _], _ => rfl
  have T : Txt K mg C := ⟨⟨pg, hd, po, sa⟩, nM, nS, nF, PySem.W.mg_of X G aC, t1, t2, t3, t4, kit_self⟩
  have mm := PySem.W.mg_of X G mM
  refine ⟨PySem.W.fnOf "law" "law" (defArgs sLaw) (defBody sLaw) (defScope sLaw) .none kV23 dc23 pm23 an23 cd23 ct23, fun s v => .of_eq rfl, fun base _ _ => ?_⟩
  have G3 : FnOk l.prog w K mg base CX0 3 f3 _ ["thing", "many"] (spMarks K) := ok_marks D3.fn D2 D1 B
  have G4 : FnOk l.prog w K mg base CX0 4 f4 _ ["thing"] (spMirrors K) := ok_mirrors D4.fn D3 G3 B mm
  have G6 : FnOk l.prog w K mg base CX0 4 f6 _ ["thing", "many"] (spStep K) := ok_step D6.fn D3 G3 B
  have G5 : FnOk l.prog w K mg base CX0 5 f5 _ ["mirrors", "thing"] (spSteps K) := ok_steps D5.fn D6 G6 D7 B
  have GI : FnOk l.prog w K mg base CX0 6 f24 _ ["self", "mirrors", "steps"] (spInit K C) := ok_init F24 T D4 G4 D5 G5 D8 B
  have ms := PySem.W.mg_of X G mS
  have mf := PySem.W.mg_of X G mF
  have R : RDefs K mg f10 f11 f13 f14 f15 _ _ _ _ _ := ⟨D10, D11, D13, D14, D15⟩
  have GRR : FnOk l.prog w K mg base CX0 8 f12 _ ["text"] (spRR K C) := ok_rr D12.fn T ⟨mk, a24, i24, kc⟩ b24 GI B R D3 G3 ms mf mm
  have GSh : FnOk l.prog w K mg base CX0 2 f9 _ ["rule"] (spShow K C) := ok_show D9.fn T B F25 b25 ⟨a25, i25, k25⟩
  have GR : FnG l.prog w K mg base CX0 9 f22 _ ["_law_mirrors_here", "_law_steps_here"] (spR K) := ok_right D22.fn T ⟨mk, a24, i24, kc⟩ b24 GI B D21 D9 GSh D12 GRR F28 b28 a28 i28 fNe
  exact ok_law F23 B ⟨D16, D17, D18, D19, D20, D22⟩ GR
end K50
open PySem PySem.W PyProof.Rows
set_option maxRecDepth 100000 in
set_option maxHeartbeats 0 in
theorem PySem.Challenge.cw_ringvouch_k50_rules_written_and_read_holds : PySem.Challenge.rw_ringvouch_k50_rules_written_and_read.Holds := by
  w_on; o_law; k_head; (case hw => w_witness2)
  k_fill
  refine RV.walk_G (l := PySem.Challenge.rw_ringvouch_k50_rules_written_and_read) (n := 63) (k := 10) (x := "_law_script") (sp := fun w => K50.spLaw _) rfl (by decide) rfl ⟨rfl, by decide, by decide⟩ (fun w h Y => PySem.W.kIn_of Y) ?F (fun _ _ a ns hl _ hS => ⟨a, ns, rfl, hS, hl, fun _ => rfl⟩)
  case F =>
    intro w mg fa h KX G hmg
    refine' K50.all_mk KX G hmg ?a1 ?l1 ?c1 ?k1 ?a2 ?l2 ?c2 ?k2 ?a3 ?l3 ?c3 ?k3 ?a4 ?l4 ?c4 ?k4 ?a5 ?l5 ?c5 ?k5 ?a6 ?l6 ?c6 ?k6 ?a7 ?l7 ?c7 ?k7 ?a8 ?l8 ?c8 ?k8 ?a9 ?l9 ?c9 ?k9 ?a10 ?l10 ?c10 ?k10 ?a11 ?l11 ?c11 ?k11 ?a12 ?l12 ?c12 ?k12 ?a13 ?l13 ?c13 ?k13 ?a14 ?l14 ?c14 ?k14 ?a15 ?l15 ?c15 ?k15 ?a16 ?l16 ?c16 ?k16 ?a17 ?l17 ?c17 ?k17 ?a18 ?l18 ?c18 ?k18 ?a19 ?l19 ?c19 ?k19 ?a20 ?l20 ?c20 ?k20 ?a21 ?l21 ?c21 ?k21 ?a22 ?l22 ?c22 ?k22 ?a23 ?l23 ?c23 ?k23 ?aC ?a24 ?i24 ?l24 ?c24 ?k24 ?a25 ?i25 ?l25 ?c25 ?k25 ?a26 ?i26 ?l26 ?c26 ?k26 ?a27 ?i27 ?l27 ?c27 ?k27 ?a28 ?i28 ?l28 ?c28 ?k28 ?pg ?hd ?po ?sa ?mk ?kc ?nM ?nS ?nF ?t1 ?t2 ?t3 ?t4 ?mM ?mS ?mF ?fNe ?z0 ?z1 ?z2 ?z3 ?z4 ?z5 ?z6 ?z7 ?z8 ?z9 ?z10 ?z11 ?z12 ?z13 ?z14 ?z15 ?z16 ?z17 ?z18
    (case a1 => k_is)
    (case l1 => k_is)
    (case c1 => k_is)
    (case k1 => k_is)
    (case a2 => k_is)
    (case l2 => k_is)
    (case c2 => k_is)
    (case k2 => k_is)
    (case a3 => k_is)
    (case l3 => k_is)
    (case c3 => k_is)
    (case k3 => k_is)
    (case a4 => k_is)
    (case l4 => k_is)
    (case c4 => k_is)
    (case k4 => k_is)
    (case a5 => k_is)
    (case l5 => k_is)
    (case c5 => k_is)
    (case k5 => k_is)
    (case a6 => k_is)
    (case l6 => k_is)
    (case c6 => k_is)
    (case k6 => k_is)
    (case a7 => k_is)
    (case l7 => k_is)
    (case c7 => k_is)
    (case k7 => k_is)
    (case a8 => k_is)
    (case l8 => k_is)
    (case c8 => k_is)
    (case k8 => k_is)
    (case a9 => k_is)
    (case l9 => k_is)
    (case c9 => k_is)
    (case k9 => k_is)
    (case a10 => k_is)
    (case l10 => k_is)
    (case c10 => k_is)
    (case k10 => k_is)
    (case a11 => k_is)
    (case l11 => k_is)
    (case c11 => k_is)
    (case k11 => k_is)
    (case a12 => k_is)
    (case l12 => k_is)
    (case c12 => k_is)
    (case k12 => k_is)
    (case a13 => k_is)
    (case l13 => k_is)
    (case c13 => k_is)
    (case k13 => k_is)
    (case a14 => k_is)
    (case l14 => k_is)
    (case c14 => k_is)
    (case k14 => k_is)
    (case a15 => k_is)
    (case l15 => k_is)
    (case c15 => k_is)
    (case k15 => k_is)
    (case a16 => k_is)
    (case l16 => k_is)
    (case c16 => k_is)
    (case k16 => k_is)
    (case a17 => k_is)
    (case l17 => k_is)
    (case c17 => k_is)
    (case k17 => k_is)
    (case a18 => k_is)
    (case l18 => k_is)
    (case c18 => k_is)
    (case k18 => k_is)
    (case a19 => k_is)
    (case l19 => k_is)
    (case c19 => k_is)
    (case k19 => k_is)
    (case a20 => k_is)
    (case l20 => k_is)
    (case c20 => k_is)
    (case k20 => k_is)
    (case a21 => k_is)
    (case l21 => k_is)
    (case c21 => k_is)
    (case k21 => k_is)
    (case a22 => k_is)
    (case l22 => k_is)
    (case c22 => k_is)
    (case k22 => k_is)
    (case a23 => k_is)
    (case l23 => k_is)
    (case c23 => k_is)
    (case k23 => k_is)
    (case aC => k_is)
    (case a24 => k_is)
    (case i24 => k_is)
    (case l24 => k_is)
    (case c24 => k_is)
    (case k24 => k_is)
    (case a25 => k_is)
    (case i25 => k_is)
    (case l25 => k_is)
    (case c25 => k_is)
    (case k25 => k_is)
    (case a26 => k_is)
    (case i26 => k_is)
    (case l26 => k_is)
    (case c26 => k_is)
    (case k26 => k_is)
    (case a27 => k_is)
    (case i27 => k_is)
    (case l27 => k_is)
    (case c27 => k_is)
    (case k27 => k_is)
    (case a28 => k_is)
    (case i28 => k_is)
    (case l28 => k_is)
    (case c28 => k_is)
    (case k28 => k_is)
    (case pg => k_is)
    (case hd => k_is)
    (case po => k_is)
    (case sa => k_is)
    (case mk => k_is)
    (case kc => k_is)
    (case nM => k_is)
    (case nS => k_is)
    (case nF => k_is)
    (case t1 => k_is)
    (case t2 => k_is)
    (case t3 => k_is)
    (case t4 => k_is)
    (case mM => k_is)
    (case mS => k_is)
    (case mF => k_is)
    (case fNe => k_is)
    (case z0 => k_is)
    (case z1 => k_is)
    (case z2 => k_is)
    (case z3 => k_is)
    (case z4 => k_is)
    (case z5 => k_is)
    (case z6 => k_is)
    (case z7 => k_is)
    (case z8 => k_is)
    (case z9 => k_is)
    (case z10 => k_is)
    (case z11 => k_is)
    (case z12 => k_is)
    (case z13 => k_is)
    (case z14 => k_is)
    (case z15 => k_is)
    (case z16 => k_is)
    (case z17 => k_is)
    (case z18 => k_is)
