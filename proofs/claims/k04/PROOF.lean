import PyProof.Rows.All
import Wide.All
import OpenK.AllK
import Wide.FinOn
import HandS.ForMost
import KE.GoesEnum
import HandS.Style
import KE.KRevSl
import PyProof.ReprRoads
import HandS.OwnEq
import PyProof.InstNe
import HandS.TupSets
import HandS.IsInst
import HandS.Walk
import HandS.Zip
import HandS.TupAny
import HandS.Deep
import HandS.Conv
import HandS.More
import HandS.Wide
import HandS.SortRule
import HandS.SortOrd
import KE.KDictSum
import HandS.TupMul
import PyProof.AutoSeq1
import KE.KDictZip
import KE.KItemsList
import KE.GoesMore
import HandS.ListItems
import HandS.Rev
import HandS.Strs
import HandS.SetBool
import KE.DataMinMax
import HandS.NamedTupSort
import PyProof.ReprBulk
import HandS.RaiseMore
import HandS.Dict
import HandS.WordsDict
import HandS.Text
import PySem.Challenge.RW_ringvouch_k04_rings_or_not
set_option Elab.async false
set_option linter.all false
set_option maxRecDepth 100000
namespace RV
open PySem PySem.Spec PyProof.Rows L2
set_option maxHeartbeats 4000000 in
theorem meets_en1 {val : Value} {ob : Obj} {HH : Heap → Prop} (B : Begins val ob HH) :
    Meets (Builtin.«enumerate.__new__» ⟨[.type "enumerate", val], []⟩) (fun _ R st => HH st.heap ∧
      R (.ok (.ret (.ref (st.heap.push ob).objs.size)))
        { st with heap := (st.heap.push ob).push { cls := .type "enumerate", data := .fields #[.none, .bool false, .ref st.heap.objs.size, rawInt 0, .none, .none] } }) :=
  .of_wp fun prog w A R st hyp => by
    obtain ⟨hp, gs, dr, tk, os⟩ := st
    obtain ⟨hyp1, hyp2⟩ := hyp
    have hsub := sub_enumerate
    have it1 : ∀ {A' : Around} {E : Value → Shared → Prop} {Q : Value → Shared → Prop}, Q (.ref hp.objs.size) ⟨hp.push ob, gs, dr, tk, os⟩ →
        wpAny (model prog w) A' (pyIter val) Q E ⟨hp, gs, dr, tk, os⟩ := fun q => B.iter prog w _ _ ⟨hp, gs, dr, tk, os⟩ _ hyp1 q
    wp_walk using it1
    refine wpAny_stack_any fun sk => wpAny_pure ?_
    split
    · rename_i cc _ _ _ _ _
      cases (cc == Value.type "enumerate") <;> (wp_walk using it1; exact ⟨_, rfl, hyp2⟩)
    · wp_walk using it1
      exact ⟨_, rfl, hyp2⟩
section
variable {prog : Program} {w : World} {A : Around} {E : Value → Shared → Prop} {s : Shared}
theorem call_en1 {val : Value} {ob : Obj} {HH : Heap → Prop} {Q : Value → Shared → Prop} (B : Begins val ob HH) (hh : HH s.heap)
    (k : ∀ h', IsEnum h' (s.heap.objs.size + 1) s.heap.objs.size 0 .none → h'.get? s.heap.objs.size = some ob → h'.objs.size = s.heap.objs.size + 2 →
      (∀ b o, s.heap.get? b = some o → h'.get? b = some o) → Q (.ref (s.heap.objs.size + 1)) { s with heap := h' }) :
    wpAny (model prog w) A (call (.type "enumerate") [val]) Q E s := by
  refine callType_new F.called_enumerate (by decide) (F.typeCall_enumerate_1 _) (F.newCall_enumerate_1 _) (fun oo => F.args_object_init_2 oo _) F.entry_enumerate_new (meets_en1 B) ⟨hh, ?_⟩
  have z1 : (s.heap.push ob).objs.size = s.heap.objs.size + 1 := Heap.size_push ..
  show _ ∧ _
  rw [z1]
  have z2 : IsEnum ((s.heap.push ob).push { cls := .type "enumerate", data := .fields #[.none, .bool false, .ref s.heap.objs.size, rawInt 0, .none, .none] }) (s.heap.objs.size + 1) s.heap.objs.size 0 .none := by
    have z3 := Heap.get?_push_size (s.heap.push ob) (o := { cls := .type "enumerate", data := .fields #[.none, .bool false, .ref s.heap.objs.size, rawInt 0, .none, .none] }) rfl
    rw [z1] at z3; exact z3
  refine ⟨⟨_, z2, rfl⟩, k _ z2 (Heap.get?_push_of_some _ (Heap.get?_push_size _ B.free)) (by rw [Heap.size_push, z1]) fun b o x => ?_⟩
  exact Heap.get?_push_of_some _ (Heap.get?_push_of_some _ x)
end
/-- enumerate of a tuple: the items in new pairs -/
def IteT (K : PySem.W.Frag) (a : Addr) : It where
  go i H := ∃ (xs : List V) (x : V), SqT K H a xs ∧ xs[i]? = some x
  yld i H v H' := ∃ T x, v = .ref T ∧ H T = none ∧ H' = upd H T (.tup [.int (i : Nat), x]) ∧ ∀ xs, SqT K H a xs → xs[i]? = some x
  stop i H := ∃ xs : List V, SqT K H a xs ∧ xs.length ≤ i
theorem turn_enT {P : Program} {w : World} {K : PySem.W.Frag} {elts : List Expr} {kk : Nat} {tpos : Pos} (a e it : Addr) :
    Turn P w K (.Tuple elts kk tpos) (IteT K a) [e, it] e (fun i h => (∃ old, IsEnum h e it ((i : Nat) : Int) old) ∧ h.IsTupleIter it a i ∧ e ≠ it ∧ a ≠ it ∧ a ≠ e) where
  mem := by simp
  obj := fun i h st b hb => by
    obtain ⟨⟨old, he⟩, ⟨o, ho, hc, hd⟩, _, _⟩ := st
    have eb : b = e ∨ b = it := by simpa using hb
    rcases eb with rfl | rfl
    · exact ⟨_, he, fun v q => nomatch q⟩
    · exact ⟨o, ho, fun v q => by rw [hd] at q; cases q⟩
  keep := fun i h h' st k => let ⟨⟨old, he⟩, hi, hne⟩ := st; ⟨⟨old, k e (by simp) _ he⟩, hi.at fun o q => k it (by simp) o q, hne⟩
  item := by
    intro X hP hw hK hc i pins s σ H E I hf st hg
    subst hP hw hK
    obtain ⟨⟨old, he⟩, hit, hne, hai, hae⟩ := st
    obtain ⟨xs, x, hq, hx⟩ := hg
    obtain ⟨its, rv, p, hz⟩ := I.tuple hq
    obtain ⟨u, hu, ru⟩ := rv.get hx
    have hel : e < s.heap.objs.size := Heap.lt_size he
    have hil : it < s.heap.objs.size := by obtain ⟨_, q, _⟩ := hit; exact Heap.lt_size q
    have hi : i < its.toArray.size := by
      have := (List.getElem?_eq_some_iff.mp hu).1
      simpa using this
    refine wpAny_pyNext_enum_itemD (A := X.A) (Draws.tuple (A := X.A.in1) (show X.A.in1.handled = none from I.ok.hd hc) it a hai its.toArray) he ⟨hit, p⟩ hi hne (by simp [hne, Ne.symm hae]) fun y h' tk hy ho hst hT hsz hk => ?_
    have hyu : y = u := by
      have e1 : its[i]? = some y := by simpa using hy
      rw [hu] at e1
      exact (Option.some.inj e1).symm
    subst hyu
    refine ⟨_, rfl, wpAny_letOwnedTupleGo_enum (s := { s with heap := h', toks := tk + 1 }) ho fun h'' he' sb => ?_⟩
    have hT2 : h''.get? s.heap.objs.size = some { cls := .type "tuple", data := .seq #[.int i tk, y] } := (sb.2 _ (Nat.ne_of_gt hel)).trans hT
    have new : ObjOk X.prog X.w (upd H s.heap.objs.size (.tup [.int (i : Nat), x])) h'' s.heap.objs.size (.tup [.int (i : Nat), x]) :=
      ⟨by show 2 ≤ sizeLine; decide, [.int i tk, y], .cons ⟨_, rfl⟩ (.cons ru .nil), ⟨_, hT2, rfl, _, rfl⟩⟩
    have I1 : Inv X pins σ (upd H s.heap.objs.size (.tup [.int (i : Nat), x])) { s with heap := h'', toks := tk + 1 } := by
      refine I.turnedNew (ch := [e, it]) (fun b ob hb q => ?_) hf (Nat.le_refl _) new
      exact (sb.2 b (fun z => hb (by simp [z]))).trans (hk b ob (fun z => hb (by simp [z])) (fun z => hb (by simp [z])) q)
    refine ⟨.ref s.heap.objs.size, _, I1, rfl, ⟨_, x, rfl, I.hok.fresh (Nat.le_refl _), rfl, fun ys hy => ?_⟩, ⟨⟨y, ?_⟩, hst.1.at fun o q => (sb.2 it (Ne.symm hne)).trans q, hne, hai, hae⟩, fun b hb => ?_⟩
    · rw [I.tuple_inj hy hq]; exact hx
    · rw [show ((i + 1 : Nat) : Int) = (i : Int) + 1 by omega]; exact he'
    · have eb : b = e ∨ b = it := by simpa using hb
      have hb' : b < s.heap.objs.size := by
        rcases eb with z | z <;> rw [z] <;> assumption
      rw [upd_ne (Nat.ne_of_lt hb')]
      exact (hf b hb).1
  done := by
    intro X hP hw hK hc i pins s σ H E I hf st hg
    subst hP hw hK
    obtain ⟨⟨old, he⟩, hit, hne, hai, hae⟩ := st
    obtain ⟨xs, hq, hx⟩ := hg
    obtain ⟨its, rv, p, hz⟩ := I.tuple hq
    obtain ⟨f0, f1, f2, f3, f4, f5⟩ := hf it (by simp)
    have hl := rv.length
    have hT : s.TypeIs (.ref e) "enumerate" := ⟨_, he, rfl⟩
    unfold pyNext
    refine wpAny_bind (wpAny_attempt (wpAny_callSpecial?_slot (name := Str.ofString "__next__") hT F.slot_enumerate_next (wpAny_call_entry F.slot_enumerate_next hT F.entry_enumerate_next ?_ (F.args_enumerate_next_1 _))))
    show wpAny _ _ (field (.ref e) 2 >>= _) _ _ _
    refine wpAny_bind (wpAny_field he rfl (x := .ref it) rfl ?_)
    refine wpAny_bind (wpAny_nextOf_tuple_end (I.ok.hd hc) hit p (by simp; omega) fun h' x he' hx' => ?_)
    obtain ⟨o, ho, hco⟩ := hx'
    refine wpAny_bind (wpAny_isInstance (T := "StopIteration") (b := true) ⟨o, ho, hco⟩ isSubtype_stop ?_)
    exact wpAny_pure ⟨rfl, I.turned (t' := s.toks) (fun b o hb q => he' b o hb q) f0 f1 f3 f4 f5⟩
  self := fun A i s Q E st h => let ⟨⟨_, he⟩, _⟩ := st; wpAny_pyIter_enum he h
def iEnT (K : PySem.W.Frag) (ta : TA) : TI := fun σ H R => ta σ H fun vs H1 => ∃ a xs, vs = [.ref a] ∧ SqT K H1 a xs ∧ R (IteT K a) H1
theorem pi_enT {X : Cx} {e : Expr} {ta : TA} {p pos tpos : Pos} {elts : List Expr} {kk : Nat} (hg : Gl X "enumerate") (hm : X.mg "enumerate" = none) (ha : PA X [e] ta)
    (hs : starEach [e] X.env = [(false, eval e X.env)] := by rfl) : PI X (.Tuple elts kk tpos) (.Call (.Name "enumerate" p) [e] [] pos) (iEnT X.K ta) := by
  refine ⟨fun pins s σ H R I h => Call_ (ld_blt I hg hm boot_enumerate (PyProof.Rows.callWith_type1 (thn (ha.run pos pins s σ H _ I h) fun us s1 ⟨vs, H1, I1, r1, q1⟩ => ?_) hs rfl))⟩
  obtain ⟨a, xs, ex, hq, q⟩ := q1
  subst ex
  cases r1 with
  | cons r rr =>
    cases rr
    cases r
    obtain ⟨its, rv, p', hz⟩ := I1.tuple hq
    have ha0 : a < s1.heap.objs.size := by
      obtain ⟨o, ho, _⟩ := p'
      exact Heap.lt_size ho
    refine call_en1 (begins_tuple a its.toArray) p' fun h' he hit hsz hk => wpAny_pyIter_enum he ?_
    have I2 : Inv X pins σ H1 { s1 with heap := h' } := I1.kept (t' := s1.toks) hk
    refine ⟨s1.heap.objs.size + 1, [s1.heap.objs.size + 1, s1.heap.objs.size], _, _, H1, rfl, I2, turn_enT a (s1.heap.objs.size + 1) s1.heap.objs.size,
      ⟨⟨.none, he⟩, ⟨_, hit, rfl, rfl⟩, Nat.succ_ne_self _, Nat.ne_of_lt ha0, Nat.ne_of_lt (Nat.lt_succ_of_lt ha0)⟩, fun b hb => ?_, q⟩
    have eb : b = s1.heap.objs.size + 1 ∨ b = s1.heap.objs.size := by simpa using hb
    have hle : s1.heap.objs.size ≤ b := by
      rcases eb with z | z
      · rw [z]; exact Nat.le_add_right _ _
      · rw [z]; exact Nat.le_refl _
    exact I1.fpOk hle (I1.hok.fresh hle)
end RV
set_option maxHeartbeats 4000000
namespace RV
open PySem PySem.Spec PyProof.Rows L2 HT
theorem back_places (n : Nat) : Builtin.Slice.slicePlaces ((n : Int) - 1) (-1) (-1) = n := by
  unfold Builtin.Slice.slicePlaces
  rw [if_neg (show ¬ ((-1 : Int) > 0) by decide)]
  by_cases hn : (n : Int) - 1 > -1
  · rw [if_pos hn, show (- -1 : Int) = 1 from rfl, Int.ediv_one]; omega
  · rw [if_neg hn]; omega
theorem back_pick (xs : Array Value) : ((List.range xs.size).filterMap fun (m : Nat) => xs[((xs.size : Int) - 1 + (m : Int) * (-1)).toNat]?).toArray = xs.toList.reverse.toArray := by
  have e0 : ∀ (l : List Nat), (∀ m ∈ l, m < xs.size) → l.filterMap (fun (m : Nat) => xs[((xs.size : Int) - 1 + (m : Int) * (-1)).toNat]?) = (l.map fun k => xs.size - 1 - k).filterMap (xs[·]?) := by
    intro l
    induction l with
    | nil => intro _; rfl
    | cons m r ih =>
      intro hm
      have h1 := hm m (List.mem_cons_self ..)
      have h2 := ih fun z hz => hm z (List.mem_cons_of_mem _ hz)
      rw [List.map_cons, List.filterMap_cons, List.filterMap_cons, h2, show ((xs.size : Int) - 1 + (m : Int) * (-1)).toNat = xs.size - 1 - m by omega]
  have e1 := e0 (List.range xs.size) fun m hm => List.mem_range.mp hm
  rw [e1, PySem.W.krv_range, List.filterMap_reverse, PySem.W.krv_all]
section
variable {prog : Program} {w : World} {A : Around} {E : Value → Shared → Prop} {s : Shared}
theorem applied_back {sl : Addr} {vl vu vs : Value} {n : Nat} {Q : Int × Int × Nat → Shared → Prop} (hs : s.heap.IsSliceOf sl vl vu vs) (pl : IsPart vl none) (pu : IsPart vu none) (ps : IsPart vs (some (-1)))
    (k : Q ((n : Int) - 1, -1, n) s) : wpAny (model prog w) A (Builtin.Slice.sliceApplied (.ref sl) (pure (n : Int))) Q E s := by
  obtain ⟨os, o1, o2, o3⟩ := id hs
  unfold Builtin.Slice.sliceApplied Builtin.Slice.sliceFields
  refine wpAny_bind (wpAny_bind (wpAny_field o1 o3 (x := vl) rfl (wpAny_bind (wpAny_field o1 o3 (x := vu) rfl (wpAny_bind (wpAny_field o1 o3 (x := vs) rfl (wpAny_pure ?_)))))))
  refine wpAny_bind (slicePart_ ps ?_)
  show wpAny _ _ (if ((-1 : Int) == 0) = true then _ else _) _ _ s
  rw [if_neg (by decide)]
  refine wpAny_bind (slicePart_ pl (wpAny_bind (slicePart_ pu (wpAny_bind (wpAny_pure ?_)))))
  show wpAny _ _ (pure ((n : Int) - 1, (-1 : Int), Builtin.Slice.slicePlaces ((n : Int) - 1) (-1) (-1))) _ _ s
  rw [back_places]
  exact wpAny_pure k
theorem item_back {t sl : Addr} {items : Array Value} {vl vu vs : Value} {Q : Value → Shared → Prop} (ht : IsTup s.heap t items) (hs : s.heap.IsSliceOf sl vl vu vs) (pl : IsPart vl none) (pu : IsPart vu none) (ps : IsPart vs (some (-1)))
    (k : Q (.ref s.heap.objs.size) { s with heap := s.heap.push { cls := .type "tuple", data := .seq items.toList.reverse.toArray } })
    (hsz : items.size ≤ sizeLine) : wpAny (model prog w) A (getItem (.ref t) (.ref sl)) Q E s := by
  have hok : sizeOk (.seq items.toList.reverse.toArray) := by
    show items.toList.reverse.toArray.size ≤ sizeLine
    simpa using hsz
  obtain ⟨os, o1, o2, o3⟩ := id hs
  have hTs : s.TypeIs (.ref sl) "slice" := ⟨os, o1, o2⟩
  unfold getItem
  try with_reducible refine wpAny_holding ?_
  first | refine wpAny_bind (wpAny_pure ?_) | skip
  refine wpAny_bind (wpAny_sequenceKey ht.typeIs (by decide) ?_)
  refine wpAny_bind (wpAny_callSpecial?_slot (name := Str.ofString "__getitem__") ht.typeIs PyProof.Rows.slot_tuple_getitem (wpAny_call_entry PyProof.Rows.slot_tuple_getitem ht.typeIs entry_tuple_getitem ?_ (args_tuple_getitem _ _)))
  show wpAny _ _ (Builtin.Tuple.tupleItemsOf (.ref t) >>= _) _ _ s
  refine wpAny_bind (tupleItemsOf_ ht (wpAny_bind (wpAny_typeOf hTs ?_)))
  rw [if_pos (by decide)]
  refine wpAny_bind (applied_back hs pl pu ps ?_)
  show wpAny _ _ (if (((items.size : Int) - 1) == 0 && (-1 : Int) == 1 && items.size == items.size) = true then _ else _) _ _ s
  rw [if_neg (by simp), back_pick]
  first
    | exact wpAny_bind (m := Builtin.Tuple.tupleExact _) (wpAny_newObj_type (wpAny_pure ⟨_, rfl, wpAny_pure k⟩) hok)
    | exact wpAny_bind (wpAny_bind (m := Builtin.Tuple.tupleExact _) (wpAny_newObj_type (wpAny_pure (wpAny_pure ⟨_, rfl, wpAny_pure k⟩)) hok))
    | exact wpAny_bind (wpAny_bind (m := Builtin.Tuple.tupleExact _) (wpAny_newObj_type (wpAny_pure ⟨_, rfl, wpAny_pure k⟩) hok))
    | exact wpAny_bind (m := Builtin.Tuple.tupleExact _) (wpAny_newObj_type (wpAny_bind (wpAny_pure (wpAny_pure ⟨_, rfl, wpAny_pure k⟩))) hok)
end
section
variable {X : Cx}
/-- t[::-1] of a tuple -/
def tBackT (K : PySem.W.Frag) (te : TE) : TE := fun σ H Q => te σ H fun x H1 => ∃ a xs, x = .ref a ∧ SqT K H1 a xs ∧ ∀ p, H1 p = none → Q (.ref p) (upd H1 p (.tup xs.reverse))
theorem pe_backT {e : Expr} {te : TE} {k : Nat} {p1 p2 p3 pos : Pos} (he : PE X e te) : PE X (.Subscript e (.Slice none none (some (.UnaryOp .USub (.Constant (.int 1) k p1) p2)) p3) pos) (tBackT X.K te) := by
  refine ⟨fun pins s σ H Q I h => Subscript_ (thn (he.run pins s σ H _ I h) fun v s1 ⟨x, H1, I1, r1, q1⟩ => ?_)⟩
  obtain ⟨a, xs, ex, hx, q⟩ := q1
  subst ex
  cases r1
  have hst : PO X (some (.UnaryOp .USub (.Constant (.int 1) k p1) p2)) (tPart (tUn (rU fun i => .int (-i)) (tC (.int 1)))) := po_some (pe_un un_neg pe_int)
  refine wpAny_Slice (thn (po_none.run pins s1 σ H1 (fun o H2 => o = none ∧ H2 = H1) I1 ⟨rfl, rfl⟩) fun vl s2 ⟨l, H2, I2, pl, el, e2⟩ => ?_)
  subst el e2
  refine thn (po_none.run pins s2 σ H2 (fun o H3 => o = none ∧ H3 = H2) I2 ⟨rfl, rfl⟩) fun vu s3 ⟨u, H3, I3, pu, eu, e3⟩ => ?_
  subst eu e3
  refine thn (hst.run pins s3 σ H3 (fun o H4 => o = some (-1) ∧ H4 = H3) I3 ⟨1, rfl, -1, rfl, rfl, rfl⟩) fun vs s4 ⟨o, H4, I4, ps, eo, e4⟩ => ?_
  subst eo e4
  have I5 : Inv X pins σ H4 { s4 with heap := s4.heap.push { cls := .type "slice", data := .fields #[vl, vu, vs] } } := I4.kept (t' := s4.toks) fun b ob q => Heap.get?_push_of_some _ q
  obtain ⟨its, r, ht, hz⟩ := I5.tuple hx
  have hlen := r.length
  show wpAny (model X.prog X.w) X.A (subscriptTail e _ (.ref a) (.ref s4.heap.objs.size)) (EP X pins σ Q) X.xe { s4 with heap := s4.heap.push { cls := .type "slice", data := .fields #[vl, vu, vs] } }
  refine tail_any (ops := [.ref a, .ref s4.heap.objs.size]) ht.typeIs (PyProof.Rows.slot_tuple_getitem.lookup) ?_ (by with_unfolding_all rfl)
  refine item_back ht (Heap.IsSliceOf.new _ vl vu vs) pl pu ps ?_ (by rw [List.size_toArray]; omega)
  refine ⟨.ref _, _, I5.laid (t' := s4.toks) (o := .tup xs.reverse) (fun b ob q => Heap.get?_push_of_some _ q) (Nat.le_refl _) ?_, rfl, q _ (I5.hok.fresh (Nat.le_refl _))⟩
  exact ⟨by rw [List.length_reverse]; exact hz, its.reverse, r.reverse, IsTup.new _ _⟩
end
end RV
set_option maxHeartbeats 4000000
namespace RV
open PySem PySem.Spec PyProof.Rows L2
/-- as the layer's promise of a def, where no repr runs around -/
structure FnG (P : Program) (w : World) (K : PySem.W.Frag) (mg : Str → Option Value) (base : Heap) (CX : CXT) (k : Nat) (f : Addr) (fd : FuncData) (ps : List Str) (sp : Sp) : Prop where
  many : ∀ vs H Q E, sp vs H Q E → vs.length = ps.length
  goes : ∀ (A : Around) (outer : List Env) (s : Shared) (H : Hp) (args : Args) (us : List Value) (vs : List V) (Q : VK) (E : XK), A.guards = some [] → Room k A → Env0 P w K mg base A outer s H →
    BindsTo s fd args (ps.zip us) → Vals vs us → sp vs H Q E → codeAny (model P w) A (.call (.ref f) args) (CR CX outer P w H s Q E) s
section
variable {P : Program} {w : World} {K : PySem.W.Frag} {mg : Str → Option Value} {base : Heap} {CX : CXT} {k : Nat} {f : Addr} {fd : FuncData} {N ps : List Str} {sp : Sp} {x qual : Str} {st : Stmt}
theorem okG (F : Fun K x qual st f fd) (S : FnScope N ps (defScope st)) (len : ∀ vs H Q E, sp vs H Q E → vs.length = ps.length)
    (body : ∀ (cdv : Value) (A : Around) (outer : List Env) (s : Shared) (H : Hp) (vs : List V) (Q : VK) (E : XK), A.guards = some [] → Room k (A.deeper (envOfC qual (defScope st) s.heap.objs.size f cdv)) → sp vs H Q E →
      ∃ t, PSs (cxOf CX0 P w K mg base N qual (defScope st) f cdv A outer s H E).nox (defBody st) t ∧ t { nx := fun _ H' => Q .non H', rt := Q } (start N vs) H) : FnG P w K mg base CX0 (k + 1) f fd ps sp := by
  obtain ⟨oc, od, kV, doc, pm, an, cdv, ct, osl, rfl, lk, hcd⟩ := F.ex
  refine ⟨len, fun A outer s H args us vs Q E gd hr e0 hb r hsp => ?_⟩
  have KX : K.In s.heap := e0.mod.kin.keeps fun b o z => (e0.bs b o z).1
  have lim : s.heap.NoLimit := e0.mod.nolimit.keeps fun b o z => (e0.bs b o z).1
  have kinds : ∀ y ∈ ps.zip us, (defScope st).names.lookup y.1 = some .local ∨ ((defScope st).names.lookup y.1 = some .cell ∧ ((cellsFrom (s.heap.objs.size + 1) (defScope st).names []).lookup y.1).isSome = true) := by
    rintro ⟨n, v⟩ hy
    exact (S.par n (List.of_mem_zip hy).1).imp id fun q => ⟨q, PySem.W.cellsFrom_some _ _ _ (.inl q)⟩
  refine codeAny_call_function hr.depth (KX _ _ lk) rfl S.co S.gen rfl (PySem.W.codeRec_of KX hcd) (hb _ _ _ _ (wpAny_newFunctionEnv_cells S.kind kinds fun env he s1 z => ?_))
  subst he
  refine ⟨lim.keeps z.toInCall.keep, codeAny_func ?_⟩
  obtain ⟨t, ht, hq⟩ := body cdv A outer s H vs Q E gd (hr.deeper _) hsp
  have I : Inv (cxOf CX0 P w K mg base N qual (defScope st) f cdv A outer s H E) [] (start N vs) H s1 := inv_start S hr.hd e0 (len _ _ _ _ hsp) r z
  refine wpAny_mono (ht.nox.run [] s1 (start N vs) H _ I hq) (fun fl s' hs => ?_) fun e s' hs => hs
  cases fl with
  | ret u =>
    obtain ⟨v, σ', H', J, rv, q⟩ := hs
    exact ⟨v, H', J.os, J.bare, J.base, J.hok, rv, q⟩
  | next =>
    obtain ⟨σ', H', J, q⟩ := hs
    exact ⟨V.non, H', J.os, J.bare, J.base, J.hok, rfl, q⟩
  | brk => exact hs.elim fun _ z => z.elim fun _ y => False.elim y.2
  | cont => exact hs.elim fun _ z => z.elim fun _ y => False.elim y.2
end
section
variable {X : Cx} {CX : CXT} {k : Nat} {f : Addr} {fd : FuncData} {ps : List Str} {sp : Sp} {dvs : List V} {ds : List Value} {E : XK} {x : Str} {p pos : Pos} {e : Expr} {es : List Expr} {t : TA}
/-- f(e, ..) of such a def -/
theorem pe_callG (F : FnG X.prog X.w X.K X.mg X.base CX k f fd ps sp) (gd : X.A.guards = some []) (hr : Room k X.A) (hg : Gl X x) (hm : X.mg x = some (.ref f)) (hk : PySem.W.keepIn X.K (.ref f) = true) (hb : Binds X.K fd ps ds) (hd : Vals dvs ds) (hx : Passes CX X E)
    (ha : PA X (e :: es) t) (hdb : (x == ("__debug__" : Str)) = false := by decide) (he : starEach (e :: es) X.env = (false, eval e X.env) :: starEach es X.env := by rfl) (hpl : (backTo pos (starEach es X.env)).any (·.1) = false := by rfl) :
    PE X (.Call (.Name x p) (e :: es) [] pos) (tCall sp dvs E t) := by
  refine ⟨fun pins s σ H Q I h => wpAny_Call_Name_kw (ld_glob I hg hm ?_ hdb)⟩
  refine PySem.W.callWith_K (h₀ := X.base) I.ok.mod.kin hk (thn (ha.run pos pins s σ H _ I h) fun us s1 ⟨vs, H1, I1, r, q⟩ => ⟨I1.kIn, ?_⟩) he hpl
  have r2 : Vals (vs ++ dvs) (us ++ ds) := r.append hd
  have hl : (us ++ ds).length = ps.length := r2.length ▸ F.many _ _ _ _ q
  refine wpAny_call (codeAny_mono (F.goes X.A X.stack s1 H1 ⟨us, []⟩ (us ++ ds) (vs ++ dvs) Q E gd hr I1.env0 (hb s1 us I1.kIn hl) r2 q) fun rr s' hq => ?_)
  cases rr with
  | error ee => exact hx pins σ H1 s1 ee s' I1 hq
  | ok fl => cases fl <;> first | exact I1.after hq | exact False.elim hq
/-- repr(x), x an object read as data -/
theorem call_reprD (gd : X.A.guards = some []) (hu : X.A.units + 65 < cLine) : CallR X (.builtin "repr") (fun xs H Q => ∃ (a : Addr) (d : PyData), xs = [.ref a] ∧ Dp X.K H (.ref a) d ∧ d.showable = true ∧ d.hasDict = false ∧ d.depth ≤ 64 ∧ d.shown.length ≤ sizeLine ∧ Q (.str d.shown) H) := by
  intro pins s σ H xs us Q I r h
  obtain ⟨a, d, rfl, hd, h1, h2, h3, h4, q⟩ := h
  obtain ⟨u, rfl, ru⟩ := vals1 r
  cases ru
  obtain ⟨as, rd⟩ := Dp.reads I d (.ref a) (.ref a) hd rfl
  refine repr_of_reads' rd h1 (fun z => by rw [h2] at z; cases z) gd (by omega) (fun _ _ z => z) (fun h' uu tk k => ?_) h4
  exact ⟨.str d.shown, H, I.kept k, ⟨uu, rfl⟩, q⟩
end
section
/-- the law's call, from such a promise -/
theorem law_callG {P : Program} {w : World} {K : PySem.W.Frag} {mg mb : Str → Option Value} {k : Nat} {fa a : Addr} {fd : FuncData} {x : Str} {sp : Sp} {st : Shared} {vs : List Value} {ns : List Int}
    (KX : K.In st.heap) (n1 : st.heap.Ns mainGlobals mg) (n2 : st.heap.Ns builtinsNs mb) (n3 : ∀ x : Str, x ≠ "__name__" → mb x = bootBuiltins x) (n4 : st.heap.NoLimit) (n5 : st.gens = #[])
    (ha : st.heap.get? a = some { cls := .type "list", data := .seq vs.toArray }) (hi : IntsAre vs ns) (hl : ns.length ≤ sizeLine) (hr : Room k callerA)
    (F : ∀ base : Heap, K.In base → base.Ns mainGlobals mg → FnG P w K mg base CX0 k fa fd [x] sp) (bnd : ∀ (s : Shared) (u : Value), BindsTo s fd ⟨[u], []⟩ [(x, u)])
    (hsp : ∀ H : Hp, Only H → SqL K H a (ns.map V.int) → sp [.ref a] H (fun v _ => v = .bl true) fun _ _ _ => False) :
    codeAny (model P w) callerA (.call (.ref fa) ⟨[.ref a], []⟩) (fun r s' => r = .ok (.ret (.bool true)) ∧ OldK st.heap s'.heap ∧ s'.os = st.os ∧ AllBare s'.gens) st := by
  have rv := vals_ints hi
  have lv := hi.length
  have key : ∀ H : Hp, Only H → SqL K H a (ns.map V.int) → HOk P w H st.heap → (∀ b, H b ≠ none → b = a) → (H a ≠ none → K.lookup a = none) →
      codeAny (model P w) callerA (.call (.ref fa) ⟨[.ref a], []⟩) (fun r s' => r = .ok (.ret (.bool true)) ∧ OldK st.heap s'.heap ∧ s'.os = st.os ∧ AllBare s'.gens) st := by
    intro H hO hS hok hA hK
    have noA : ∀ {b : Addr} {o : Obj} {es : Array DictEntry} {ep : Nat}, st.heap.get? b = some o → o.data = .dict es ep → H b = none := by
      intro b o es ep e d
      cases q : H b with
      | none => rfl
      | some u =>
        obtain rfl : b = a := hA b (by rw [q]; simp)
        rw [ha] at e
        cases e
        cases (show Data.seq vs.toArray _ = Data.dict es ep from d)
    have nsK : ∀ {b : Addr} {m : Str → Option Value}, st.heap.Ns b m → (hidT st.heap H).Ns b m := fun {b m} ⟨o, es, ep, e, d, r⟩ => ⟨o, es, ep, hidT_get e (noA e d), d, r⟩
    have kb : K.In (hidT st.heap H) := fun b o e => hidT_get (KX b o e) (by
      cases q : H b with
      | none => rfl
      | some u =>
        obtain rfl : b = a := hA b (by rw [q]; simp)
        rw [hK (by rw [q]; simp)] at e
        cases e)
    obtain ⟨mc, l1, l2⟩ := n4
    have e0 : Env0 P w K mg (hidT st.heap H) callerA [] st H :=
      ⟨rfl, ⟨kb, nsK n1, ⟨mb, nsK n2, n3⟩, ⟨mc, nsK l1, l2⟩⟩, fun b o e => of_hidT e, Nat.le_of_eq (hidT_size _ _), trivial, fun b hb => absurd (show b ∈ ([] : List Addr) from hb) (by simp), hok, .of_eq n5⟩
    refine codeAny_mono ((F _ kb (nsK n1)).goes callerA [] st H ⟨[.ref a], []⟩ [.ref a] [.ref a] _ _ rfl hr e0 (bnd st (.ref a)) (.cons rfl .nil) (hsp H hO hS)) fun r s' h => ?_
    cases r with
    | error e => exact False.elim h
    | ok fl =>
      cases fl with
      | next => exact False.elim h
      | brk => exact False.elim h
      | cont => exact False.elim h
      | ret u =>
        obtain ⟨v, H', os, bare, un, hok', r', q⟩ := h
        obtain rfl : v = .bl true := q
        obtain rfl : u = Value.bool true := r'
        refine ⟨rfl, OldK.of_keep fun b o e => ?_, os, bare⟩
        rcases hO b with z | ⟨ob, xs, z⟩
        · exact un.keep b o e z (fun y => absurd (show b ∈ ([] : List Addr) from y) (by simp)) (by simp)
        · have z2 := un.frzs b ob _ z
          obtain ⟨e1, _⟩ := hok b _ z
          obtain ⟨e2, _⟩ := hok' b _ z2
          rw [e] at e1
          cases e1
          exact e2
  cases hk : K.lookup a with
  | some o =>
    have e := KX a o hk
    rw [ha] at e
    cases e
    exact key (fun _ => none) (fun _ => .inl rfl) (.inr ⟨_, vs.toArray, _, hk, rfl, rfl, rfl, by rw [List.size_toArray, lv]; exact hl, by simpa using rv⟩)
      (fun b u z => by cases (show (none : Option HO) = some u from z)) (fun b z => absurd rfl z) fun z => absurd rfl z
  | none =>
    refine key (fun b => if b = a then some (.frz { cls := .type "list", data := .seq vs.toArray } (.lst (ns.map V.int))) else none) (fun b => ?_) (.inl (.inr ⟨{ cls := .type "list", data := .seq vs.toArray }, if_pos rfl⟩)) (fun b u z => ?_) (fun b z => ?_) fun _ => hk
    · by_cases hb : b = a
      · exact .inr ⟨_, _, if_pos hb⟩
      · exact .inl (if_neg hb)
    · by_cases hb : b = a
      · cases (if_pos hb).symm.trans z
        subst hb
        exact ⟨ha, by rw [List.length_map]; exact hl, vs, _, rv, ha⟩
      · cases (if_neg hb).symm.trans z
    · exact Classical.byContradiction fun hb => z (if_neg hb)
theorem walk_G {l : PySem.W.OpenLaw} {n k : Nat} {q : Program} {loose : List Str} {XP : (Str → Option Value) → Heap → Prop} {YP : World → Heap → Prop} {d : DefRec} {K : Params → PySem.W.Frag} {sp : World → Sp} {x : Str}
    (hn : l.most = some n) (hn2 : n ≤ sizeLine) (hdf : d.params.defaults = []) (hr : Room k callerA) (hY : ∀ (w : World) (h : Heap), YP w h → (K w.params).In h)
    (F : ∀ (w : World) (mg : Str → Option Value) (fa : Addr) (h : Heap), (K w.params).In h → h.Ns mainGlobals mg → mg d.name = some (.ref fa) →
      ∃ fd : FuncData, (∀ (s : Shared) (u : Value), BindsTo s fd ⟨[u], []⟩ [(x, u)]) ∧ ∀ base : Heap, (K w.params).In base → base.Ns mainGlobals mg → FnG l.prog w (K w.params) mg base CX0 k fa fd [x] (sp w))
    (hsp : ∀ (w : World) (H : Hp) (a : Addr) (ns : List Int), ns.length ≤ n → Only H → SqL (K w.params) H a (ns.map V.int) → sp w [.ref a] H (fun v _ => v = .bl true) fun _ _ _ => False) :
    PySem.W.WalkO q loose XP YP l.row.toRowW d [] (fun f vs => PySem.call f vs) := by
  refine Att.attach_call hn hdf fun w s₀ st mg mb fa o pm cd doc a vs ns G Y ho hd hcd hmg hobj hints hlen hg => ?_
  obtain ⟨fd, hb, hF⟩ := F w mg fa _ (hY w _ Y) G.T.g hmg
  exact law_callG (hY w _ Y) G.T.g G.T.b G.T.builtins G.T.nolimit hg hobj hints (Nat.le_trans hlen hn2) hr hF hb fun H hO hS => hsp w H a ns hlen hO hS
end
end RV
set_option maxHeartbeats 4000000
namespace RV
open PySem PySem.Spec PyProof.Rows L2 PySem.W
section
variable {prog : Program} {w : World} {A : Around} {E : Value → Shared → Prop} {s : Shared} {K : Frag} {x C L f : Addr} {h₀ : Heap} {m : Str → Option Value} {ox : Obj} {od : Option Obj} {b tb : Value}
theorem ne_bound {Q : Option Value → Shared → Prop} (X : K.In s.heap) (I : InstAt s.heap x ox C od) (hs : findIn K (.ref C) "__ne__" = some (some (.builtin "object.__ne__")))
    (h : wpAny (model prog w) A (call (.builtin "object.__ne__") [.ref x, b]) (fun v => Q (some v)) E s) : wpAny (model prog w) A (callSpecialIfBound? (.ref x) "__ne__" [b]) Q E s := by
  simp only [callSpecialIfBound?, bindSpecialIfBound?]
  refine wpAny_holding (wpAny_bind (wpAny_bind (wpAny_bind (I.type.here ((looks_findIn X hs).here ?_)))))
  refine wpAny_bind (wpAny_askSetting (wpAny_ite ?_))
  have fin : wpAny (model prog w) A (call (.builtin "object.__ne__") ([.ref x] ++ [b]) >>= fun v => pure (some v)) Q E s :=
    wpAny_bind (wpAny_mono h (fun v s' z => wpAny_pure z) fun _ _ z => z)
  split
  · rw [F.cmp_object.ne.bind]
    exact wpAny_bind (wpAny_pure (wpAny_pure fin))
  · rw [F.cmp_object.ne.bind]
    exact wpAny_tryCatch (wpAny_bind (wpAny_pure (wpAny_pure fin)))
theorem obj_ne {Q : Fin → Shared → Prop} (X : K.In s.heap) (hu : A.units < cLine) (I : InstAt s.heap x ox C od) (hs : findIn K (.ref C) "__eq__" = some (some (.ref f))) (hf : isFn K (.ref f) = true)
    (h : wpAny (model prog w) A (call (.ref f) [.ref x, b]) (fun v s' => ∃ c, v = .bool c ∧ Q (.done (.ret (.bool (!c)))) s') E s) :
    wpAny (model prog w) A (Builtin.«object.__ne__» ⟨[.ref x, b], []⟩) Q E s := by
  unfold Builtin.«object.__ne__»
  repeat (first
    | with_reducible refine wpAny_cRoomFor hu ?_
    | (refine wpAny_bind (m := callSpecialIfBound? (.ref x) (Str.ofString "__eq__") [b])
        (ifBound_K X I hs hf (wpAny_mono h (fun r s' hr => by
          obtain ⟨c, rfl, hq⟩ := hr
          repeat (first | exact hq | exact wpAny_pure hq | exact wpAny_truthy_bool hq | (refine wpAny_bind (m := truthy (.bool _)) (wpAny_truthy_bool ?_)) | wp_step)) fun _ _ z => z)))
    | wp_step)
theorem cmp_ne {Q : Value → Shared → Prop} (hu : A.units + 1 < cLine) (F0 : Fr h₀ L s.heap m) (X₀ : K.In h₀) (I : InstAt s.heap x ox C od) (hb : Looks (model prog w) s.heap (typeOf b) (.ref C))
    (hn : findIn K (.ref C) "__ne__" = some (some (.builtin "object.__ne__"))) (hm : mroIn K C (.type "object") = some true)
    (hs : findIn K (.ref C) "__eq__" = some (some (.ref f))) (hf : isFn K (.ref f) = true)
    (h : wpAny (model prog w) A.in1 (call (.ref f) [.ref x, b]) (fun v s' => ∃ c, v = .bool c ∧ Q (.bool (!c)) s') E s) : wpAny (model prog w) A (richCompare .NotEq (.ref x) b) Q E s := by
  have X := X₀.keeps F0.keep
  have one : wpAny (model prog w) A (tryCompare (.ref x) "__ne__" b) (fun r s' => ∃ v, r = some v ∧ Q v s') E s := by
    unfold tryCompare
    refine wpAny_bind (ne_bound X I hn (wpAny_call (codeAny_call_builtin F.cmp_object.ne.plain F.cmpEntry_ne ?_)))
    refine check_slot F.cmpKind_ne F.cmpSplit_ne ?_ (F.cmpArgs_ne _ _) ?_
    · exact I.type.andThen (looks_mroIn X hm)
    · refine obj_ne (A := A.in1) X hu I hs hf (wpAny_mono h (fun v s' hv => ?_) fun _ _ z => z)
      obtain ⟨c, rfl, hq⟩ := hv
      exact ⟨c, rfl, wpAny_pure ⟨_, rfl, hq⟩⟩
  unfold richCompare
  simp only [oneThing_ref]
  refine wpAny_holding (wpAny_bind (wpAny_cRoomFor (Nat.lt_of_succ_lt hu) ?_))
  rw [cmpInfo_NotEq]
  dsimp only
  refine wpAny_bind (I.type.here (wpAny_bind (hb.here ?_)))
  rw [show (Value.ref C != Value.ref C) = false from by simp]
  simp only [Bool.false_eq_true, if_false]
  refine wpAny_bind (wpAny_pure ?_)
  simp only [Bool.false_eq_true, if_false]
  refine wpAny_bind (wpAny_mono one (fun r s' z => ?_) fun _ _ z => z)
  obtain ⟨v, rfl, hq⟩ := z
  exact wpAny_pure hq
end
section
variable {X : Cx} {CX : CXT} {n : Nat} {C f : Addr} {fd : FuncData} {ps : List Str} {sp : Sp} {E : XK}
/-- x != y, instances of the class at C, by the text's own == -/
def rNeI (C : Addr) (sp : Sp) (E : XK) : R2 := fun x y H Q => ∃ a b dx dy fs gs, x = .ref a ∧ y = .ref b ∧ H a = some (.ins C dx fs) ∧ H b = some (.ins C dy gs) ∧ sp [.ref a, .ref b] H (fun v H' => ∃ c, v = .bl c ∧ Q (.bl (!c)) H') E
def rEqI (C : Addr) (sp : Sp) (E : XK) : R2 := fun x y H Q => ∃ a b dx dy fs gs, x = .ref a ∧ y = .ref b ∧ H a = some (.ins C dx fs) ∧ H b = some (.ins C dy gs) ∧ sp [.ref a, .ref b] H (fun v H' => ∃ c, v = .bl c ∧ Q (.bl c) H') E
theorem op_neI (G : FnOk X.prog X.w X.K X.mg X.base CX n f fd ps sp) (hr : Room (n + 1) X.A) (hn : findIn X.K (.ref C) "__ne__" = some (some (.builtin "object.__ne__"))) (hm : mroIn X.K C (.type "object") = some true)
    (hs : findIn X.K (.ref C) "__eq__" = some (some (.ref f))) (hf : isFn X.K (.ref f) = true) (hb : Binds X.K fd ps []) (hx : Passes CX X E) : OpR X (compareOp .NotEq) (rNeI C sp E) := by
  intro pins s σ H x y v u Q I rx ry hq
  obtain ⟨a, b, dx, dy, fs, gs, rfl, rfl, ha, hb', q⟩ := hq
  cases rx
  cases ry
  obtain ⟨mA, J, _⟩ := ins_get I.hok ha
  obtain ⟨mB, J', _⟩ := ins_get I.hok hb'
  obtain ⟨od, J, _⟩ := J.look
  obtain ⟨od', J', _⟩ := J'.look
  obtain ⟨m, hF⟩ := I.fr
  show wpAny (model X.prog X.w) X.A (richCompare .NotEq (.ref a) (.ref b)) (EP X pins σ Q) X.xe s
  refine cmp_ne (by have := hr.un; omega) hF I.ok.mod.kin J J'.type hn hm hs hf ?_
  have hl := G.len _ _ _ _ q
  have r2 : Vals [V.ref a, V.ref b] [Value.ref a, Value.ref b] := .cons rfl (.cons rfl .nil)
  refine wpAny_call (codeAny_mono (G.run X.A.in1 X.stack s H ⟨[.ref a, .ref b], []⟩ [.ref a, .ref b] [.ref a, .ref b] _ E hr.in1 I.env0.in1 (by simpa using hb s [.ref a, .ref b] I.kIn (by simpa using hl)) r2 q) fun r s' hq => ?_)
  cases r with
  | error e => exact hx pins σ H s e s' I hq
  | ok fl =>
    cases fl with
    | ret w =>
      obtain ⟨z, H', I', rz, c, ez, ex⟩ := I.after hq
      subst ez
      cases rz
      exact ⟨c, rfl, .bl (!c), H', I', rfl, ex⟩
    | next => exact False.elim hq
    | brk => exact False.elim hq
    | cont => exact False.elim hq
theorem op_eqI (G : FnOk X.prog X.w X.K X.mg X.base CX n f fd ps sp) (hr : Room n X.A)
    (hs : findIn X.K (.ref C) "__eq__" = some (some (.ref f))) (hf : isFn X.K (.ref f) = true) (hb : Binds X.K fd ps []) (hx : Passes CX X E) : OpR X (compareOp .Eq) (rEqI C sp E) := by
  intro pins s σ H x y v u Q I rx ry hq
  obtain ⟨a, b, dx, dy, fs, gs, rfl, rfl, ha, hb', q⟩ := hq
  cases rx
  cases ry
  obtain ⟨mA, J, _⟩ := ins_get I.hok ha
  obtain ⟨mB, J', _⟩ := ins_get I.hok hb'
  obtain ⟨od, J, _⟩ := J.look
  obtain ⟨od', J', _⟩ := J'.look
  obtain ⟨m, hF⟩ := I.fr
  show wpAny (model X.prog X.w) X.A (richCompare .Eq (.ref a) (.ref b)) (EP X pins σ Q) X.xe s
  refine PySem.W.cmp_K (op := .Eq) (tb := .ref C) hr.units0 hF I.ok.mod.kin J J'.type (by simp [PySem.W.notFirst]) hs hf ?_
  have hl := G.len _ _ _ _ q
  have r2 : Vals [V.ref a, V.ref b] [Value.ref a, Value.ref b] := .cons rfl (.cons rfl .nil)
  refine wpAny_call (codeAny_mono (G.run X.A X.stack s H ⟨[.ref a, .ref b], []⟩ [.ref a, .ref b] [.ref a, .ref b] _ E hr I.env0 (by simpa using hb s [.ref a, .ref b] I.kIn (by simpa using hl)) r2 q) fun r s' hq => ?_)
  cases r with
  | error e => exact hx pins σ H s e s' I hq
  | ok fl =>
    cases fl with
    | ret w =>
      obtain ⟨z, H', I', rz, c, ez, ex⟩ := I.after hq
      subst ez
      cases rz
      exact ⟨.bl c, H', I', rfl, ex⟩
    | next => exact False.elim hq
    | brk => exact False.elim hq
    | cont => exact False.elim hq
end
end RV
set_option maxHeartbeats 4000000
/-! set(xs) of tuples of ints, xs of any length, where few of them are unlike -/
namespace RV
open PySem PySem.Spec PyProof.Rows L2
/-- fewer than 63 unlike ones -/
def FewUnlike (ks : List (Addr × List Int)) : Prop := ∀ L : List (Addr × List Int), (L.map (·.2)).Nodup → (∀ p ∈ L, p ∈ ks) → L.length + 1 < 64
abbrev noneYet (w : World) : Obj := { cls := .type "set", dict := none, data := .set #[] 0 (.fresh 0 0 (!w.params.followText "set-order")) }
section
variable {P : Program} {w : World} {A : Around} {E : Value → Shared → Prop} {s : Shared}
theorem setN_loop {R : Result → Shared → Prop} (hh : A.in1.handled = none) (S l it : Addr) (hSl : S ≠ l) (hSi : S ≠ it) (hli : l ≠ it) (items : Array Value) (ks : List (Addr × List Int)) (few : FewUnlike ks)
    (refs : ∀ (i : Nat) (p : Addr × List Int), ks[i]? = some p → items[i]? = some (Value.ref p.1)) (size : items.size = ks.length) (old : Heap) (tups : ∀ p ∈ ks, IsT P w old p.2 p.1) (o1 : old.get? S = none) (o2 : old.get? it = none) (hu : A.in1.units < cLine) :
    ∀ (k i : Nat) (s : Shared), ks.length - i = k → i ≤ ks.length → s.heap.IsListIter it l i → s.heap.IsList l items → (∀ b o, old.get? b = some o → s.heap.get? b = some o) → (∃ L es ep t, SetTR P w s.heap S L es ep t ∧ Got ks i L) →
      (∀ h' tk L es ep t, SetTR P w h' S L es ep t → Got ks ks.length L → (∀ b o, old.get? b = some o → h'.get? b = some o) → R (.ok (.ret .none)) { s with heap := h', toks := tk }) →
      codeAny (model P w) A (.builtin "set.update.loop" ⟨[.ref S, .ref it], []⟩) R s
  | 0, i, s, hk, hi, hit, hl, keep, ⟨L, es, ep, t, hS, got⟩, fin => by
    obtain rfl : i = ks.length := by omega
    refine codeAny_builtin F.entry_set_update_loop ?_
    rw [Around.under_plainId F.plain_set_update_loop _]
    show wpAny _ A.in1 (pyNext (.ref it) >>= _) _ _ s
    refine wpAny_bind (wpAny_pyNext_list_end hh hit hl (by simp [size]) fun h' ext => ?_)
    have keep' : ∀ b o, old.get? b = some o → h'.get? b = some o := fun b o e => ext b o (fun z => by rw [z, o2] at e; cases e) (keep b o e)
    exact wpAny_pure (fin h' s.toks L es ep t (hS.keep (fun o e => ext S o hSi e) fun p hp => isT_keep (tups p (List.mem_of_mem_take (got.sub p hp))) keep') got keep')
  | k + 1, i, s, hk, hi, hit, hl, keep, ⟨L, es, ep, t, hS, got⟩, fin => by
    obtain ⟨p, hp⟩ : ∃ p, ks[i]? = some p := ⟨_, List.getElem?_eq_getElem (by omega)⟩
    refine codeAny_builtin F.entry_set_update_loop ?_
    rw [Around.under_plainId F.plain_set_update_loop _]
    show wpAny _ A.in1 (pyNext (.ref it) >>= _) _ _ s
    refine wpAny_bind (wpAny_pyNext_list_item hit hl (refs i p hp) fun h1 hit1 sb1 => ?_)
    have keep1 : ∀ b o, old.get? b = some o → h1.get? b = some o := fun b o e => (sb1.2 b fun z => by rw [z, o2] at e; cases e).trans (keep b o e)
    have inKs : ∀ q ∈ L, q ∈ ks := fun q hq => List.mem_of_mem_take (got.sub q hq)
    have hS1 : SetTR P w h1 S L es ep t := hS.keep (fun o e => (sb1.2 S hSi).trans e) fun q hq => isT_keep (tups q (inKs q hq)) keep1
    have hT : IsT P w h1 p.2 p.1 := isT_keep (tups p (List.mem_of_getElem? hp)) keep1
    show wpAny _ A.in1 (holding [Value.ref p.1] (setAdd S (.ref p.1)) >>= _) _ _ _
    refine wpAny_bind (wpAny_holding ?_)
    unfold setAdd
    refine wpAny_holding (wpAny_bind (wpAny_pyHash_tuple hu hT ?_))
    refine add_at (s := { s with heap := h1, toks := s.toks + (p.2.length + 1) }) hS1 hT hu (few L hS1.nd inKs) fun b h2 L2 es2 ep2 t2 sb2 hS2 yes no => ?_
    have got2 : Got ks (i + 1) L2 := by
      by_cases c : p.2 ∈ L.map (·.2)
      · rw [yes c]; exact got.same hp c
      · exact got.more hp (no c)
    have keep2 : ∀ b o, old.get? b = some o → h2.get? b = some o := fun b o e => (sb2.2 b fun z => by rw [z, o1] at e; cases e).trans (keep1 b o e)
    refine wpAny_pure ⟨plainId_quiet F.plain_set_update_loop _, setN_loop hh S l it hSl hSi hli items ks few refs size old tups o1 o2 hu k (i + 1) _ (by omega) (by omega)
      (hit1.at fun o e => (sb2.2 it (Ne.symm hSi)).trans e) ((hl.at fun o e => (sb1.2 l hli).trans e).at fun o e => (sb2.2 l (Ne.symm hSl)).trans e) keep2 ⟨L2, es2, ep2, t2, hS2, got2⟩ fun h' tk L' es' ep' t' z1 z2 z3 => ?_⟩
    exact fin h' tk L' es' ep' t' z1 z2 z3
set_option maxHeartbeats 8000000 in
theorem call_setN {l : Addr} {items : Array Value} (ks : List (Addr × List Int)) {Q : Value → Shared → Prop} (hh : A.handled = none) (hl : s.heap.IsList l items) (refs : items.toList = ks.map fun p => Value.ref p.1)
    (tups : ∀ p ∈ ks, IsT P w s.heap p.2 p.1) (few : FewUnlike ks) (hu : A.units + 3 < cLine)
    (k : ∀ (h' : Heap) (tk : Nat) L es ep t, SetTR P w h' s.heap.objs.size L es ep t → Got ks ks.length L → (∀ b o, s.heap.get? b = some o → h'.get? b = some o) → Q (.ref s.heap.objs.size) { s with heap := h', toks := tk }) :
    wpAny (model P w) A (call (.type "set") [.ref l]) Q E s := by
  have size : items.size = ks.length := by simpa using congrArg List.length refs
  have refs' : ∀ (i : Nat) (p : Addr × List Int), ks[i]? = some p → items[i]? = some (Value.ref p.1) := fun i p e => by
    rw [← Array.getElem?_toList, refs, List.getElem?_map, e]; rfl
  obtain ⟨c, tl, hm⟩ := F.called_set.mro
  have a1 := F.called_set.made
  have a2 := F.called_set.sub
  have a3 := F.called_set.notType
  have a4 := F.called_set.canCreate
  have a5 := F.typeCall_set_1 (.ref l)
  refine wpAny_call (codeAny_of_tree ?_)
  show wpAny _ _ (callAny (.type "set") _) _ _ _
  refine wpAny_pure ⟨Code.quiet_builtin _ (by decide +kernel), codeAny_builtin F.entry_type_call ?_⟩
  rw [Around.under_plain (weight_type_call_type "set" [.ref l] []) rfl]
  repeat (any_goals (first | assumption | wp_step))
  refine codeAny_mono (code_set_led1 (.ref l) (E := E) (Q₁ := fun obj s₁ => obj = .ref s.heap.objs.size ∧ s₁ = { s with heap := s.heap.push (noneYet w) }) ⟨rfl, rfl⟩) fun r s₁ hr => ?_
  match r, hr with
  | .error e, hr => exact hr
  | .ok .next, hr => exact hr.elim
  | .ok .brk, hr => exact hr.elim
  | .ok .cont, hr => exact hr.elim
  | .ok (.ret obj), hr =>
    obtain ⟨rfl, rfl⟩ := hr
    have hS : (s.heap.push (noneYet w)).get? s.heap.objs.size = some (noneYet w) := Heap.get?_push_size _ rfl
    have hT : Shared.TypeIs { s with heap := s.heap.push (noneYet w) } (.ref s.heap.objs.size) "set" := ⟨_, hS, rfl⟩
    have b1 := F.called_set.init.lookup
    have b2 := F.called_set.init.bind (.ref s.heap.objs.size)
    repeat (any_goals (first | assumption | wp_step))
    refine codeAny_mono (codeAny_call_builtin (R := wants (fun r s₂ => r = .none ∧ ∃ h' tk L es ep t, s₂ = { s with heap := h', toks := tk } ∧ SetTR P w h' s.heap.objs.size L es ep t ∧ Got ks ks.length L ∧
        (∀ b o, s.heap.get? b = some o → h'.get? b = some o)) E) F.called_set.init.plain F.entry_set_init (check_set_init_1 hT ?_)) fun r₂ s₂ hr₂ => ?_
    · obtain ⟨⟨oc, od, dt, os⟩, g1, g2, nl, g3⟩ := hl
      simp only at g2 g3
      subst g2 g3
      have g4 : (s.heap.push (noneYet w)).get? l = some { cls := .type "list", dict := od, data := .seq items nl, slots := os } := Heap.get?_push_of_some _ g1
      have c1 := F.sub_list_set
      have c2 := F.sub_list_frozenset
      have c3 : (Value.type "list" == Value.type "dict") = false := by decide
      have isl : (s.heap.push (noneYet w)).IsList l items := ⟨_, g4, rfl, nl, rfl⟩
      unfold Builtin.«set.__init__» noKeywords Builtin.Frozenset.updateFrom
      generalize hpi : pyIter = pI
      wp_walk
      subst hpi
      refine wpAny_pyIter_list isl (wpAny_bind (wpAny_runValue ?_))
      have lt : l < s.heap.objs.size := Heap.lt_size g1
      have z1 : (s.heap.push (noneYet w)).objs.size = s.heap.objs.size + 1 := Heap.size_push ..
      have none1 : ∀ b, s.heap.objs.size ≤ b → s.heap.get? b = none := fun b hb => by
        cases q : s.heap.get? b with
        | none => rfl
        | some o => exact absurd (Nat.lt_of_lt_of_le (Heap.lt_size q) hb) (Nat.lt_irrefl _)
      refine setN_loop (A := A.in1.in1) (by simp [hh]) s.heap.objs.size l (s.heap.push (noneYet w)).objs.size (Nat.ne_of_gt lt) (by rw [z1]; exact Nat.ne_of_lt (Nat.lt_succ_self _)) (by rw [z1]; exact Nat.ne_of_lt (Nat.lt_succ_of_lt lt)) items ks few refs' size s.heap tups (none1 _ (Nat.le_refl _)) (none1 _ (by rw [z1]; exact Nat.le_succ _)) hu (ks.length - 0) 0 _ rfl (Nat.zero_le _)
        ⟨_, Heap.get?_push_size _ rfl, rfl, rfl⟩ (isl.push _) (fun b o e => Heap.get?_push_of_some _ (Heap.get?_push_of_some _ e)) ⟨[], #[], 0, _, setTR_fresh (Heap.get?_push_of_some _ hS), Got.zero ks⟩ fun h' tk L es ep t q1 q2 q3 => ?_
      show wpAny _ _ _ _ _ _
      refine wpAny_pure ?_
      show wpAny _ _ (ret Value.none) _ _ _
      exact wpAny_pure ⟨rfl, h', tk, L, es, ep, t, rfl, q1, q2, q3⟩
    · match r₂, hr₂ with
      | .error e, hr₂ => exact hr₂
      | .ok .next, hr₂ => exact hr₂.elim
      | .ok .brk, hr₂ => exact hr₂.elim
      | .ok .cont, hr₂ => exact hr₂.elim
      | .ok (.ret r), hr₂ =>
        obtain ⟨rfl, h', tk, L, es, ep, t, rfl, q1, q2, q3⟩ := hr₂
        repeat (any_goals (first | assumption | wp_step))
        exact k _ _ _ _ _ _ q1 q2 q3
end
section
variable {X : Cx}
def rSetN (K : PySem.W.Frag) (P : Program) (w : World) : List V → Hp → VK → Prop := fun xs H Q => ∃ (l : Addr) (ks : List (Addr × List Int)), xs = [V.ref l] ∧ SqL K H l (ks.map fun p => V.ref p.1) ∧ (∀ p ∈ ks, SqT K H p.1 (p.2.map V.int)) ∧ FewUnlike ks ∧
  ∀ a L, H a = none → (∀ p ∈ L, p ∈ ks) → (∀ p ∈ ks, p.2 ∈ L.map (·.2)) → Q (.ref a) (upd H a (SetTO P w a L))
theorem cr_setN (hc : X.calm = true) (hu : X.A.units + 64 < cLine) : CallR X (.type "set") (rSetN X.K X.prog X.w) := by
  intro pins s σ H xs us Q I r h
  obtain ⟨l, ks, rfl, hl, hk, few, q⟩ := h
  rw [Vals.ref1 r]
  obtain ⟨its, rv, pl, hz⟩ := I.list hl
  refine call_setN ks (I.ok.hd hc) pl.isList (by simpa using refs_of_vals rv) (fun p hp => I.isT (hk p hp)) few (by omega) fun h' tk L es ep t R g kp => ?_
  refine ⟨.ref s.heap.objs.size, upd H s.heap.objs.size (SetTO X.prog X.w s.heap.objs.size L), I.laid (t' := tk) kp (Nat.le_refl _) (setTO_new R.t0), rfl, ?_⟩
  exact q _ L (I.hok.fresh (Nat.le_refl _)) (fun p hp => List.mem_of_mem_take (g.sub p hp)) fun p hp => g.all p (by rw [List.take_length]; exact hp)
end
end RV
set_option maxHeartbeats 4000000
namespace RV
open PySem PySem.Spec PyProof.Rows L2
/-! ### heaps -/
theorem same_upd {H : Hp} {p : Addr} {o : HO} (h : H p = none) : Same H (upd H p o) := fun b x e => by
  rw [upd_ne (ne_of_none e h)]
  exact e
theorem sqT_same {K : PySem.W.Frag} {H H' : Hp} {a : Addr} {xs : List V} (e : Same H H') (h : SqT K H a xs) : SqT K H' a xs := SqT.ext h e
theorem sqL_same {K : PySem.W.Frag} {H H' : Hp} {a : Addr} {xs : List V} (e : Same H H') (h : SqL K H a xs) : SqL K H' a xs := SqL.ext h e
theorem tyT {K : PySem.W.Frag} {H : Hp} {a : Addr} {xs : List V} (h : SqT K H a xs) : TyX K H (.ref a) (.type "tuple") := by
  rcases h with (h | ⟨o, h⟩) | ⟨o, its, n, h1, h2, _⟩
  · exact .base (.tup h)
  · exact .fTuple h
  · exact .kTuple h1 h2
theorem tupNew {K : PySem.W.Frag} {H : Hp} {a : Addr} {xs : List V} (h : H a = some (.tup xs)) : SqT K H a xs := .inl (.inl h)
theorem lstNew {K : PySem.W.Frag} {H : Hp} {a : Addr} {xs : List V} (h : H a = some (.lst xs)) : SqL K H a xs := .inl (.inl h)
theorem walk_enT {K : PySem.W.Frag} {a : Addr} {xs : List V} : Walk (IteT K a) xs.length (fun H => SqT K H a xs) (YPair (fun i => some (.int (i : Nat))) (fun i => xs[i]?)) := by
  refine ⟨fun i _ hi q => ⟨xs, xs[i], q, by simp [hi]⟩, fun _ q => ⟨xs, q, Nat.le_refl _⟩, fun i H v H' _ q y => ?_⟩
  obtain ⟨T, x, h1, h2, h3, h4⟩ := y
  exact ⟨T, .int (i : Nat), x, h1, h2, h3, rfl, h4 xs q⟩
theorem walk_zipT {K : PySem.W.Frag} {a b : Addr} {xs ys : List V} {n : Nat} (hn : n = min xs.length ys.length) : Walk (RZ.ItzT K a b) n (fun H => SqT K H a xs ∧ SqT K H b ys) (YPair (fun i => xs[i]?) (fun i => ys[i]?)) := by
  subst hn
  refine ⟨fun i _ hi q => ⟨xs, ys, xs[i]'(by omega), ys[i]'(by omega), q.1, q.2, List.getElem?_eq_getElem _, List.getElem?_eq_getElem _⟩, fun _ q => ⟨xs, ys, q.1, q.2, by omega⟩, fun i H v H' _ q y => ?_⟩
  obtain ⟨T, x, z, h1, h2, h3, h4, h5⟩ := y
  exact ⟨T, x, z, h1, h2, h3, h4 xs q.1, h5 ys q.2⟩
/-- a tuple of tuples of ints -/
def Tups (K : PySem.W.Frag) (H : Hp) (a : Addr) (ps : List (List Int)) : Prop := ∃ ks : List (Addr × List Int), ks.map (·.2) = ps ∧ SqT K H a (ks.map fun p => V.ref p.1) ∧ ∀ p ∈ ks, SqT K H p.1 (p.2.map V.int)
/-- a list of tuples of ints -/
def Lots (K : PySem.W.Frag) (H : Hp) (a : Addr) (ps : List (List Int)) : Prop := ∃ ks : List (Addr × List Int), ks.map (·.2) = ps ∧ SqL K H a (ks.map fun p => V.ref p.1) ∧ ∀ p ∈ ks, SqT K H p.1 (p.2.map V.int)
theorem Tups.same {K : PySem.W.Frag} {H H' : Hp} {a : Addr} {ps : List (List Int)} (h : Tups K H a ps) (e : Same H H') : Tups K H' a ps :=
  let ⟨ks, h1, h2, h3⟩ := h; ⟨ks, h1, sqT_same e h2, fun p hp => sqT_same e (h3 p hp)⟩
theorem Lots.same {K : PySem.W.Frag} {H H' : Hp} {a : Addr} {ps : List (List Int)} (h : Lots K H a ps) (e : Same H H') : Lots K H' a ps :=
  let ⟨ks, h1, h2, h3⟩ := h; ⟨ks, h1, sqL_same e h2, fun p hp => sqT_same e (h3 p hp)⟩
theorem dpInts {K : PySem.W.Frag} {H : Hp} : ∀ ns : List Int, DpAll K H (ns.map V.int) (ns.map PyData.int)
  | [] => .nil
  | n :: r => .cons (.int n) (dpInts r)
def dI (ns : List Int) : PyData := .tuple (ns.map PyData.int)
def dTT (ps : List (List Int)) : PyData := .tuple (ps.map dI)
theorem dpT {K : PySem.W.Frag} {H : Hp} {a : Addr} {ns : List Int} (h : SqT K H a (ns.map V.int)) : Dp K H (.ref a) (dI ns) := .tup h (dpInts ns)
theorem dpTs {K : PySem.W.Frag} {H : Hp} : ∀ ks : List (Addr × List Int), (∀ p ∈ ks, SqT K H p.1 (p.2.map V.int)) → DpAll K H (ks.map fun p => V.ref p.1) ((ks.map (·.2)).map dI)
  | [], _ => .nil
  | p :: r, h => .cons (dpT (h p (List.mem_cons_self ..))) (dpTs r fun q hq => h q (List.mem_cons_of_mem _ hq))
theorem Tups.dp {K : PySem.W.Frag} {H : Hp} {a : Addr} {ps : List (List Int)} (h : Tups K H a ps) : Dp K H (.ref a) (dTT ps) := by
  obtain ⟨ks, rfl, h2, h3⟩ := h
  exact .tup h2 (dpTs ks h3)
theorem map_at {α β : Type} {f : α → β} {l : List α} {i : Nat} {y : β} (h : (l.map f)[i]? = some y) : ∃ x, l[i]? = some x ∧ y = f x := by
  rw [List.getElem?_map] at h
  cases e : l[i]? with
  | none => rw [e] at h; cases h
  | some x => rw [e] at h; exact ⟨x, rfl, (Option.some.inj h).symm⟩
theorem all_true : ∀ n : Nat, (List.replicate n true).all id = true
  | 0 => rfl
  | n + 1 => by rw [List.replicate_succ, List.all_cons, all_true n]; rfl
theorem rep_bl (n : Nat) : List.replicate n (V.bl true) = (List.replicate n true).map V.bl := by rw [List.map_replicate]
theorem rep_next {α : Type} (n : Nat) (x : α) : List.replicate n x ++ [x] = List.replicate (n + 1) x := by rw [List.replicate_succ', ]
theorem tt_yes {σ : L2.St} {H : Hp} {A B : Hp → Prop} (h : A H) : tYes σ H (fun b H3 => if b = true then A H3 else B H3) := iteT (A := A H) (B := B H) h
theorem un65 {k : Nat} {A : Around} (r : Room k A) : A.units + 65 < cLine := by have := r.un; omega
theorem few1 {n : Nat} (h : n ≤ 1000) : n < sizeLine := small1000 h
/-! ### data of ints, tuples of these -/
theorem lay_ints : ∀ ns : List Int, PyData.canLayAll0 (ns.map PyData.int) = true
  | [] => by simp [PyData.canLayAll0]
  | n :: r => by simp [PyData.canLayAll0, PyData.canLay0, lay_ints r]
theorem dep_ints : ∀ ns : List Int, PyData.depthAll (ns.map PyData.int) = 0
  | [] => by simp [PyData.depthAll]
  | n :: r => by simp [PyData.depthAll, PyData.depth, dep_ints r]
theorem dI_lay (ns : List Int) : (dI ns).canLay0 = true := by simp only [dI, PyData.canLay0]; exact lay_ints ns
theorem dI_dep (ns : List Int) : (dI ns).depth = 1 := by simp only [dI, PyData.depth, dep_ints]
theorem lay_dI : ∀ ps : List (List Int), PyData.canLayAll0 (ps.map dI) = true
  | [] => by simp [PyData.canLayAll0]
  | n :: r => by simp [PyData.canLayAll0, dI_lay, lay_dI r]
theorem dep_dI : ∀ ps : List (List Int), PyData.depthAll (ps.map dI) ≤ 1
  | [] => by simp [PyData.depthAll]
  | n :: r => by
    have h := dep_dI r
    simp only [List.map_cons, PyData.depthAll, dI_dep]
    omega
theorem shapedI (ns : List Int) : SeqAt.shaped (dI ns) = true := by
  show ((dI ns).canLay0 && decide ((dI ns).depth ≤ 64)) = true
  rw [dI_lay, dI_dep]; rfl
theorem shapedTT (ps : List (List Int)) : SeqAt.shaped (dTT ps) = true := by
  have h := dep_dI ps
  have e : (dTT ps).depth ≤ 64 := by simp only [dTT, PyData.depth]; omega
  show ((dTT ps).canLay0 && decide ((dTT ps).depth ≤ 64)) = true
  rw [decide_eq_true e, Bool.and_true]
  simp only [dTT, PyData.canLay0]; exact lay_dI ps
theorem eqv_ints : ∀ ns ms : List Int, PyData.eqvAll (ns.map PyData.int) (ms.map PyData.int) = decide (ns = ms)
  | [], [] => by simp [PyData.eqvAll]
  | [], m :: r => by simp [PyData.eqvAll]
  | n :: r, [] => by simp [PyData.eqvAll]
  | n :: r, m :: q => by
    have h := eqv_ints r q
    simp only [List.map_cons, PyData.eqvAll, PyData.eqv, h]
    by_cases e : n = m
    · subst e; by_cases e2 : r = q <;> simp [e2]
    · simp [e]
theorem eqvI (ns ms : List Int) : PyData.eqv (dI ns) (dI ms) = decide (ns = ms) := by simp only [dI, PyData.eqv, eqv_ints]
theorem eqv_dIs : ∀ ns ms : List (List Int), PyData.eqvAll (ns.map dI) (ms.map dI) = decide (ns = ms)
  | [], [] => by simp [PyData.eqvAll]
  | [], m :: r => by simp [PyData.eqvAll]
  | n :: r, [] => by simp [PyData.eqvAll]
  | n :: r, m :: q => by
    have h := eqv_dIs r q
    simp only [List.map_cons, PyData.eqvAll, eqvI, h]
    by_cases e : n = m
    · subst e; by_cases e2 : r = q <;> simp [e2]
    · simp [e]
theorem eqvTT (ns ms : List (List Int)) : PyData.eqv (dTT ns) (dTT ms) = decide (ns = ms) := by simp only [dTT, PyData.eqv, eqv_dIs]
theorem any_dI (p : List Int) : ∀ ps : List (List Int), (ps.map dI).any (fun y => PyData.eqv y (dI p)) = decide (p ∈ ps)
  | [] => rfl
  | q :: r => by
    rw [List.map_cons, List.any_cons, any_dI p r, eqvI]
    by_cases e : q = p
    · subst e; simp
    · have e' : ¬ p = q := fun z => e z.symm
      by_cases e2 : p ∈ r <;> simp [e, e', e2]
section
variable {X : Cx}
/-- t in ts, of tuples of ints -/
def rInTs (K : PySem.W.Frag) : R2 := fun x y H Q => ∃ (a b : Addr) (p : List Int) (ps : List (List Int)), x = .ref a ∧ y = .ref b ∧ SqT K H a (p.map V.int) ∧ Tups K H b ps ∧ Q (.bl (decide (p ∈ ps))) H
theorem op_inTs (hu : X.A.units + 65 < cLine) : OpR X (compareOp .In) (rInTs X.K) := by
  intro pins s σ H x y v u Q I rx ry h
  obtain ⟨a, b, p, ps, rfl, rfl, h1, h2, q⟩ := h
  obtain ⟨as, r1⟩ := Dp.reads I (dI p) (.ref a) v (dpT h1) rx
  obtain ⟨bs, r2⟩ := Dp.reads I (dTT ps) (.ref b) u h2.dp ry
  refine SeqAt.in_tuple_reads (xs := ps.map dI) r2 r1 (lay_dI ps) (dI_lay p) ?_ ⟨.bl _, H, I, rfl, ?_⟩
  · have := Nat.min_le_right (PyData.depthAll (ps.map dI)) (dI p).depth
    have e := dI_dep p
    omega
  · rw [any_dI]; exact q
/-- two tuples of ints, two tuples of tuples of ints compared -/
def rEqI1 (K : PySem.W.Frag) : R2 := fun x y H Q => ∃ (a b : Addr) (p q : List Int), x = .ref a ∧ y = .ref b ∧ SqT K H a (p.map V.int) ∧ SqT K H b (q.map V.int) ∧ Q (.bl (decide (p = q))) H
def rEqTs (K : PySem.W.Frag) : R2 := fun x y H Q => ∃ (a b : Addr) (p q : List (List Int)), x = .ref a ∧ y = .ref b ∧ Tups K H a p ∧ Tups K H b q ∧ Q (.bl (decide (p = q))) H
theorem op_eqI1 (hu : X.A.units + 64 < cLine) : OpR X (compareOp .Eq) (rEqI1 X.K) := by
  intro pins s σ H x y v u Q I rx ry h
  obtain ⟨a, b, p, ps, rfl, rfl, h1, h2, q⟩ := h
  refine op_eqD hu pins s σ H _ _ v u Q I rx ry ⟨dI p, dI ps, dpT h1, dpT h2, shapedI p, shapedI ps, ?_⟩
  rw [eqvI]; exact q
theorem op_eqTs (hu : X.A.units + 64 < cLine) : OpR X (compareOp .Eq) (rEqTs X.K) := by
  intro pins s σ H x y v u Q I rx ry h
  obtain ⟨a, b, p, ps, rfl, rfl, h1, h2, q⟩ := h
  refine op_eqD hu pins s σ H _ _ v u Q I rx ry ⟨dTT p, dTT ps, h1.dp, h2.dp, shapedTT p, shapedTT ps, ?_⟩
  rw [eqvTT]; exact q
end
section
variable {X : Cx} {K : PySem.W.Frag}
/-! the rules whose reading names the written part, for a comprehension's block -/
theorem ix_tupK (h : X.K = K) : IxR X (rIxT K) := h ▸ ix_tup
theorem pg_tupK {es : List Expr} {k : Nat} {t : TGs} {n : Nat} {pos : Pos} (h : X.K = K) (hc : X.calm = true) (hg : PGs X es t)
    (hn : (assignEach es X.env).length = n := by rfl) (hst : (assignEach es X.env).findIdx? (·.1) = none := by rfl) : PG X (.Tuple es k pos) (gTup K n t) := h ▸ pg_tup hc hg hn hst
theorem op_inTsK (h : X.K = K) (hu : X.A.units + 65 < cLine) : OpR X (compareOp .In) (rInTs K) := h ▸ op_inTs hu
theorem op_ltTK (h : X.K = K) (hu : X.A.units < cLine) : OpR X (compareOp .Lt) (rLtT K) := h ▸ op_ltT hu
def rLenS (K : PySem.W.Frag) : List V → Hp → VK → Prop := fun xs H Q => ∃ p ys, xs = [.ref p] ∧ (SqL K H p ys ∨ SqT K H p ys) ∧ Q (.int ys.length) H
theorem call_lenK (h : X.K = K) : CallR X (.builtin "len") (rLenS K) := h ▸ call_len_seq
end
end RV
set_option maxHeartbeats 4000000
namespace K4
open PySem PySem.Spec PyProof.Rows L2 RV
/-! ### the text by places -/
def topS (i : Nat) : Stmt := PySem.Challenge.pw_ringvouch_k04_rings_or_not.main.body.getD i (.Pass ⟨0, 0, 0, 0⟩)
abbrev sWhole : Stmt := topS 4
abbrev sMark : Stmt := topS 5
abbrev sMarks : Stmt := topS 6
abbrev sIsRing : Stmt := topS 8
abbrev sIsRun : Stmt := topS 9
abbrev sNeighb : Stmt := topS 10
abbrev sMirrors : Stmt := topS 14
abbrev sSteps : Stmt := topS 15
abbrev sStep : Stmt := topS 16
abbrev sRising : Stmt := topS 17
abbrev sBehind : Stmt := topS 18
abbrev sPail : Stmt := topS 20
abbrev sDraw : Stmt := topS 21
abbrev sOf : Stmt := topS 22
abbrev sDMirrors : Stmt := topS 23
abbrev sDSteps : Stmt := topS 24
abbrev sLOff : Stmt := topS 25
abbrev sLBehind : Stmt := topS 26
abbrev sLStarts : Stmt := topS 27
abbrev sClosed : Stmt := topS 28
abbrev sRuns : Stmt := topS 29
abbrev sIsNum : Stmt := topS 30
abbrev sFormed : Stmt := topS 31
abbrev sDue : Stmt := topS 32
abbrev sOdd : Stmt := topS 33
abbrev sBent : Stmt := topS 34
abbrev sCutW : Stmt := topS 35
abbrev sAnyRuns : Stmt := topS 36
abbrev sLaw : Stmt := topS 37
abbrev sInit : Stmt := inClass (topS 13) 0
abbrev sEq : Stmt := inClass (topS 13) 4
abbrev sMarksM : Stmt := inClass (topS 13) 1
abbrev sMirrorM : Stmt := inClass (topS 13) 2
abbrev sBehindM : Stmt := inClass (topS 13) 3
/-- a def of the text as the top has left it -/
structure DefAt (K : PySem.W.Frag) (mg : Str → Option Value) (x : Str) (st : Stmt) (ps : List Str) (f : Addr) (fd : FuncData) : Prop where
  fn : Fun K x x st f fd
  bi : Binds K fd ps []
  mg : mg x = some (.ref f)
/-- the names that are the interpreter's own -/
structure Bare (mg : Str → Option Value) : Prop where
  len : mg "len" = none
  isinstance : mg "isinstance" = none
  int : mg "int" = none
  bool : mg "bool" = none
  tuple : mg "tuple" = none
  all : mg "all" = none
  enumerate : mg "enumerate" = none
  zip : mg "zip" = none
  range : mg "range" = none
  list : mg "list" = none
  set : mg "set" = none
  sorted : mg "sorted" = none
  abs : mg "abs" = none
  max : mg "max" = none
  min : mg "min" = none
  repr : mg "repr" = none
  dict : mg "dict" = none
  str : mg "str" = none
section
variable {P : Program} {w : World} {K : PySem.W.Frag} {mg : Str → Option Value} {base : Heap}
/-! ### is_whole -/
theorem scWhole : FnScope ["thing"] ["thing"] (defScope sWhole) := ⟨rfl, rfl, rfl, by decide +kernel, rfl, by decide +kernel, by decide +kernel⟩
def spWhole : Sp := fun vs H Q _ => ∃ i : Int, vs = [.int i] ∧ Q (.bl true) H
theorem ok_whole {f : Addr} {fd : FuncData} (F : Fun K "is_whole" "is_whole" sWhole f fd) (B : Bare mg) : FnOk P w K mg base CX0 1 f fd ["thing"] spWhole := by
  refine F.ok scWhole (fun vs H Q E h => ?_) (fun cdv A outer s H vs Q E hr h => ?_)
  · obtain ⟨i, rfl, _⟩ := h
    rfl
  · obtain ⟨i, rfl, q⟩ := h
    refine ⟨_, pss_one (ps_ret (pe_and (pe_callB call_isi (by rfl) B.isinstance (by decide +kernel) (pa_cons (pv 0) (pa_cons (pe_bltn (v := .ty "int") (by rfl) B.int boot_int rfl) pa_nil)))
      (pe_one (pe_not (pe_callB call_isi (by rfl) B.isinstance (by decide +kernel) (pa_cons (pv 0) (pa_cons (pe_bltn (v := .ty "bool") (by rfl) B.bool (by decide +kernel) rfl) pa_nil))))))), ?_⟩
    refine ⟨.int i, rfl, .int i, .ty "int", _, _, true, rfl, .ty "int", .base (.int i), kit_ty (by decide +kernel), true, rfl, iteT ?_⟩
    exact ⟨.int i, rfl, .int i, .ty "bool", _, _, false, rfl, .ty "bool", .base (.int i), kit_ty (by decide +kernel), false, rfl, q⟩
/-! ### is_below -/
theorem scMark : FnScope ["thing", "many"] ["thing", "many"] (defScope sMark) := ⟨rfl, rfl, rfl, by decide +kernel, rfl, by decide +kernel, by decide +kernel⟩
def spMark : Sp := fun vs H Q _ => ∃ i n : Int, vs = [.int i, .int n] ∧ 0 ≤ i ∧ i < n ∧ Q (.bl true) H
theorem ok_mark {f fW : Addr} {fd fdW : FuncData} (F : Fun K "is_below" "is_below" sMark f fd) (D : DefAt K mg "is_whole" sWhole ["thing"] fW fdW) (B : Bare mg) : FnOk P w K mg base CX0 2 f fd ["thing", "many"] spMark := by
  have GW : FnOk P w K mg base CX0 1 fW fdW ["thing"] spWhole := ok_whole D.fn B
  refine F.ok scMark (fun vs H Q E h => ?_) (fun cdv A outer s H vs Q E hr h => ?_)
  · obtain ⟨i, n, rfl, _⟩ := h
    rfl
  · obtain ⟨i, n, rfl, h1, h2, q⟩ := h
    refine ⟨_, pss_one (ps_ret (pe_and (pe_call GW hr (by rfl) D.mg D.fn.kp D.bi .nil pass0 (pa_cons (pv 0) pa_nil)) (pe_one (pe_chain op_le op_lt pe_int (pv 0) (pv 1))))), ?_⟩
    refine ⟨.int i, rfl, i, rfl, true, rfl, iteT ?_⟩
    refine ⟨.int i, rfl, 0, i, rfl, rfl, _, rfl, ?_⟩
    rw [decide_eq_true h1]
    refine iteT ⟨.int n, rfl, i, n, rfl, rfl, ?_⟩
    show Q (.bl (decide (i < n))) H
    rw [decide_eq_true h2]
    exact q
/-! ### are_marks -/
theorem scMarks : FnScope ["thing", "many", "mark"] ["thing", "many"] (defScope sMarks) := ⟨rfl, rfl, rfl, by decide +kernel, rfl, by decide +kernel, by decide +kernel⟩
def spMarks (K : PySem.W.Frag) : Sp := fun vs H Q _ => ∃ (a : Addr) (ns : List Int) (n : Int), vs = [.ref a, .int n] ∧ SqT K H a (ns.map V.int) ∧ 0 < ns.length ∧ ns.length ≤ 1000 ∧ (∀ i ∈ ns, 0 ≤ i ∧ i < n) ∧ ∀ H', Same H H' → Q (.bl true) H'
theorem ok_marks {f fM fW : Addr} {fd fdM fdW : FuncData} (F : Fun K "are_marks" "are_marks" sMarks f fd) (DM : DefAt K mg "is_below" sMark ["thing", "many"] fM fdM) (DW : DefAt K mg "is_whole" sWhole ["thing"] fW fdW) (B : Bare mg) :
    FnOk P w K mg base CX0 3 f fd ["thing", "many"] (spMarks K) := by
  have GM : FnOk P w K mg base CX0 2 fM fdM ["thing", "many"] spMark := ok_mark DM.fn DW B
  refine F.ok scMarks (fun vs H Q E h => ?_) (fun cdv A outer s H vs Q E hr h => ?_)
  · obtain ⟨a, ns, n, rfl, _⟩ := h
    rfl
  · obtain ⟨a, ns, n, rfl, hT, h0, hm, hin, q⟩ := h
    refine ⟨_, pss_one (ps_ret (pe_and (pe_callB call_isi (by rfl) B.isinstance (by decide +kernel) (pa_cons (pv 0) (pa_cons (pe_bltn (v := .ty "tuple") (by rfl) B.tuple (by decide +kernel) rfl) pa_nil)))
      (pe_and (pe_cmpR op_gt (pe_callB call_len_seq (by rfl) B.len PySem.boot_len (pa_cons (pv 0) pa_nil)) pe_int (nomark _))
      (pe_one (pe_callB (cr_all rfl) (by rfl) B.all (by decide +kernel) (pa_cons
        (pe_lc (own := [("mark", 2)]) (g := gName 2) (tt := tYes) rfl scMarks.nd (pi_tup (pv 0)) (blkOk_by (N := ["thing", "many", "mark"]) (sc := defScope sMarks) (by decide +kernel)) (fun _ _ _ _ _ => pg_name (i := 2) scMarks.nd rfl (Or.inl rfl)) (fun _ _ _ _ _ => pts_nil)
          (fun _ _ _ _ _ => pe_call GM hr (by rfl) DM.mg DM.fn.kp DM.bi .nil pass0 (pa_cons (pv 2) (pa_cons (pv 1) pa_nil)))) pa_nil)))))), ?_⟩
    refine ⟨.ref a, rfl, .ref a, .ty "tuple", _, _, true, rfl, .ty "tuple", tyT hT, kit_ty (by decide +kernel), true, rfl, iteT ?_⟩
    refine ⟨.ref a, rfl, a, _, rfl, .inr hT, _, _, rfl, rfl, decide (((ns.map V.int).length : Int) > 0), rfl, ?_⟩
    rw [decide_eq_true (show ((ns.map V.int).length : Int) > 0 by rw [List.length_map]; omega)]
    refine iteT ⟨.ref a, rfl, a, rfl, ⟨_, hT⟩, fun D nD => ?_⟩
    refine lc_tup (K := K) (a := a) (xs := ns.map V.int) (fun i H' => Same H H' ∧ H' D = some (.lst (List.replicate i (V.bl true)))) ⟨same_upd nD, upd_same⟩ (fun i H' _ p => sqT_same p.1 hT) (fun i x H' hx p => ?_) fun H' p => ?_
    · obtain ⟨m, hm', rfl⟩ := map_at hx
      have hi : i < ns.length := (List.getElem?_eq_some_iff.mp hm').1
      have hr' := hin m (List.mem_of_getElem? hm')
      refine ⟨rfl, tt_yes ⟨.int m, rfl, .int n, rfl, m, n, rfl, hr'.1, hr'.2, _, p.2, ?_, ?_, ?_⟩⟩
      · rw [List.length_replicate]; exact few1 (by omega)
      · exact fun b o e => by rw [upd_ne (ne_of_none e nD)]; exact p.1 b o e
      · rw [upd_same, rep_next]
    · rw [List.length_map, rep_bl] at p
      refine ⟨D, _, rfl, lstNew p.2, ?_⟩
      rw [all_true]
      exact q H' p.1
end
end K4
set_option maxHeartbeats 4000000
namespace K4
open PySem PySem.Spec PyProof.Rows L2 RV
/-- mirrors of one to eight marks -/
structure Mir (ns : List Int) : Prop where
  pos : 0 < ns.length
  few : ns.length ≤ 8
  inn : ∀ i ∈ ns, 0 ≤ i ∧ i < (ns.length : Int)
  back : ∀ (k : Nat) (m : Int), ns[k]? = some m → ns[m.toNat]? = some (k : Int)
/-- a rising tuple of steps, with their mirror steps -/
structure Stp (ns : List Int) (ps : List (List Int)) : Prop where
  few : ps.length ≤ 64
  pair : ∀ p ∈ ps, ∃ x y : Int, p = [x, y] ∧ (0 ≤ x ∧ x < (ns.length : Int)) ∧ (0 ≤ y ∧ y < (ns.length : Int))
  rise : ∀ (i : Nat) (p q : List Int), ps[i]? = some p → ps[i + 1]? = some q → HT.lexLt p q = true
  mirr : ∀ x y mx my : Int, [x, y] ∈ ps → ns[x.toNat]? = some mx → ns[y.toNat]? = some my → [my, mx] ∈ ps
  nd : ps.Nodup
section
variable {P : Program} {w : World} {K : PySem.W.Frag} {mg : Str → Option Value} {base : Heap}
/-! ### are_mirrors -/
theorem scMirrors : FnScope ["thing", "mark", "mirror"] ["thing"] (defScope sMirrors) := ⟨rfl, rfl, rfl, by decide +kernel, rfl, by decide +kernel, by decide +kernel⟩
def spMirrors (K : PySem.W.Frag) : Sp := fun vs H Q _ => ∃ (a : Addr) (ns : List Int), vs = [.ref a] ∧ SqT K H a (ns.map V.int) ∧ Mir ns ∧ ∀ H', Same H H' → Q (.bl true) H'
theorem ok_mirrors {f fA : Addr} {fd fdA : FuncData} {t : Tok} (F : Fun K "are_mirrors" "are_mirrors" sMirrors f fd) (DA : DefAt K mg "are_marks" sMarks ["thing", "many"] fA fdA) (GA : FnOk P w K mg base CX0 3 fA fdA ["thing", "many"] (spMarks K)) (B : Bare mg)
    (mM : mg "MOST_MARKS" = some (.int 8 t)) : FnOk P w K mg base CX0 4 f fd ["thing"] (spMirrors K) := by
  refine F.ok scMirrors (fun vs H Q E h => ?_) (fun cdv A outer s H vs Q E hr h => ?_)
  · obtain ⟨a, ns, rfl, _⟩ := h
    rfl
  · obtain ⟨a, ns, rfl, hT, hM, q⟩ := h
    refine ⟨_, pss_cons (ps_if (PW.pt (pw_or (pt_not (pt_val (pe_callB call_isi (by rfl) B.isinstance (by decide +kernel) (pa_cons (pv 0) (pa_cons (pe_bltn (v := .ty "tuple") (by rfl) B.tuple (by decide +kernel) rfl) pa_nil)))))
        (pw_or1 (pt_cmpR op_gt (pe_callB call_len_seq (by rfl) B.len PySem.boot_len (pa_cons (pv 0) pa_nil)) (pe_glob (v := .int 8) rfl mM ⟨_, rfl⟩) (nomark _))))) (pss_one (ps_ret pe_bl)) pss_nil)
      (pss_cons (ps_if (pt_not (pt_val (pe_call GA hr (by rfl) DA.mg DA.fn.kp DA.bi .nil pass0 (pa_cons (pv 0) (pa_cons (pe_callB call_len_seq (by rfl) B.len PySem.boot_len (pa_cons (pv 0) pa_nil)) pa_nil))))) (pss_one (ps_ret pe_bl)) pss_nil)
      (pss_one (ps_ret (pe_callB (cr_all rfl) (by rfl) B.all (by decide +kernel) (pa_cons
        (pe_lc (own := [("mark", 1), ("mirror", 2)]) (g := gTup K 2 (gCons (gName 1) (gCons (gName 2) gNil))) (tt := tYes) rfl scMirrors.nd (pi_enT (by rfl) B.enumerate (pa_cons (pv 0) pa_nil)) (blkOk_by (N := ["thing", "mark", "mirror"]) (sc := defScope sMirrors) (by decide +kernel))
          (fun _ _ _ _ _ => pg_tupK rfl rfl (pgs_cons (pg_name (i := 1) scMirrors.nd rfl (Or.inl rfl)) (pgs_cons (pg_name (i := 2) scMirrors.nd rfl (Or.inl rfl)) pgs_nil))) (fun _ _ _ _ _ => pts_nil)
          (fun _ _ _ _ _ => pe_cmpR op_eq (pe_ix (ix_tupK (K := K) rfl) (pv 0) (pv 2) (fun _ _ => rfl)) (pv 1) (nomark _))) pa_nil))))), ?_⟩
    refine ⟨.ref a, rfl, .ref a, .ty "tuple", _, _, true, rfl, .ty "tuple", tyT hT, kit_ty (by decide +kernel), true, rfl, iteF ?_⟩
    refine ⟨.ref a, rfl, a, _, rfl, .inr hT, _, _, rfl, rfl, decide (((ns.map V.int).length : Int) > 8), rfl, ?_⟩
    have h8 := hM.few
    rw [decide_eq_false (show ¬ ((ns.map V.int).length : Int) > 8 by rw [List.length_map]; omega)]
    refine iteF ?_
    refine ⟨.ref a, rfl, .ref a, rfl, a, _, rfl, .inr hT, a, ns, _, rfl, hT, hM.pos, by omega, fun i hi => ?_, fun H1 s1 => ⟨true, rfl, iteF ?_⟩⟩
    · rw [List.length_map]; exact hM.inn i hi
    · refine ⟨.ref a, rfl, a, _, rfl, sqT_same s1 hT, fun D nD => ?_⟩
      refine lc_it (walk_enT (K := K) (a := a) (xs := ns.map V.int)) (fun i H' => Same H1 H' ∧ H' D = some (.lst (List.replicate i (V.bl true)))) ⟨same_upd nD, upd_same⟩ (fun i H' _ p => sqT_same p.1 (sqT_same s1 hT)) (fun i x H2 H3 hi p y => ?_) fun H' p => ?_
      · obtain ⟨T, x1, x2, rfl, nT, rfl, e1, e2⟩ := y
        have e1' : x1 = .int (i : Nat) := (Option.some.inj e1).symm
        subst e1'
        obtain ⟨m, hm, rfl⟩ := map_at e2
        have hin := hM.inn m (List.mem_of_getElem? hm)
        have hil : i < ns.length := (List.getElem?_eq_some_iff.mp hm).1
        have hDT : D ≠ T := ne_of_none p.2 nT
        have sT : Same H2 (upd H2 T (.tup [.int (i : Nat), .int m])) := same_upd nT
        have hA : SqT K (upd H2 T (.tup [.int (i : Nat), .int m])) a (ns.map V.int) := sqT_same sT (sqT_same p.1 (sqT_same s1 hT))
        have gm : (ns.map V.int)[m.toNat]? = some (.int (i : Nat)) := by
          rw [List.getElem?_map, hM.back i m hm]; rfl
        refine ⟨T, _, rfl, tupNew upd_same, rfl, _, _, rfl, _, _, rfl, rfl, rfl, tt_yes ⟨.ref a, rfl, .int m, rfl, a, _, m, .int (i : Nat), rfl, rfl, hA, ?_, .int (i : Nat), rfl, rfl, _, (sT _ _ p.2), ?_, ?_, ?_⟩⟩
        · have e : m = ((m.toNat : Nat) : Int) := by omega
          rw [e]; exact atI_nat gm
        · rw [List.length_replicate]; exact few1 (by omega)
        · exact fun b o e => by rw [upd_ne (ne_of_none e nD)]; exact sT b o (p.1 b o e)
        · rw [upd_same, decide_eq_true rfl, rep_next]
      · rw [List.length_map, rep_bl] at p
        refine ⟨D, _, rfl, lstNew p.2, ?_⟩
        rw [all_true]
        exact q H' (s1.trans p.1)
end
end K4
set_option maxHeartbeats 4000000
namespace K4
open PySem PySem.Spec PyProof.Rows L2 RV
section
variable {P : Program} {w : World} {K : PySem.W.Frag} {mg : Str → Option Value} {base : Heap}
/-! ### is_step -/
theorem scStep : FnScope ["thing", "many"] ["thing", "many"] (defScope sStep) := ⟨rfl, rfl, rfl, by decide +kernel, rfl, by decide +kernel, by decide +kernel⟩
def spStep (K : PySem.W.Frag) : Sp := fun vs H Q _ => ∃ (a : Addr) (x y n : Int), vs = [.ref a, .int n] ∧ SqT K H a ([x, y].map V.int) ∧ (0 ≤ x ∧ x < n) ∧ (0 ≤ y ∧ y < n) ∧ ∀ H', Same H H' → Q (.bl true) H'
theorem ok_step {f fA : Addr} {fd fdA : FuncData} (F : Fun K "is_step" "is_step" sStep f fd) (DA : DefAt K mg "are_marks" sMarks ["thing", "many"] fA fdA) (GA : FnOk P w K mg base CX0 3 fA fdA ["thing", "many"] (spMarks K)) (B : Bare mg) :
    FnOk P w K mg base CX0 4 f fd ["thing", "many"] (spStep K) := by
  refine F.ok scStep (fun vs H Q E h => ?_) (fun cdv A outer s H vs Q E hr h => ?_)
  · obtain ⟨a, x, y, n, rfl, _⟩ := h
    rfl
  · obtain ⟨a, x, y, n, rfl, hT, hx, hy, q⟩ := h
    refine ⟨_, pss_one (ps_ret (pe_and (pe_call GA hr (by rfl) DA.mg DA.fn.kp DA.bi .nil pass0 (pa_cons (pv 0) (pa_cons (pv 1) pa_nil))) (pe_one (pe_cmpR op_eq (pe_callB call_len_seq (by rfl) B.len PySem.boot_len (pa_cons (pv 0) pa_nil)) pe_int (nomark _))))), ?_⟩
    refine ⟨.ref a, rfl, .int n, rfl, a, [x, y], n, rfl, hT, by simp, by simp, fun i hi => ?_, fun H1 s1 => ⟨true, rfl, iteT ?_⟩⟩
    · simp only [List.mem_cons, List.mem_nil_iff, or_false, List.not_mem_nil] at hi
      rcases hi with rfl | rfl
      · exact hx
      · exact hy
    · refine ⟨.ref a, rfl, a, _, rfl, .inr (sqT_same s1 hT), rfl, ?_⟩
      exact q H1 s1
/-! ### is_rising -/
theorem scRising : FnScope ["pairs", "one", "other"] ["pairs"] (defScope sRising) := ⟨rfl, rfl, rfl, by decide +kernel, rfl, by decide +kernel, by decide +kernel⟩
def spRising (K : PySem.W.Frag) : Sp := fun vs H Q _ => ∃ (a : Addr) (ps : List (List Int)), vs = [.ref a] ∧ Tups K H a ps ∧ ps.length ≤ 1000 ∧ (∀ (i : Nat) (p q : List Int), ps[i]? = some p → ps[i + 1]? = some q → HT.lexLt p q = true) ∧ ∀ H', Same H H' → Q (.bl true) H'
theorem cut1 (xs : List V) : cutV xs (some 1) none = xs.drop 1 := by
  unfold cutV
  rw [show HT.sIx xs.length 0 (some 1) = min 1 xs.length from HT.sIx_nat xs.length 0 1, HT.sIx_none]
  cases xs with
  | nil => rfl
  | cons x r =>
    rw [show min 1 (x :: r).length = 1 by rw [List.length_cons]; omega]
    show (List.take ((x :: r).length - 1) r) = r
    rw [List.length_cons, Nat.add_sub_cancel]
    exact List.take_length
theorem ok_rising {f : Addr} {fd : FuncData} (F : Fun K "is_rising" "is_rising" sRising f fd) (B : Bare mg) : FnOk P w K mg base CX0 1 f fd ["pairs"] (spRising K) := by
  refine F.ok scRising (fun vs H Q E h => ?_) (fun cdv A outer s H vs Q E hr h => ?_)
  · obtain ⟨a, ps, rfl, _⟩ := h
    rfl
  · obtain ⟨a, ps, rfl, hTT, hl, hrise, q⟩ := h
    obtain ⟨ks, rfl, hT, hks⟩ := hTT
    refine ⟨_, pss_one (ps_ret (pe_callB (cr_all rfl) (by rfl) B.all (by decide +kernel) (pa_cons
        (pe_lc (own := [("one", 1), ("other", 2)]) (g := gTup K 2 (gCons (gName 1) (gCons (gName 2) gNil))) (tt := tYes) rfl scRising.nd (RZ.pi_zipA (by rfl) B.zip (pa_cons (pv 0) (pa_cons (pe_slice sl_tupA (pv 0) (po_some pe_int) po_none) pa_nil))) (blkOk_by (N := ["pairs", "one", "other"]) (sc := defScope sRising) (by decide +kernel))
          (fun _ _ _ _ _ => pg_tupK rfl rfl (pgs_cons (pg_name (i := 1) scRising.nd rfl (Or.inl rfl)) (pgs_cons (pg_name (i := 2) scRising.nd rfl (Or.inl rfl)) pgs_nil))) (fun _ _ _ _ _ => pts_nil)
          (fun _ _ _ _ _ => pe_cmpR (op_ltTK (K := K) rfl hr.units0) (pv 1) (pv 2) (nomark _))) pa_nil))), ?_⟩
    have go : ∀ (b : Addr) (H1 : Hp) (Qc : VK), Same H H1 → SqT K H1 b ((ks.map fun p => V.ref p.1).drop 1) → (∀ D H', Same H1 H' → H' D = some (.lst (List.replicate (ks.length - 1) (V.bl true))) → Qc (.ref D) H') →
        tLc (fun _ H2 R => R (RZ.ItzT K a b) H2) (gTup K 2 (gCons (gName 1) (gCons (gName 2) gNil))) tYes (tOp (rLtT K) (tVar 1) (tVar 2)) [1, 2] (start ["pairs", "one", "other"] [.ref a]) H1 Qc := by
      intro b H1 Qc s1 hb fin D nD
      refine lc_it (walk_zipT (K := K) (a := a) (b := b) (xs := ks.map fun p => V.ref p.1) (ys := (ks.map fun p => V.ref p.1).drop 1) (n := ks.length - 1) (by rw [List.length_drop, List.length_map]; omega))
        (fun i H' => Same H1 H' ∧ H' D = some (.lst (List.replicate i (V.bl true)))) ⟨same_upd nD, upd_same⟩ (fun i H' _ p => ⟨sqT_same p.1 (sqT_same s1 hT), sqT_same p.1 hb⟩) (fun i x H2 H3 hi p y => ?_) fun H' p => fin D H' p.1 p.2
      obtain ⟨T, x1, x2, rfl, nT, rfl, e1, e2⟩ := y
      have e3 : ((ks.map fun p => V.ref p.1).drop 1)[i]? = some x2 := e2
      rw [List.getElem?_drop] at e3
      obtain ⟨k1, g1, rfl⟩ := map_at e1
      obtain ⟨k2, g2, rfl⟩ := map_at e3
      have sT : Same H2 (upd H2 T (.tup [V.ref k1.1, V.ref k2.1])) := same_upd nT
      have sA : Same H (upd H2 T (.tup [V.ref k1.1, V.ref k2.1])) := (s1.trans p.1).trans sT
      have lt : HT.lexLt k1.2 k2.2 = true := by
        refine hrise i k1.2 k2.2 ?_ ?_
        · rw [List.getElem?_map, g1]; rfl
        · rw [Nat.add_comm, List.getElem?_map, g2]; rfl
      refine ⟨T, _, rfl, tupNew upd_same, rfl, _, _, rfl, _, _, rfl, rfl, rfl, tt_yes ⟨.ref k1.1, rfl, .ref k2.1, rfl, k1.1, k2.1, k1.2, k2.2, rfl, rfl, sqT_same sA (hks k1 (List.mem_of_getElem? g1)), sqT_same sA (hks k2 (List.mem_of_getElem? g2)), _, sT _ _ p.2, ?_, ?_, ?_⟩⟩
      · rw [List.length_replicate]; rw [List.length_map] at hl; exact few1 (by omega)
      · exact fun b o e => by rw [upd_ne (ne_of_none e nD)]; exact sT b o (p.1 b o e)
      · rw [upd_same, lt, rep_next]
    have fin : ∀ (H1 : Hp), Same H H1 → ∀ D H', Same H1 H' → H' D = some (.lst (List.replicate (ks.length - 1) (V.bl true))) → ∃ (a : Addr) (bs : List Bool), [V.ref D] = [V.ref a] ∧ SqL K H' a (bs.map V.bl) ∧ Q (.bl (bs.all id)) H' := by
      intro H1 s1 D H' s2 e
      refine ⟨D, List.replicate (ks.length - 1) true, rfl, lstNew (by rw [e, rep_bl]), ?_⟩
      rw [all_true]
      exact q H' (s1.trans s2)
    refine ⟨.ref a, rfl, .ref a, rfl, 1, rfl, a, _, rfl, hT, fun hw => ?_, fun hw c nc => ?_⟩
    · have e0 : ks.map (fun p => V.ref p.1) = [] := by
        cases hk : ks.map (fun p => V.ref p.1) with
        | nil => rfl
        | cons x r =>
          rw [hk] at hw
          have h1 := hw.1
          rw [show HT.sIx (x :: r).length 0 (some 1) = min 1 (x :: r).length from HT.sIx_nat _ 0 1, List.length_cons] at h1
          omega
      refine ⟨a, a, _, _, rfl, .inr ⟨hT, hT, ?_⟩⟩
      refine go a H (fun v H2 => ∃ (a : Addr) (bs : List Bool), [v] = [V.ref a] ∧ SqL K H2 a (bs.map V.bl) ∧ Q (.bl (bs.all id)) H2) (Same.refl H) ?_ ?_
      · rw [e0]; rw [e0] at hT; exact hT
      · exact fin H (Same.refl H)
    · have s1 : Same H (upd H c (.tup (cutV (ks.map fun p => V.ref p.1) (some 1) none))) := same_upd nc
      refine ⟨a, c, _, _, rfl, .inr ⟨sqT_same s1 hT, tupNew upd_same, ?_⟩⟩
      refine go c _ (fun v H2 => ∃ (a : Addr) (bs : List Bool), [v] = [V.ref a] ∧ SqL K H2 a (bs.map V.bl) ∧ Q (.bl (bs.all id)) H2) s1 ?_ ?_
      · exact tupNew (by rw [upd_same, cut1])
      · exact fin _ s1
end
end K4
set_option maxHeartbeats 4000000
namespace K4
open PySem PySem.Spec PyProof.Rows L2 RV
/-- the marks behind m by the steps ps -/
def behindOf (ps : List (List Int)) (m : Int) : List Int := (ps.filter fun p => decide (p.getD 0 0 = m)).map fun p => p.getD 1 0
section
variable {P : Program} {w : World} {K : PySem.W.Frag} {mg : Str → Option Value} {base : Heap}
/-! ### marks_behind -/
theorem scBehind : FnScope ["steps", "mark", "a", "b"] ["steps", "mark"] (defScope sBehind) := ⟨rfl, rfl, rfl, by decide +kernel, rfl, by decide +kernel, by decide +kernel⟩
def spBehind (K : PySem.W.Frag) : Sp := fun vs H Q _ => ∃ (a : Addr) (ps : List (List Int)) (m : Int), vs = [.ref a, .int m] ∧ Tups K H a ps ∧ ps.length ≤ 1000 ∧ (∀ p ∈ ps, ∃ x y : Int, p = [x, y]) ∧
  ∀ H' t, Same H H' → H t = none → H' t = some (.tup ((behindOf ps m).map V.int)) → Q (.ref t) H'
theorem behind_next {ps : List (List Int)} {m : Int} {i : Nat} {x y : Int} (h : ps[i]? = some [x, y]) : behindOf (ps.take (i + 1)) m = behindOf (ps.take i) m ++ (if x = m then [y] else []) := by
  unfold behindOf
  rw [List.take_add_one, h]
  show List.map _ (List.filter _ (ps.take i ++ [[x, y]])) = _
  rw [List.filter_append, List.map_append]
  by_cases e : x = m
  · simp [e]
  · simp [e]
theorem behind_len (ps : List (List Int)) (m : Int) : (behindOf ps m).length ≤ ps.length := by
  unfold behindOf
  rw [List.length_map]
  exact List.length_filter_le _ _
theorem ok_behind {f : Addr} {fd : FuncData} (F : Fun K "marks_behind" "marks_behind" sBehind f fd) (B : Bare mg) : FnOk P w K mg base CX0 1 f fd ["steps", "mark"] (spBehind K) := by
  refine F.ok scBehind (fun vs H Q E h => ?_) (fun cdv A outer s H vs Q E hr h => ?_)
  · obtain ⟨a, ps, m, rfl, _⟩ := h
    rfl
  · obtain ⟨a, ps, m, rfl, hTT, hl, hp, q⟩ := h
    obtain ⟨ks, rfl, hT, hks⟩ := hTT
    refine ⟨_, pss_one (ps_ret (pe_tupleOf (by rfl) B.tuple
        (pe_lc (own := [("a", 2), ("b", 3)]) (g := gTup K 2 (gCons (gName 2) (gCons (gName 3) gNil))) rfl scBehind.nd (pi_tup (pv 0)) (blkOk_by (N := ["steps", "mark", "a", "b"]) (sc := defScope sBehind) (by decide +kernel))
          (fun _ _ _ _ _ => pg_tupK rfl rfl (pgs_cons (pg_name (i := 2) scBehind.nd rfl (Or.inl rfl)) (pgs_cons (pg_name (i := 3) scBehind.nd rfl (Or.inl rfl)) pgs_nil))) (fun _ _ _ _ _ => pts_one (pt_cmpR op_eq (pv 2) (pv 1) (nomark _)))
          (fun _ _ _ _ _ => pv 3)))), ?_⟩
    refine ⟨.ref a, rfl, a, rfl, ⟨_, hT⟩, fun D nD => ?_⟩
    refine lc_tup (K := K) (a := a) (xs := ks.map fun p => V.ref p.1) (fun i H' => Same H H' ∧ H' D = some (.lst ((behindOf ((ks.map (·.2)).take i) m).map V.int))) ⟨same_upd nD, by rw [upd_same]; rfl⟩ (fun i H' _ p => sqT_same p.1 hT) (fun i x H' hx p => ?_) fun H' p => ?_
    · obtain ⟨k, g, rfl⟩ := map_at hx
      have hk : k ∈ ks := List.mem_of_getElem? g
      obtain ⟨x, y, e⟩ := hp k.2 (List.mem_map_of_mem hk)
      have hkT : SqT K H' k.1 ([x, y].map V.int) := by rw [← e]; exact sqT_same p.1 (hks k hk)
      have gi : (ks.map (·.2))[i]? = some [x, y] := by rw [List.getElem?_map, g, ← e]; rfl
      refine ⟨k.1, _, rfl, hkT, rfl, _, _, rfl, _, _, rfl, rfl, rfl, .int x, rfl, .int m, rfl, rfl, _, rfl, ?_⟩
      have hle := behind_len ((ks.map (·.2)).take i) m
      rw [List.length_take] at hle
      by_cases e : x = m
      · subst e
        rw [decide_eq_true rfl]
        refine iteT ⟨.int y, rfl, _, p.2, ?_, ?_, ?_⟩
        · rw [List.length_map]; exact few1 (by omega)
        · exact fun b o z => by rw [upd_ne (ne_of_none z nD)]; exact p.1 b o z
        · rw [upd_same, behind_next gi, if_pos rfl, List.map_append]; rfl
      · rw [decide_eq_false (fun z => e (V.int.inj z))]
        refine iteF ⟨p.1, ?_⟩
        rw [p.2, behind_next gi, if_neg e, List.append_nil]
    · rw [List.length_map] at p
      have e : (ks.map (·.2)).take ks.length = ks.map (·.2) := List.take_of_length_le (by rw [List.length_map]; exact Nat.le_refl _)
      rw [e] at p
      refine .inl ⟨D, _, rfl, lstNew p.2, fun t nt => ?_⟩
      exact q _ t (p.1.trans (same_upd nt)) (p.1.free nt) upd_same
/-! ### are_steps -/
theorem scSteps : FnScope ["mirrors", "thing", "pair", "a", "b"] ["mirrors", "thing"] (defScope sSteps) := ⟨rfl, rfl, rfl, by decide +kernel, rfl, by decide +kernel, by decide +kernel⟩
def spSteps (K : PySem.W.Frag) : Sp := fun vs H Q _ => ∃ (a b : Addr) (ns : List Int) (ps : List (List Int)), vs = [.ref a, .ref b] ∧ SqT K H a (ns.map V.int) ∧ Tups K H b ps ∧ Mir ns ∧ Stp ns ps ∧ ∀ H', Same H H' → Q (.bl true) H'
theorem ok_steps {f fS fR : Addr} {fd fdS fdR : FuncData} (F : Fun K "are_steps" "are_steps" sSteps f fd) (DS : DefAt K mg "is_step" sStep ["thing", "many"] fS fdS) (GS : FnOk P w K mg base CX0 4 fS fdS ["thing", "many"] (spStep K))
    (DR : DefAt K mg "is_rising" sRising ["pairs"] fR fdR) (B : Bare mg) : FnOk P w K mg base CX0 5 f fd ["mirrors", "thing"] (spSteps K) := by
  have GR : FnOk P w K mg base CX0 1 fR fdR ["pairs"] (spRising K) := ok_rising DR.fn B
  refine F.ok scSteps (fun vs H Q E h => ?_) (fun cdv A outer s H vs Q E hr h => ?_)
  · obtain ⟨a, b, ns, ps, rfl, _⟩ := h
    rfl
  · obtain ⟨a, b, ns, ps, rfl, hA, hTT, hM, hS, q⟩ := h
    have hTT0 := hTT
    obtain ⟨ks, rfl, hT, hks⟩ := hTT
    have h64 := hS.few
    rw [List.length_map] at h64
    refine ⟨_, pss_cons (ps_if (pt_not (pt_val (pe_callB call_isi (by rfl) B.isinstance (by decide +kernel) (pa_cons (pv 1) (pa_cons (pe_bltn (v := .ty "tuple") (by rfl) B.tuple (by decide +kernel) rfl) pa_nil))))) (pss_one (ps_ret pe_bl)) pss_nil)
      (pss_cons (ps_if (pt_not (pt_val (pe_callB (cr_all rfl) (by rfl) B.all (by decide +kernel) (pa_cons
        (pe_lc (own := [("pair", 2)]) (g := gName 2) (tt := tYes) rfl scSteps.nd (pi_tup (pv 1)) (blkOk_by (N := ["mirrors", "thing", "pair", "a", "b"]) (sc := defScope sSteps) (by decide +kernel)) (fun _ _ _ _ _ => pg_name (i := 2) scSteps.nd rfl (Or.inl rfl)) (fun _ _ _ _ _ => pts_nil)
          (fun _ _ _ _ _ => pe_call GS hr (by rfl) DS.mg DS.fn.kp DS.bi .nil pass0 (pa_cons (pv 2) (pa_cons (pe_callB (call_lenK (K := K) rfl) (by rfl) B.len PySem.boot_len (pa_cons (pv 0) pa_nil)) pa_nil)))) pa_nil)))) (pss_one (ps_ret pe_bl)) pss_nil)
      (pss_cons (ps_if (pt_not (pt_val (pe_call GR (hr.mono (by decide)) (by rfl) DR.mg DR.fn.kp DR.bi .nil pass0 (pa_cons (pv 1) pa_nil)))) (pss_one (ps_ret pe_bl)) pss_nil)
      (pss_one (ps_ret (pe_callB (cr_all rfl) (by rfl) B.all (by decide +kernel) (pa_cons
        (pe_lc (own := [("a", 3), ("b", 4)]) (g := gTup K 2 (gCons (gName 3) (gCons (gName 4) gNil))) (tt := tYes) rfl scSteps.nd (pi_tup (pv 1)) (blkOk_by (N := ["mirrors", "thing", "pair", "a", "b"]) (sc := defScope sSteps) (by decide +kernel))
          (fun _ _ _ _ _ => pg_tupK rfl rfl (pgs_cons (pg_name (i := 3) scSteps.nd rfl (Or.inl rfl)) (pgs_cons (pg_name (i := 4) scSteps.nd rfl (Or.inl rfl)) pgs_nil))) (fun _ _ _ _ _ => pts_nil)
          (fun _ _ _ _ _ => pe_cmpR (op_inTsK (K := K) rfl (un65 hr)) (pe_tup (pa_cons (pe_ix (ix_tupK (K := K) rfl) (pv 0) (pv 4) (fun _ _ => rfl)) (pa_cons (pe_ix (ix_tupK (K := K) rfl) (pv 0) (pv 3) (fun _ _ => rfl)) pa_nil))) (pv 1) (by rfl))) pa_nil)))))), ?_⟩
    -- isinstance(thing, tuple)
    refine ⟨.ref b, rfl, .ref b, .ty "tuple", _, _, true, rfl, .ty "tuple", tyT hT, kit_ty (by decide +kernel), true, rfl, iteF ?_⟩
    -- all of them are steps
    refine ⟨.ref b, rfl, b, rfl, ⟨_, hT⟩, fun D nD => ?_⟩
    refine lc_tup (K := K) (a := b) (xs := ks.map fun p => V.ref p.1) (fun i H' => Same H H' ∧ H' D = some (.lst (List.replicate i (V.bl true)))) ⟨same_upd nD, upd_same⟩ (fun i H' _ p => sqT_same p.1 hT) (fun i x H' hx p => ?_) fun H1 p => ?_
    · obtain ⟨k, g, rfl⟩ := map_at hx
      have hk : k ∈ ks := List.mem_of_getElem? g
      have hi : i < ks.length := (List.getElem?_eq_some_iff.mp g).1
      obtain ⟨x, y, e, hx1, hy1⟩ := hS.pair k.2 (List.mem_map_of_mem hk)
      have hkT : SqT K H' k.1 ([x, y].map V.int) := by rw [← e]; exact sqT_same p.1 (hks k hk)
      refine ⟨rfl, tt_yes ⟨.ref k.1, rfl, .ref a, rfl, a, _, rfl, .inr (sqT_same p.1 hA), k.1, x, y, _, rfl, hkT, ?_, ?_, fun H2 s2 => ⟨_, s2 _ _ p.2, ?_, ?_, ?_⟩⟩⟩
      · rw [List.length_map]; exact hx1
      · rw [List.length_map]; exact hy1
      · rw [List.length_replicate]; exact few1 (by omega)
      · exact fun c o z => by rw [upd_ne (ne_of_none z nD)]; exact s2 c o (p.1 c o z)
      · rw [upd_same, rep_next]
    · rw [rep_bl] at p
      refine ⟨D, _, rfl, lstNew p.2, ?_⟩
      rw [all_true]
      refine ⟨true, rfl, iteF ?_⟩
      -- they rise
      refine ⟨.ref b, rfl, b, _, rfl, hTT0.same p.1, by rw [List.length_map]; omega, hS.rise, fun H2 s2 => ⟨true, rfl, iteF ?_⟩⟩
      have s02 : Same H H2 := p.1.trans s2
      -- their mirror steps
      refine ⟨.ref b, rfl, b, rfl, ⟨_, sqT_same s02 hT⟩, fun D2 nD2 => ?_⟩
      refine lc_tup (K := K) (a := b) (xs := ks.map fun p => V.ref p.1) (fun i H' => Same H2 H' ∧ H' D2 = some (.lst (List.replicate i (V.bl true)))) ⟨same_upd nD2, upd_same⟩ (fun i H' _ p => sqT_same p.1 (sqT_same s02 hT)) (fun i x H' hx p => ?_) fun H3 p => ?_
      · obtain ⟨k, g, rfl⟩ := map_at hx
        have hk : k ∈ ks := List.mem_of_getElem? g
        have hi : i < ks.length := (List.getElem?_eq_some_iff.mp g).1
        obtain ⟨x, y, e, hx1, hy1⟩ := hS.pair k.2 (List.mem_map_of_mem hk)
        have s0' : Same H H' := s02.trans p.1
        have hkT : SqT K H' k.1 ([x, y].map V.int) := by rw [← e]; exact sqT_same s0' (hks k hk)
        obtain ⟨mx, gx⟩ : ∃ mx, ns[x.toNat]? = some mx := ⟨_, List.getElem?_eq_getElem (by omega)⟩
        obtain ⟨my, gy⟩ : ∃ my, ns[y.toNat]? = some my := ⟨_, List.getElem?_eq_getElem (by omega)⟩
        have hin : [my, mx] ∈ ks.map (·.2) := hS.mirr x y mx my (by rw [← e]; exact List.mem_map_of_mem hk) gx gy
        have ax : atI (ns.map V.int) x = some (.int mx) := by
          rw [show x = ((x.toNat : Nat) : Int) by omega]; exact atI_nat (by rw [List.getElem?_map, gx]; rfl)
        have ay : atI (ns.map V.int) y = some (.int my) := by
          rw [show y = ((y.toNat : Nat) : Int) by omega]; exact atI_nat (by rw [List.getElem?_map, gy]; rfl)
        refine ⟨k.1, _, rfl, hkT, rfl, _, _, rfl, _, _, rfl, rfl, rfl, tt_yes ⟨.ref a, rfl, .int y, rfl, a, _, y, _, rfl, rfl, sqT_same s0' hA, ay, .ref a, rfl, .int x, rfl, a, _, x, _, rfl, rfl, sqT_same s0' hA, ax, (by show 2 ≤ sizeLine; decide), fun T nT => ?_⟩⟩
        have sT : Same H' (upd H' T (.tup [.int my, .int mx])) := same_upd nT
        refine ⟨.ref b, rfl, T, b, [my, mx], _, rfl, rfl, tupNew upd_same, (hTT0.same s0').same sT, _, sT _ _ p.2, ?_, ?_, ?_⟩
        · rw [List.length_replicate]; exact few1 (by omega)
        · exact fun c o z => by rw [upd_ne (ne_of_none z nD2)]; exact sT c o (p.1 c o z)
        · rw [upd_same, decide_eq_true hin, rep_next]
      · rw [rep_bl] at p
        refine ⟨D2, _, rfl, lstNew p.2, ?_⟩
        rw [all_true]
        exact q H3 (s02.trans p.1)
end
end K4
set_option maxHeartbeats 4000000
namespace K4
open PySem PySem.Spec PyProof.Rows L2 RV
/-! ### a Rule's fields -/
theorem n1 : ¬ (("mirrors" : Str) = "steps") := by decide +kernel
theorem n2 : ¬ (("mirrors" : Str) = "followers") := by decide +kernel
theorem n3 : ¬ (("steps" : Str) = "followers") := by decide +kernel
def flds (a b t : Addr) : List (Str × V) := putF "followers" (.ref t) (putF "steps" (.ref b) (putF "mirrors" (.ref a) []))
theorem flds_m (a b t : Addr) : (flds a b t).lookup ("mirrors" : Str) = some (.ref a) := by
  unfold flds
  rw [lookup_putF, if_neg n2, lookup_putF, if_neg n1, lookup_putF, if_pos rfl]
theorem flds_s (a b t : Addr) : (flds a b t).lookup ("steps" : Str) = some (.ref b) := by
  unfold flds
  rw [lookup_putF, if_neg n3, lookup_putF, if_pos rfl]
/-- all that a mark is followed by, mark by mark -/
def follow (n : Nat) (ps : List (List Int)) : List (List Int) := (List.range n).map fun (i : Nat) => behindOf ps (i : Int)
/-- a Rule stands at p -/
structure RuleAt (K : PySem.W.Frag) (C : Addr) (H : Hp) (p : Addr) (ns : List Int) (ps : List (List Int)) : Prop where
  ex : ∃ dx a b t, H p = some (.ins C dx (flds a b t)) ∧ SqT K H a (ns.map V.int) ∧ Tups K H b ps ∧ Tups K H t (follow ns.length ps)
theorem RuleAt.same {K : PySem.W.Frag} {C : Addr} {H H' : Hp} {p : Addr} {ns : List Int} {ps : List (List Int)} (r : RuleAt K C H p ns ps) (s : Same H H') : RuleAt K C H' p ns ps := by
  obtain ⟨dx, a, b, t, h1, h2, h3, h4⟩ := r.ex
  exact ⟨dx, a, b, t, s _ _ h1, sqT_same s h2, h3.same s, h4.same s⟩
/-- what the class is, behind the top -/
structure Txt (K : PySem.W.Frag) (mg : Str → Option Value) (C : Addr) : Prop where
  cl : Cls K C
  nM : NoAttr K C "mirrors"
  nS : NoAttr K C "steps"
  nF : NoAttr K C "followers"
  mgC : mg "Rule" = some (.ref C)
  c1 : PySem.W.findIn K (.ref C) "__class__" = some (some (.builtin "object.__class__"))
  c2 : PySem.W.specialIn K (.builtin "object.__class__") "__get__" = some (some (.builtin "getset_descriptor.__get__"))
  c3 : PySem.W.takesIn K (.builtin "object.__class__") = some true
  c4 : PySem.W.mroIn K C (.type "object") = some true
  c5 : PySem.W.kitOne K (.ref C) (.ref C) = some true
section
variable {P : Program} {w : World} {K : PySem.W.Frag} {mg : Str → Option Value} {base : Heap}
/-! ### __init__ -/
theorem scInit : FnScope ["self", "mirrors", "steps", "mark"] ["self", "mirrors", "steps"] (defScope sInit) := ⟨rfl, rfl, rfl, by decide +kernel, rfl, by decide +kernel, by decide +kernel⟩
def spInit (K : PySem.W.Frag) (C : Addr) : Sp := fun vs H Q _ => ∃ (p dx a b : Addr) (ns : List Int) (ps : List (List Int)), vs = [.ref p, .ref a, .ref b] ∧ H p = some (.ins C dx []) ∧ SqT K H a (ns.map V.int) ∧ Tups K H b ps ∧ Mir ns ∧ Stp ns ps ∧
  ∀ H' t, (∀ c o, H c = some o → c ≠ p → H' c = some o) → H' p = some (.ins C dx (flds a b t)) → Tups K H' t (follow ns.length ps) → Q .non H'
theorem sqT_but {H H' : Hp} {p C dx : Addr} {fs : List (Str × V)} (hp : H p = some (.ins C dx fs)) (k : ∀ c o, H c = some o → c ≠ p → H' c = some o) {a : Addr} {xs : List V} (h : SqT K H a xs) : SqT K H' a xs := by
  rcases h with (h | ⟨o, h⟩) | h
  · exact .inl (.inl (k _ _ h fun z => by rw [z, hp] at h; cases h))
  · exact .inl (.inr ⟨o, k _ _ h fun z => by rw [z, hp] at h; cases h⟩)
  · exact .inr h
theorem tups_but {H H' : Hp} {p C dx : Addr} {fs : List (Str × V)} (hp : H p = some (.ins C dx fs)) (k : ∀ c o, H c = some o → c ≠ p → H' c = some o) {a : Addr} {ps : List (List Int)} (h : Tups K H a ps) : Tups K H' a ps := by
  obtain ⟨ks, h1, h2, h3⟩ := h
  exact ⟨ks, h1, sqT_but hp k h2, fun q hq => sqT_but hp k (h3 q hq)⟩
theorem follow_next (i : Nat) (ps : List (List Int)) : follow (i + 1) ps = follow i ps ++ [behindOf ps (i : Int)] := by
  unfold follow
  rw [List.range_succ, List.map_append]; rfl
theorem ok_init {f fM fS fB C : Addr} {fd fdM fdS fdB : FuncData} (F : Fun K "__init__" "Rule.__init__" sInit f fd) (T : Txt K mg C)
    (DM : DefAt K mg "are_mirrors" sMirrors ["thing"] fM fdM) (GM : FnOk P w K mg base CX0 4 fM fdM ["thing"] (spMirrors K)) (DS : DefAt K mg "are_steps" sSteps ["mirrors", "thing"] fS fdS) (GS : FnOk P w K mg base CX0 5 fS fdS ["mirrors", "thing"] (spSteps K))
    (DB : DefAt K mg "marks_behind" sBehind ["steps", "mark"] fB fdB) (B : Bare mg) : FnOk P w K mg base CX0 6 f fd ["self", "mirrors", "steps"] (spInit K C) := by
  have GB : FnOk P w K mg base CX0 1 fB fdB ["steps", "mark"] (spBehind K) := ok_behind DB.fn B
  refine F.ok scInit (fun vs H Q E h => ?_) (fun cdv A outer s H vs Q E hr h => ?_)
  · obtain ⟨p, dx, a, b, ns, ps, rfl, _⟩ := h
    rfl
  · obtain ⟨p, dx, a, b, ns, ps, rfl, hp, hA, hB, hM, hS, q⟩ := h
    refine ⟨_, pss_cons (ps_if (pt_not (pt_val (pe_call GM (hr.mono (by decide)) (by rfl) DM.mg DM.fn.kp DM.bi .nil pass0 (pa_cons (pv 1) pa_nil)))) (pss_one ps_never) pss_nil)
      (pss_cons (ps_if (pt_not (pt_val (pe_call GS hr (by rfl) DS.mg DS.fn.kp DS.bi .nil pass0 (pa_cons (pv 1) (pa_cons (pv 2) pa_nil))))) (pss_one ps_never) pss_nil)
      (pss_cons (ps_fld (pv 0) (pv 1) rfl)
      (pss_cons (ps_fld (pv 0) (pv 2) rfl)
      (pss_one (ps_fld (pv 0) (pe_tupleOf (by rfl) B.tuple
        (pe_lc (own := [("mark", 3)]) (g := gName 3) (tt := tYes) rfl scInit.nd (pi_range1 (by rfl) B.range (pa_cons (pe_callB call_len_seq (by rfl) B.len PySem.boot_len (pa_cons (pv 1) pa_nil)) pa_nil)) (blkOk_by (N := ["self", "mirrors", "steps", "mark"]) (sc := defScope sInit) (by decide +kernel))
          (fun _ _ _ _ _ => pg_name (i := 3) scInit.nd rfl (Or.inl rfl)) (fun _ _ _ _ _ => pts_nil)
          (fun _ _ _ _ _ => pe_call GB (hr.mono (by decide)) (by rfl) DB.mg DB.fn.kp DB.bi .nil pass0 (pa_cons (pv 2) (pa_cons (pv 3) pa_nil))))) rfl))))), ?_⟩
    refine ⟨.ref a, rfl, a, ns, rfl, hA, hM, fun H1 s1 => ⟨true, rfl, iteF ?_⟩⟩
    refine ⟨.ref a, rfl, .ref b, rfl, a, b, ns, ps, rfl, sqT_same s1 hA, hB.same s1, hM, hS, fun H2 s2 => ⟨true, rfl, iteF ?_⟩⟩
    have s02 : Same H H2 := s1.trans s2
    have hp2 := s02 _ _ hp
    refine ⟨.ref a, rfl, .ref p, rfl, p, C, dx, [], rfl, hp2, T.cl, T.nM, (by show 0 < 1000; decide), ?_⟩
    refine ⟨.ref b, rfl, .ref p, rfl, p, C, dx, _, rfl, upd_same, T.cl, T.nS, (by show 1 < 1000; decide), ?_⟩
    -- the heap behind both stores
    have k4 : ∀ c o, H2 c = some o → c ≠ p → (upd (upd H2 p (.ins C dx (putF "mirrors" (.ref a) []))) p (.ins C dx (putF "steps" (.ref b) (putF "mirrors" (.ref a) [])))) c = some o := fun c o e z => by
      rw [upd_ne z, upd_ne z]; exact e
    generalize e4 : upd (upd H2 p (.ins C dx (putF "mirrors" (.ref a) []))) p (.ins C dx (putF "steps" (.ref b) (putF "mirrors" (.ref a) []))) = H4 at k4 ⊢
    have hp4 : H4 p = some (.ins C dx (putF "steps" (.ref b) (putF "mirrors" (.ref a) []))) := by rw [← e4, upd_same]
    have hA4 : SqT K H4 a (ns.map V.int) := sqT_but hp2 k4 (sqT_same s02 hA)
    have hB4 : Tups K H4 b ps := tups_but hp2 k4 (hB.same s02)
    have h8 := hM.few
    refine ⟨.ref a, rfl, a, _, rfl, .inr hA4, _, rfl, ?_, ?_, fun D nD => ?_⟩
    · rw [List.length_map]; omega
    · rw [List.length_map]; omega
    rw [List.length_map, Int.toNat_natCast]
    refine lc_range (lo := 0) (n := ns.length) (fun i H' => Same H4 H' ∧ ∃ ks : List (Addr × List Int), ks.map (·.2) = follow i ps ∧ H' D = some (.lst (ks.map fun p => V.ref p.1)) ∧ ∀ q ∈ ks, SqT K H' q.1 (q.2.map V.int)) ⟨same_upd nD, [], rfl, upd_same, fun _ z => nomatch z⟩ (fun i H' hi z => ?_) fun H' z => ?_
    · obtain ⟨s5, ks, e1, e2, e3⟩ := z
      have hkl : ks.length = i := by
        have := congrArg List.length e1
        rw [List.length_map] at this
        rw [this]; unfold follow; rw [List.length_map, List.length_range]
      refine ⟨rfl, tt_yes ⟨.ref b, rfl, .int (0 + (i : Nat)), rfl, b, ps, _, rfl, hB4.same s5, by have := hS.few; omega, fun q hq => ?_, fun H6 t s6 nt et => ⟨_, s6 _ _ e2, ?_, ?_, ?_⟩⟩⟩
      · obtain ⟨x, y, e, _⟩ := hS.pair q hq
        exact ⟨x, y, e⟩
      · rw [List.length_map]; exact few1 (by omega)
      · exact fun c o e => by rw [upd_ne (ne_of_none e nD)]; exact s6 c o (s5 c o e)
      · have hk6 : ∀ c o, H6 c = some o → c ≠ D → (upd H6 D (.lst ((ks.map fun p => V.ref p.1) ++ [V.ref t]))) c = some o := fun c o e z => by rw [upd_ne z]; exact e
        have tk : ∀ {c : Addr} {xs : List V}, SqT K H6 c xs → SqT K (upd H6 D (.lst ((ks.map fun p => V.ref p.1) ++ [V.ref t]))) c xs := by
          intro c xs h
          have eD := s6 _ _ e2
          rcases h with (h | ⟨o, h⟩) | h
          · exact .inl (.inl (hk6 _ _ h fun z => by rw [z, eD] at h; cases h))
          · exact .inl (.inr ⟨o, hk6 _ _ h fun z => by rw [z, eD] at h; cases h⟩)
          · exact .inr h
        refine ⟨ks ++ [(t, behindOf ps (i : Int))], ?_, ?_, fun q hq => ?_⟩
        · rw [List.map_append, e1, follow_next]; rfl
        · rw [upd_same, List.map_append]; rfl
        · rcases List.mem_append.mp hq with z | z
          · exact tk (sqT_same s6 (e3 q z))
          · rw [List.mem_singleton.mp z]
            refine tk (tupNew ?_)
            rw [et, show (0 + ((i : Nat) : Int)) = (i : Int) by omega]
    · obtain ⟨s5, ks, e1, e2, e3⟩ := z
      refine .inl ⟨D, _, rfl, lstNew e2, fun t nt => ?_⟩
      have sT : Same H' (upd H' t (.tup (ks.map fun p => V.ref p.1))) := same_upd nt
      have hpT := sT _ _ (s5 _ _ hp4)
      refine ⟨.ref p, rfl, p, C, dx, _, rfl, hpT, T.cl, T.nF, (by
        show (putF "steps" (V.ref b) (putF "mirrors" (V.ref a) [])).length < 1000
        show (if ("mirrors" : Str) = "steps" then [(("mirrors" : Str), V.ref b)] else (("mirrors" : Str), V.ref a) :: putF "steps" (V.ref b) []).length < 1000
        rw [if_neg n1]; show 2 < 1000; decide), ?_⟩
      refine q _ t (fun c o e z => ?_) upd_same ?_
      · rw [upd_ne z]
        exact sT _ _ (s5 _ _ (k4 _ _ (s02 _ _ e) z))
      · have tt : Tups K (upd H' t (.tup (ks.map fun p => V.ref p.1))) t (follow ns.length ps) := ⟨ks, e1, tupNew upd_same, fun q hq => sqT_same sT (e3 q hq)⟩
        exact tups_but hpT (fun c o e z => by rw [upd_ne z]; exact e) tt
end
end K4
namespace RV
open PySem L2
/-! ### lists that rise -/
theorem sorted_eq {α : Type} {f : α → Int} : ∀ {l l' : List α}, l.Pairwise (fun a b => f a < f b) → l'.Pairwise (fun a b => f a < f b) → (∀ x, x ∈ l ↔ x ∈ l') → l = l'
  | [], [], _, _, _ => rfl
  | [], y :: r, _, _, h => nomatch (h y).mpr (List.mem_cons_self ..)
  | x :: r, [], _, _, h => nomatch (h x).mp (List.mem_cons_self ..)
  | x :: l, y :: l', h1, h2, h => by
    rw [List.pairwise_cons] at h1 h2
    have exy : x = y := by
      rcases List.mem_cons.mp ((h x).mp (List.mem_cons_self ..)) with e | e
      · exact e
      · rcases List.mem_cons.mp ((h y).mpr (List.mem_cons_self ..)) with e' | e'
        · exact e'.symm
        · have := h2.1 x e
          have := h1.1 y e'
          omega
    subst exy
    rw [sorted_eq h1.2 h2.2 fun z => ⟨fun hz => ?_, fun hz => ?_⟩]
    · rcases List.mem_cons.mp ((h z).mp (List.mem_cons_of_mem _ hz)) with e | e
      · have := h1.1 z hz
        rw [e] at this; omega
      · exact e
    · rcases List.mem_cons.mp ((h z).mpr (List.mem_cons_of_mem _ hz)) with e | e
      · have := h2.1 z hz
        rw [e] at this; omega
      · exact e
theorem nodup_le {α : Type} [DecidableEq α] : ∀ {l us : List α}, l.Nodup → (∀ x ∈ l, x ∈ us) → l.length ≤ us.length
  | [], _, _, _ => Nat.zero_le _
  | x :: l, us, h, hs => by
    rw [List.nodup_cons] at h
    have hx := hs x (List.mem_cons_self ..)
    have ih : l.length ≤ (us.erase x).length := nodup_le h.2 fun z hz => by
      refine (List.mem_erase_of_ne fun e => ?_).mpr (hs z (List.mem_cons_of_mem _ hz))
      subst e; exact h.1 hz
    have hl := List.length_erase_of_mem hx
    have hp : 0 < us.length := List.length_pos_of_mem hx
    rw [List.length_cons]; omega
/-! ### pairs -/
/-- a pair of marks below b -/
def Pr (b : Int) (p : List Int) : Prop := ∃ x y : Int, p = [x, y] ∧ (0 ≤ x ∧ x < b) ∧ (0 ≤ y ∧ y < b)
abbrev cd (p : List Int) : Int := TS.code 64 p
theorem cd_pair (x y : Int) : cd [x, y] = x * 64 + y := code_pair x y
theorem lt_lex {p q : List Int} (hp : Pr 64 p) (hq : Pr 64 q) (h : cd p < cd q) : HT.lexLt p q = true := by
  obtain ⟨x, y, rfl, hx, hy⟩ := hp
  obtain ⟨x', y', rfl, hx', hy'⟩ := hq
  rw [cd_pair, cd_pair] at h
  rw [HT.lexLt_cons, HT.lexLt_cons, HT.lexLt_nil_nil]
  by_cases e : x = x'
  · rw [if_pos e]
    have : y < y' := by omega
    rw [if_neg (by omega)]; exact decide_eq_true this
  · rw [if_neg e]; exact decide_eq_true (by omega)
theorem lt_of {p q : List Int} (hp : Pr 64 p) (hq : Pr 64 q) (h : cd p ≤ cd q) (ne : p ≠ q) : cd p < cd q := by
  obtain ⟨x, y, rfl, hx, hy⟩ := hp
  obtain ⟨x', y', rfl, hx', hy'⟩ := hq
  have z := pair_lt h ne hx hy hx' hy'
  rw [cd_pair, cd_pair]
  omega
theorem Pr.mono {b c : Int} {p : List Int} (h : Pr b p) (hbc : b ≤ c) : Pr c p := by
  obtain ⟨x, y, e, hx, hy⟩ := h
  exact ⟨x, y, e, by omega, by omega⟩
theorem sorted_lt {l : List (List Int)} (hb : ∀ p ∈ l, Pr 64 p) (nd : l.Nodup) (h : l.Pairwise fun p q => cd p ≤ cd q) : l.Pairwise fun p q => cd p < cd q := by
  have h2 := List.Pairwise.and h nd
  exact List.Pairwise.imp_of_mem (fun {p q} hp hq z => lt_of (hb p hp) (hb q hq) z.1 z.2) h2
theorem adj_rise {l : List (List Int)} (hb : ∀ p ∈ l, Pr 64 p) (h : l.Pairwise fun p q => cd p < cd q) (i : Nat) (p q : List Int) (h1 : l[i]? = some p) (h2 : l[i + 1]? = some q) : HT.lexLt p q = true := by
  obtain ⟨l1, e1⟩ := List.getElem?_eq_some_iff.mp h1
  obtain ⟨l2, e2⟩ := List.getElem?_eq_some_iff.mp h2
  have := List.pairwise_iff_getElem.mp h i (i + 1) l1 l2 (Nat.lt_succ_self _)
  rw [e1, e2] at this
  exact lt_lex (hb p (List.mem_of_getElem? h1)) (hb q (List.mem_of_getElem? h2)) this
/-! ### all pairs, row by row -/
def rowOf (d : Int) (Pd : Int → Int → Bool) (i n : Nat) : List (List Int) := ((List.range n).filter fun (j : Nat) => Pd (i : Int) (j : Int)).map fun (j : Nat) => [d + (i : Int), d + (j : Int)]
def gridOf (d : Int) (Pd : Int → Int → Bool) (m n : Nat) : List (List Int) := (List.range n).flatMap fun (i : Nat) => rowOf d Pd i m
theorem row_next (d : Int) (Pd : Int → Int → Bool) (i n : Nat) : rowOf d Pd i (n + 1) = rowOf d Pd i n ++ (if Pd (i : Int) (n : Int) = true then [[d + (i : Int), d + (n : Int)]] else []) := by
  unfold rowOf
  rw [List.range_succ, List.filter_append, List.map_append]
  by_cases h : Pd (i : Int) (n : Int) = true <;> simp [h]
theorem grid_next (d : Int) (Pd : Int → Int → Bool) (m n : Nat) : gridOf d Pd m (n + 1) = gridOf d Pd m n ++ rowOf d Pd n m := by
  unfold gridOf
  rw [List.range_succ, List.flatMap_append]; simp
theorem row_len (d : Int) (Pd : Int → Int → Bool) (i n : Nat) : (rowOf d Pd i n).length ≤ n := by
  unfold rowOf
  rw [List.length_map]
  exact Nat.le_trans (List.length_filter_le _ _) (by rw [List.length_range]; exact Nat.le_refl _)
theorem grid_len (d : Int) (Pd : Int → Int → Bool) (m : Nat) : ∀ n, (gridOf d Pd m n).length ≤ n * m
  | 0 => by simp [gridOf]
  | n + 1 => by
    have h := grid_len d Pd m n
    have h2 := row_len d Pd n m
    rw [grid_next, List.length_append, Nat.succ_mul]; omega
theorem mem_row {d : Int} {Pd : Int → Int → Bool} {i n : Nat} {p : List Int} : p ∈ rowOf d Pd i n ↔ ∃ j : Nat, j < n ∧ Pd (i : Int) (j : Int) = true ∧ p = [d + (i : Int), d + (j : Int)] := by
  unfold rowOf
  rw [List.mem_map]
  constructor
  · rintro ⟨j, hj, e⟩
    rw [List.mem_filter, List.mem_range] at hj
    exact ⟨j, hj.1, hj.2, e.symm⟩
  · rintro ⟨j, h1, h2, e⟩
    exact ⟨j, List.mem_filter.mpr ⟨List.mem_range.mpr h1, h2⟩, e.symm⟩
theorem mem_grid {d : Int} {Pd : Int → Int → Bool} {m n : Nat} {p : List Int} : p ∈ gridOf d Pd m n ↔ ∃ i j : Nat, i < n ∧ j < m ∧ Pd (i : Int) (j : Int) = true ∧ p = [d + (i : Int), d + (j : Int)] := by
  unfold gridOf
  rw [List.mem_flatMap]
  constructor
  · rintro ⟨i, hi, hp⟩
    obtain ⟨j, h1, h2, h3⟩ := mem_row.mp hp
    exact ⟨i, j, List.mem_range.mp hi, h1, h2, h3⟩
  · rintro ⟨i, j, h1, h2, h3, h4⟩
    exact ⟨i, List.mem_range.mpr h1, mem_row.mpr ⟨j, h2, h3, h4⟩⟩
theorem grid_rise {d : Int} {Pd : Int → Int → Bool} {m n : Nat} (hd : 0 ≤ d) (hm : d + (m : Int) ≤ 64) : (gridOf d Pd m n).Pairwise fun p q => cd p < cd q := by
  unfold gridOf
  rw [List.pairwise_flatMap]
  refine ⟨fun i _ => ?_, ?_⟩
  · unfold rowOf
    rw [List.pairwise_map]
    refine List.Pairwise.imp (fun {a b} (h : a < b) => ?_) (List.Pairwise.filter _ List.pairwise_lt_range)
    rw [cd_pair, cd_pair]; omega
  · refine List.Pairwise.imp (fun {a b} (h : a < b) x hx y hy => ?_) List.pairwise_lt_range
    obtain ⟨j, h1, _, rfl⟩ := mem_row.mp hx
    obtain ⟨k, h2, _, rfl⟩ := mem_row.mp hy
    rw [cd_pair, cd_pair]; omega
theorem grid_pr {d : Int} {Pd : Int → Int → Bool} {m n : Nat} {b : Int} (hd : 0 ≤ d) (hm : d + (m : Int) ≤ b) (hn : d + (n : Int) ≤ b) : ∀ p ∈ gridOf d Pd m n, Pr b p := by
  intro p hp
  obtain ⟨i, j, h1, h2, _, rfl⟩ := mem_grid.mp hp
  exact ⟨_, _, rfl, by omega, by omega⟩
end RV
namespace K4
open PySem PySem.Spec PyProof.Rows L2 RV
def rgI (a b : Int) : List Int := (List.range (b - a).toNat).map fun (i : Nat) => a + (i : Int)
theorem rgV_rgI (a b : Int) : rgV a b = (rgI a b).map V.int := by
  unfold rgV rgI
  rw [List.map_map]; rfl
theorem rgI_len (a b : Int) : (rgI a b).length = (b - a).toNat := by unfold rgI; rw [List.length_map, List.length_range]
theorem rgI_get {a b : Int} {k : Nat} {m : Int} : (rgI a b)[k]? = some m ↔ k < (b - a).toNat ∧ m = a + (k : Int) := by
  unfold rgI
  rw [List.getElem?_map]
  by_cases h : k < (b - a).toNat
  · rw [List.getElem?_range h]
    simp [h, eq_comm]
  · rw [List.getElem?_eq_none (by rw [List.length_range]; omega)]
    simp [h]
/-! ### mirrors drawn: fs so far, ls the marks left -/
structure Half (m : Nat) (fs ls : List Int) : Prop where
  len : fs.length = m
  inn : ∀ (k : Nat) (x : Int), fs[k]? = some x → 0 ≤ x ∧ x < (m : Int)
  back : ∀ (k : Nat) (x : Int), fs[k]? = some x → fs[x.toNat]? = some (k : Int)
  nd : ls.Nodup
  lin : ∀ x ∈ ls, 0 ≤ x ∧ x < (m : Int)
  self : ∀ x ∈ ls, fs[x.toNat]? = some x
theorem half_start (m : Nat) : Half m (rgI 0 (m : Int)) (rgI 0 (m : Int)) := by
  have mem : ∀ x ∈ rgI 0 (m : Int), 0 ≤ x ∧ x < (m : Int) := fun x hx => by
    obtain ⟨k, hk, e⟩ := List.getElem_of_mem hx
    have z : (rgI 0 (m : Int))[k]? = some x := by rw [List.getElem?_eq_getElem hk, e]
    rw [rgI_get] at z; omega
  refine ⟨by rw [rgI_len]; omega, fun k x h => ?_, fun k x h => ?_, ?_, mem, fun x hx => ?_⟩
  · rw [rgI_get] at h; omega
  · rw [rgI_get] at h ⊢; omega
  · unfold rgI
    refine List.Pairwise.map _ (fun a b (h : a < b) => ?_) List.pairwise_lt_range
    omega
  · have := mem x hx
    rw [rgI_get]; omega
theorem half_drop {m : Nat} {fs ls : List Int} {x : Int} (h : Half m fs (x :: ls)) : Half m fs ls :=
  ⟨h.len, h.inn, h.back, (List.nodup_cons.mp h.nd).2, fun y hy => h.lin y (List.mem_cons_of_mem _ hy), fun y hy => h.self y (List.mem_cons_of_mem _ hy)⟩
theorem not_in_erase : ∀ {ls : List Int} {r : Nat} {z : Int}, ls.Nodup → ls[r]? = some z → z ∉ ls.eraseIdx r
  | [], _, _, _, h => by simp at h
  | a :: l, 0, z, nd, h => by
    have e : a = z := Option.some.inj h
    subst e
    exact (List.nodup_cons.mp nd).1
  | a :: l, r + 1, z, nd, h => by
    have h' : l[r]? = some z := h
    intro hz
    rcases List.mem_cons.mp (show z ∈ a :: l.eraseIdx r from hz) with e | e
    · exact (List.nodup_cons.mp nd).1 (e ▸ List.mem_of_getElem? h')
    · exact not_in_erase (List.nodup_cons.mp nd).2 h' e
theorem half_pair {m : Nat} {fs ls : List Int} {x y : Int} {r : Nat} (h : Half m fs (x :: ls)) (hy : ls[r]? = some y) : Half m ((fs.set x.toNat y).set y.toNat x) (ls.eraseIdx r) := by
  have hx := h.lin x (List.mem_cons_self ..)
  have hyl : y ∈ ls := List.mem_of_getElem? hy
  have hy1 := h.lin y (List.mem_cons_of_mem _ hyl)
  have hxy : x ≠ y := fun e => (List.nodup_cons.mp h.nd).1 (e ▸ hyl)
  have sx := h.self x (List.mem_cons_self ..)
  have sy := h.self y (List.mem_cons_of_mem _ hyl)
  have hl := h.len
  have nxy : x.toNat ≠ y.toNat := by omega
  have get : ∀ k : Nat, ((fs.set x.toNat y).set y.toNat x)[k]? = if y.toNat = k then (if k < m then some x else none) else if x.toNat = k then (if k < m then some y else none) else fs[k]? := fun k => by
    rw [List.getElem?_set, List.getElem?_set, List.length_set, hl]
    by_cases e1 : y.toNat = k
    · simp [e1]
    · by_cases e2 : x.toNat = k
      · simp [e1, e2]
      · simp [e1, e2]
  have sub : ∀ z ∈ ls.eraseIdx r, z ∈ ls := fun z hz => List.mem_of_mem_eraseIdx hz
  refine ⟨by rw [List.length_set, List.length_set]; exact hl, fun k z hz => ?_, fun k z hz => ?_, ?_, fun z hz => h.lin z (List.mem_cons_of_mem _ (sub z hz)), fun z hz => ?_⟩
  · rw [get] at hz
    split at hz
    · split at hz
      · cases hz; exact hx
      · cases hz
    · split at hz
      · split at hz
        · cases hz; exact hy1
        · cases hz
      · exact h.inn k z hz
  · rw [get] at hz
    split at hz
    · rename_i e1
      split at hz
      · cases hz
        rw [get, if_neg (by omega), if_pos rfl, if_pos (by omega)]
        congr 1; omega
      · cases hz
    · rename_i e1
      split at hz
      · rename_i e2
        split at hz
        · cases hz
          rw [get, if_pos rfl, if_pos (by omega)]
          congr 1; omega
        · cases hz
      · rename_i e2
        have b1 := h.back k z hz
        have i1 := h.inn k z hz
        have n1 : y.toNat ≠ z.toNat := fun e => by
          have : z = y := by omega
          subst this
          rw [sy] at b1
          have := Option.some.inj b1
          omega
        have n2 : x.toNat ≠ z.toNat := fun e => by
          have : z = x := by omega
          subst this
          rw [sx] at b1
          have := Option.some.inj b1
          omega
        rw [get, if_neg n1, if_neg n2]; exact b1
  · exact List.Nodup.sublist (List.eraseIdx_sublist ls r) (List.nodup_cons.mp h.nd).2
  · have hzl := sub z hz
    have z1 := h.lin z (List.mem_cons_of_mem _ hzl)
    have zx : z ≠ x := fun e => (List.nodup_cons.mp h.nd).1 (e ▸ hzl)
    have zy : z ≠ y := fun e => by
      subst e
      exact not_in_erase (List.nodup_cons.mp h.nd).2 hy hz
    rw [get, if_neg (by omega), if_neg (by omega)]
    exact h.self z (List.mem_cons_of_mem _ hzl)
theorem half_mir {m : Nat} {fs : List Int} (h : Half m fs []) (h1 : 1 ≤ m) (h8 : m ≤ 8) : Mir fs := by
  have hl := h.len
  refine ⟨by omega, by omega, fun x hx => ?_, h.back⟩
  obtain ⟨k, hk, e⟩ := List.getElem_of_mem hx
  have := h.inn k x (by rw [List.getElem?_eq_getElem hk, e])
  omega
end K4
set_option maxHeartbeats 4000000
namespace K4
open PySem PySem.Spec PyProof.Rows L2 RV
/-- a pail of numbers stands at p, t have been mixed -/
def PailAt (H : Hp) (p : Addr) (t : Nat) : Prop := ∃ x y : Int, H p = some (.lst [.int x, .int y, .int (t : Int)]) ∧ 0 ≤ x ∧ 0 ≤ y ∧ y < 2147483629
/-- all stands but what is at p -/
def But (p : Addr) (H H' : Hp) : Prop := ∀ c o, H c = some o → c ≠ p → H' c = some o
theorem But.refl (p : Addr) (H : Hp) : But p H H := fun _ _ e _ => e
theorem But.trans {p : Addr} {H H1 H2 : Hp} (a : But p H H1) (b : But p H1 H2) : But p H H2 := fun c o e z => b c o (a c o e z) z
theorem But.of {p : Addr} {H H' : Hp} (s : Same H H') : But p H H' := fun c o e _ => s c o e
section
variable {P : Program} {w : World} {K : PySem.W.Frag} {mg : Str → Option Value} {base : Heap}
/-! ### _law_pail -/
theorem scPail : FnScope ["_law_script", "_law_at", "_law_cell", "_law_own"] ["_law_script", "_law_at"] (defScope sPail) := ⟨rfl, rfl, rfl, by decide +kernel, rfl, by decide +kernel, by decide +kernel⟩
def spPail (K : PySem.W.Frag) : Sp := fun vs H Q _ => ∃ (a : Addr) (ns : List Int) (k : Nat), vs = [.ref a, .int (k : Int)] ∧ SqL K H a (ns.map V.int) ∧ k < 64 ∧ ∀ H' p, Same H H' → H p = none → PailAt H' p 0 → Q (.ref p) H'
theorem flag01 (b : Bool) : -(2 ^ 64) < (if b = true then (1 : Int) else 0) ∧ (if b = true then (1 : Int) else 0) < 2 ^ 64 := by cases b <;> decide
theorem mul_flag {x : Int} (h : 0 ≤ x) (b : Bool) : 0 ≤ x * (if b = true then (1 : Int) else 0) := by
  cases b
  · show 0 ≤ x * 0
    rw [Int.mul_zero]; exact Int.le_refl _
  · show 0 ≤ x * 1
    rw [Int.mul_one]; exact h
theorem pow60 : ((10 : Int) ^ (60 : Int).toNat).natAbs < 2 ^ 200 := by decide +kernel
theorem pow120 : ((10 : Int) ^ (60 : Int).toNat * (10 : Int) ^ (60 : Int).toNat).natAbs < 2 ^ 400 := by decide +kernel
theorem pow180 : (0 : Int) < (10 : Int) ^ (60 : Int).toNat * (10 : Int) ^ (60 : Int).toNat * (10 : Int) ^ (60 : Int).toNat := by decide +kernel
theorem ok_pail {f : Addr} {fd : FuncData} (F : Fun K "_law_pail" "_law_pail" sPail f fd) (B : Bare mg) : FnOk P w K mg base CX0 1 f fd ["_law_script", "_law_at"] (spPail K) := by
  refine F.ok scPail (fun vs H Q E h => ?_) (fun cdv A outer s H vs Q E hr h => ?_)
  · obtain ⟨a, ns, k, rfl, _⟩ := h
    rfl
  · obtain ⟨a, ns, k, rfl, hS, hk, q⟩ := h
    refine ⟨_, pss_cons (ps_set (i := 2) scPail.nd rfl (Or.inl rfl) (pe_ifExp (pt_cmpR op_lt (pv 1) (pe_callB call_len_seq (by rfl) B.len PySem.boot_len (pa_cons (pv 0) pa_nil)) (nomark _)) (pe_ix ix_list (pv 0) (pv 1) (fun _ _ => rfl)) (pe_op op_add (pe_op op_mul pe_int (pv 1)) pe_int)))
      (pss_cons (ps_set (i := 3) scPail.nd rfl (Or.inl rfl) (pe_op op_mod (pe_callB call_abs (by rfl) B.abs (by decide +kernel) (pa_cons (pv 2) pa_nil)) (pe_op op_mulW (pe_op op_mulW (pe_op op_pow pe_int pe_int) (pe_op op_pow pe_int pe_int)) (pe_op op_pow pe_int pe_int))))
      (pss_one (ps_ret (pe_lst (pa_cons (pe_op op_mul (pv 3) (pe_callTy call_int1 (by rfl) B.int boot_int (pa_cons (pe_cmpR op_ge (pe_callB call_abs (by rfl) B.abs (by decide +kernel) (pa_cons (pv 2) pa_nil)) (pe_op op_pow pe_int pe_int) (nomark _)) pa_nil)))
        (pa_cons (pe_op op_mod (pe_op op_mul (pe_op op_add (pe_op op_add (pe_op op_mod (pv 2) pe_int) (pe_op op_mul pe_int (pv 1))) pe_int) pe_int) pe_int) (pa_cons pe_int pa_nil))))))), ?_⟩
    refine ⟨.int (k : Int), rfl, .ref a, rfl, a, _, rfl, .inl hS, (k : Int), _, rfl, rfl, _, rfl, ?_⟩
    refine ite2 (fun hlt => ?_) (fun _ => ?_)
    · have hkl : k < ns.length := by
        have z := of_decide_eq_true hlt
        rw [List.length_map] at z; omega
      refine ⟨.ref a, rfl, .int (k : Int), rfl, a, _, (k : Int), .int ns[k], rfl, rfl, hS, atI_nat (by rw [List.getElem?_map, List.getElem?_eq_getElem hkl]; rfl), ?_⟩
      refine ⟨_, rfl, ns[k], rfl, 10, 60, rfl, rfl, ⟨by decide, by decide, by decide⟩, 10, 60, rfl, rfl, ⟨by decide, by decide, by decide⟩, _, _, rfl, rfl, wide_mul pow60 pow60 (by decide) (by decide) (by decide), 10, 60, rfl, rfl, ⟨by decide, by decide, by decide⟩, _, _, rfl, rfl, wide_mul pow120 pow60 (by decide) (by decide) (by decide), _, _, rfl, rfl, pow180, ?_⟩
      have own0 := Int.emod_nonneg (if ns[k] < 0 then -ns[k] else ns[k]) (Int.ne_of_gt pow180)
      refine ⟨_, rfl, _, rfl, ns[k], rfl, 10, 18, rfl, rfl, ⟨by decide, by decide, by decide⟩, _, _, rfl, rfl, .inr ⟨_, rfl, _, _, rfl, rfl, .inr ?_, _, rfl, ns[k], 2305843009213693951, rfl, rfl, (show (0 : Int) < 2305843009213693951 by decide), .int (k : Int), rfl, 7877, (k : Int), rfl, rfl, .inl ⟨by decide, by decide⟩, _, _, rfl, rfl, _, 29, rfl, rfl, _, 39373, rfl, rfl, .inr ⟨by decide, by decide⟩, _, 2147483629, rfl, rfl, (show (0 : Int) < 2147483629 by decide), ?_, fun p np => ?_⟩⟩
      · exact flag01 _
      · show 3 ≤ sizeLine; decide
      · refine q _ p (same_upd np) np ⟨_, _, upd_same, ?_, Int.emod_nonneg _ (by decide), Int.emod_lt_of_pos _ (by decide)⟩
        exact mul_flag own0 _
    · refine ⟨.int (k : Int), rfl, 11, (k : Int), rfl, rfl, .inl ⟨by decide, by decide⟩, _, 5, rfl, rfl, ?_⟩
      refine ⟨_, rfl, (11 * (k : Int) + 5), rfl, 10, 60, rfl, rfl, ⟨by decide, by decide, by decide⟩, 10, 60, rfl, rfl, ⟨by decide, by decide, by decide⟩, _, _, rfl, rfl, wide_mul pow60 pow60 (by decide) (by decide) (by decide), 10, 60, rfl, rfl, ⟨by decide, by decide, by decide⟩, _, _, rfl, rfl, wide_mul pow120 pow60 (by decide) (by decide) (by decide), _, _, rfl, rfl, pow180, ?_⟩
      have own0 := Int.emod_nonneg (if (11 * (k : Int) + 5) < 0 then -(11 * (k : Int) + 5) else (11 * (k : Int) + 5)) (Int.ne_of_gt pow180)
      refine ⟨_, rfl, _, rfl, (11 * (k : Int) + 5), rfl, 10, 18, rfl, rfl, ⟨by decide, by decide, by decide⟩, _, _, rfl, rfl, .inr ⟨_, rfl, _, _, rfl, rfl, .inr ?_, _, rfl, (11 * (k : Int) + 5), 2305843009213693951, rfl, rfl, (show (0 : Int) < 2305843009213693951 by decide), .int (k : Int), rfl, 7877, (k : Int), rfl, rfl, .inl ⟨by decide, by decide⟩, _, _, rfl, rfl, _, 29, rfl, rfl, _, 39373, rfl, rfl, .inr ⟨by decide, by decide⟩, _, 2147483629, rfl, rfl, (show (0 : Int) < 2147483629 by decide), ?_, fun p np => ?_⟩⟩
      · exact flag01 _
      · show 3 ≤ sizeLine; decide
      · refine q _ p (same_upd np) np ⟨_, _, upd_same, ?_, Int.emod_nonneg _ (by decide), Int.emod_lt_of_pos _ (by decide)⟩
        exact mul_flag own0 _
end
end K4
set_option maxHeartbeats 4000000
namespace K4
open PySem PySem.Spec PyProof.Rows L2 RV
section
variable {P : Program} {w : World} {K : PySem.W.Frag} {mg : Str → Option Value} {base : Heap}
/-! ### _law_draw -/
theorem scDraw : FnScope ["_law_pail_here", "_law_many", "_law_told", "_law_turn", "_law_prime", "_law_mixed"] ["_law_pail_here", "_law_many"] (defScope sDraw) := ⟨rfl, rfl, rfl, by decide +kernel, rfl, by decide +kernel, by decide +kernel⟩
def spDraw : Sp := fun vs H Q _ => ∃ (p : Addr) (t : Nat) (m : Int), vs = [.ref p, .int m] ∧ PailAt H p t ∧ t ≤ 2000 ∧ 1 ≤ m ∧ m ≤ 1000000 ∧
  ∀ (r : Int) (t' : Nat) (H' : Hp), 0 ≤ r → r < m → t' ≤ t + 1 → PailAt H' p t' → But p H H' → Q (.int r) H'
theorem primes_at (t : Int) (h : 0 ≤ t) : ∃ v : Int, atI [V.int 2147483587, V.int 2147483579, V.int 2147483563, V.int 2147483549, V.int 2147483543] (t % 5) = some (.int v) ∧ 0 < v ∧ v < 2147483648 := by
  have h5 : t % 5 = 0 ∨ t % 5 = 1 ∨ t % 5 = 2 ∨ t % 5 = 3 ∨ t % 5 = 4 := by omega
  rcases h5 with e | e | e | e | e <;> rw [e] <;> exact ⟨_, rfl, by decide, by decide⟩
theorem ix3 (j : Nat) (h : j < 3) : ixN 3 (j : Int) = some j := by
  rcases (show j = 0 ∨ j = 1 ∨ j = 2 by omega) with e | e | e <;> subst e <;> rfl
theorem ok_draw {f : Addr} {fd : FuncData} (F : Fun K "_law_draw" "_law_draw" sDraw f fd) : FnOk P w K mg base CX0 1 f fd ["_law_pail_here", "_law_many"] spDraw := by
  refine F.ok scDraw (fun vs H Q E h => ?_) (fun cdv A outer s H vs Q E hr h => ?_)
  · obtain ⟨p, t, m, rfl, _⟩ := h
    rfl
  · obtain ⟨p, t, m, rfl, ⟨x, y, hp, hx, hy0, hy1⟩, ht, hm1, hm2, q⟩ := h
    refine ⟨_, pss_cons (ps_if (pt_cmpR op_gt (pe_ix ix_list (pv 0) pe_int (fun _ _ => rfl)) pe_int (nomark _))
        (pss_cons (ps_set (i := 2) scDraw.nd rfl (Or.inl rfl) (pe_op op_mod (pe_ix ix_list (pv 0) pe_int (fun _ _ => rfl)) (pv 1)))
        (pss_cons (ps_asg (pe_op op_fdiv (pe_ix ix_list (pv 0) pe_int (fun _ _ => rfl)) (pv 1)) (pg_sub (pv 0) pe_int set_list))
        (pss_one (ps_ret (pv 2))))) pss_nil)
      (pss_cons (ps_asg (pe_op op_add (pe_ix ix_list (pv 0) pe_int (fun _ _ => rfl)) pe_int) (pg_sub (pv 0) pe_int set_list))
      (pss_cons (ps_set (i := 3) scDraw.nd rfl (Or.inl rfl) (pe_ix ix_list (pv 0) pe_int (fun _ _ => rfl)))
      (pss_cons (ps_set (i := 4) scDraw.nd rfl (Or.inl rfl) (pe_ix ix_list (pe_lst (pa_cons pe_int (pa_cons pe_int (pa_cons pe_int (pa_cons pe_int (pa_cons pe_int pa_nil)))))) (pe_op op_mod (pv 3) pe_int) (fun _ _ => rfl)))
      (pss_cons (ps_set (i := 5) scDraw.nd rfl (Or.inl rfl) (pe_op op_mod (pe_op op_pow (pe_op op_add (pe_op op_add (pe_ix ix_list (pv 0) pe_int (fun _ _ => rfl)) (pe_op op_mul (pe_op op_mul pe_int (pv 3)) (pv 3))) (pe_op op_mul pe_int (pv 3))) pe_int) (pv 4)))
      (pss_one (ps_ret (pe_op op_mod (pe_op op_fdiv (pe_op op_mod (pe_op op_mul (pv 5) (pe_op op_add (pe_op op_add (pe_op op_mod (pv 5) pe_int) (pv 3)) pe_int)) (pv 4)) pe_int) (pv 1)))))))), ?_⟩
    refine ⟨.ref p, rfl, p, _, 0, .int x, rfl, rfl, lstNew hp, rfl, x, 0, rfl, rfl, _, rfl, ite2 (fun hx0 => ?_) (fun _ => ?_)⟩
    · refine ⟨.ref p, rfl, p, _, 0, .int x, rfl, rfl, lstNew hp, rfl, .int m, rfl, x, m, rfl, rfl, (show 0 < m by omega), ?_⟩
      refine ⟨.ref p, rfl, p, _, 0, .int x, rfl, rfl, lstNew hp, rfl, .int m, rfl, x, m, rfl, rfl, ⟨by omega, by omega⟩, .ref p, rfl, p, _, 0, 0, rfl, rfl, hp, rfl, ?_⟩
      refine ⟨_, rfl, ?_⟩
      exact q (x % m) t _ (Int.emod_nonneg _ (by omega)) (Int.emod_lt_of_pos _ (by omega)) (by omega) ⟨x / m, y, upd_same, Int.ediv_nonneg hx (by omega), hy0, hy1⟩ fun c o e z => by rw [upd_ne z]; exact e
    · refine ⟨.ref p, rfl, p, _, 2, .int (t : Int), rfl, rfl, lstNew hp, rfl, (t : Int), 1, rfl, rfl, .ref p, rfl, p, _, 2, 2, rfl, rfl, hp, rfl, ?_⟩
      have hp1 : (upd H p (.lst [.int x, .int y, .int ((t : Int) + 1)])) p = some (.lst [.int x, .int y, .int ((t : Int) + 1)]) := upd_same
      have b1 : But p H (upd H p (.lst [.int x, .int y, .int ((t : Int) + 1)])) := fun c o e z => by rw [upd_ne z]; exact e
      refine ⟨.ref p, rfl, p, _, 2, .int ((t : Int) + 1), rfl, rfl, lstNew upd_same, rfl, ?_⟩
      obtain ⟨v, hv, v0, v1⟩ := primes_at ((t : Int) + 1) (by omega)
      refine ⟨(by show 5 ≤ sizeLine; decide), fun l nl => ⟨.int ((t : Int) + 1), rfl, (t : Int) + 1, 5, rfl, rfl, (show (0 : Int) < 5 by decide), l, _, _, .int v, rfl, rfl, lstNew upd_same, hv, ?_⟩⟩
      have s2 := same_upd (H := upd H p (.lst [.int x, .int y, .int ((t : Int) + 1)])) (o := .lst [.int 2147483587, .int 2147483579, .int 2147483563, .int 2147483549, .int 2147483543]) nl
      have hp2 := s2 _ _ hp1
      have tt : 0 ≤ ((t : Int) + 1) ∧ ((t : Int) + 1) ≤ 2001 := by omega
      have sq : 6151 * ((t : Int) + 1) * ((t : Int) + 1) ≤ 6151 * 2001 * 2001 := by
        have h1 : 6151 * ((t : Int) + 1) ≤ 6151 * 2001 := by omega
        exact Int.mul_le_mul h1 tt.2 tt.1 (by decide)
      have sq0 : 0 ≤ 6151 * ((t : Int) + 1) * ((t : Int) + 1) := Int.mul_nonneg (by omega) tt.1
      refine ⟨.ref p, rfl, p, _, 1, .int y, rfl, rfl, lstNew hp2, rfl, .int ((t : Int) + 1), rfl, 6151, _, rfl, rfl, .inl ⟨by decide, by decide⟩, .int ((t : Int) + 1), rfl, _, _, rfl, rfl, .inl ⟨by omega, by omega⟩, y, _, rfl, rfl, .int ((t : Int) + 1), rfl, 17, _, rfl, rfl, .inl ⟨by decide, by decide⟩, _, _, rfl, rfl, _, 3, rfl, rfl, ⟨by decide, by decide, ?_⟩, .int v, rfl, _, v, rfl, rfl, v0, ?_⟩
      · show (y + 6151 * ((t : Int) + 1) * ((t : Int) + 1) + 17 * ((t : Int) + 1)).natAbs < 2 ^ 64
        omega
      have z0 := Int.emod_nonneg ((y + 6151 * ((t : Int) + 1) * ((t : Int) + 1) + 17 * ((t : Int) + 1)) ^ (3 : Int).toNat) (show v ≠ 0 by omega)
      have z1 := Int.emod_lt_of_pos ((y + 6151 * ((t : Int) + 1) * ((t : Int) + 1) + 17 * ((t : Int) + 1)) ^ (3 : Int).toNat) v0
      refine ⟨_, rfl, _, rfl, _, 1009, rfl, rfl, (show (0 : Int) < 1009 by decide), .int ((t : Int) + 1), rfl, _, _, rfl, rfl, _, 1, rfl, rfl, _, _, rfl, rfl, .inl ?_, .int v, rfl, _, v, rfl, rfl, v0, _, 19, rfl, rfl, ⟨by decide, by decide⟩, .int m, rfl, _, m, rfl, rfl, (show 0 < m by omega), ?_⟩
      · exact ⟨by omega, by omega⟩
      · exact q _ (t + 1) _ (Int.emod_nonneg _ (by omega)) (Int.emod_lt_of_pos _ (by omega)) (Nat.le_refl _) ⟨x, y, hp2, hx, hy0, hy1⟩ (b1.trans (But.of s2))
end
end K4
set_option maxHeartbeats 4000000
namespace K4
open PySem PySem.Spec PyProof.Rows L2 RV
/-! ### what a draw leaves -/
theorem sqT_pail {K : PySem.W.Frag} {H H' : Hp} {p : Addr} {t : Nat} (hp : PailAt H p t) (b : But p H H') {a : Addr} {xs : List V} (h : SqT K H a xs) : SqT K H' a xs := by
  obtain ⟨x, y, e, _⟩ := hp
  rcases h with (h | ⟨o, h⟩) | h
  · exact .inl (.inl (b _ _ h fun z => by rw [z, e] at h; cases h))
  · exact .inl (.inr ⟨o, b _ _ h fun z => by rw [z, e] at h; cases h⟩)
  · exact .inr h
theorem sqL_but {K : PySem.W.Frag} {H H' : Hp} {p a : Addr} (b : But p H H') (n : a ≠ p) {xs : List V} (h : SqL K H a xs) : SqL K H' a xs := by
  rcases h with (h | ⟨o, h⟩) | h
  · exact .inl (.inl (b _ _ h n))
  · exact .inl (.inr ⟨o, b _ _ h n⟩)
  · exact .inr h
theorem tups_pail {K : PySem.W.Frag} {H H' : Hp} {p : Addr} {t : Nat} (hp : PailAt H p t) (b : But p H H') {a : Addr} {ps : List (List Int)} (h : Tups K H a ps) : Tups K H' a ps := by
  obtain ⟨ks, h1, h2, h3⟩ := h
  exact ⟨ks, h1, sqT_pail hp b h2, fun q hq => sqT_pail hp b (h3 q hq)⟩
theorem same_but {p : Addr} {H H1 H2 : Hp} (s : Same H H1) (n : H p = none) (b : But p H1 H2) : Same H H2 := fun c o e => b c o (s c o e) (ne_of_none e n)
theorem pail_same {p : Addr} {H H' : Hp} {t : Nat} (h : PailAt H p t) (s : Same H H') : PailAt H' p t := by
  obtain ⟨x, y, e, r⟩ := h
  exact ⟨x, y, s _ _ e, r⟩
theorem pail_new {p a : Addr} {H : Hp} {o : HO} {t : Nat} (h : PailAt H p t) (n : H a = none) : PailAt (upd H a o) p t := pail_same h (same_upd n)
theorem pail_set {p l : Addr} {H : Hp} {o : HO} {t : Nat} (h : PailAt H p t) (n : l ≠ p) : PailAt (upd H l o) p t := by
  obtain ⟨x, y, e, r⟩ := h
  exact ⟨x, y, by rw [upd_ne n.symm]; exact e, r⟩
theorem pail_ne {p a : Addr} {H : Hp} {t : Nat} (h : PailAt H p t) (n : H a = none) : a ≠ p := by
  obtain ⟨x, y, e, r⟩ := h
  exact (ne_of_none e n).symm
section
variable {P : Program} {w : World} {K : PySem.W.Frag} {mg : Str → Option Value} {base : Heap}
/-! ### _law_of -/
theorem scOf : FnScope ["_law_pail_here", "_law_some"] ["_law_pail_here", "_law_some"] (defScope sOf) := ⟨rfl, rfl, rfl, by decide +kernel, rfl, by decide +kernel, by decide +kernel⟩
def spOf (K : PySem.W.Frag) : Sp := fun vs H Q _ => ∃ (p a : Addr) (t : Nat) (xs : List V), vs = [.ref p, .ref a] ∧ PailAt H p t ∧ t ≤ 2000 ∧ SqL K H a xs ∧ a ≠ p ∧ 0 < xs.length ∧ xs.length ≤ 1000 ∧
  ∀ (j : Nat) (v : V) (t' : Nat) (H' : Hp), xs[j]? = some v → t' ≤ t + 1 → PailAt H' p t' → But p H H' → Q v H'
theorem ok_of {f fD : Addr} {fd fdD : FuncData} (F : Fun K "_law_of" "_law_of" sOf f fd) (DD : DefAt K mg "_law_draw" sDraw ["_law_pail_here", "_law_many"] fD fdD) (B : Bare mg) : FnOk P w K mg base CX0 2 f fd ["_law_pail_here", "_law_some"] (spOf K) := by
  have GD : FnOk P w K mg base CX0 1 fD fdD ["_law_pail_here", "_law_many"] spDraw := ok_draw DD.fn
  refine F.ok scOf (fun vs H Q E h => ?_) (fun cdv A outer s H vs Q E hr h => ?_)
  · obtain ⟨p, a, t, xs, rfl, _⟩ := h
    rfl
  · obtain ⟨p, a, t, xs, rfl, hp, ht, hS, hne, h0, h1, q⟩ := h
    refine ⟨_, pss_one (ps_ret (pe_ix ix_list (pv 1) (pe_call GD hr (by rfl) DD.mg DD.fn.kp DD.bi .nil pass0 (pa_cons (pv 0) (pa_cons (pe_callB call_len_seq (by rfl) B.len PySem.boot_len (pa_cons (pv 1) pa_nil)) pa_nil))) (fun _ _ => rfl))), ?_⟩
    refine ⟨.ref a, rfl, .ref p, rfl, .ref a, rfl, a, xs, rfl, .inl hS, p, t, (xs.length : Int), rfl, hp, ht, by omega, by omega, fun r t1 H1 r0 r1 ht1 hp1 b1 => ?_⟩
    obtain ⟨v, hv⟩ : ∃ v, xs[r.toNat]? = some v := ⟨_, List.getElem?_eq_getElem (by omega)⟩
    refine ⟨a, xs, r, v, rfl, rfl, sqL_but b1 hne hS, ?_, q r.toNat v t1 H1 hv ht1 hp1 b1⟩
    rw [show r = ((r.toNat : Nat) : Int) by omega]
    exact atI_nat hv
theorem erase_map {α β : Type} (f : α → β) : ∀ (l : List α) (i : Nat), (l.map f).eraseIdx i = (l.eraseIdx i).map f
  | [], _ => rfl
  | a :: l, 0 => rfl
  | a :: l, i + 1 => by
    show f a :: (l.map f).eraseIdx i = f a :: (l.eraseIdx i).map f
    rw [erase_map f l i]
theorem ix_at {n : Nat} {i : Int} (h1 : i < (n : Int)) (h0 : 0 ≤ i) : ixN n i = some i.toNat := by
  unfold ixN
  rw [if_pos h0, if_pos h1]
/-! ### _law_mirrors -/
theorem scDMirrors : FnScope ["_law_pail_here", "_law_many", "_law_left", "_law_found", "_law_mark", "_law_other"] ["_law_pail_here", "_law_many"] (defScope sDMirrors) := ⟨rfl, rfl, rfl, by decide +kernel, rfl, by decide +kernel, by decide +kernel⟩
def spDMirrors (K : PySem.W.Frag) : Sp := fun vs H Q _ => ∃ (p : Addr) (t m : Nat), vs = [.ref p, .int (m : Int)] ∧ PailAt H p t ∧ t ≤ 1500 ∧ 1 ≤ m ∧ m ≤ 8 ∧
  ∀ (H' : Hp) (u : Addr) (t' : Nat) (ns : List Int), PailAt H' p t' → t' ≤ t + 20 → But p H H' → SqT K H' u (ns.map V.int) → Mir ns → Q (.ref u) H'
def lenAt (H : Hp) (a : Addr) : Nat := match H a with
  | some (.lst xs) => xs.length
  | _ => 0
theorem lenAt_eq {H : Hp} {a : Addr} {xs : List V} (h : H a = some (.lst xs)) : lenAt H a = xs.length := by unfold lenAt; rw [h]
theorem shapedL (ns : List Int) : SeqAt.shaped (.list (ns.map PyData.int)) = true := by
  have h1 : (PyData.list (ns.map PyData.int)).canLay0 = true := by simp only [PyData.canLay0]; exact lay_ints ns
  have h2 : (PyData.list (ns.map PyData.int)).depth ≤ 64 := by simp only [PyData.depth, dep_ints]; omega
  show ((PyData.list (ns.map PyData.int)).canLay0 && decide ((PyData.list (ns.map PyData.int)).depth ≤ 64)) = true
  rw [h1, decide_eq_true h2]; rfl
theorem eqvL (ns ms : List Int) : PyData.eqv (.list (ns.map PyData.int)) (.list (ms.map PyData.int)) = decide (ns = ms) := by simp only [PyData.eqv, eqv_ints]
theorem ok_dmirrors {f fD : Addr} {fd fdD : FuncData} (F : Fun K "_law_mirrors" "_law_mirrors" sDMirrors f fd) (DD : DefAt K mg "_law_draw" sDraw ["_law_pail_here", "_law_many"] fD fdD) (B : Bare mg) : FnOk P w K mg base CX0 2 f fd ["_law_pail_here", "_law_many"] (spDMirrors K) := by
  have GD : FnOk P w K mg base CX0 1 fD fdD ["_law_pail_here", "_law_many"] spDraw := ok_draw DD.fn
  refine F.ok scDMirrors (fun vs H Q E h => ?_) (fun cdv A outer s H vs Q E hr h => ?_)
  · obtain ⟨p, t, m, rfl, _⟩ := h
    rfl
  · obtain ⟨p, t, m, rfl, hp, ht, m1, m8, q⟩ := h
    refine ⟨_, pss_cons (ps_par (i := 2) (j := 3) (by rfl) scDMirrors.nd rfl rfl (by decide) rfl rfl (pa_cons (pe_listRg rfl (by rfl) B.list (prg_1 (by rfl) B.range (pv 1))) (pa_cons (pe_listRg rfl (by rfl) B.list (prg_1 (by rfl) B.range (pv 1))) pa_nil)) (by rfl))
      (pss_cons (ps_while PassesOwn.never (pt_cmpR (op_neD hr.units) (pv 2) (pe_lst pa_nil) (nomark _))
        (pss_cons (ps_set (i := 4) scDMirrors.nd rfl (Or.inl rfl) (pe_bm PySem.F.plainAttrs_list PySem.F.slot_list_pop PySem.F.type_list_pop mt_popAt (pv 2) (pa_cons pe_int pa_nil)))
        (pss_one (ps_if (PW.pt (pw_and (pt_cmpR (op_neD hr.units) (pv 2) (pe_lst pa_nil) (nomark _)) (pw_and1 (pt_cmpR op_eq (pe_call GD hr (by rfl) DD.mg DD.fn.kp DD.bi .nil pass0 (pa_cons (pv 0) (pa_cons pe_int pa_nil))) pe_int (nomark _)))))
          (pss_cons (ps_set (i := 5) scDMirrors.nd rfl (Or.inl rfl) (pe_bm PySem.F.plainAttrs_list PySem.F.slot_list_pop PySem.F.type_list_pop mt_popAt (pv 2) (pa_cons (pe_call GD hr (by rfl) DD.mg DD.fn.kp DD.bi .nil pass0 (pa_cons (pv 0) (pa_cons (pe_callB call_len_seq (by rfl) B.len PySem.boot_len (pa_cons (pv 2) pa_nil)) pa_nil))) pa_nil)))
          (pss_cons (ps_asg (pv 5) (pg_sub (pv 3) (pv 4) set_list))
          (pss_one (ps_asg (pv 4) (pg_sub (pv 3) (pv 5) set_list))))) pss_nil))))
      (pss_one (ps_ret (pe_tupleOf (by rfl) B.tuple (pv 3))))), ?_⟩
    refine ⟨.int (m : Int), rfl, (m : Int), rfl, RgOk.of_le (by omega) (by omega) (by omega) (by omega), fun a na => ?_⟩
    refine ⟨.int (m : Int), rfl, (m : Int), rfl, RgOk.of_le (by omega) (by omega) (by omega) (by omega), fun b nb => ⟨.ref a, .ref b, rfl, ?_⟩⟩
    have hab : a ≠ b := ne_of_none upd_same nb
    have hap : a ≠ p := pail_ne hp na
    have hbp : b ≠ p := pail_ne (pail_new hp na) nb
    have nbH : H b = none := (same_upd na).free nb
    have s0 := (same_upd (o := .lst (rgV 0 (m : Int))) na).trans (same_upd (o := .lst (rgV 0 (m : Int))) nb)
    refine while_by (fun σ H' => ∃ (y4 y5 : Option V) (t' : Nat) (fs ls : List Int), σ = [some (.ref p), some (.int (m : Int)), some (.ref a), some (.ref b), y4, y5] ∧ But p H H' ∧ PailAt H' p t' ∧ t' + 2 * ls.length ≤ t + 16 ∧ H' a = some (.lst (ls.map V.int)) ∧ H' b = some (.lst (fs.map V.int)) ∧ Half m fs ls)
      (fun σ H' => lenAt H' a) ?_ ?_ ?_
    · refine ⟨none, none, t, rgI 0 (m : Int), rgI 0 (m : Int), rfl, But.of s0, pail_same hp s0, by rw [rgI_len]; omega, ?_, ?_, half_start m⟩
      · rw [upd_ne hab, upd_same, rgV_rgI]
      · rw [upd_same, rgV_rgI]
    · rintro σ H1 ⟨y4, y5, t1, fs, ls, rfl, b1, hp1, ht1, ea, eb, hh⟩
      refine ⟨.ref a, rfl, Nat.zero_le _, fun c nc => ?_⟩
      have sc := same_upd (o := .lst []) nc
      have ea2 := sc _ _ ea
      have eb2 := sc _ _ eb
      have hp2 := pail_same hp1 sc
      have b2 := b1.trans (But.of (p := p) sc)
      have ec : (upd H1 c (.lst [])) c = some (.lst []) := upd_same
      refine ⟨.list (ls.map PyData.int), .list (([] : List Int).map PyData.int), .lst (lstNew ea2) (dpInts ls), .lst (lstNew ec) .nil, shapedL ls, shapedL [], _, rfl, ?_⟩
      rw [eqvL]
      have lt1 : lenAt H1 a = ls.length := by rw [lenAt_eq ea, List.length_map]
      generalize upd H1 c (.lst []) = H2 at ea2 eb2 hp2 b2 ⊢
      clear ea eb sc nc ec
      cases ls with
      | nil =>
        rw [decide_eq_true rfl]
        refine iteF ?_
        refine ⟨.ref b, rfl, .inl ⟨b, _, rfl, lstNew eb2, fun u nu => ?_⟩⟩
        exact q _ u t1 fs (pail_new hp2 nu) (by omega) (b2.trans (But.of (same_upd nu))) (tupNew upd_same) (half_mir hh m1 m8)
      | cons x l =>
        rw [decide_eq_false (by simp)]
        refine iteT ?_
        -- mark = left.pop(0)
        refine ⟨.ref a, rfl, .inl ⟨rfl, _, lstNew ea2⟩, a, _, 0, 0, .int x, rfl, rfl, ea2, by decide, by decide, by simp [seqIndex?], rfl, ?_⟩
        have ea3 : (upd H2 a (.lst (((x :: l).map V.int).eraseIdx 0))) a = some (.lst (l.map V.int)) := upd_same
        have eb3 : (upd H2 a (.lst (((x :: l).map V.int).eraseIdx 0))) b = some (.lst (fs.map V.int)) := by rw [upd_ne hab.symm]; exact eb2
        have hp3 := pail_set (o := .lst (((x :: l).map V.int).eraseIdx 0)) hp2 hap
        have b3 : But p H (upd H2 a (.lst (((x :: l).map V.int).eraseIdx 0))) := fun k o e z => by rw [upd_ne (ne_of_none e na)]; exact b2 k o e z
        generalize upd H2 a (.lst (((x :: l).map V.int).eraseIdx 0)) = H3 at ea3 eb3 hp3 b3 ⊢
        -- left != []
        refine ⟨.ref a, rfl, Nat.zero_le _, fun c2 nc2 => ?_⟩
        have sc2 := same_upd (o := .lst []) nc2
        have ea4 := sc2 _ _ ea3
        have eb4 := sc2 _ _ eb3
        have hp4 := pail_same hp3 sc2
        have b4 := b3.trans (But.of (p := p) sc2)
        have ec2 : (upd H3 c2 (.lst [])) c2 = some (.lst []) := upd_same
        refine ⟨.list (l.map PyData.int), .list (([] : List Int).map PyData.int), .lst (lstNew ea4) (dpInts l), .lst (lstNew ec2) .nil, shapedL l, shapedL [], _, rfl, ?_⟩
        rw [eqvL]
        generalize upd H3 c2 (.lst []) = H4 at ea4 eb4 hp4 b4 ⊢
        clear ea3 eb3 hp3 b3 sc2 nc2 ec2 ea2 eb2 hp2 b2 b1 hp1
        rw [List.length_cons] at lt1 ht1
        have hxl := hh.lin x (List.mem_cons_self ..)
        cases l with
        | nil =>
          rw [decide_eq_true rfl]
          refine iteF (iteF ?_)
          refine ⟨⟨_, _, t1, fs, [], rfl, b4, hp4, by simp only [List.length_nil]; omega, ea4, eb4, half_drop hh⟩, ?_⟩
          rw [lenAt_eq ea4, lt1]; simp
        | cons y0 l =>
          rw [decide_eq_false (by simp)]
          refine iteT ?_
          rw [List.length_cons] at lt1 ht1
          have hl8 : (y0 :: l).length ≤ 8 := by
            have := nodup_le (us := rgI 0 (m : Int)) (half_drop hh).nd fun z hz => by
              have h1 := (half_drop hh).lin z hz
              exact List.mem_of_getElem? (i := z.toNat) (rgI_get.mpr ⟨by omega, by omega⟩)
            rw [rgI_len] at this; omega
          rw [List.length_cons] at hl8
          refine ⟨.ref p, rfl, p, t1, 2, rfl, hp4, by omega, by decide, by decide, fun r t5 H5 r0 r1 ht5 hp5 b5 => ⟨rfl, _, rfl, ite2 (fun _ => ?_) (fun _ => ?_)⟩⟩
          · have ea5 := b5 _ _ ea4 hap
            have eb5 := b5 _ _ eb4 hbp
            refine ⟨.ref a, rfl, .inl ⟨rfl, _, lstNew ea5⟩, .ref p, rfl, .ref a, rfl, a, _, rfl, .inl (lstNew ea5), p, t5, _, rfl, hp5, by omega, by simp; omega, by simp; omega, fun r2 t6 H6 r20 r21 ht6 hp6 b6 => ?_⟩
            have ea6 := b6 _ _ ea5 hap
            have eb6 := b6 _ _ eb5 hbp
            rw [List.length_map, List.length_cons] at r21
            obtain ⟨y, hy⟩ : ∃ y, (y0 :: l)[r2.toNat]? = some y := ⟨_, List.getElem?_eq_getElem (by rw [List.length_cons]; omega)⟩
            refine ⟨a, _, r2, r2.toNat, .int y, rfl, rfl, ea6, by omega, by omega, ?_, by rw [List.getElem?_map, hy]; rfl, ?_⟩
            · rw [List.length_map]
              unfold seqIndex?
              simp only [if_neg (show ¬ r2 < 0 by omega)]
              rw [if_pos]
              simp only [Bool.and_eq_true, decide_eq_true_eq]
              exact ⟨r20, by rw [List.length_cons]; omega⟩
            have hyl := (half_drop hh).lin y (List.mem_of_getElem? hy)
            have hfl := hh.len
            have b06 : But p H H6 := (b4.trans b5).trans b6
            have ea7 : (upd H6 a (.lst (((y0 :: l).map V.int).eraseIdx r2.toNat))) a = some (.lst (((y0 :: l).eraseIdx r2.toNat).map V.int)) := by rw [upd_same, erase_map]
            have eb7 : (upd H6 a (.lst (((y0 :: l).map V.int).eraseIdx r2.toNat))) b = some (.lst (fs.map V.int)) := by rw [upd_ne hab.symm]; exact eb6
            have hp7 := pail_set (o := .lst (((y0 :: l).map V.int).eraseIdx r2.toNat)) hp6 hap
            have b7 : But p H (upd H6 a (.lst (((y0 :: l).map V.int).eraseIdx r2.toNat))) := fun k o e z => by rw [upd_ne (ne_of_none e na)]; exact b06 k o e z
            generalize upd H6 a (.lst (((y0 :: l).map V.int).eraseIdx r2.toNat)) = H7 at ea7 eb7 hp7 b7 ⊢
            -- found[mark] = other; found[other] = mark
            refine ⟨.int y, rfl, .ref b, rfl, .int x, rfl, b, _, x, x.toNat, rfl, rfl, eb7, ix_at (by rw [List.length_map]; omega) hxl.1, ?_⟩
            refine ⟨.int x, rfl, .ref b, rfl, .int y, rfl, b, _, y, y.toNat, rfl, rfl, upd_same, ix_at (by rw [List.length_set, List.length_map]; omega) hyl.1, ?_⟩
            have hlen : ((y0 :: l).eraseIdx r2.toNat).length = l.length := by rw [List.length_eraseIdx_of_lt (by rw [List.length_cons]; omega)]; rfl
            refine ⟨⟨_, _, t6, (fs.set x.toNat y).set y.toNat x, (y0 :: l).eraseIdx r2.toNat, rfl, fun k o e z => ?_, pail_set (pail_set hp7 hbp) hbp, by rw [hlen]; omega, ?_, ?_, half_pair hh hy⟩, ?_⟩
            · rw [upd_ne (ne_of_none e nbH), upd_ne (ne_of_none e nbH)]; exact b7 k o e z
            · rw [upd_ne hab, upd_ne hab]; exact ea7
            · rw [upd_same, List.map_set, List.map_set]
            · rw [lenAt_eq (xs := ((y0 :: l).eraseIdx r2.toNat).map V.int) (by rw [upd_ne hab, upd_ne hab]; exact ea7), lt1, List.length_map, hlen]; omega
          · refine ⟨⟨_, _, t5, fs, y0 :: l, rfl, b4.trans b5, hp5, by rw [List.length_cons]; omega, b5 _ _ ea4 hap, b5 _ _ eb4 hbp, half_drop hh⟩, ?_⟩
            rw [lenAt_eq (b5 _ _ ea4 hap), lt1, List.length_map, List.length_cons]; omega
    · intro σ H1 Q1 Q2 hq h
      obtain ⟨v, e, z, h⟩ := h
      refine ⟨v, e, z, fun c nc => ?_⟩
      obtain ⟨d, e', h1, h2, h3, h4, k, h5, h6⟩ := h c nc
      exact ⟨d, e', h1, h2, h3, h4, k, h5, hq _ _ h6⟩
end
end K4
set_option maxHeartbeats 4000000
/-! sorted(d), d a dict whose keys are pairs of ints -/
namespace RV
open PySem PySem.Spec PyProof.Rows L2
/-- a pair of ints as a key, and back -/
def keyP (p : List Int) : List L2.Key := p.map Sum.inl
def pairOf (k : List L2.Key) : List Int := k.map fun x => match x with | .inl i => i | .inr _ => 0
theorem pairOf_keyP (p : List Int) : pairOf (keyP p) = p := by
  unfold pairOf keyP
  rw [List.map_map]
  exact List.map_id p
theorem kV_keyP (p : List Int) : (keyP p).map kV = p.map V.int := by
  unfold keyP
  rw [List.map_map]; rfl
abbrev two (p : List Int) : Int × Int := (p.getD 0 0, p.getD 1 0)
open Classical in
noncomputable def readP (h : Heap) (v : Value) : Int × Int := if e : ∃ p : Int × Int, Srt.IsPair h v p.1 p.2 then Classical.choose e else (0, 0)
theorem readP_eq {h : Heap} {v : Value} {x y : Int} (e : Srt.IsPair h v x y) : readP h v = (x, y) := by
  have ex : ∃ p : Int × Int, Srt.IsPair h v p.1 p.2 := ⟨(x, y), e⟩
  unfold readP
  rw [dif_pos ex]
  have c := Classical.choose_spec ex
  generalize Classical.choose ex = p at c
  obtain ⟨a, o, t, u, n, e1, e2, e3, e4⟩ := c
  obtain ⟨a', o', t', u', n', f1, f2, f3, f4⟩ := e
  rw [e1] at f1
  cases f1
  rw [e2] at f2
  cases f2
  rw [e4] at f4
  injection f4 with g1 g2
  have g3 : [Value.int p.1 t, Value.int p.2 u] = [Value.int x t', Value.int y u'] := by
    have := congrArg Array.toList g1
    simpa using this
  injection g3 with g4 g5
  injection g5 with g5 _
  injection g4 with g4 _
  injection g5 with g5 _
  obtain ⟨p1, p2⟩ := p
  simp only at g4 g5
  rw [g4, g5]
theorem paired_mem {α β : Type} {F : α → β → Prop} : ∀ {l : List α} {m : List β}, Paired F l m → ∀ y ∈ m, ∃ x ∈ l, F x y
  | _, _, .nil, y, h => nomatch h
  | _, _, .cons f t, y, h => by
    rcases List.mem_cons.mp h with e | e
    · rw [e]; exact ⟨_, List.mem_cons_self .., f⟩
    · obtain ⟨x, hx, fx⟩ := paired_mem t y e
      exact ⟨x, List.mem_cons_of_mem _ hx, fx⟩
theorem paired_map {α β γ : Type} {F : α → β → Prop} {f : α → γ} {g : β → γ} (h : ∀ a b, F a b → f a = g b) : ∀ {l : List α} {m : List β}, Paired F l m → l.map f = m.map g
  | _, _, .nil => rfl
  | _, _, .cons e t => by rw [List.map_cons, List.map_cons, h _ _ e, paired_map h t]
section
variable {X : Cx}
/-- sorted(d) -/
def rSortDT : List V → Hp → VK → Prop := fun xs H Q => ∃ (d : Addr) (kvs : List (List L2.Key × V)) (ps : List (List Int)), xs = [.ref d] ∧ Rd H d (.dT kvs) ∧ kvs.map (·.1) = ps.map keyP ∧ (∀ p ∈ ps, ∃ x y : Int, p = [x, y]) ∧ kvs.length ≤ 1000 ∧
  ∀ (L : List (Addr × List Int)) (q : Addr), H q = none → (L.map (·.2)).Perm ps → L.Pairwise (fun a b => SrtO.lexB (two b.2) (two a.2) = false) → (∀ a ∈ L, H a.1 = some (.tup (a.2.map V.int))) → Q (.ref q) (upd H q (.lst (L.map fun a => V.ref a.1)))
theorem cr_sortedDT (hc : X.calm = true) : CallR X (.builtin "sorted") rSortDT := by
  intro pins s σ H xs us Q I r h
  obtain ⟨d, kvs, ps, rfl, hd, hks, hpr, h1000, q⟩ := h
  obtain ⟨u, rfl, rx⟩ := vals1 r
  cases rx
  obtain ⟨z, hs, ks, pr, o, es, ep, ho, hx, hdt, he, hn⟩ := (show ObjOk X.prog X.w H s.heap d (.dT kvs) from hd.ok I.hok)
  have l1 : es.size = ks.length := size_of_entries he
  have l2 : kvs.length = ks.length := Paired.length pr
  refine Calls.call_function_entry kind_sorted plain_sorted entry_sorted (args_sorted1 _) ?_
  unfold Builtin.«sorted»
  refine wpAny_bind (m := checkCount "sorted" 1 1 _) (wpAny_pure ?_)
  refine wpAny_bind (PySem.W.kdu_collect (A := X.A.in1) (kdl_raw hs hx hdt) (I.ok.hd hc) ho (by rw [l1, ← l2]; exact Nat.le_of_lt (small1000 h1000)) fun h' tk acc kp it => ?_)
  -- what was collected
  have ea : acc.toList = ks.map fun x => Value.ref x.2.1 := by
    have hl : acc.toList.length = ks.length := by rw [Array.length_toList, it.1, l1]
    refine List.ext_getElem (by rw [hl, List.length_map]) fun j j1 j2 => ?_
    have ja : acc.toList[j]? = some acc.toList[j] := List.getElem?_eq_getElem j1
    obtain ⟨en, hen, hv⟩ := it.2 j _ (by rw [← Array.getElem?_toList]; exact ja)
    have qe := entry_at he j
    have jk : j < ks.length := by rw [List.length_map] at j2; exact j2
    rw [hen, List.getElem?_eq_getElem jk] at qe
    have e2 : en = entryOfKey (tupleKind (mixKind X.prog X.w)) ks[j] := Option.some.inj qe
    rw [hv, e2, List.getElem_map]; rfl
  have I1 : Inv X pins σ H { s with heap := h', toks := tk } := I.kept kp
  have hal : acc.toList.length = ks.length := by rw [ea, List.length_map]
  refine wpAny_bind (wpAny_newList ?_ (by rw [hal, ← l2]; exact Nat.le_of_lt (small1000 h1000)))
  have hoL : (h'.push (seqObj "list" acc.toList.toArray 0)).get? h'.objs.size = some (seqObj "list" acc.toList.toArray 0) := Heap.get?_push_size _ rfl
  show wpAny _ _ _ _ _ { s with heap := h'.push (seqObj "list" acc.toList.toArray 0), toks := tk }
  -- each is a pair
  have ent : ∀ v ∈ acc.toList, ∃ (b : Addr) (p : List Int), v = .ref b ∧ p ∈ ps ∧ H b = some (.tup (p.map V.int)) ∧ ∃ x y : Int, p = [x, y] ∧ Srt.IsPair h' v x y := by
    intro v hv
    rw [ea] at hv
    obtain ⟨x, hx1, rfl⟩ := List.mem_map.mp hv
    obtain ⟨kv, hkv, q1, q2, _⟩ := paired_mem pr x hx1
    have hk2 : kv.1 ∈ ps.map keyP := by rw [← hks]; exact List.mem_map_of_mem hkv
    obtain ⟨p, hp, ep⟩ := List.mem_map.mp hk2
    have hb : H x.2.1 = some (.tup (p.map V.int)) := by rw [q2, ← ep, kV_keyP]
    obtain ⟨x', y', e'⟩ := hpr p hp
    refine ⟨x.2.1, p, rfl, hp, hb, x', y', e', ?_⟩
    obtain ⟨_, its2, r2, oo, ho2, hc2, n2, hd2⟩ := (show ObjOk X.prog X.w H s.heap x.2.1 (.tup (p.map V.int)) from I.hok _ _ hb)
    rw [e'] at r2
    obtain ⟨u1, u2, rfl, ri, rj⟩ := vals2 r2
    obtain ⟨t1, rfl⟩ := ri
    obtain ⟨t2, rfl⟩ := rj
    exact ⟨x.2.1, oo, t1, t2, n2, rfl, kp _ _ ho2, hc2, hd2⟩
  have isp : ∀ v ∈ acc.toList, Srt.IsPair h' v (readP h' v).1 (readP h' v).2 := fun v hv => by
    obtain ⟨b, p, _, _, _, x, y, _, e⟩ := ent v hv
    rw [readP_eq e]; exact e
  refine wpAny_bind (wpAny_holding (wpAny_call_entry slot_list_sort ⟨_, hoL, rfl⟩ entry_list_sort (SrtO.list_sort_ord (s := { s with heap := h'.push (seqObj "list" acc.toList.toArray 0), toks := tk }) (ltv := fun v u => SrtO.lexB (readP h' v) (readP h' u)) (SrtO.swo_lex (readP h')) hoL
    (by rw [hal, ← l2]; exact Nat.le_of_lt (small1000 h1000)) (fun h2 => ?_) fun out g1 g2 => ⟨_, rfl, ?_⟩) (args_list_sort _)))
  · refine SrtO.pairs_sortableO (k := readP h') (s := { s with heap := h'.push (seqObj "list" acc.toList.toArray 0), toks := tk }) (by omega) (fun v hm => (isp v hm).keeps fun b o e _ => Heap.get?_push_of_some _ e) fun o e => ?_
    have e' : some o = some (seqObj "list" acc.toList.toArray 0) := e.symm.trans hoL
    cases e'
    intro c
    exact absurd (Value.type.inj c) (by decide)
  · obtain ⟨e', he'⟩ := sortedHeap_at (vs := acc.toList) (out := out.toArray) hoL
    -- as addresses with their ints
    have inV : ∀ v ∈ out, v ∈ acc.toList := fun v hv => g2.perm.mem_iff.mp hv
    let ad : Value → Addr := fun v => match v with | .ref b => b | _ => 0
    let L : List (Addr × List Int) := out.map fun v => (ad v, [(readP h' v).1, (readP h' v).2])
    have tell : ∀ v ∈ out, v = .ref (ad v) ∧ [(readP h' v).1, (readP h' v).2] ∈ ps ∧ H (ad v) = some (.tup (([(readP h' v).1, (readP h' v).2] : List Int).map V.int)) := fun v hv => by
      obtain ⟨b, p, rfl, hp, hb, x, y, rfl, e⟩ := ent v (inV v hv)
      rw [readP_eq e]
      exact ⟨rfl, hp, hb⟩
    have eo : out = L.map fun a => Value.ref a.1 := by
      show out = (out.map _).map _
      rw [List.map_map]
      conv => lhs; rw [← List.map_id out]
      exact List.map_congr_left fun v hv => (tell v hv).1
    have eks : ∀ v ∈ acc.toList, True := fun _ _ => trivial
    have hLlen : (L.map fun a => V.ref a.1).length ≤ sizeLine := by
      rw [List.length_map, List.length_map, g2.len, hal, ← l2]; exact Nat.le_of_lt (small1000 h1000)
    have rv : Vals (L.map fun a => V.ref a.1) out := by
      rw [eo]
      have : ∀ M : List (Addr × List Int), Vals (M.map fun a => V.ref a.1) (M.map fun a => Value.ref a.1) := fun M => by
        induction M with
        | nil => exact .nil
        | cons m r ih => exact .cons rfl ih
      exact this L
    have e2 : L.map (·.2) = out.map fun v => [(readP h' v).1, (readP h' v).2] := by
      show (out.map _).map _ = _
      rw [List.map_map]; rfl
    have e3 : (acc.toList.map fun v => [(readP h' v).1, (readP h' v).2]) = ps := by
      have w1 : ks.map (fun x => pairOf x.1) = ps := by
        rw [← paired_map (f := fun (a : List L2.Key × V) => pairOf a.1) (g := fun (b : List L2.Key × Addr × Value) => pairOf b.1) (fun a b f => by rw [f.1]) pr]
        have w2 : kvs.map (fun a => pairOf a.1) = (kvs.map (·.1)).map pairOf := by rw [List.map_map]; rfl
        rw [w2, hks, List.map_map]
        conv => rhs; rw [← List.map_id ps]
        exact List.map_congr_left fun p _ => pairOf_keyP p
      rw [← w1, ea, List.map_map]
      refine List.map_congr_left fun x hx1 => ?_
      obtain ⟨kv, hkv, q1, q2, _⟩ := paired_mem pr x hx1
      obtain ⟨b, p, eb, hp, hb, x', y', e', isP⟩ := ent (.ref x.2.1) (by rw [ea]; exact List.mem_map.mpr ⟨x, hx1, rfl⟩)
      cases eb
      show [(readP h' (.ref x.2.1)).1, (readP h' (.ref x.2.1)).2] = pairOf x.1
      rw [readP_eq isP, ← q1]
      have hk2 : kv.1 ∈ ps.map keyP := by rw [← hks]; exact List.mem_map_of_mem hkv
      obtain ⟨p2, hp2, ep2⟩ := List.mem_map.mp hk2
      rw [← ep2, pairOf_keyP]
      rw [hb, ← ep2, kV_keyP] at q2
      have q3 : p.map V.int = p2.map V.int := by
        injection q2 with q2
        injection q2
      have q4 : p = p2 := by
        have inj : ∀ l m : List Int, l.map V.int = m.map V.int → l = m := fun l => by
          induction l with
          | nil => intro m e; cases m with | nil => rfl | cons => cases e
          | cons a r ih =>
            intro m e
            cases m with
            | nil => cases e
            | cons b t =>
              rw [List.map_cons, List.map_cons] at e
              injection e with e1 e2
              injection e1 with e1
              rw [e1, ih t e2]
        exact inj p p2 q3
      rw [← q4, e']
    refine wpAny_pure ⟨_, rfl, .ref h'.objs.size, upd H h'.objs.size (.lst (L.map fun a => V.ref a.1)), I1.laid (t' := tk) (fun b u e => ?_) (Nat.le_refl _)
      (show ObjOk X.prog X.w _ _ _ (.lst (L.map fun a => V.ref a.1)) from ⟨hLlen, out, e', rv, he'⟩), rfl, q L _ (I1.hok.fresh (Nat.le_refl _)) ?_ ?_ fun a ha => ?_⟩
    · have hb : b < h'.objs.size := Heap.lt_size e
      rw [sortedHeap_old (Nat.ne_of_lt hb) (by rw [size_push']; exact Nat.lt_succ_of_lt hb)]
      exact Heap.get?_push_of_some _ e
    · rw [e2, ← e3]
      exact g2.perm.map _
    · show (out.map _).Pairwise _
      rw [List.pairwise_map]
      exact g1
    · obtain ⟨v, hv, rfl⟩ := List.mem_map.mp ha
      exact (tell v hv).2.2
end
end RV
set_option maxHeartbeats 4000000
namespace K4
open PySem PySem.Spec PyProof.Rows L2 RV
/-! ### a dict of pairs, by its keys -/
def addP (ps : List (List Int)) (p : List Int) : List (List Int) := if p ∈ ps then ps else ps ++ [p]
theorem keyP_inj {p q : List Int} (h : keyP p = keyP q) : p = q := by
  have := congrArg pairOf h
  rwa [pairOf_keyP, pairOf_keyP] at this
theorem key_mem {p : List Int} {ps : List (List Int)} : keyP p ∈ ps.map keyP ↔ p ∈ ps := by
  constructor
  · intro h
    obtain ⟨q, hq, e⟩ := List.mem_map.mp h
    rw [← keyP_inj e]; exact hq
  · exact fun h => List.mem_map_of_mem h
theorem put_keys {kvs : List (List L2.Key × V)} {ps : List (List Int)} {p : List Int} {v : V} (h : kvs.map (·.1) = ps.map keyP) : (putK kvs (keyP p) v).map (·.1) = (addP ps p).map keyP := by
  unfold addP
  cases e : valV kvs (keyP p) with
  | none =>
    have n : p ∉ ps := fun z => valV_not e (by rw [h]; exact key_mem.mpr z)
    rw [putK_new v e, if_neg n, List.map_append, List.map_append, h]; rfl
  | some x =>
    have y : p ∈ ps := key_mem.mp (by rw [← h]; exact valV_in e)
    rw [if_pos y, ← h]
    unfold putK
    rw [valV_any, e]
    show (kvs.map fun kv => if kv.1 = keyP p then (kv.1, v) else kv).map (·.1) = kvs.map (·.1)
    rw [List.map_map]
    refine List.map_congr_left fun kv _ => ?_
    show (if kv.1 = keyP p then (kv.1, v) else kv).1 = kv.1
    split <;> rfl
theorem mem_addP {ps : List (List Int)} {p q : List Int} : q ∈ addP ps p ↔ q ∈ ps ∨ q = p := by
  unfold addP
  split
  · rename_i h
    constructor
    · exact .inl
    · rintro (z | rfl)
      · exact z
      · exact h
  · rw [List.mem_append, List.mem_singleton]
theorem nd_addP {ps : List (List Int)} {p : List Int} (h : ps.Nodup) : (addP ps p).Nodup := by
  unfold addP
  split
  · exact h
  · rename_i n
    rw [List.nodup_append]
    exact ⟨h, by simp, fun a ha b hb e => n (by rw [← List.mem_singleton.mp hb, ← e]; exact ha)⟩
/-- a tuple of tuples of ints, all of them seen -/
def TupsH (H : Hp) (a : Addr) (ps : List (List Int)) : Prop := ∃ ks : List (Addr × List Int), ks.map (·.2) = ps ∧ H a = some (.tup (ks.map fun p => V.ref p.1)) ∧ ∀ p ∈ ks, H p.1 = some (.tup (p.2.map V.int))
theorem TupsH.tups {K : PySem.W.Frag} {H : Hp} {a : Addr} {ps : List (List Int)} (h : TupsH H a ps) : Tups K H a ps :=
  let ⟨ks, h1, h2, h3⟩ := h; ⟨ks, h1, tupNew h2, fun p hp => tupNew (h3 p hp)⟩
theorem TupsH.same {H H' : Hp} {a : Addr} {ps : List (List Int)} (h : TupsH H a ps) (e : Same H H') : TupsH H' a ps :=
  let ⟨ks, h1, h2, h3⟩ := h; ⟨ks, h1, e _ _ h2, fun p hp => e _ _ (h3 p hp)⟩
theorem TupsH.but {H H' : Hp} {p a : Addr} {t : Nat} {ps : List (List Int)} (h : TupsH H a ps) (hp : PailAt H p t) (b : But p H H') : TupsH H' a ps := by
  obtain ⟨ks, h1, h2, h3⟩ := h
  obtain ⟨x, y, e, _⟩ := hp
  exact ⟨ks, h1, b _ _ h2 fun z => (by rw [z, e] at h2; cases h2), fun q hq => b _ _ (h3 q hq) fun z => (by have h := h3 q hq; rw [z, e] at h; cases h)⟩
/-- steps drawn so far -/
structure Part (ns : List Int) (ps : List (List Int)) : Prop where
  nd : ps.Nodup
  pr : ∀ p ∈ ps, Pr (ns.length : Int) p
  mi : ∀ x y mx my : Int, [x, y] ∈ ps → ns[x.toNat]? = some mx → ns[y.toNat]? = some my → [my, mx] ∈ ps
theorem Part.nil (ns : List Int) : Part ns [] := ⟨List.nodup_nil, (fun _ h => nomatch h), fun _ _ _ _ h => nomatch h⟩
theorem Part.add {ns : List Int} {ps : List (List Int)} {x y mx my : Int} (M : Mir ns) (h : Part ns ps) (hx : 0 ≤ x ∧ x < (ns.length : Int)) (hy : 0 ≤ y ∧ y < (ns.length : Int)) (ex : ns[x.toNat]? = some mx) (ey : ns[y.toNat]? = some my) :
    Part ns (addP (addP ps [x, y]) [my, mx]) := by
  have bx := M.back _ _ ex
  have bY := M.back _ _ ey
  have ix := M.inn mx (List.mem_of_getElem? ex)
  have iy := M.inn my (List.mem_of_getElem? ey)
  refine ⟨nd_addP (nd_addP h.nd), fun p hp => ?_, fun a b ma mb hab ha hb => ?_⟩
  · rcases mem_addP.mp hp with z | rfl
    · rcases mem_addP.mp z with z | rfl
      · exact h.pr p z
      · exact ⟨x, y, rfl, hx, hy⟩
    · exact ⟨my, mx, rfl, iy, ix⟩
  · rw [mem_addP, mem_addP] at hab ⊢
    rcases hab with (z | z) | z
    · exact .inl (.inl (h.mi a b ma mb z ha hb))
    · injection z with z1 z2
      injection z2 with z2 _
      subst z1 z2
      rw [ex] at ha
      rw [ey] at hb
      cases ha
      cases hb
      exact .inr rfl
    · injection z with z1 z2
      injection z2 with z2 _
      subst z1 z2
      rw [bY] at ha
      rw [bx] at hb
      cases ha
      cases hb
      refine .inl (.inr ?_)
      rw [show ((x.toNat : Nat) : Int) = x by omega, show ((y.toNat : Nat) : Int) = y by omega]
theorem Part.len {ns : List Int} {ps : List (List Int)} (h : Part ns ps) (M : Mir ns) : ps.length ≤ 64 := by
  have := nodup_le (us := gridOf 0 (fun _ _ => true) ns.length ns.length) h.nd fun p hp => by
    obtain ⟨x, y, rfl, hx, hy⟩ := h.pr p hp
    refine mem_grid.mpr ⟨x.toNat, y.toNat, by omega, by omega, rfl, ?_⟩
    rw [show (0 + ((x.toNat : Nat) : Int)) = x by omega, show (0 + ((y.toNat : Nat) : Int)) = y by omega]
  have g := grid_len 0 (fun _ _ => true) ns.length ns.length
  have m8 : ns.length * ns.length ≤ 8 * 8 := Nat.mul_le_mul M.few M.few
  omega
theorem le_of_two {p q : List Int} (hp : Pr 64 p) (hq : Pr 64 q) (h : SrtO.lexB (two q) (two p) = false) : cd p ≤ cd q := by
  obtain ⟨x, y, rfl, hx, hy⟩ := hp
  obtain ⟨x', y', rfl, hx', hy'⟩ := hq
  have z := SrtO.lexB_no.mp h
  have z' : ¬ (x' < x ∨ (x' = x ∧ y' < y)) := z
  rw [cd_pair, cd_pair]; omega
/-- sorted, they are a rule's steps -/
theorem Part.stp {ns : List Int} {ps : List (List Int)} {L : List (Addr × List Int)} (M : Mir ns) (h : Part ns ps) (pm : (L.map (·.2)).Perm ps) (pw : L.Pairwise fun a b => SrtO.lexB (two b.2) (two a.2) = false) : Stp ns (L.map (·.2)) := by
  have h8 := M.few
  have pr : ∀ p ∈ L.map (·.2), Pr (ns.length : Int) p := fun p hp => h.pr p (pm.mem_iff.mp hp)
  have pr64 : ∀ p ∈ L.map (·.2), Pr 64 p := fun p hp => (pr p hp).mono (by omega)
  have le : (L.map (·.2)).Pairwise fun p q => cd p ≤ cd q := by
    rw [List.pairwise_map]
    exact List.Pairwise.imp_of_mem (fun {a b} ha hb z => le_of_two (pr64 _ (List.mem_map_of_mem ha)) (pr64 _ (List.mem_map_of_mem hb)) z) pw
  refine ⟨by rw [pm.length_eq]; exact h.len M, fun p hp => pr p hp, adj_rise pr64 (sorted_lt pr64 (pm.nodup_iff.mpr h.nd) le), fun x y mx my hxy hx hy => ?_, pm.nodup_iff.mpr h.nd⟩
  exact pm.mem_iff.mpr (h.mi x y mx my (pm.mem_iff.mp hxy) hx hy)
section
variable {P : Program} {w : World} {K : PySem.W.Frag} {mg : Str → Option Value} {base : Heap}
/-! ### _law_steps -/
theorem scDSteps : FnScope ["_law_pail_here", "_law_mirrors_here", "_law_found", "_law_share", "_law_one", "_law_other"] ["_law_pail_here", "_law_mirrors_here"] (defScope sDSteps) := ⟨rfl, rfl, rfl, by decide +kernel, rfl, by decide +kernel, by decide +kernel⟩
def spDSteps (K : PySem.W.Frag) : Sp := fun vs H Q _ => ∃ (p u : Addr) (t : Nat) (ns : List Int), vs = [.ref p, .ref u] ∧ PailAt H p t ∧ t ≤ 1500 ∧ SqT K H u (ns.map V.int) ∧ Mir ns ∧
  ∀ (H' : Hp) (c : Addr) (t' : Nat) (ps : List (List Int)), PailAt H' p t' → t' ≤ t + 70 → But p H H' → TupsH H' c ps → Stp ns ps → Q (.ref c) H'
theorem ok_dsteps {f fD fO : Addr} {fd fdD fdO : FuncData} (F : Fun K "_law_steps" "_law_steps" sDSteps f fd) (DD : DefAt K mg "_law_draw" sDraw ["_law_pail_here", "_law_many"] fD fdD) (DO : DefAt K mg "_law_of" sOf ["_law_pail_here", "_law_some"] fO fdO) (B : Bare mg) : FnOk P w K mg base CX0 3 f fd ["_law_pail_here", "_law_mirrors_here"] (spDSteps K) := by
  have GD : FnOk P w K mg base CX0 1 fD fdD ["_law_pail_here", "_law_many"] spDraw := ok_draw DD.fn
  have GO : FnOk P w K mg base CX0 2 fO fdO ["_law_pail_here", "_law_some"] (spOf K) := ok_of DO.fn DD B
  refine F.ok scDSteps (fun vs H Q E h => ?_) (fun cdv A outer s H vs Q E hr h => ?_)
  · obtain ⟨p, u, t, ns, rfl, _⟩ := h
    rfl
  · obtain ⟨p, u, t, ns, rfl, hp, ht, hT, M, q⟩ := h
    have hu := hu_of hr
    have hr1 := hr.mono (show 1 ≤ 2 by decide)
    refine ⟨_, pss_cons (ps_par (i := 2) (j := 3) (by rfl) scDSteps.nd rfl rfl (by decide) rfl rfl (pa_cons pe_dnewT (pa_cons (pe_call GO hr (by rfl) DO.mg DO.fn.kp DO.bi .nil pass0 (pa_cons (pv 0) (pa_cons (pe_lst (pa_cons pe_int (pa_cons pe_int (pa_cons pe_int (pa_cons pe_int pa_nil))))) pa_nil))) pa_nil)) (by rfl))
      (pss_cons (ps_for PassesOwn.never rfl (pi_range1 (by rfl) B.range (pa_cons (pe_callB call_len_seq (by rfl) B.len PySem.boot_len (pa_cons (pv 1) pa_nil)) pa_nil)) (pg_name (i := 4) scDSteps.nd rfl (Or.inl rfl))
        (pss_one (ps_for PassesOwn.never rfl (pi_range1 (by rfl) B.range (pa_cons (pe_callB call_len_seq (by rfl) B.len PySem.boot_len (pa_cons (pv 1) pa_nil)) pa_nil)) (pg_name (i := 5) scDSteps.nd rfl (Or.inl rfl))
          (pss_one (ps_if (PW.pt (pw_and (pt_cmp (pc_dnotin hu (pe_tup (pa_cons (pv 4) (pa_cons (pv 5) pa_nil))) (pv 2))) (pw_and1 (pt_cmpR op_eq (pe_call GD hr1 (by rfl) DD.mg DD.fn.kp DD.bi .nil pass0 (pa_cons (pv 0) (pa_cons (pv 3) pa_nil))) pe_int (nomark _)))))
            (pss_cons (ps_dput hu (pv 2) (pe_tup (pa_cons (pv 4) (pa_cons (pv 5) pa_nil))) pe_bl rfl)
            (pss_one (ps_dput hu (pv 2) (pe_tup (pa_cons (pe_ix ix_tup (pv 1) (pv 5) (fun _ _ => rfl)) (pa_cons (pe_ix ix_tup (pv 1) (pv 4) (fun _ _ => rfl)) pa_nil))) pe_bl rfl))) pss_nil)))))
      (pss_one (ps_ret (pe_tupleOf (by rfl) B.tuple (pe_callB (cr_sortedDT rfl) (by rfl) B.sorted (by decide +kernel) (pa_cons (pv 2) pa_nil)))))), ?_⟩
    intro d nd
    have hdp : d ≠ p := pail_ne hp nd
    refine ⟨.ref p, rfl, (by show 4 ≤ sizeLine; decide), fun l nl => ⟨p, l, t, [.int 2, .int 3, .int 4, .int 6], rfl, pail_new (pail_new hp nd) nl, by omega, lstNew upd_same, pail_ne (pail_new hp nd) nl, by decide, by decide, fun j v t1 H1 hv ht1 hp1 b1 => ⟨.ref d, v, rfl, ?_⟩⟩⟩
    obtain ⟨sh, rfl, sh1, sh6⟩ : ∃ sh : Int, v = .int sh ∧ 1 ≤ sh ∧ sh ≤ 6 := by
      have hj : j < 4 := (List.getElem?_eq_some_iff.mp hv).1
      rcases (show j = 0 ∨ j = 1 ∨ j = 2 ∨ j = 3 by omega) with e | e | e | e <;> subst e <;> cases hv <;> exact ⟨_, rfl, by decide, by decide⟩
    have s0 := (same_upd (o := .dT []) nd).trans (same_upd (o := .lst [.int 2, .int 3, .int 4, .int 6]) nl)
    have ed1 : H1 d = some (.dT []) := b1 _ _ (same_upd nl _ _ upd_same) hdp
    have b01 : But p H H1 := (But.of s0).trans b1
    have hT1 : SqT K H1 u (ns.map V.int) := sqT_pail hp b01 hT
    have hn8 := M.few
    refine ⟨.ref u, rfl, u, _, rfl, .inr hT1, _, rfl, by rw [List.length_map]; omega, by rw [List.length_map]; omega, ?_⟩
    refine for_range (lo := 0) (n := _) (fun i σ H' => ∃ (kvs : List (List L2.Key × V)) (ps : List (List Int)) (t' : Nat) (y4 y5 : Option V), σ = [some (.ref p), some (.ref u), some (.ref d), some (.int sh), y4, y5] ∧ But p H H' ∧ PailAt H' p t' ∧ t' ≤ t + 1 + i * 8 ∧ H' d = some (.dT kvs) ∧ kvs.map (·.1) = ps.map keyP ∧ Part ns ps)
      ⟨[], [], t1, none, none, rfl, b01, hp1, by omega, ed1, rfl, Part.nil ns⟩ ?_ ?_
    · rintro i σ H2 hi ⟨kvs, ps, t2, y4, y5, rfl, b2, hp2, ht2, ed2, ek2, P2⟩
      rw [List.length_map, Int.toNat_natCast] at hi
      have hT2 : SqT K H2 u (ns.map V.int) := sqT_pail hp b2 hT
      refine ⟨.ref u, rfl, u, _, rfl, .inr hT2, _, rfl, by rw [List.length_map]; omega, by rw [List.length_map]; omega, ?_⟩
      refine for_range (lo := 0) (n := _) (fun j σ H' => ∃ (kvs : List (List L2.Key × V)) (ps : List (List Int)) (t' : Nat) (y5 : Option V), σ = [some (.ref p), some (.ref u), some (.ref d), some (.int sh), some (.int (0 + (i : Nat))), y5] ∧ But p H H' ∧ PailAt H' p t' ∧ t' ≤ t + 1 + i * 8 + j ∧ H' d = some (.dT kvs) ∧ kvs.map (·.1) = ps.map keyP ∧ Part ns ps)
        ⟨kvs, ps, t2, y5, rfl, b2, hp2, by omega, ed2, ek2, P2⟩ ?_ ?_
      · rintro j σ H3 hj ⟨kvs, ps, t3, y5, rfl, b3, hp3, ht3, ed3, ek3, P3⟩
        rw [List.length_map, Int.toNat_natCast] at hj
        have ei : (0 + ((i : Nat) : Int)) = (i : Int) := by omega
        have ej : (0 + ((j : Nat) : Int)) = (j : Int) := by omega
        have hl3 := P3.len M
        have hkl : kvs.length ≤ 64 := by
          have z := congrArg List.length ek3
          rw [List.length_map, List.length_map] at z; omega
        -- (one, other) not in found
        refine ⟨.int (0 + (i : Nat)), rfl, .int (0 + (j : Nat)), rfl, (by show 2 ≤ sizeLine; decide), fun T nT => ?_⟩
        have sT := same_upd (o := .tup [.int (0 + (i : Nat)), .int (0 + (j : Nat))]) nT
        have eT : (upd H3 T (.tup [.int (0 + (i : Nat)), .int (0 + (j : Nat))])) T = some (.tup ((keyP [0 + (i : Nat), 0 + (j : Nat)]).map kV)) := upd_same
        have ed4 := sT _ _ ed3
        have b4 := b3.trans (But.of (p := p) sT)
        have hp4 := pail_same hp3 sT
        generalize upd H3 T (.tup [.int (0 + (i : Nat)), .int (0 + (j : Nat))]) = H4 at eT ed4 b4 hp4 ⊢
        refine ⟨.ref d, rfl, d, _, rfl, DGet.t ed4 eT, _, rfl, ?_⟩
        cases ev : valV kvs (keyP [0 + (i : Nat), 0 + (j : Nat)]) with
        | some x =>
          refine iteF (iteF ?_)
          exact ⟨kvs, ps, t3, _, rfl, b4, hp4, by omega, ed4, ek3, P3⟩
        | none =>
          refine iteT ?_
          refine ⟨.ref p, rfl, .int sh, rfl, p, t3, sh, rfl, hp4, by omega, sh1, by omega, fun r t5 H5 r0 r1 ht5 hp5 b5 => ⟨rfl, _, rfl, ite2 (fun _ => ?_) (fun _ => ?_)⟩⟩
          · have ed5 := b5 _ _ ed4 hdp
            have b05 := b4.trans b5
            have hT5 : SqT K H5 u (ns.map V.int) := sqT_pail hp b05 hT
            -- found[one, other] = True
            refine ⟨.ref d, rfl, .int (0 + (i : Nat)), rfl, .int (0 + (j : Nat)), rfl, (by show 2 ≤ sizeLine; decide), fun T2 nT2 => ?_⟩
            have sT2 := same_upd (o := .tup [.int (0 + (i : Nat)), .int (0 + (j : Nat))]) nT2
            have eT2 : (upd H5 T2 (.tup [.int (0 + (i : Nat)), .int (0 + (j : Nat))])) T2 = some (.tup ((keyP [0 + (i : Nat), 0 + (j : Nat)]).map kV)) := upd_same
            refine ⟨d, _, rfl, DPut.t (sT2 _ _ ed5) eT2 (few1 (by omega)), ?_⟩
            have ed6 : (upd (upd H5 T2 (.tup [.int (0 + (i : Nat)), .int (0 + (j : Nat))])) d (.dT (putK kvs (keyP [0 + (i : Nat), 0 + (j : Nat)]) (.bl true)))) d = some (.dT (putK kvs (keyP [0 + (i : Nat), 0 + (j : Nat)]) (.bl true))) := upd_same
            have b6 : But p H (upd (upd H5 T2 (.tup [.int (0 + (i : Nat)), .int (0 + (j : Nat))])) d (.dT (putK kvs (keyP [0 + (i : Nat), 0 + (j : Nat)]) (.bl true)))) := fun k o e z => by rw [upd_ne (ne_of_none e nd)]; exact sT2 _ _ (b05 k o e z)
            have hp6 := pail_set (o := .dT (putK kvs (keyP [0 + (i : Nat), 0 + (j : Nat)]) (.bl true))) (pail_same hp5 sT2) hdp
            have ek6 := put_keys (p := [0 + ((i : Nat) : Int), 0 + ((j : Nat) : Int)]) (v := .bl true) ek3
            have l6 : (putK kvs (keyP [0 + (i : Nat), 0 + (j : Nat)]) (.bl true)).length ≤ 65 := by
              rw [putK_new _ ev, List.length_append]
              show kvs.length + 1 ≤ 65
              omega
            generalize upd (upd H5 T2 (.tup [.int (0 + (i : Nat)), .int (0 + (j : Nat))])) d (.dT (putK kvs (keyP [0 + (i : Nat), 0 + (j : Nat)]) (.bl true))) = H6 at ed6 b6 hp6 ⊢
            generalize putK kvs (keyP [0 + (i : Nat), 0 + (j : Nat)]) (.bl true) = kvs6 at ed6 ek6 l6
            have hT6 : SqT K H6 u (ns.map V.int) := sqT_pail hp b6 hT
            -- found[mirrors[other], mirrors[one]] = True
            obtain ⟨mi, gi⟩ : ∃ mi, ns[i]? = some mi := ⟨_, List.getElem?_eq_getElem hi⟩
            obtain ⟨mj, gj⟩ : ∃ mj, ns[j]? = some mj := ⟨_, List.getElem?_eq_getElem hj⟩
            have ai : atI (ns.map V.int) (0 + (i : Nat)) = some (.int mi) := by rw [ei]; exact atI_nat (by rw [List.getElem?_map, gi]; rfl)
            have aj : atI (ns.map V.int) (0 + (j : Nat)) = some (.int mj) := by rw [ej]; exact atI_nat (by rw [List.getElem?_map, gj]; rfl)
            refine ⟨.ref d, rfl, .ref u, rfl, .int (0 + (j : Nat)), rfl, u, _, _, _, rfl, rfl, hT6, aj, .ref u, rfl, .int (0 + (i : Nat)), rfl, u, _, _, _, rfl, rfl, hT6, ai, (by show 2 ≤ sizeLine; decide), fun T3 nT3 => ?_⟩
            have sT3 := same_upd (o := .tup [.int mj, .int mi]) nT3
            have eT3 : (upd H6 T3 (.tup [.int mj, .int mi])) T3 = some (.tup ((keyP [mj, mi]).map kV)) := upd_same
            refine ⟨d, _, rfl, DPut.t (sT3 _ _ ed6) eT3 (few1 (by omega)), ?_⟩
            have P7 := Part.add (x := (i : Int)) (y := (j : Int)) M P3 (by omega) (by omega) (by rw [Int.toNat_natCast]; exact gi) (by rw [Int.toNat_natCast]; exact gj)
            refine ⟨_, addP (addP ps [0 + ((i : Nat) : Int), 0 + ((j : Nat) : Int)]) [mj, mi], t5, _, rfl, fun k o e z => ?_, pail_set (pail_same hp6 sT3) hdp, by omega, upd_same, put_keys ek6, by rw [ei, ej]; exact P7⟩
            rw [upd_ne (ne_of_none e nd)]; exact sT3 _ _ (b6 k o e z)
          · exact ⟨kvs, ps, t5, _, rfl, b4.trans b5, hp5, by omega, b5 _ _ ed4 hdp, ek3, P3⟩
      · rintro σ H3 ⟨kvs, ps, t3, y5, rfl, b3, hp3, ht3, ed3, ek3, P3⟩
        rw [List.length_map, Int.toNat_natCast] at ht3
        exact ⟨kvs, ps, t3, _, _, rfl, b3, hp3, by omega, ed3, ek3, P3⟩
    · rintro σ H2 ⟨kvs, ps, t2, y4, y5, rfl, b2, hp2, ht2, ed2, ek2, P2⟩
      rw [List.length_map, Int.toNat_natCast] at ht2
      have hl2 := P2.len M
      have hkl : kvs.length ≤ 64 := by
        have z := congrArg List.length ek2
        rw [List.length_map, List.length_map] at z; omega
      refine ⟨.ref d, rfl, d, kvs, ps, rfl, .inl ed2, ek2, fun z hz => ?_, by omega, fun L c nc pm pw tu => .inl ⟨c, _, rfl, lstNew upd_same, fun e ne => ?_⟩⟩
      · obtain ⟨x, y, e, _⟩ := P2.pr z hz
        exact ⟨x, y, e⟩
      · have s3 := (same_upd (o := .lst (L.map fun a => V.ref a.1)) nc).trans (same_upd (o := .tup (L.map fun a => V.ref a.1)) ne)
        exact q _ e t2 (L.map (·.2)) (pail_same hp2 s3) (by omega) (b2.trans (But.of s3)) ⟨L, rfl, upd_same, fun k hk => s3 _ _ (tu k hk)⟩ (P2.stp M pm pw)
end
end K4
set_option maxHeartbeats 4000000
namespace K4
open PySem PySem.Spec PyProof.Rows L2 RV
theorem mro_tuple : PySem.fastBuiltinMro "tuple" = some [.type "tuple", .type "object"] := by decide +kernel
theorem mro_none : PySem.fastBuiltinMro "NoneType" = some [.type "NoneType", .type "object"] := by decide +kernel
theorem mro_str : PySem.fastBuiltinMro "str" = some [.type "str", .type "object"] := by decide +kernel
theorem mro_int : PySem.fastBuiltinMro "int" = some [.type "int", .type "object"] := by decide +kernel
theorem kit_other {K : PySem.W.Frag} {C : Addr} {T : String} (h1 : (PySem.W.clsIn K C).isSome = true) (h2 : PySem.W.typeIn K (.ref C) = some (.type "type")) (h3 : PySem.fastBuiltinMro T = some [.type T, .type "object"]) : PySem.W.kitOne K (.type T) (.ref C) = some false := by
  unfold PySem.W.kitOne PySem.W.kitCls
  rw [if_neg (by simp)]
  show (if ((PySem.W.clsIn K C).isSome && PySem.W.typeIn K (.ref C) == some (.type "type")) = true then PySem.W.subIn K (.type T) (.ref C) else none) = some false
  rw [h1, h2, if_pos (by simp)]
  show (PySem.fastBuiltinMro T).map (·.contains (.ref C)) = some false
  rw [h3]
  simp
theorem kit_self {K : PySem.W.Frag} {C : Addr} : PySem.W.kitOne K (.ref C) (.ref C) = some true := by
  unfold PySem.W.kitOne
  simp
section
variable {P : Program} {w : World} {K : PySem.W.Frag} {mg : Str → Option Value} {base : Heap}
/-! ### __eq__ -/
theorem scEq : FnScope ["self", "other"] ["self", "other"] (defScope sEq) := ⟨rfl, rfl, rfl, by decide +kernel, rfl, by decide +kernel, by decide +kernel⟩
def spEq (K : PySem.W.Frag) (C : Addr) : Sp := fun vs H Q _ => ∃ (p : Addr) (v : V) (ns : List Int) (ps : List (List Int)), vs = [.ref p, v] ∧ RuleAt K C H p ns ps ∧
  ((∃ (q : Addr) (ns' : List Int) (ps' : List (List Int)), v = .ref q ∧ RuleAt K C H q ns' ps' ∧ Q (.bl (decide (ns = ns') && decide (ps = ps'))) H) ∨ (∃ t, TyX K H v t ∧ PySem.W.kitOne K t (.ref C) = some false ∧ Q (.bl false) H))
theorem ok_eq {f C : Addr} {fd : FuncData} (F : Fun K "__eq__" "Rule.__eq__" sEq f fd) (T : Txt K mg C) (B : Bare mg) : FnOk P w K mg base CX0 1 f fd ["self", "other"] (spEq K C) := by
  refine F.ok scEq (fun vs H Q E h => ?_) (fun cdv A outer s H vs Q E hr h => ?_)
  · obtain ⟨p, v, ns, ps, rfl, _⟩ := h
    rfl
  · obtain ⟨p, v, ns, ps, rfl, R1, h⟩ := h
    obtain ⟨dx, a, b, t, h1, h2, h3, h4⟩ := R1.ex
    refine ⟨_, pss_one (ps_ret (pe_and (pe_callB call_isi (by rfl) B.isinstance (by decide +kernel) (pa_cons (pv 1) (pa_cons (pe_glob (v := .ref C) rfl T.mgC rfl) pa_nil)))
      (pe_and (pe_cmpR (op_eqI1 hr.units) (pe_fld (pv 0) rfl) (pe_fld (pv 1) rfl) (nomark _)) (pe_one (pe_cmpR (op_eqTs hr.units) (pe_fld (pv 0) rfl) (pe_fld (pv 1) rfl) (nomark _)))))), ?_⟩
    rcases h with ⟨q, ns', ps', rfl, R2, k⟩ | ⟨ty, hty, hk, k⟩
    · obtain ⟨dx', a', b', t', g1, g2, g3, g4⟩ := R2.ex
      refine ⟨.ref q, rfl, .ref q, .ref C, _, _, true, rfl, .own C, .base (.ins g1 T.cl T.c1 T.c2 T.c3 T.c4), T.c5, true, rfl, iteT ?_⟩
      refine ⟨.ref p, rfl, p, C, dx, _, _, rfl, h1, T.cl, T.nM, flds_m _ _ _, .ref q, rfl, q, C, dx', _, _, rfl, g1, T.cl, T.nM, flds_m _ _ _, a, a', ns, ns', rfl, rfl, h2, g2, _, rfl, ?_⟩
      by_cases e : ns = ns'
      · rw [decide_eq_true e] at k ⊢
        refine iteT ⟨.ref p, rfl, p, C, dx, _, _, rfl, h1, T.cl, T.nS, flds_s _ _ _, .ref q, rfl, q, C, dx', _, _, rfl, g1, T.cl, T.nS, flds_s _ _ _, b, b', ps, ps', rfl, rfl, h3, g3, ?_⟩
        rw [Bool.true_and] at k
        exact k
      · rw [decide_eq_false e] at k ⊢
        rw [Bool.false_and] at k
        exact iteF k
    · exact ⟨v, rfl, v, .ref C, _, _, false, rfl, .own C, hty, hk, false, rfl, iteF k⟩
/-! ### marks, mirror, behind -/
theorem scMarksM : FnScope ["self"] ["self"] (defScope sMarksM) := ⟨rfl, rfl, rfl, by decide +kernel, rfl, by decide +kernel, by decide +kernel⟩
def spMarksM (K : PySem.W.Frag) (C : Addr) : Sp := fun vs H Q _ => ∃ (p : Addr) (ns : List Int) (ps : List (List Int)), vs = [.ref p] ∧ RuleAt K C H p ns ps ∧ Q (.int (ns.length : Int)) H
theorem ok_marksM {f C : Addr} {fd : FuncData} (F : Fun K "marks" "Rule.marks" sMarksM f fd) (T : Txt K mg C) (B : Bare mg) : FnOk P w K mg base CX0 1 f fd ["self"] (spMarksM K C) := by
  refine F.ok scMarksM (fun vs H Q E h => ?_) (fun cdv A outer s H vs Q E hr h => ?_)
  · obtain ⟨p, ns, ps, rfl, _⟩ := h
    rfl
  · obtain ⟨p, ns, ps, rfl, R1, k⟩ := h
    obtain ⟨dx, a, b, t, h1, h2, h3, h4⟩ := R1.ex
    refine ⟨_, pss_one (ps_ret (pe_callB call_len_seq (by rfl) B.len PySem.boot_len (pa_cons (pe_fld (pv 0) rfl) pa_nil))), ?_⟩
    refine ⟨.ref p, rfl, p, C, dx, _, _, rfl, h1, T.cl, T.nM, flds_m _ _ _, a, _, rfl, .inr h2, ?_⟩
    rw [List.length_map]; exact k
theorem scMirrorM : FnScope ["self", "mark"] ["self", "mark"] (defScope sMirrorM) := ⟨rfl, rfl, rfl, by decide +kernel, rfl, by decide +kernel, by decide +kernel⟩
def spMirrorM (K : PySem.W.Frag) (C : Addr) : Sp := fun vs H Q _ => ∃ (p : Addr) (ns : List Int) (ps : List (List Int)) (i : Nat) (x : Int), vs = [.ref p, .int (i : Int)] ∧ RuleAt K C H p ns ps ∧ ns[i]? = some x ∧ Q (.int x) H
theorem ok_mirrorM {f C : Addr} {fd : FuncData} (F : Fun K "mirror" "Rule.mirror" sMirrorM f fd) (T : Txt K mg C) : FnOk P w K mg base CX0 1 f fd ["self", "mark"] (spMirrorM K C) := by
  refine F.ok scMirrorM (fun vs H Q E h => ?_) (fun cdv A outer s H vs Q E hr h => ?_)
  · obtain ⟨p, ns, ps, i, x, rfl, _⟩ := h
    rfl
  · obtain ⟨p, ns, ps, i, x, rfl, R1, e, k⟩ := h
    obtain ⟨dx, a, b, t, h1, h2, h3, h4⟩ := R1.ex
    refine ⟨_, pss_one (ps_ret (pe_ix ix_tup (pe_fld (pv 0) rfl) (pv 1) (fun _ _ => rfl))), ?_⟩
    exact ⟨.ref p, rfl, p, C, dx, _, _, rfl, h1, T.cl, T.nM, flds_m _ _ _, .int (i : Int), rfl, a, _, _, _, rfl, rfl, h2, atI_nat (by rw [List.getElem?_map, e]; rfl), k⟩
theorem n4 : ¬ (("followers" : Str) = "steps") := by decide +kernel
theorem flds_f (a b t : Addr) : (flds a b t).lookup ("followers" : Str) = some (.ref t) := by
  unfold flds
  rw [lookup_putF, if_pos rfl]
theorem scBehindM : FnScope ["self", "mark"] ["self", "mark"] (defScope sBehindM) := ⟨rfl, rfl, rfl, by decide +kernel, rfl, by decide +kernel, by decide +kernel⟩
def spBehindM (K : PySem.W.Frag) (C : Addr) : Sp := fun vs H Q _ => ∃ (p : Addr) (ns : List Int) (ps : List (List Int)) (i : Nat), vs = [.ref p, .int (i : Int)] ∧ RuleAt K C H p ns ps ∧ i < ns.length ∧ ∀ c, SqT K H c ((behindOf ps (i : Int)).map V.int) → Q (.ref c) H
theorem ok_behindM {f C : Addr} {fd : FuncData} (F : Fun K "behind" "Rule.behind" sBehindM f fd) (T : Txt K mg C) : FnOk P w K mg base CX0 1 f fd ["self", "mark"] (spBehindM K C) := by
  refine F.ok scBehindM (fun vs H Q E h => ?_) (fun cdv A outer s H vs Q E hr h => ?_)
  · obtain ⟨p, ns, ps, i, rfl, _⟩ := h
    rfl
  · obtain ⟨p, ns, ps, i, rfl, R1, hi, k⟩ := h
    obtain ⟨dx, a, b, t, h1, h2, h3, h4⟩ := R1.ex
    obtain ⟨ks, e1, e2, e3⟩ := h4
    refine ⟨_, pss_one (ps_ret (pe_ix ix_tup (pe_fld (pv 0) rfl) (pv 1) (fun _ _ => rfl))), ?_⟩
    have hkl : ks.length = ns.length := by
      have z := congrArg List.length e1
      rw [List.length_map] at z
      rw [z]; unfold follow; rw [List.length_map, List.length_range]
    have hk : i < ks.length := by omega
    have e4 : (ks.map (·.2))[i]? = some ks[i].2 := by rw [List.getElem?_map, List.getElem?_eq_getElem hk]; rfl
    have e5 : ks[i].2 = behindOf ps (i : Int) := by
      rw [e1] at e4
      unfold follow at e4
      rw [List.getElem?_map, List.getElem?_range hi] at e4
      exact (Option.some.inj e4).symm
    refine ⟨.ref p, rfl, p, C, dx, _, _, rfl, h1, T.cl, T.nF, flds_f _ _ _, .int (i : Int), rfl, t, _, _, .ref ks[i].1, rfl, rfl, e2, atI_nat (by rw [List.getElem?_map, List.getElem?_eq_getElem hk]; rfl), k _ ?_⟩
    rw [← e5]; exact e3 _ (List.getElem_mem hk)
/-- what a call Rule(a, b) comes to -/
theorem make_rule {C a b x dx : Addr} {H : Hp} {Qh : Hp → Prop} {E : XK} {ns : List Int} {ps : List (List Int)} (hA : SqT K H a (ns.map V.int)) (hB : Tups K H b ps) (hM : Mir ns) (hS : Stp ns ps) (nx : H x = none) (nd : H dx = none) (ne : dx ≠ x)
    (k : ∀ H', Same H H' → RuleAt K C H' x ns ps → Qh H') :
    spInit K C (.ref x :: ([.ref a, .ref b] ++ [])) (upd (upd H dx (.own x)) x (.ins C dx [])) (fun v H2 => v = .non ∧ Qh H2) E := by
  have s0 : Same H (upd (upd H dx (.own x)) x (.ins C dx [])) := fun c o e => by
    rw [upd_ne (ne_of_none e nx), upd_ne (ne_of_none e nd)]; exact e
  refine ⟨x, dx, a, b, ns, ps, rfl, upd_same, sqT_same s0 hA, hB.same s0, hM, hS, fun H' t k1 k2 k3 => ⟨rfl, ?_⟩⟩
  have s1 : Same H H' := fun c o e => k1 c o (s0 c o e) (ne_of_none e nx)
  exact k H' s1 ⟨dx, a, b, t, k2, sqT_same s1 hA, hB.same s1, k3⟩
end
end K4
set_option maxHeartbeats 4000000
namespace RV
open PySem PySem.Spec PyProof.Rows L2
theorem nx_step {i : Nat} {v : V} {σ : L2.St} {H : Hp} {G : L2.St → Hp → Prop} (h : G (σ.set i (some v)) H) : gName i v σ H G := h
theorem seq_mid {t1 t2 : TS} {D : Ends} {σ : L2.St} {H : Hp} (J : L2.St → Hp → Prop) (h2 : ∀ σ H, J σ H → t2 D σ H) (h1 : (∀ σ H, J σ H → t2 D σ H) → tSeq t1 t2 D σ H) : tSeq t1 t2 D σ H := h1 h2
section
variable {X : Cx} {K : PySem.W.Frag}
theorem op_notInDK (h : X.K = K) (hu : X.A.units + 65 < cLine) : OpR X (compareOp .NotIn) (rNotInD K) := h ▸ op_notInD hu
theorem pe_backTK {e : Expr} {te : TE} {k : Nat} {p1 p2 p3 pos : Pos} (h : X.K = K) (he : PE X e te) : PE X (.Subscript e (.Slice none none (some (.UnaryOp .USub (.Constant (.int 1) k p1) p2)) p3) pos) (tBackT K te) := h ▸ pe_backT he
end
section
variable {X : Cx} {K : PySem.W.Frag}
theorem op_inDK (h : X.K = K) (hu : X.A.units + 65 < cLine) : OpR X (compareOp .In) (rInD K) := h ▸ op_inD hu
theorem ix_listK (h : X.K = K) : IxR X (rIxL K) := h ▸ ix_list
end
theorem take_filt {α : Type} {c : α → Bool} {ks : List α} {k : α} {i : Nat} (g : ks[i]? = some k) : (ks.take (i + 1)).filter c = (ks.take i).filter c ++ (if c k = true then [k] else []) := by
  rw [List.take_add_one, g]
  show (ks.take i ++ [k]).filter c = _
  rw [List.filter_append]
  by_cases e : c k = true
  · rw [if_pos e]; simp [e]
  · rw [if_neg e]; simp [e]
section
variable {K : PySem.W.Frag} {tt : TT} {te : TE} {f : Int → Bool} {σ : L2.St} {H1 : Hp} {a D : Addr} {v : Nat} {ns : List Int} {Qd : Hp → Prop}
/-- [x for x in t if ..], t a tuple of ints -/
theorem lc_filtT (hT : SqT K H1 a (ns.map V.int)) (hl : ns.length ≤ 1000) (nD : H1 D = none)
    (htest : ∀ x ∈ ns, ∀ H', Same H1 H' → ∀ A B : Hp → Prop, (∀ H2, Same H' H2 → if f x = true then A H2 else B H2) → tt ((wipe σ [v]).set v (some (.int x))) H' (fun b H3 => if b = true then A H3 else B H3))
    (hte : ∀ (x : Int) (H' : Hp) (Q : VK), Q (.int x) H' → te ((wipe σ [v]).set v (some (.int x))) H' Q)
    (hd : ∀ H', Same H1 H' → H' D = some (.lst ((ns.filter f).map V.int)) → Qd H') :
    ∃ W : Nat → Nat → Hp → Prop, (∃ m, W 0 m (upd H1 D (.lst []))) ∧ ∀ i m H, W i m H →
      ((Itt K a).stop i H ∧ Qd H) ∨ ((Itt K a).go i H ∧ ∃ Nx : Hp → Prop, (∀ H', Nx H' → ∃ m', m' < m ∧ W (i + 1) m' H') ∧ ∀ x H', (Itt K a).yld i H x H' → gName v x (wipe σ [v]) H' fun σ2 H2 => wipe σ2 [v] = wipe σ [v] ∧ tt σ2 H2 fun b H3 =>
        if b = true then te σ2 H3 fun y H4 => ∃ acc, H4 D = some (.lst acc) ∧ acc.length < sizeLine ∧ Nx (upd H4 D (.lst (acc ++ [y]))) else Nx H3) := by
  refine lc_tup (K := K) (a := a) (xs := ns.map V.int) (fun i H' => Same H1 H' ∧ H' D = some (.lst (((ns.take i).filter f).map V.int))) ⟨same_upd nD, upd_same⟩ (fun i H' _ p => sqT_same p.1 hT) (fun i x H' hx p => ?_) fun H' p => ?_
  · obtain ⟨k, g, rfl⟩ := map_at hx
    refine ⟨by simp [wipe, List.set_set], htest k (List.mem_of_getElem? g) H' p.1 _ _ fun H2 s2 => ?_⟩
    have s12 := p.1.trans s2
    have e2 := s2 _ _ p.2
    by_cases e : f k = true
    · rw [if_pos e]
      refine hte k H2 _ ⟨_, e2, ?_, fun b o z => ?_, ?_⟩
      · rw [List.length_map]
        exact few1 (Nat.le_trans (List.length_filter_le _ _) (by rw [List.length_take]; omega))
      · rw [upd_ne (ne_of_none z nD)]; exact s12 b o z
      · rw [upd_same, take_filt g, if_pos e, List.map_append]; rfl
    · rw [if_neg e]
      exact ⟨s12, by rw [take_filt g, if_neg e, List.append_nil]; exact e2⟩
  · rw [List.length_map, List.take_of_length_le (Nat.le_refl _)] at p
    exact hd H' p.1 p.2
/-- [x for x in l if ..], l a list of ints -/
theorem lc_filtL (hT : SqL K H1 a (ns.map V.int)) (hl : ns.length ≤ 1000) (nD : H1 D = none)
    (htest : ∀ x ∈ ns, ∀ H', Same H1 H' → ∀ A B : Hp → Prop, (∀ H2, Same H' H2 → if f x = true then A H2 else B H2) → tt ((wipe σ [v]).set v (some (.int x))) H' (fun b H3 => if b = true then A H3 else B H3))
    (hte : ∀ (x : Int) (H' : Hp) (Q : VK), Q (.int x) H' → te ((wipe σ [v]).set v (some (.int x))) H' Q)
    (hd : ∀ H', Same H1 H' → H' D = some (.lst ((ns.filter f).map V.int)) → Qd H') :
    ∃ W : Nat → Nat → Hp → Prop, (∃ m, W 0 m (upd H1 D (.lst []))) ∧ ∀ i m H, W i m H →
      ((Itl K a).stop i H ∧ Qd H) ∨ ((Itl K a).go i H ∧ ∃ Nx : Hp → Prop, (∀ H', Nx H' → ∃ m', m' < m ∧ W (i + 1) m' H') ∧ ∀ x H', (Itl K a).yld i H x H' → gName v x (wipe σ [v]) H' fun σ2 H2 => wipe σ2 [v] = wipe σ [v] ∧ tt σ2 H2 fun b H3 =>
        if b = true then te σ2 H3 fun y H4 => ∃ acc, H4 D = some (.lst acc) ∧ acc.length < sizeLine ∧ Nx (upd H4 D (.lst (acc ++ [y]))) else Nx H3) := by
  refine lc_list (K := K) (a := a) (xs := ns.map V.int) (fun i H' => Same H1 H' ∧ H' D = some (.lst (((ns.take i).filter f).map V.int))) ⟨same_upd nD, upd_same⟩ (fun i H' _ p => sqL_same p.1 hT) (fun i x H' hx p => ?_) fun H' p => ?_
  · obtain ⟨k, g, rfl⟩ := map_at hx
    refine ⟨by simp [wipe, List.set_set], htest k (List.mem_of_getElem? g) H' p.1 _ _ fun H2 s2 => ?_⟩
    have s12 := p.1.trans s2
    have e2 := s2 _ _ p.2
    by_cases e : f k = true
    · rw [if_pos e]
      refine hte k H2 _ ⟨_, e2, ?_, fun b o z => ?_, ?_⟩
      · rw [List.length_map]
        exact few1 (Nat.le_trans (List.length_filter_le _ _) (by rw [List.length_take]; omega))
      · rw [upd_ne (ne_of_none z nD)]; exact s12 b o z
      · rw [upd_same, take_filt g, if_pos e, List.map_append]; rfl
    · rw [if_neg e]
      exact ⟨s12, by rw [take_filt g, if_neg e, List.append_nil]; exact e2⟩
  · rw [List.length_map, List.take_of_length_le (Nat.le_refl _)] at p
    exact hd H' p.1 p.2
end
/-! ### x in l, of ints -/
theorem dpL {K : PySem.W.Frag} {H : Hp} {a : Addr} {ns : List Int} (h : SqL K H a (ns.map V.int)) : Dp K H (.ref a) (.list (ns.map PyData.int)) := .lst h (dpInts ns)
theorem shapedLI (ns : List Int) : SeqAt.shaped (.list (ns.map PyData.int)) = true := by
  have h1 : (PyData.list (ns.map PyData.int)).canLay0 = true := by simp only [PyData.canLay0]; exact lay_ints ns
  have h2 : (PyData.list (ns.map PyData.int)).depth ≤ 64 := by simp only [PyData.depth, dep_ints]; omega
  show ((PyData.list (ns.map PyData.int)).canLay0 && decide ((PyData.list (ns.map PyData.int)).depth ≤ 64)) = true
  rw [h1, decide_eq_true h2]; rfl
theorem shapedN (n : Int) : SeqAt.shaped (.int n) = true := by
  show ((PyData.int n).canLay0 && decide ((PyData.int n).depth ≤ 64)) = true
  simp [PyData.canLay0, PyData.depth]
theorem any_int (x : Int) : ∀ ns : List Int, (ns.map PyData.int).any (fun y => PyData.eqv y (.int x)) = decide (x ∈ ns)
  | [] => rfl
  | n :: r => by
    rw [List.map_cons, List.any_cons, any_int x r]
    by_cases e : x = n
    · subst e; simp [PyData.eqv]
    · have e' : ¬ n = x := fun z => e z.symm
      by_cases e2 : x ∈ r <;> simp [PyData.eqv, e, e', e2]
section
variable {X : Cx}
/-- n in t, t a tuple of ints -/
def rInTI (K : PySem.W.Frag) : R2 := fun x y H Q => ∃ (b : Addr) (n : Int) (ns : List Int), x = .int n ∧ y = .ref b ∧ SqT K H b (ns.map V.int) ∧ Q (.bl (decide (n ∈ ns))) H
theorem op_inTI (hu : X.A.units + 65 < cLine) : OpR X (compareOp .In) (rInTI X.K) := by
  intro pins s σ H x y v u Q I rx ry h
  obtain ⟨b, n, ns, rfl, rfl, h2, q⟩ := h
  obtain ⟨as, r1⟩ := Dp.reads I (.int n) (.int n) v (.int n) rx
  obtain ⟨bs, r2⟩ := Dp.reads I (dI ns) (.ref b) u (dpT h2) ry
  refine SeqAt.in_tuple_reads (xs := ns.map PyData.int) r2 r1 (lay_ints ns) (by simp [PyData.canLay0]) ?_ ⟨.bl _, H, I, rfl, ?_⟩
  · have := Nat.min_le_right (PyData.depthAll (ns.map PyData.int)) (PyData.int n).depth
    have e : (PyData.int n).depth = 0 := by simp [PyData.depth]
    omega
  · rw [any_int]; exact q
theorem op_inTIK {K : PySem.W.Frag} (h : X.K = K) (hu : X.A.units + 65 < cLine) : OpR X (compareOp .In) (rInTI K) := h ▸ op_inTI hu
end
end RV
namespace RV
/-! ### rings: runs of marks, by the list of all their marks -/
/-- so many times the word -/
def rp (n : Nat) (w : List Int) : List Int := (List.replicate n w).flatten
theorem rp_zero (w : List Int) : rp 0 w = [] := rfl
theorem rp_succ (n : Nat) (w : List Int) : rp (n + 1) w = w ++ rp n w := by unfold rp; rw [List.replicate_succ, List.flatten_cons]
theorem rp_one (w : List Int) : rp 1 w = w := by rw [rp_succ, rp_zero, List.append_nil]
theorem rp_add (a b : Nat) (w : List Int) : rp (a + b) w = rp a w ++ rp b w := by unfold rp; rw [← List.replicate_append_replicate, List.flatten_append]
theorem rp_len : ∀ (n : Nat) (w : List Int), (rp n w).length = n * w.length
  | 0, w => by rw [rp_zero, Nat.zero_mul]; rfl
  | n + 1, w => by rw [rp_succ, List.length_append, rp_len n w, Nat.succ_mul, Nat.add_comm]
theorem rp_get : ∀ (n : Nat) (w : List Int) (i : Nat), i < n * w.length → (rp n w)[i]? = w[i % w.length]?
  | 0, w, i, h => by rw [Nat.zero_mul] at h; omega
  | n + 1, w, i, h => by
    rw [rp_succ]
    rcases Nat.lt_or_ge i w.length with z | z
    · rw [List.getElem?_append_left z, Nat.mod_eq_of_lt z]
    · rw [List.getElem?_append_right z, rp_get n w _ (by rw [Nat.succ_mul] at h; omega), Nat.mod_eq_sub_mod z]
theorem rp_rev : ∀ (n : Nat) (w : List Int), (rp n w).reverse = rp n w.reverse
  | 0, w => rfl
  | n + 1, w => by rw [rp_succ, List.reverse_append, rp_rev n w, show n + 1 = n + 1 from rfl, rp_add, rp_one]
theorem rp_map (f : Int → Int) : ∀ (n : Nat) (w : List Int), (rp n w).map f = rp n (w.map f)
  | 0, w => rfl
  | n + 1, w => by rw [rp_succ, List.map_append, rp_map f n w, rp_succ]
/-- all marks of the runs -/
def mk : List (Int × List Int) → List Int
  | [] => []
  | r :: rs => rp r.1.toNat r.2 ++ mk rs
theorem mk_app : ∀ (a b : List (Int × List Int)), mk (a ++ b) = mk a ++ mk b
  | [], b => rfl
  | r :: a, b => by show rp r.1.toNat r.2 ++ mk (a ++ b) = rp r.1.toNat r.2 ++ mk a ++ mk b; rw [mk_app a b, List.append_assoc]
theorem mk_one (t : Int) (w : List Int) : mk [(t, w)] = rp t.toNat w := by show rp t.toNat w ++ [] = _; rw [List.append_nil]
/-- how many places a run takes -/
def rl (r : Int × List Int) : Int := r.1 * (r.2.length : Int)
def pl (rs : List (Int × List Int)) : Int := (rs.map rl).sum
theorem pl_cons (r : Int × List Int) (rs : List (Int × List Int)) : pl (r :: rs) = rl r + pl rs := by unfold pl; rw [List.map_cons, List.sum_cons]
theorem pl_app (a b : List (Int × List Int)) : pl (a ++ b) = pl a + pl b := by unfold pl; rw [List.map_append, List.sum_append_int]
/-- runs as rings have them -/
def Rn (rs : List (Int × List Int)) : Prop := ∀ r ∈ rs, 1 ≤ r.1 ∧ r.2 ≠ []
theorem rl_pos {r : Int × List Int} (h : 1 ≤ r.1 ∧ r.2 ≠ []) : 0 < rl r := Int.mul_pos (by omega) (by have := List.length_pos_iff.mpr h.2; omega)
theorem rl_nat {r : Int × List Int} (h : 0 ≤ r.1) : ((r.1.toNat * r.2.length : Nat) : Int) = rl r := by
  unfold rl; rw [Int.natCast_mul, Int.toNat_of_nonneg h]
theorem mk_len : ∀ {rs : List (Int × List Int)}, (∀ r ∈ rs, 0 ≤ r.1) → ((mk rs).length : Int) = pl rs
  | [], _ => rfl
  | r :: rs, h => by
    show (((rp r.1.toNat r.2 ++ mk rs).length : Nat) : Int) = _
    rw [List.length_append, Int.natCast_add, mk_len fun q hq => h q (List.mem_cons_of_mem _ hq), pl_cons, rp_len, rl_nat (h r (List.mem_cons_self ..))]
theorem Rn.nn {rs : List (Int × List Int)} (h : Rn rs) : ∀ r ∈ rs, 0 ≤ r.1 := fun r hr => by have := (h r hr).1; omega
theorem Rn.sub {rs qs : List (Int × List Int)} (h : Rn rs) (s : ∀ q ∈ qs, q ∈ rs) : Rn qs := fun q hq => h q (s q hq)
theorem Rn.pos {rs : List (Int × List Int)} (h : Rn rs) (n : rs ≠ []) : 0 < pl rs := by
  cases rs with
  | nil => exact absurd rfl n
  | cons r rs =>
    have h1 := rl_pos (h r (List.mem_cons_self ..))
    have h2 : 0 ≤ pl rs := by rw [← mk_len (Rn.nn (h.sub fun q hq => List.mem_cons_of_mem _ hq))]; omega
    rw [pl_cons]; omega
theorem pl_nn {rs : List (Int × List Int)} (h : ∀ r ∈ rs, 0 ≤ r.1) : 0 ≤ pl rs := by rw [← mk_len h]; omega
theorem split_at {α : Type} {rs : List α} {a : Nat} {r : α} (h : rs[a]? = some r) : rs = rs.take a ++ r :: rs.drop (a + 1) := by
  have hl := (List.getElem?_eq_some_iff.mp h)
  obtain ⟨hl, e⟩ := hl
  conv => lhs; rw [← List.take_append_drop a rs]
  rw [List.drop_eq_getElem_cons hl, e]
theorem mk_at {rs : List (Int × List Int)} (hn : ∀ r ∈ rs, 0 ≤ r.1) {a : Nat} {r : Int × List Int} (h : rs[a]? = some r) {i : Nat} (hi : (i : Int) < rl r) : (mk rs)[(pl (rs.take a)).toNat + i]? = r.2[i % r.2.length]? := by
  have e := split_at h
  have n1 : ∀ q ∈ rs.take a, 0 ≤ q.1 := fun q hq => hn q (List.mem_of_mem_take hq)
  have l1 := mk_len n1
  have hr0 : 0 ≤ r.1 := hn r (List.mem_of_getElem? h)
  have ln : i < r.1.toNat * r.2.length := by have z := rl_nat (r := r) hr0; omega
  have key : (mk (rs.take a ++ r :: rs.drop (a + 1)))[(pl (rs.take a)).toNat + i]? = r.2[i % r.2.length]? := by
   rw [mk_app]
   show (mk (rs.take a) ++ (rp r.1.toNat r.2 ++ mk (rs.drop (a + 1))))[_]? = _
   rw [List.getElem?_append_right (by omega), show (pl (rs.take a)).toNat + i - (mk (rs.take a)).length = i by omega, List.getElem?_append_left (by rw [rp_len]; exact ln), rp_get _ _ _ ln]
  rw [← e] at key; exact key
/-- the mark at a place, counted on round the ring -/
def mP (l : List Int) (p : Int) : Int := l.getD (p % (l.length : Int)).toNat 0
theorem mP_get {l : List Int} {i : Nat} (h : i < l.length) : mP l (i : Int) = l.getD i 0 := by
  unfold mP; rw [Int.emod_eq_of_lt (by omega) (by omega), Int.toNat_natCast]
theorem mP_mod (l : List Int) (p q : Int) (h : (p - q) % (l.length : Int) = 0) : mP l p = mP l q := by
  unfold mP
  rw [Int.emod_emod_of_dvd p (Int.dvd_refl _) |>.symm, (Int.emod_eq_emod_iff_emod_sub_eq_zero).mpr h, Int.emod_emod_of_dvd q (Int.dvd_refl _)]
theorem mP_add (l : List Int) (p : Int) (k : Int) : mP l (p + (l.length : Int) * k) = mP l p := by
  apply mP_mod
  rw [show p + (l.length : Int) * k - p = (l.length : Int) * k by omega, Int.mul_emod_right]
theorem mP_rest (l : List Int) (p : Int) : mP l (p % (l.length : Int)) = mP l p := by
  apply mP_mod
  rw [Int.sub_emod, Int.emod_emod_of_dvd p (Int.dvd_refl _), Int.sub_self, Int.zero_emod]
/-- a place within: nonneg rest -/
theorem rest_in {l : List Int} (h : l ≠ []) (p : Int) : 0 ≤ p % (l.length : Int) ∧ p % (l.length : Int) < (l.length : Int) := by
  have := List.length_pos_iff.mpr h
  exact ⟨Int.emod_nonneg _ (by omega), Int.emod_lt_of_pos _ (by omega)⟩
theorem mP_rot {A B : List Int} (h : A ++ B ≠ []) (p : Int) : mP (B ++ A) p = mP (A ++ B) (p + (A.length : Int)) := by
  have hl : ((B ++ A).length : Int) = ((A ++ B).length : Int) := by rw [List.length_append, List.length_append]; omega
  have hN : ((A ++ B).length : Int) = (A.length : Int) + (B.length : Int) := by rw [List.length_append]; omega
  have h' : B ++ A ≠ [] := fun z => h (by rw [List.append_eq_nil_iff] at z ⊢; exact ⟨z.2, z.1⟩)
  obtain ⟨i, hi⟩ : ∃ i : Nat, (i : Int) = p % ((B ++ A).length : Int) := ⟨(p % ((B ++ A).length : Int)).toNat, by have := (rest_in h' p).1; omega⟩
  have b := (rest_in h' p).2
  have e1 : mP (B ++ A) p = (B ++ A).getD i 0 := by rw [← mP_rest, ← hi, mP_get (by omega)]
  rw [e1]
  have hm : (p - (i : Int)) % ((A ++ B).length : Int) = 0 := by
    rw [hi, hl, Int.sub_emod, Int.emod_emod_of_dvd p (Int.dvd_refl _), Int.sub_self, Int.zero_emod]
  have e2 : mP (A ++ B) (p + (A.length : Int)) = mP (A ++ B) ((i : Int) + (A.length : Int)) := mP_mod _ _ _ (by rw [show p + (A.length : Int) - ((i : Int) + (A.length : Int)) = p - (i : Int) by omega]; exact hm)
  rw [e2]
  rcases Nat.lt_or_ge i B.length with z | z
  · rw [show (i : Int) + (A.length : Int) = ((A.length + i : Nat) : Int) by omega, mP_get (by rw [List.length_append]; omega), List.getD_eq_getElem?_getD, List.getD_eq_getElem?_getD, List.getElem?_append_left z, List.getElem?_append_right (by omega), show A.length + i - A.length = i by omega]
  · have e3 : mP (A ++ B) ((i : Int) + (A.length : Int)) = mP (A ++ B) ((i - B.length : Nat) : Int) := mP_mod _ _ _ (by
      rw [show (i : Int) + (A.length : Int) - ((i - B.length : Nat) : Int) = ((A ++ B).length : Int) * 1 by omega, Int.mul_emod_right])
    rw [← hi, hl, hN] at b
    rw [e3, mP_get (by rw [List.length_append]; omega), List.getD_eq_getElem?_getD, List.getD_eq_getElem?_getD, List.getElem?_append_right z, List.getElem?_append_left (by omega)]
theorem mP_back {l : List Int} (h : l ≠ []) (f : Int → Int) (p : Int) : mP (l.reverse.map f) p = f (mP l ((l.length : Int) - 1 - p)) := by
  have hl : ((l.reverse.map f).length : Int) = (l.length : Int) := by rw [List.length_map, List.length_reverse]
  obtain ⟨i, hi⟩ : ∃ i : Nat, (i : Int) = p % (l.length : Int) := ⟨(p % (l.length : Int)).toNat, by have := (rest_in h p).1; omega⟩
  have b := (rest_in h p).2
  rw [← hi] at b
  have il : i < l.length := by omega
  have e1 : mP (l.reverse.map f) p = (l.reverse.map f).getD i 0 := by rw [← mP_rest, hl, ← hi, mP_get (by omega)]
  have e2 : mP l ((l.length : Int) - 1 - p) = mP l ((l.length - 1 - i : Nat) : Int) := mP_mod _ _ _ (by
    rw [show (l.length : Int) - 1 - p - ((l.length - 1 - i : Nat) : Int) = (i : Int) - p by omega, hi, Int.sub_emod, Int.emod_emod_of_dvd p (Int.dvd_refl _), Int.sub_self, Int.zero_emod])
  rw [e1, e2, mP_get (by omega), List.getD_eq_getElem?_getD, List.getD_eq_getElem?_getD, List.getElem?_map, List.getElem?_reverse il]
  rw [List.getElem?_eq_getElem (show l.length - 1 - i < l.length by omega)]; rfl
/-! ### closed round -/
/-- each mark may stand behind the one ahead of it, all round -/
def Cyc (ps : List (List Int)) (l : List Int) : Prop := ∀ p : Int, [mP l p, mP l (p + 1)] ∈ ps
theorem Cyc.rot {ps : List (List Int)} {A B : List Int} (h : A ++ B ≠ []) (c : Cyc ps (A ++ B)) : Cyc ps (B ++ A) := fun p => by
  rw [mP_rot h, mP_rot h, show p + 1 + (A.length : Int) = p + (A.length : Int) + 1 by omega]; exact c _
theorem Cyc.back {ps : List (List Int)} {l : List Int} {f : Int → Int} (h : l ≠ []) (hf : ∀ a b, a ∈ l → b ∈ l → [a, b] ∈ ps → [f b, f a] ∈ ps) (hm : ∀ p, mP l p ∈ l) (c : Cyc ps l) : Cyc ps (l.reverse.map f) := fun p => by
  rw [mP_back h, mP_back h]
  have := c ((l.length : Int) - 1 - (p + 1))
  rw [show (l.length : Int) - 1 - (p + 1) + 1 = (l.length : Int) - 1 - p by omega] at this
  exact hf _ _ (hm _) (hm _) this
theorem mP_mem {l : List Int} (h : l ≠ []) (p : Int) : mP l p ∈ l := by
  have b := rest_in h p
  unfold mP
  rw [List.getD_eq_getElem?_getD, List.getElem?_eq_getElem (show (p % (l.length : Int)).toNat < l.length by omega)]
  exact List.getElem_mem _
/-- a walk from the mark x round and back to it -/
def Loop (ps : List (List Int)) (x : Int) (l : List Int) : Prop := (∀ y, l[0]? = some y → y = x) ∧ (∀ i a b, l[i]? = some a → (l ++ [x])[i + 1]? = some b → [a, b] ∈ ps)
theorem Loop.nil (ps : List (List Int)) (x : Int) : Loop ps x [] := ⟨(fun _ h => nomatch h), fun _ _ _ h => nomatch h⟩
theorem Loop.app {ps : List (List Int)} {x : Int} {u v : List Int} (hu : Loop ps x u) (hv : Loop ps x v) : Loop ps x (u ++ v) := by
  constructor
  · intro y hy
    cases u with
    | nil => exact hv.1 y hy
    | cons a u => exact hu.1 y hy
  · intro i a b ha hb
    rcases Nat.lt_or_ge i u.length with z | z
    · rw [List.getElem?_append_left z] at ha
      refine hu.2 i a b ha ?_
      rcases Nat.lt_or_ge (i + 1) u.length with z2 | z2
      · rw [List.append_assoc, List.getElem?_append_left z2] at hb
        rw [List.getElem?_append_left z2]; exact hb
      · rw [List.append_assoc, List.getElem?_append_right z2] at hb
        rw [List.getElem?_append_right z2]
        rw [show i + 1 - u.length = 0 by omega] at hb ⊢
        cases v with
        | nil => exact hb
        | cons c v =>
          rw [show ((c :: v) ++ [x])[0]? = some c from rfl] at hb
          cases hb
          rw [hv.1 _ rfl]; rfl
    · rw [List.getElem?_append_right z] at ha
      rw [List.append_assoc, List.getElem?_append_right (by omega), show i + 1 - u.length = i - u.length + 1 by omega] at hb
      exact hv.2 _ a b ha hb
theorem Loop.rp {ps : List (List Int)} {x : Int} {w : List Int} (h : Loop ps x w) : ∀ n, Loop ps x (rp n w)
  | 0 => Loop.nil ps x
  | n + 1 => by rw [rp_succ]; exact h.app (Loop.rp h n)
theorem Loop.cyc {ps : List (List Int)} {x : Int} {l : List Int} (h : Loop ps x l) (n : l ≠ []) : Cyc ps l := fun p => by
  obtain ⟨i, hi⟩ : ∃ i : Nat, (i : Int) = p % (l.length : Int) := ⟨(p % (l.length : Int)).toNat, by have := (rest_in n p).1; omega⟩
  have b := (rest_in n p).2
  rw [← hi] at b
  have il : i < l.length := by omega
  have e1 : mP l p = mP l (i : Int) := by rw [hi, mP_rest]
  have e2 : mP l (p + 1) = mP l ((i : Int) + 1) := mP_mod _ _ _ (by rw [show p + 1 - ((i : Int) + 1) = p - i by omega, hi, Int.sub_emod, Int.emod_emod_of_dvd p (Int.dvd_refl _), Int.sub_self, Int.zero_emod])
  rw [e1, e2, mP_get il]
  refine h.2 i _ _ (by rw [List.getD_eq_getElem?_getD, List.getElem?_eq_getElem il]; rfl) ?_
  rcases Nat.lt_or_ge (i + 1) l.length with z | z
  · rw [List.getElem?_append_left z, show (i : Int) + 1 = ((i + 1 : Nat) : Int) by omega, mP_get z, List.getD_eq_getElem?_getD, List.getElem?_eq_getElem z]; rfl
  · rw [List.getElem?_append_right z, show i + 1 - l.length = 0 by omega]
    have e3 : mP l ((i : Int) + 1) = mP l ((0 : Nat) : Int) := mP_mod _ _ _ (by rw [show (i : Int) + 1 - ((0 : Nat) : Int) = (l.length : Int) * 1 by omega, Int.mul_emod_right])
    have l0 : 0 < l.length := by omega
    rw [e3, mP_get l0, List.getD_eq_getElem?_getD, List.getElem?_eq_getElem l0]
    rw [h.1 l[0] (List.getElem?_eq_getElem l0)]; rfl
end RV
namespace RV
open PySem L2
/-! ### who comes to whom by one step or more -/
inductive Rch (ps : List (List Int)) : Int → Int → Prop where
  | one {i j : Int} : [i, j] ∈ ps → Rch ps i j
  | more {i j k : Int} : Rch ps i j → [j, k] ∈ ps → Rch ps i k
theorem Rch.trans {ps : List (List Int)} {i j k : Int} (h : Rch ps i j) (g : Rch ps j k) : Rch ps i k := by
  induction g with
  | one e => exact .more h e
  | more _ e ih => exact .more ih e
theorem Rch.bound {ps : List (List Int)} {n : Int} (hb : ∀ p ∈ ps, Pr n p) {i j : Int} (h : Rch ps i j) : (0 ≤ i ∧ i < n) ∧ (0 ≤ j ∧ j < n) := by
  induction h with
  | one e =>
    obtain ⟨x, y, e2, hx, hy⟩ := hb _ e
    injection e2 with e3 e4
    injection e4 with e4 _
    subst e3 e4
    exact ⟨hx, hy⟩
  | more _ e ih =>
    obtain ⟨x, y, e2, hx, hy⟩ := hb _ e
    injection e2 with e3 e4
    injection e4 with e4 _
    subst e3 e4
    exact ⟨ih.1, hy⟩
/-- a lot that holds all right behind m and is closed -/
theorem rch_closed {ps : List (List Int)} {m : Int} {fs : List Int} (h1 : ∀ j, [m, j] ∈ ps → j ∈ fs) (h2 : ∀ x ∈ fs, ∀ j, [x, j] ∈ ps → j ∈ fs) {j : Int} (h : Rch ps m j) : j ∈ fs := by
  induction h with
  | one e => exact h1 _ e
  | more _ e ih => exact h2 _ ih _ e
noncomputable def rB (ps : List (List Int)) (i j : Int) : Bool := @decide (Rch ps i j) (Classical.propDecidable _)
theorem rB_iff {ps : List (List Int)} {i j : Int} : rB ps i j = true ↔ Rch ps i j := by
  unfold rB
  exact @decide_eq_true_iff _ (Classical.propDecidable _)
/-! ### numbers below n -/
def upN (n : Nat) : List Int := (List.range n).map fun (i : Nat) => (i : Int)
theorem upN_get {n k : Nat} (h : k < n) : (upN n)[k]? = some (k : Int) := by
  unfold upN
  rw [List.getElem?_map, List.getElem?_range h]; rfl
theorem upN_len (n : Nat) : (upN n).length = n := by unfold upN; rw [List.length_map, List.length_range]
theorem mem_upN {n : Nat} {x : Int} : x ∈ upN n ↔ 0 ≤ x ∧ x < (n : Int) := by
  unfold upN
  rw [List.mem_map]
  constructor
  · rintro ⟨k, hk, rfl⟩
    have := List.mem_range.mp hk
    omega
  · rintro ⟨h0, h1⟩
    exact ⟨x.toNat, List.mem_range.mpr (by omega), by omega⟩
theorem upN_rise (n : Nat) : (upN n).Pairwise (· < ·) := by
  unfold upN
  rw [List.pairwise_map]
  exact List.Pairwise.imp (fun {a b} (h : a < b) => by omega) List.pairwise_lt_range
/-! ### the lot of a mark -/
noncomputable def lotOf (ps : List (List Int)) (n : Nat) (m : Int) : List Int := (upN n).filter fun j => rB ps m j && rB ps j m
theorem mem_lot {ps : List (List Int)} {n : Nat} {m j : Int} : j ∈ lotOf ps n m ↔ (0 ≤ j ∧ j < (n : Int)) ∧ Rch ps m j ∧ Rch ps j m := by
  unfold lotOf
  rw [List.mem_filter, mem_upN, Bool.and_eq_true, rB_iff, rB_iff]
theorem lot_rise (ps : List (List Int)) (n : Nat) (m : Int) : (lotOf ps n m).Pairwise (· < ·) := (upN_rise n).filter _
theorem lot_len (ps : List (List Int)) (n : Nat) (m : Int) : (lotOf ps n m).length ≤ n := by
  have := List.length_filter_le (fun j => rB ps m j && rB ps j m) (upN n)
  rw [upN_len] at this
  exact this
theorem lot_eq {ps : List (List Int)} {n : Nat} {m j : Int} (h : j ∈ lotOf ps n m) : lotOf ps n j = lotOf ps n m := by
  obtain ⟨_, h1, h2⟩ := mem_lot.mp h
  unfold lotOf
  refine List.filter_congr fun x _ => ?_
  rw [Bool.eq_iff_iff, Bool.and_eq_true, Bool.and_eq_true, rB_iff, rB_iff, rB_iff, rB_iff]
  exact ⟨fun ⟨a, b⟩ => ⟨h1.trans a, b.trans h2⟩, fun ⟨a, b⟩ => ⟨h2.trans a, b.trans h1⟩⟩
theorem lot_self {ps : List (List Int)} {n : Nat} {m : Int} (hm : 0 ≤ m ∧ m < (n : Int)) (h : Rch ps m m) : m ∈ lotOf ps n m := mem_lot.mpr ⟨hm, h, h⟩
theorem lot_none {ps : List (List Int)} {n : Nat} {m : Int} (h : ¬ Rch ps m m) : lotOf ps n m = [] := by
  refine List.eq_nil_iff_forall_not_mem.mpr fun j hj => ?_
  obtain ⟨_, h1, h2⟩ := mem_lot.mp hj
  exact h (h1.trans h2)
theorem lot_some {ps : List (List Int)} {n : Nat} {m j : Int} (h : j ∈ lotOf ps n m) : Rch ps m m := by
  obtain ⟨_, h1, h2⟩ := mem_lot.mp h
  exact h1.trans h2
/-! ### the parts -/
noncomputable def isHead (ps : List (List Int)) (n : Nat) (m : Int) : Bool := decide ((lotOf ps n m).head? = some m)
noncomputable def partsOf (ps : List (List Int)) (n : Nat) : List (List Int) := ((upN n).filter (isHead ps n)).map (lotOf ps n)
theorem mem_parts {ps : List (List Int)} {n : Nat} {p : List Int} : p ∈ partsOf ps n ↔ ∃ m : Int, (0 ≤ m ∧ m < (n : Int)) ∧ (lotOf ps n m).head? = some m ∧ p = lotOf ps n m := by
  unfold partsOf isHead
  rw [List.mem_map]
  constructor
  · rintro ⟨m, hm, rfl⟩
    obtain ⟨h1, h2⟩ := List.mem_filter.mp hm
    exact ⟨m, mem_upN.mp h1, of_decide_eq_true h2, rfl⟩
  · rintro ⟨m, h1, h2, rfl⟩
    exact ⟨m, List.mem_filter.mpr ⟨mem_upN.mpr h1, decide_eq_true h2⟩, rfl⟩
theorem lot_part {ps : List (List Int)} {n : Nat} {m j : Int} (h : j ∈ lotOf ps n m) : lotOf ps n m ∈ partsOf ps n := by
  cases e : lotOf ps n m with
  | nil => rw [e] at h; cases h
  | cons x r =>
    have hx : x ∈ lotOf ps n m := by rw [e]; exact List.mem_cons_self ..
    have ex := lot_eq hx
    refine mem_parts.mpr ⟨x, (mem_lot.mp hx).1, ?_, ?_⟩
    · rw [ex, e]; rfl
    · rw [ex, e]
theorem part_ne {ps : List (List Int)} {n : Nat} {p : List Int} (h : p ∈ partsOf ps n) : p ≠ [] := by
  obtain ⟨m, _, h2, rfl⟩ := mem_parts.mp h
  intro e
  rw [e] at h2; cases h2
theorem part_lot {ps : List (List Int)} {n : Nat} {p : List Int} {x : Int} (h : p ∈ partsOf ps n) (hx : x ∈ p) : lotOf ps n x = p := by
  obtain ⟨m, _, _, rfl⟩ := mem_parts.mp h
  exact lot_eq hx
def hd0 (l : List Int) : Int := l.headD 0
theorem parts_rise (ps : List (List Int)) (n : Nat) : (partsOf ps n).Pairwise fun p q => hd0 p < hd0 q := by
  unfold partsOf
  rw [List.pairwise_map]
  refine List.Pairwise.imp_of_mem (fun {a b} ha hb (h : a < b) => ?_) ((upN_rise n).filter _)
  have ea : (lotOf ps n a).head? = some a := of_decide_eq_true (List.mem_filter.mp ha).2
  have eb : (lotOf ps n b).head? = some b := of_decide_eq_true (List.mem_filter.mp hb).2
  unfold hd0
  rw [List.headD_eq_head?_getD, List.headD_eq_head?_getD, ea, eb]
  exact h
theorem parts_nodup (ps : List (List Int)) (n : Nat) : (partsOf ps n).Nodup := (parts_rise ps n).imp fun {a b} h e => by rw [e] at h; omega
theorem parts_len (ps : List (List Int)) (n : Nat) : (partsOf ps n).length ≤ n := by
  unfold partsOf
  rw [List.length_map]
  have := List.length_filter_le (isHead ps n) (upN n)
  rw [upN_len] at this
  exact this
/-- of two lots unlike heads tell which is ahead -/
theorem part_hd {ps : List (List Int)} {n : Nat} {p q : List Int} (hp : p ∈ partsOf ps n) (hq : q ∈ partsOf ps n) (h : hd0 p = hd0 q) : p = q := by
  obtain ⟨a, _, ea, rfl⟩ := mem_parts.mp hp
  obtain ⟨b, _, eb, rfl⟩ := mem_parts.mp hq
  unfold hd0 at h
  rw [List.headD_eq_head?_getD, List.headD_eq_head?_getD, ea, eb] at h
  have h' : a = b := h
  rw [h']
/-! ### the table that is gone on with, mark by mark -/
def Wsh (ps : List (List Int)) : Nat → Int → Int → Prop
  | 0, i, j => [i, j] ∈ ps
  | k + 1, i, j => Wsh ps k i j ∨ (Wsh ps k i (k : Int) ∧ Wsh ps k (k : Int) j)
theorem Wsh.up {ps : List (List Int)} {i j : Int} (h : [i, j] ∈ ps) : ∀ k, Wsh ps k i j
  | 0 => h
  | k + 1 => .inl (Wsh.up h k)
theorem Wsh.rch {ps : List (List Int)} : ∀ {k : Nat} {i j : Int}, Wsh ps k i j → Rch ps i j
  | 0, _, _, h => .one h
  | k + 1, _, _, .inl h => Wsh.rch h
  | k + 1, _, _, .inr h => (Wsh.rch h.1).trans (Wsh.rch h.2)
theorem Wsh.amid {ps : List (List Int)} : ∀ (k : Nat) (m : Nat) (i j : Int), m < k → Wsh ps k i (m : Int) → Wsh ps k (m : Int) j → Wsh ps k i j
  | 0, _, _, _, h, _, _ => absurd h (Nat.not_lt_zero _)
  | k + 1, m, i, j, h, h1, h2 => by
    by_cases e : m = k
    · subst e
      have a1 : Wsh ps m i (m : Int) := h1.elim id fun z => z.1
      have a2 : Wsh ps m (m : Int) j := h2.elim id fun z => z.2
      exact .inr ⟨a1, a2⟩
    · have hm : m < k := by omega
      have T := fun i j => Wsh.amid (ps := ps) k m i j hm
      rcases h1 with h1 | ⟨p1, p2⟩
      · rcases h2 with h2 | ⟨q1, q2⟩
        · exact .inl (T _ _ h1 h2)
        · exact .inr ⟨T _ _ h1 q1, q2⟩
      · rcases h2 with h2 | ⟨q1, q2⟩
        · exact .inr ⟨p1, T _ _ p2 h2⟩
        · exact .inr ⟨p1, q2⟩
theorem rch_wsh {ps : List (List Int)} {n : Nat} (hb : ∀ p ∈ ps, Pr (n : Int) p) {i j : Int} (h : Rch ps i j) : Wsh ps n i j := by
  induction h with
  | one e => exact Wsh.up e n
  | @more j k _ e ih =>
    have b := (Rch.bound hb (.one e)).1
    have ej : j = ((j.toNat : Nat) : Int) := by omega
    rw [ej] at ih e
    exact Wsh.amid n j.toNat _ _ (by omega) ih (Wsh.up e n)
end RV
set_option maxHeartbeats 4000000
namespace RV
open PySem PySem.Spec PyProof.Rows L2
section
variable {K : PySem.W.Frag} {tt : TT} {te : TE} {f : Int → Bool} {σ : L2.St} {H1 : Hp} {D : Addr} {v n : Nat} {Qd : Hp → Prop}
/-- [x for x in range(n) if ..] -/
theorem lc_filtR (hl : n ≤ 1000) (nD : H1 D = none)
    (htest : ∀ x : Int, 0 ≤ x → x < (n : Int) → ∀ H', Same H1 H' → ∀ A B : Hp → Prop, (∀ H2, Same H' H2 → if f x = true then A H2 else B H2) → tt ((wipe σ [v]).set v (some (.int x))) H' (fun b H3 => if b = true then A H3 else B H3))
    (hte : ∀ (x : Int) (H' : Hp) (Q : VK), Q (.int x) H' → te ((wipe σ [v]).set v (some (.int x))) H' Q)
    (hd : ∀ H', Same H1 H' → H' D = some (.lst (((upN n).filter f).map V.int)) → Qd H') :
    ∃ W : Nat → Nat → Hp → Prop, (∃ m, W 0 m (upd H1 D (.lst []))) ∧ ∀ i m H, W i m H →
      ((Itr 0 n).stop i H ∧ Qd H) ∨ ((Itr 0 n).go i H ∧ ∃ Nx : Hp → Prop, (∀ H', Nx H' → ∃ m', m' < m ∧ W (i + 1) m' H') ∧ ∀ x H', (Itr 0 n).yld i H x H' → gName v x (wipe σ [v]) H' fun σ2 H2 => wipe σ2 [v] = wipe σ [v] ∧ tt σ2 H2 fun b H3 =>
        if b = true then te σ2 H3 fun y H4 => ∃ acc, H4 D = some (.lst acc) ∧ acc.length < sizeLine ∧ Nx (upd H4 D (.lst (acc ++ [y]))) else Nx H3) := by
  refine lc_range (lo := 0) (n := n) (fun i H' => Same H1 H' ∧ H' D = some (.lst ((((upN n).take i).filter f).map V.int))) ⟨same_upd nD, upd_same⟩ (fun i H' hi p => ?_) fun H' p => ?_
  · have g : (upN n)[i]? = some (i : Int) := upN_get hi
    rw [Int.zero_add]
    refine ⟨by simp [wipe, List.set_set], htest (i : Int) (by omega) (by omega) H' p.1 _ _ fun H2 s2 => ?_⟩
    have s12 := p.1.trans s2
    have e2 := s2 _ _ p.2
    by_cases e : f (i : Int) = true
    · rw [if_pos e]
      refine hte _ H2 _ ⟨_, e2, ?_, fun b o z => ?_, ?_⟩
      · rw [List.length_map]
        exact few1 (Nat.le_trans (List.length_filter_le _ _) (by rw [List.length_take, upN_len]; omega))
      · rw [upd_ne (ne_of_none z nD)]; exact s12 b o z
      · rw [upd_same, take_filt g, if_pos e, List.map_append]; rfl
    · rw [if_neg e]
      exact ⟨s12, by rw [take_filt g, if_neg e, List.append_nil]; exact e2⟩
  · rw [List.take_of_length_le (by rw [upN_len]; exact Nat.le_refl _)] at p
    exact hd H' p.1 p.2
end
end RV
set_option maxHeartbeats 4000000
namespace RV
open PySem PySem.Spec PyProof.Rows L2
def fromN (lo : Int) (n : Nat) : List Int := (List.range n).map fun (i : Nat) => lo + (i : Int)
theorem fromN_get {lo : Int} {n k : Nat} (h : k < n) : (fromN lo n)[k]? = some (lo + (k : Int)) := by
  unfold fromN
  rw [List.getElem?_map, List.getElem?_range h]; rfl
theorem fromN_len (lo : Int) (n : Nat) : (fromN lo n).length = n := by unfold fromN; rw [List.length_map, List.length_range]
theorem mem_fromN {lo : Int} {n : Nat} {x : Int} : x ∈ fromN lo n ↔ lo ≤ x ∧ x < lo + (n : Int) := by
  unfold fromN
  rw [List.mem_map]
  constructor
  · rintro ⟨k, hk, rfl⟩
    have := List.mem_range.mp hk
    omega
  · rintro ⟨h0, h1⟩
    exact ⟨(x - lo).toNat, List.mem_range.mpr (by omega), by omega⟩
theorem pe_weakR {X : Cx} {e : Expr} {t t' : TE} (h : PE X e t) (imp : ∀ σ H Q, t' σ H Q → t σ H Q) : PE X e t' := ⟨fun pins s σ H Q I q => h.run pins s σ H Q I (imp σ H Q q)⟩
section
variable {X : Cx} {K : PySem.W.Frag}
theorem cr_allK (h : X.K = K) (hc : X.calm = true) : CallR X (.builtin "all") (rAll K) := h ▸ cr_all hc
theorem pi_listK {tg l : Expr} {tl : TE} (h : X.K = K) (hl : PE X l tl) : PI X tg l (iList K tl) := h ▸ pi_list hl
theorem pi_tupK {tg l : Expr} {tl : TE} (h : X.K = K) (hl : PE X l tl) : PI X tg l (iTup K tl) := h ▸ pi_tup hl
end
section
variable {K : PySem.W.Frag} {tt : TT} {te : TE} {f : Int → Bool} {h : Int → Int} {σ : L2.St} {H1 : Hp} {D : Addr} {v n : Nat} {lo : Int} {Qd : Hp → Prop}
/-- [h(x) for x in range(lo, ..) if f(x)] -/
theorem lc_mapR (hl : n ≤ 1000) (nD : H1 D = none)
    (htest : ∀ x ∈ fromN lo n, ∀ H', Same H1 H' → ∀ A B : Hp → Prop, (∀ H2, Same H' H2 → if f x = true then A H2 else B H2) → tt ((wipe σ [v]).set v (some (.int x))) H' (fun b H3 => if b = true then A H3 else B H3))
    (hte : ∀ x ∈ fromN lo n, ∀ (H' : Hp) (Q : VK), Same H1 H' → f x = true → (∀ H2, Same H' H2 → Q (.int (h x)) H2) → te ((wipe σ [v]).set v (some (.int x))) H' Q)
    (hd : ∀ H', Same H1 H' → H' D = some (.lst ((((fromN lo n).filter f).map h).map V.int)) → Qd H') :
    ∃ W : Nat → Nat → Hp → Prop, (∃ m, W 0 m (upd H1 D (.lst []))) ∧ ∀ i m H, W i m H →
      ((Itr lo n).stop i H ∧ Qd H) ∨ ((Itr lo n).go i H ∧ ∃ Nx : Hp → Prop, (∀ H', Nx H' → ∃ m', m' < m ∧ W (i + 1) m' H') ∧ ∀ x H', (Itr lo n).yld i H x H' → gName v x (wipe σ [v]) H' fun σ2 H2 => wipe σ2 [v] = wipe σ [v] ∧ tt σ2 H2 fun b H3 =>
        if b = true then te σ2 H3 fun y H4 => ∃ acc, H4 D = some (.lst acc) ∧ acc.length < sizeLine ∧ Nx (upd H4 D (.lst (acc ++ [y]))) else Nx H3) := by
  refine lc_range (lo := lo) (n := n) (fun i H' => Same H1 H' ∧ H' D = some (.lst (((((fromN lo n).take i).filter f).map h).map V.int))) ⟨same_upd nD, upd_same⟩ (fun i H' hi p => ?_) fun H' p => ?_
  · have g : (fromN lo n)[i]? = some (lo + (i : Int)) := fromN_get hi
    have hm := List.mem_of_getElem? g
    refine ⟨by simp [wipe, List.set_set], htest _ hm H' p.1 _ _ fun H2 s2 => ?_⟩
    have s12 := p.1.trans s2
    have e2 := s2 _ _ p.2
    by_cases e : f (lo + (i : Int)) = true
    · rw [if_pos e]
      refine hte _ hm H2 _ s12 e fun H3 s3 => ⟨_, s3 _ _ e2, ?_, fun b o z => ?_, ?_⟩
      · rw [List.length_map, List.length_map]
        exact few1 (Nat.le_trans (List.length_filter_le _ _) (by rw [List.length_take, fromN_len]; omega))
      · rw [upd_ne (ne_of_none z nD)]; exact s3 _ _ (s12 b o z)
      · rw [upd_same, take_filt g, if_pos e, List.map_append, List.map_append]; rfl
    · rw [if_neg e]
      exact ⟨s12, by rw [take_filt g, if_neg e, List.append_nil]; exact e2⟩
  · rw [List.take_of_length_le (by rw [fromN_len]; exact Nat.le_refl _)] at p
    exact hd H' p.1 p.2
end
/-- [c(x) for x in l] of truths, l a list of ints -/
theorem lc_blL {K : PySem.W.Frag} {te : TE} {c : Int → Bool} {σ : L2.St} {H1 : Hp} {a D : Addr} {v : Nat} {ns : List Int} {Qd : Hp → Prop} (hT : SqL K H1 a (ns.map V.int)) (hl : ns.length ≤ 1000) (nD : H1 D = none)
    (hte : ∀ x ∈ ns, ∀ (H' : Hp) (Q : VK), Same H1 H' → Q (.bl (c x)) H' → te ((wipe σ [v]).set v (some (.int x))) H' Q)
    (hd : ∀ H', Same H1 H' → H' D = some (.lst ((ns.map c).map V.bl)) → Qd H') :
    ∃ W : Nat → Nat → Hp → Prop, (∃ m, W 0 m (upd H1 D (.lst []))) ∧ ∀ i m H, W i m H →
      ((Itl K a).stop i H ∧ Qd H) ∨ ((Itl K a).go i H ∧ ∃ Nx : Hp → Prop, (∀ H', Nx H' → ∃ m', m' < m ∧ W (i + 1) m' H') ∧ ∀ x H', (Itl K a).yld i H x H' → gName v x (wipe σ [v]) H' fun σ2 H2 => wipe σ2 [v] = wipe σ [v] ∧ tYes σ2 H2 fun b H3 =>
        if b = true then te σ2 H3 fun y H4 => ∃ acc, H4 D = some (.lst acc) ∧ acc.length < sizeLine ∧ Nx (upd H4 D (.lst (acc ++ [y]))) else Nx H3) := by
  refine lc_list (K := K) (a := a) (xs := ns.map V.int) (fun i H' => Same H1 H' ∧ H' D = some (.lst (((ns.take i).map c).map V.bl))) ⟨same_upd nD, upd_same⟩ (fun i H' _ p => sqL_same p.1 hT) (fun i x H' hx p => ?_) fun H' p => ?_
  · obtain ⟨k, g, rfl⟩ := map_at hx
    refine ⟨by simp [wipe, List.set_set], tt_yes (hte k (List.mem_of_getElem? g) H' _ p.1 ⟨_, p.2, ?_, fun b o z => ?_, ?_⟩)⟩
    · rw [List.length_map, List.length_map, List.length_take]; exact few1 (by omega)
    · rw [upd_ne (ne_of_none z nD)]; exact p.1 b o z
    · rw [upd_same, List.take_add_one, g, List.map_append, List.map_append]; rfl
  · rw [List.length_map, List.take_of_length_le (Nat.le_refl _)] at p
    exact hd H' p.1 p.2
end RV
set_option maxHeartbeats 4000000
namespace K4
open PySem PySem.Spec PyProof.Rows L2 RV
/-! ### rings that stand -/
/-- a run: its tuple, its word's tuple, its times, its marks -/
abbrev Rk := Addr × Addr × Int × List Int
def valR (k : Rk) : Int × List Int := k.2.2
def RunOk (K : PySem.W.Frag) (H : Hp) (k : Rk) : Prop := SqT K H k.1 [.int k.2.2.1, .ref k.2.1] ∧ SqT K H k.2.1 (k.2.2.2.map V.int)
def RingAt (K : PySem.W.Frag) (H : Hp) (a : Addr) (rs : List (Int × List Int)) : Prop := ∃ ks : List Rk, ks.map valR = rs ∧ SqT K H a (ks.map fun k => V.ref k.1) ∧ ∀ k ∈ ks, RunOk K H k
theorem RunOk.same {K : PySem.W.Frag} {H H' : Hp} {k : Rk} (h : RunOk K H k) (s : Same H H') : RunOk K H' k := ⟨sqT_same s h.1, sqT_same s h.2⟩
theorem RingAt.same {K : PySem.W.Frag} {H H' : Hp} {a : Addr} {rs : List (Int × List Int)} (h : RingAt K H a rs) (s : Same H H') : RingAt K H' a rs :=
  let ⟨ks, h1, h2, h3⟩ := h; ⟨ks, h1, sqT_same s h2, fun k hk => (h3 k hk).same s⟩
theorem RingAt.pail {K : PySem.W.Frag} {H H' : Hp} {p a : Addr} {t : Nat} {rs : List (Int × List Int)} (h : RingAt K H a rs) (hp : PailAt H p t) (b : But p H H') : RingAt K H' a rs :=
  let ⟨ks, h1, h2, h3⟩ := h; ⟨ks, h1, sqT_pail hp b h2, fun k hk => ⟨sqT_pail hp b (h3 k hk).1, sqT_pail hp b (h3 k hk).2⟩⟩
/-- a ring as the law has them -/
structure Sz (rs : List (Int × List Int)) : Prop where
  few : rs.length ≤ 100
  ne : rs ≠ []
  rn : Rn rs
  wo : ∀ r ∈ rs, r.2.length ≤ 3000
end K4
set_option maxHeartbeats 4000000
namespace RV
open PySem PySem.Spec PyProof.Rows L2
section
variable {X : Cx} {K : PySem.W.Frag}
/-- t + u of any two tuples, wherever the sum stands -/
def rCatW (K : PySem.W.Frag) : R2 := fun x y H Q => ∃ a b xs ys, x = .ref a ∧ y = .ref b ∧ SqT K H a xs ∧ SqT K H b ys ∧ xs.length + ys.length ≤ sizeLine ∧ ∀ (p : Addr) (H' : Hp), Same H H' → SqT K H' p (xs ++ ys) → Q (.ref p) H'
theorem op_catW : OpR X (binaryOp .Add) (rCatW X.K) := by
  intro pins s σ H x y v u Q I rx ry h
  obtain ⟨a, b, xs, ys, e1, e2, h1, h2, hl, q⟩ := h
  refine op_catA pins s σ H x y v u Q I rx ry ⟨a, b, xs, ys, e1, e2, h1, h2, hl, fun z => ?_, fun _ z => ?_, fun _ _ p np => ?_⟩
  · exact q b H (fun _ _ e => e) (by rw [z]; exact h2)
  · exact q a H (fun _ _ e => e) (by rw [z, List.append_nil]; exact h1)
  · exact q p _ (same_upd np) (tupNew upd_same)
theorem op_catWK (h : X.K = K) : OpR X (binaryOp .Add) (rCatW K) := h ▸ op_catW
/-- t[lo:hi], wherever the slice stands -/
def rSlW (K : PySem.W.Frag) : V → Option Int → Option Int → Hp → VK → Prop := fun x lo hi H Q => ∃ a xs, x = .ref a ∧ SqT K H a xs ∧ ∀ (p : Addr) (H' : Hp), Same H H' → SqT K H' p (cutV xs lo hi) → Q (.ref p) H'
theorem sl_tupW : SlR X (rSlW X.K) := by
  intro pins s σ H x v vl vu lo hi sl Q I rx hs pl pu h
  obtain ⟨a, xs, e, h1, q⟩ := h
  refine sl_tupA pins s σ H x v vl vu lo hi sl Q I rx hs pl pu ⟨a, xs, e, h1, fun z => ?_, fun _ p np => ?_⟩
  · refine q a H (fun _ _ e => e) ?_
    unfold cutV
    rw [z.1, z.2, List.drop_zero, Nat.sub_zero, List.take_of_length_le (Nat.le_refl _)]
    exact h1
  · exact q p _ (same_upd np) (tupNew upd_same)
theorem sl_tupWK (h : X.K = K) : SlR X (rSlW K) := h ▸ sl_tupW
theorem cut_from (xs : List V) (k : Nat) : cutV xs (some (k : Int)) none = xs.drop k := by
  unfold cutV
  rw [HT.sIx_nat, HT.sIx_none]
  rcases Nat.le_total k xs.length with h | h
  · rw [Nat.min_eq_left h, List.take_of_length_le (by rw [List.length_drop]; exact Nat.le_refl _)]
  · rw [Nat.min_eq_right h, Nat.sub_self, List.take_zero, List.drop_eq_nil_of_le h]
theorem cut_to (xs : List V) (k : Nat) : cutV xs none (some (k : Int)) = xs.take k := by
  unfold cutV
  rw [HT.sIx_nat, HT.sIx_none, List.drop_zero, Nat.sub_zero]
  rcases Nat.le_total k xs.length with h | h
  · rw [Nat.min_eq_left h]
  · rw [Nat.min_eq_right h, List.take_of_length_le (Nat.le_refl _), List.take_of_length_le h]
theorem tuple_mul1 (l : Addr) (items : Array Value) (n : Nat) (dd : Option Addr) (sl : Array (Option Value)) (x : Int) (u : Tok) (c0 : (decide (x < -(2 ^ 63)) || decide (x ≥ 2 ^ 63)) = false) (c1 : (items.isEmpty || x == 1) = true) :
    Meets (Builtin.«tuple.__mul__» ⟨[.ref l, .int x u], []⟩) (fun _ R s => s.heap.get? l = some { cls := .type "tuple", dict := dd, data := .seq items n, slots := sl } ∧ R (.ok (.ret (Value.ref l))) s) :=
  .of_wp fun prog w A R s h => by
    obtain ⟨hp, g, d, tk, os⟩ := s
    obtain ⟨hl, h⟩ := h
    have f1 := AutoSeq1.idx_int
    wp_walk using wpAny_loadPart' hl
    repeat (first
      | (refine wpAny_ite_false (decide_eq_false (by rw [c0]; exact Bool.false_ne_true)) ?_; wp_walk using wpAny_loadPart' hl)
      | (refine wpAny_ite_true (decide_eq_true (by rw [c1])) ?_; wp_walk using wpAny_loadPart' hl))
    exact ⟨_, rfl, h⟩
theorem tuple_mul0 (l : Addr) (items : Array Value) (n : Nat) (dd : Option Addr) (sl : Array (Option Value)) (x : Int) (u : Tok) (c0 : (decide (x < -(2 ^ 63)) || decide (x ≥ 2 ^ 63)) = false) (c1 : (items.isEmpty || x == 1) = false) (c2 : (decide (x ≤ 0) || items.isEmpty) = true) :
    Meets (Builtin.«tuple.__mul__» ⟨[.ref l, .int x u], []⟩) (fun _ R s => s.heap.get? l = some { cls := .type "tuple", dict := dd, data := .seq items n, slots := sl } ∧ R (.ok (.ret (Value.ref s.heap.objs.size))) { s with heap := s.heap.push { cls := Value.type "tuple", data := Data.seq #[] }, toks := s.toks }) :=
  .of_wp fun prog w A R s h => by
    obtain ⟨hp, g, d, tk, os⟩ := s
    obtain ⟨hl, h⟩ := h
    have f1 := AutoSeq1.idx_int
    wp_walk using wpAny_loadPart' hl
    repeat (first
      | (refine wpAny_ite_false (decide_eq_false (by rw [c0]; exact Bool.false_ne_true)) ?_; wp_walk using wpAny_loadPart' hl)
      | (refine wpAny_ite_false (decide_eq_false (by rw [c1]; exact Bool.false_ne_true)) ?_; wp_walk using wpAny_loadPart' hl)
      | (refine wpAny_ite_true (decide_eq_true (by rw [c2])) ?_; wp_walk using wpAny_loadPart' hl))
    exact ⟨_, rfl, h⟩
/-- t * k, k from 0 on -/
def rRepW (K : PySem.W.Frag) : R2 := fun x y H Q => ∃ l k xs, x = .ref l ∧ y = .int k ∧ SqT K H l xs ∧ 0 ≤ k ∧ k ≤ 1000 ∧ xs.length ≤ 1000 ∧ ∀ (p : Addr) (H' : Hp), Same H H' → SqT K H' p (List.replicate k.toNat xs).flatten → Q (.ref p) H'
theorem flat_nil : ∀ m : Nat, (List.replicate m ([] : List V)).flatten = []
  | 0 => rfl
  | m + 1 => by rw [List.replicate_succ, List.flatten_cons, flat_nil m]; rfl
theorem op_repW : OpR X (binaryOp .Mult) (rRepW X.K) := by
  intro pins s σ H x y v u Q I rx ry h
  obtain ⟨l, k, xs, rfl, rfl, hT, h0, h1, hz, q⟩ := h
  by_cases hbig : xs ≠ [] ∧ 2 ≤ k
  · exact op_repT pins s σ H _ _ v u Q I rx ry ⟨l, k, xs, rfl, rfl, hT, hbig.1, hbig.2, h1, hz, fun p np => q p _ (same_upd np) (tupNew upd_same)⟩
  cases rx
  obtain ⟨t, rfl⟩ := ry
  obtain ⟨its, r, ⟨⟨cls, dd, data, sl⟩, ho, hc, n, hd⟩, hs⟩ := I.tuple hT
  simp only at hc hd
  subst hc hd
  have hle : its.length = xs.length := r.length.symm
  have c0 : (decide (k < -(2 ^ 63)) || decide (k ≥ 2 ^ 63)) = false := by
    rw [decide_eq_false (by omega), decide_eq_false (by omega)] <;> rfl
  by_cases e1 : xs = [] ∨ k = 1
  · have c1 : (its.toArray.isEmpty || k == 1) = true := by
      rcases e1 with e | e
      · have : its = [] := List.eq_nil_of_length_eq_zero (by rw [hle, e]; rfl)
        rw [this]; rfl
      · rw [e]; simp
    refine wpAny_binaryOp_repeat_ref (T := "tuple") (U := "int") (by decide) ⟨_, ho, rfl⟩ (fun s' => typeIs_int s' k t) noFill_tuple_mul F.fills_int_mul F.slot_int_rmul repeat_tuple F.slot_int_index.lookup
      (call_meets F.slot_int_rmul (typeIs_int s k t) F.entry_int_rmul (F.args_int_rmul_2 _ _) (int_rmul_tuple k t l its.toArray n dd sl)
        ⟨ho, rfl, ⟨_, ho, rfl⟩, call_meets F.slot_tuple_mul ⟨_, ho, rfl⟩ F.entry_tuple_mul (F.args_tuple_mul_2 _ _) (tuple_mul1 l its.toArray n dd sl k t c0 c1) ⟨ho, ?_⟩⟩)
    refine ⟨.ref l, H, I, rfl, q l H (fun _ _ e => e) ?_⟩
    rcases e1 with e | e
    · subst e; rw [flat_nil]; exact hT
    · subst e
      show SqT X.K H l ([xs].flatten)
      rw [List.flatten_cons, List.flatten_nil, List.append_nil]; exact hT
  · have e2 : xs ≠ [] := fun e => e1 (.inl e)
    have e3 : k = 0 := by
      rcases Int.lt_or_le k 2 with z | z
      · have : k ≠ 1 := fun e => e1 (.inr e)
        omega
      · exact absurd ⟨e2, z⟩ hbig
    have hi : its.toArray.isEmpty = false := by
      cases its with
      | nil => exact absurd (List.eq_nil_of_length_eq_zero hle.symm) e2
      | cons a b => rfl
    have c1 : (its.toArray.isEmpty || k == 1) = false := by
      rw [hi, e3]; rfl
    have c2 : (decide (k ≤ 0) || its.toArray.isEmpty) = true := by
      rw [e3]; rfl
    refine wpAny_binaryOp_repeat_ref (T := "tuple") (U := "int") (by decide) ⟨_, ho, rfl⟩ (fun s' => typeIs_int s' k t) noFill_tuple_mul F.fills_int_mul F.slot_int_rmul repeat_tuple F.slot_int_index.lookup
      (call_meets F.slot_int_rmul (typeIs_int s k t) F.entry_int_rmul (F.args_int_rmul_2 _ _) (int_rmul_tuple k t l its.toArray n dd sl)
        ⟨ho, rfl, ⟨_, ho, rfl⟩, call_meets F.slot_tuple_mul ⟨_, ho, rfl⟩ F.entry_tuple_mul (F.args_tuple_mul_2 _ _) (tuple_mul0 l its.toArray n dd sl k t c0 c1 c2) ⟨ho, ?_⟩⟩)
    refine ⟨.ref s.heap.objs.size, _, I.laid (t' := s.toks) (o := .tup []) (fun b ob q => Heap.get?_push_of_some _ q) (Nat.le_refl _) ?_, rfl, q _ _ (same_upd (I.hok.fresh (Nat.le_refl _))) (by rw [e3]; exact tupNew upd_same)⟩
    exact ⟨Nat.zero_le _, [], .nil, IsTup.new _ _⟩
theorem op_eqI1K (h : X.K = K) (hu : X.A.units + 64 < cLine) : OpR X (compareOp .Eq) (rEqI1 K) := h ▸ op_eqI1 hu
theorem op_repWK (h : X.K = K) : OpR X (binaryOp .Mult) (rRepW K) := h ▸ op_repW
end
/-- [h(x) for x in t], t a tuple of ints -/
theorem lc_mapT {K : PySem.W.Frag} {te : TE} {h : Int → Int} {σ : L2.St} {H1 : Hp} {a D : Addr} {v : Nat} {ns : List Int} {Qd : Hp → Prop} (hT : SqT K H1 a (ns.map V.int)) (hl : ns.length ≤ 1000) (nD : H1 D = none)
    (hte : ∀ x ∈ ns, ∀ (H' : Hp) (Q : VK), Same H1 H' → (∀ H2, Same H' H2 → Q (.int (h x)) H2) → te ((wipe σ [v]).set v (some (.int x))) H' Q)
    (hd : ∀ H', Same H1 H' → H' D = some (.lst ((ns.map h).map V.int)) → Qd H') :
    ∃ W : Nat → Nat → Hp → Prop, (∃ m, W 0 m (upd H1 D (.lst []))) ∧ ∀ i m H, W i m H →
      ((Itt K a).stop i H ∧ Qd H) ∨ ((Itt K a).go i H ∧ ∃ Nx : Hp → Prop, (∀ H', Nx H' → ∃ m', m' < m ∧ W (i + 1) m' H') ∧ ∀ x H', (Itt K a).yld i H x H' → gName v x (wipe σ [v]) H' fun σ2 H2 => wipe σ2 [v] = wipe σ [v] ∧ tYes σ2 H2 fun b H3 =>
        if b = true then te σ2 H3 fun y H4 => ∃ acc, H4 D = some (.lst acc) ∧ acc.length < sizeLine ∧ Nx (upd H4 D (.lst (acc ++ [y]))) else Nx H3) := by
  refine lc_tup (K := K) (a := a) (xs := ns.map V.int) (fun i H' => Same H1 H' ∧ H' D = some (.lst (((ns.take i).map h).map V.int))) ⟨same_upd nD, upd_same⟩ (fun i H' _ p => sqT_same p.1 hT) (fun i x H' hx p => ?_) fun H' p => ?_
  · obtain ⟨k, g, rfl⟩ := map_at hx
    refine ⟨by simp [wipe, List.set_set], tt_yes (hte k (List.mem_of_getElem? g) H' _ p.1 fun H2 s2 => ⟨_, s2 _ _ p.2, ?_, fun b o z => ?_, ?_⟩)⟩
    · rw [List.length_map, List.length_map, List.length_take]; exact few1 (by omega)
    · rw [upd_ne (ne_of_none z nD)]; exact s2 _ _ (p.1 b o z)
    · rw [upd_same, List.take_add_one, g, List.map_append, List.map_append]; rfl
  · rw [List.length_map, List.take_of_length_le (Nat.le_refl _)] at p
    exact hd H' p.1 p.2
end RV
set_option maxHeartbeats 4000000
namespace RV
open PySem PySem.Spec PyProof.Rows L2
/-! ### xs.extend(t), t a tuple; t * k of any size -/
theorem ext_tup (l : Addr) (xa : Array Value) (n : Nat) (b : Addr) (xb : Array Value) (n2 : Nat) (dd : Option Addr) (sl : Array (Option Value)) (c1 : ¬(!xa.isEmpty && Builtin.List.listTooLong (xa.size + xb.size)) = true) (c2 : xa.size ≤ sizeLine) (c3 : xa.size + xb.size ≤ sizeLine + 1) :
    Meets (Builtin.«list.extend» ⟨[.ref l, .ref b], []⟩) (fun _ R s => s.heap.get? l = some { cls := .type "list", dict := none, data := .seq xa n, slots := #[] } ∧ s.heap.get? b = some { cls := .type "tuple", dict := dd, data := .seq xb n2, slots := sl } ∧ R (.ok (.ret Value.none)) { s with heap := s.heap.update l (Obj.mapSeq fun x => x ++ xb), toks := s.toks }) :=
  .of_wp fun _ _ _ _ sh hh => by
    obtain ⟨_, _, _, _, _⟩ := sh
    obtain ⟨hl, hb, h⟩ := hh
    have q1 := AutoSeq1.idx_int
    have q2 := AutoSeq1.sub_tuple_tuple
    have q3 := AutoSeq1.sub_list_list
    have q4 := AutoSeq1.sub_tuple_list
    have q5 := AutoSeq1.sub_list_tuple
    have c4 : (xa ++ xb).size ≤ sizeLine + 1 := by
      rw [Array.size_append]
      exact c3
    wp_walk using (wpAny_updateSeq hl rfl (hz := c2) (_hz' := c4)), AutoSeq1.wpAny_loadPart' hl, AutoSeq1.wpAny_loadPart' hb
    exact ⟨_, rfl, h⟩
section
variable {X : Cx} {K : PySem.W.Frag}
def rExtendT (K : PySem.W.Frag) : V → List V → Hp → VK → Prop := fun x vs H Q => ∃ l b xs zs, x = .ref l ∧ vs = [.ref b] ∧ H l = some (.lst xs) ∧ SqT K H b zs ∧ xs.length + zs.length ≤ sizeLine ∧ Q .non (upd H l (.lst (xs ++ zs)))
theorem mt_extendT : MtM X "list.extend" (rExtendT X.K) := by
  intro pins s σ H x vs v us Q I rx rv h
  obtain ⟨l, b, xs, zs, rfl, rfl, hH, hB, hz, q⟩ := h
  cases rx
  obtain ⟨u, rfl, ru⟩ := rv.one
  cases ru
  obtain ⟨z, its, n, r, hl, e⟩ := I.lstM hH
  obtain ⟨jts, r2, ⟨⟨cls, dd, data, sl⟩, e2, hc, n2, hd⟩, hl2⟩ := I.tuple hB
  simp only at hc hd
  subst hc hd
  have le2 := r2.length
  have le1 := r.length
  have hsz : its.toArray.size + jts.toArray.size ≤ sizeLine := by simp only [List.size_toArray]; omega
  have hlong : ¬ (!its.toArray.isEmpty && Builtin.List.listTooLong (its.toArray.size + jts.toArray.size)) = true := by
    rw [notLongL hsz, Bool.and_false]; simp
  refine call_meets F.slot_list_extend ⟨_, e, rfl⟩ F.entry_list_extend (F.args_list_extend_2 _ _) (ext_tup l its.toArray n b jts.toArray n2 dd sl hlong (by rw [List.size_toArray]; omega) (by omega)) ⟨e, e2, ?_⟩
  refine ⟨.non, _, I.lset (its' := its ++ jts) hH e (by simp) (r.append r2) ?_, rfl, q⟩
  rw [List.length_append]; omega
/-- t * k of any size, k from 2 on, t not empty -/
theorem op_repC {Q : VK} {pins : List (Addr × Obj)} {s : Shared} {σ : L2.St} {H : Hp} {l : Addr} {k : Int} {t : Tok} {xs : List V} (I : Inv X pins σ H s) (hT : SqT X.K H l xs) (hne : xs ≠ []) (h1 : 2 ≤ k) (hz : xs.length * k.toNat ≤ 1000000)
    (q : ∀ p, H p = none → Q (.ref p) (upd H p (.tup (List.replicate k.toNat xs).flatten))) : wpAny (model X.prog X.w) X.A (binaryOp .Mult (.ref l) (.int k t)) (EP X pins σ Q) X.xe s := by
  obtain ⟨its, r, ⟨⟨cls, dd, data, sl⟩, ho, hc, n, hd⟩, hs⟩ := I.tuple hT
  simp only at hc hd
  subst hc hd
  have hle : xs.length = its.length := r.length
  have l1 : 1 ≤ xs.length := List.length_pos_iff.mpr hne
  have hk : k.toNat ≤ 1000000 := by
    have : 1 * k.toNat ≤ xs.length * k.toNat := Nat.mul_le_mul_right _ l1
    omega
  have hi : its.toArray.isEmpty = false := by
    cases its with
    | nil => rw [List.length_nil] at hle; omega
    | cons a b => rfl
  have hm : ((its.toArray.size : Nat) : Int) * k ≤ 1000000 := by
    rw [List.size_toArray, ← hle, show k = ((k.toNat : Nat) : Int) by omega, ← Int.natCast_mul]; omega
  have flen : (List.replicate k.toNat its).flatten.length ≤ sizeLine := by
    rw [PyProof.Rows.lm_len_rep_flat, ← hle, sizeLine_eq, Nat.mul_comm]; omega
  have c0 : (decide (k < -(2 ^ 63)) || decide (k ≥ 2 ^ 63)) = false := by
    rw [Bool.or_eq_false_iff]; exact ⟨decide_eq_false (by omega), decide_eq_false (by omega)⟩
  have c1 : (its.toArray.isEmpty || k == 1) = false := by
    rw [Bool.or_eq_false_iff]; exact ⟨hi, beq_eq_false_iff_ne.mpr (by omega)⟩
  have c2 : (decide (k ≤ 0) || its.toArray.isEmpty) = false := by
    rw [Bool.or_eq_false_iff]; exact ⟨decide_eq_false (by omega), hi⟩
  have c4 : Builtin.Tuple.tupleTooMany (((its.toArray.size : Nat) : Int) * k) = false := by
    simp only [Builtin.Tuple.tupleTooMany, sizeLine_eq]; exact decide_eq_false (by omega)
  refine wpAny_binaryOp_repeat_ref (T := "tuple") (U := "int") (by decide) ⟨_, ho, rfl⟩ (fun s' => typeIs_int s' k t) noFill_tuple_mul F.fills_int_mul F.slot_int_rmul repeat_tuple F.slot_int_index.lookup (call_meets F.slot_int_rmul (typeIs_int s k t) F.entry_int_rmul (F.args_int_rmul_2 _ _) (int_rmul_tuple k t l its.toArray n dd sl) ⟨ho, rfl, ⟨_, ho, rfl⟩, ?_⟩)
  refine call_meets F.slot_tuple_mul ⟨_, ho, rfl⟩ F.entry_tuple_mul (F.args_tuple_mul_2 _ _) (tuple_mulW l its.toArray n dd sl k t c0 c1 c2 (by omega) c4 (by rw [size_rep, List.size_toArray]; exact flen)) ⟨ho, ?_⟩
  rw [size_rep]
  refine ⟨.ref s.heap.objs.size, _, I.laid (t' := s.toks) (o := .tup (List.replicate k.toNat xs).flatten) (fun b ob q => Heap.get?_push_of_some _ q) (Nat.le_refl _) ?_, rfl, q _ (I.hok.fresh (Nat.le_refl _))⟩
  refine ⟨?_, _, r.rep k.toNat, IsTup.new _ _⟩
  rw [PyProof.Rows.lm_len_rep_flat, sizeLine_eq, Nat.mul_comm]; omega
/-- t * k of any size, k from 0 on -/
def rRepB (K : PySem.W.Frag) : R2 := fun x y H Q => ∃ l k xs, x = .ref l ∧ y = .int k ∧ SqT K H l xs ∧ 1 ≤ k ∧ xs ≠ [] ∧ xs.length * k.toNat ≤ 1000000 ∧ ∀ (p : Addr) (H' : Hp), Same H H' → SqT K H' p (List.replicate k.toNat xs).flatten → Q (.ref p) H'
theorem op_repB : OpR X (binaryOp .Mult) (rRepB X.K) := by
  intro pins s σ H x y v u Q I rx ry h
  obtain ⟨l, k, xs, rfl, rfl, hT, h0, hne, hz, q⟩ := h
  cases rx
  obtain ⟨t, rfl⟩ := ry
  by_cases h2 : 2 ≤ k
  · exact op_repC I hT hne h2 hz fun p np => q p _ (same_upd np) (tupNew upd_same)
  have e : k = 1 := by omega
  subst e
  obtain ⟨its, r, ⟨⟨cls, dd, data, sl⟩, ho, hc, n, hd⟩, hs⟩ := I.tuple hT
  simp only at hc hd
  subst hc hd
  refine wpAny_binaryOp_repeat_ref (T := "tuple") (U := "int") (by decide) ⟨_, ho, rfl⟩ (fun s' => typeIs_int s' 1 t) noFill_tuple_mul F.fills_int_mul F.slot_int_rmul repeat_tuple F.slot_int_index.lookup (call_meets F.slot_int_rmul (typeIs_int s 1 t) F.entry_int_rmul (F.args_int_rmul_2 _ _) (int_rmul_tuple 1 t l its.toArray n dd sl) ⟨ho, rfl, ⟨_, ho, rfl⟩, ?_⟩)
  refine call_meets F.slot_tuple_mul ⟨_, ho, rfl⟩ F.entry_tuple_mul (F.args_tuple_mul_2 _ _) (tuple_mul1 l its.toArray n dd sl 1 t (by decide) (by simp)) ⟨ho, ?_⟩
  refine ⟨.ref l, H, I, rfl, q l H (fun _ _ e => e) ?_⟩
  show SqT X.K H l ([xs].flatten)
  rw [List.flatten_cons, List.flatten_nil, List.append_nil]; exact hT
end
end RV
namespace RV
/-- so many marks from the place q on -/
def fst (l : List Int) (q : Int) (n : Nat) : List Int := (List.range n).map fun (i : Nat) => mP l (q + (i : Int))
theorem fst_len (l : List Int) (q : Int) (n : Nat) : (fst l q n).length = n := by unfold fst; rw [List.length_map, List.length_range]
theorem fst_get {l : List Int} {q : Int} {n i : Nat} (h : i < n) : (fst l q n)[i]? = some (mP l (q + (i : Int))) := by
  unfold fst; rw [List.getElem?_map, List.getElem?_range h]; rfl
theorem fst_add (l : List Int) (q : Int) (n m : Nat) : fst l q (n + m) = fst l q n ++ fst l (q + (n : Int)) m := by
  apply List.ext_getElem?
  intro i
  rcases Nat.lt_or_ge i n with h | h
  · rw [List.getElem?_append_left (by rw [fst_len]; exact h), fst_get h, fst_get (by omega)]
  · rw [List.getElem?_append_right (by rw [fst_len]; exact h), fst_len]
    rcases Nat.lt_or_ge i (n + m) with h2 | h2
    · rw [fst_get h2, fst_get (by omega), show q + (n : Int) + ((i - n : Nat) : Int) = q + (i : Int) by omega]
    · rw [List.getElem?_eq_none (by rw [fst_len]; exact h2), List.getElem?_eq_none (by rw [fst_len]; omega)]
theorem fst_all {l : List Int} : fst l 0 l.length = l := by
  apply List.ext_getElem?
  intro i
  rcases Nat.lt_or_ge i l.length with h | h
  · rw [fst_get h, Int.zero_add, mP_get h, List.getD_eq_getElem?_getD, List.getElem?_eq_getElem h]; rfl
  · rw [List.getElem?_eq_none (by rw [fst_len]; exact h), List.getElem?_eq_none h]
/-- the mark at the place i of the run that stands at a -/
theorem mP_run {rs : List (Int × List Int)} (rn : Rn rs) {a : Nat} {r : Int × List Int} (h : rs[a]? = some r) {q : Int} {i : Nat} (hi : (i : Int) < rl r) (e : (q - (pl (rs.take a) + (i : Int))) % pl rs = 0) : r.2[i % r.2.length]? = some (mP (mk rs) q) := by
  have ml := mk_len rn.nn
  have p0 : 0 ≤ pl (rs.take a) := pl_nn fun q hq => rn.nn q (List.mem_of_mem_take hq)
  have z := mk_at rn.nn h hi
  have e1 : mP (mk rs) q = mP (mk rs) (((pl (rs.take a)).toNat + i : Nat) : Int) := mP_mod _ _ _ (by
    rw [ml, show q - (((pl (rs.take a)).toNat + i : Nat) : Int) = q - (pl (rs.take a) + (i : Int)) by omega]; exact e)
  have hw : 0 < r.2.length := List.length_pos_iff.mpr (rn r (List.mem_of_getElem? h)).2
  have hl := Nat.mod_lt i hw
  have hx : (pl (rs.take a)).toNat + i < (mk rs).length := by
    rw [List.getElem?_eq_getElem hl] at z
    exact (List.getElem?_eq_some_iff.mp z).1
  rw [e1, mP_get hx, List.getD_eq_getElem?_getD, z, List.getElem?_eq_getElem hl]; rfl
/-- a piece of the run's word gone round -/
theorem piece {rs : List (Int × List Int)} (rn : Rn rs) {a : Nat} {r : Int × List Int} (h : rs[a]? = some r) {q ins : Int} (h0 : 0 ≤ ins) {n m : Nat} (hn : ins + (n : Int) ≤ rl r) (e : (q - (pl (rs.take a) + ins)) % pl rs = 0)
    (hm : (ins % (r.2.length : Int)).toNat + n ≤ m * r.2.length) : ((rp m r.2).drop (ins % (r.2.length : Int)).toNat).take n = fst (mk rs) q n := by
  apply List.ext_getElem?
  intro i
  have hw : 0 < r.2.length := List.length_pos_iff.mpr (rn r (List.mem_of_getElem? h)).2
  rcases Nat.lt_or_ge i n with hi | hi
  · rw [List.getElem?_take_of_lt hi, List.getElem?_drop, rp_get _ _ _ (by omega), fst_get hi]
    have z := mP_run rn h (q := q + (i : Int)) (i := ins.toNat + i) (by omega) (by rw [show q + (i : Int) - (pl (rs.take a) + ((ins.toNat + i : Nat) : Int)) = q - (pl (rs.take a) + ins) by omega]; exact e)
    rw [← z]
    congr 1
    have ei : (ins % (r.2.length : Int)).toNat = ins.toNat % r.2.length := by
      rw [show ins = ((ins.toNat : Nat) : Int) by omega, ← Int.natCast_emod]; rfl
    rw [ei, Nat.mod_add_mod]
  · rw [List.getElem?_eq_none (by rw [List.length_take]; omega), List.getElem?_eq_none (by rw [fst_len]; exact hi)]
theorem pl_take_nx {rs : List (Int × List Int)} {i : Nat} {r : Int × List Int} (h : rs[i]? = some r) : pl (rs.take (i + 1)) = pl (rs.take i) + rl r := by
  rw [List.take_add_one, h, pl_app]
  show pl (rs.take i) + pl [r] = _
  rw [pl_cons]; show _ + (rl r + 0) = _; omega
/-- on to the next run -/
theorem next_run {rs : List (Int × List Int)} {a : Nat} {r : Int × List Int} (h : rs[a]? = some r) {q : Int} (e : (q - (pl (rs.take a) + rl r)) % pl rs = 0) : (q - (pl (rs.take ((a + 1) % rs.length)) + 0)) % pl rs = 0 := by
  have ha := (List.getElem?_eq_some_iff.mp h).1
  rw [← pl_take_nx h] at e
  rcases Nat.lt_or_ge (a + 1) rs.length with z | z
  · rw [Nat.mod_eq_of_lt z, Int.add_zero]; exact e
  · rw [show a + 1 = rs.length by omega] at e ⊢
    rw [List.take_length] at e
    rw [Nat.mod_self, List.take_zero]
    show (q - (0 + 0)) % pl rs = 0
    rw [show q - (0 + 0) = q - pl rs + pl rs * 1 by omega, Int.add_mul_emod_self_left]; exact e
end RV
set_option maxHeartbeats 4000000
/-! list(zip(s, t)) of two tuples -/
namespace RV
open PySem PySem.Spec PyProof.Rows L2
section
variable {prog : Program} {w : World} {A : Around} {E : Value → Shared → Prop} {s : Shared}
/-- the next pair, while the first one is still out -/
theorem zt_item {z TI TO T0 i1 i2 u1 u2 : Addr} {f : Bool} {ob : Obj} {j : Nat} {xs ys : Array Value} {x y : Value} {Q : Option Value → Shared → Prop} (D : ZipApart z TI TO i1 i2 u1 u2)
    (hz : IsZipHeld s.heap z TI TO T0 f) (h0 : s.heap.get? T0 = some ob) (hP : IsPair s.heap TI (.ref i1) (.ref i2)) (a1 : s.heap.IsTupleIter i1 u1 j) (a2 : s.heap.IsTupleIter i2 u2 j) (b1 : s.heap.IsTuple u1 xs) (b2 : s.heap.IsTuple u2 ys)
    (ex : xs[j]? = some x) (ey : ys[j]? = some y)
    (q : ∀ hh, IsZipHeld hh z TI TO T0 true → hh.IsTupleIter i1 u1 (j + 1) → hh.IsTupleIter i2 u2 (j + 1) → IsPair hh s.heap.objs.size x y → hh.objs.size = s.heap.objs.size + 1 → (∀ c o, c ≠ z → c ≠ i1 → c ≠ i2 → s.heap.get? c = some o → hh.get? c = some o) → Q (some (.ref s.heap.objs.size)) { s with heap := hh }) :
    wpAny (model prog w) A (pyNext (.ref z)) Q E s := by
  have tz : s.TypeIs (.ref z) "zip" := ⟨_, hz, rfl⟩
  unfold pyNext
  refine wpAny_bind (wpAny_attempt (wpAny_callSpecial?_slot (name := Str.ofString "__next__") tz F.slot_zip_next (wpAny_call_entry F.slot_zip_next tz F.entry_zip_next ?_ (F.args_zip_next_1 _))))
  show wpAny _ _ (field (.ref z) 2 >>= fun _ => _) _ _ s
  refine wpAny_bind (wpAny_field hz rfl (x := .bool false) rfl (wpAny_bind (wpAny_field hz rfl (x := .ref TI) rfl (wpAny_bind (wpAny_seqItems hP rfl (wpAny_bind (wpAny_tupleHeld_zip hz h0 fun g1 z1 k1 => ?_)))))))
  simp only [Bool.false_eq_true, if_false]
  refine wpAny_bind ?_
  rw [← Array.forIn_toList]; simp only [List.forIn_cons, List.forIn_nil]
  refine wpAny_bind (wpAny_bind (wpAny_holding (wpAny_bind (wpAny_nextOf_tuple_item (s := { s with heap := g1 }) (a1.extBut k1.extBut D.i1z) (b1.extBut k1.extBut D.l1z) ex fun g2 c1 k2 => wpAny_pure (wpAny_pure ?_)))))
  refine wpAny_bind (wpAny_bind (wpAny_holding (wpAny_bind (wpAny_nextOf_tuple_item (s := { s with heap := g2 }) ((a2.extBut k1.extBut D.i2z).extBut k2.extBut D.i12.symm) ((b2.extBut k1.extBut D.l2z).extBut k2.extBut D.l2i1) ey fun g3 c2 k3 => wpAny_pure (wpAny_pure (wpAny_pure ?_))))))
  show wpAny _ _ (newTuple [x, y] >>= fun _ => _) _ _ _
  refine wpAny_bind (wpAny_newTuple ?_)
  have ez : g3.objs.size = s.heap.objs.size := by rw [k3.1, k2.1, k1.1]
  have z3 : IsZipHeld g3 z TI TO T0 true := k3.extBut _ _ D.i2z.symm (k2.extBut _ _ D.i1z.symm z1)
  have c13 := c1.extBut k3.extBut D.i12
  have np : IsPair (g3.push { cls := .type "tuple", data := .seq #[x, y] }) g3.objs.size x y := Heap.get?_push_size _ rfl
  have nz : (g3.push { cls := .type "tuple", data := .seq #[x, y] }).objs.size = g3.objs.size + 1 := Heap.size_push ..
  refine wpAny_pure ⟨_, rfl, wpAny_pure ?_⟩
  show Q (some (.ref g3.objs.size)) _
  rw [ez] at np nz ⊢
  exact q _ (Heap.get?_push_of_some _ z3) (c13.at fun o e => Heap.get?_push_of_some _ e) (c2.at fun o e => Heap.get?_push_of_some _ e) np nz fun c o n1 n2 n3 e => Heap.get?_push_of_some _ (k3.extBut _ _ n3 (k2.extBut _ _ n2 (k1.extBut _ _ n1 e)))
theorem zt_end {z TI TO T0 i1 i2 u1 u2 : Addr} {f : Bool} {ob : Obj} {j : Nat} {xs ys : Array Value} {Q : Option Value → Shared → Prop} (hh : A.handled = none) (D : ZipApart z TI TO i1 i2 u1 u2)
    (hz : IsZipHeld s.heap z TI TO T0 f) (h0 : s.heap.get? T0 = some ob) (hP : IsPair s.heap TI (.ref i1) (.ref i2)) (a1 : s.heap.IsTupleIter i1 u1 j) (a2 : s.heap.IsTupleIter i2 u2 j) (b1 : s.heap.IsTuple u1 xs) (b2 : s.heap.IsTuple u2 ys)
    (no : xs[j]? = none ∨ ys[j]? = none) (q : ∀ hp, (∀ c o, c ≠ z → c ≠ i1 → c ≠ i2 → s.heap.get? c = some o → hp.get? c = some o) → Q none { s with heap := hp }) : wpAny (model prog w) A (pyNext (.ref z)) Q E s := by
  have tz : s.TypeIs (.ref z) "zip" := ⟨_, hz, rfl⟩
  unfold pyNext
  have fin : ∀ (hp : Heap) (e : Addr), (∀ c o, c ≠ z → c ≠ i1 → c ≠ i2 → s.heap.get? c = some o → hp.get? c = some o) → (∃ o, hp.get? e = some o ∧ o.cls = .type "StopIteration") →
      wpAny (model prog w) A (do if ← isInstance (.ref e) (.type "StopIteration") then pure none else throw (.ref e)) Q E { s with heap := hp } := fun hp e k ⟨o, ho, hc⟩ => by
    refine wpAny_bind (wpAny_isInstance (T := "StopIteration") (b := true) ⟨o, ho, hc⟩ isSubtype_stop ?_)
    exact wpAny_pure (q _ k)
  refine wpAny_bind (wpAny_attempt (wpAny_callSpecial?_slot (name := Str.ofString "__next__") tz F.slot_zip_next (wpAny_call_entry F.slot_zip_next tz F.entry_zip_next ?_ (F.args_zip_next_1 _))))
  show wpAny _ _ (field (.ref z) 2 >>= fun _ => _) _ _ s
  refine wpAny_bind (wpAny_field hz rfl (x := .bool false) rfl (wpAny_bind (wpAny_field hz rfl (x := .ref TI) rfl (wpAny_bind (wpAny_seqItems hP rfl (wpAny_bind (wpAny_tupleHeld_zip hz h0 fun g1 z1 k1 => ?_)))))))
  simp only [Bool.false_eq_true, if_false]
  refine wpAny_bind ?_
  rw [← Array.forIn_toList]; simp only [List.forIn_cons, List.forIn_nil]
  refine wpAny_bind (wpAny_bind (wpAny_holding ?_))
  cases ex : xs[j]? with
  | none => exact wpAny_bind (wpAny_nextOf_tuple_end (s := { s with heap := g1 }) hh (a1.extBut k1.extBut D.i1z) (b1.extBut k1.extBut D.l1z) ex fun g2 e k2 he => fin g2 e (fun c o n1 n2 _ y => k2 _ _ n2 (k1.extBut _ _ n1 y)) he)
  | some x =>
    have ey : ys[j]? = none := by
      rcases no with n | n
      · rw [ex] at n; cases n
      · exact n
    refine wpAny_bind (wpAny_nextOf_tuple_item (s := { s with heap := g1 }) (a1.extBut k1.extBut D.i1z) (b1.extBut k1.extBut D.l1z) ex fun g2 c1 k2 => wpAny_pure (wpAny_pure (wpAny_bind (wpAny_bind (wpAny_holding ?_)))))
    exact wpAny_bind (wpAny_nextOf_tuple_end (s := { s with heap := g2 }) hh ((a2.extBut k1.extBut D.i2z).extBut k2.extBut D.i12.symm) ((b2.extBut k1.extBut D.l2z).extBut k2.extBut D.l2i1) ey fun g3 e k3 he => fin g3 e (fun c o n1 n2 n3 y => k3 _ _ n3 (k2.extBut _ _ n2 (k1.extBut _ _ n1 y))) he)
/-- where the walk stands behind j pairs -/
structure ZSt (h : Heap) (z TI TO i1 i2 u1 u2 S : Addr) (j : Nat) : Prop where
  pr : IsPair h TI (.ref i1) (.ref i2)
  a1 : h.IsTupleIter i1 u1 j
  a2 : h.IsTupleIter i2 u2 j
  st : (j = 0 ∧ IsZip h z TI TO .none ∧ ∃ a b, IsPair h TO a b) ∨ ∃ T0 f ob, IsZipHeld h z TI TO T0 f ∧ h.get? T0 = some ob ∧ T0 ≠ z ∧ T0 ≠ i1 ∧ T0 ≠ i2 ∧ T0 ≠ S
theorem ZSt.keep {h h' : Heap} {z TI TO i1 i2 u1 u2 S : Addr} {j : Nat} (x : ZSt h z TI TO i1 i2 u1 u2 S j) (k : ∀ b o, b ≠ S → h.get? b = some o → h'.get? b = some o) (n1 : z ≠ S) (n2 : TI ≠ S) (n3 : TO ≠ S) (n4 : i1 ≠ S) (n5 : i2 ≠ S) : ZSt h' z TI TO i1 i2 u1 u2 S j := by
  obtain ⟨p, a1, a2, st⟩ := x
  refine ⟨k _ _ n2 p, a1.at fun o e => k _ _ n4 e, a2.at fun o e => k _ _ n5 e, ?_⟩
  rcases st with ⟨e, hz, a, b, ho⟩ | ⟨T0, f, ob, hz, h0, m1, m2, m3, m4⟩
  · exact .inl ⟨e, k _ _ n1 hz, a, b, k _ _ n3 ho⟩
  · exact .inr ⟨T0, f, ob, k _ _ n1 hz, k _ _ m4 h0, m1, m2, m3, m4⟩
theorem zs_item {z TI TO i1 i2 u1 u2 S : Addr} {j : Nat} {xs ys : Array Value} {x y : Value} {Q : Option Value → Shared → Prop} (D : ZipApart z TI TO i1 i2 u1 u2) (x0 : ZSt s.heap z TI TO i1 i2 u1 u2 S j) (hS : S < s.heap.objs.size) (b1 : s.heap.IsTuple u1 xs) (b2 : s.heap.IsTuple u2 ys) (ex : xs[j]? = some x) (ey : ys[j]? = some y)
    (q : ∀ hh, ZSt hh z TI TO i1 i2 u1 u2 S (j + 1) → IsPair hh s.heap.objs.size x y → (∀ c o, c ≠ z → c ≠ TO → c ≠ i1 → c ≠ i2 → s.heap.get? c = some o → hh.get? c = some o) → Q (some (.ref s.heap.objs.size)) { s with heap := hh }) : wpAny (model prog w) A (pyNext (.ref z)) Q E s := by
  obtain ⟨p, a1, a2, st⟩ := x0
  have lt : ∀ {c o}, s.heap.get? c = some o → s.heap.objs.size ≠ c := fun e => Nat.ne_of_gt (Heap.lt_size e)
  have l1 : s.heap.objs.size ≠ i1 := by obtain ⟨_, e, _⟩ := a1; exact lt e
  have l2 : s.heap.objs.size ≠ i2 := by obtain ⟨_, e, _⟩ := a2; exact lt e
  rcases st with ⟨e, hz, a, b, ho⟩ | ⟨T0, f, ob, hz, h0, m1, m2, m3, m4⟩
  · exact RZ.pyNext_zipT_item D hz p ho a1 a2 b1 b2 ex ey fun hh z' o' c1 c2 np nz k => q hh ⟨k _ _ D.TIz D.TITO D.TIi1 D.TIi2 p, c1, c2, .inr ⟨s.heap.objs.size, false, _, z', np, lt hz, l1, l2, Nat.ne_of_gt hS⟩⟩ np k
  · exact zt_item D hz h0 p a1 a2 b1 b2 ex ey fun hh z' c1 c2 np nz k => q hh ⟨k _ _ D.TIz D.TIi1 D.TIi2 p, c1, c2, .inr ⟨T0, true, ob, z', k _ _ m1 m2 m3 h0, m1, m2, m3, m4⟩⟩ np fun c o n1 _ n3 n4 e => k c o n1 n3 n4 e
theorem zs_end {z TI TO i1 i2 u1 u2 S : Addr} {j : Nat} {xs ys : Array Value} {Q : Option Value → Shared → Prop} (hh : A.handled = none) (D : ZipApart z TI TO i1 i2 u1 u2) (x0 : ZSt s.heap z TI TO i1 i2 u1 u2 S j) (b1 : s.heap.IsTuple u1 xs) (b2 : s.heap.IsTuple u2 ys) (no : xs[j]? = none ∨ ys[j]? = none)
    (q : ∀ hp, (∀ c o, c ≠ z → c ≠ TO → c ≠ i1 → c ≠ i2 → s.heap.get? c = some o → hp.get? c = some o) → Q none { s with heap := hp }) : wpAny (model prog w) A (pyNext (.ref z)) Q E s := by
  obtain ⟨p, a1, a2, st⟩ := x0
  rcases st with ⟨e, hz, a, b, ho⟩ | ⟨T0, f, ob, hz, h0, m1, m2, m3, m4⟩
  · exact RZ.pyNext_zipT_end hh D hz p ho a1 a2 b1 b2 no q
  · exact zt_end hh D hz h0 p a1 a2 b1 b2 no fun hp k => q hp fun c o n1 _ n3 n4 e => k c o n1 n3 n4 e
/-- the tuples told so far -/
structure ZG (xs ys : Array Value) (lo : Addr) (h : Heap) (as : List Addr) : Prop where
  up : as.Pairwise (· < ·)
  hi : ∀ a ∈ as, lo < a
  at_ : ∀ (j : Nat) (a : Addr), as[j]? = some a → ∃ x y, xs[j]? = some x ∧ ys[j]? = some y ∧ IsPair h a x y
theorem ZG.lt {xs ys : Array Value} {lo : Addr} {h : Heap} {as : List Addr} (g : ZG xs ys lo h as) {a : Addr} (ha : a ∈ as) : a < h.objs.size := by
  obtain ⟨j, hj⟩ := List.mem_iff_getElem?.mp ha
  obtain ⟨_, _, _, _, e⟩ := g.at_ j a hj
  exact Heap.lt_size e
theorem zs_loop {R : Result → Shared → Prop} {z TI TO i1 i2 u1 u2 S : Addr} {xs ys : Array Value} (hh : A.handled = none) (D : ZipApart z TI TO i1 i2 u1 u2) (n1 : z < S) (n2 : TI < S) (n3 : TO < S) (n4 : i1 < S) (n5 : i2 < S) (n6 : u1 < S) (n7 : u2 < S) (hn : min xs.size ys.size ≤ sizeLine) (res : Value) {h1 : Heap}
    (q : ∀ h' tk acc c as, (∀ b o, b ≠ S → b ≠ z → b ≠ TO → b ≠ i1 → b ≠ i2 → h1.get? b = some o → h'.get? b = some o) → h'.get? S = some { cls := .type "list", dict := none, data := .seq acc c, slots := #[] } → as.length = min xs.size ys.size → ZG xs ys S h' as → acc.toList = as.map Value.ref → R (.ok (.ret res)) { s with heap := h', toks := tk }) :
    ∀ (k j : Nat) (h : Heap) (tk c : Nat) (acc : Array Value) (as : List Addr), min xs.size ys.size - j = k → j ≤ min xs.size ys.size → ZSt h z TI TO i1 i2 u1 u2 S j → h.IsTuple u1 xs → h.IsTuple u2 ys → (∀ b o, b ≠ S → b ≠ z → b ≠ TO → b ≠ i1 → b ≠ i2 → h1.get? b = some o → h.get? b = some o) →
      h.get? S = some { cls := .type "list", dict := none, data := .seq acc c, slots := #[] } → acc.toList = as.map Value.ref → as.length = j → ZG xs ys S h as → codeAny (model prog w) A (.builtin "list.extend.loop" ⟨[.ref S, .ref z, res], []⟩) R { s with heap := h, toks := tk } := by
  intro k
  induction k with
  | zero =>
    intro j h tk c acc as hk hj x0 b1 b2 kp hS ea la g
    refine codeAny_builtin PySem.F.entry_extend_loop ?_
    rw [Around.under_plainId PySem.F.plain_extend_loop _]
    show wpAny _ A.in1 (pyNext (.ref z) >>= fun _ => _) _ _ _
    have no : xs[j]? = none ∨ ys[j]? = none := by
      by_cases e : xs.size ≤ j
      · exact .inl (by simp; omega)
      · exact .inr (by simp; omega)
    refine wpAny_bind (zs_end (s := { s with heap := h, toks := tk }) (A := A.in1) hh D x0 b1 b2 no fun hp k2 => ?_)
    have up : ∀ b o, S ≤ b → h.get? b = some o → hp.get? b = some o := fun b o lb e => k2 b o (Nat.ne_of_gt (Nat.lt_of_lt_of_le n1 lb)) (Nat.ne_of_gt (Nat.lt_of_lt_of_le n3 lb)) (Nat.ne_of_gt (Nat.lt_of_lt_of_le n4 lb)) (Nat.ne_of_gt (Nat.lt_of_lt_of_le n5 lb)) e
    refine wpAny_pure (q hp tk acc c as (fun b o m0 m1 m2 m3 m4 e => k2 b o m1 m2 m3 m4 (kp b o m0 m1 m2 m3 m4 e)) (up S _ (Nat.le_refl _) hS) (by omega) ⟨g.up, g.hi, fun i a hi => ?_⟩ ea)
    obtain ⟨x, y, e1, e2, e3⟩ := g.at_ i a hi
    exact ⟨x, y, e1, e2, up a _ (Nat.le_of_lt (g.hi a (List.mem_of_getElem? hi))) e3⟩
  | succ k ih =>
    intro j h tk c acc as hk hj x0 b1 b2 kp hS ea la g
    have hlt : j < min xs.size ys.size := by omega
    have ex : xs[j]? = some (xs[j]'(by omega)) := Array.getElem?_eq_getElem _
    have ey : ys[j]? = some (ys[j]'(by omega)) := Array.getElem?_eq_getElem _
    have sz : acc.size = j := by rw [← Array.length_toList, ea, List.length_map, la]
    refine codeAny_builtin PySem.F.entry_extend_loop ?_
    rw [Around.under_plainId PySem.F.plain_extend_loop _]
    show wpAny _ A.in1 (pyNext (.ref z) >>= fun _ => _) _ _ _
    refine wpAny_bind (zs_item (s := { s with heap := h, toks := tk }) D x0 (Heap.lt_size hS) b1 b2 ex ey fun hp x1 np k2 => ?_)
    have hSl : S < h.objs.size := Heap.lt_size hS
    have ge : ∀ b o, S ≤ b → h.get? b = some o → hp.get? b = some o := fun b o lb e => k2 b o (Nat.ne_of_gt (Nat.lt_of_lt_of_le n1 lb)) (Nat.ne_of_gt (Nat.lt_of_lt_of_le n3 lb)) (Nat.ne_of_gt (Nat.lt_of_lt_of_le n4 lb)) (Nat.ne_of_gt (Nat.lt_of_lt_of_le n5 lb)) e
    have hS' := ge S _ (Nat.le_refl _) hS
    replace np : IsPair hp h.objs.size _ _ := np
    have up : ∀ b o, b ≠ S → hp.get? b = some o → (hp.update S (Obj.mapSeq (·.push (Value.ref h.objs.size)))).get? b = some o := fun b o hb e => (Heap.get?_update_other _ _ (Ne.symm hb)).trans e
    have ut : ∀ {u : Addr} {vs : Array Value}, u < S → u ≠ z → u ≠ TO → u ≠ i1 → u ≠ i2 → h.IsTuple u vs → (hp.update S (Obj.mapSeq (·.push (Value.ref h.objs.size)))).IsTuple u vs := fun {u vs} lu m1 m2 m3 m4 ⟨o, e, r⟩ => ⟨o, up u o (Nat.ne_of_lt lu) (k2 u o m1 m2 m3 m4 e), r⟩
    show wpAny _ A.in1 (updateSeq S (·.push (Value.ref h.objs.size)) >>= fun _ => _) _ _ _
    refine wpAny_bind ?_
    refine wpAny_updateSeq hS' rfl (wpAny_pure ⟨plainId_quiet PySem.F.plain_extend_loop _, ih (j + 1) _ tk _ (acc.push (Value.ref h.objs.size)) (as ++ [h.objs.size]) (by omega) hlt (x1.keep up (Nat.ne_of_lt n1) (Nat.ne_of_lt n2) (Nat.ne_of_lt n3) (Nat.ne_of_lt n4) (Nat.ne_of_lt n5)) (ut n6 D.l1z D.l1TO D.l1i1 D.l1i2 b1) (ut n7 D.l2z D.l2TO D.l2i1 D.l2i2 b2)
      (fun b o m0 m1 m2 m3 m4 e => up b o m0 (k2 b o m1 m2 m3 m4 (kp b o m0 m1 m2 m3 m4 e))) (Heap.get?_update_self _ hS' rfl) (by rw [Array.toList_push, ea, List.map_append]; rfl) (by rw [List.length_append, la]; rfl) ⟨?_, ?_, ?_⟩⟩) (by rw [sz]; omega) (by show (acc.push (Value.ref h.objs.size)).size ≤ sizeLine + 1; rw [Array.size_push, sz]; omega)
    · refine List.pairwise_append.mpr ⟨g.up, List.pairwise_singleton _ _, fun a ha b hb => ?_⟩
      rw [List.mem_singleton.mp hb]; exact g.lt ha
    · intro a ha
      rcases List.mem_append.mp ha with y | y
      · exact g.hi a y
      · rw [List.mem_singleton.mp y]; exact hSl
    · intro i b hi
      by_cases e : i < as.length
      · rw [List.getElem?_append_left e] at hi
        obtain ⟨x, y, e1, e2, e3⟩ := g.at_ i b hi
        have lb := g.hi b (List.mem_of_getElem? hi)
        exact ⟨x, y, e1, e2, up b _ (Nat.ne_of_gt lb) (ge b _ (Nat.le_of_lt lb) e3)⟩
      · have hl := (List.getElem?_eq_some_iff.mp hi).1
        rw [List.length_append] at hl
        have ei : i = as.length := by
          have : [h.objs.size].length = 1 := rfl
          omega
        subst ei
        rw [List.getElem?_append_right (Nat.le_refl _), Nat.sub_self] at hi
        have eb : h.objs.size = b := Option.some.inj hi
        subst eb
        exact ⟨_, _, by rw [la]; exact ex, by rw [la]; exact ey, up _ _ (Nat.ne_of_gt hSl) np⟩
theorem zip_nolen : typeLookup (.type "zip") "__len__" = pure none := am_miss_of_fast (by decide +kernel)
theorem zip_nohint : typeLookup (.type "zip") "__length_hint__" = pure none := am_miss_of_fast (by decide +kernel)
theorem zs_extend {R : Result → Shared → Prop} {z TI TO i1 i2 u1 u2 S : Addr} {xs ys : Array Value} (hh : A.handled = none) (D : ZipApart z TI TO i1 i2 u1 u2) (x0 : ZSt s.heap z TI TO i1 i2 u1 u2 S 0) (hz : IsZip s.heap z TI TO .none) (b1 : s.heap.IsTuple u1 xs) (b2 : s.heap.IsTuple u2 ys) (n1 : z < S) (n2 : TI < S) (n3 : TO < S) (n4 : i1 < S) (n5 : i2 < S) (n6 : u1 < S) (n7 : u2 < S) (hn : min xs.size ys.size ≤ sizeLine) (res : Value) (c0 : Nat) (hS : s.heap.get? S = some { cls := .type "list", data := .seq #[] c0 })
    (q : ∀ h' tk acc c as, (∀ b o, b ≠ S → b ≠ z → b ≠ TO → b ≠ i1 → b ≠ i2 → s.heap.get? b = some o → h'.get? b = some o) → h'.get? S = some { cls := .type "list", dict := none, data := .seq acc c, slots := #[] } → as.length = min xs.size ys.size → ZG xs ys S h' as → acc.toList = as.map Value.ref → R (.ok (.ret res)) { s with heap := h', toks := tk }) :
    wpAny (model prog w) A.in1 (Builtin.List.listExtendWith (.ref S) (.ref z) res)
      (fun fin s' => match fin with | .done f => R (.ok f) s' | .again c' => c'.quiet = true ∧ codeAny (model prog w) A c' R s') (fun e s' => R (.error e) s') s := by
  have tz : s.TypeIs (.ref z) "zip" := ⟨_, hz, rfl⟩
  have key : ∀ (h : Heap) (c1 : Nat), (∀ b o, b ≠ S → s.heap.get? b = some o → h.get? b = some o) → h.get? S = some { cls := .type "list", data := .seq #[] c1 } → codeAny (model prog w) A (.builtin "list.extend.loop" ⟨[.ref S, .ref z, res], []⟩) R { s with heap := h, toks := s.toks } := fun h c1 k hS1 =>
    zs_loop (s := s) (h1 := s.heap) hh D n1 n2 n3 n4 n5 n6 n7 hn res q (min xs.size ys.size) 0 h s.toks c1 #[] [] (Nat.sub_zero _) (Nat.zero_le _) (x0.keep k (Nat.ne_of_lt n1) (Nat.ne_of_lt n2) (Nat.ne_of_lt n3) (Nat.ne_of_lt n4) (Nat.ne_of_lt n5))
      (let ⟨o, e, r⟩ := b1; ⟨o, k _ _ (Nat.ne_of_lt n6) e, r⟩) (let ⟨o, e, r⟩ := b2; ⟨o, k _ _ (Nat.ne_of_lt n7) e, r⟩) (fun b o m0 _ _ _ _ e => k b o m0 e) hS1 rfl rfl ⟨List.Pairwise.nil, (fun _ ha => nomatch ha), (fun j a hj => by simp at hj)⟩
  unfold Builtin.List.listExtendWith
  refine wpAny_bind (wpAny_typeOf (T := "zip") tz ?_)
  have e1 : Builtin.List.listSameRef (.ref S) (.ref z) = false := by simp [Builtin.List.listSameRef, Nat.ne_of_gt n1]
  have e2 : (Value.type "zip" == Value.type "list") = false := by decide
  have e3 : (Value.type "zip" == Value.type "tuple") = false := by decide
  simp only [e1, e2, e3, Bool.or_false, Bool.false_eq_true, if_false]
  refine wpAny_bind (wpAny_pyIter_zip hz (wpAny_bind (wpAny_holding ?_)))
  unfold Builtin.List.listLengthHint
  refine wpAny_bind (wpAny_specialOf tz zip_nolen ?_)
  show wpAny _ A.in1 (specialOf (Value.ref z) (Str.ofString "__length_hint__") >>= fun _ => _) _ _ _
  refine wpAny_bind (wpAny_specialOf tz zip_nohint (wpAny_pure ?_))
  show wpAny _ A.in1 (rule "list.extend.makes-room" >>= fun _ => Builtin.List.listTouch (.ref S) >>= fun _ => again (.builtin "list.extend.loop" ⟨[.ref S, .ref z, res], []⟩)) _ _ _
  refine wpAny_bind (wpAny_rule (wpAny_bind ?_))
  show wpAny _ _ (updateSeq S (·.push .none) >>= fun _ => updateSeq S (·.pop)) _ _ _
  refine wpAny_bind (wpAny_updateSeq hS rfl ?_)
  have g2 := Heap.get?_update_self (Obj.mapSeq (·.push Value.none)) hS rfl
  refine wpAny_updateSeq (hz := by seq_fits) g2 rfl ?_
  have g3 := Heap.get?_update_self (Obj.mapSeq (·.pop)) g2 rfl
  refine wpAny_pure ⟨plainId_quiet PySem.F.plain_extend_loop _, key _ _ (fun b o hb e => ?_) g3⟩
  exact (Heap.get?_update_other _ _ (Ne.symm hb)).trans ((Heap.get?_update_other _ _ (Ne.symm hb)).trans e)
theorem ZG.low {xs ys : Array Value} {lo lo' : Addr} {h : Heap} {as : List Addr} (g : ZG xs ys lo h as) (l : lo' ≤ lo) : ZG xs ys lo' h as := ⟨g.up, fun a ha => Nat.lt_of_le_of_lt l (g.hi a ha), g.at_⟩
theorem zs_call {z TI TO i1 i2 u1 u2 : Addr} {xs ys : Array Value} {Q : Value → Shared → Prop} (hh : A.handled = none) (D : ZipApart z TI TO i1 i2 u1 u2) (hz : IsZip s.heap z TI TO .none) (hP : IsPair s.heap TI (.ref i1) (.ref i2)) (hO : ∃ a b, IsPair s.heap TO a b) (a1 : s.heap.IsTupleIter i1 u1 0) (a2 : s.heap.IsTupleIter i2 u2 0) (b1 : s.heap.IsTuple u1 xs) (b2 : s.heap.IsTuple u2 ys) (hn : min xs.size ys.size ≤ sizeLine)
    (q : ∀ h' tk acc c as, (∀ b o, b ≠ z → b ≠ TO → b ≠ i1 → b ≠ i2 → s.heap.get? b = some o → h'.get? b = some o) → h'.get? s.heap.objs.size = some { cls := .type "list", dict := none, data := .seq acc c, slots := #[] } → as.length = min xs.size ys.size → ZG xs ys s.heap.objs.size h' as → acc.toList = as.map Value.ref → Q (.ref s.heap.objs.size) { s with heap := h', toks := tk }) :
    wpAny (model prog w) A (call (.type "list") [.ref z]) Q E s := by
  refine callType_codes (Q₁ := fun obj s₁ => obj = .ref s.heap.objs.size ∧ s₁ = { s with heap := s.heap.push { cls := .type "list", data := .seq #[] } }) PySem.F.called_list (PySem.F.typeCall_list_1 _) PySem.F.entry_list_init (code_list_new _ ⟨rfl, rfl⟩) fun obj s₁ h₁ => ?_
  obtain ⟨rfl, rfl⟩ := h₁
  have hS : (s.heap.push { cls := .type "list", data := .seq #[] }).get? s.heap.objs.size = some { cls := .type "list", data := .seq #[] } := Heap.get?_push_size _ rfl
  refine ⟨⟨_, hS, rfl⟩, PySem.F.args_list_init_2 _ _, ?_⟩
  show wpAny _ A.in1.in1 (do let old ← Builtin.List.listItems (.ref s.heap.objs.size); Builtin.List.listUpdate (.ref s.heap.objs.size) (fun _ => #[]); letGo old.toList.reverse; Builtin.List.listExtendWith (.ref s.heap.objs.size) (.ref z) .none) _ _ _
  refine wpAny_bind ?_
  unfold Builtin.List.listItems
  refine wpAny_bind (wpAny_seqItems hS rfl (wpAny_pure ?_))
  show wpAny _ _ (updateSeq s.heap.objs.size (fun _ => #[]) >>= fun _ => letGo (#[] : Array Value).toList.reverse >>= fun _ => Builtin.List.listExtendWith (.ref s.heap.objs.size) (.ref z) .none) _ _ _
  refine wpAny_bind (wpAny_updateSeq hS rfl ?_)
  have g2 := Heap.get?_update_self (Obj.mapSeq (fun _ => (#[] : Array Value))) hS rfl
  have oth : ∀ b o, s.heap.get? b = some o → ((s.heap.push { cls := .type "list", data := .seq #[] }).update s.heap.objs.size (Obj.mapSeq (fun _ => (#[] : Array Value)))).get? b = some o :=
    fun b o e => (Heap.get?_update_other _ _ (Nat.ne_of_gt (Heap.lt_size e))).trans (Heap.get?_push_of_some _ e)
  refine wpAny_bind (wpAny_letGo ?_)
  obtain ⟨oa, ob, hO⟩ := hO
  have l1 : i1 < s.heap.objs.size := by obtain ⟨_, e, _⟩ := a1; exact Heap.lt_size e
  have l2 : i2 < s.heap.objs.size := by obtain ⟨_, e, _⟩ := a2; exact Heap.lt_size e
  have l3 : u1 < s.heap.objs.size := by obtain ⟨_, e, _⟩ := b1; exact Heap.lt_size e
  have l4 : u2 < s.heap.objs.size := by obtain ⟨_, e, _⟩ := b2; exact Heap.lt_size e
  have key := zs_extend (prog := prog) (w := w) (A := A.in1) (s := { s with heap := (s.heap.push { cls := .type "list", data := .seq #[] }).update s.heap.objs.size (Obj.mapSeq (fun _ => (#[] : Array Value))) }) (R := wants (fun v s' => v = .none ∧ Q (.ref s.heap.objs.size) s') E) hh D
    ⟨oth _ _ hP, a1.at fun o e => oth _ _ e, a2.at fun o e => oth _ _ e, .inl ⟨rfl, oth _ _ hz, oa, ob, oth _ _ hO⟩⟩ (oth _ _ hz) (let ⟨o, e, r⟩ := b1; ⟨o, oth _ _ e, r⟩) (let ⟨o, e, r⟩ := b2; ⟨o, oth _ _ e, r⟩) (Heap.lt_size hz) (Heap.lt_size hP) (Heap.lt_size hO) l1 l2 l3 l4 hn .none _ g2
    (fun h' tk acc c as k hS' la g ea => ⟨rfl, q h' tk acc c as (fun b o m1 m2 m3 m4 e => k b o (Nat.ne_of_lt (Heap.lt_size e)) m1 m2 m3 m4 (oth b o e)) hS' la g ea⟩)
  exact key
end
theorem lookup_zip {β : Type} : ∀ {as : List Addr} {ps : List β}, as.Nodup → ∀ {j : Nat} {a : Addr} {p : β}, as[j]? = some a → ps[j]? = some p → (as.zip ps).lookup a = some p
  | [], _, _, j, a, p, h, _ => by simp at h
  | _ :: _, [], _, j, a, p, _, h => by simp at h
  | b :: as, r :: ps, nd, 0, a, p, h1, h2 => by
    have e1 : b = a := Option.some.inj h1
    have e2 : r = p := Option.some.inj h2
    subst e1 e2
    simp [List.lookup]
  | b :: as, r :: ps, nd, j + 1, a, p, h1, h2 => by
    have h1' : as[j]? = some a := h1
    have hn := List.nodup_cons.mp nd
    have ne : (a == b) = false := by
      rw [beq_eq_false_iff_ne]
      intro e
      exact hn.1 (e ▸ List.mem_of_getElem? h1')
    show ((b, r) :: as.zip ps).lookup a = some p
    rw [List.lookup_cons, ne]
    exact lookup_zip hn.2 h1' h2
theorem lookup_not {β : Type} : ∀ {as : List Addr} {ps : List β} {a : Addr}, a ∉ as → (as.zip ps).lookup a = none
  | [], _, _, _ => by simp
  | _ :: _, [], _, _ => by simp
  | b :: as, r :: ps, a, h => by
    have ne : (a == b) = false := by
      rw [beq_eq_false_iff_ne]
      intro e
      exact h (by rw [e]; exact List.mem_cons_self ..)
    show ((b, r) :: as.zip ps).lookup a = none
    rw [List.lookup_cons, ne]
    exact lookup_not fun z => h (List.mem_cons_of_mem _ z)
def putZ (H : Hp) (S : Addr) (as : List Addr) (ps : List (V × V)) : Hp := fun b => if b = S then some (.lst (as.map V.ref)) else match (as.zip ps).lookup b with
  | some p => some (.tup [p.1, p.2])
  | none => H b
def tListZip (K : PySem.W.Frag) (ta : TA) : TE := fun σ H Q => ta σ H fun vs H1 => ∃ a b xs ys, vs = [.ref a, .ref b] ∧ SqT K H1 a xs ∧ SqT K H1 b ys ∧
  ∀ (H' : Hp) (p : Addr) (ts : List Addr), Same H1 H' → H1 p = none → H' p = some (.lst (ts.map V.ref)) → ts.length = min xs.length ys.length → (∀ (j : Nat) (t : Addr), ts[j]? = some t → ∃ x y, xs[j]? = some x ∧ ys[j]? = some y ∧ H' t = some (.tup [x, y])) → Q (.ref p) H'
section
variable {X : Cx} {e e2 : Expr} {ta : TA} {p p2 pos pos2 : Pos}
/-- list(zip(s, t)) -/
theorem pe_listZip (hc : X.calm = true) (hg : Gl X "list") (hm : X.mg "list" = none) (hg2 : Gl X "zip") (hm2 : X.mg "zip" = none) (ha : PA X [e, e2] ta)
    (hs : starEach [.Call (.Name "zip" p2) [e, e2] [] pos2] X.env = (false, eval (.Call (.Name "zip" p2) [e, e2] [] pos2) X.env) :: starEach [] X.env := by rfl)
    (hs2 : starEach [e, e2] X.env = (false, eval e X.env) :: starEach [e2] X.env := by rfl) (hpl : (backTo pos2 (starEach [e2] X.env)).any (·.1) = false := by rfl) :
    PE X (.Call (.Name "list" p) [.Call (.Name "zip" p2) [e, e2] [] pos2] [] pos) (tListZip X.K ta) := by
  refine ⟨fun pins s σ H Q I hq => ?_⟩
  refine wpAny_Call_Name_kw (ld_blt I hg hm boot_list (PyProof.Rows.callWith_type1 ?_ hs rfl))
  rw [hs]
  refine Calls.spliced_cons (Call_ (ld_blt I hg2 hm2 PyProof.Rows.boot_zip (PyProof.Rows.callWith_type1 (thn (ha.run pos2 pins s σ H _ I hq) fun us s1 ⟨vs, H1, I1, r1, q1⟩ => ?_) hs2 hpl)))
  obtain ⟨a, b, xs, ys, ex, hx, hy, q⟩ := q1
  subst ex
  obtain ⟨v1, v2, rfl, r2, r3⟩ := vals2 r1
  cases r2
  cases r3
  obtain ⟨its, rv, t1, z1⟩ := I1.tuple hx
  obtain ⟨its2, rv2, t2, z2⟩ := I1.tuple hy
  obtain ⟨o1, ho1, _⟩ := id t1
  obtain ⟨o2, ho2, _⟩ := id t2
  have l1 := rv.length
  have l2 := rv2.length
  refine RZ.call_zipT (show s1.heap.IsTuple a its.toArray from t1) (show s1.heap.IsTuple b its2.toArray from t2) fun h1 hz hP hO i1 i2 hsz hk => Calls.spliced_nil ?_
  have D := PySem.W.ktu_apart s1.heap.objs.size a b (Heap.lt_size ho1) (Heap.lt_size ho2)
  refine zs_call (s := { s1 with heap := h1 }) (I1.ok.hd hc) D hz hP ⟨_, _, hO⟩ i1 i2 (let ⟨o, e, r⟩ := t1; ⟨o, hk _ _ e, r⟩) (let ⟨o, e, r⟩ := t2; ⟨o, hk _ _ e, r⟩) (by rw [List.size_toArray, List.size_toArray]; omega) fun h' tk acc c as k hS la g ea => ?_
  dsimp only at k hS g ⊢
  rw [List.size_toArray, List.size_toArray, ← l1, ← l2] at la
  have kp : ∀ b o, s1.heap.get? b = some o → h'.get? b = some o := fun b o e => by
    have lb := Heap.lt_size e
    exact k b o (Nat.ne_of_lt (Nat.lt_of_lt_of_le lb (Nat.le_add_right _ _))) (Nat.ne_of_lt (Nat.lt_of_lt_of_le lb (Nat.le_add_right _ _))) (Nat.ne_of_lt lb) (Nat.ne_of_lt (Nat.lt_succ_of_lt lb)) (hk b o e)
  have sz5 : s1.heap.objs.size ≤ h1.objs.size := by rw [hsz]; exact Nat.le_add_right _ _
  have ab : ∀ t ∈ as, s1.heap.objs.size ≤ t := fun t ht => Nat.le_of_lt (Nat.lt_of_le_of_lt sz5 (g.hi t ht))
  have nd : as.Nodup := List.Pairwise.imp (fun {a b} (h : a < b) => Nat.ne_of_lt h) g.up
  have new : ∀ t, s1.heap.objs.size ≤ t → H1 t = none := fun t ht => I1.hok.fresh ht
  have hSn : h1.objs.size ∉ as := fun z => Nat.lt_irrefl _ (g.hi _ z)
  have atH : ∀ (j : Nat) (t : Addr), as[j]? = some t → ∃ x y, xs[j]? = some x ∧ ys[j]? = some y ∧ putZ H1 h1.objs.size as (xs.zip ys) t = some (.tup [x, y]) ∧ ∃ u v, RelV x u ∧ RelV y v ∧ IsPair h' t u v := fun j t hj => by
    have hjl := (List.getElem?_eq_some_iff.mp hj).1
    obtain ⟨u, v, e1, e2, e3⟩ := g.at_ j t hj
    have ex : xs[j]? = some (xs[j]'(by omega)) := List.getElem?_eq_getElem _
    have ey : ys[j]? = some (ys[j]'(by omega)) := List.getElem?_eq_getElem _
    obtain ⟨u', hu', ru⟩ := rv.get ex
    obtain ⟨v', hv', rv'⟩ := rv2.get ey
    have eu : u' = u := by
      have z : its[j]? = some u := by simpa using e1
      rw [hu'] at z; exact Option.some.inj z
    have ev : v' = v := by
      have z : its2[j]? = some v := by simpa using e2
      rw [hv'] at z; exact Option.some.inj z
    subst eu ev
    refine ⟨_, _, ex, ey, ?_, u', v', ru, rv', e3⟩
    have ez : (xs.zip ys)[j]? = some (xs[j]'(by omega), ys[j]'(by omega)) := by
      rw [List.getElem?_zip_eq_some]; exact ⟨ex, ey⟩
    unfold putZ
    rw [if_neg (show ¬ t = h1.objs.size from fun z => hSn (by rw [← z]; exact List.mem_of_getElem? hj)), lookup_zip nd hj ez]
  have eS : putZ H1 h1.objs.size as (xs.zip ys) h1.objs.size = some (.lst (as.map V.ref)) := by unfold putZ; rw [if_pos rfl]
  have off : ∀ t, t ∉ as → t ≠ h1.objs.size → putZ H1 h1.objs.size as (xs.zip ys) t = H1 t := fun t n1 n2 => by
    unfold putZ
    rw [if_neg n2, lookup_not n1]
  have kpH : ∀ t o, H1 t = some o → putZ H1 h1.objs.size as (xs.zip ys) t = some o := fun t o e => by
    rw [off t (fun z => by rw [new t (ab t z)] at e; cases e) (fun z => by rw [z, new _ sz5] at e; cases e)]
    exact e
  refine ⟨.ref h1.objs.size, putZ H1 h1.objs.size as (xs.zip ys), ?_, rfl, q _ _ as kpH (new _ sz5) eS la fun j t hj => ?_⟩
  · have J := I1.call' (ch := []) (H' := putZ H1 h1.objs.size as (xs.zip ys)) (s' := { s1 with heap := h', toks := tk }) rfl ⟨fun b o q _ _ _ => kp b o q, fun b o q _ _ _ => ⟨o.slots, kp b o q⟩, fun b o q n _ => ?_, fun b o q _ => ⟨o, kp b o q⟩, fun b xs q => kpH b _ q, fun b o u q => kpH b _ q, fun b ps q => ⟨#[], by rw [kpH b _ q]; simp⟩⟩ (fun b u q => ?_) I1.bare fun b z => by simp at z
    · exact J
    · have lb := Heap.lt_size q
      rw [off b (fun z => absurd lb (Nat.not_lt.mpr (ab b z))) (fun z => absurd lb (Nat.not_lt.mpr (by rw [z]; exact sz5)))]
      exact n
    · by_cases hb : b ∈ as
      · obtain ⟨j, hj⟩ := List.mem_iff_getElem?.mp hb
        obtain ⟨x, y, _, _, e3, u1, v1, ru, rv', pr⟩ := atH j b hj
        rw [e3] at q
        cases q
        exact ⟨by show 2 ≤ sizeLine; decide, [u1, v1], .cons ru (.cons rv' .nil), ⟨_, pr, rfl, _, rfl⟩⟩
      · by_cases hb2 : b = h1.objs.size
        · subst hb2
          rw [eS] at q
          cases q
          refine ⟨by rw [List.length_map]; omega, acc.toList, c, by rw [ea]; exact LiI.vals_refs as, ?_⟩
          rw [Array.toArray_toList]
          exact hS
        · rw [off b hb hb2] at q
          exact (I1.hok b u q).stay (fun d v _ y => kp d v y) (fun d y => kpH d _ y) fun d xs y => kpH d _ y
  · obtain ⟨x, y, e1, e2, e3, _⟩ := atH j t hj
    exact ⟨x, y, e1, e2, e3⟩
end
end RV
set_option maxHeartbeats 4000000
namespace K4
open PySem PySem.Spec PyProof.Rows L2 RV
theorem cut_mid {xs : List V} {i j : Nat} (h : i ≤ j) (h2 : j ≤ xs.length) : cutV xs (some (i : Int)) (some (j : Int)) = (xs.drop i).take (j - i) := by
  unfold cutV
  rw [HT.sIx_nat, HT.sIx_nat, Nat.min_eq_left h2, Nat.min_eq_left (by omega)]
theorem rep_map (n : Nat) (w : List Int) : (List.replicate n (w.map V.int)).flatten = (rp n w).map V.int := by
  unfold rp
  rw [List.map_flatten, List.map_replicate]
end K4
set_option maxHeartbeats 4000000
namespace RV
open PySem PySem.Spec PyProof.Rows L2
theorem walk_revT {K : PySem.W.Frag} {a : Addr} {xs : List V} : Walk (RT.ItvT K a xs.length) xs.length (fun H => SqT K H a xs) (YAt xs.reverse) := by
  refine ⟨fun i H hi g => ⟨hi, xs, xs[xs.length - 1 - i], g, List.getElem?_eq_getElem (by omega)⟩, fun H _ => Nat.le_refl _, fun i H x H' hi g y => ⟨y.1, ?_⟩⟩
  rw [List.getElem?_reverse hi]
  exact y.2 xs g
/-- [h(x) for x in reversed(t)], t a tuple of ints -/
theorem lc_mapRev {K : PySem.W.Frag} {te : TE} {h : Int → Int} {σ : L2.St} {H1 : Hp} {a D : Addr} {v : Nat} {ns : List Int} {Qd : Hp → Prop} (hT : SqT K H1 a (ns.map V.int)) (hl : ns.length ≤ 1000) (nD : H1 D = none)
    (hte : ∀ x ∈ ns, ∀ (H' : Hp) (Q : VK), Same H1 H' → (∀ H2, Same H' H2 → Q (.int (h x)) H2) → te ((wipe σ [v]).set v (some (.int x))) H' Q)
    (hd : ∀ H', Same H1 H' → H' D = some (.lst ((ns.reverse.map h).map V.int)) → Qd H') :
    ∃ W : Nat → Nat → Hp → Prop, (∃ m, W 0 m (upd H1 D (.lst []))) ∧ ∀ i m H, W i m H →
      ((RT.ItvT K a (ns.map V.int).length).stop i H ∧ Qd H) ∨ ((RT.ItvT K a (ns.map V.int).length).go i H ∧ ∃ Nx : Hp → Prop, (∀ H', Nx H' → ∃ m', m' < m ∧ W (i + 1) m' H') ∧ ∀ x H', (RT.ItvT K a (ns.map V.int).length).yld i H x H' → gName v x (wipe σ [v]) H' fun σ2 H2 => wipe σ2 [v] = wipe σ [v] ∧ tYes σ2 H2 fun b H3 =>
        if b = true then te σ2 H3 fun y H4 => ∃ acc, H4 D = some (.lst acc) ∧ acc.length < sizeLine ∧ Nx (upd H4 D (.lst (acc ++ [y]))) else Nx H3) := by
  refine lc_it walk_revT (fun i H' => Same H1 H' ∧ H' D = some (.lst (((ns.reverse.take i).map h).map V.int))) ⟨same_upd nD, upd_same⟩ (fun i H' _ p => sqT_same p.1 hT) (fun i x Hx H' hx p y => ?_) fun H' p => ?_
  · obtain ⟨rfl, hx⟩ := y
    rw [← List.map_reverse] at hx
    obtain ⟨k, g, rfl⟩ := map_at hx
    refine ⟨by simp [wipe, List.set_set], tt_yes (hte k (List.mem_reverse.mp (List.mem_of_getElem? g)) H' _ p.1 fun H2 s2 => ⟨_, s2 _ _ p.2, ?_, fun b o z => ?_, ?_⟩)⟩
    · rw [List.length_map, List.length_map, List.length_take, List.length_reverse]; exact few1 (by omega)
    · rw [upd_ne (ne_of_none z nD)]; exact s2 _ _ (p.1 b o z)
    · rw [upd_same, List.take_add_one, g, List.map_append, List.map_append]; rfl
  · rw [List.length_map, List.take_of_length_le (by rw [List.length_reverse]; exact Nat.le_refl _)] at p
    exact hd H' p.1 p.2
/-- [c(x) for x in range(n)] of truths -/
theorem lc_blR {te : TE} {c : Int → Bool} {σ : L2.St} {H1 : Hp} {D : Addr} {v n : Nat} {Qd : Hp → Prop} (hl : n ≤ 1000) (nD : H1 D = none)
    (hte : ∀ x : Int, 0 ≤ x → x < (n : Int) → ∀ (H' : Hp) (Q : VK), Same H1 H' → (∀ H2, Same H' H2 → Q (.bl (c x)) H2) → te ((wipe σ [v]).set v (some (.int x))) H' Q)
    (hd : ∀ H', Same H1 H' → H' D = some (.lst (((upN n).map c).map V.bl)) → Qd H') :
    ∃ W : Nat → Nat → Hp → Prop, (∃ m, W 0 m (upd H1 D (.lst []))) ∧ ∀ i m H, W i m H →
      ((Itr 0 n).stop i H ∧ Qd H) ∨ ((Itr 0 n).go i H ∧ ∃ Nx : Hp → Prop, (∀ H', Nx H' → ∃ m', m' < m ∧ W (i + 1) m' H') ∧ ∀ x H', (Itr 0 n).yld i H x H' → gName v x (wipe σ [v]) H' fun σ2 H2 => wipe σ2 [v] = wipe σ [v] ∧ tYes σ2 H2 fun b H3 =>
        if b = true then te σ2 H3 fun y H4 => ∃ acc, H4 D = some (.lst acc) ∧ acc.length < sizeLine ∧ Nx (upd H4 D (.lst (acc ++ [y]))) else Nx H3) := by
  refine lc_range (lo := 0) (n := n) (fun i H' => Same H1 H' ∧ H' D = some (.lst ((((upN n).take i).map c).map V.bl))) ⟨same_upd nD, upd_same⟩ (fun i H' hi p => ?_) fun H' p => ?_
  · have g : (upN n)[i]? = some (i : Int) := upN_get hi
    rw [Int.zero_add]
    refine ⟨by simp [wipe, List.set_set], tt_yes (hte (i : Int) (by omega) (by omega) H' _ p.1 fun H2 s2 => ⟨_, s2 _ _ p.2, ?_, fun b o z => ?_, ?_⟩)⟩
    · rw [List.length_map, List.length_map, List.length_take, upN_len]; exact few1 (by omega)
    · rw [upd_ne (ne_of_none z nD)]; exact s2 _ _ (p.1 b o z)
    · rw [upd_same, List.take_add_one, g, List.map_append, List.map_append]; rfl
  · rw [List.take_of_length_le (by rw [upN_len]; exact Nat.le_refl _)] at p
    exact hd H' p.1 p.2
theorem decV (a b : Int) : decide (V.int a = V.int b) = decide (a = b) := by
  by_cases h : a = b
  · rw [h, decide_eq_true rfl, decide_eq_true rfl]
  · rw [decide_eq_false h, decide_eq_false fun z => h (V.int.inj z)]
end RV
set_option maxHeartbeats 4000000
namespace K4
open PySem PySem.Spec PyProof.Rows L2 RV
theorem flds_no (a b t : Addr) {m : Str} (h1 : ¬ m = "mirrors") (h2 : ¬ m = "steps") (h3 : ¬ m = "followers") : (flds a b t).lookup m = none := by
  unfold flds
  rw [lookup_putF, if_neg h3, lookup_putF, if_neg h2, lookup_putF, if_neg h1]
  all_goals rfl
theorem mem_behind {n : Int} {ps : List (List Int)} (hp : ∀ p ∈ ps, Pr n p) {m j : Int} : j ∈ behindOf ps m ↔ [m, j] ∈ ps := by
  unfold behindOf
  rw [List.mem_map]
  constructor
  · rintro ⟨p, h1, h2⟩
    obtain ⟨h3, h4⟩ := List.mem_filter.mp h1
    obtain ⟨x, y, rfl, _⟩ := hp p h3
    have e1 : x = m := of_decide_eq_true h4
    have e2 : y = j := h2
    subst e1 e2
    exact h3
  · intro h
    exact ⟨[m, j], List.mem_filter.mpr ⟨h, decide_eq_true rfl⟩, rfl⟩
theorem atI_m1 {xs : List V} {v : V} (h : xs[xs.length - 1]? = some v) : atI xs (-1) = some v := by
  obtain ⟨hl, e⟩ := List.getElem?_eq_some_iff.mp h
  have ne : xs ≠ [] := fun z => by rw [z] at hl; exact absurd hl (by decide)
  have z : xs = xs.dropLast ++ [v] := by rw [← e, ← List.getLast_eq_getElem ne, List.dropLast_concat_getLast]
  rw [z]
  exact atI_last _ _
/-! ### pairs of marks that stand beside one another -/
def zpW (w : List Int) : List (List Int) := (w.zip (w.drop 1)).map fun p => [p.1, p.2]
theorem zpW_len (w : List Int) : (zpW w).length = min w.length (w.length - 1) := by unfold zpW; rw [List.length_map, List.length_zip, List.length_drop]
theorem zpW_get {w : List Int} {j : Nat} {x y : Int} (h1 : w[j]? = some x) (h2 : w[j + 1]? = some y) : (zpW w)[j]? = some [x, y] := by
  unfold zpW
  rw [List.getElem?_map, show (w.zip (w.drop 1))[j]? = some (x, y) from List.getElem?_zip_eq_some.mpr ⟨h1, by rw [List.getElem?_drop, Nat.add_comm]; exact h2⟩]; rfl
def lsW (w : List Int) : Int := w.getD (w.length - 1) 0
def fsW (w : List Int) : Int := w.getD 0 0
def wdR (rs : List (Int × List Int)) (i : Nat) : List Int := (rs.getD i (0, [])).2
def nbR (rs : List (Int × List Int)) (i : Nat) : List (List Int) := zpW (wdR rs i) ++ (if 1 < (rs.getD i (0, [])).1 then [[lsW (wdR rs i), fsW (wdR rs i)]] else []) ++ [[lsW (wdR rs i), fsW (wdR rs ((i + 1) % rs.length))]]
def nbs (rs : List (Int × List Int)) (n : Nat) : List (List Int) := (List.range n).flatMap (nbR rs)
theorem nbs_next (rs : List (Int × List Int)) (n : Nat) : nbs rs (n + 1) = nbs rs n ++ nbR rs n := by
  unfold nbs; rw [List.range_succ, List.flatMap_append, List.flatMap_cons, List.flatMap_nil, List.append_nil]
theorem nbR_len {rs : List (Int × List Int)} {i k : Nat} (h : (wdR rs i).length ≤ k) : (nbR rs i).length ≤ k + 2 := by
  unfold nbR
  rw [List.length_append, List.length_append, zpW_len]
  have : (if 1 < (rs.getD i (0, [])).1 then [[lsW (wdR rs i), fsW (wdR rs i)]] else []).length ≤ 1 := by split <;> simp
  simp only [List.length_cons, List.length_nil]; omega
theorem nbs_len {rs : List (Int × List Int)} {k : Nat} (h : ∀ r ∈ rs, r.2.length ≤ k) : ∀ n, (nbs rs n).length ≤ n * (k + 2)
  | 0 => by unfold nbs; simp
  | n + 1 => by
    rw [nbs_next, List.length_append, Nat.succ_mul]
    have := nbs_len h n
    have z : (wdR rs n).length ≤ k := by
      unfold wdR
      rw [List.getD_eq_getElem?_getD]
      cases e : rs[n]? with
      | none => exact Nat.zero_le _
      | some r => exact h r (List.mem_of_getElem? e)
    have := nbR_len z
    omega
theorem getD_of {α : Type} {l : List α} {i : Nat} {x d : α} (h : l[i]? = some x) : l.getD i d = x := by rw [List.getD_eq_getElem?_getD, h]; rfl
theorem get_D {l : List Int} {i : Nat} (h : i < l.length) : l[i]? = some (l.getD i 0) := by rw [List.getD_eq_getElem?_getD, List.getElem?_eq_getElem h]; rfl
theorem nbR_at {rs : List (Int × List Int)} {i : Nat} {r r2 : Int × List Int} (h : rs[i]? = some r) (h2 : rs[(i + 1) % rs.length]? = some r2) : nbR rs i = zpW r.2 ++ (if 1 < r.1 then [[lsW r.2, fsW r.2]] else []) ++ [[lsW r.2, fsW r2.2]] := by
  unfold nbR wdR; rw [getD_of h, getD_of h2]
/-- of a ring that may go round all of them are steps -/
theorem nbs_in {rs : List (Int × List Int)} {ps : List (List Int)} (rn : Rn rs) (c : Cyc ps (mk rs)) : ∀ p ∈ nbs rs rs.length, p ∈ ps := by
  intro p hp
  unfold nbs at hp
  obtain ⟨i, hi, hp⟩ := List.mem_flatMap.mp hp
  have hi := List.mem_range.mp hi
  have g : rs[i]? = some rs[i] := List.getElem?_eq_getElem hi
  have nx : (i + 1) % rs.length < rs.length := Nat.mod_lt _ (by omega)
  have g2 : rs[(i + 1) % rs.length]? = some rs[(i + 1) % rs.length] := List.getElem?_eq_getElem nx
  rw [nbR_at g g2] at hp
  generalize rs[i] = r at g hp
  generalize rs[(i + 1) % rs.length] = r2 at g2 hp
  have hr := rn r (List.mem_of_getElem? g)
  have hr2 := rn r2 (List.mem_of_getElem? g2)
  have hw : 0 < r.2.length := List.length_pos_iff.mpr hr.2
  have hw2 : 0 < r2.2.length := List.length_pos_iff.mpr hr2.2
  -- the pair of two places beside one another in the run
  have pos : ∀ (j : Nat) (x y : Int), (j : Int) + 1 < rl r → r.2[j % r.2.length]? = some x → r.2[(j + 1) % r.2.length]? = some y → [x, y] ∈ ps := fun j x y hj e1 e2 => by
    have z1 := mP_run rn g (q := pl (rs.take i) + (j : Int)) (i := j) (by omega) (by rw [Int.sub_self, Int.zero_emod])
    have z2 := mP_run rn g (q := pl (rs.take i) + (j : Int) + 1) (i := j + 1) (by omega) (by rw [show pl (rs.take i) + (j : Int) + 1 - (pl (rs.take i) + ((j + 1 : Nat) : Int)) = 0 by omega, Int.zero_emod])
    have := c (pl (rs.take i) + (j : Int))
    rw [e1] at z1; rw [e2] at z2
    cases z1; cases z2
    exact this
  have rle : (r.2.length : Int) ≤ rl r := by
    unfold rl
    have := Int.mul_le_mul_of_nonneg_right (show (1 : Int) ≤ r.1 from hr.1) (show (0 : Int) ≤ (r.2.length : Int) by omega)
    omega
  rcases List.mem_append.mp hp with hp | hp
  · rcases List.mem_append.mp hp with hp | hp
    · obtain ⟨q, hq, rfl⟩ := List.mem_map.mp hp
      obtain ⟨j, hj⟩ := List.getElem?_of_mem hq
      obtain ⟨h1, h2⟩ := List.getElem?_zip_eq_some.mp hj
      rw [List.getElem?_drop, Nat.add_comm] at h2
      have b := (List.getElem?_eq_some_iff.mp h2).1
      exact pos j q.1 q.2 (by omega) (by rw [Nat.mod_eq_of_lt (by omega)]; exact h1) (by rw [Nat.mod_eq_of_lt b]; exact h2)
    · split at hp
      · rename_i ht
        rw [List.mem_singleton.mp hp]
        have rle2 : 2 * (r.2.length : Int) ≤ rl r := by
          unfold rl
          have := Int.mul_le_mul_of_nonneg_right (show (2 : Int) ≤ r.1 by omega) (show (0 : Int) ≤ (r.2.length : Int) by omega)
          omega
        exact pos (r.2.length - 1) _ _ (by omega) (by rw [Nat.mod_eq_of_lt (by omega)]; exact get_D (by omega)) (by rw [Nat.sub_add_cancel hw, Nat.mod_self]; exact get_D hw)
      · exact absurd hp (List.not_mem_nil)
  · rw [List.mem_singleton.mp hp]
    obtain ⟨e, he⟩ : ∃ e : Nat, rl r = (e : Int) := ⟨(rl r).toNat, by have := rl_pos hr; omega⟩
    have hrl := rl_pos hr
    have ee : e = r.1.toNat * r.2.length := by have := rl_nat (r := r) (by have := hr.1; omega); omega
    have z1 := mP_run rn g (q := pl (rs.take i) + (((e - 1 : Nat) : Int))) (i := e - 1) (by omega) (by rw [Int.sub_self, Int.zero_emod])
    have z2 := mP_run rn g2 (q := pl (rs.take i) + (((e - 1 : Nat) : Int)) + 1) (i := 0) (rl_pos hr2) (by
      refine next_run g ?_
      rw [show pl (rs.take i) + (((e - 1 : Nat) : Int)) + 1 - (pl (rs.take i) + rl r) = 0 by omega, Int.zero_emod])
    have := c (pl (rs.take i) + (((e - 1 : Nat) : Int)))
    have lm : (e - 1) % r.2.length = r.2.length - 1 := by
      have h1 : 1 ≤ r.1.toNat := by have := hr.1; omega
      obtain ⟨k, hk⟩ : ∃ k, r.1.toNat = k + 1 := ⟨r.1.toNat - 1, by omega⟩
      have : e - 1 = (r.2.length - 1) + r.2.length * k := by rw [ee, hk, Nat.succ_mul, Nat.mul_comm]; omega
      rw [this, Nat.add_mul_mod_self_left, Nat.mod_eq_of_lt (by omega)]
    rw [lm, get_D (by omega)] at z1
    rw [Nat.zero_mod, get_D hw2] at z2
    have a1 : lsW r.2 = mP (mk rs) (pl (rs.take i) + (((e - 1 : Nat) : Int))) := Option.some.inj z1
    have a2 : fsW r2.2 = mP (mk rs) (pl (rs.take i) + (((e - 1 : Nat) : Int)) + 1) := Option.some.inj z2
    rw [a1, a2]; exact this
/-- the list at l holds the pairs ks, over the heap H -/
structure Bag (l : Addr) (H H' : Hp) (ks : List (Addr × List Int)) : Prop where
  sm : Same H H'
  li : H' l = some (.lst (ks.map fun q => V.ref q.1))
  tu : ∀ q ∈ ks, H' q.1 = some (.tup (q.2.map V.int))
theorem Bag.new {l a : Addr} {H H' : Hp} {o : HO} {ks : List (Addr × List Int)} (c : Bag l H H' ks) (h : H' a = none) : Bag l H (upd H' a o) ks :=
  ⟨c.sm.trans (same_upd h), same_upd h _ _ c.li, fun q hq => same_upd h _ _ (c.tu q hq)⟩
theorem Bag.same {l : Addr} {H H' H2 : Hp} {ks : List (Addr × List Int)} (c : Bag l H H' ks) (s : Same H' H2) : Bag l H H2 ks := ⟨c.sm.trans s, s _ _ c.li, fun q hq => s _ _ (c.tu q hq)⟩
theorem Bag.more {l : Addr} {H H' : Hp} {ks js : List (Addr × List Int)} (c : Bag l H H' ks) (hl : H l = none) (hj : ∀ q ∈ js, H' q.1 = some (.tup (q.2.map V.int))) : Bag l H (upd H' l (.lst ((ks.map fun q => V.ref q.1) ++ js.map fun q => V.ref q.1))) (ks ++ js) := by
  refine ⟨fun b o e => ?_, by rw [upd_same, List.map_append], fun q hq => ?_⟩
  · rw [upd_ne (ne_of_none e hl)]; exact c.sm b o e
  · have e : H' q.1 = some (.tup (q.2.map V.int)) := by
      rcases List.mem_append.mp hq with w | w
      · exact c.tu q w
      · exact hj q w
    rw [upd_ne (ne_of e c.li (by intro z; cases z))]; exact e
section
variable {P : Program} {w : World} {K : PySem.W.Frag} {mg : Str → Option Value} {base : Heap}
/-! ### is_run -/
theorem scIsRun : FnScope ["rule", "thing", "times", "marks"] ["rule", "thing"] (defScope sIsRun) := ⟨rfl, rfl, rfl, by decide +kernel, rfl, by decide +kernel, by decide +kernel⟩
def spIsRun (K : PySem.W.Frag) (C : Addr) : Sp := fun vs H Q _ => ∃ (r : Addr) (k : Rk) (ns : List Int) (ps : List (List Int)), vs = [.ref r, .ref k.1] ∧ RuleAt K C H r ns ps ∧ RunOk K H k ∧ 1 ≤ k.2.2.1 ∧ k.2.2.2 ≠ [] ∧ k.2.2.2.length ≤ 1000 ∧ (∀ x ∈ k.2.2.2, 0 ≤ x ∧ x < (ns.length : Int)) ∧ ∀ H', Same H H' → Q (.bl true) H'
theorem ok_isrun {f C fM fA fK fW : Addr} {fd dM dA dK dW : FuncData} (F : Fun K "is_run" "is_run" sIsRun f fd) (T : Txt K mg C) (B : Bare mg)
    (FM : Fun K "marks" "Rule.marks" sMarksM fM dM) (bM : Binds K dM ["self"] []) (mM : Meth K C "marks" fM)
    (DA : DefAt K mg "are_marks" sMarks ["thing", "many"] fA dA) (DK : DefAt K mg "is_below" sMark ["thing", "many"] fK dK) (DW : DefAt K mg "is_whole" sWhole ["thing"] fW dW) : FnOk P w K mg base CX0 4 f fd ["rule", "thing"] (spIsRun K C) := by
  have GM : FnOk P w K mg base CX0 1 fM dM ["self"] (spMarksM K C) := ok_marksM FM T B
  have GA : FnOk P w K mg base CX0 3 fA dA ["thing", "many"] (spMarks K) := ok_marks DA.fn DK DW B
  have GW : FnOk P w K mg base CX0 1 fW dW ["thing"] spWhole := ok_whole DW.fn B
  refine F.ok scIsRun (fun vs H Q E h => ?_) (fun cdv A outer s H vs Q E hr h => ?_)
  · obtain ⟨r, k, ns, ps, rfl, _⟩ := h
    rfl
  · obtain ⟨r, k, ns, ps, rfl, R, hk, t1, w1, w2, hin, q⟩ := h
    have r1 := hr.mono (show 1 ≤ 3 by decide)
    refine ⟨_, pss_cons (ps_if (PW.pt (pw_or (pt_not (pt_val (pe_callB call_isi (by rfl) B.isinstance (by decide +kernel) (pa_cons (pv 1) (pa_cons (pe_bltn (v := .ty "tuple") (by rfl) B.tuple (by decide +kernel) rfl) pa_nil)))))
        (pw_or1 (pt_cmpR op_ne (pe_callB call_len_seq (by rfl) B.len PySem.boot_len (pa_cons (pv 1) pa_nil)) pe_int (nomark _))))) (pss_one (ps_ret pe_bl)) pss_nil)
      (pss_cons (ps_asg (pv 1) (pg_tup (by rfl) (pgs_cons (pg_name (i := 2) scIsRun.nd rfl (Or.inl rfl)) (pgs_cons (pg_name (i := 3) scIsRun.nd rfl (Or.inl rfl)) pgs_nil))))
      (pss_one (ps_ret (pe_and (pe_call GW r1 (by rfl) DW.mg DW.fn.kp DW.bi .nil pass0 (pa_cons (pv 2) pa_nil)) (pe_and (pe_cmpR op_ge (pv 2) pe_int (nomark _)) (pe_one (pe_call GA hr (by rfl) DA.mg DA.fn.kp DA.bi .nil pass0 (pa_cons (pv 3) (pa_cons (pe_meth0 (pv 0) T.cl mM GM r1 bM .nil pass0) pa_nil))))))))), ?_⟩
    refine ⟨.ref k.1, rfl, .ref k.1, .ty "tuple", _, _, true, rfl, .ty "tuple", tyT hk.1, kit_ty (by decide +kernel), true, rfl, iteF ?_⟩
    refine ⟨.ref k.1, rfl, k.1, _, rfl, .inr hk.1, rfl, _, rfl, ?_⟩
    refine iteF ?_
    refine ⟨.ref k.1, rfl, k.1, _, rfl, hk.1, rfl, _, _, rfl, _, _, rfl, rfl, ?_⟩
    refine ⟨.int k.2.2.1, rfl, k.2.2.1, rfl, true, rfl, iteT ?_⟩
    refine ⟨.int k.2.2.1, rfl, _, _, rfl, rfl, _, rfl, ?_⟩
    rw [decide_eq_true (show k.2.2.1 ≥ 1 from t1)]
    obtain ⟨dx, a0, b0, t0, g1, g2, g3, g4⟩ := R.ex
    have fno := flds_no a0 b0 t0 (m := "marks") (by decide +kernel) (by decide +kernel) (by decide +kernel)
    refine iteT ⟨.ref k.2.1, rfl, .ref r, rfl, r, dx, _, rfl, g1, fno, r, ns, ps, rfl, R, ?_⟩
    exact ⟨k.2.1, k.2.2.2, _, rfl, hk.2, List.length_pos_iff.mpr w1, w2, hin, q⟩
/-! ### neighbours -/
theorem scNeighb : FnScope ["ring", "pairs", "at", "times", "marks", "coming"] ["ring"] (defScope sNeighb) := ⟨rfl, rfl, rfl, by decide +kernel, rfl, by decide +kernel, by decide +kernel⟩
def spNeighb (K : PySem.W.Frag) : Sp := fun vs H Q _ => ∃ (a : Addr) (rs : List (Int × List Int)), vs = [.ref a] ∧ RingAt K H a rs ∧ Sz rs ∧
  ∀ (H' : Hp) (l : Addr) (ks : List (Addr × List Int)), Bag l H H' ks → ks.map (·.2) = nbs rs rs.length → Q (.ref l) H'
theorem ok_neighb {f : Addr} {fd : FuncData} (F : Fun K "neighbours" "neighbours" sNeighb f fd) (B : Bare mg) : FnOk P w K mg base CX0 1 f fd ["ring"] (spNeighb K) := by
  refine F.ok scNeighb (fun vs H Q E h => ?_) (fun cdv A outer s H vs Q E hr h => ?_)
  · obtain ⟨a, rs, rfl, _⟩ := h
    rfl
  · obtain ⟨a, rs, rfl, ⟨ks, rfl, hT, hk⟩, hz, q⟩ := h
    have hf := hz.few
    rw [List.length_map] at hf
    refine ⟨_, pss_cons (ps_set (i := 1) scNeighb.nd rfl (Or.inl rfl) (pe_lst pa_nil))
      (pss_cons (ps_for PassesOwn.never rfl (pi_enT (by rfl) B.enumerate (pa_cons (pv 0) pa_nil)) (pg_tup rfl (pgs_cons (pg_name (i := 2) scNeighb.nd rfl (Or.inl rfl)) (pgs_cons (pg_tup rfl (pgs_cons (pg_name (i := 3) scNeighb.nd rfl (Or.inl rfl)) (pgs_cons (pg_name (i := 4) scNeighb.nd rfl (Or.inl rfl)) pgs_nil))) pgs_nil)))
        (pss_cons (ps_expr (pe_bm PySem.F.plainAttrs_list PySem.F.slot_list_extend PySem.F.type_list_extend mt_extend (pv 1) (pa_cons (pe_listZip rfl (by rfl) B.list (by rfl) B.zip (pa_cons (pv 4) (pa_cons (pe_slice sl_tupW (pv 4) (po_some pe_int) po_none) pa_nil))) pa_nil)))
        (pss_cons (ps_if (pt_cmpR op_gt (pv 3) pe_int (nomark _))
          (pss_one (ps_expr (pe_bm PySem.F.plainAttrs_list PySem.F.slot_list_append PySem.F.type_list_append mt_append (pv 1) (pa_cons (pe_tup (pa_cons (pe_ix ix_tup (pv 4) (pe_un un_neg pe_int) (fun _ _ => rfl)) (pa_cons (pe_ix ix_tup (pv 4) pe_int (fun _ _ => rfl)) pa_nil))) pa_nil)))) pss_nil)
        (pss_cons (ps_set (i := 5) scNeighb.nd rfl (Or.inl rfl) (pe_ix ix_tup (pe_ix ix_tup (pv 0) (pe_op op_mod (pe_op op_add (pv 2) pe_int) (pe_callB call_len_seq (by rfl) B.len PySem.boot_len (pa_cons (pv 0) pa_nil))) (fun _ _ => rfl)) pe_int (fun _ _ => rfl)))
        (pss_one (ps_expr (pe_bm PySem.F.plainAttrs_list PySem.F.slot_list_append PySem.F.type_list_append mt_append (pv 1) (pa_cons (pe_tup (pa_cons (pe_ix ix_tup (pv 4) (pe_un un_neg pe_int) (fun _ _ => rfl)) (pa_cons (pe_ix ix_tup (pv 5) pe_int (fun _ _ => rfl)) pa_nil))) pa_nil))))))))
      (pss_one (ps_ret (pv 1)))), ?_⟩
    refine ⟨Nat.zero_le _, fun l nl => ?_⟩
    have sl := same_upd (o := .lst []) nl
    refine ⟨.ref a, rfl, a, _, rfl, sqT_same sl hT, ?_⟩
    refine for_it (walk_enT (K := K) (a := a) (xs := ks.map fun k => V.ref k.1)) (fun i σ H' => ∃ (qs : List (Addr × List Int)) (y2 y3 y4 y5 : Option V), σ = [some (.ref a), some (.ref l), y2, y3, y4, y5] ∧ Bag l H H' qs ∧ qs.map (·.2) = nbs (ks.map valR) i)
      ⟨[], none, none, none, none, rfl, ⟨sl, upd_same, fun _ z => nomatch z⟩, rfl⟩ (fun i σ H' _ h => ?_) (fun i x σ H2 H3 hi h y => ?_) (fun σ H' h => ?_)
    · obtain ⟨_, _, _, _, _, _, b, _⟩ := h
      exact sqT_same b.sm hT
    · obtain ⟨qs, y2, y3, y4, y5, rfl, b, eq⟩ := h
      obtain ⟨T0, x1, x2, rfl, nT, rfl, e1, e2⟩ := y
      have e1' : x1 = .int (i : Nat) := (Option.some.inj e1).symm
      subst e1'
      obtain ⟨k, g, rfl⟩ := map_at e2
      have km := List.mem_of_getElem? g
      have hik : i < ks.length := (List.getElem?_eq_some_iff.mp g).1
      have b2 := b.new (o := .tup [.int (i : Nat), .ref k.1]) nT
      have gr : (ks.map valR)[i]? = some (valR k) := by rw [List.getElem?_map, g]; rfl
      have nx : (i + 1) % ks.length < ks.length := Nat.mod_lt _ (by omega)
      obtain ⟨k2, gk2⟩ : ∃ k2, ks[(i + 1) % ks.length]? = some k2 := ⟨_, List.getElem?_eq_getElem nx⟩
      have gr2 : (ks.map valR)[(i + 1) % (ks.map valR).length]? = some (valR k2) := by rw [List.length_map, List.getElem?_map, gk2]; rfl
      have km2 := List.mem_of_getElem? gk2
      have nbe := nbR_at gr gr2
      have w1 : 0 < k.2.2.2.length := List.length_pos_iff.mpr (hz.rn _ (List.mem_of_getElem? gr)).2
      have w2 : 0 < k2.2.2.2.length := List.length_pos_iff.mpr (hz.rn _ (List.mem_of_getElem? gr2)).2
      have wl : k.2.2.2.length ≤ 3000 := hz.wo _ (List.mem_of_getElem? gr)
      have hk3 := (hk k km).same b2.sm
      have ql : qs.length ≤ 400000 := by
        have z := congrArg List.length eq
        rw [List.length_map] at z
        have n := nbs_len hz.wo i
        have : i * 3002 ≤ 100 * 3002 := Nat.mul_le_mul_right _ (by omega)
        omega
      refine ⟨T0, _, rfl, tupNew upd_same, rfl, _, _, rfl, _, _, rfl, ⟨k.1, _, rfl, hk3.1, rfl, _, _, rfl, _, _, rfl, rfl, rfl, ?_⟩⟩
      generalize upd H2 T0 (.tup [.int (i : Nat), .ref k.1]) = H4 at b2 hk3 ⊢
      -- extend by the pairs within the word
      refine ⟨.ref l, rfl, .inl ⟨rfl, _, lstNew b2.li⟩, .ref k.2.1, rfl, .ref k.2.1, rfl, 1, rfl, k.2.1, _, rfl, hk3.2, fun p5 H5 s5 h5 => ?_⟩
      rw [show (some (1 : Int)) = some ((1 : Nat) : Int) from rfl, cut_from, ← List.map_drop] at h5
      refine ⟨k.2.1, p5, _, _, rfl, sqT_same s5 hk3.2, h5, fun H6 p6 ts s6 np6 hp6 lt6 at6 => ?_⟩
      rw [List.length_map, List.length_map, List.length_drop] at lt6
      have b6 := b2.same (s5.trans s6)
      have zl := zpW_len k.2.2.2
      have tsl : ts.length = (zpW k.2.2.2).length := by rw [zl, lt6]
      have eJ1 : (ts.zip (zpW k.2.2.2)).map (fun q => V.ref q.1) = ts.map V.ref := by
        have z : (ts.zip (zpW k.2.2.2)).map Prod.fst = ts := List.map_fst_zip (by omega)
        conv => rhs; rw [← z]
        rw [List.map_map]; rfl
      have eJ2 : (ts.zip (zpW k.2.2.2)).map (·.2) = zpW k.2.2.2 := List.map_snd_zip (by omega)
      have b7 := b6.more nl (js := ts.zip (zpW k.2.2.2)) (fun u hu => by
        obtain ⟨j, hj⟩ := List.getElem?_of_mem hu
        obtain ⟨h1, h2⟩ := List.getElem?_zip_eq_some.mp hj
        obtain ⟨x, y, ex, ey, et⟩ := at6 j _ h1
        obtain ⟨x', gx, rfl⟩ := map_at ex
        obtain ⟨y', gy, rfl⟩ := map_at ey
        rw [List.getElem?_drop, Nat.add_comm] at gy
        rw [zpW_get gx gy] at h2
        rw [← Option.some.inj h2]; exact et)
      rw [eJ1] at b7
      refine ⟨l, p6, _, _, rfl, rfl, b6.li, hp6, ?_, ?_⟩
      · rw [List.length_map, List.length_map, tsl, zl, sizeLine_eq]; omega
      have eq7 : (qs ++ ts.zip (zpW k.2.2.2)).map (·.2) = nbs (ks.map valR) i ++ zpW k.2.2.2 := by rw [List.map_append, eq, eJ2]
      have ql7 : (qs ++ ts.zip (zpW k.2.2.2)).length ≤ 404000 := by rw [List.length_append, List.length_zip]; omega
      generalize upd H6 l (.lst ((qs.map fun q => V.ref q.1) ++ ts.map V.ref)) = H7 at b7 ⊢
      generalize qs ++ ts.zip (zpW k.2.2.2) = q7 at b7 eq7 ql7
      -- round again
      have gl : (k.2.2.2.map V.int)[(k.2.2.2.map V.int).length - 1]? = some (.int (lsW k.2.2.2)) := by
        rw [List.length_map, List.getElem?_map, get_D (by omega)]; rfl
      have g0 : (k.2.2.2.map V.int)[0]? = some (.int (fsW k.2.2.2)) := by rw [List.getElem?_map, get_D w1]; rfl
      have g02 : (k2.2.2.2.map V.int)[0]? = some (.int (fsW k2.2.2.2)) := by rw [List.getElem?_map, get_D w2]; rfl
      dsimp only
      refine seq_mid (fun σ H' => ∃ q8 : List (Addr × List Int), σ = [some (.ref a), some (.ref l), some (.int (i : Nat)), some (.int k.2.2.1), some (.ref k.2.1), y5] ∧ Bag l H H' q8 ∧ q8.length ≤ 404001 ∧ q8.map (·.2) = nbs (ks.map valR) i ++ zpW k.2.2.2 ++ (if 1 < k.2.2.1 then [[lsW k.2.2.2, fsW k.2.2.2]] else [])) ?_ fun tail => ?_
      · rintro σ H8 ⟨q8, rfl, b8, l8, e8⟩
        have hT8 := sqT_same b8.sm hT
        refine ⟨.ref a, rfl, .int (i : Nat), rfl, _, _, rfl, rfl, .ref a, rfl, a, _, rfl, .inr hT8, _, _, rfl, rfl, by rw [List.length_map]; omega, ?_⟩
        refine ⟨a, _, _, .ref k2.1, rfl, rfl, hT8, ?_, ?_⟩
        · rw [List.length_map, show ((i : Int) + 1) % (ks.length : Int) = (((i + 1) % ks.length : Nat) : Int) by rw [Int.natCast_emod, Int.natCast_add]; rfl]
          exact atI_nat (by rw [List.getElem?_map, gk2]; rfl)
        refine ⟨k2.1, _, 1, .ref k2.2.1, rfl, rfl, ((hk k2 km2).same b8.sm).1, rfl, ?_⟩
        refine ⟨.ref l, rfl, .inl ⟨rfl, _, lstNew b8.li⟩, .ref k.2.1, rfl, 1, rfl, k.2.1, _, _, .int (lsW k.2.2.2), rfl, rfl, sqT_same b8.sm (hk k km).2, atI_m1 gl, ?_⟩
        refine ⟨.ref k2.2.1, rfl, k2.2.1, _, 0, .int (fsW k2.2.2.2), rfl, rfl, sqT_same b8.sm (hk k2 km2).2, atI_nat (j := 0) g02, (by show 2 ≤ sizeLine; decide), fun T9 nT9 => ?_⟩
        have b9 := b8.new (o := .tup [.int (lsW k.2.2.2), .int (fsW k2.2.2.2)]) nT9
        have b10 := b9.more nl (js := [(T9, [lsW k.2.2.2, fsW k2.2.2.2])]) (fun u hu => by rw [List.mem_singleton.mp hu]; exact upd_same)
        refine ⟨l, _, _, rfl, rfl, b9.li, ?_, ?_⟩
        · rw [List.length_map, sizeLine_eq]; omega
        refine ⟨_, _, _, _, _, rfl, b10, ?_⟩
        rw [List.map_append, e8, nbs_next, nbe, List.append_assoc, List.append_assoc, List.append_assoc]
        rfl
      · refine ⟨.int k.2.2.1, rfl, _, _, rfl, rfl, _, rfl, ite2 (fun h1 => ?_) (fun h1 => ?_)⟩
        · have h1 : 1 < k.2.2.1 := of_decide_eq_true h1
          refine ⟨.ref l, rfl, .inl ⟨rfl, _, lstNew b7.li⟩, .ref k.2.1, rfl, 1, rfl, k.2.1, _, _, .int (lsW k.2.2.2), rfl, rfl, sqT_same b7.sm (hk k km).2, atI_m1 gl, ?_⟩
          refine ⟨.ref k.2.1, rfl, k.2.1, _, 0, .int (fsW k.2.2.2), rfl, rfl, sqT_same b7.sm (hk k km).2, atI_nat (j := 0) g0, (by show 2 ≤ sizeLine; decide), fun T9 nT9 => ?_⟩
          have b9 := b7.new (o := .tup [.int (lsW k.2.2.2), .int (fsW k.2.2.2)]) nT9
          have b10 := b9.more nl (js := [(T9, [lsW k.2.2.2, fsW k.2.2.2])]) (fun u hu => by rw [List.mem_singleton.mp hu]; exact upd_same)
          refine ⟨l, _, _, rfl, rfl, b9.li, ?_, ?_⟩
          · rw [List.length_map, sizeLine_eq]; omega
          refine tail _ _ ⟨_, rfl, b10, ?_, ?_⟩
          · rw [List.length_append]; simp only [List.length_cons, List.length_nil]; omega
          · rw [List.map_append, eq7, if_pos h1]; rfl
        · have h1 : ¬ 1 < k.2.2.1 := fun z => h1 (decide_eq_true z)
          exact tail _ _ ⟨_, rfl, b7, by omega, by rw [eq7, if_neg h1, List.append_nil]⟩
    · obtain ⟨qs, y2, y3, y4, y5, rfl, b, eq⟩ := h
      rw [List.length_map] at eq
      exact ⟨.ref l, rfl, q H' l qs b (by rw [eq, List.length_map])⟩
/-! ### is_ring -/
theorem scIsRing : FnScope ["rule", "thing", "run", "a", "b"] ["rule", "thing"] (defScope sIsRing) := ⟨rfl, rfl, rfl, by decide +kernel, rfl, by decide +kernel, by decide +kernel⟩
/-- a ring of small words whose marks are the rule's -/
structure Rg (ns : List Int) (rs : List (Int × List Int)) : Prop where
  sz : Sz rs
  wo : ∀ r ∈ rs, r.2.length ≤ 1000
  inn : ∀ r ∈ rs, ∀ x ∈ r.2, 0 ≤ x ∧ x < (ns.length : Int)
def spIsRing (K : PySem.W.Frag) (C : Addr) : Sp := fun vs H Q _ => ∃ (r a : Addr) (rs : List (Int × List Int)) (ns : List Int) (ps : List (List Int)), vs = [.ref r, .ref a] ∧ RuleAt K C H r ns ps ∧ Mir ns ∧ Stp ns ps ∧ RingAt K H a rs ∧ Rg ns rs ∧
  ∀ H', Same H H' → Q (.bl ((nbs rs rs.length).all fun p => decide (p ∈ ps))) H'
theorem nbs_marks {ns : List Int} {rs : List (Int × List Int)} (g : Rg ns rs) : ∀ p ∈ nbs rs rs.length, Pr (ns.length : Int) p := by
  intro p hp
  unfold nbs at hp
  obtain ⟨i, hi, hp⟩ := List.mem_flatMap.mp hp
  have hi := List.mem_range.mp hi
  have gi : rs[i]? = some rs[i] := List.getElem?_eq_getElem hi
  have nx : (i + 1) % rs.length < rs.length := Nat.mod_lt _ (by omega)
  have g2 : rs[(i + 1) % rs.length]? = some rs[(i + 1) % rs.length] := List.getElem?_eq_getElem nx
  rw [nbR_at gi g2] at hp
  generalize rs[i] = r at gi hp
  generalize rs[(i + 1) % rs.length] = r2 at g2 hp
  have m1 := g.inn r (List.mem_of_getElem? gi)
  have m2 := g.inn r2 (List.mem_of_getElem? g2)
  have w1 : 0 < r.2.length := List.length_pos_iff.mpr (g.sz.rn r (List.mem_of_getElem? gi)).2
  have w2 : 0 < r2.2.length := List.length_pos_iff.mpr (g.sz.rn r2 (List.mem_of_getElem? g2)).2
  have ml : lsW r.2 ∈ r.2 := List.mem_of_getElem? (get_D (show r.2.length - 1 < r.2.length by omega))
  have mf : fsW r.2 ∈ r.2 := List.mem_of_getElem? (get_D w1)
  have mf2 : fsW r2.2 ∈ r2.2 := List.mem_of_getElem? (get_D w2)
  rcases List.mem_append.mp hp with hp | hp
  · rcases List.mem_append.mp hp with hp | hp
    · obtain ⟨q, hq, rfl⟩ := List.mem_map.mp hp
      obtain ⟨h1, h2⟩ := List.of_mem_zip hq
      exact ⟨q.1, q.2, rfl, m1 _ h1, m1 _ (List.mem_of_mem_drop h2)⟩
    · split at hp
      · rw [List.mem_singleton.mp hp]; exact ⟨_, _, rfl, m1 _ ml, m1 _ mf⟩
      · exact absurd hp (List.not_mem_nil)
  · rw [List.mem_singleton.mp hp]; exact ⟨_, _, rfl, m1 _ ml, m2 _ mf2⟩
theorem ok_isring {f C fM fB fR fN fA fK fW : Addr} {fd dM dB dR dN dA dK dW : FuncData} (F : Fun K "is_ring" "is_ring" sIsRing f fd) (T : Txt K mg C) (B : Bare mg)
    (FM : Fun K "marks" "Rule.marks" sMarksM fM dM) (bM : Binds K dM ["self"] []) (mM : Meth K C "marks" fM) (FB : Fun K "behind" "Rule.behind" sBehindM fB dB) (bB : Binds K dB ["self", "mark"] []) (mB : Meth K C "behind" fB)
    (DR : DefAt K mg "is_run" sIsRun ["rule", "thing"] fR dR) (DN : DefAt K mg "neighbours" sNeighb ["ring"] fN dN)
    (DA : DefAt K mg "are_marks" sMarks ["thing", "many"] fA dA) (DK : DefAt K mg "is_below" sMark ["thing", "many"] fK dK) (DW : DefAt K mg "is_whole" sWhole ["thing"] fW dW) : FnOk P w K mg base CX0 5 f fd ["rule", "thing"] (spIsRing K C) := by
  have GR : FnOk P w K mg base CX0 4 fR dR ["rule", "thing"] (spIsRun K C) := ok_isrun DR.fn T B FM bM mM DA DK DW
  have GN : FnOk P w K mg base CX0 1 fN dN ["ring"] (spNeighb K) := ok_neighb DN.fn B
  have GB : FnOk P w K mg base CX0 1 fB dB ["self", "mark"] (spBehindM K C) := ok_behindM FB T
  refine F.ok scIsRing (fun vs H Q E h => ?_) (fun cdv A outer s H vs Q E hr h => ?_)
  · obtain ⟨r, a, rs, ns, ps, rfl, _⟩ := h
    rfl
  · obtain ⟨r, a, rs, ns, ps, rfl, R, M, S, hR, g, q⟩ := h
    have r1 := hr.mono (show 1 ≤ 4 by decide)
    have hu5 := un65 hr
    have nbp := nbs_marks g
    have nbl := nbs_len g.sz.wo rs.length
    obtain ⟨ks, rfl, hT, hk⟩ := hR
    have hf := g.sz.few
    rw [List.length_map] at hf
    have lne : 0 < ks.length := by
      have := List.length_pos_iff.mpr g.sz.ne
      rwa [List.length_map] at this
    have nbl2 : (nbs (ks.map valR) (ks.map valR).length).length ≤ 400000 := by
      rw [List.length_map] at nbl ⊢
      have : ks.length * 3002 ≤ 100 * 3002 := Nat.mul_le_mul_right _ hf
      omega
    obtain ⟨dx, a0, b0, t0, g1, g2, g3, g4⟩ := R.ex
    have fno := flds_no a0 b0 t0 (m := "behind") (by decide +kernel) (by decide +kernel) (by decide +kernel)
    refine ⟨_, pss_cons (ps_if (PW.pt (pw_or (pt_not (pt_val (pe_callB call_isi (by rfl) B.isinstance (by decide +kernel) (pa_cons (pv 1) (pa_cons (pe_bltn (v := .ty "tuple") (by rfl) B.tuple (by decide +kernel) rfl) pa_nil)))))
        (pw_or1 (pt_cmpR op_eq (pe_callB call_len_seq (by rfl) B.len PySem.boot_len (pa_cons (pv 1) pa_nil)) pe_int (nomark _))))) (pss_one (ps_ret pe_bl)) pss_nil)
      (pss_cons (ps_if (pt_not (pt_val (pe_callB (cr_all rfl) (by rfl) B.all (by decide +kernel) (pa_cons
          (pe_lc (own := [("run", 2)]) (g := gName 2) (tt := tYes) rfl scIsRing.nd (pi_tup (pv 1)) (blkOk_by (N := ["rule", "thing", "run", "a", "b"]) (sc := defScope sIsRing) (by decide +kernel))
            (fun _ _ _ _ _ => pg_name (i := 2) scIsRing.nd rfl (Or.inl rfl)) (fun _ _ _ _ _ => pts_nil) (fun _ _ _ _ _ => pe_call GR hr (by rfl) DR.mg DR.fn.kp DR.bi .nil pass0 (pa_cons (pv 0) (pa_cons (pv 2) pa_nil)))) pa_nil)))) (pss_one (ps_ret pe_bl)) pss_nil)
      (pss_one (ps_ret (pe_callB (cr_all rfl) (by rfl) B.all (by decide +kernel) (pa_cons
          (pe_lc (own := [("a", 3), ("b", 4)]) (g := gTup K 2 (gCons (gName 3) (gCons (gName 4) gNil))) (tt := tYes) rfl scIsRing.nd (pi_list (pe_call GN r1 (by rfl) DN.mg DN.fn.kp DN.bi .nil pass0 (pa_cons (pv 1) pa_nil))) (blkOk_by (N := ["rule", "thing", "run", "a", "b"]) (sc := defScope sIsRing) (by decide +kernel))
            (fun _ _ _ _ _ => pg_tupK rfl rfl (pgs_cons (pg_name (i := 3) scIsRing.nd rfl (Or.inl rfl)) (pgs_cons (pg_name (i := 4) scIsRing.nd rfl (Or.inl rfl)) pgs_nil))) (fun _ _ _ _ _ => pts_nil)
            (fun _ _ _ _ _ => pe_cmpR (op_inTIK (K := K) rfl hu5) (pv 4) (pe_meth (pv 0) T.cl mB GB r1 bB .nil pass0 (pa_cons (pv 3) pa_nil)) (by rfl))) pa_nil))))), ?_⟩
    refine ⟨.ref a, rfl, .ref a, .ty "tuple", _, _, true, rfl, .ty "tuple", tyT hT, kit_ty (by decide +kernel), true, rfl, iteF ?_⟩
    refine ⟨.ref a, rfl, a, _, rfl, .inr hT, rfl, _, rfl, ?_⟩
    rw [decV, List.length_map, decide_eq_false (show ¬ ((ks.length : Int) = 0) by omega)]
    refine iteF ?_
    refine ⟨.ref a, rfl, a, rfl, ⟨_, hT⟩, fun D nD => ?_⟩
    refine lc_tup (K := K) (a := a) (xs := ks.map fun k => V.ref k.1) (fun i H' => Same H H' ∧ H' D = some (.lst (List.replicate i (V.bl true)))) ⟨same_upd nD, upd_same⟩ (fun i H' _ p => sqT_same p.1 hT) (fun i x H' hx p => ?_) fun H1 p => ?_
    · obtain ⟨k, gk, rfl⟩ := map_at hx
      have km := List.mem_of_getElem? gk
      have il := (List.getElem?_eq_some_iff.mp gk).1
      have kr := List.mem_map_of_mem (f := valR) km
      refine ⟨rfl, tt_yes ⟨.ref r, rfl, .ref k.1, rfl, r, k, ns, ps, rfl, R.same p.1, (hk k km).same p.1, (g.sz.rn _ kr).1, (g.sz.rn _ kr).2, g.wo _ kr, g.inn _ kr, fun H2 s2 => ⟨_, s2 _ _ p.2, ?_, fun b o e => ?_, ?_⟩⟩⟩
      · rw [List.length_replicate]; exact few1 (by omega)
      · rw [upd_ne (ne_of_none e nD)]; exact s2 _ _ (p.1 b o e)
      · rw [upd_same, rep_next]
    · rw [rep_bl] at p
      refine ⟨D, _, rfl, lstNew p.2, true, by rw [all_true], iteF ?_⟩
      have s1 := p.1
      refine ⟨.ref a, rfl, a, _, rfl, ⟨ks, rfl, sqT_same s1 hT, fun k hx => (hk k hx).same s1⟩, g.sz, fun H2 l qs b2 eq => ?_⟩
      have s02 := s1.trans b2.sm
      refine ⟨l, rfl, ⟨_, lstNew b2.li⟩, fun D2 nD2 => ?_⟩
      refine lc_list (K := K) (a := l) (xs := qs.map fun k => V.ref k.1) (fun i H' => Same H2 H' ∧ H' D2 = some (.lst (((qs.take i).map fun k => decide (k.2 ∈ ps)).map V.bl))) ⟨same_upd nD2, upd_same⟩ (fun i H' _ p => lstNew (p.1 _ _ b2.li)) (fun i x H' hx p => ?_) fun H3 p => ?_
      · obtain ⟨k, gk, rfl⟩ := map_at hx
        have km := List.mem_of_getElem? gk
        obtain ⟨x, y, e, hx, hy⟩ := nbp k.2 (by rw [← eq]; exact List.mem_map_of_mem km)
        have tk := p.1 _ _ (b2.tu k km)
        rw [e] at tk
        have ql : qs.length ≤ 400000 := by
          have := congrArg List.length eq
          rw [List.length_map] at this; omega
        refine ⟨k.1, _, rfl, tupNew tk, rfl, _, _, rfl, _, _, rfl, rfl, rfl, tt_yes ⟨.int y, rfl, .ref r, rfl, r, dx, _, rfl, (s02.trans p.1) _ _ g1, fno, .int x, rfl, r, ns, ps, x.toNat, by rw [Int.toNat_of_nonneg hx.1]; rfl, R.same (s02.trans p.1), by omega, fun c hc => ?_⟩⟩
        rw [Int.toNat_of_nonneg hx.1] at hc
        refine ⟨c, y, _, rfl, rfl, hc, _, p.2, ?_, fun b o z => ?_, ?_⟩
        · rw [List.length_map, List.length_map, List.length_take, sizeLine_eq]; omega
        · rw [upd_ne (ne_of_none z nD2)]; exact p.1 b o z
        · have em : decide (y ∈ behindOf ps x) = decide (k.2 ∈ ps) := by
            rw [e]; exact decide_eq_decide.mpr (mem_behind (fun p hp => S.pair p hp))
          rw [upd_same, List.take_add_one, gk, List.map_append, List.map_append, em]; rfl
      · rw [List.length_map, List.take_of_length_le (Nat.le_refl _)] at p
        refine ⟨D2, _, rfl, lstNew p.2, ?_⟩
        have e2 : (qs.map fun k => decide (k.2 ∈ ps)).all id = (nbs (ks.map valR) (ks.map valR).length).all fun p => decide (p ∈ ps) := by
          rw [← eq, List.all_map, List.all_map]; rfl
        rw [e2]
        exact q H3 (s02.trans p.1)
end
end K4
namespace RV
theorem mk_filter : ∀ {rs : List (Int × List Int)}, (∀ r ∈ rs, 0 ≤ r.1) → mk (rs.filter fun r => decide (rl r > 0)) = mk rs
  | [], _ => rfl
  | r :: rs, h => by
    have ih := mk_filter (rs := rs) fun q hq => h q (List.mem_cons_of_mem _ hq)
    rw [List.filter_cons]
    by_cases z : rl r > 0
    · rw [if_pos (decide_eq_true z)]
      show rp r.1.toNat r.2 ++ mk _ = rp r.1.toNat r.2 ++ mk rs
      rw [ih]
    · rw [if_neg (by rw [decide_eq_true_eq]; exact z), ih]
      have e : rp r.1.toNat r.2 = [] := List.eq_nil_of_length_eq_zero (by
        rw [rp_len]
        have := rl_nat (r := r) (h r (List.mem_cons_self ..))
        omega)
      show mk rs = rp r.1.toNat r.2 ++ mk rs
      rw [e, List.nil_append]
/-- what a turned ring is -/
structure Trn (rs : List (Int × List Int)) (by_ : Int) (qs : List (Int × List Int)) : Prop where
  rn : Rn qs
  ne : qs ≠ []
  len : qs.length ≤ rs.length + 3
  wo : ∀ r ∈ qs, ∃ r0 ∈ rs, r.2.length ≤ r0.2.length ∧ ∀ x ∈ r.2, x ∈ r0.2
  rot : ∃ A B, mk rs = A ++ B ∧ mk qs = B ++ A ∧ (A.length : Int) = by_ % pl rs
def turnL (rs : List (Int × List Int)) (a : Nat) (r : Int × List Int) (rounds rest : Nat) : List (Int × List Int) :=
  [(1, r.2.drop rest), (r.1 - (rounds : Int) - 1, r.2)] ++ rs.drop (a + 1) ++ rs.take a ++ [((rounds : Int), r.2), (1, r.2.take rest)]
theorem turn_trn {rs : List (Int × List Int)} (rn : Rn rs) {a : Nat} {r : Int × List Int} (h : rs[a]? = some r) {by_ x : Int} {rounds rest : Nat} (x0 : 0 ≤ x) (x1 : x < rl r) (e : by_ % pl rs = pl (rs.take a) + x) (e1 : (rounds : Int) = x / (r.2.length : Int)) (e2 : (rest : Int) = x % (r.2.length : Int)) :
    Trn rs by_ ((turnL rs a r rounds rest).filter fun r => decide (rl r > 0)) := by
  have hr := rn r (List.mem_of_getElem? h)
  have hw : 0 < r.2.length := List.length_pos_iff.mpr hr.2
  have al := (List.getElem?_eq_some_iff.mp h).1
  have dm := Int.mul_ediv_add_emod x (r.2.length : Int)
  rw [← e1, ← e2] at dm
  have m1 := Int.emod_lt_of_pos x (show (0 : Int) < (r.2.length : Int) by omega)
  rw [← e2] at m1
  have rt : (rounds : Int) < r.1 := by
    rcases Int.lt_or_le (rounds : Int) r.1 with z | z
    · exact z
    · have : r.1 * (r.2.length : Int) ≤ (rounds : Int) * (r.2.length : Int) := Int.mul_le_mul_of_nonneg_right z (by omega)
      have e3 : (r.2.length : Int) * (rounds : Int) = (rounds : Int) * (r.2.length : Int) := Int.mul_comm _ _
      unfold rl at x1
      omega
  have nn : ∀ q ∈ turnL rs a r rounds rest, 0 ≤ q.1 := fun q hq => by
    unfold turnL at hq
    simp only [List.mem_append, List.mem_cons, List.not_mem_nil, or_false] at hq
    rcases hq with (((rfl | rfl) | z) | z) | (rfl | rfl)
    · show (0 : Int) ≤ 1; decide
    · show 0 ≤ r.1 - (rounds : Int) - 1; omega
    · exact rn.nn q (List.mem_of_mem_drop z)
    · exact rn.nn q (List.mem_of_mem_take z)
    · show 0 ≤ (rounds : Int); omega
    · show (0 : Int) ≤ 1; decide
  have em : mk ((turnL rs a r rounds rest).filter fun r => decide (rl r > 0)) = (r.2.drop rest ++ rp (r.1 - (rounds : Int) - 1).toNat r.2 ++ mk (rs.drop (a + 1))) ++ (mk (rs.take a) ++ rp rounds r.2 ++ r.2.take rest) := by
    rw [mk_filter nn]
    unfold turnL
    rw [mk_app, mk_app, mk_app]
    show rp (Int.toNat 1) (r.2.drop rest) ++ (rp (r.1 - (rounds : Int) - 1).toNat r.2 ++ []) ++ mk (rs.drop (a + 1)) ++ mk (rs.take a) ++ (rp ((rounds : Int)).toNat r.2 ++ (rp (Int.toNat 1) (r.2.take rest) ++ [])) = _
    rw [show Int.toNat 1 = 1 from rfl, rp_one, rp_one, Int.toNat_natCast, List.append_nil, List.append_nil]
    simp only [List.append_assoc]
  have eo : mk rs = (mk (rs.take a) ++ rp rounds r.2 ++ r.2.take rest) ++ (r.2.drop rest ++ rp (r.1 - (rounds : Int) - 1).toNat r.2 ++ mk (rs.drop (a + 1))) := by
    conv => lhs; rw [split_at h]
    rw [mk_app]
    show mk (rs.take a) ++ (rp r.1.toNat r.2 ++ mk (rs.drop (a + 1))) = _
    rw [show r.1.toNat = rounds + (1 + (r.1 - (rounds : Int) - 1).toNat) by omega, rp_add, rp_add, rp_one]
    simp only [List.append_assoc]
    rw [← List.append_assoc (r.2.take rest), List.take_append_drop]
  have la : (((mk (rs.take a) ++ rp rounds r.2 ++ r.2.take rest).length : Nat) : Int) = by_ % pl rs := by
    have l1 := mk_len (rs := rs.take a) fun q hq => rn.nn q (List.mem_of_mem_take hq)
    rw [List.length_append, List.length_append, rp_len, List.length_take, Nat.min_eq_left (by omega), Int.natCast_add, Int.natCast_add, l1, e, Int.natCast_mul, Int.mul_comm]
    omega
  have np := rn.pos (fun z => by rw [z] at h; cases h)
  refine ⟨fun q hq => ?_, fun z => ?_, ?_, fun q hq => ?_, _, _, eo, em, la⟩
  · obtain ⟨h1, h2⟩ := List.mem_filter.mp hq
    have h2 : 0 < rl q := of_decide_eq_true h2
    have q0 := nn q h1
    refine ⟨?_, fun z => ?_⟩
    · rcases Int.lt_or_le 0 q.1 with z | z
      · omega
      · have : q.1 = 0 := by omega
        unfold rl at h2
        rw [this, Int.zero_mul] at h2; omega
    · unfold rl at h2
      rw [z] at h2
      simp at h2
  · have l := mk_len rn.nn
    rw [z] at em
    have := congrArg List.length em
    have l2 := congrArg List.length eo
    simp only [List.length_append] at this l2
    have : (mk ([] : List (Int × List Int))).length = 0 := rfl
    omega
  · refine Nat.le_trans (List.length_filter_le _ _) ?_
    unfold turnL
    simp only [List.length_append, List.length_cons, List.length_nil, List.length_drop, List.length_take]
    omega
  · have h1 := (List.mem_filter.mp hq).1
    have rm := List.mem_of_getElem? h
    unfold turnL at h1
    simp only [List.mem_append, List.mem_cons, List.not_mem_nil, or_false] at h1
    rcases h1 with (((rfl | rfl) | z) | z) | (rfl | rfl)
    · exact ⟨r, rm, by rw [List.length_drop]; omega, fun x hx => List.mem_of_mem_drop hx⟩
    · exact ⟨r, rm, Nat.le_refl _, fun x hx => hx⟩
    · exact ⟨q, List.mem_of_mem_drop z, Nat.le_refl _, fun x hx => hx⟩
    · exact ⟨q, List.mem_of_mem_take z, Nat.le_refl _, fun x hx => hx⟩
    · exact ⟨r, rm, Nat.le_refl _, fun x hx => hx⟩
    · exact ⟨r, rm, by rw [List.length_take]; omega, fun x hx => List.mem_of_mem_take hx⟩
/-- the ring read from the other side -/
def mirL (f : Int → Int) (rs : List (Int × List Int)) : List (Int × List Int) := rs.reverse.map fun r => (r.1, r.2.reverse.map f)
theorem mk_mir (f : Int → Int) : ∀ rs : List (Int × List Int), mk (mirL f rs) = (mk rs).reverse.map f
  | [] => rfl
  | r :: rs => by
    have ih := mk_mir f rs
    unfold mirL at ih ⊢
    rw [List.reverse_cons, List.map_append, mk_app, ih]
    show _ ++ (rp r.1.toNat (r.2.reverse.map f) ++ []) = ((rp r.1.toNat r.2 ++ mk rs).reverse).map f
    rw [List.append_nil, List.reverse_append, List.map_append, rp_rev, rp_map]
theorem trn_mP {rs qs : List (Int × List Int)} {b : Int} (t : Trn rs b qs) (rn : Rn rs) (p : Int) : mP (mk qs) p = mP (mk rs) (p + b) := by
  obtain ⟨A, B, h1, h2, h3⟩ := t.rot
  have l := mk_len rn.nn
  have ne : A ++ B ≠ [] := fun z => t.ne (by
    cases e : qs with
    | nil => rfl
    | cons q qs' =>
      have z2 := mk_len t.rn.nn
      have z3 := t.rn.pos t.ne
      rw [h2] at z2
      rw [List.append_eq_nil_iff] at z
      rw [z.1, z.2] at z2
      simp at z2; omega)
  rw [h2, mP_rot ne, ← h1]
  apply mP_mod
  rw [h3, l, show p + b % pl rs - (p + b) = -(b - b % pl rs) by omega]
  refine Int.emod_eq_zero_of_dvd (Int.dvd_neg.mpr (Int.dvd_of_emod_eq_zero ?_))
  rw [Int.sub_emod, Int.emod_emod_of_dvd b (Int.dvd_refl _), Int.sub_self, Int.zero_emod]
theorem trn_pl {rs qs : List (Int × List Int)} {b : Int} (t : Trn rs b qs) (rn : Rn rs) : pl qs = pl rs := by
  obtain ⟨A, B, h1, h2, h3⟩ := t.rot
  rw [← mk_len rn.nn, ← mk_len t.rn.nn, h1, h2, List.length_append, List.length_append]; omega
theorem mk_ne {rs : List (Int × List Int)} (rn : Rn rs) (ne : rs ≠ []) : mk rs ≠ [] := fun z => by
  have := mk_len rn.nn
  have := rn.pos ne
  rw [z] at *; simp at *; omega
theorem trn_cyc {rs qs : List (Int × List Int)} {b : Int} (t : Trn rs b qs) (rn : Rn rs) (ne : rs ≠ []) {ps : List (List Int)} (c : Cyc ps (mk rs)) : Cyc ps (mk qs) := by
  obtain ⟨A, B, h1, h2, h3⟩ := t.rot
  rw [h2]
  rw [h1] at c
  exact c.rot (by rw [← h1]; exact mk_ne rn ne)
end RV
set_option maxHeartbeats 4000000
/-! {elt for a in x for b in y}: ints, two clauses, no tests -/
namespace RV
open PySem PySem.Spec PyProof.Rows L2
/-- two clauses, no tests -/
abbrev sc2 (el ta ia tb ib : Expr) (sco : Scope) (p : Pos) : Expr := .SetComp el [⟨ta, ia, [], 0⟩, ⟨tb, ib, [], 0⟩] sco p
/-- the code of a comprehension's turn: store what comes, then body -/
def turnOf (p : Pos) (tg : Expr) (it : Value) (env : Env) (rest : Sem Fin) : Sem Fin := standAt p >>= fun _ => pyNext it >>= fun r => match r with
  | none => pure (.done .next)
  | some v => letOwnedTupleGo tg it v >>= fun _ => assign tg env v >>= fun _ => rest
/-- a loop of a comprehension's block whose turns are of that form -/
theorem walk {Y : Cx} {el ta ia t1 ib tg : Expr} {sco : Scope} {pp : Pos} {d : Nat} {it : Addr} {acc : Value} {p : Pos} {rest : Sem Fin} {fp : List Addr} {tn : Nat → Heap → Prop} {J : It} {pins : List (Addr × Obj)} {σ0 : L2.St} {H0 : Hp} {s0 : Shared} {g : TG} {tb : L2.St → Hp → (Hp → Prop) → Prop} {R : Result → Shared → Prop}
    (hc : Y.calm = true) (T : Turn Y.prog Y.w Y.K tg J fp it tn) (form : compTurn (sc2 el ta ia t1 ib sco pp) d (.ref it) acc Y.env = turnOf p tg (.ref it) Y.env rest)
    (fpok : ∀ {H s}, Inv Y pins σ0 H s → (∀ b ∈ fp, H b = none) → ∀ b ∈ fp, FpOk Y pins H b) (pg : PG Y tg g) (noerr : ∀ e s, Y.xe e s → False)
    (hb : ∀ (pins' : List (Addr × Obj)) (σ2 : L2.St) (H2 : Hp) (s2 : Shared) (Nx : Hp → Prop), Inv Y pins' σ2 H2 s2 → tb σ2 H2 Nx → wpAny (model Y.prog Y.w) Y.A rest (fun fin s3 => fin = .again (.compLoop (sc2 el ta ia t1 ib sco pp) d (.ref it) acc Y.env) ∧ ∃ H3, Inv Y pins' σ0 H3 s3 ∧ Nx H3) (fun _ _ => False) s2)
    (W : Nat → Nat → Hp → Prop) {m0 : Nat} (I0 : Inv Y pins σ0 H0 s0) (t0 : tn 0 s0.heap) (n0 : ∀ b ∈ fp, H0 b = none) (w0 : W 0 m0 H0)
    (turn : ∀ i m H, W i m H → (J.stop i H ∧ ∀ s, Inv Y pins σ0 H s → R (.ok .next) s) ∨ (J.go i H ∧ ∃ Nx : Hp → Prop, (∀ H', Nx H' → ∃ m', m' < m ∧ W (i + 1) m' H') ∧ ∀ x H', J.yld i H x H' → g x σ0 H' fun σ2 H2 => tb σ2 H2 Nx)) :
    codeAny (model Y.prog Y.w) Y.A (.compLoop (sc2 el ta ia t1 ib sco pp) d (.ref it) acc Y.env) R s0 := by
  refine codeAny_loop rfl (fun n s => ∃ i H, Inv Y pins σ0 H s ∧ tn i s.heap ∧ (∀ b ∈ fp, H b = none) ∧ W i n H) (fun n s h => ?_) m0 ⟨0, H0, I0, t0, n0, w0⟩
  obtain ⟨i, H, I, st, nf, hw⟩ := h
  show wpAny (model Y.prog Y.w) Y.A ((compTurn (sc2 el ta ia t1 ib sco pp) d (.ref it) acc Y.env).onRaise fun x => do noteFrame x Y.env; theTreesLotGoes x) _ _ s
  refine wpAny_noted ?_
  rw [form]
  refine wpAny_bind (wpAny_standAt (wpAny_bind ?_))
  rcases turn i n H hw with ⟨stop, fin⟩ | ⟨go, Nx, hNx, step⟩
  · refine thnF (T.done Y rfl rfl rfl hc i pins s σ0 H (fun _ _ => False) I (fpok I nf) st stop) fun r s1 ⟨hr, I1⟩ => ?_
    subst hr
    exact wpAny_pure (fin s1 I1)
  · refine thnF (T.item Y rfl rfl rfl hc i pins s σ0 H (fun _ _ => False) I (fpok I nf) st go) fun r s1 ⟨u, hr, h1⟩ => ?_
    subst hr
    refine wpAny_bind (thnF h1 fun _ s2 ⟨x, H2, I2, rx, yx, st2, nf2⟩ => ?_)
    have J2 := I2.pinned (fpok I2 nf2) (T.obj _ _ st2)
    refine wpAny_bind (wpAny_mono (pg.run _ s2 σ0 H2 x u _ J2 rx (step x H2 yx)) (fun _ s3 h3 => ?_) fun e s' z => (noerr e s' z).elim)
    obtain ⟨σ3, H3, I3, b3⟩ := h3
    refine thnF (hb _ σ3 H3 s3 Nx I3 b3) fun fin s4 ⟨ef, H4, I4, nx⟩ => ?_
    subst ef
    refine ⟨rfl, ?_⟩
    obtain ⟨m', lt, w'⟩ := hNx H4 nx
    have held : ∀ b ∈ fp, ∀ o, s2.heap.get? b = some o → s4.heap.get? b = some o ∧ H4 b = none := fun b hb' o e => by
      have z := I4.pin (b, o) (List.mem_append_right _ (List.mem_append_right _ (mem_pinsAt hb' e)))
      exact ⟨z.1, z.2.1⟩
    refine ⟨m', lt, i + 1, H4, I4.unpinned, T.keep _ _ _ st2 fun b hb' o e => (held b hb' o e).1, fun b hb' => ?_, w'⟩
    obtain ⟨o, e, _⟩ := T.obj _ _ st2 b hb'
    exact (held b hb' o e).2
/-- a clause's start goes to its loop -/
theorem start_of {P : Program} {w : World} {A : Around} {env : Env} {R : Result → Shared → Prop} {s : Shared} {el ta ia t1 ib : Expr} {sco : Scope} {pp : Pos} {d : Nat} {it acc : Value} (hd : d < 2) (self : ∀ (Q : Value → Shared → Prop) (E : Value → Shared → Prop), Q it s → wpAny (model P w) A (pyIter it) Q E s)
    (h : codeAny (model P w) A (.compLoop (sc2 el ta ia t1 ib sco pp) d it acc env) R s) : codeAny (model P w) A (.compStart (sc2 el ta ia t1 ib sco pp) d it acc env) R s := by
  refine codeAny_of_tree ?_
  show wpAny (model P w) A ((compStart (sc2 el ta ia t1 ib sco pp) d it acc env).onRaise fun x => do noteFrame x env; standAt theWindowsPlace) _ _ s
  refine wpAny_notedAt ?_
  have go : ∀ q : Pos, wpAny (model P w) A (standAt q >>= fun _ => pyIter it >>= fun j => again (.compLoop (sc2 el ta ia t1 ib sco pp) d j acc env)) (fun fin s' => match fin with | .done f => R (.ok f) s' | .again c' => c'.quiet = true ∧ codeAny (model P w) A c' R s') (notedBy (model P w) A env fun e s' => R (.error e) s') s := fun q =>
    wpAny_bind (wpAny_standAt (wpAny_bind (self _ _ (wpAny_pure ⟨rfl, h⟩))))
  have now : wpAny (model P w) A (again (.compLoop (sc2 el ta ia t1 ib sco pp) d it acc env)) (fun fin s' => match fin with | .done f => R (.ok f) s' | .again c' => c'.quiet = true ∧ codeAny (model P w) A c' R s') (notedBy (model P w) A env fun e s' => R (.error e) s') s := wpAny_pure ⟨rfl, h⟩
  obtain rfl | rfl : d = 0 ∨ d = 1 := by omega
  all_goals
    unfold compStart
    show wpAny (model P w) A (ask >>= _) _ _ s
    refine wpAny_bind (wpAny_askSetting (wpAny_ite ?_))
    split
    · exact wpAny_bind (wpAny_pure now)
    · exact wpAny_bind (wpAny_rule (go _))
section
variable {el ta ia t1 ib : Expr} {sco : Scope} {pp : Pos}
theorem form0 (it acc : Value) (env : Env) : compTurn (sc2 el ta ia t1 ib sco pp) 0 it acc env = turnOf ia.pos ta it env
    (eval ib env >>= fun x => standAt ib.pos >>= fun _ => foldedSetIterable ib env x >>= fun x => holding [x] (pyIter x) >>= fun j => runOwn (.compStart (sc2 el ta ia t1 ib sco pp) 1 j acc env) env >>= fun _ => again (.compLoop (sc2 el ta ia t1 ib sco pp) 0 it acc env)) := by rfl
theorem form1 (it acc : Value) (env : Env) : compTurn (sc2 el ta ia t1 ib sco pp) 1 it acc env = turnOf ib.pos t1 it env
    ((eval el env >>= fun v => standAt el.pos >>= fun _ => call (.builtin "set.add") [acc, v] >>= fun _ => pure ()) >>= fun _ => again (.compLoop (sc2 el ta ia t1 ib sco pp) 1 it acc env)) := by rfl
end
/-- what the inner loop must do, from what the outer one stored -/
def tInner (w : World) (D : Addr) (wi1 : TI) (g1 : TG) (te : TE) (vs1 : List Nat) : L2.St → Hp → (Hp → Prop) → Prop := fun σ2 H2 Nx => wi1 σ2 H2 fun J1 H4 => ∃ W1 : Nat → Nat → Hp → Prop, (∃ m, W1 0 m H4) ∧ ∀ j k H, W1 j k H →
  (J1.stop j H ∧ Nx H) ∨ (J1.go j H ∧ ∃ Nx1 : Hp → Prop, (∀ H', Nx1 H' → ∃ k', k' < k ∧ W1 (j + 1) k' H') ∧ ∀ x H', J1.yld j H x H' → g1 x (wipe σ2 vs1) H' fun σ3 H5 => wipe σ3 vs1 = wipe σ2 vs1 ∧
    te σ3 H5 fun y H7 => ∃ (c : Int) (S : Int → Bool) (n : Nat), y = .int c ∧ H7 D = some (SetO w D S n) ∧ n + 1 < scanBound ∧ Nx1 (upd H7 D (SetO w D (fun j => S j || decide (j = c)) (if S c = true then n else n + 1))))
/-- {el for ta in ia for t1 in ib}: D the new set, vs the block's names, vs1 those of the second target -/
def tS2 (w : World) (wi : TI) (g : TG) (wi1 : TI) (g1 : TG) (te : TE) (vs vs1 : List Nat) : TE := fun σ H Q => wi σ H fun J H1 => ∀ D, H1 D = none → ∃ W : Nat → Nat → Hp → Prop, (∃ m, W 0 m (upd H1 D (SetO w D (fun _ => false) 0))) ∧ ∀ i m H, W i m H →
  (J.stop i H ∧ Q (.ref D) H) ∨ (J.go i H ∧ ∃ Nx : Hp → Prop, (∀ H', Nx H' → ∃ m', m' < m ∧ W (i + 1) m' H') ∧ ∀ x H', J.yld i H x H' → g x (wipe σ vs) H' fun σ2 H2 => wipe σ2 vs = wipe σ vs ∧ tInner w D wi1 g1 te vs1 σ2 H2 Nx)
theorem wipe_keep {σ : L2.St} {j : Nat} : ∀ {vs : List Nat}, j ∉ vs → (wipe σ vs)[j]? = σ[j]?
  | [], _ => rfl
  | v :: vs, h => by
    have h1 := List.ne_of_not_mem_cons h
    show ((wipe σ vs).set v none)[j]? = _
    rw [List.getElem?_set_ne (Ne.symm h1), wipe_keep (List.not_mem_of_not_mem_cons h)]
section
variable {Y : Cx} {el ta ia t1 ib : Expr} {sco : Scope} {pp : Pos} {D : Addr} {wi1 : TI} {g1 : TG} {te : TE} {vs vs1 : List Nat} {σ0 : L2.St}
/-- the outer loop's body -/
theorem inner {o : Addr} (hc : Y.calm = true) (noerr : ∀ e s, Y.xe e s → False) (hv : ∀ i ∈ vs1, i ∈ vs) (hs : ∀ x, foldedSetIterable ib Y.env x = pure x) (p1 : PI Y t1 ib wi1) (pg1 : PG Y t1 g1) (pe : PE Y el te)
    (pins : List (Addr × Obj)) (σ2 : L2.St) (H2 : Hp) (s2 : Shared) (Nx : Hp → Prop) (I2 : Inv Y pins σ2 H2 s2) (h : wipe σ2 vs = σ0 ∧ tInner Y.w D wi1 g1 te vs1 σ2 H2 Nx) :
    wpAny (model Y.prog Y.w) Y.A (eval ib Y.env >>= fun x => standAt ib.pos >>= fun _ => foldedSetIterable ib Y.env x >>= fun x => holding [x] (pyIter x) >>= fun j => runOwn (.compStart (sc2 el ta ia t1 ib sco pp) 1 j (.ref D) Y.env) Y.env >>= fun _ => again (.compLoop (sc2 el ta ia t1 ib sco pp) 0 (.ref o) (.ref D) Y.env))
      (fun fin s3 => fin = .again (.compLoop (sc2 el ta ia t1 ib sco pp) 0 (.ref o) (.ref D) Y.env) ∧ ∃ H3, Inv Y pins σ0 H3 s3 ∧ Nx H3) (fun _ _ => False) s2 := by
  obtain ⟨hw, h⟩ := h
  refine wpAny_bind (wpAny_mono (p1.run pins s2 σ2 H2 _ I2 h) (fun x s3 hx => ?_) fun e s z => (noerr e s z).elim)
  refine wpAny_bind (wpAny_standAt (wpAny_bind (wpAny_of_eq (hs x) (wpAny_bind (wpAny_holding (wpAny_mono hx (fun j s4 h4 => ?_) fun e s z => (noerr e s z).elim))))))
  obtain ⟨it, fp, tn, J1, H4, e, I4, T, st4, f4, W1, ⟨m1, w1⟩, turn1⟩ := h4
  subst e
  have back : ∀ {H s}, Inv Y pins (wipe σ2 vs1) H s → Inv Y pins σ0 H s := fun I => by
    subst hw
    refine I.weak (by rw [wipe_length, wipe_length]) fun i v e => ?_
    obtain ⟨e1, e2⟩ := wipe_some e
    rw [wipe_keep fun z => e2 (hv i z)]; exact e1
  refine wpAny_bind (wpAny_runOwn ?_)
  rw [Around.mark_none]
  have loop := walk (tb := fun σ3 H5 Nx1 => wipe σ3 vs1 = wipe σ2 vs1 ∧ te σ3 H5 fun y H7 => ∃ (c : Int) (S : Int → Bool) (n : Nat), y = .int c ∧ H7 D = some (SetO Y.w D S n) ∧ n + 1 < scanBound ∧ Nx1 (upd H7 D (SetO Y.w D (fun j => S j || decide (j = c)) (if S c = true then n else n + 1))))
    (R := fun r s' => match r with | .ok _ => ∃ H3, Inv Y pins σ0 H3 s' ∧ Nx H3 | .error _ => False) hc T (form1 (el := el) (ta := ta) (ia := ia) (t1 := t1) (ib := ib) (sco := sco) (pp := pp) (.ref it) (.ref D) Y.env)
    (fun {H s} _ hn b hb => ⟨hn b hb, (f4 b hb).2⟩) pg1 noerr
    (fun pins' σ3 H5 s5 Nx1 I5 ⟨hw5, h5⟩ => by
      refine wpAny_bind (wpAny_bind (wpAny_mono (pe.run pins' s5 σ3 H5 _ I5 h5) (fun z s6 h6 => ?_) fun e s z => (noerr e s z).elim))
      obtain ⟨y, H7, I7, r7, c, S, n, ey, hD, room, nx⟩ := h6
      subst ey
      refine wpAny_bind (wpAny_standAt (wpAny_bind ?_))
      refine wpAny_mono (mt_sadd pins' s6 σ3 H7 (.ref D) [.int c] (.ref D) [z] (fun _ H' => Nx1 H') I7 rfl (.cons r7 .nil) ⟨D, c, S, n, rfl, rfl, hD, room, nx⟩) (fun _ s8 h8 => ?_) fun e s z => (noerr e s z).elim
      obtain ⟨y8, H8, I8, _, q8⟩ := h8
      exact wpAny_pure (wpAny_pure ⟨rfl, H8, I8.weak (by rw [← hw5, wipe_length]) fun i v e => by rw [← hw5] at e; exact (wipe_some e).1, q8⟩))
    W1 (I4.weak (wipe_length _ _) fun i v e => (wipe_some e).1) st4 (fun b hb => (f4 b hb).1) w1
    (fun j k H hW => by
      rcases turn1 j k H hW with ⟨stop, nx⟩ | ⟨go, Nx1, hN1, step⟩
      · exact .inl ⟨stop, fun s I => ⟨H, back I, nx⟩⟩
      · exact .inr ⟨go, Nx1, hN1, step⟩)
  refine codeAny_mono (start_of (by decide) (fun Q E q => T.self _ 0 _ _ _ st4 q) loop) fun r s' hr => ?_
  cases r with
  | ok f => exact wpAny_pure ⟨rfl, hr⟩
  | error e => exact hr.elim
end
section
variable {X : Cx}
abbrev blkEnv (X : Cx) (sco : Scope) (s : Shared) : Env := compEnvC sco (cellsFrom (s.heap.objs.size + 1) sco.names (cloFrom X.env.cells sco.names [])) s.heap.objs.size X.env
theorem block {el ta ia t1 ib : Expr} {sco : Scope} {own : List (PySem.Str × Nat)} {vs1 : List Nat} {pp : Pos} {wi1 : TI} {g g1 : TG} {te : TE} {pins : List (Addr × Obj)} {σ : L2.St} {H : Hp} {s : Shared} {it D : Addr} {fp : List Addr} {tn : Nat → Heap → Prop} {J : It} {Q : VK} {W : Nat → Nat → Hp → Prop} {m0 : Nat} {Z : Result → Shared → Prop}
    (hc : X.calm = true) (hN : X.N.Nodup) (ok : BlkOk X.N X.env.scope sco own) (hv : ∀ i ∈ vs1, i ∈ own.map (·.2)) (hs1 : ∀ env x, foldedSetIterable ib env x = pure x)
    (pg : PG (X.blk s H sco (blkEnv X sco s) fp) ta g) (p1 : PI (X.blk s H sco (blkEnv X sco s) fp) t1 ib wi1) (pg1 : PG (X.blk s H sco (blkEnv X sco s) fp) t1 g1) (pe : PE (X.blk s H sco (blkEnv X sco s) fp) el te)
    (I : Inv X pins σ H s) (T : Turn X.prog X.w X.K ta J fp it tn) (st : tn 0 s.heap) (hf : ∀ b ∈ fp, FpOk X pins H b ∧ b < s.heap.objs.size) (w0 : W 0 m0 H)
    (turn : ∀ i m H, W i m H → (J.stop i H ∧ Q (.ref D) H) ∨ (J.go i H ∧ ∃ Nx : Hp → Prop, (∀ H', Nx H' → ∃ m', m' < m ∧ W (i + 1) m' H') ∧ ∀ x H', J.yld i H x H' → g x (wipe σ (own.map (·.2))) H' fun σ2 H2 => wipe σ2 (own.map (·.2)) = wipe σ (own.map (·.2)) ∧ tInner X.w D wi1 g1 te vs1 σ2 H2 Nx))
    (fin : ∀ s' H' m, Inv X pins σ H' s' → Q (.ref D) H' → s'.heap.Ns s.heap.objs.size m → FpOk X pins H' s.heap.objs.size → Z (.ok .next) s') :
    codeAny (model X.prog X.w) X.A (.compStart (sc2 el ta ia t1 ib sco pp) 0 (.ref it) (.ref D) (blkEnv X sco s)) Z { s with heap := pushCells (s.heap.push { cls := .type "dict", data := .dict #[] }) sco.names } := by
  have I4 := block_start I ok hN hf
  have st4 : tn 0 (pushCells (s.heap.push { cls := .type "dict", data := .dict #[] }) sco.names) := T.keep _ _ _ st fun b _ o e => pushCells_keeps _ _ _ _ (Heap.get?_push_of_some _ e)
  refine start_of (by decide) (fun Q' E q => T.self _ 0 _ _ _ st4 q) ?_
  refine walk (Y := X.blk s H sco (blkEnv X sco s) fp) (tb := fun σ2 H2 Nx => wipe σ2 (own.map (·.2)) = wipe σ (own.map (·.2)) ∧ tInner X.w D wi1 g1 te vs1 σ2 H2 Nx) hc T (form0 (.ref it) (.ref D) (blkEnv X sco s))
    (fun {H' s'} I' hn b hb => ⟨hn b hb, (I'.ok.exf b hb).1, I'.ok.exfs b hb, .inl hb, fun x c e => (I'.ok.exf b hb).2 x c e, fun p hp => nomatch (show p ∈ ([] : List (Addr × Obj)) from hp)⟩) pg (fun _ _ z => z)
    (fun pins' σ2 H2 s2 Nx I2 h2 => inner (Y := X.blk s H sco (blkEnv X sco s) fp) (vs := own.map (·.2)) hc (fun _ _ z => z) hv (hs1 _) p1 pg1 pe pins' σ2 H2 s2 Nx I2 h2) W I4 st4 (fun b hb => (hf b hb).1.1) w0 (fun i m H' hW => ?_)
  rcases turn i m H' hW with ⟨stop, qq⟩ | z
  · refine .inl ⟨stop, fun s6 I6 => ?_⟩
    obtain ⟨m', hn, _⟩ := I6.loc
    exact fin s6 H' m' (I.call' (ch := fp) I6.os I6.base I6.hok I6.bare fun b hb => (hf b hb).1.2.2.2.1 |> fun z => ⟨z, (hf b hb).1.2.1, (hf b hb).1.2.2.2.2.1, (hf b hb).1.2.2.2.2.2⟩) qq hn (I.fpOk (Nat.le_refl _) I6.free)
  · exact .inr z
theorem pe_sc2 {el ta ia t1 ib : Expr} {sco : Scope} {own : List (PySem.Str × Nat)} {vs1 : List Nat} {pp : Pos} {wi wi1 : TI} {g g1 : TG} {te : TE} (hc : X.calm = true) (hN : X.N.Nodup) (hi : PI X ta ia wi) (ok : BlkOk X.N X.env.scope sco own) (hv : ∀ i ∈ vs1, i ∈ own.map (·.2))
    (hg : ∀ s H C cl fp, PG (X.blk s H sco (compEnvC sco cl C X.env) fp) ta g) (hi1 : ∀ s H C cl fp, PI (X.blk s H sco (compEnvC sco cl C X.env) fp) t1 ib wi1) (hg1 : ∀ s H C cl fp, PG (X.blk s H sco (compEnvC sco cl C X.env) fp) t1 g1)
    (he : ∀ s H C cl fp, PE (X.blk s H sco (compEnvC sco cl C X.env) fp) el te) (hs : ∀ x, foldedSetIterable ia X.env x = pure x := by intro _; rfl) (hs1 : ∀ env x, foldedSetIterable ib env x = pure x := by intro _ _; rfl) :
    PE X (.SetComp el [⟨ta, ia, [], 0⟩, ⟨t1, ib, [], 0⟩] sco pp) (tS2 X.w wi g wi1 g1 te (own.map (·.2)) vs1) := by
  refine ⟨fun pins s σ H Q I h => ?_⟩
  rw [PpSet.eval_SetComp]
  have known : ∀ y ∈ sco.names, y.2 = .free → ∃ c, X.env.cells.lookup y.1 = some c := fun y hy e => I.ok.has _ (ok.free y hy e)
  refine wpAny_comprehension_free (use := none) rfl hs (closure_ok known) ok.kind (fun y hy e => by rw [ok.uniq y hy, e]) (thn (hi.run pins s σ H _ I h) fun _ _ hx => thn hx fun iv s2 h2 => ?_)
  obtain ⟨it, fp, tn, J, H2, e, I2, T, st2, f2, q⟩ := h2
  subst e
  refine PpSet.newSet_ok (newEnv_comp ?_)
  have nD : H2 s2.heap.objs.size = none := I2.hok.fresh (Nat.le_refl _)
  obtain ⟨W, ⟨m0, w0⟩, turn⟩ := q _ nD
  have I3 := I2.laid (t' := s2.toks) (o := SetO X.w s2.heap.objs.size (fun _ => false) 0) (fun b o e => Heap.get?_push_of_some { cls := .type "set", dict := none, data := .set #[] 0 (.fresh 0 0 (!X.w.params.followText "set-order")) } e) (Nat.le_refl _) (setO_new (setR_fresh X.w))
  have young : ∀ b ∈ fp, b < s2.heap.objs.size := fun b hb => (T.obj _ _ st2 b hb).elim fun o e => Heap.lt_size e.1
  exact block hc hN ok hv hs1 (hg _ _ _ _ _) (hi1 _ _ _ _ _) (hg1 _ _ _ _ _) (he _ _ _ _ _) I3 T (T.keep _ _ _ st2 fun b _ o e => Heap.get?_push_of_some _ e)
    (fun b hb => ⟨⟨by rw [upd_ne (Nat.ne_of_lt (young b hb))]; exact (f2 b hb).1, (f2 b hb).2⟩, by show b < (Heap.push _ _).objs.size; rw [Heap.size_push]; exact Nat.lt_succ_of_lt (young b hb)⟩) w0 turn
    fun s' H' m I' qq hn ⟨f0, f1, _, f3, f4, f5⟩ => ⟨m, hn, fun h'' sb => ⟨.ref s2.heap.objs.size, H', I'.turned (t' := s'.toks) (fun b o hb e => (sb.2 b hb).trans e) f0 f1 f3 f4 f5, rfl, qq⟩⟩
end
end RV
set_option maxHeartbeats 4000000
/-! min of tuples of ints: of two, of a list of them -/
namespace RV
open PySem PySem.Spec PyProof.Rows L2
theorem lex_irr (xs : List Int) : HT.lexLt xs xs = false := by
  cases e : HT.lexLt xs xs with
  | false => rfl
  | true => have := NtL.lex_asym _ _ e; rw [e] at this; cases this
/-- the place of the first least -/
theorem best_least (l : Nat → List Int) : ∀ n : Nat, argBest (fun i j => HT.lexLt (l i) (l j)) n ≤ n ∧ ∀ j, j ≤ n → HT.lexLt (l j) (l (argBest (fun i j => HT.lexLt (l i) (l j)) n)) = false
  | 0 => ⟨Nat.le_refl _, fun j hj => by
    have : j = 0 := by omega
    subst this
    exact lex_irr _⟩
  | n + 1 => by
    obtain ⟨h1, h2⟩ := best_least l n
    have e0 : argBest (fun i j => HT.lexLt (l i) (l j)) (n + 1) = if HT.lexLt (l (n + 1)) (l (argBest (fun i j => HT.lexLt (l i) (l j)) n)) then n + 1 else argBest (fun i j => HT.lexLt (l i) (l j)) n := rfl
    rw [e0]
    generalize argBest (fun i j => HT.lexLt (l i) (l j)) n = b at h1 h2
    cases e : HT.lexLt (l (n + 1)) (l b) with
    | true =>
      rw [if_pos rfl]
      refine ⟨Nat.le_refl _, fun j hj => ?_⟩
      rcases Nat.lt_or_ge j (n + 1) with z | z
      · exact NtL.lex_tr _ _ _ (NtL.lex_asym _ _ e) (h2 j (by omega))
      · have : j = n + 1 := by omega
        subst this; exact lex_irr _
    | false =>
      rw [if_neg (by decide)]
      refine ⟨by omega, fun j hj => ?_⟩
      rcases Nat.lt_or_ge j (n + 1) with z | z
      · exact h2 j (by omega)
      · have : j = n + 1 := by omega
        subst this; exact e
section
variable {prog : Program} {w : World} {A : Around} {E : Value → Shared → Prop} {s : Shared}
/-- v is a tuple of the ints ns in h -/
def TupIn (h : Heap) (v : Value) (ns : List Int) : Prop := ∃ (a : Addr) (items : Array Value), v = .ref a ∧ IsTup h a items ∧ IntsAre items.toList ns
theorem TupIn.keep {h h' : Heap} {v : Value} {ns : List Int} (t : TupIn h v ns) (k : ∀ b o, h.get? b = some o → h'.get? b = some o) : TupIn h' v ns := by
  obtain ⟨a, items, e, ⟨o, h1, h2, h3⟩, hi⟩ := t
  exact ⟨a, items, e, ⟨o, k _ _ h1, h2, h3⟩, hi⟩
theorem cmp_tups {vs : Array Value} {l : Nat → List Int} (hu : A.units < cLine) (ht : ∀ i v, vs[i]? = some v → TupIn s.heap v (l i)) :
    CmpIn prog w A .Lt s.heap (fun i v => vs[i]? = some v) (fun i j => HT.lexLt (l i) (l j)) := fun i j vi vj s' Q E hk hi hj hq => by
  obtain ⟨a, it1, rfl, t1, i1⟩ := (ht i vi hi).keep hk
  obtain ⟨b, it2, rfl, t2, i2⟩ := (ht j vj hj).keep hk
  exact HT.lt_tupInts t1 t2 i1 i2 hu hq
/-- min(l) of a list of tuples of ints -/
theorem min_tups {a : Addr} {vs : Array Value} {l : Nat → List Int} {Q : Value → Shared → Prop} (hh : A.handled = none) (hl : s.heap.IsList a vs) (h0 : 0 < vs.size) (hu : A.units + 1 < cLine) (ht : ∀ i v, vs[i]? = some v → TupIn s.heap v (l i))
    (h : ∀ (i : Nat) v h' tk, vs[i]? = some v → (∀ j, j < vs.size → HT.lexLt (l j) (l i) = false) → (∀ b o, s.heap.get? b = some o → h'.get? b = some o) → Q v { s with heap := h', toks := tk }) :
    wpAny (model prog w) A (call (.builtin "min") [.ref a]) Q E s := by
  refine call_min_walkH (PySem.W.iter_listW (A := A.in1) hh hl fun s₂ e W st hfp hw hk => ?_)
  refine ⟨_, _, _, _, _, _, _, s.heap, _, rfl, W, st, hfp, h0, hw, hk, cmp_tups (A := A.in1) (show A.units + 1 < cLine from hu) ht, fun v s' hP m => ?_⟩
  obtain ⟨h', tk, rfl, hk'⟩ := PySem.W.moved_old e rfl m
  obtain ⟨b1, b2⟩ := best_least l (vs.size - 1)
  exact h _ v h' tk hP (fun j hj => b2 j (by omega)) hk'
/-- min(v, u) of two tuples of ints -/
theorem min_two_tups {v u : Value} {ns ms : List Int} {Q : Value → Shared → Prop} (hh : A.handled = none) (hu : A.units + 1 < cLine) (hv : TupIn s.heap v ns) (hw : TupIn s.heap u ms)
    (h : ∀ h' tk, (∀ b o, s.heap.get? b = some o → h'.get? b = some o) → Q (if HT.lexLt ms ns = true then u else v) { s with heap := h', toks := tk }) :
    wpAny (model prog w) A (call (.builtin "min") [v, u]) Q E s := by
  have hname : (toString "min" ++ toString ".loop" : String) = "min.loop" := by decide
  refine call_function_tree F.kind_min F.plain_min F.entry_min (F.args_min2 _ _) ?_
  show wpAny _ A.in1 (Builtin.Builtins.bindParams "min" ["key", "default"] 0 ⟨[], []⟩ >>= _) _ _ s
  refine wpAny_bind (wpAny_of_eq (show Builtin.Builtins.bindParams "min" ["key", "default"] 0 ⟨[], []⟩ = pure [none, none] from rfl) ?_)
  show wpAny _ A.in1 (newTuple [v, u] >>= _) _ _ s
  refine wpAny_bind (wpAny_newObj_type ?_)
  have hT : (s.heap.push { cls := .type "tuple", data := .seq #[v, u] }).IsTuple s.heap.objs.size #[v, u] := ⟨_, Heap.get?_push_size _ rfl, rfl, 0, rfl⟩
  have k0 : ∀ b o, s.heap.get? b = some o → (s.heap.push { cls := .type "tuple", data := .seq #[v, u] }).get? b = some o := fun b o e => Heap.get?_push_of_some _ e
  have ht : ∀ i x, (#[v, u] : Array Value)[i]? = some x → TupIn (s.heap.push { cls := .type "tuple", data := .seq #[v, u] }) x ((fun i : Nat => if i = 0 then ns else ms) i) := fun i x hx => by
    match i, hx with
    | 0, hx => cases hx; exact hv.keep k0
    | 1, hx => cases hx; exact hw.keep k0
    | i + 2, hx => simp at hx
  refine wpAny_bind (PySem.W.iter_tupleW (s := { s with heap := s.heap.push { cls := .type "tuple", data := .seq #[v, u] } }) (A := A.in1) hh hT fun s₂ e W st hfp hw' hk => ?_)
  refine wpAny_bind (wpAny_newObj_type ?_)
  have hSf : s₂.heap.objs.size ∉ [(s.heap.push { cls := .type "tuple", data := .seq #[v, u] }).objs.size, s.heap.objs.size] := fun hm => Nat.lt_irrefl _ (hfp _ hm)
  rw [hname]
  refine wpAny_pure ⟨plainId_quiet F.plain_min_loop _, codeAny_min_loop_firstH W _ hw' _ (cmp_tups (s := { s with heap := s.heap.push { cls := .type "tuple", data := .seq #[v, u] } }) (A := A.in1) (show A.units + 1 < cLine from hu) ht) s₂.heap.objs.size hSf (fresh_in hk) _ (by show 0 < 2; decide) (fun b o e => Heap.get?_push_of_some _ (hk b o e)) (W.frame 0 s₂ _ s₂.toks st (Nat.le_refl _) fun b _ o e => Heap.get?_push_of_some _ e) (Heap.get?_push_size _ rfl) fun x s' hP hm => ?_⟩
  have m := Moved.drop_new (tk := s₂.toks) hm (Nat.le_refl _)
  obtain ⟨h', tk, rfl, hk'⟩ := PySem.W.moved_old e rfl m
  have z := h h' tk fun b o eb => hk' b o (k0 b o eb)
  have ex : x = if HT.lexLt ms ns = true then u else v := by
    have hP1 : (#[v, u] : Array Value)[argBest (fun i j => HT.lexLt ((fun i : Nat => if i = 0 then ns else ms) i) ((fun i : Nat => if i = 0 then ns else ms) j)) 1]? = some x := hP
    cases el : HT.lexLt ms ns with
    | true =>
      have e1 : argBest (fun i j => HT.lexLt ((fun i : Nat => if i = 0 then ns else ms) i) ((fun i : Nat => if i = 0 then ns else ms) j)) 1 = 1 := by simp [argBest, el]
      rw [e1] at hP1
      rw [if_pos rfl]; cases hP1; rfl
    | false =>
      have e1 : argBest (fun i j => HT.lexLt ((fun i : Nat => if i = 0 then ns else ms) i) ((fun i : Nat => if i = 0 then ns else ms) j)) 1 = 0 := by simp [argBest, el]
      rw [e1] at hP1
      rw [if_neg (by decide)]; cases hP1; rfl
  rw [ex]; exact z
end
section
variable {X : Cx}
theorem tupIn_of {pins : List (Addr × Obj)} {s : Shared} {σ : L2.St} {H : Hp} (I : Inv X pins σ H s) {a : Addr} {ns : List Int} (h : SqT X.K H a (ns.map V.int)) : TupIn s.heap (.ref a) ns := by
  obtain ⟨its, r1, p1, _⟩ := I.tuple h
  exact ⟨a, _, rfl, p1, intsAre_of r1⟩
/-- min(t, u) of two tuples of ints -/
def rMin2T (K : PySem.W.Frag) : List V → Hp → VK → Prop := fun vs H Q => ∃ (a b : Addr) (ns ms : List Int), vs = [.ref a, .ref b] ∧ SqT K H a (ns.map V.int) ∧ SqT K H b (ms.map V.int) ∧ Q (.ref (if HT.lexLt ms ns = true then b else a)) H
theorem cr_min2T (hc : X.calm = true) (hu : X.A.units + 1 < cLine) : CallR X (.builtin "min") (rMin2T X.K) := by
  intro pins s σ H vs us Q I r h
  obtain ⟨a, b, ns, ms, rfl, ha, hb, q⟩ := h
  obtain ⟨u, w', rfl, e1, e2⟩ := vals2 r
  cases e1
  cases e2
  refine min_two_tups (I.ok.hd hc) hu (tupIn_of I ha) (tupIn_of I hb) fun h' tk k => ⟨_, H, I.kept k, ?_, q⟩
  cases HT.lexLt ms ns <;> rfl
/-! sorted of two tuples of ints of one length -/
theorem code_lex {B : Int} : ∀ {xs ys : List Int}, xs.length = ys.length → TS.Bd B xs → TS.Bd B ys → HT.lexLt xs ys = decide (TS.code B xs < TS.code B ys)
  | [], [], _, _, _ => by
    show false = decide (TS.code B [] < TS.code B [])
    rw [decide_eq_false (Int.lt_irrefl _)]
  | x :: xs, y :: ys, hl, h1, h2 => by
    have hl' : xs.length = ys.length := by simpa using hl
    have t1 : TS.Bd B xs := fun m hm => h1 m (List.mem_cons_of_mem _ hm)
    have t2 : TS.Bd B ys := fun m hm => h2 m (List.mem_cons_of_mem _ hm)
    rw [HT.lexLt_cons]
    by_cases e : x = y
    · rw [if_pos e, code_lex hl' t1 t2, e]
      refine decide_eq_decide.mpr ?_
      show TS.code B xs < TS.code B ys ↔ y * B ^ xs.length + TS.code B xs < y * B ^ ys.length + TS.code B ys
      rw [hl']
      omega
    · rw [if_neg e]
      refine decide_eq_decide.mpr ⟨fun z => TS.code_lt hl' t1 t2 z, fun z => ?_⟩
      rcases Int.lt_trichotomy x y with c | c | c
      · exact c
      · exact absurd c e
      · have := TS.code_lt hl'.symm t2 t1 c
        omega
theorem lex_tot : ∀ {xs ys : List Int}, HT.lexLt xs ys = false → HT.lexLt ys xs = false → xs = ys
  | [], [], _, _ => rfl
  | [], y :: ys, h, _ => by cases h
  | x :: xs, [], _, h => by cases h
  | x :: xs, y :: ys, h1, h2 => by
    rw [HT.lexLt_cons] at h1 h2
    by_cases e : x = y
    · rw [if_pos e] at h1
      rw [if_pos e.symm] at h2
      rw [e, lex_tot h1 h2]
    · rw [if_neg e] at h1
      rw [if_neg (fun z => e z.symm)] at h2
      have a1 := of_decide_eq_false h1
      have a2 := of_decide_eq_false h2
      omega
def rSort2T (K : PySem.W.Frag) : List V → Hp → VK → Prop := fun vs H Q => ∃ (l a b : Addr) (ns ms : List Int) (B : Int), vs = [.ref l] ∧ SqL K H l [.ref a, .ref b] ∧ SqT K H a (ns.map V.int) ∧ SqT K H b (ms.map V.int) ∧ ns.length = ms.length ∧ 1 ≤ ns.length ∧ TS.Bd B ns ∧ TS.Bd B ms ∧
  ∀ (c d p : Addr), SqT K H c ((if HT.lexLt ms ns = true then ms else ns).map V.int) → H p = none → Q (.ref p) (upd H p (.lst [.ref c, .ref d]))
theorem cr_sort2T : CallR X (.builtin "sorted") (rSort2T X.K) := by
  intro pins s σ H vs us Q I r h
  obtain ⟨l, a, b, ns, ms, B, rfl, hL, ha, hb, hlen, h1, B1, B2, q⟩ := h
  refine cr_sortT (d := ns.length) (B := B) h1 pins s σ H _ us Q I r ⟨l, _, rfl, hL, by show 2 < 64; decide, fun x hx => ?_, fun ys p pm pw np => ?_⟩
  · simp only [List.mem_cons, List.not_mem_nil, or_false] at hx
    rcases hx with rfl | rfl
    · exact ⟨ns, ⟨a, rfl, ha⟩, rfl, B1⟩
    · exact ⟨ms, ⟨b, rfl, hb⟩, hlen.symm, B2⟩
  · have hl2 : ys.length = 2 := pm.length_eq
    match ys, hl2, pm, pw with
    | [x, y], _, pm, pw =>
      have rel : ∀ n m, TupI X.K H x n → TupI X.K H y m → TS.code B n ≤ TS.code B m := by
        have z := pw
        rw [List.pairwise_cons] at z
        exact z.1 y (List.mem_singleton.mpr rfl)
      have ma : V.ref a = x ∨ V.ref a = y := by
        have z := pm.mem_iff.mpr (show V.ref a ∈ [V.ref a, V.ref b] by simp)
        simpa using z
      have mb : V.ref b = x ∨ V.ref b = y := by
        have z := pm.mem_iff.mpr (show V.ref b ∈ [V.ref a, V.ref b] by simp)
        simpa using z
      have my : y = V.ref a ∨ y = V.ref b := by
        have z := pm.mem_iff.mp (show y ∈ [x, y] by simp)
        simpa using z
      obtain ⟨d, ed⟩ : ∃ d, y = V.ref d := my.elim (fun e => ⟨_, e⟩) fun e => ⟨_, e⟩
      have fst : ∀ ty : TupI X.K H y ms, x = V.ref a → Q (.ref p) (upd H p (.lst [x, y])) := fun ty ex => by
        have le := rel ns ms ⟨a, ex, ha⟩ ty
        have z := code_lex hlen.symm B2 B1
        rw [decide_eq_false (by omega)] at z
        rw [ex, ed]
        refine q a d p ?_ np
        rw [z, if_neg (by decide)]; exact ha
      rcases ma with ea | ea
      · rcases mb with eb | eb
        · have eab : a = b := V.ref.inj (ea.trans eb.symm)
          refine fst ?_ ea.symm
          rcases my with e | e
          · exact ⟨a, e, by rw [eab]; exact hb⟩
          · exact ⟨b, e, hb⟩
        · exact fst ⟨b, eb.symm, hb⟩ ea.symm
      · rcases mb with eb | eb
        · have le := rel ms ns ⟨b, eb.symm, hb⟩ ⟨a, ea.symm, ha⟩
          rw [← eb, ed]
          refine q b d p ?_ np
          have z := code_lex hlen.symm B2 B1
          cases el : HT.lexLt ms ns with
          | true => rw [if_pos rfl]; exact hb
          | false =>
            rw [if_neg (by decide)]
            have z2 := code_lex hlen B1 B2
            rw [decide_eq_false (by omega)] at z2
            rw [lex_tot z2 el]; exact hb
        · have eab : a = b := V.ref.inj (ea.trans eb.symm)
          have mx : x = V.ref a ∨ x = V.ref b := by
            have z := pm.mem_iff.mp (show x ∈ [x, y] by simp)
            simpa using z
          refine fst ⟨b, eb.symm, hb⟩ ?_
          rcases mx with e | e
          · exact e
          · rw [e, eab]
end
end RV
set_option maxHeartbeats 4000000
/-! the least of all walks: mark by mark, and of all gone through -/
namespace RV
open PyProof.Rows
section
variable {bh : Int → List Int} {N : Nat} {E : List Int}
/-- from where so many steps lead to E -/
def beg (bh : Int → List Int) (N : Nat) (E : List Int) : Nat → List Int
  | 0 => E
  | n + 1 => (upN N).filter fun m => (bh m).any fun c => decide (c ∈ beg bh N E n)
theorem mem_beg {n : Nat} {m : Int} : m ∈ beg bh N E (n + 1) ↔ (0 ≤ m ∧ m < (N : Int)) ∧ ∃ c ∈ bh m, c ∈ beg bh N E n := by
  show m ∈ (upN N).filter _ ↔ _
  rw [List.mem_filter, mem_upN, List.any_eq_true]
  simp only [decide_eq_true_eq]
/-- mark by mark the least that still leads there -/
def Gr (bh : Int → List Int) (B : Nat → List Int) : Nat → Int → List Int → Prop
  | 0, m, w => w = [m]
  | n + 1, m, w => ∃ c w', w = m :: w' ∧ c ∈ bh m ∧ c ∈ B n ∧ (∀ y ∈ bh m, y ∈ B n → c ≤ y) ∧ Gr bh B n c w'
theorem Gr.uniq {B : Nat → List Int} : ∀ {n : Nat} {m : Int} {w v : List Int}, Gr bh B n m w → Gr bh B n m v → w = v
  | 0, m, w, v, h, h' => by rw [show w = [m] from h, show v = [m] from h']
  | n + 1, m, w, v, h, h' => by
    obtain ⟨c, w', rfl, a1, a2, a3, a4⟩ := h
    obtain ⟨d, v', rfl, b1, b2, b3, b4⟩ := h'
    have : c = d := Int.le_antisymm (a3 d b1 b2) (b3 c a1 a2)
    subst this
    rw [a4.uniq b4]
theorem Gr.len {B : Nat → List Int} : ∀ {n : Nat} {m : Int} {w : List Int}, Gr bh B n m w → w.length = n + 1
  | 0, m, w, h => by rw [show w = [m] from h]; rfl
  | n + 1, m, w, h => by
    obtain ⟨c, w', rfl, _, _, _, a4⟩ := h
    rw [List.length_cons, a4.len]
theorem Gr.congr {B B' : Nat → List Int} : ∀ {n : Nat} (_ : ∀ k, k < n → ∀ m, m ∈ B k ↔ m ∈ B' k) {m : Int} {w : List Int}, Gr bh B n m w → Gr bh B' n m w
  | 0, _, m, w, h => h
  | n + 1, e, m, w, h => by
    obtain ⟨c, w', rfl, a1, a2, a3, a4⟩ := h
    exact ⟨c, w', rfl, a1, (e n (by omega) c).mp a2, fun y y1 y2 => a3 y y1 ((e n (by omega) y).mpr y2), a4.congr fun k hk => e k (by omega)⟩
theorem Gr.inn {B : Nat → List Int} {P : Int → Prop} (hb : ∀ m, P m → ∀ c ∈ bh m, P c) : ∀ {n : Nat} {m : Int} {w : List Int}, Gr bh B n m w → P m → ∀ x ∈ w, P x
  | 0, m, w, h, hm, x, hx => by
    rw [show w = [m] from h, List.mem_singleton] at hx
    rw [hx]; exact hm
  | n + 1, m, w, h, hm, x, hx => by
    obtain ⟨c, w', rfl, a1, a2, a3, a4⟩ := h
    rcases List.mem_cons.mp hx with rfl | z
    · exact hm
    · exact a4.inn hb (hb m hm c a1) x z
/-- a walk of so many steps from m to o -/
def WkL (bh : Int → List Int) : Nat → Int → Int → List Int → Prop
  | 0, m, o, w => w = [m] ∧ m = o
  | n + 1, m, o, w => ∃ c w', w = m :: w' ∧ c ∈ bh m ∧ WkL bh n c o w'
theorem WkL.head : ∀ {n : Nat} {m o : Int} {w : List Int}, WkL bh n m o w → ∃ v, w = m :: v
  | 0, m, o, w, h => ⟨[], h.1⟩
  | n + 1, m, o, w, h => by
    obtain ⟨c, w', e, _⟩ := h
    exact ⟨w', e⟩
theorem Gr.head {B : Nat → List Int} : ∀ {n : Nat} {m : Int} {w : List Int}, Gr bh B n m w → ∃ v, w = m :: v
  | 0, m, w, h => ⟨[], h⟩
  | n + 1, m, w, h => by
    obtain ⟨c, w', e, _⟩ := h
    exact ⟨w', e⟩
theorem WkL.beg (hb : ∀ m, (0 ≤ m ∧ m < (N : Int)) → ∀ c ∈ bh m, 0 ≤ c ∧ c < (N : Int)) {o : Int} : ∀ {n : Nat} {m : Int} {w : List Int}, WkL bh n m o w → (0 ≤ m ∧ m < (N : Int)) → m ∈ RV.beg bh N [o] n
  | 0, m, w, h, _ => by rw [h.2]; exact List.mem_singleton.mpr rfl
  | n + 1, m, w, h, hm => by
    obtain ⟨c, w', _, h1, h2⟩ := h
    exact mem_beg.mpr ⟨hm, c, h1, h2.beg hb (hb m hm c h1)⟩
theorem Gr.wk {o : Int} : ∀ {n : Nat} {m : Int} {w : List Int}, Gr bh (RV.beg bh N [o]) n m w → m ∈ RV.beg bh N [o] n → WkL bh n m o w
  | 0, m, w, h, hm => ⟨h, List.mem_singleton.mp hm⟩
  | n + 1, m, w, h, hm => by
    obtain ⟨c, w', e, a1, a2, a3, a4⟩ := h
    exact ⟨c, w', e, a1, a4.wk a2⟩
theorem Gr.least (hb : ∀ m, (0 ≤ m ∧ m < (N : Int)) → ∀ c ∈ bh m, 0 ≤ c ∧ c < (N : Int)) {o : Int} : ∀ {n : Nat} {m : Int} {g w : List Int}, Gr bh (RV.beg bh N [o]) n m g → WkL bh n m o w → (0 ≤ m ∧ m < (N : Int)) → HT.lexLt w g = false
  | 0, m, g, w, h, h', _ => by rw [show g = [m] from h, h'.1]; exact lex_irr _
  | n + 1, m, g, w, h, h', hm => by
    obtain ⟨c, g', rfl, a1, a2, a3, a4⟩ := h
    obtain ⟨d, w', rfl, b1, b2⟩ := h'
    have hd := hb m hm d b1
    have le := a3 d b1 (b2.beg hb hd)
    rw [HT.lexLt_cons, if_pos rfl]
    by_cases e : d = c
    · subst e
      exact a4.least hb b2 hd
    · obtain ⟨x, rfl⟩ := a4.head
      obtain ⟨y, rfl⟩ := b2.head
      rw [HT.lexLt_cons, if_neg e, decide_eq_false (by omega)]
theorem ex_gr : ∀ {n : Nat} {m : Int}, m ∈ RV.beg bh N E n → ∃ w, Gr bh (RV.beg bh N E) n m w
  | 0, m, _ => ⟨[m], rfl⟩
  | n + 1, m, h => by
    obtain ⟨_, c, h1, h2⟩ := mem_beg.mp h
    have lst : ∀ (l : List Int), l ≠ [] → ∃ x ∈ l, ∀ y ∈ l, x ≤ y := by
      intro l
      induction l with
      | nil => intro z; exact absurd rfl z
      | cons a l ih =>
        intro _
        by_cases e : l = []
        · subst e
          exact ⟨a, List.mem_singleton.mpr rfl, fun y hy => by rw [List.mem_singleton.mp hy]; exact Int.le_refl _⟩
        · obtain ⟨x, x1, x2⟩ := ih e
          rcases Int.le_total a x with z | z
          · exact ⟨a, List.mem_cons_self, fun y hy => by
              rcases List.mem_cons.mp hy with rfl | y1
              · exact Int.le_refl _
              · exact Int.le_trans z (x2 y y1)⟩
          · exact ⟨x, List.mem_cons_of_mem _ x1, fun y hy => by
              rcases List.mem_cons.mp hy with rfl | y1
              · exact z
              · exact x2 y y1⟩
    obtain ⟨x, x1, x2⟩ := lst ((bh m).filter fun y => decide (y ∈ RV.beg bh N E n)) (fun z => by
      have : c ∈ (bh m).filter fun y => decide (y ∈ RV.beg bh N E n) := List.mem_filter.mpr ⟨h1, decide_eq_true h2⟩
      rw [z] at this; cases this)
    obtain ⟨x3, x4⟩ := List.mem_filter.mp x1
    have x4 := of_decide_eq_true x4
    obtain ⟨w, hw⟩ := ex_gr x4
    exact ⟨m :: w, x, w, rfl, x3, x4, fun y y1 y2 => x2 y (List.mem_filter.mpr ⟨y1, decide_eq_true y2⟩), hw⟩
/-- the last mark -/
def la (w : List Int) : Int := w.getLast?.getD 0
theorem la_add (w : List Int) (c : Int) : la (w ++ [c]) = c := by unfold la; simp
theorem WkL.snoc {o d : Int} : ∀ {n : Nat} {m : Int} {w : List Int}, WkL bh n m o w → d ∈ bh o → WkL bh (n + 1) m d (w ++ [d])
  | 0, m, w, h, hd => by
    obtain ⟨rfl, rfl⟩ := h
    exact ⟨d, [d], rfl, hd, rfl, rfl⟩
  | n + 1, m, w, h, hd => by
    obtain ⟨c, w', rfl, h1, h2⟩ := h
    exact ⟨c, w' ++ [d], rfl, h1, h2.snoc hd⟩
theorem WkL.unsnoc {d : Int} : ∀ {n : Nat} {m : Int} {w : List Int}, WkL bh (n + 1) m d w → ∃ o v, WkL bh n m o v ∧ d ∈ bh o ∧ w = v ++ [d]
  | 0, m, w, h => by
    obtain ⟨c, w', rfl, h1, h2, rfl⟩ := h
    exact ⟨m, [m], ⟨rfl, rfl⟩, h1, by rw [h2]; rfl⟩
  | n + 1, m, w, h => by
    obtain ⟨c, w', rfl, h1, h2⟩ := h
    obtain ⟨o, v, k1, k2, rfl⟩ := h2.unsnoc
    exact ⟨o, m :: v, ⟨c, v, rfl, h1, k1⟩, k2, rfl⟩
theorem WkL.la : ∀ {n : Nat} {m o : Int} {w : List Int}, WkL bh n m o w → RV.la w = o
  | 0, m, o, w, h => by rw [h.1, h.2]; rfl
  | n + 1, m, o, w, h => by
    obtain ⟨c, v, _, _, rfl⟩ := h.unsnoc
    exact la_add _ _
theorem WkL.len : ∀ {n : Nat} {m o : Int} {w : List Int}, WkL bh n m o w → w.length = n + 1
  | 0, m, o, w, h => by rw [h.1]; rfl
  | n + 1, m, o, w, h => by
    obtain ⟨c, v, rfl, _, h2⟩ := h
    rw [List.length_cons, h2.len]
/-- all walks of so many steps from m, gone through -/
def alw (bh : Int → List Int) (m : Int) : Nat → List (List Int)
  | 0 => [[m]]
  | n + 1 => (alw bh m n).flatMap fun w => (bh (la w)).map fun c => w ++ [c]
theorem mem_alw {m : Int} : ∀ {n : Nat} {w : List Int}, w ∈ alw bh m n ↔ ∃ o, WkL bh n m o w
  | 0, w => by
    show w ∈ [[m]] ↔ _
    rw [List.mem_singleton]
    exact ⟨fun h => ⟨m, h, rfl⟩, fun ⟨o, h, _⟩ => h⟩
  | n + 1, w => by
    show w ∈ (alw bh m n).flatMap _ ↔ _
    rw [List.mem_flatMap]
    constructor
    · rintro ⟨v, h1, h2⟩
      obtain ⟨o, ho⟩ := mem_alw.mp h1
      obtain ⟨c, c1, rfl⟩ := List.mem_map.mp h2
      rw [ho.la] at c1
      exact ⟨c, ho.snoc c1⟩
    · rintro ⟨d, hd⟩
      obtain ⟨o, v, k1, k2, rfl⟩ := hd.unsnoc
      refine ⟨v, mem_alw.mpr ⟨o, k1⟩, List.mem_map.mpr ⟨d, ?_, rfl⟩⟩
      rw [k1.la]; exact k2
theorem alw_len {m : Int} {b : Nat} (hb : ∀ x, (bh x).length ≤ b) : ∀ n, (alw bh m n).length ≤ b ^ n
  | 0 => Nat.le_refl _
  | n + 1 => by
    show ((alw bh m n).flatMap _).length ≤ _
    have h : ∀ L : List (List Int), (L.flatMap fun w => (bh (la w)).map fun c => w ++ [c]).length ≤ L.length * b := by
      intro L
      induction L with
      | nil => simp
      | cons w L ih =>
        rw [List.flatMap_cons, List.length_append, List.length_map, List.length_cons, Nat.succ_mul]
        have := hb (la w)
        omega
    exact Nat.le_trans (h _) (by rw [Nat.pow_succ]; exact Nat.mul_le_mul (alw_len hb n) (Nat.le_refl _))
end
end RV
namespace RV
open PySem PySem.Spec PyProof.Rows L2
/-! ### what repr asks of tuples of pairs -/
theorem small_log {i : Int} (h : i.natAbs < 10 ^ 12) : i.natAbs.log2 < 1920 := by
  rcases Nat.eq_zero_or_pos i.natAbs with e | e
  · rw [e]; decide
  · have h1 : i.natAbs < 2 ^ 64 := Nat.lt_of_lt_of_le h (by decide)
    have h2 : i.natAbs.log2 < 64 := (Nat.log2_lt (by omega)).mpr h1
    omega
theorem show_ints : ∀ ns : List Int, (∀ n ∈ ns, n.natAbs < 10 ^ 12) → PyData.showableAll (ns.map PyData.int) = true
  | [], _ => by simp [PyData.showableAll]
  | n :: r, h => by
    have h1 := small_log (h n (List.mem_cons_self ..))
    have h2 := show_ints r fun m hm => h m (List.mem_cons_of_mem _ hm)
    simp [PyData.showableAll, PyData.showable, h1, h2]
theorem show_dIs : ∀ ps : List (List Int), (∀ p ∈ ps, ∀ n ∈ p, n.natAbs < 10 ^ 12) → PyData.showableAll (ps.map dI) = true
  | [], _ => by simp [PyData.showableAll]
  | p :: r, h => by
    have h1 := show_ints p (h p (List.mem_cons_self ..))
    have h2 := show_dIs r fun m hm => h m (List.mem_cons_of_mem _ hm)
    have h3 : (dI p).showable = true := by simp only [dI, PyData.showable]; exact h1
    simp [PyData.showableAll, h3, h2]
theorem short_dIs : ∀ ps : List (List Int), (∀ p ∈ ps, ∀ n ∈ p, n.natAbs < 10 ^ 12) → PyData.intsShortAll 13 (ps.map dI) = true
  | [], _ => by simp [PyData.intsShortAll]
  | p :: r, h => by
    have h1 := PyData.intsShortAll_ints p (h p (List.mem_cons_self ..))
    have h2 := short_dIs r fun m hm => h m (List.mem_cons_of_mem _ hm)
    have h3 : (dI p).intsShort 13 = true := by simp only [dI, PyData.intsShort]; exact h1
    simp [PyData.intsShortAll, h3, h2]
theorem bulk_ints : ∀ ns : List Int, PyData.bulkAll (ns.map PyData.int) = ns.length
  | [] => by simp [PyData.bulkAll]
  | n :: r => by simp [PyData.bulkAll, PyData.bulk, bulk_ints r]; omega
theorem bulk_dIs : ∀ ps : List (List Int), (∀ p ∈ ps, p.length ≤ 2) → PyData.bulkAll (ps.map dI) ≤ 3 * ps.length
  | [], _ => by simp [PyData.bulkAll]
  | p :: r, h => by
    have h1 : (dI p).bulk = p.length := by simp only [dI, PyData.bulk, bulk_ints]
    have h2 := bulk_dIs r fun m hm => h m (List.mem_cons_of_mem _ hm)
    have h3 := h p (List.mem_cons_self ..)
    simp only [List.map_cons, PyData.bulkAll, h1, List.length_cons]
    omega
/-- (ps, os), two tuples of pairs -/
def d2 (ps os : List (List Int)) : PyData := .tuple [dTT ps, dTT os]
theorem pr_small {b : Int} (hb : b ≤ 64) {ps : List (List Int)} (h : ∀ p ∈ ps, Pr b p) : ∀ p ∈ ps, ∀ n ∈ p, n.natAbs < 10 ^ 12 := fun p hp n hn => by
  obtain ⟨x, y, rfl, hx, hy⟩ := h p hp
  simp only [List.mem_cons, List.not_mem_nil, or_false] at hn
  rcases hn with rfl | rfl <;> omega
theorem pr_len {b : Int} {ps : List (List Int)} (h : ∀ p ∈ ps, Pr b p) : ∀ p ∈ ps, p.length ≤ 2 := fun p hp => by
  obtain ⟨x, y, rfl, _⟩ := h p hp
  simp
structure Reprs (ps os : List (List Int)) : Prop where
  h1 : (d2 ps os).showable = true
  h2 : (d2 ps os).hasDict = false
  h3 : (d2 ps os).depth ≤ 64
  h4 : (d2 ps os).shown.length ≤ sizeLine
theorem reprs {b c : Int} (hb : b ≤ 64) (hc : c ≤ 64) {ps os : List (List Int)} (h : ∀ p ∈ ps, Pr b p) (h' : ∀ p ∈ os, Pr c p) (l1 : ps.length ≤ 1000) (l2 : os.length ≤ 1000) : Reprs ps os := by
  have lay : (d2 ps os).canLay0 = true := by
    simp only [d2, dTT, PyData.canLay0, PyData.canLayAll0, lay_dI, Bool.and_self]
  refine ⟨?_, PyData.hasDict_of_canLay _ lay, ?_, ?_⟩
  · simp only [d2, dTT, PyData.showable, PyData.showableAll, show_dIs ps (pr_small hb h), show_dIs os (pr_small hc h'), Bool.and_self]
  · have h1 := dep_dI ps
    have h2 := dep_dI os
    simp only [d2, dTT, PyData.depth, PyData.depthAll]
    omega
  · refine PyData.shown_fits_bulk (B := 13) (by decide) (by decide) (PyData.leavesShort_of_canLay0 13 _ lay ?_) ?_
    · simp only [d2, dTT, PyData.intsShort, PyData.intsShortAll, short_dIs ps (pr_small hb h), short_dIs os (pr_small hc h'), Bool.and_self]
    · have h1 := bulk_dIs ps (pr_len h)
      have h2 := bulk_dIs os (pr_len h')
      simp only [d2, dTT, PyData.bulk, PyData.bulkAll]
      omega
theorem d2_dp {K : PySem.W.Frag} {H : Hp} {T a b : Addr} {ps os : List (List Int)} (h : H T = some (.tup [.ref a, .ref b])) (h1 : Tups K H a ps) (h2 : Tups K H b os) : Dp K H (.ref T) (d2 ps os) :=
  .tup (.inl (.inl h)) (.cons h1.dp (.cons h2.dp .nil))
end RV
namespace RV
open PySem PySem.Spec PyProof.Rows L2
/-- (ns, ps): mirrors and steps -/
def d1 (ns : List Int) (ps : List (List Int)) : PyData := .tuple [dI ns, dTT ps]
structure Shows (d : PyData) : Prop where
  h1 : d.showable = true
  h2 : d.hasDict = false
  h3 : d.depth ≤ 64
  h4 : d.shown.length ≤ sizeLine
theorem shows_d1 {b : Int} (hb : b ≤ 64) {ns : List Int} {ps : List (List Int)} (hn : ∀ n ∈ ns, n.natAbs < 10 ^ 12) (ln : ns.length ≤ 1000) (h : ∀ p ∈ ps, Pr b p) (l1 : ps.length ≤ 1000) : Shows (d1 ns ps) := by
  have lay : (d1 ns ps).canLay0 = true := by
    simp only [d1, dTT, PyData.canLay0, PyData.canLayAll0, lay_dI, dI_lay, Bool.and_self]
  have i1 : (dI ns).showable = true := by simp only [dI, PyData.showable]; exact show_ints ns hn
  have i2 : (dI ns).intsShort 13 = true := by simp only [dI, PyData.intsShort]; exact PyData.intsShortAll_ints ns hn
  have i3 : (dI ns).bulk = ns.length := by simp only [dI, PyData.bulk, bulk_ints]
  refine ⟨?_, PyData.hasDict_of_canLay _ lay, ?_, ?_⟩
  · simp only [d1, dTT, PyData.showable, PyData.showableAll, i1, show_dIs ps (pr_small hb h), Bool.and_self]
  · have h1 := dep_dI ps
    simp only [d1, dTT, PyData.depth, PyData.depthAll, dI_dep]
    omega
  · refine PyData.shown_fits_bulk (B := 13) (by decide) (by decide) (PyData.leavesShort_of_canLay0 13 _ lay ?_) ?_
    · simp only [d1, dTT, PyData.intsShort, PyData.intsShortAll, i2, short_dIs ps (pr_small hb h), Bool.and_self]
    · have h1 := bulk_dIs ps (pr_len h)
      simp only [d1, dTT, PyData.bulk, PyData.bulkAll, i3]
      omega
theorem shows_dI {ns : List Int} (hn : ∀ n ∈ ns, n.natAbs < 10 ^ 12) (ln : ns.length ≤ 1000) : Shows (dI ns) := by
  have i3 : (dI ns).bulk = ns.length := by simp only [dI, PyData.bulk, bulk_ints]
  refine ⟨by simp only [dI, PyData.showable]; exact show_ints ns hn, PyData.hasDict_of_canLay _ (dI_lay ns), by rw [dI_dep]; decide, ?_⟩
  refine PyData.shown_fits_bulk (B := 13) (by decide) (by decide) (PyData.leavesShort_of_canLay0 13 _ (dI_lay ns) ?_) (by rw [i3]; omega)
  simp only [dI, PyData.intsShort]; exact PyData.intsShortAll_ints ns hn
theorem d1_dp {K : PySem.W.Frag} {H : Hp} {T a b : Addr} {ns : List Int} {ps : List (List Int)} (h : H T = some (.tup [.ref a, .ref b])) (h1 : SqT K H a (ns.map V.int)) (h2 : Tups K H b ps) : Dp K H (.ref T) (d1 ns ps) :=
  .tup (.inl (.inl h)) (.cons (dpT h1) (.cons h2.dp .nil))
theorem shaped_d1 (ns : List Int) (ps : List (List Int)) : SeqAt.shaped (d1 ns ps) = true := by
  have h1 := dep_dI ps
  have e : (d1 ns ps).depth ≤ 64 := by simp only [d1, dTT, PyData.depth, PyData.depthAll, dI_dep]; omega
  show ((d1 ns ps).canLay0 && decide ((d1 ns ps).depth ≤ 64)) = true
  rw [decide_eq_true e, Bool.and_true]
  simp only [d1, dTT, PyData.canLay0, PyData.canLayAll0, lay_dI, dI_lay, Bool.and_self]
theorem eqv_d1 (ns ms : List Int) (ps qs : List (List Int)) : PyData.eqv (d1 ns ps) (d1 ms qs) = (decide (ns = ms) && decide (ps = qs)) := by
  simp only [d1, PyData.eqv, PyData.eqvAll, eqvI, eqvTT, Bool.and_true]
end RV
set_option maxHeartbeats 4000000
namespace RV
open PySem PySem.Spec PyProof.Rows L2
section
variable {X : Cx}
/-- ts.index(t), tuples of ints in a tuple -/
def rIndexTs (K : PySem.W.Frag) : V → List V → Hp → VK → Prop := fun x xs H Q => ∃ (a b : Addr) (ps : List (List Int)) (p : List Int) (j : Nat), x = V.ref a ∧ xs = [V.ref b] ∧ Tups K H a ps ∧ SqT K H b (p.map V.int) ∧ ps[j]? = some p ∧ (∀ m, m < j → ps[m]? ≠ some p) ∧ Q (.int (j : Nat)) H
theorem mt_indexTs (hu : X.A.units + 65 < cLine) : MtR X "tuple.index" (rIndexTs X.K) := by
  intro pins s σ H x xs v us Q I rx rxs h
  obtain ⟨a, b, ps, p, j, rfl, rfl, hT, hb, hj, hno, q⟩ := h
  cases rx
  obtain ⟨u, rfl, ru⟩ := vals1 rxs
  cases ru
  obtain ⟨bs, r1⟩ := Dp.reads I (dI p) (.ref b) (.ref b) (dpT hb) rfl
  have lay := lay_dI ps
  have room : X.A.units + 1 + min (PyData.depthAll (ps.map dI)) (dI p).depth < cLine := by
    have := Nat.min_le_right (PyData.depthAll (ps.map dI)) (dI p).depth
    have e := dI_dep p
    omega
  obtain ⟨ks, rfl, hs, hks⟩ := hT
  obtain ⟨its, rv, ⟨⟨cls, dd, dat, sls⟩, ho, hc, n, hd⟩, hlen⟩ := I.tuple hs
  simp only at hc hd
  subst hc hd
  obtain ⟨as, rall⟩ := Dp.readsAll I ((ks.map (·.2)).map dI) _ its (dpTs ks hks) rv
  have ln : its.length = ((ks.map (·.2)).map dI).length := SeqAt.ReadsAll.length _ its as rall
  have mp : its.map (SeqAt.readOf s.heap) = (ks.map (·.2)).map dI := SeqAt.readsAll_map _ its as lay rall
  have jl : j < its.toArray.size := by
    have := (List.getElem?_eq_some_iff.mp hj).1
    rw [List.size_toArray, ln, List.length_map]; exact this
  have at_ : ∀ (m : Nat) (hm : m < its.toArray.size), ∃ z, (ks.map (·.2))[m]? = some z ∧ SeqAt.readOf s.heap its.toArray[m] = dI z := fun m hm => by
    have hm2 : m < (ks.map (·.2)).length := by rw [List.size_toArray, ln, List.length_map] at hm; exact hm
    refine ⟨_, List.getElem?_eq_getElem hm2, ?_⟩
    have e : (its.map (SeqAt.readOf s.heap))[m]? = some (dI (ks.map (·.2))[m]) := by rw [mp, List.getElem?_map, List.getElem?_eq_getElem hm2]; rfl
    have hml : m < its.length := by simpa using hm
    rw [List.getElem?_map, List.getElem?_eq_getElem hml] at e
    have e' := Option.some.inj e
    simpa using e'
  refine call_meets PySem.F.slot_tuple_index ⟨_, ho, rfl⟩ PySem.F.entry_tuple_index (PySem.F.args_tuple_index_2 _ _) (TI.tuple_indexAt a its.toArray n dd sls (.ref b) (fun y => PyData.eqv (SeqAt.readOf s.heap y) (dI p)) j jl ?_ ?_)
    ⟨ho, SeqAt.items_eqAt (vs := its.toArray) (show ReadsAll s.heap its.toArray.toList _ as from rall) r1 lay (dI_lay p) room, ⟨.int (j : Nat), H, I.tok _, ⟨_, rfl⟩, q⟩⟩
  · obtain ⟨z, e1, e2⟩ := at_ j jl
    rw [hj] at e1
    cases e1
    show PyData.eqv (SeqAt.readOf s.heap its.toArray[j]) (dI p) = true
    rw [e2, eqvI]
    exact decide_eq_true rfl
  · intro m hm hmj
    obtain ⟨z, e1, e2⟩ := at_ m hm
    show PyData.eqv (SeqAt.readOf s.heap its.toArray[m]) (dI p) = false
    rw [e2, eqvI]
    exact decide_eq_false fun e => hno m hmj (by rw [e1, e])
/-- repr(None), repr of a whole number -/
def rReprO : List V → Hp → VK → Prop := fun xs H Q => (∃ i : Int, xs = [.int i] ∧ i.natAbs.log2 < 1920 ∧ Q (.str (toString i)) H) ∨ (xs = [.non] ∧ Q (.str "None") H)
theorem call_reprO : CallR X (.builtin "repr") rReprO := by
  intro pins s σ H xs us Q I r h
  rcases h with h | ⟨rfl, q⟩
  · exact SkE.call_repr_int pins s σ H xs us Q I r h
  · obtain ⟨u, rfl, rx⟩ := vals1 r
    cases (show u = Value.none from rx)
    exact PySem.P.repr_of_none ⟨.str "None", H, I.tok _, ⟨_, rfl⟩, q⟩
theorem op_neDK {K : PySem.W.Frag} (h : X.K = K) (hu : X.A.units + 64 < cLine) : OpR X (compareOp .NotEq) (rNeD K) := h ▸ op_neD hu
end
theorem bulk_any : ∀ (ps : List (List Int)) (k : Nat), (∀ p ∈ ps, p.length ≤ k) → PyData.bulkAll (ps.map dI) ≤ (k + 1) * ps.length
  | [], k, _ => by simp [PyData.bulkAll]
  | p :: r, k, h => by
    have h1 : (dI p).bulk = p.length := by simp only [dI, PyData.bulk, bulk_ints]
    have h2 := bulk_any r k fun m hm => h m (List.mem_cons_of_mem _ hm)
    have h3 := h p (List.mem_cons_self ..)
    simp only [List.map_cons, PyData.bulkAll, h1, List.length_cons, Nat.mul_succ]
    omega
theorem shows_dTT {ps : List (List Int)} (hn : ∀ p ∈ ps, ∀ n ∈ p, n.natAbs < 10 ^ 12) (h1 : ∀ p ∈ ps, p.length ≤ 8) (h2 : ps.length ≤ 64) : Shows (dTT ps) := by
  have lay : (dTT ps).canLay0 = true := by simp only [dTT, PyData.canLay0]; exact lay_dI ps
  refine ⟨by simp only [dTT, PyData.showable]; exact show_dIs ps hn, PyData.hasDict_of_canLay _ lay, ?_, ?_⟩
  · have h := dep_dI ps
    simp only [dTT, PyData.depth]; omega
  · refine PyData.shown_fits_bulk (B := 13) (by decide) (by decide) (PyData.leavesShort_of_canLay0 13 _ lay ?_) ?_
    · simp only [dTT, PyData.intsShort]; exact short_dIs ps hn
    · have b := bulk_any ps 8 h1
      simp only [dTT, PyData.bulk]
      omega
/-! ### lots in order -/
end RV
set_option maxHeartbeats 4000000
namespace RV
open PySem PySem.Spec PyProof.Rows L2
theorem shows_dI7 {ns : List Int} (hn : ∀ n ∈ ns, n.natAbs < 10 ^ 12) (ln : ns.length ≤ 7000) : Shows (dI ns) := by
  have i3 : (dI ns).bulk = ns.length := by simp only [dI, PyData.bulk, bulk_ints]
  refine ⟨by simp only [dI, PyData.showable]; exact show_ints ns hn, PyData.hasDict_of_canLay _ (dI_lay ns), by rw [dI_dep]; decide, ?_⟩
  refine PyData.shown_fits_bulk (B := 13) (by decide) (by decide) (PyData.leavesShort_of_canLay0 13 _ (dI_lay ns) ?_) (by rw [i3]; omega)
  simp only [dI, PyData.intsShort]; exact PyData.intsShortAll_ints ns hn
section
variable {X : Cx}
/-- repr of a tuple or of None -/
def rReprT (K : PySem.W.Frag) : List V → Hp → VK → Prop := fun xs H Q => (∃ (a : Addr) (ns : List Int), xs = [.ref a] ∧ SqT K H a (ns.map V.int) ∧ Shows (dI ns) ∧ Q (.str (dI ns).shown) H) ∨ (xs = [.non] ∧ Q (.str "None") H)
theorem call_reprT (gd : X.A.guards = some []) (hu : X.A.units + 65 < cLine) : CallR X (.builtin "repr") (rReprT X.K) := by
  intro pins s σ H xs us Q I r h
  rcases h with ⟨a, ns, e, hT, sh, q⟩ | ⟨rfl, q⟩
  · exact call_reprD gd hu pins s σ H xs us Q I r ⟨a, dI ns, e, dpT hT, sh.h1, sh.h2, sh.h3, sh.h4, q⟩
  · obtain ⟨u, rfl, rx⟩ := vals1 r
    cases (show u = Value.none from rx)
    exact PySem.P.repr_of_none ⟨.str "None", H, I.tok _, ⟨_, rfl⟩, q⟩
end
/-- unlike numbers below n are at most n -/
theorem few_below : ∀ {n : Nat} {l : List Int}, l.Nodup → (∀ x ∈ l, 0 ≤ x ∧ x < (n : Int)) → l.length ≤ n
  | 0, l, _, h => by
    cases l with
    | nil => exact Nat.le_refl _
    | cons x l => have := h x List.mem_cons_self; omega
  | n + 1, l, nd, h => by
    have nd2 : (l.erase (n : Int)).Nodup := nd.erase _
    have h2 : ∀ x ∈ l.erase (n : Int), 0 ≤ x ∧ x < (n : Int) := fun x hx => by
      have h3 := (List.Nodup.mem_erase_iff nd).mp hx
      have h4 := h x h3.2
      have h5 := h3.1
      omega
    have z := few_below nd2 h2
    rw [List.length_erase] at z
    split at z
    · omega
    · rename_i hno
      omega
end RV
set_option maxHeartbeats 4000000
/-! walks of so many steps, and tables of where they end -/
namespace RV
open PySem PySem.Spec PyProof.Rows L2
section
variable {bh : Int → List Int} {N : Nat}
/-- so many steps lead from the one to the other -/
def lk (bh : Int → List Int) : Nat → Int → Int → Prop
  | 0, a, b => a = b
  | n + 1, a, b => ∃ c, c ∈ bh a ∧ lk bh n c b
theorem lk_add {n : Nat} {b : Int} : ∀ {m : Nat} {a : Int}, lk bh (m + n) a b ↔ ∃ c, lk bh m a c ∧ lk bh n c b
  | 0, a => by
    rw [Nat.zero_add]
    exact ⟨fun h => ⟨a, rfl, h⟩, fun ⟨c, h1, h2⟩ => by rw [show a = c from h1]; exact h2⟩
  | m + 1, a => by
    rw [show m + 1 + n = (m + n) + 1 by omega]
    constructor
    · rintro ⟨c, h1, h2⟩
      obtain ⟨d, h3, h4⟩ := lk_add.mp h2
      exact ⟨d, ⟨c, h1, h3⟩, h4⟩
    · rintro ⟨d, ⟨c, h1, h3⟩, h4⟩
      exact ⟨c, h1, lk_add.mpr ⟨d, h3, h4⟩⟩
theorem lk_one {a b : Int} : lk bh 1 a b ↔ b ∈ bh a :=
  ⟨fun ⟨c, h1, h2⟩ => by rw [← show c = b from h2]; exact h1, fun h => ⟨b, h, rfl⟩⟩
theorem lk_inn (hb : ∀ m, ∀ c ∈ bh m, 0 ≤ c ∧ c < (N : Int)) {b : Int} : ∀ {n : Nat} {a : Int}, lk bh n a b → (0 ≤ a ∧ a < (N : Int)) → 0 ≤ b ∧ b < (N : Int)
  | 0, a, h, ha => by rw [← show a = b from h]; exact ha
  | n + 1, a, ⟨c, h1, h2⟩, _ => lk_inn hb h2 (hb a c h1)
theorem beg_lk (hb : ∀ m, ∀ c ∈ bh m, 0 ≤ c ∧ c < (N : Int)) {b : Int} : ∀ {n : Nat} {a : Int}, (0 ≤ a ∧ a < (N : Int)) → (a ∈ beg bh N [b] n ↔ lk bh n a b)
  | 0, a, _ => by show a ∈ [b] ↔ a = b; rw [List.mem_singleton]
  | n + 1, a, ha => by
    rw [mem_beg]
    exact ⟨fun ⟨_, c, h1, h2⟩ => ⟨c, h1, (beg_lk hb (hb a c h1)).mp h2⟩, fun ⟨c, h1, h2⟩ => ⟨ha, c, h1, (beg_lk hb (hb a c h1)).mpr h2⟩⟩
end
/-- a tuple of rising tuples: x in the row of i just where f i x -/
def Tab (K : PySem.W.Frag) (H : Hp) (t : Addr) (N : Nat) (f : Int → Int → Prop) : Prop := ∃ as : List Addr, SqT K H t (as.map V.ref) ∧ as.length = N ∧
  ∀ (i : Nat) (a : Addr), as[i]? = some a → ∃ xs : List Int, SqT K H a (xs.map V.int) ∧ xs.Pairwise (· < ·) ∧ (∀ x ∈ xs, 0 ≤ x ∧ x < (N : Int)) ∧ ∀ x, x ∈ xs ↔ f (i : Int) x
theorem Tab.same {K : PySem.W.Frag} {H H' : Hp} {t : Addr} {N : Nat} {f : Int → Int → Prop} (h : Tab K H t N f) (s : Same H H') : Tab K H' t N f := by
  obtain ⟨as, h1, h2, h3⟩ := h
  exact ⟨as, sqT_same s h1, h2, fun i a e => (h3 i a e).imp fun xs q => ⟨sqT_same s q.1, q.2⟩⟩
theorem Tab.congr {K : PySem.W.Frag} {H : Hp} {t : Addr} {N : Nat} {f g : Int → Int → Prop} (h : Tab K H t N f) (e : ∀ i x : Int, 0 ≤ i → i < (N : Int) → (f i x ↔ g i x)) : Tab K H t N g := by
  obtain ⟨as, h1, h2, h3⟩ := h
  refine ⟨as, h1, h2, fun i a ea => ?_⟩
  obtain ⟨xs, q1, q2, q3, q4⟩ := h3 i a ea
  have hi := (List.getElem?_eq_some_iff.mp ea).1
  exact ⟨xs, q1, q2, q3, fun x => (q4 x).trans (e i x (by omega) (by omega))⟩
theorem Tab.at {K : PySem.W.Frag} {H : Hp} {t : Addr} {N : Nat} {f : Int → Int → Prop} (h : Tab K H t N f) {m : Int} (h0 : 0 ≤ m) (h1 : m < (N : Int)) : ∃ (vs : List V) (a : Addr) (xs : List Int), SqT K H t vs ∧ atI vs m = some (.ref a) ∧ SqT K H a (xs.map V.int) ∧ xs.Pairwise (· < ·) ∧ (∀ x ∈ xs, 0 ≤ x ∧ x < (N : Int)) ∧ ∀ x, x ∈ xs ↔ f m x := by
  obtain ⟨as, q1, q2, q3⟩ := h
  have hm : m.toNat < as.length := by omega
  have e : ((m.toNat : Nat) : Int) = m := Int.toNat_of_nonneg h0
  obtain ⟨xs, z1, z2, z3, z4⟩ := q3 m.toNat _ (List.getElem?_eq_getElem hm)
  rw [e] at z4
  refine ⟨_, as[m.toNat], xs, q1, ?_, z1, z2, z3, z4⟩
  have := atI_nat (xs := as.map V.ref) (j := m.toNat) (v := .ref as[m.toNat]) (by rw [List.getElem?_map, List.getElem?_eq_getElem hm]; rfl)
  rw [e] at this; exact this
theorem rise_nodup {xs : List Int} (h : xs.Pairwise (· < ·)) : xs.Nodup := h.imp fun {a b} z e => by omega
section
variable {X : Cx} {K : PySem.W.Frag} {w : World}
theorem pe_tupleOfK {a : Expr} {ta : TE} {p pos : Pos} (h : X.K = K) (hg : Gl X "tuple") (hm : X.mg "tuple" = none) (ha : PE X a ta) (na : starEach [a] X.env = (false, eval a X.env) :: starEach [] X.env := by rfl) :
    PE X (.Call (.Name "tuple" p) [a] [] pos) (tThen ta (kTup K)) := h ▸ pe_tupleOf hg hm ha na
theorem cr_sortedSetW (h : X.w = w) (hc : X.calm = true) : CallR X (.builtin "sorted") (rSortedSet w) := h ▸ cr_sortedSet hc
theorem pe_sc2W {el ta ia t1 ib : Expr} {sco : Scope} {own : List (PySem.Str × Nat)} {vs1 : List Nat} {pp : Pos} {wi wi1 : TI} {g g1 : TG} {te : TE} (h : X.w = w) (hc : X.calm = true) (hN : X.N.Nodup) (hi : PI X ta ia wi) (ok : BlkOk X.N X.env.scope sco own) (hv : ∀ i ∈ vs1, i ∈ own.map (·.2))
    (hg : ∀ s H C cl fp, PG (X.blk s H sco (compEnvC sco cl C X.env) fp) ta g) (hi1 : ∀ s H C cl fp, PI (X.blk s H sco (compEnvC sco cl C X.env) fp) t1 ib wi1) (hg1 : ∀ s H C cl fp, PG (X.blk s H sco (compEnvC sco cl C X.env) fp) t1 g1)
    (he : ∀ s H C cl fp, PE (X.blk s H sco (compEnvC sco cl C X.env) fp) el te) (hs : ∀ x, foldedSetIterable ia X.env x = pure x := by intro _; rfl) (hs1 : ∀ env x, foldedSetIterable ib env x = pure x := by intro _ _; rfl) :
    PE X (.SetComp el [⟨ta, ia, [], 0⟩, ⟨t1, ib, [], 0⟩] sco pp) (tS2 w wi g wi1 g1 te (own.map (·.2)) vs1) := h ▸ pe_sc2 hc hN hi ok hv hg hi1 hg1 he hs hs1
end
/-- a loop over a tuple that its turns leave as it is -/
theorem it_tup {K : PySem.W.Frag} {a : Addr} {xs : List V} {H0 : Hp} {Fin : Hp → Prop} {Bd : V → Hp → (Hp → Prop) → Prop} (Pv : Nat → Hp → Prop) (h0 : Pv 0 H0) (hl : ∀ i H, i ≤ xs.length → Pv i H → SqT K H a xs)
    (hs : ∀ i x H, xs[i]? = some x → Pv i H → Bd x H (Pv (i + 1))) (hd : ∀ H, Pv xs.length H → Fin H) :
    ∃ W : Nat → Nat → Hp → Prop, (∃ m, W 0 m H0) ∧ ∀ i m H, W i m H → ((Itt K a).stop i H ∧ Fin H) ∨ ((Itt K a).go i H ∧ ∃ Nx : Hp → Prop, (∀ H', Nx H' → ∃ m', m' < m ∧ W (i + 1) m' H') ∧ ∀ x H', (Itt K a).yld i H x H' → Bd x H' Nx) := by
  refine ⟨fun i m H => i ≤ xs.length ∧ m + i = xs.length ∧ Pv i H, ⟨xs.length, Nat.zero_le _, rfl, h0⟩, fun i m H ⟨hi, hm, hp⟩ => ?_⟩
  have hq := hl i H hi hp
  rcases Nat.lt_or_ge i xs.length with z | z
  · refine .inr ⟨⟨xs, xs[i], hq, List.getElem?_eq_getElem z⟩, Pv (i + 1), fun H' p' => ⟨m - 1, by omega, z, by omega, p'⟩, fun x H' y => ?_⟩
    obtain ⟨rfl, y⟩ := y
    exact hs i x _ (y xs hq) hp
  · obtain rfl : i = xs.length := by omega
    exact .inl ⟨⟨xs, hq, Nat.le_refl _⟩, hd H hp⟩
/-- a set that has just these -/
def SetL (w : World) (H : Hp) (D : Addr) (ls : List Int) : Prop := ∃ S : Int → Bool, H D = some (SetO w D S ls.length) ∧ ls.Nodup ∧ ∀ k, S k = true ↔ k ∈ ls
theorem SetL.nil {w : World} {H : Hp} {D : Addr} : SetL w (upd H D (SetO w D (fun _ => false) 0)) D [] := ⟨_, upd_same, List.nodup_nil, fun k => by simp⟩
theorem SetL.add {w : World} {H : Hp} {D : Addr} {ls : List Int} (h : SetL w H D ls) (c : Int) (room : ls.length ≤ 1000) : ∃ (S : Int → Bool) (n : Nat), H D = some (SetO w D S n) ∧ n + 1 < scanBound ∧ ∃ ls', SetL w (upd H D (SetO w D (fun j => S j || decide (j = c)) (if S c = true then n else n + 1))) D ls' ∧ ∀ k, k ∈ ls' ↔ k ∈ ls ∨ k = c := by
  obtain ⟨S, h1, h2, h3⟩ := h
  refine ⟨S, ls.length, h1, by show ls.length + 1 < 4096; omega, ?_⟩
  by_cases e : S c = true
  · refine ⟨ls, ⟨_, by rw [upd_same, if_pos e], h2, fun k => ?_⟩, fun k => ⟨.inl, fun z => z.elim id fun z => by rw [z]; exact (h3 c).mp e⟩⟩
    rw [Bool.or_eq_true, h3, decide_eq_true_iff]
    exact ⟨fun z => z.elim id fun z => by rw [z]; exact (h3 c).mp e, .inl⟩
  · refine ⟨c :: ls, ⟨_, by rw [upd_same, if_neg e]; rfl, List.nodup_cons.mpr ⟨fun z => e ((h3 c).mpr z), h2⟩, fun k => ?_⟩, fun k => by rw [List.mem_cons, or_comm]⟩
    rw [Bool.or_eq_true, h3, decide_eq_true_iff, List.mem_cons, or_comm]
theorem SetL.same {w : World} {H H' : Hp} {D : Addr} {ls : List Int} (h : SetL w H D ls) (s : Same H H') : SetL w H' D ls := by
  obtain ⟨S, h1, h2⟩ := h
  exact ⟨S, s _ _ h1, h2⟩
theorem sqT_set {w : World} {K : PySem.W.Frag} {H : Hp} {D D' : Addr} {S : Int → Bool} {n : Nat} {o' : HO} (e : H D = some (SetO w D' S n)) {a : Addr} {xs : List V} (h : SqT K H a xs) : SqT K (upd H D o') a xs := by
  rcases h with (h | ⟨o, h⟩) | h
  · exact .inl (.inl (by rw [upd_ne (fun z => by rw [z, e] at h; cases h)]; exact h))
  · exact .inl (.inr ⟨o, by rw [upd_ne (fun z => by rw [z, e] at h; cases h)]; exact h⟩)
  · exact .inr h
end RV
set_option maxHeartbeats 4000000
namespace K4
open PySem PySem.Spec PyProof.Rows L2 RV
theorem sqT_setL {K : PySem.W.Frag} {H : Hp} {D a : Addr} {xs ys : List V} {o : HO} (e : H D = some (.lst ys)) (h : SqT K H a xs) : SqT K (upd H D o) a xs := by
  rcases h with (h | ⟨u, h⟩) | h
  · exact .inl (.inl (by rw [upd_ne (ne_of h e (by intro z; cases z))]; exact h))
  · exact .inl (.inr ⟨u, by rw [upd_ne (ne_of h e (by intro z; cases z))]; exact h⟩)
  · exact .inr h
theorem RunOk.setL {K : PySem.W.Frag} {H : Hp} {D : Addr} {k : Rk} {ys : List V} {o : HO} (h : RunOk K H k) (e : H D = some (.lst ys)) : RunOk K (upd H D o) k := ⟨sqT_setL e h.1, sqT_setL e h.2⟩
/-- the list at D holds these runs -/
structure Lot (K : PySem.W.Frag) (H' : Hp) (D : Addr) (rs : List (Int × List Int)) : Prop where
  ex : ∃ js : List Rk, js.map valR = rs ∧ H' D = some (.lst (js.map fun k => V.ref k.1)) ∧ ∀ j ∈ js, RunOk K H' j
theorem Lot.add {K : PySem.W.Frag} {H' : Hp} {D : Addr} {rs : List (Int × List Int)} {j : Rk} {acc : List V} (h : Lot K H' D rs) (e : H' D = some (.lst acc)) (hj : RunOk K H' j) : Lot K (upd H' D (.lst (acc ++ [.ref j.1]))) D (rs ++ [valR j]) := by
  obtain ⟨js, h1, h2, h3⟩ := h.ex
  rw [h2] at e
  cases e
  refine ⟨js ++ [j], by rw [List.map_append, h1]; rfl, by rw [upd_same, List.map_append]; rfl, fun k hk => ?_⟩
  rcases List.mem_append.mp hk with z | z
  · exact (h3 k z).setL h2
  · rw [List.mem_singleton.mp z]; exact hj.setL h2
theorem Lot.same {K : PySem.W.Frag} {H H' : Hp} {D : Addr} {rs : List (Int × List Int)} (h : Lot K H D rs) (s : Same H H') : Lot K H' D rs :=
  let ⟨js, h1, h2, h3⟩ := h.ex; ⟨js, h1, s _ _ h2, fun k hk => (h3 k hk).same s⟩
theorem Lot.nil {K : PySem.W.Frag} {H : Hp} {D : Addr} : Lot K (upd H D (.lst [])) D [] := ⟨[], rfl, upd_same, fun _ h => nomatch h⟩
theorem Lot.list {K : PySem.W.Frag} {H : Hp} {D : Addr} {rs : List (Int × List Int)} (h : Lot K H D rs) : ∃ acc, H D = some (.lst acc) ∧ acc.length = rs.length := by
  obtain ⟨js, h1, h2, h3⟩ := h.ex
  exact ⟨_, h2, by rw [← h1, List.length_map, List.length_map]⟩
/-- tuple(l) of such a list -/
theorem Lot.ring {K : PySem.W.Frag} {H : Hp} {D u : Addr} {rs : List (Int × List Int)} {acc : List V} (h : Lot K H D rs) (e : H D = some (.lst acc)) (nu : H u = none) : RingAt K (upd H u (.tup acc)) u rs := by
  obtain ⟨js, h1, h2, h3⟩ := h.ex
  rw [h2] at e
  cases e
  exact ⟨js, h1, tupNew upd_same, fun k hk => (h3 k hk).same (same_upd nu)⟩
def mirF (ns : List Int) : Int → Int := fun x => ns.getD x.toNat 0
end K4
namespace RV
open PySem L2
/-! ### walks by their steps -/
inductive Wk (ps : List (List Int)) : Nat → Int → Int → Prop where
  | nil (i : Int) : Wk ps 0 i i
  | more {n : Nat} {i j k : Int} : Wk ps n i j → [j, k] ∈ ps → Wk ps (n + 1) i k
theorem Wk.trans {ps : List (List Int)} {n m : Nat} {i j k : Int} (h : Wk ps n i j) (g : Wk ps m j k) : Wk ps (n + m) i k := by
  induction g with
  | nil _ => exact h
  | more _ e ih => exact .more (ih h) e
theorem Wk.one {ps : List (List Int)} {i j : Int} (h : [i, j] ∈ ps) : Wk ps 1 i j := .more (.nil i) h
theorem Wk.rch {ps : List (List Int)} {n : Nat} {i j : Int} (h : Wk ps n i j) : n = 0 ∧ i = j ∨ Rch ps i j := by
  induction h with
  | nil _ => exact .inl ⟨rfl, rfl⟩
  | more _ e ih =>
    rcases ih with ⟨_, rfl⟩ | ih
    · exact .inr (.one e)
    · exact .inr (.more ih e)
theorem Wk.lead {ps : List (List Int)} {n : Nat} {i j : Int} (h : Wk ps (n + 1) i j) : Rch ps i j := by
  rcases h.rch with ⟨z, _⟩ | z
  · omega
  · exact z
theorem rch_wk {ps : List (List Int)} {i j : Int} (h : Rch ps i j) : ∃ n, Wk ps (n + 1) i j := by
  induction h with
  | one e => exact ⟨0, .one e⟩
  | more _ e ih =>
    obtain ⟨n, w⟩ := ih
    exact ⟨n + 1, .more w e⟩
theorem Wk.zero {ps : List (List Int)} {i j : Int} (h : Wk ps 0 i j) : i = j := by
  cases h; rfl
theorem Wk.bound {ps : List (List Int)} {b : Int} (hb : ∀ p ∈ ps, Pr b p) {n : Nat} {i j : Int} (h : Wk ps n i j) (hi : 0 ≤ i ∧ i < b) : 0 ≤ j ∧ j < b := by
  rcases h.rch with ⟨_, rfl⟩ | z
  · exact hi
  · exact (Rch.bound hb z).2
/-- whatever is come to is come to by few steps -/
theorem wk_grow {ps : List (List Int)} (i : Int) : ∀ k : Nat, (∃ k', k' ≤ k ∧ ∀ x y : Int, (∃ m, m ≤ k' ∧ Wk ps m i x) → [x, y] ∈ ps → ∃ m, m ≤ k' ∧ Wk ps m i y) ∨ ∃ L : List Int, L.Nodup ∧ L.length = k + 1 ∧ ∀ x ∈ L, ∃ m, m ≤ k ∧ Wk ps m i x
  | 0 => .inr ⟨[i], by simp, rfl, fun x hx => ⟨0, Nat.le_refl _, by rw [List.mem_singleton.mp hx]; exact .nil i⟩⟩
  | k + 1 => by
    rcases wk_grow i k with ⟨k', h1, h2⟩ | ⟨L, nd, len, all⟩
    · exact .inl ⟨k', by omega, h2⟩
    · by_cases c : ∀ x y : Int, (∃ m, m ≤ k ∧ Wk ps m i x) → [x, y] ∈ ps → ∃ m, m ≤ k ∧ Wk ps m i y
      · exact .inl ⟨k, by omega, c⟩
      · refine .inr ?_
        obtain ⟨x, hx⟩ := Classical.not_forall.mp c
        obtain ⟨y, hy⟩ := Classical.not_forall.mp hx
        obtain ⟨h1, hy⟩ := Classical.not_imp.mp hy
        obtain ⟨h2, h3⟩ := Classical.not_imp.mp hy
        obtain ⟨m, hm, wm⟩ := h1
        refine ⟨y :: L, List.nodup_cons.mpr ⟨fun z => h3 (all y z), nd⟩, by rw [List.length_cons, len], fun z hz => ?_⟩
        rcases List.mem_cons.mp hz with rfl | hz
        · exact ⟨m + 1, by omega, .more wm h2⟩
        · obtain ⟨m', h4, h5⟩ := all z hz
          exact ⟨m', by omega, h5⟩
theorem wk_in {ps : List (List Int)} {i : Int} {k : Nat} : ∀ {m : Nat} {j : Int}, Wk ps m i j → (∀ x y : Int, (∃ m, m ≤ k ∧ Wk ps m i x) → [x, y] ∈ ps → ∃ m, m ≤ k ∧ Wk ps m i y) → ∃ m', m' ≤ k ∧ Wk ps m' i j
  | _, _, .nil _, _ => ⟨0, Nat.zero_le _, .nil _⟩
  | _, _, .more w e, h2 => h2 _ _ (wk_in w h2) e
theorem wk_short {ps : List (List Int)} {n : Nat} (hb : ∀ p ∈ ps, Pr (n : Int) p) {i j : Int} (hi : 0 ≤ i ∧ i < (n : Int)) {m : Nat} (h : Wk ps m i j) : ∃ m', m' ≤ n ∧ Wk ps m' i j := by
  rcases wk_grow (ps := ps) i n with ⟨k', h1, h2⟩ | ⟨L, nd, len, all⟩
  · obtain ⟨m', h3, h4⟩ := wk_in h h2
    exact ⟨m', by omega, h4⟩
  · have := nodup_le (us := upN n) nd fun x hx => by
      obtain ⟨m', _, w⟩ := all x hx
      exact mem_upN.mpr (w.bound hb hi)
    rw [upN_len] at this
    omega
/-! ### periods -/
structure Per (ps : List (List Int)) (x : Int) (g : Nat) : Prop where
  all : ∀ n, Wk ps n x x → g ∣ n
  most : ∀ d : Nat, (∀ n, n ≤ 24 → Wk ps n x x → d ∣ n) → d ∣ g
theorem Per.uniq {ps : List (List Int)} {x : Int} {g g' : Nat} (h : Per ps x g) (h' : Per ps x g') : g = g' :=
  Nat.dvd_antisymm (h'.most g fun n _ w => h.all n w) (h.most g' fun n _ w => h'.all n w)
open Classical in
noncomputable def perN (ps : List (List Int)) (x : Int) : Nat := if h : ∃ g, Per ps x g then Classical.choose h else 0
theorem Per.is {ps : List (List Int)} {x : Int} {g : Nat} (h : Per ps x g) : perN ps x = g := by
  have e : ∃ g, Per ps x g := ⟨g, h⟩
  unfold perN
  rw [dif_pos e]
  exact (Classical.choose_spec e).uniq h
open Classical in
noncomputable def clsN (ps : List (List Int)) (x : Int) (g : Nat) (m : Int) : Nat := if h : ∃ n, Wk ps n x m then Classical.choose h % g else 0
theorem mod_of_dvd {g a b r : Nat} (h1 : g ∣ a + r) (h2 : g ∣ b + r) : a % g = b % g := by
  have e : ((a : Int) - b) % g = 0 := by
    have z : (g : Int) ∣ ((a + r : Nat) : Int) - ((b + r : Nat) : Int) := Int.dvd_sub (Int.ofNat_dvd.mpr h1) (Int.ofNat_dvd.mpr h2)
    have e2 : ((a + r : Nat) : Int) - ((b + r : Nat) : Int) = (a : Int) - b := by omega
    rw [e2] at z
    exact Int.emod_eq_zero_of_dvd z
  have z := Int.emod_eq_emod_iff_emod_sub_eq_zero.mpr e
  omega
/-- any way to a mark that leads back tells its class -/
theorem Per.cls {ps : List (List Int)} {x m : Int} {g n : Nat} (h : Per ps x g) (w : Wk ps n x m) (back : ∃ r, Wk ps r m x) : n % g = clsN ps x g m := by
  have e : ∃ n, Wk ps n x m := ⟨n, w⟩
  unfold clsN
  rw [dif_pos e]
  obtain ⟨r, wr⟩ := back
  exact mod_of_dvd (h.all _ (w.trans wr)) (h.all _ ((Classical.choose_spec e).trans wr))
theorem Per.self {ps : List (List Int)} {x : Int} {g : Nat} (h : Per ps x g) : clsN ps x g x = 0 := by
  rw [← h.cls (.nil x) ⟨0, .nil x⟩]; exact Nat.zero_mod g
theorem Per.pos {ps : List (List Int)} {x : Int} {g : Nat} (h : Per ps x g) (r : Rch ps x x) : 0 < g := by
  obtain ⟨n, w⟩ := rch_wk r
  have z := h.all _ w
  rcases Nat.eq_zero_or_pos g with e | e
  · rw [e] at z
    have := Nat.eq_zero_of_zero_dvd z
    omega
  · exact e
theorem dvd_mid {g t n r : Nat} (h1 : g ∣ t + n + r) (h2 : g ∣ t + r) : g ∣ n := by
  have z : (t + n + r) - (t + r) = n := by omega
  rw [← z]
  exact Nat.dvd_sub h1 h2
end RV
set_option maxHeartbeats 4000000
namespace RV
open PySem PySem.Spec PyProof.Rows L2
/-! ### dicts of ints -/
def kO (u : Int × Nat) : L2.Key × V := (Sum.inl u.1, V.int (u.2 : Int))
theorem kO_keys (us : List (Int × Nat)) : (us.map kO).map (·.1) = (us.map (·.1)).map Sum.inl := by
  rw [List.map_map, List.map_map]; rfl
theorem inl_mem {m : Int} {l : List Int} : (Sum.inl m : L2.Key) ∈ l.map Sum.inl ↔ m ∈ l := by
  rw [List.mem_map]
  constructor
  · rintro ⟨x, hx, e⟩
    cases e; exact hx
  · exact fun h => ⟨m, h, rfl⟩
theorem valO_not {us : List (Int × Nat)} {m : Int} (h : valV (us.map kO) (Sum.inl m) = none) : m ∉ us.map (·.1) := fun z => valV_not h (by rw [kO_keys]; exact inl_mem.mpr z)
theorem valO_in {us : List (Int × Nat)} {m : Int} {v : V} (h : valV (us.map kO) (Sum.inl m) = some v) : m ∈ us.map (·.1) := by
  have z := valV_in h
  rw [kO_keys] at z
  exact inl_mem.mp z
theorem valO_at : ∀ {us : List (Int × Nat)} {u : Int × Nat}, (us.map (·.1)).Nodup → u ∈ us → valV (us.map kO) (Sum.inl u.1) = some (.int (u.2 : Int))
  | [], u, _, h => nomatch h
  | v :: us, u, nd, h => by
    rw [List.map_cons, List.nodup_cons] at nd
    rw [List.map_cons]
    rcases List.mem_cons.mp h with rfl | h
    · exact valV_pos rfl
    · rw [valV_neg]
      · exact valO_at nd.2 h
      · intro e
        have e' : v.1 = u.1 := Sum.inl.inj e
        exact nd.1 (by rw [e']; exact List.mem_map_of_mem h)
theorem putO_new {us : List (Int × Nat)} {m : Int} {n : Nat} (h : valV (us.map kO) (Sum.inl m) = none) : putK (us.map kO) (Sum.inl m) (.int (n : Int)) = (us ++ [(m, n)]).map kO := by
  rw [putK_new _ h, List.map_append]; rfl
/-! ### steps off the least mark -/
structure Offs (ps : List (List Int)) (p : List Int) (x : Int) (us : List (Int × Nat)) : Prop where
  nd : (us.map (·.1)).Nodup
  wk : ∀ u ∈ us, Wk ps u.2 x u.1 ∧ u.1 ∈ p ∧ u.2 ≤ 7
  all : ∀ m ∈ p, m ∈ us.map (·.1)
/-- as they are found -/
structure Bf (ps : List (List Int)) (p : List Int) (x : Int) (us : List (Int × Nat)) : Prop where
  nd : (us.map (·.1)).Nodup
  first : us[0]? = some (x, 0)
  wk : ∀ (i : Nat) (u : Int × Nat), us[i]? = some u → Wk ps u.2 x u.1 ∧ u.1 ∈ p ∧ u.2 ≤ i
theorem Bf.len {ps : List (List Int)} {p : List Int} {x : Int} {us : List (Int × Nat)} (h : Bf ps p x us) : us.length ≤ p.length := by
  have := nodup_le (us := p) h.nd fun m hm => by
    obtain ⟨u, hu, rfl⟩ := List.mem_map.mp hm
    obtain ⟨i, hi, e⟩ := List.getElem_of_mem hu
    exact (h.wk i u (by rw [List.getElem?_eq_getElem hi, e])).2.1
  rwa [List.length_map] at this
theorem Bf.start {ps : List (List Int)} {p : List Int} {x : Int} (hx : x ∈ p) : Bf ps p x [(x, 0)] := by
  refine ⟨by simp, rfl, fun i u h => ?_⟩
  cases i with
  | zero =>
    have e : (x, 0) = u := Option.some.inj h
    subst e
    exact ⟨.nil x, hx, Nat.le_refl _⟩
  | succ i => simp at h
theorem Bf.add {ps : List (List Int)} {p : List Int} {x : Int} {us : List (Int × Nat)} (h : Bf ps p x us) {a : Nat} {u : Int × Nat} {y : Int} (hu : us[a]? = some u) (e : [u.1, y] ∈ ps) (hy : y ∈ p) (ny : y ∉ us.map (·.1)) : Bf ps p x (us ++ [(y, u.2 + 1)]) := by
  have hl : 0 < us.length := by
    have := (List.getElem?_eq_some_iff.mp h.first).1
    exact this
  refine ⟨?_, by rw [List.getElem?_append_left hl]; exact h.first, fun i v hv => ?_⟩
  · rw [List.map_append, List.nodup_append]
    exact ⟨h.nd, by simp, fun b hb c hc e => ny (by
      have := List.mem_singleton.mp (show c ∈ [y] from hc)
      rw [← this, ← e]; exact hb)⟩
  · by_cases hi : i < us.length
    · rw [List.getElem?_append_left hi] at hv
      exact h.wk i v hv
    · have hi2 := (List.getElem?_eq_some_iff.mp hv).1
      rw [List.length_append] at hi2
      have ei : i = us.length := by
        have : [(y, u.2 + 1)].length = 1 := rfl
        omega
      subst ei
      rw [List.getElem?_append_right (Nat.le_refl _), Nat.sub_self] at hv
      have ev : (y, u.2 + 1) = v := Option.some.inj hv
      subst ev
      obtain ⟨w1, w2, w3⟩ := h.wk a u hu
      have := (List.getElem?_eq_some_iff.mp hu).1
      exact ⟨.more w1 e, hy, by show u.2 + 1 ≤ us.length; omega⟩
/-- a part: what lies between its marks is in it -/
structure Knot (ps : List (List Int)) (p : List Int) (x : Int) : Prop where
  x_in : x ∈ p
  out : ∀ m ∈ p, ∃ n, Wk ps n x m
  back : ∀ m ∈ p, ∃ n, Wk ps n m x
  mid : ∀ m, (∃ n, Wk ps n x m) → (∃ n, Wk ps n m x) → m ∈ p
theorem Knot.way {ps : List (List Int)} {p : List Int} {x : Int} (k : Knot ps p x) {n : Nat} {j m : Int} (h : Wk ps n x j) (e : [j, m] ∈ ps) (hm : m ∈ p) : j ∈ p := by
  obtain ⟨r, w⟩ := k.back m hm
  exact k.mid j ⟨n, h⟩ ⟨1 + r, (Wk.one e).trans w⟩
theorem Bf.offs {ps : List (List Int)} {p : List Int} {x : Int} {us : List (Int × Nat)} (h : Bf ps p x us) (k : Knot ps p x) (h8 : p.length ≤ 8) (done : ∀ (i : Nat) (u : Int × Nat), us[i]? = some u → ∀ y ∈ p, [u.1, y] ∈ ps → y ∈ us.map (·.1)) : Offs ps p x us := by
  refine ⟨h.nd, fun u hu => ?_, fun m hm => ?_⟩
  · obtain ⟨i, hi, e⟩ := List.getElem_of_mem hu
    obtain ⟨w1, w2, w3⟩ := h.wk i u (by rw [List.getElem?_eq_getElem hi, e])
    have := h.len
    exact ⟨w1, w2, by omega⟩
  · have : ∀ {n : Nat} {m : Int}, Wk ps n x m → m ∈ p → m ∈ us.map (·.1) := by
      intro n
      induction n with
      | zero =>
        intro m w _
        rw [← w.zero]
        exact List.mem_map_of_mem (List.mem_of_getElem? h.first)
      | succ n ih =>
        intro m w hm
        cases w with
        | more w e =>
          have hj := ih w (k.way w e hm)
          obtain ⟨u, hu, eu⟩ := List.mem_map.mp hj
          obtain ⟨i, hi, ei⟩ := List.getElem_of_mem hu
          exact done i u (by rw [List.getElem?_eq_getElem hi, ei]) m hm (by rw [eu]; exact e)
    obtain ⟨n, w⟩ := k.out m hm
    exact this w hm
/-! ### the period by these -/
theorem Offs.get {ps : List (List Int)} {p : List Int} {x : Int} {us : List (Int × Nat)} (h : Offs ps p x us) {m : Int} (hm : m ∈ p) : ∃ o : Nat, (m, o) ∈ us ∧ Wk ps o x m ∧ o ≤ 7 := by
  obtain ⟨u, hu, e⟩ := List.mem_map.mp (h.all m hm)
  obtain ⟨w1, _, w3⟩ := h.wk u hu
  refine ⟨u.2, ?_, by rw [← e]; exact w1, w3⟩
  rw [← e]; exact hu
theorem Offs.one {ps : List (List Int)} {p : List Int} {x : Int} {us : List (Int × Nat)} (h : Offs ps p x us) {m : Int} {a b : Nat} (h1 : (m, a) ∈ us) (h2 : (m, b) ∈ us) : a = b := by
  have e1 := valO_at h.nd h1
  have e2 := valO_at h.nd h2
  rw [e1] at e2
  have := Option.some.inj e2
  injection this with e
  omega
def gapO (a b : Nat) : Nat := ((a : Int) + 1 - (b : Int)).natAbs
/-- what period has found so far -/
structure Gf (ps : List (List Int)) (p : List Int) (us : List (Int × Nat)) (qs : List (List Int)) (g : Nat) : Prop where
  all : ∀ (x y : Int) (a b : Nat), [x, y] ∈ qs → x ∈ p → y ∈ p → (x, a) ∈ us → (y, b) ∈ us → g ∣ gapO a b
  most : ∀ d : Nat, (∀ (x y : Int) (a b : Nat), [x, y] ∈ qs → x ∈ p → y ∈ p → (x, a) ∈ us → (y, b) ∈ us → d ∣ gapO a b) → d ∣ g
theorem gap_dvd {g a b : Nat} (h : g ∣ gapO a b) : ((a : Int) + 1) % g = (b : Int) % g := by
  have z : (g : Int) ∣ (a : Int) + 1 - (b : Int) := Int.ofNat_dvd_left.mpr h
  exact Int.emod_eq_emod_iff_emod_sub_eq_zero.mpr (Int.emod_eq_zero_of_dvd z)
theorem dvd_gap {d a b r : Nat} (h1 : d ∣ a + 1 + r) (h2 : d ∣ b + r) : d ∣ gapO a b := by
  have z : (d : Int) ∣ ((a + 1 + r : Nat) : Int) - ((b + r : Nat) : Int) := Int.dvd_sub (Int.ofNat_dvd.mpr h1) (Int.ofNat_dvd.mpr h2)
  have e : ((a + 1 + r : Nat) : Int) - ((b + r : Nat) : Int) = (a : Int) + 1 - (b : Int) := by omega
  rw [e] at z
  exact Int.ofNat_dvd_left.mp z
theorem Gf.per {ps : List (List Int)} {p : List Int} {x : Int} {us : List (Int × Nat)} {g n : Nat} (G : Gf ps p us ps g) (O : Offs ps p x us) (k : Knot ps p x) (hb : ∀ q ∈ ps, Pr (n : Int) q) (h8 : n ≤ 8) (hp : ∀ m ∈ p, 0 ≤ m ∧ m < (n : Int)) : Per ps x g := by
  obtain ⟨o0, m0, w0, _⟩ := O.get k.x_in
  have key : ∀ {t : Nat} {m : Int}, Wk ps t x m → m ∈ p → ∀ a, (m, a) ∈ us → ((t : Int) + o0) % g = (a : Int) % g := by
    intro t
    induction t with
    | zero =>
      intro m w hm a ha
      rw [← w.zero] at ha
      rw [O.one ha m0]
      simp
    | succ t ih =>
      intro m w hm a ha
      cases w with
      | @more _ _ j _ w e =>
        have hj := k.way w e hm
        obtain ⟨b, hb', _, _⟩ := O.get hj
        have h1 := ih w hj b hb'
        have h2 := gap_dvd (G.all j m b a e hj hm hb' ha)
        have e3 : ((t + 1 : Nat) : Int) + o0 = ((t : Int) + o0) + 1 := by omega
        rw [e3, ← h2, Int.add_emod, h1, ← Int.add_emod]
  have o0z : (o0 : Int) % g = 0 := by
    have z := key w0 k.x_in o0 m0
    have e : ((o0 : Int) + o0 - o0) % g = 0 := Int.emod_eq_emod_iff_emod_sub_eq_zero.mp z
    have e2 : (o0 : Int) + o0 - o0 = o0 := by omega
    rwa [e2] at e
  refine ⟨fun t w => ?_, fun d hd => ?_⟩
  · have z := key w k.x_in o0 m0
    have e : ((t : Int) + o0 - o0) % g = 0 := Int.emod_eq_emod_iff_emod_sub_eq_zero.mp z
    have e2 : (t : Int) + o0 - o0 = t := by omega
    rw [e2] at e
    exact Int.ofNat_dvd.mp (Int.dvd_of_emod_eq_zero e)
  · refine G.most d fun y z a b hyz hy hz ha hb' => ?_
    obtain ⟨r0, wr0⟩ := k.back z hz
    obtain ⟨r, hr, wr⟩ := wk_short hb (hp z hz) wr0
    have wa := (O.wk _ ha)
    have wb := (O.wk _ hb')
    have a7 : a ≤ 7 := wa.2.2
    have b7 : b ≤ 7 := wb.2.2
    exact dvd_gap (hd (a + 1 + r) (by omega) ((Wk.more wa.1 hyz).trans wr)) (hd (b + r) (by omega) (Wk.trans wb.1 wr))
theorem Gf.nil {ps : List (List Int)} {p : List Int} {us : List (Int × Nat)} : Gf ps p us [] 0 := ⟨(fun _ _ _ _ h => nomatch h), fun d _ => Nat.dvd_zero d⟩
theorem Gf.skip {ps : List (List Int)} {p : List Int} {us : List (Int × Nat)} {qs : List (List Int)} {g : Nat} {x y : Int} (G : Gf ps p us qs g) (no : ¬ (x ∈ p ∧ y ∈ p)) : Gf ps p us (qs ++ [[x, y]]) g := by
  refine ⟨fun x' y' a b h hx hy ha hb => ?_, fun d hd => G.most d fun x' y' a b h => hd x' y' a b (List.mem_append_left _ h)⟩
  rcases List.mem_append.mp h with z | z
  · exact G.all x' y' a b z hx hy ha hb
  · have z := List.mem_singleton.mp z
    injection z with z1 z2
    injection z2 with z2 _
    subst z1 z2
    exact absurd ⟨hx, hy⟩ no
theorem Gf.add {ps : List (List Int)} {p : List Int} {us : List (Int × Nat)} {qs : List (List Int)} {g : Nat} {x y : Int} {a b : Nat} {z : Int} (O : Offs ps p z us) (G : Gf ps p us qs g) (hx : x ∈ p) (hy : y ∈ p) (ha : (x, a) ∈ us) (hb : (y, b) ∈ us) : Gf ps p us (qs ++ [[x, y]]) (Nat.gcd g (gapO a b)) := by
  refine ⟨fun x' y' a' b' h hx' hy' ha' hb' => ?_, fun d hd => Nat.dvd_gcd (G.most d fun x' y' a b h => hd x' y' a b (List.mem_append_left _ h)) (hd x y a b (List.mem_append_right _ (List.mem_singleton.mpr rfl)) hx hy ha hb)⟩
  rcases List.mem_append.mp h with e | e
  · exact Nat.dvd_trans (Nat.gcd_dvd_left _ _) (G.all x' y' a' b' e hx' hy' ha' hb')
  · have e := List.mem_singleton.mp e
    injection e with e1 e2
    injection e2 with e2 _
    subst e1 e2
    rw [O.one ha' ha, O.one hb' hb]
    exact Nat.gcd_dvd_right _ _
end RV
set_option maxHeartbeats 4000000
namespace K4
open PySem PySem.Spec PyProof.Rows L2 RV
/-- how many steps off the mark g the marks are, as found so far -/
structure Off (n : Int) (ps : List (List Int)) (g : Int) (us : List (Int × Nat)) : Prop where
  nd : (us.map (·.1)).Nodup
  inn : ∀ u ∈ us, 0 ≤ u.1 ∧ u.1 < n
  lev : ∀ u ∈ us, u.2 < us.length
  goal : (g, 0) ∈ us
  back : ∀ u ∈ us, (u.1 = g ∧ u.2 = 0) ∨ ∃ v ∈ us, u.2 = v.2 + 1 ∧ [u.1, v.1] ∈ ps
theorem Off.one {n : Int} {ps : List (List Int)} {g : Int} (h : 0 ≤ g ∧ g < n) : Off n ps g [(g, 0)] :=
  ⟨List.nodup_cons.mpr ⟨List.not_mem_nil, List.nodup_nil⟩, fun u hu => by rw [List.mem_singleton.mp hu]; exact h, fun u hu => by rw [List.mem_singleton.mp hu]; exact Nat.zero_lt_one, List.mem_singleton.mpr rfl, fun u hu => by rw [List.mem_singleton.mp hu]; exact .inl ⟨rfl, rfl⟩⟩
theorem Off.add {n : Int} {ps : List (List Int)} {g y : Int} {us : List (Int × Nat)} {u : Int × Nat} (h : Off n ps g us) (hu : u ∈ us) (e : [y, u.1] ∈ ps) (hy : 0 ≤ y ∧ y < n) (ny : y ∉ us.map (·.1)) : Off n ps g (us ++ [(y, u.2 + 1)]) := by
  refine ⟨?_, fun v hv => ?_, fun v hv => ?_, List.mem_append_left _ h.goal, fun v hv => ?_⟩
  · rw [List.map_append, List.nodup_append]
    exact ⟨h.nd, by simp, fun a ha b hb z => ny (by rw [show y = b from (List.mem_singleton.mp hb).symm, ← z]; exact ha)⟩
  · rcases List.mem_append.mp hv with z | z
    · exact h.inn v z
    · rw [List.mem_singleton.mp z]; exact hy
  · rw [List.length_append]
    rcases List.mem_append.mp hv with z | z
    · have := h.lev v z; simp only [List.length_cons, List.length_nil]; omega
    · rw [List.mem_singleton.mp z]
      have := h.lev u hu
      simp only [List.length_cons, List.length_nil]; omega
  · rcases List.mem_append.mp hv with z | z
    · rcases h.back v z with b | ⟨w, hw, b⟩
      · exact .inl b
      · exact .inr ⟨w, List.mem_append_left _ hw, b⟩
    · rw [List.mem_singleton.mp z]
      exact .inr ⟨u, List.mem_append_left _ hu, rfl, e⟩
theorem Off.len {n : Nat} {ps : List (List Int)} {g : Int} {us : List (Int × Nat)} (h : Off (n : Int) ps g us) : us.length ≤ n := by
  have := few_below h.nd fun x hx => by
    obtain ⟨u, hu, rfl⟩ := List.mem_map.mp hx
    exact h.inn u hu
  rwa [List.length_map] at this
theorem Off.val {n : Int} {ps : List (List Int)} {g : Int} {us : List (Int × Nat)} (h : Off n ps g us) {x : Int} (hx : x ∈ us.map (·.1)) : ∃ d : Nat, (x, d) ∈ us ∧ valV (us.map kO) (Sum.inl x) = some (.int (d : Int)) := by
  obtain ⟨u, hu, rfl⟩ := List.mem_map.mp hx
  exact ⟨u.2, hu, valO_at h.nd hu⟩
theorem Off.fn {n : Int} {ps : List (List Int)} {g : Int} {us : List (Int × Nat)} (h : Off n ps g us) {x : Int} {a b : Nat} (h1 : (x, a) ∈ us) (h2 : (x, b) ∈ us) : a = b := by
  have e1 := valO_at h.nd h1
  have e2 := valO_at h.nd h2
  rw [e1] at e2
  injection e2 with e2
  injection e2 with e2
  omega
/-- no mark that leads into them lacks -/
def Full (ps : List (List Int)) (us : List (Int × Nat)) : Prop := ∀ x y, [x, y] ∈ ps → y ∈ us.map (·.1) → x ∈ us.map (·.1)
/-- so it is, or one more has been found in this round -/
def Grow (ps : List (List Int)) (j : Nat) (us0 us : List (Int × Nat)) : Prop := (us = us0 ∧ ∀ x y, [x, y] ∈ ps.take j → y ∈ us0.map (·.1) → x ∈ us0.map (·.1)) ∨ (us0.length < us.length ∧ ¬ Full ps us0)
theorem Grow.skip {ps : List (List Int)} {j : Nat} {us0 us : List (Int × Nat)} {x y : Int} (h : Grow ps j us0 us) (g : ps[j]? = some [x, y]) (no : ¬ (y ∈ us.map (·.1) ∧ x ∉ us.map (·.1))) : Grow ps (j + 1) us0 us := by
  rcases h with ⟨rfl, h⟩ | h
  · refine .inl ⟨rfl, fun x' y' hp hy => ?_⟩
    rw [List.take_add_one, g] at hp
    rcases List.mem_append.mp hp with z | z
    · exact h x' y' z hy
    · have e : [x', y'] = [x, y] := List.mem_singleton.mp z
      injection e with e1 e2
      injection e2 with e2 _
      subst e1 e2
      exact Classical.byContradiction fun z => no ⟨hy, z⟩
  · exact .inr h
theorem Grow.put {ps : List (List Int)} {j : Nat} {us0 us : List (Int × Nat)} {x y : Int} {d : Nat} (h : Grow ps j us0 us) (g : [x, y] ∈ ps) (hy : y ∈ us.map (·.1)) (nx : x ∉ us.map (·.1)) : Grow ps (j + 1) us0 (us ++ [(x, d)]) := by
  rcases h with ⟨rfl, h⟩ | h
  · exact .inr ⟨by rw [List.length_append]; exact Nat.lt_succ_self _, fun f => nx (f x y g hy)⟩
  · exact .inr ⟨by rw [List.length_append]; exact Nat.lt_succ_of_lt h.1, h.2⟩
/-- who leads to g, it too -/
inductive Ld (ps : List (List Int)) : Int → Int → Prop
  | here (g : Int) : Ld ps g g
  | step {x y g : Int} : [x, y] ∈ ps → Ld ps y g → Ld ps x g
theorem Off.mem_of {n : Int} {ps : List (List Int)} {g : Int} {us : List (Int × Nat)} (h : Off n ps g us) (f : Full ps us) {x : Int} (l : Ld ps x g) : x ∈ us.map (·.1) := by
  induction l with
  | here g => exact List.mem_map_of_mem (f := (·.1)) h.goal
  | step e _ ih => exact f _ _ e (ih h)
theorem Off.leads {n : Int} {ps : List (List Int)} {g : Int} {us : List (Int × Nat)} (h : Off n ps g us) : ∀ (d : Nat) (x : Int), (x, d) ∈ us → Ld ps x g
  | 0, x, hx => by
    rcases h.back _ hx with ⟨e, _⟩ | ⟨v, _, e, _⟩
    · have e : x = g := e
      rw [e]; exact .here g
    · exact absurd e (Nat.succ_ne_zero _).symm
  | d + 1, x, hx => by
    rcases h.back _ hx with ⟨_, e⟩ | ⟨v, hv, e, st⟩
    · exact absurd e (Nat.succ_ne_zero _)
    · have e : d + 1 = v.2 + 1 := e
      exact .step st (Off.leads h d v.1 (by rw [show d = v.2 by omega]; exact hv))
theorem Off.mem {n : Int} {ps : List (List Int)} {g : Int} {us : List (Int × Nat)} (h : Off n ps g us) (f : Full ps us) {x : Int} : x ∈ us.map (·.1) ↔ Ld ps x g := by
  refine ⟨fun hx => ?_, h.mem_of f⟩
  obtain ⟨u, hu, rfl⟩ := List.mem_map.mp hx
  exact h.leads u.2 u.1 hu
section
variable {P : Program} {w : World} {K : PySem.W.Frag} {mg : Str → Option Value} {base : Heap}
/-! ### _law_off -/
abbrev nLOff : List Str := ["_law_steps_here", "_law_goal", "_law_found", "_law_turn", "_law_one", "_law_other"]
theorem scLOff : FnScope nLOff ["_law_steps_here", "_law_goal"] (defScope sLOff) := ⟨rfl, rfl, rfl, by decide +kernel, rfl, by decide +kernel, by decide +kernel⟩
def spLOff (K : PySem.W.Frag) : Sp := fun vs H Q _ => ∃ (a : Addr) (g : Int) (n : Nat) (ps : List (List Int)), vs = [.ref a, .int g] ∧ Tups K H a ps ∧ (∀ p ∈ ps, Pr (n : Int) p) ∧ n ≤ 8 ∧ (0 ≤ g ∧ g < (n : Int)) ∧
  ∀ (H' : Hp) (d : Addr) (us : List (Int × Nat)), Same H H' → H d = none → H' d = some (.dK (us.map kO)) → Off (n : Int) ps g us → Full ps us → Q (.ref d) H'
theorem ok_loff {f : Addr} {fd : FuncData} (F : Fun K "_law_off" "_law_off" sLOff f fd) (B : Bare mg) : FnOk P w K mg base CX0 1 f fd ["_law_steps_here", "_law_goal"] (spLOff K) := by
  refine F.ok scLOff (fun vs H Q E h => ?_) (fun cdv A outer s H vs Q E hr h => ?_)
  · obtain ⟨a, g, n, ps, rfl, _⟩ := h
    rfl
  · obtain ⟨a, g, n, ps, rfl, hTT, hP, n8, hg, q⟩ := h
    have hu := hu_of hr
    obtain ⟨ks, rfl, hT, hks⟩ := hTT
    refine ⟨_, pss_cons (ps_set (i := 2) scLOff.nd rfl (Or.inl rfl) (pe_disp (pps_cons (pv 1) pe_int pps_nil) rfl rfl (by simp) (by decide)))
      (pss_cons (ps_for PassesOwn.never rfl (pi_range1 (by rfl) B.range (pa_cons pe_int pa_nil)) (pg_name (i := 3) scLOff.nd rfl (Or.inl rfl))
        (pss_one (ps_for PassesOwn.never rfl (pi_tup (pv 0)) (pg_tup rfl (pgs_cons (pg_name (i := 4) scLOff.nd rfl (Or.inl rfl)) (pgs_cons (pg_name (i := 5) scLOff.nd rfl (Or.inl rfl)) pgs_nil)))
          (pss_one (ps_if (PW.pt (pw_and (pt_cmp (pc_din hu (pv 5) (pv 2))) (pw_and1 (pt_cmp (pc_dnotin hu (pv 4) (pv 2))))))
            (pss_one (ps_dput hu (pv 2) (pv 4) (pe_op op_add (pe_dget hu (pv 2) (pv 5) (fun _ _ => rfl)) pe_int) rfl)) pss_nil)))))
      (pss_one (ps_ret (pv 2)))), ?_⟩
    intro d nd
    refine ⟨.int g, rfl, upd_same, [(Sum.inl g, .int 0)], rfl, (by show 1 ≤ 15; decide), ?_⟩
    have s1 : Same H (upd (upd H d (.dK [])) d (.dK (mergeK [] [(Sum.inl g, .int 0)]))) := fun b o e => by
      rw [upd_ne (ne_of_none e nd), upd_ne (ne_of_none e nd)]; exact e
    have ed : (upd (upd H d (.dK [])) d (.dK (mergeK [] [(Sum.inl g, .int 0)]))) d = some (.dK ([(g, 0)].map kO)) := upd_same
    generalize upd (upd H d (.dK [])) d (.dK (mergeK [] [(Sum.inl g, .int 0)])) = H1 at s1 ed ⊢
    refine ⟨8, rfl, by decide, by decide, ?_⟩
    refine for_range (lo := 0) (n := (8 : Int).toNat) (fun i σ H' => ∃ (us : List (Int × Nat)) (y3 y4 y5 : Option V), σ = [some (.ref a), some (.int g), some (.ref d), y3, y4, y5] ∧ Same H H' ∧ H' d = some (.dK (us.map kO)) ∧ Off (n : Int) (ks.map (·.2)) g us ∧ (Full (ks.map (·.2)) us ∨ i + 1 ≤ us.length))
      ⟨[(g, 0)], none, none, none, rfl, s1, ed, Off.one hg, .inr (Nat.le_refl _)⟩ ?_ ?_
    · rintro i σ H2 hi ⟨us0, y3, y4, y5, rfl, s2, ed2, off, gr0⟩
      refine ⟨.ref a, rfl, a, rfl, ⟨_, sqT_same s2 hT⟩, ?_⟩
      refine for_tup (K := K) (a := a) (xs := ks.map fun k => V.ref k.1) (fun j σ H' => ∃ (us : List (Int × Nat)) (y4 y5 : Option V), σ = [some (.ref a), some (.int g), some (.ref d), some (.int (0 + (i : Nat))), y4, y5] ∧ Same H H' ∧ H' d = some (.dK (us.map kO)) ∧ Off (n : Int) (ks.map (·.2)) g us ∧ Grow (ks.map (·.2)) j us0 us)
        ⟨us0, y4, y5, rfl, s2, ed2, off, .inl ⟨rfl, fun _ _ z => by simp at z⟩⟩ (fun j σ H' _ h => ?_) (fun j x σ H3 hx h => ?_) (fun σ H' h => ?_)
      · obtain ⟨_, _, _, _, s', _⟩ := h
        exact sqT_same s' hT
      · obtain ⟨us, y4, y5, rfl, s3, ed3, off3, gr⟩ := h
        obtain ⟨k, gk, rfl⟩ := map_at hx
        have km := List.mem_of_getElem? gk
        obtain ⟨x, y, e, hx, hy⟩ := hP k.2 (List.mem_map_of_mem km)
        have hkT : SqT K H3 k.1 ([x, y].map V.int) := by rw [← e]; exact sqT_same s3 (hks k km)
        have gxy : (ks.map (·.2))[j]? = some [x, y] := by rw [List.getElem?_map, gk, ← e]; rfl
        have exy : [x, y] ∈ ks.map (·.2) := by rw [← e]; exact List.mem_map_of_mem km
        refine ⟨k.1, _, rfl, hkT, rfl, _, _, rfl, _, _, rfl, rfl, ?_⟩
        refine ⟨.int y, rfl, .ref d, rfl, d, _, rfl, DGet.k (k := Sum.inl y) ed3, _, rfl, ?_⟩
        cases ev : valV (us.map kO) (Sum.inl y) with
        | none =>
          refine iteF (iteF ?_)
          exact ⟨us, _, _, rfl, s3, ed3, off3, gr.skip gxy fun z => valO_not ev z.1⟩
        | some v =>
          refine iteT ⟨.int x, rfl, .ref d, rfl, d, _, rfl, DGet.k (k := Sum.inl x) ed3, _, rfl, ?_⟩
          cases ex : valV (us.map kO) (Sum.inl x) with
          | some v' =>
            refine iteF ?_
            exact ⟨us, _, _, rfl, s3, ed3, off3, gr.skip gxy fun z => z.2 (valO_in ex)⟩
          | none =>
            refine iteT ?_
            obtain ⟨dd, hdd, ed⟩ := off3.val (valO_in ev)
            have l3 := off3.len
            have dput : DPut H3 d (kV (Sum.inl x)) (.int ((dd : Int) + 1)) (upd H3 d (.dK ((us ++ [(x, dd + 1)]).map kO))) := by
              rw [← putO_new ex]
              exact DPut.k ed3 (by rw [List.length_map]; exact few1 (by omega))
            refine ⟨.ref d, rfl, .int y, rfl, d, _, rfl, (by rw [← ed]; exact DGet.k (k := Sum.inl y) ed3), _, _, rfl, rfl, .ref d, rfl, .int x, rfl, d, upd H3 d (.dK ((us ++ [(x, dd + 1)]).map kO)), rfl, dput, ?_⟩
            exact ⟨us ++ [(x, dd + 1)], _, _, rfl, fun b o z => by rw [upd_ne (ne_of_none z nd)]; exact s3 b o z, upd_same, off3.add hdd exy hx (valO_not ex), gr.put exy (valO_in ev) (valO_not ex)⟩
      · obtain ⟨us, y4, y5, rfl, s3, ed3, off3, gr⟩ := h
        refine ⟨us, _, _, _, rfl, s3, ed3, off3, ?_⟩
        rcases gr with ⟨rfl, h⟩ | ⟨h1, h2⟩
        · rw [List.length_map, List.take_of_length_le (by rw [List.length_map]; exact Nat.le_refl _)] at h
          exact .inl h
        · have := gr0.resolve_left h2
          exact .inr (by omega)
    · rintro σ H2 ⟨us, y3, y4, y5, rfl, s2, ed2, off, gr⟩
      refine ⟨.ref d, rfl, q H2 d us s2 nd ed2 off (gr.resolve_right fun z => ?_)⟩
      have := off.len
      have : (8 : Int).toNat = 8 := rfl
      omega
/-! ### _law_behind -/
theorem scLBeh : FnScope ["_law_steps_here", "_law_mark", "_law_one", "_law_other"] ["_law_steps_here", "_law_mark"] (defScope sLBehind) := ⟨rfl, rfl, rfl, by decide +kernel, rfl, by decide +kernel, by decide +kernel⟩
def spLBeh (K : PySem.W.Frag) : Sp := fun vs H Q _ => ∃ (a : Addr) (m n : Int) (ps : List (List Int)), vs = [.ref a, .int m] ∧ Tups K H a ps ∧ ps.length ≤ 1000 ∧ (∀ p ∈ ps, Pr n p) ∧ ∀ (H' : Hp) (D : Addr), Same H H' → H D = none → H' D = some (.lst ((behindOf ps m).map V.int)) → Q (.ref D) H'
theorem ok_lbeh {f : Addr} {fd : FuncData} (F : Fun K "_law_behind" "_law_behind" sLBehind f fd) (B : Bare mg) : FnOk P w K mg base CX0 1 f fd ["_law_steps_here", "_law_mark"] (spLBeh K) := by
  refine F.ok scLBeh (fun vs H Q E h => ?_) (fun cdv A outer s H vs Q E hr h => ?_)
  · obtain ⟨a, m, n, ps, rfl, _⟩ := h
    rfl
  · obtain ⟨a, m, n, ps, rfl, hTT, hl, hp, q⟩ := h
    obtain ⟨ks, rfl, hT, hks⟩ := hTT
    refine ⟨_, pss_one (ps_ret (pe_lc (own := [("_law_one", 2), ("_law_other", 3)]) (g := gTup K 2 (gCons (gName 2) (gCons (gName 3) gNil))) rfl scLBeh.nd (pi_tup (pv 0)) (blkOk_by (N := ["_law_steps_here", "_law_mark", "_law_one", "_law_other"]) (sc := defScope sLBehind) (by decide +kernel))
          (fun _ _ _ _ _ => pg_tupK rfl rfl (pgs_cons (pg_name (i := 2) scLBeh.nd rfl (Or.inl rfl)) (pgs_cons (pg_name (i := 3) scLBeh.nd rfl (Or.inl rfl)) pgs_nil))) (fun _ _ _ _ _ => pts_one (pt_cmpR op_eq (pv 2) (pv 1) (nomark _))) (fun _ _ _ _ _ => pv 3))), ?_⟩
    refine ⟨.ref a, rfl, a, rfl, ⟨_, hT⟩, fun D nD => ?_⟩
    refine lc_tup (K := K) (a := a) (xs := ks.map fun p => V.ref p.1) (fun i H' => Same H H' ∧ H' D = some (.lst ((behindOf ((ks.map (·.2)).take i) m).map V.int))) ⟨same_upd nD, by rw [upd_same]; rfl⟩ (fun i H' _ p => sqT_same p.1 hT) (fun i x H' hx p => ?_) fun H' p => ?_
    · obtain ⟨k, g, rfl⟩ := map_at hx
      have hk : k ∈ ks := List.mem_of_getElem? g
      obtain ⟨x, y, e, _⟩ := hp k.2 (List.mem_map_of_mem hk)
      have hkT : SqT K H' k.1 ([x, y].map V.int) := by rw [← e]; exact sqT_same p.1 (hks k hk)
      have gi : (ks.map (·.2))[i]? = some [x, y] := by rw [List.getElem?_map, g, ← e]; rfl
      refine ⟨k.1, _, rfl, hkT, rfl, _, _, rfl, _, _, rfl, rfl, rfl, .int x, rfl, .int m, rfl, rfl, _, rfl, ?_⟩
      have hle := behind_len ((ks.map (·.2)).take i) m
      rw [List.length_take] at hle
      rw [decV]
      refine ite2 (fun hb => ?_) (fun hb => ?_)
      · have hb := of_decide_eq_true hb
        refine ⟨.int y, rfl, _, p.2, ?_, fun b o z => by rw [upd_ne (ne_of_none z nD)]; exact p.1 b o z, by rw [upd_same, behind_next gi, if_pos hb, List.map_append]; rfl⟩
        rw [List.length_map]; exact few1 (by omega)
      · exact ⟨p.1, by rw [p.2, behind_next gi, if_neg (fun z => hb (decide_eq_true z)), List.append_nil]⟩
    · rw [List.length_map, List.take_of_length_le (by rw [List.length_map]; exact Nat.le_refl _)] at p
      exact q _ D p.1 nD p.2
/-! ### _law_starts -/
/-- where closed walks may begin -/
def Beg (n : Nat) (ps : List (List Int)) (x : Int) : Prop := (0 ≤ x ∧ x < (n : Int)) ∧ ∃ y, [x, y] ∈ ps ∧ Ld ps y x
theorem any_key {n : Int} {ps : List (List Int)} {g : Int} {us : List (Int × Nat)} (h : Off n ps g us) (x : Int) : (valV (us.map kO) (Sum.inl x)).isSome = decide (x ∈ us.map (·.1)) := by
  cases e : valV (us.map kO) (Sum.inl x) with
  | none => rw [decide_eq_false (valO_not e)]; rfl
  | some v => rw [decide_eq_true (valO_in e)]; rfl
abbrev nStarts : List Str := ["_law_steps_here", "_law_many", "_law_found", "_law_mark", "_law_off_here", "_law_other"]
theorem scStarts : FnScope nStarts ["_law_steps_here", "_law_many"] (defScope sLStarts) := ⟨rfl, rfl, rfl, by decide +kernel, rfl, by decide +kernel, by decide +kernel⟩
def spStarts (K : PySem.W.Frag) : Sp := fun vs H Q _ => ∃ (a : Addr) (n : Nat) (ps : List (List Int)), vs = [.ref a, .int (n : Int)] ∧ Tups K H a ps ∧ (∀ p ∈ ps, Pr (n : Int) p) ∧ n ≤ 8 ∧ ps.length ≤ 64 ∧
  ∀ (H' : Hp) (D : Addr) (xs : List Int), Same H H' → H D = none → H' D = some (.lst (xs.map V.int)) → xs.length ≤ 8 → (∀ x ∈ xs, Beg n ps x) → Q (.ref D) H'
theorem ok_starts {f fO fB : Addr} {fd dO dB : FuncData} (F : Fun K "_law_starts" "_law_starts" sLStarts f fd) (B : Bare mg) (DO : DefAt K mg "_law_off" sLOff ["_law_steps_here", "_law_goal"] fO dO) (DB : DefAt K mg "_law_behind" sLBehind ["_law_steps_here", "_law_mark"] fB dB) :
    FnOk P w K mg base CX0 2 f fd ["_law_steps_here", "_law_many"] (spStarts K) := by
  have GO : FnOk P w K mg base CX0 1 fO dO ["_law_steps_here", "_law_goal"] (spLOff K) := ok_loff DO.fn B
  have GB : FnOk P w K mg base CX0 1 fB dB ["_law_steps_here", "_law_mark"] (spLBeh K) := ok_lbeh DB.fn B
  refine F.ok scStarts (fun vs H Q E h => ?_) (fun cdv A outer s H vs Q E hr h => ?_)
  · obtain ⟨a, n, ps, rfl, _⟩ := h
    rfl
  · obtain ⟨a, n, ps, rfl, hTT, hP, n8, hl, q⟩ := h
    have hu := hu_of hr
    refine ⟨_, pss_cons (ps_set (i := 2) scStarts.nd rfl (Or.inl rfl) (pe_lst pa_nil))
      (pss_cons (ps_for PassesOwn.never rfl (pi_range1 (by rfl) B.range (pa_cons (pv 1) pa_nil)) (pg_name (i := 3) scStarts.nd rfl (Or.inl rfl))
        (pss_cons (ps_set (i := 4) scStarts.nd rfl (Or.inr rfl) (pe_call GO hr (by rfl) DO.mg DO.fn.kp DO.bi .nil pass0 (pa_cons (pv 0) (pa_cons (pv 3) pa_nil))))
        (pss_one (ps_if (pt_cmpR (op_neD hr.units)
            (pe_lc (own := [("_law_other", 5)]) (g := gName 5) rfl scStarts.nd (pi_list (pe_call GB hr (by rfl) DB.mg DB.fn.kp DB.bi .nil pass0 (pa_cons (pv 0) (pa_cons (pv 3) pa_nil)))) (blkOk_by (N := nStarts) (sc := defScope sLStarts) (by decide +kernel))
              (fun _ _ _ _ _ => pg_name (i := 5) scStarts.nd rfl (Or.inl rfl)) (fun _ _ _ _ _ => pts_one (pt_cmp (pc_din hu (pv 5) (pv 4)))) (fun _ _ _ _ _ => pv 5)) (pe_lst pa_nil) (nomark _))
          (pss_one (ps_expr (pe_bm PySem.F.plainAttrs_list PySem.F.slot_list_append PySem.F.type_list_append mt_append (pv 2) (pa_cons (pv 3) pa_nil)))) pss_nil))))
      (pss_one (ps_ret (pv 2)))), ?_⟩
    refine ⟨Nat.zero_le _, fun l nl => ?_⟩
    refine ⟨.int (n : Int), rfl, (n : Int), rfl, by omega, by omega, ?_⟩
    refine for_range (lo := 0) (n := (n : Int).toNat) (fun i σ H' => ∃ (xs : List Int) (y3 y4 y5 : Option V), σ = [some (.ref a), some (.int (n : Int)), some (.ref l), y3, y4, y5] ∧ Same H H' ∧ H' l = some (.lst (xs.map V.int)) ∧ xs.length ≤ i ∧ (∀ x ∈ xs, Beg n ps x))
      ⟨[], none, none, none, rfl, same_upd nl, upd_same, Nat.le_refl _, fun _ z => nomatch z⟩ ?_ ?_
    · rintro i σ H1 hi ⟨xs, y3, y4, y5, rfl, s1, e1, lx, bx⟩
      have ei : (0 + ((i : Nat) : Int)) = (i : Int) := by omega
      rw [ei]
      refine ⟨.ref a, rfl, .int (i : Int), rfl, a, (i : Int), n, ps, rfl, hTT.same s1, hP, n8, ⟨by omega, by omega⟩, fun H2 d us s2 nd ed off full => ?_⟩
      refine ⟨.ref a, rfl, .int (i : Int), rfl, a, (i : Int), (n : Int), ps, rfl, hTT.same (s1.trans s2), by omega, hP, fun H3 D s3 nD eD => ?_⟩
      have bl := behind_len ps (i : Int)
      refine ⟨D, rfl, ⟨_, lstNew eD⟩, fun D2 nD2 => ?_⟩
      refine lc_filtL (f := fun y => decide (y ∈ us.map (·.1))) (lstNew eD) (by omega) nD2 (fun y hy H' s' A B h => ?_) (fun y H' Q h => ⟨.int y, rfl, h⟩) fun H4 s4 eD4 => ?_
      · refine ⟨.int y, rfl, .ref d, rfl, d, _, rfl, DGet.k (k := Sum.inl y) ((s3.trans s') _ _ ed), _, rfl, ?_⟩
        rw [any_key off]; exact h H' (Same.refl H')
      · refine ⟨Nat.zero_le _, fun c nc => ?_⟩
        have sc := same_upd (o := .lst []) nc
        refine ⟨.list _, .list (([] : List Int).map PyData.int), .lst (lstNew (sc _ _ eD4)) (dpInts _), .lst (lstNew upd_same) .nil, shapedL _, shapedL [], _, rfl, ?_⟩
        rw [eqvL]
        have s14 := ((s2.trans s3).trans s4).trans sc
        have el := s14 _ _ e1
        have s04 := s1.trans s14
        generalize upd H4 c (.lst []) = H5 at el s04 ⊢
        cases ef : (behindOf ps (i : Int)).filter fun y => decide (y ∈ us.map (·.1)) with
        | nil =>
          rw [decide_eq_true rfl]
          refine iteF ?_
          exact ⟨xs, _, _, _, rfl, s04, el, by omega, bx⟩
        | cons y ys =>
          rw [decide_eq_false (by simp)]
          refine iteT ⟨.ref l, rfl, .inl ⟨rfl, _, lstNew el⟩, .int (i : Int), rfl, l, _, _, rfl, rfl, el, by rw [List.length_map]; exact few1 (by omega), ?_⟩
          have hy : y ∈ (behindOf ps (i : Int)).filter fun y => decide (y ∈ us.map (·.1)) := by rw [ef]; exact List.mem_cons_self ..
          obtain ⟨h1, h2⟩ := List.mem_filter.mp hy
          refine ⟨xs ++ [(i : Int)], _, _, _, rfl, fun b o z => by rw [upd_ne (ne_of_none z nl)]; exact s04 b o z, by rw [upd_same, List.map_append]; rfl, by rw [List.length_append]; exact Nat.succ_le_succ lx, fun x hx => ?_⟩
          rcases List.mem_append.mp hx with z | z
          · exact bx x z
          · rw [List.mem_singleton.mp z]
            exact ⟨⟨by omega, by omega⟩, y, (mem_behind hP).mp h1, (off.mem full).mp (of_decide_eq_true h2)⟩
    · rintro σ H1 ⟨xs, y3, y4, y5, rfl, s1, e1, lx, bx⟩
      exact ⟨.ref l, rfl, q H1 l xs s1 nl e1 (by omega) bx⟩
end
end K4
set_option maxHeartbeats 4000000
namespace K4
open PySem PySem.Spec PyProof.Rows L2 RV
theorem cut_end (xs : List V) (v : V) : cutV (xs ++ [v]) none (some (-1)) = xs := by
  have h : HT.sIx (xs ++ [v]).length (xs ++ [v]).length (some (-1)) = xs.length := by
    show (if (-1 : Int) < 0 then ((-1 : Int) + ((xs ++ [v]).length : Int)).toNat else min (-1 : Int).toNat (xs ++ [v]).length) = _
    rw [if_pos (by decide), List.length_append]
    simp; omega
  unfold cutV
  rw [h, HT.sIx_none, List.drop_zero, Nat.sub_zero, List.take_left]
/-- the word so far, its last mark z -/
structure Wd (n : Int) (ps : List (List Int)) (x : Int) (us : List (Int × Nat)) (ws : List Int) (z : Int) : Prop where
  beg : ∀ y, (ws ++ [z])[0]? = some y → y = x
  ste : ∀ i a b, (ws ++ [z])[i]? = some a → (ws ++ [z])[i + 1]? = some b → [a, b] ∈ ps
  key : z ∈ us.map (·.1)
  inn : ∀ y ∈ ws, 0 ≤ y ∧ y < n
theorem Wd.one {n : Int} {ps : List (List Int)} {x : Int} {us : List (Int × Nat)} (h : x ∈ us.map (·.1)) : Wd n ps x us [] x :=
  ⟨fun y e => (Option.some.inj e).symm, (fun i a b _ e => absurd e (by simp)), h, fun _ z => nomatch z⟩
theorem Wd.add {n : Int} {ps : List (List Int)} {x : Int} {us : List (Int × Nat)} {ws : List Int} {z y : Int} (h : Wd n ps x us ws z) (hz : 0 ≤ z ∧ z < n) (e : [z, y] ∈ ps) (hy : y ∈ us.map (·.1)) : Wd n ps x us (ws ++ [z]) y := by
  refine ⟨fun v e => ?_, fun i a b ha hb => ?_, hy, fun v hv => ?_⟩
  · rw [List.getElem?_append_left (by simp)] at e
    exact h.beg v e
  · rcases Nat.lt_or_ge (i + 1) (ws ++ [z]).length with q | q
    · rw [List.getElem?_append_left (by omega)] at ha
      rw [List.getElem?_append_left q] at hb
      exact h.ste i a b ha hb
    · have il : i < (ws ++ [z]).length := by
        have := (List.getElem?_eq_some_iff.mp hb).1
        rw [List.length_append] at this
        simp only [List.length_cons, List.length_nil] at this
        omega
      rw [List.getElem?_append_left il] at ha
      rw [List.getElem?_append_right q] at hb
      rw [List.length_append] at il q hb
      simp only [List.length_cons, List.length_nil] at il q hb
      have ei : i = ws.length := by omega
      subst ei
      rw [List.getElem?_append_right (Nat.le_refl _), Nat.sub_self] at ha
      rw [Nat.sub_self] at hb
      cases ha
      cases hb
      exact e
  · rcases List.mem_append.mp hv with q | q
    · exact h.inn v q
    · rw [List.mem_singleton.mp q]; exact hz
theorem Wd.loop {n : Int} {ps : List (List Int)} {x : Int} {us : List (Int × Nat)} {ws : List Int} (h : Wd n ps x us ws x) : Loop ps x ws := by
  refine ⟨fun y e => h.beg y ?_, fun i a b ha hb => h.ste i a b ?_ hb⟩
  · rw [List.getElem?_append_left (List.getElem?_eq_some_iff.mp e).1]; exact e
  · rw [List.getElem?_append_left (List.getElem?_eq_some_iff.mp ha).1]; exact ha
section
variable {P : Program} {w : World} {K : PySem.W.Frag} {mg : Str → Option Value} {base : Heap}
/-! ### _law_closed -/
abbrev nClosed : List Str := ["_law_pail_here", "_law_steps_here", "_law_start", "_law_most", "_law_off_here", "_law_word", "_law_turn", "_law_mark"]
theorem scClosed : FnScope nClosed ["_law_pail_here", "_law_steps_here", "_law_start", "_law_most"] (defScope sClosed) := ⟨rfl, rfl, rfl, by decide +kernel, rfl, by decide +kernel, by decide +kernel⟩
def spClosed (K : PySem.W.Frag) : Sp := fun vs H Q _ => ∃ (p a : Addr) (t m n : Nat) (x : Int) (ps : List (List Int)), vs = [.ref p, .ref a, .int x, .int (m : Int)] ∧ PailAt H p t ∧ t ≤ 1500 ∧ Tups K H a ps ∧ (∀ p ∈ ps, Pr (n : Int) p) ∧ n ≤ 8 ∧ ps.length ≤ 64 ∧ Beg n ps x ∧ 1 ≤ m ∧ m ≤ 20 ∧
  ∀ (H' : Hp) (T : Addr) (ws : List Int) (t' : Nat), t' ≤ t + 21 → PailAt H' p t' → But p H H' → SqT K H' T (ws.map V.int) → Loop ps x ws → ws ≠ [] → ws.length ≤ m + 8 → (∀ y ∈ ws, 0 ≤ y ∧ y < (n : Int)) → Q (.ref T) H'
theorem ok_closed {f fO fB fD fF : Addr} {fd dO dB dD dF : FuncData} (F : Fun K "_law_closed" "_law_closed" sClosed f fd) (B : Bare mg) (DO : DefAt K mg "_law_off" sLOff ["_law_steps_here", "_law_goal"] fO dO) (DB : DefAt K mg "_law_behind" sLBehind ["_law_steps_here", "_law_mark"] fB dB)
    (DD : DefAt K mg "_law_draw" sDraw ["_law_pail_here", "_law_many"] fD dD) (DF : DefAt K mg "_law_of" sOf ["_law_pail_here", "_law_some"] fF dF) :
    FnOk P w K mg base CX0 3 f fd ["_law_pail_here", "_law_steps_here", "_law_start", "_law_most"] (spClosed K) := by
  have GO : FnOk P w K mg base CX0 1 fO dO ["_law_steps_here", "_law_goal"] (spLOff K) := ok_loff DO.fn B
  have GB : FnOk P w K mg base CX0 1 fB dB ["_law_steps_here", "_law_mark"] (spLBeh K) := ok_lbeh DB.fn B
  have GD : FnOk P w K mg base CX0 1 fD dD ["_law_pail_here", "_law_many"] spDraw := ok_draw DD.fn
  have GF : FnOk P w K mg base CX0 2 fF dF ["_law_pail_here", "_law_some"] (spOf K) := ok_of DF.fn DD B
  refine F.ok scClosed (fun vs H Q E h => ?_) (fun cdv A outer s H vs Q E hr h => ?_)
  · obtain ⟨p, a, t, m, n, x, ps, rfl, _⟩ := h
    rfl
  · obtain ⟨p, a, t, m, n, x, ps, rfl, hp, ht, hTT, hP, n8, hl, ⟨hx, y1, hxy, hy1⟩, m1, m20, q⟩ := h
    have hu := hu_of hr
    have r1 := hr.mono (show 1 ≤ 2 by decide)
    have two : (2 : Nat) ≤ sizeLine := by decide
    refine ⟨_, pss_cons (ps_asg (pe_tup (pa_cons (pe_call GO r1 (by rfl) DO.mg DO.fn.kp DO.bi .nil pass0 (pa_cons (pv 1) (pa_cons (pv 2) pa_nil))) (pa_cons (pe_lst (pa_cons (pv 2) pa_nil)) pa_nil))) (pg_tup rfl (pgs_cons (pg_name (i := 4) scClosed.nd rfl (Or.inr rfl)) (pgs_cons (pg_name (i := 5) scClosed.nd rfl (Or.inr rfl)) pgs_nil))))
      (pss_cons (ps_for PassesOwn.never rfl (pi_range1 (by rfl) B.range (pa_cons (pe_op op_add pe_int (pe_call GD r1 (by rfl) DD.mg DD.fn.kp DD.bi .nil pass0 (pa_cons (pv 0) (pa_cons (pv 3) pa_nil)))) pa_nil)) (pg_name (i := 6) scClosed.nd rfl (Or.inl rfl))
        (pss_one (ps_expr (pe_bm PySem.F.plainAttrs_list PySem.F.slot_list_append PySem.F.type_list_append mt_append (pv 5) (pa_cons (pe_call GF hr (by rfl) DF.mg DF.fn.kp DF.bi .nil pass0 (pa_cons (pv 0) (pa_cons
          (pe_lc (own := [("_law_mark", 7)]) (g := gName 7) rfl scClosed.nd (pi_list (pe_call GB r1 (by rfl) DB.mg DB.fn.kp DB.bi .nil pass0 (pa_cons (pv 1) (pa_cons (pe_ix ix_list (pv 5) (pe_un un_neg pe_int) (fun _ _ => rfl)) pa_nil)))) (blkOk_by (N := nClosed) (sc := defScope sClosed) (by decide +kernel))
            (fun _ _ _ _ _ => pg_name (i := 7) scClosed.nd rfl (Or.inl rfl)) (fun _ _ _ _ _ => pts_one (pt_cmp (pc_din hu (pv 7) (pv 4)))) (fun _ _ _ _ _ => pv 7)) pa_nil))) pa_nil)))))
      (pss_cons (ps_while PassesOwn.never (pt_cmpR op_ne (pe_ix ix_list (pv 5) (pe_un un_neg pe_int) (fun _ _ => rfl)) (pv 2) (nomark _))
        (pss_one (ps_expr (pe_bm PySem.F.plainAttrs_list PySem.F.slot_list_append PySem.F.type_list_append mt_append (pv 5) (pa_cons (pe_ix ix_list
          (pe_lc (own := [("_law_mark", 7)]) (g := gName 7) rfl scClosed.nd (pi_list (pe_call GB r1 (by rfl) DB.mg DB.fn.kp DB.bi .nil pass0 (pa_cons (pv 1) (pa_cons (pe_ix ix_list (pv 5) (pe_un un_neg pe_int) (fun _ _ => rfl)) pa_nil)))) (blkOk_by (N := nClosed) (sc := defScope sClosed) (by decide +kernel))
            (fun _ _ _ _ _ => pg_name (i := 7) scClosed.nd rfl (Or.inl rfl))
            (fun _ _ _ _ _ => pts_one (pt_cmpR op_eq (pe_dget2 hu (pv 4) (pv 7) pe_int ⟨by rfl, by rfl, by rfl, by rfl⟩) (pe_op op_sub (pe_dget hu (pv 4) (pe_ix (ix_listK (K := K) rfl) (pv 5) (pe_un un_neg pe_int) (fun _ _ => rfl)) (fun _ _ => rfl)) pe_int) (nomark _)))
            (fun _ _ _ _ _ => pv 7)) pe_int (fun _ _ => rfl)) pa_nil)))))
      (pss_one (ps_ret (pe_tupleOf (by rfl) B.tuple (pe_slice sl_list (pv 5) po_none (po_some (pe_un un_neg pe_int)))))))), ?_⟩
    refine ⟨.ref a, rfl, .int x, rfl, a, x, n, ps, rfl, hTT, hP, n8, hx, fun H1 d us s1 nd ed off full => ?_⟩
    refine ⟨.int x, rfl, (by show 1 ≤ sizeLine; decide), fun W nW => ⟨two, fun T0 nT0 => ?_⟩⟩
    have sW := same_upd (o := .lst [.int x]) nW
    have sT := same_upd (o := .tup [.ref d, .ref W]) nT0
    have nWH : H W = none := s1.free nW
    have s03 := (s1.trans sW).trans sT
    have ed3 := (sW.trans sT) _ _ ed
    have eW3 := sT _ _ (upd_same (H := H1) (a := W) (o := .lst [.int x]))
    have hWp : W ≠ p := pail_ne (pail_same hp s1) nW
    have hdp : d ≠ p := pail_ne hp nd
    have hp3 := pail_same hp s03
    have b03 : But p H (upd (upd H1 W (.lst [.int x])) T0 (.tup [.ref d, .ref W])) := But.of s03
    refine ⟨T0, _, rfl, tupNew upd_same, rfl, _, _, rfl, _, _, rfl, rfl, ?_⟩
    generalize upd (upd H1 W (.lst [.int x])) T0 (.tup [.ref d, .ref W]) = H3 at ed3 eW3 hp3 b03 ⊢
    have x_in : x ∈ us.map (·.1) := (off.mem full).mpr (.here x)
    have kin : ∀ z ∈ us.map (·.1), 0 ≤ z ∧ z < (n : Int) := fun z hz => by
      obtain ⟨u, hu, rfl⟩ := List.mem_map.mp hz
      exact off.inn u hu
    -- from a mark that leads on, on
    have onto : ∀ z ∈ us.map (·.1), ∃ y, [z, y] ∈ ps ∧ y ∈ us.map (·.1) := fun z hz => by
      obtain ⟨dd, hdd, _⟩ := off.val hz
      rcases off.back _ hdd with ⟨e, _⟩ | ⟨v, hv, _, e⟩
      · have e : z = x := e
        rw [e]
        exact ⟨y1, hxy, (off.mem full).mpr hy1⟩
      · exact ⟨v.1, e, List.mem_map_of_mem hv⟩
    refine ⟨.ref p, rfl, .int (m : Int), rfl, p, t, (m : Int), rfl, hp3, by omega, by omega, by omega, fun r t4 H4 r0 r1' ht4 hp4 b4 => ?_⟩
    refine ⟨_, _, rfl, rfl, (1 + r), rfl, by omega, by omega, ?_⟩
    have ed4 := b4 _ _ ed3 hdp
    have eW4 := b4 _ _ eW3 hWp
    have b04 := b03.trans b4
    refine for_range (lo := 0) (n := (1 + r).toNat) (fun i σ H' => ∃ (ws : List Int) (z : Int) (t' : Nat) (y6 y7 : Option V), σ = [some (.ref p), some (.ref a), some (.int x), some (.int (m : Int)), some (.ref d), some (.ref W), y6, y7] ∧ But p H H' ∧ PailAt H' p t' ∧ t' ≤ t4 + i ∧ H' d = some (.dK (us.map kO)) ∧ H' W = some (.lst ((ws ++ [z]).map V.int)) ∧ Wd (n : Int) ps x us ws z ∧ ws.length = i)
      ⟨[], x, t4, none, none, rfl, b04, hp4, Nat.le_refl _, ed4, eW4, Wd.one x_in, rfl⟩ ?_ ?_
    · rintro i σ H5 hi ⟨ws, z, t5, y6, y7, rfl, b5, hp5, ht5, ed5, eW5, wd, lw⟩
      have hz := kin z wd.key
      have hTT5 := tups_pail hp b5 hTT
      refine ⟨.ref W, rfl, .inl ⟨rfl, _, lstNew eW5⟩, .ref p, rfl, .ref a, rfl, .ref W, rfl, 1, rfl, W, _, _, .int z, rfl, rfl, lstNew eW5, (by rw [List.map_append]; exact atI_last _ _), a, z, (n : Int), ps, rfl, hTT5, by omega, hP, fun H6 D s6 nD eD => ?_⟩
      have bl := behind_len ps z
      refine ⟨D, rfl, ⟨_, lstNew eD⟩, fun D2 nD2 => ?_⟩
      refine lc_filtL (f := fun y => decide (y ∈ us.map (·.1))) (lstNew eD) (by omega) nD2 (fun y hy H' s' A B h => ?_) (fun y H' Q h => ⟨.int y, rfl, h⟩) fun H7 s7 eD7 => ?_
      · refine ⟨.int y, rfl, .ref d, rfl, d, _, rfl, DGet.k (k := Sum.inl y) ((s6.trans s') _ _ ed5), _, rfl, ?_⟩
        rw [any_key off]; exact h H' (Same.refl H')
      · have s57 := s6.trans s7
        have hp7 := pail_same hp5 s57
        have fl := List.length_filter_le (fun y => decide (y ∈ us.map (·.1))) (behindOf ps z)
        have hD2p : D2 ≠ p := pail_ne (pail_same hp5 s6) nD2
        obtain ⟨y2, hy2, ky2⟩ := onto z wd.key
        have pos : 0 < ((behindOf ps z).filter fun y => decide (y ∈ us.map (·.1))).length := List.length_pos_of_mem (List.mem_filter.mpr ⟨(mem_behind hP).mpr hy2, decide_eq_true ky2⟩)
        refine ⟨p, D2, t5, _, rfl, hp7, by omega, lstNew eD7, hD2p, by rw [List.length_map]; exact pos, by rw [List.length_map]; omega, fun j v t8 H8 gv ht8 hp8 b8 => ?_⟩
        obtain ⟨y, gy, rfl⟩ := map_at gv
        obtain ⟨h1, h2⟩ := List.mem_filter.mp (List.mem_of_getElem? gy)
        have e1 := (mem_behind hP).mp h1
        have e2 : y ∈ us.map (·.1) := of_decide_eq_true h2
        have eW8 := b8 _ _ (s57 _ _ eW5) hWp
        have ed8 := b8 _ _ (s57 _ _ ed5) hdp
        have b08 := (b5.trans (But.of s57)).trans b8
        refine ⟨W, _, _, rfl, rfl, eW8, by rw [List.length_map, List.length_append, lw]; exact few1 (by simp only [List.length_cons, List.length_nil]; omega), ?_⟩
        refine ⟨ws ++ [z], y, t8, _, _, rfl, fun b o e ne => by rw [upd_ne (ne_of_none e nWH)]; exact b08 b o e ne, pail_set hp8 hWp, by omega, ?_, ?_, wd.add hz e1 e2, by rw [List.length_append, lw]; rfl⟩
        · rw [upd_ne (ne_of ed8 eW8 (by intro z; cases z))]; exact ed8
        · rw [upd_same]; simp
    · rintro σ H5 ⟨ws, z, t5, y6, y7, rfl, b5, hp5, ht5, ed5, eW5, wd, lw⟩
      have lw1 : ws ≠ [] := fun e => by rw [e] at lw; have : (0 : Nat) = (1 + r).toNat := lw; omega
      have lw2 : ws.length ≤ m := by omega
      obtain ⟨dz, hdz, vz⟩ := off.val wd.key
      have ldz := off.lev _ hdz
      have lus := off.len
      refine ⟨fun k σ H' => ∃ (ws : List Int) (z : Int) (y6 y7 : Option V), σ = [some (.ref p), some (.ref a), some (.int x), some (.int (m : Int)), some (.ref d), some (.ref W), y6, y7] ∧ But p H H' ∧ PailAt H' p t5 ∧ H' d = some (.dK (us.map kO)) ∧ H' W = some (.lst ((ws ++ [z]).map V.int)) ∧ Wd (n : Int) ps x us ws z ∧ ws ≠ [] ∧ (z, k) ∈ us ∧ ws.length + k ≤ m + 8,
        ⟨dz, ws, z, y6, y7, rfl, b5, hp5, ed5, eW5, wd, lw1, hdz, by have : dz < us.length := ldz; omega⟩, ?_⟩
      rintro k σ H6 ⟨ws, z, y6, y7, rfl, b6, hp6, ed6, eW6, wd, lw1, hk, lwk⟩
      have hz := kin z wd.key
      have vz := valO_at off.nd hk
      have atz : atI ((ws ++ [z]).map V.int) (-1) = some (.int z) := by rw [List.map_append]; exact atI_last _ _
      refine ⟨.ref W, rfl, 1, rfl, W, _, _, .int z, rfl, rfl, lstNew eW6, atz, .int x, rfl, rfl, _, rfl, ?_⟩
      rw [decV]
      by_cases hzx : z = x
      · rw [decide_eq_true hzx]
        refine iteF ?_
        subst hzx
        refine ⟨.ref W, rfl, 1, rfl, _, rfl, W, _, rfl, lstNew eW6, fun S nS => ?_⟩
        rw [show (ws ++ [z]).map V.int = ws.map V.int ++ [.int z] by rw [List.map_append]; rfl, cut_end]
        have sS := same_upd (o := .lst (ws.map V.int)) nS
        refine .inl ⟨S, _, rfl, lstNew upd_same, fun u nu => ?_⟩
        have su := same_upd (o := .tup (ws.map V.int)) nu
        exact q _ u ws t5 (by omega) (pail_same hp6 (sS.trans su)) (b6.trans (But.of (sS.trans su))) (tupNew upd_same) wd.loop lw1 (by omega) wd.inn
      · rw [decide_eq_false hzx]
        refine iteT ?_
        -- one step nearer
        obtain ⟨v, hv, ek, ev⟩ : ∃ v ∈ us, k = v.2 + 1 ∧ [z, v.1] ∈ ps := by
          rcases off.back _ hk with ⟨e, _⟩ | z'
          · exact absurd e hzx
          · exact z'
        have hTT6 := tups_pail hp b6 hTT
        refine ⟨fun σ H' => ∃ (ws : List Int) (z : Int) (y6 y7 : Option V), σ = [some (.ref p), some (.ref a), some (.int x), some (.int (m : Int)), some (.ref d), some (.ref W), y6, y7] ∧ But p H H' ∧ PailAt H' p t5 ∧ H' d = some (.dK (us.map kO)) ∧ H' W = some (.lst ((ws ++ [z]).map V.int)) ∧ Wd (n : Int) ps x us ws z ∧ ws ≠ [] ∧ (z, v.2) ∈ us ∧ ws.length + v.2 ≤ m + 8, fun σ' H' z => ⟨v.2, by omega, z⟩, ?_⟩
        refine ⟨.ref W, rfl, .inl ⟨rfl, _, lstNew eW6⟩, .ref a, rfl, .ref W, rfl, 1, rfl, W, _, _, .int z, rfl, rfl, lstNew eW6, atz, a, z, (n : Int), ps, rfl, hTT6, by omega, hP, fun H7 D s7 nD eD => ?_⟩
        have bl := behind_len ps z
        refine ⟨D, rfl, ⟨_, lstNew eD⟩, fun D2 nD2 => ?_⟩
        refine lc_filtL (f := fun y => decide ((y, v.2) ∈ us)) (lstNew eD) (by omega) nD2 (fun y hy H' s' A B h => ?_) (fun y H' Q h => ⟨.int y, rfl, h⟩) fun H8 s8 eD8 => ?_
        · have ed' := (s7.trans s') _ _ ed6
          have eW' := (s7.trans s') _ _ eW6
          have gz : DGet H' d (kV (Sum.inl z)) (some (.int ((k : Nat) : Int))) := by rw [← vz]; exact DGet.k (k := Sum.inl z) ed'
          refine ⟨.ref d, rfl, d, rfl, .inl ⟨_, .inl ed'⟩, .int y, rfl, _, DGet.k (k := Sum.inl y) ed', ?_⟩
          cases ey : valV (us.map kO) (Sum.inl y) with
          | none =>
            refine ⟨.ref d, rfl, .ref W, rfl, 1, rfl, W, _, _, .int z, rfl, rfl, lstNew eW', atz, d, _, rfl, gz, _, _, rfl, rfl, rfl, _, rfl, ?_⟩
            have h := h H' (Same.refl H')
            rw [if_neg (fun z => valO_not ey (List.mem_map_of_mem (f := (·.1)) (of_decide_eq_true z)))] at h
            show if decide (V.int 99 = V.int ((k : Int) - 1)) = true then _ else _
            rw [decV, decide_eq_false (by omega)]
            exact h
          | some vy =>
            obtain ⟨dy, hdy, vy'⟩ := off.val (valO_in ey)
            rw [ey] at vy'
            cases vy'
            refine ⟨.ref d, rfl, .ref W, rfl, 1, rfl, W, _, _, .int z, rfl, rfl, lstNew eW', atz, d, _, rfl, gz, _, _, rfl, rfl, rfl, _, rfl, ?_⟩
            have h := h H' (Same.refl H')
            show if decide (V.int (dy : Int) = V.int ((k : Int) - 1)) = true then _ else _
            rw [decV]
            have e2 : decide ((dy : Int) = (k : Int) - 1) = decide ((y, v.2) ∈ us) := by
              refine decide_eq_decide.mpr ⟨fun e => ?_, fun e => ?_⟩
              · rw [show v.2 = dy by omega]; exact hdy
              · have := off.fn hdy e; omega
            rw [e2]; exact h
        · have s68 := s7.trans s8
          have vm : v.1 ∈ (behindOf ps z).filter fun y => decide ((y, v.2) ∈ us) := List.mem_filter.mpr ⟨(mem_behind hP).mpr ev, decide_eq_true hv⟩
          have fl := List.length_filter_le (fun y => decide ((y, v.2) ∈ us)) (behindOf ps z)
          generalize ef : ((behindOf ps z).filter fun y => decide ((y, v.2) ∈ us)) = fs at vm fl eD8
          cases fs with
          | nil => exact absurd vm List.not_mem_nil
          | cons y ys =>
            have hy : y ∈ (behindOf ps z).filter fun y => decide ((y, v.2) ∈ us) := by rw [ef]; exact List.mem_cons_self ..
            obtain ⟨h1, h2⟩ := List.mem_filter.mp hy
            have e1 := (mem_behind hP).mp h1
            have e2 : (y, v.2) ∈ us := of_decide_eq_true h2
            have eW8 := s68 _ _ eW6
            have ed8 := s68 _ _ ed6
            refine ⟨D2, _, 0, .int y, rfl, rfl, lstNew eD8, atI_nat (j := 0) rfl, W, _, _, rfl, rfl, eW8, by rw [List.length_map, List.length_append]; exact few1 (by simp only [List.length_cons, List.length_nil]; omega), ?_⟩
            refine ⟨ws ++ [z], y, _, _, rfl, fun b o e ne => by rw [upd_ne (ne_of_none e nWH)]; exact b6.trans (But.of s68) b o e ne, pail_set (pail_same hp6 s68) hWp, ?_, ?_, wd.add hz e1 (List.mem_map_of_mem (f := (·.1)) e2), by simp, e2, by rw [List.length_append]; simp only [List.length_cons, List.length_nil]; omega⟩
            · rw [upd_ne (ne_of ed8 eW8 (by intro z; cases z))]; exact ed8
            · rw [upd_same]; simp
end
end K4
set_option maxHeartbeats 4000000
namespace K4
open PySem PySem.Spec PyProof.Rows L2 RV
theorem Lot.but {K : PySem.W.Frag} {H H' : Hp} {p D : Addr} {t : Nat} {rs : List (Int × List Int)} (h : Lot K H D rs) (hp : PailAt H p t) (b : But p H H') (n : D ≠ p) : Lot K H' D rs :=
  let ⟨js, h1, h2, h3⟩ := h.ex; ⟨js, h1, b _ _ h2 n, fun k hk => ⟨sqT_pail hp b (h3 k hk).1, sqT_pail hp b (h3 k hk).2⟩⟩
theorem Lot.more {K : PySem.W.Frag} {H' : Hp} {D : Addr} {rs : List (Int × List Int)} {js : List Rk} {acc : List V} (h : Lot K H' D rs) (e : H' D = some (.lst acc)) (hj : ∀ j ∈ js, RunOk K H' j) : Lot K (upd H' D (.lst (acc ++ js.map fun k => V.ref k.1))) D (rs ++ js.map valR) := by
  obtain ⟨ks, h1, h2, h3⟩ := h.ex
  rw [h2] at e
  cases e
  refine ⟨ks ++ js, by rw [List.map_append, h1], by rw [upd_same, List.map_append], fun k hk => ?_⟩
  rcases List.mem_append.mp hk with z | z
  · exact (h3 k z).setL h2
  · exact (hj k z).setL h2
/-- runs that go round by steps from the mark x -/
structure Lr (n : Int) (ps : List (List Int)) (x : Int) (rs : List (Int × List Int)) : Prop where
  rn : Rn rs
  wo : ∀ r ∈ rs, r.2.length ≤ 14
  ti : ∀ r ∈ rs, r.1 ≤ 10 ^ 27
  inn : ∀ r ∈ rs, ∀ y ∈ r.2, 0 ≤ y ∧ y < n
  loop : Loop ps x (mk rs)
theorem Lr.nil (n : Int) (ps : List (List Int)) (x : Int) : Lr n ps x [] := ⟨(fun _ h => nomatch h), (fun _ h => nomatch h), (fun _ h => nomatch h), (fun _ h => nomatch h), Loop.nil ps x⟩
theorem Lr.add {n : Int} {ps : List (List Int)} {x : Int} {rs qs : List (Int × List Int)} (h : Lr n ps x rs) (rn : Rn qs) (wo : ∀ r ∈ qs, r.2.length ≤ 14) (ti : ∀ r ∈ qs, r.1 ≤ 10 ^ 27) (inn : ∀ r ∈ qs, ∀ y ∈ r.2, 0 ≤ y ∧ y < n) (lo : Loop ps x (RV.mk qs)) : Lr n ps x (rs ++ qs) := by
  have both : ∀ {P : Int × List Int → Prop}, (∀ r ∈ rs, P r) → (∀ r ∈ qs, P r) → ∀ r ∈ rs ++ qs, P r := fun h1 h2 r hr => (List.mem_append.mp hr).elim (h1 r) (h2 r)
  exact ⟨both h.rn rn, both h.wo wo, both h.ti ti, both h.inn inn, by rw [mk_app]; exact h.loop.app lo⟩
section
variable {P : Program} {w : World} {K : PySem.W.Frag} {mg : Str → Option Value} {base : Heap}
/-! ### _law_runs -/
abbrev nRuns : List Str := ["_law_pail_here", "_law_steps_here", "_law_start", "_law_few", "_law_found", "_law_turn", "_law_word", "_law_far", "_law_times", "_law_cut"]
theorem scRuns : FnScope nRuns ["_law_pail_here", "_law_steps_here", "_law_start", "_law_few"] (defScope sRuns) := ⟨rfl, rfl, rfl, by decide +kernel, rfl, by decide +kernel, by decide +kernel⟩
def spRuns (K : PySem.W.Frag) : Sp := fun vs H Q _ => ∃ (p a : Addr) (t f n : Nat) (x : Int) (ps : List (List Int)), vs = [.ref p, .ref a, .int x, .int (f : Int)] ∧ PailAt H p t ∧ t ≤ 1200 ∧ Tups K H a ps ∧ (∀ p ∈ ps, Pr (n : Int) p) ∧ n ≤ 8 ∧ ps.length ≤ 64 ∧ Beg n ps x ∧ 1 ≤ f ∧ f ≤ 4 ∧
  ∀ (H' : Hp) (T : Addr) (rs : List (Int × List Int)) (t' : Nat), t' ≤ t + 150 → PailAt H' p t' → But p H H' → RingAt K H' T rs → Lr (n : Int) ps x rs → rs ≠ [] → rs.length ≤ 12 → Q (.ref T) H'
theorem ok_runs {f fC fO fB fD fF : Addr} {fd dC dO dB dD dF : FuncData} (F : Fun K "_law_runs" "_law_runs" sRuns f fd) (B : Bare mg) (DC : DefAt K mg "_law_closed" sClosed ["_law_pail_here", "_law_steps_here", "_law_start", "_law_most"] fC dC)
    (DO : DefAt K mg "_law_off" sLOff ["_law_steps_here", "_law_goal"] fO dO) (DB : DefAt K mg "_law_behind" sLBehind ["_law_steps_here", "_law_mark"] fB dB)
    (DD : DefAt K mg "_law_draw" sDraw ["_law_pail_here", "_law_many"] fD dD) (DF : DefAt K mg "_law_of" sOf ["_law_pail_here", "_law_some"] fF dF) :
    FnOk P w K mg base CX0 4 f fd ["_law_pail_here", "_law_steps_here", "_law_start", "_law_few"] (spRuns K) := by
  have GC : FnOk P w K mg base CX0 3 fC dC ["_law_pail_here", "_law_steps_here", "_law_start", "_law_most"] (spClosed K) := ok_closed DC.fn B DO DB DD DF
  have GD : FnOk P w K mg base CX0 1 fD dD ["_law_pail_here", "_law_many"] spDraw := ok_draw DD.fn
  refine F.ok scRuns (fun vs H Q E h => ?_) (fun cdv A outer s H vs Q E hr h => ?_)
  · obtain ⟨p, a, t, f, n, x, ps, rfl, _⟩ := h
    rfl
  · obtain ⟨p, a, t, f, n, x, ps, rfl, hp, ht, hTT, hP, n8, hl, hB, f1, f4, q⟩ := h
    have r1 := hr.mono (show 1 ≤ 3 by decide)
    have two : (2 : Nat) ≤ sizeLine := by decide
    have three : (3 : Nat) ≤ sizeLine := by decide
    refine ⟨_, pss_cons (ps_set (i := 4) scRuns.nd rfl (Or.inl rfl) (pe_lst pa_nil))
      (pss_cons (ps_for PassesOwn.never rfl (pi_range1 (by rfl) B.range (pa_cons (pe_op op_add pe_int (pe_call GD r1 (by rfl) DD.mg DD.fn.kp DD.bi .nil pass0 (pa_cons (pv 0) (pa_cons (pv 3) pa_nil)))) pa_nil)) (pg_name (i := 5) scRuns.nd rfl (Or.inl rfl))
        (pss_cons (ps_set (i := 6) scRuns.nd rfl (Or.inl rfl) (pe_call GC hr (by rfl) DC.mg DC.fn.kp DC.bi .nil pass0 (pa_cons (pv 0) (pa_cons (pv 1) (pa_cons (pv 2) (pa_cons pe_int pa_nil))))))
        (pss_cons (ps_par (i := 3) (j := 7) (by rfl) scRuns.nd rfl rfl (by decide) rfl rfl (pa_cons (pe_op op_add pe_int (pe_call GD r1 (by rfl) DD.mg DD.fn.kp DD.bi .nil pass0 (pa_cons (pv 0) (pa_cons pe_int pa_nil))))
            (pa_cons (pe_op op_add (pe_op op_mul (pe_call GD r1 (by rfl) DD.mg DD.fn.kp DD.bi .nil pass0 (pa_cons (pv 0) (pa_cons (pe_op op_pow pe_int pe_int) pa_nil))) (pe_op op_pow pe_int pe_int)) (pe_call GD r1 (by rfl) DD.mg DD.fn.kp DD.bi .nil pass0 (pa_cons (pv 0) (pa_cons (pe_op op_pow pe_int pe_int) pa_nil)))) pa_nil)) (by rfl))
        (pss_cons (ps_set (i := 8) scRuns.nd rfl (Or.inl rfl) (pe_ix ix_list (pe_lst (pa_cons pe_int (pa_cons (pv 3) (pa_cons (pe_op op_add pe_int (pv 7)) pa_nil)))) (pe_call GD r1 (by rfl) DD.mg DD.fn.kp DD.bi .nil pass0 (pa_cons (pv 0) (pa_cons pe_int pa_nil))) (fun _ _ => rfl)))
        (pss_cons (ps_set (i := 9) scRuns.nd rfl (Or.inl rfl) (pe_call GD r1 (by rfl) DD.mg DD.fn.kp DD.bi .nil pass0 (pa_cons (pv 0) (pa_cons (pe_op op_mul pe_int (pe_callB call_len_seq (by rfl) B.len PySem.boot_len (pa_cons (pv 6) pa_nil))) pa_nil))))
        (pss_one (ps_if (PW.pt (pw_and (pt_chain op_lt op_lt pe_int (pv 9) (pe_callB call_len_seq (by rfl) B.len PySem.boot_len (pa_cons (pv 6) pa_nil))) (pw_and1 (pt_cmpR op_gt (pv 8) pe_int (nomark _)))))
          (pss_one (ps_expr (pe_bm PySem.F.plainAttrs_list PySem.F.slot_list_extend PySem.F.type_list_extend mt_extend (pv 4) (pa_cons (pe_lst (pa_cons (pe_tup (pa_cons (pe_op op_sub (pv 8) pe_int) (pa_cons (pv 6) pa_nil)))
            (pa_cons (pe_tup (pa_cons pe_int (pa_cons (pe_slice sl_tupW (pv 6) po_none (po_some (pv 9))) pa_nil))) (pa_cons (pe_tup (pa_cons pe_int (pa_cons (pe_slice sl_tupW (pv 6) (po_some (pv 9)) po_none) pa_nil))) pa_nil)))) pa_nil))))
          (pss_one (ps_expr (pe_bm PySem.F.plainAttrs_list PySem.F.slot_list_append PySem.F.type_list_append mt_append (pv 4) (pa_cons (pe_tup (pa_cons (pv 8) (pa_cons (pv 6) pa_nil))) pa_nil)))))))))))
      (pss_one (ps_ret (pe_tupleOf (by rfl) B.tuple (pv 4))))), ?_⟩
    refine ⟨Nat.zero_le _, fun D nD => ?_⟩
    have hDp : D ≠ p := pail_ne hp nD
    have hp1 : PailAt (upd H D (.lst [])) p t := pail_new hp nD
    refine ⟨.ref p, rfl, .int (f : Int), rfl, p, t, (f : Int), rfl, hp1, by omega, by omega, by omega, fun r t2 H2 r0 r1' ht2 hp2 b2 => ?_⟩
    refine ⟨_, _, rfl, rfl, (1 + r), rfl, by omega, by omega, ?_⟩
    have b02 : But p H H2 := (But.of (same_upd nD)).trans b2
    have lot2 : Lot K H2 D [] := Lot.nil.but hp1 b2 hDp
    refine for_range (lo := 0) (n := (1 + r).toNat) (fun i σ H' => ∃ (rs : List (Int × List Int)) (t' : Nat) (y3 y5 y6 y7 y8 y9 : Option V), σ = [some (.ref p), some (.ref a), some (.int x), y3, some (.ref D), y5, y6, y7, y8, y9] ∧ But p H H' ∧ PailAt H' p t' ∧ t' ≤ t2 + 30 * i ∧ Lot K H' D rs ∧ Lr (n : Int) ps x rs ∧ i ≤ rs.length ∧ rs.length ≤ 3 * i)
      ⟨[], t2, _, none, none, none, none, none, rfl, b02, hp2, Nat.le_refl _, lot2, Lr.nil _ _ _, Nat.le_refl _, Nat.le_refl _⟩ ?_ ?_
    · rintro i σ H3 hi ⟨rs, t3, y3, y5, y6, y7, y8, y9, rfl, b3, hp3, ht3, lot3, lr, l1, l3⟩
      have hi4 : i < 4 := by omega
      -- word
      refine ⟨.ref p, rfl, .ref a, rfl, .int x, rfl, p, a, t3, 6, n, x, ps, rfl, hp3, by omega, tups_pail hp b3 hTT, hP, n8, hl, hB, by decide, by decide, fun H4 T ws t4 ht4 hp4 b4 hT4 lo ne lw inn => ?_⟩
      have lot4 := lot3.but hp3 b4 hDp
      have b04 := b3.trans b4
      have wpos : 0 < ws.length := List.length_pos_iff.mpr ne
      clear b3 hp3 lot3 b4
      -- few, far
      refine ⟨.ref p, rfl, p, t4, 9, rfl, hp4, by omega, by decide, by decide, fun a5 t5 H5 a50 a51 ht5 hp5 b5 => ⟨_, _, rfl, rfl, ?_⟩⟩
      have lot5 := lot4.but hp4 b5 hDp
      have hT5 := sqT_pail hp4 b5 hT4
      have b05 := b04.trans b5
      clear lot4 hT4 b04 b5 hp4
      refine ⟨.ref p, rfl, 10, 6, rfl, rfl, ⟨by decide, by decide, by decide⟩, p, t5, _, rfl, hp5, by omega, by decide, by decide, fun a6 t6 H6 a60 a61 ht6 hp6 b6 => ?_⟩
      have lot6 := lot5.but hp5 b6 hDp
      have hT6 := sqT_pail hp5 b6 hT5
      have b06 := b05.trans b6
      clear lot5 hT5 b05 b6 hp5
      have a61' : a6 < 1000000 := a61
      refine ⟨10, 20, rfl, rfl, ⟨by decide, by decide, by decide⟩, _, _, rfl, rfl, .inl ⟨by omega, by omega⟩, ?_⟩
      refine ⟨.ref p, rfl, 10, 6, rfl, rfl, ⟨by decide, by decide, by decide⟩, p, t6, _, rfl, hp6, by omega, by decide, by decide, fun a7 t7 H7 a70 a71 ht7 hp7 b7 => ?_⟩
      have lot7 := lot6.but hp6 b7 hDp
      have hT7 := sqT_pail hp6 b7 hT6
      have b07 := b06.trans b7
      clear lot6 hT6 b06 b7 hp6
      have a71' : a7 < 1000000 := a71
      refine ⟨_, _, rfl, rfl, _, _, rfl, ?_⟩
      -- times
      have far0 : 0 ≤ a6 * (10 : Int) ^ (20 : Int).toNat + a7 := by
        have : 0 ≤ a6 * (10 : Int) ^ (20 : Int).toNat := Int.mul_nonneg a60 (by decide)
        omega
      have far1 : 1 + (a6 * (10 : Int) ^ (20 : Int).toNat + a7) ≤ 10 ^ 27 := by
        have : a6 * (10 : Int) ^ (20 : Int).toNat ≤ 1000000 * (10 : Int) ^ (20 : Int).toNat := Int.mul_le_mul_of_nonneg_right (by omega) (by decide)
        have e : 1000000 * (10 : Int) ^ (20 : Int).toNat + 1000001 ≤ 10 ^ 27 := by decide
        omega
      dsimp only
      generalize a6 * (10 : Int) ^ (20 : Int).toNat + a7 = far at far0 far1
      refine ⟨.int (1 + a5), rfl, .int far, rfl, _, _, rfl, rfl, three, fun L nL => ?_⟩
      have sL := same_upd (o := .lst [.int 1, .int (1 + a5), .int (1 + far)]) nL
      have hLp : L ≠ p := pail_ne hp7 nL
      have eL := upd_same (H := H7) (a := L) (o := .lst [.int 1, .int (1 + a5), .int (1 + far)])
      have hp8 := pail_same hp7 sL
      have lot8 := lot7.same sL
      have hT8 := sqT_same sL hT7
      have b08 := b07.trans (But.of (p := p) sL)
      generalize upd H7 L (.lst [.int 1, .int (1 + a5), .int (1 + far)]) = H8 at eL hp8 lot8 hT8 b08 ⊢
      clear lot7 hT7 b07 hp7 sL nL
      refine ⟨.ref p, rfl, p, t7, 3, rfl, hp8, by omega, by decide, by decide, fun a9 t9 H9 a90 a91 ht9 hp9 b9 => ?_⟩
      have eL9 := b9 _ _ eL hLp
      have lot9 := lot8.but hp8 b9 hDp
      have hT9 := sqT_pail hp8 b9 hT8
      have b09 := b08.trans b9
      obtain ⟨tm, etm, tm1, tm2⟩ : ∃ tm : Int, atI [V.int 1, .int (1 + a5), .int (1 + far)] a9 = some (.int tm) ∧ 1 ≤ tm ∧ tm ≤ 10 ^ 27 := by
        rcases (show a9 = 0 ∨ a9 = 1 ∨ a9 = 2 by omega) with rfl | rfl | rfl
        · exact ⟨1, rfl, by decide, by decide⟩
        · exact ⟨1 + a5, rfl, by omega, by omega⟩
        · exact ⟨1 + far, rfl, by omega, far1⟩
      refine ⟨L, _, a9, .int tm, rfl, rfl, lstNew eL9, etm, ?_⟩
      -- cut
      refine ⟨.ref p, rfl, .ref T, rfl, T, _, rfl, .inr hT9, _, _, rfl, rfl, .inl ⟨by decide, by decide⟩, p, t9, _, rfl, hp9, by omega, by rw [List.length_map]; omega, by rw [List.length_map]; omega, fun c tA HA c0 c1 htA hpA bA => ?_⟩
      have lotA := lot9.but hp9 bA hDp
      have hTA := sqT_pail hp9 bA hT9
      have b0A := b09.trans bA
      clear eL9 eL lot8 lot9 hT8 hT9 b08 b09 hp8 hp9
      obtain ⟨acc, ea, la⟩ := lotA.list
      have nDH : ∀ (o : HO) (H' : Hp), But p H H' → But p H (upd H' D o) := fun o H' b k u e ne => by rw [upd_ne (ne_of_none e nD)]; exact b k u e ne
      have one : ∀ H', Same HA H' → ∀ Tx : Addr, H' Tx = some (.tup [.int tm, .ref T]) → RunOk K H' (Tx, T, tm, ws) := fun H' s' Tx e => ⟨tupNew e, sqT_same s' hTA⟩
      have app1 : Lr (n : Int) ps x (rs ++ [(tm, ws)]) := lr.add (fun r hr => by rw [List.mem_singleton.mp hr]; exact ⟨tm1, ne⟩) (fun r hr => by rw [List.mem_singleton.mp hr]; exact lw) (fun r hr => by rw [List.mem_singleton.mp hr]; exact tm2) (fun r hr => by rw [List.mem_singleton.mp hr]; exact inn) (by rw [mk_one]; exact lo.rp _)
      have fin1 : ∀ Tx, HA Tx = none → ∃ (rs' : List (Int × List Int)) (t' : Nat) (z3 z5 z6 z7 z8 z9 : Option V), [some (.ref p), some (.ref a), some (.int x), some (.int (1 + a5)), some (.ref D), some (V.int (0 + (i : Nat))), some (.ref T), some (.int far), some (.int tm), some (.int c)] = [some (.ref p), some (.ref a), some (.int x), z3, some (.ref D), z5, z6, z7, z8, z9] ∧
          But p H (upd (upd HA Tx (.tup [.int tm, .ref T])) D (.lst (acc ++ [.ref Tx]))) ∧ PailAt (upd (upd HA Tx (.tup [.int tm, .ref T])) D (.lst (acc ++ [.ref Tx]))) p t' ∧ t' ≤ t2 + 30 * (i + 1) ∧ Lot K (upd (upd HA Tx (.tup [.int tm, .ref T])) D (.lst (acc ++ [.ref Tx]))) D rs' ∧ Lr (n : Int) ps x rs' ∧ i + 1 ≤ rs'.length ∧ rs'.length ≤ 3 * (i + 1) := fun Tx nTx => by
        have s' := same_upd (o := .tup [.int tm, .ref T]) nTx
        refine ⟨rs ++ [(tm, ws)], tA, _, _, _, _, _, _, rfl, nDH _ _ (b0A.trans (But.of s')), pail_set (pail_same hpA s') hDp, by omega, (lotA.same s').add (j := (Tx, T, tm, ws)) (s' _ _ ea) (one _ s' Tx upd_same), app1, ?_, ?_⟩
        · rw [List.length_append]; simp only [List.length_cons, List.length_nil]; omega
        · rw [List.length_append]; simp only [List.length_cons, List.length_nil]; omega
      refine ⟨.int c, rfl, 0, c, rfl, rfl, _, rfl, ite2 (fun hc0 => ?_) (fun _ => ?_)⟩
      · refine ⟨.ref T, rfl, T, _, rfl, .inr hTA, _, _, rfl, rfl, _, rfl, ite2 (fun hc1 => ?_) (fun _ => ?_)⟩
        · refine ⟨.int tm, rfl, _, _, rfl, rfl, _, rfl, ite2 (fun ht1 => ?_) (fun _ => ?_)⟩
          · have hc0 : 0 < c := of_decide_eq_true hc0
            have hc1 := of_decide_eq_true hc1
            have ht1 : tm > 1 := of_decide_eq_true ht1
            rw [List.length_map] at hc1
            obtain ⟨cn, rfl⟩ : ∃ cn : Nat, c = (cn : Int) := ⟨c.toNat, by omega⟩
            refine ⟨.ref D, rfl, .inl ⟨rfl, _, lstNew ea⟩, .int tm, rfl, _, _, rfl, rfl, .ref T, rfl, two, fun T1 nT1 => ?_⟩
            have s1 := same_upd (o := .tup [.int (tm - 1), .ref T]) nT1
            refine ⟨.ref T, rfl, .int (cn : Int), rfl, _, rfl, T, _, rfl, sqT_same s1 hTA, fun w2 H2' s2 h2 => ?_⟩
            rw [cut_to, ← List.map_take] at h2
            refine ⟨two, fun T3 nT3 => ?_⟩
            have s3 := same_upd (o := .tup [.int 1, .ref w2]) nT3
            refine ⟨.ref T, rfl, .int (cn : Int), rfl, _, rfl, T, _, rfl, sqT_same ((s1.trans s2).trans s3) hTA, fun w4 H4' s4 h4 => ?_⟩
            rw [cut_from, ← List.map_drop] at h4
            refine ⟨two, fun T5 nT5 => ⟨three, fun M nM => ?_⟩⟩
            have s5 := same_upd (o := .tup [.int 1, .ref w4]) nT5
            have s6 := same_upd (o := .lst [.ref T1, .ref T3, .ref T5]) nM
            have k1 : RunOk K (upd (upd H4' T5 (.tup [.int 1, .ref w4])) M (.lst [.ref T1, .ref T3, .ref T5])) (T1, T, tm - 1, ws) := ⟨tupNew (((((s2.trans s3).trans s4).trans s5).trans s6) _ _ upd_same), sqT_same (((((s1.trans s2).trans s3).trans s4).trans s5).trans s6) hTA⟩
            have k3 : RunOk K (upd (upd H4' T5 (.tup [.int 1, .ref w4])) M (.lst [.ref T1, .ref T3, .ref T5])) (T3, w2, 1, ws.take cn) := ⟨tupNew (((s4.trans s5).trans s6) _ _ upd_same), sqT_same (((s3.trans s4).trans s5).trans s6) h2⟩
            have k5 : RunOk K (upd (upd H4' T5 (.tup [.int 1, .ref w4])) M (.lst [.ref T1, .ref T3, .ref T5])) (T5, w4, 1, ws.drop cn) := ⟨tupNew (s6 _ _ upd_same), sqT_same (s5.trans s6) h4⟩
            have eM : (upd (upd H4' T5 (.tup [.int 1, .ref w4])) M (.lst [.ref T1, .ref T3, .ref T5])) M = some (.lst [.ref T1, .ref T3, .ref T5]) := upd_same
            have sAM := ((((s1.trans s2).trans s3).trans s4).trans s5).trans s6
            generalize upd (upd H4' T5 (.tup [.int 1, .ref w4])) M (.lst [.ref T1, .ref T3, .ref T5]) = HM at k1 k3 k5 eM sAM ⊢
            have eaM := sAM _ _ ea
            refine ⟨D, M, _, _, rfl, rfl, eaM, eM, by rw [la]; exact Nat.le_of_lt (few1 (by simp only [List.length_cons, List.length_nil]; omega)), ?_⟩
            have lotM := (lotA.same sAM).more (js := [(T1, T, tm - 1, ws), (T3, w2, 1, ws.take cn), (T5, w4, 1, ws.drop cn)]) eaM (fun j hj => by
              simp only [List.mem_cons, List.not_mem_nil, or_false] at hj
              rcases hj with rfl | rfl | rfl
              · exact k1
              · exact k3
              · exact k5)
            have t0 : 0 < (ws.take cn).length := by rw [List.length_take]; omega
            have d0 : 0 < (ws.drop cn).length := by rw [List.length_drop]; omega
            refine ⟨rs ++ [(tm - 1, ws), (1, ws.take cn), (1, ws.drop cn)], tA, _, _, _, _, _, _, rfl, nDH _ _ (b0A.trans (But.of sAM)), pail_set (pail_same hpA sAM) hDp, by omega, lotM, lr.add (fun r hr => ?_) (fun r hr => ?_) (fun r hr => ?_) (fun r hr => ?_) ?_, ?_, ?_⟩
            · simp only [List.mem_cons, List.not_mem_nil, or_false] at hr
              rcases hr with rfl | rfl | rfl
              · exact ⟨by show 1 ≤ tm - 1; omega, ne⟩
              · exact ⟨Int.le_refl _, List.length_pos_iff.mp t0⟩
              · exact ⟨Int.le_refl _, List.length_pos_iff.mp d0⟩
            · simp only [List.mem_cons, List.not_mem_nil, or_false] at hr
              rcases hr with rfl | rfl | rfl
              · exact lw
              · show (ws.take cn).length ≤ 14; rw [List.length_take]; omega
              · show (ws.drop cn).length ≤ 14; rw [List.length_drop]; omega
            · simp only [List.mem_cons, List.not_mem_nil, or_false] at hr
              rcases hr with rfl | rfl | rfl
              · show tm - 1 ≤ 10 ^ 27; omega
              · show (1 : Int) ≤ 10 ^ 27; decide
              · show (1 : Int) ≤ 10 ^ 27; decide
            · simp only [List.mem_cons, List.not_mem_nil, or_false] at hr
              rcases hr with rfl | rfl | rfl
              · exact inn
              · exact fun y hy => inn y (List.mem_of_mem_take hy)
              · exact fun y hy => inn y (List.mem_of_mem_drop hy)
            · have e : mk [(tm - 1, ws), (1, ws.take cn), (1, ws.drop cn)] = rp (tm - 1).toNat ws ++ ws := by
                show rp (tm - 1).toNat ws ++ (rp (Int.toNat 1) (ws.take cn) ++ (rp (Int.toNat 1) (ws.drop cn) ++ [])) = _
                rw [show Int.toNat 1 = 1 from rfl, rp_one, rp_one, List.append_nil, List.take_append_drop]
              rw [e]
              exact (lo.rp _).app lo
            · rw [List.length_append]; simp only [List.length_cons, List.length_nil]; omega
            · rw [List.length_append]; simp only [List.length_cons, List.length_nil]; omega
          · exact ⟨.ref D, rfl, .inl ⟨rfl, _, lstNew ea⟩, .int tm, rfl, .ref T, rfl, two, fun Tx nTx => ⟨D, _, _, rfl, rfl, same_upd nTx _ _ ea, by rw [la]; exact few1 (by omega), fin1 Tx nTx⟩⟩
        · exact ⟨.ref D, rfl, .inl ⟨rfl, _, lstNew ea⟩, .int tm, rfl, .ref T, rfl, two, fun Tx nTx => ⟨D, _, _, rfl, rfl, same_upd nTx _ _ ea, by rw [la]; exact few1 (by omega), fin1 Tx nTx⟩⟩
      · exact ⟨_, rfl, iteF ⟨.ref D, rfl, .inl ⟨rfl, _, lstNew ea⟩, .int tm, rfl, .ref T, rfl, two, fun Tx nTx => ⟨D, _, _, rfl, rfl, same_upd nTx _ _ ea, by rw [la]; exact few1 (by omega), fin1 Tx nTx⟩⟩⟩
    · rintro σ H3 ⟨rs, t3, y3, y5, y6, y7, y8, y9, rfl, b3, hp3, ht3, lot3, lr, l1, l3⟩
      obtain ⟨acc, ea, la⟩ := lot3.list
      refine ⟨.ref D, rfl, .inl ⟨D, _, rfl, lstNew ea, fun u nu => ?_⟩⟩
      exact q _ u rs t3 (by omega) (pail_new hp3 nu) (b3.trans (But.of (same_upd nu))) (lot3.ring ea nu) lr (fun z => by rw [z] at l1; have : (1 + r).toNat ≤ 0 := l1; omega) (by omega)
end
end K4
namespace RV
open PySem PySem.Spec PyProof.Rows L2
/-! ### what repr asks of rings: runs of marks, times to forty figures -/
theorem log_big {i : Int} (h : i.natAbs < 10 ^ 40) : i.natAbs.log2 < 1920 := by
  rcases Nat.eq_zero_or_pos i.natAbs with e | e
  · rw [e]; decide
  · have h1 : i.natAbs < 2 ^ 133 := Nat.lt_of_lt_of_le h (by decide)
    have h2 : i.natAbs.log2 < 133 := (Nat.log2_lt (by omega)).mpr h1
    omega
theorem len_big {i : Int} (h : i.natAbs < 10 ^ 40) : (PyData.shown (.int i)).length ≤ 41 := by
  have e := int_text_length_le10 (k := 40) (by decide) h
  show (Str.ofString (toString i)).length ≤ 41
  rw [PySem.ofString_length]
  exact e
theorem shows_of {d : PyData} (lay : d.canLay0 = true) (sh : d.showable = true) (si : d.intsShort 41 = true) (dep : d.depth ≤ 64) (bk : d.bulk ≤ 200000) : Shows d := by
  refine ⟨sh, PyData.hasDict_of_canLay _ lay, dep, ?_⟩
  have z := PyData.shown_le_bulk 41 (by decide) d (PyData.leavesShort_of_canLay0 41 _ lay si)
  have z2 : (41 + 2) * d.bulk ≤ 43 * 200000 := Nat.mul_le_mul_left 43 bk
  rw [sizeLine_eq]; omega
theorem show_bigs : ∀ ns : List Int, (∀ n ∈ ns, n.natAbs < 10 ^ 40) → PyData.showableAll (ns.map PyData.int) = true ∧ PyData.intsShortAll 41 (ns.map PyData.int) = true
  | [], _ => ⟨by simp [PyData.showableAll], by simp [PyData.intsShortAll]⟩
  | n :: r, h => by
    have h1 := h n (List.mem_cons_self ..)
    have h2 := show_bigs r fun m hm => h m (List.mem_cons_of_mem _ hm)
    exact ⟨by simp [PyData.showableAll, PyData.showable, log_big h1, h2.1], by simp [PyData.intsShortAll, PyData.intsShort, len_big h1, h2.2]⟩
def dRun (r : Int × List Int) : PyData := .tuple [.int r.1, dI r.2]
def dRg (rs : List (Int × List Int)) : PyData := .tuple (rs.map dRun)
theorem lay_runs : ∀ rs : List (Int × List Int), PyData.canLayAll0 (rs.map dRun) = true
  | [] => by simp [PyData.canLayAll0]
  | r :: rs => by simp [PyData.canLayAll0, dRun, PyData.canLay0, dI_lay, lay_runs rs]
theorem dep_runs : ∀ rs : List (Int × List Int), PyData.depthAll (rs.map dRun) ≤ 2
  | [] => by simp [PyData.depthAll]
  | r :: rs => by
    have h := dep_runs rs
    have h1 : (dRun r).depth = 2 := by simp [dRun, PyData.depth, PyData.depthAll, dI_dep]
    simp only [List.map_cons, PyData.depthAll, h1]; omega
theorem show_runs : ∀ rs : List (Int × List Int), (∀ r ∈ rs, r.1.natAbs < 10 ^ 40 ∧ ∀ n ∈ r.2, n.natAbs < 10 ^ 40) → PyData.showableAll (rs.map dRun) = true ∧ PyData.intsShortAll 41 (rs.map dRun) = true
  | [], _ => ⟨by simp [PyData.showableAll], by simp [PyData.intsShortAll]⟩
  | r :: rs, h => by
    obtain ⟨h1, h2⟩ := h r (List.mem_cons_self ..)
    have h3 := show_runs rs fun q hq => h q (List.mem_cons_of_mem _ hq)
    have h4 := show_bigs r.2 h2
    have a1 : (dI r.2).showable = true := by simp only [dI, PyData.showable]; exact h4.1
    have a2 : (dI r.2).intsShort 41 = true := by simp only [dI, PyData.intsShort]; exact h4.2
    exact ⟨by simp [PyData.showableAll, dRun, PyData.showable, log_big h1, a1, h3.1], by simp [PyData.intsShortAll, dRun, PyData.intsShort, len_big h1, a2, h3.2]⟩
theorem bulk_runs : ∀ (rs : List (Int × List Int)) (k : Nat), (∀ r ∈ rs, r.2.length ≤ k) → PyData.bulkAll (rs.map dRun) ≤ (k + 3) * rs.length
  | [], _, _ => by simp [PyData.bulkAll]
  | r :: rs, k, h => by
    have h1 : (dI r.2).bulk = r.2.length := by simp only [dI, PyData.bulk, bulk_ints]
    have h2 := bulk_runs rs k fun q hq => h q (List.mem_cons_of_mem _ hq)
    have h3 := h r (List.mem_cons_self ..)
    have h4 : (dRun r).bulk ≤ r.2.length + 2 := by simp only [dRun, PyData.bulk, PyData.bulkAll, h1]; omega
    simp only [List.map_cons, PyData.bulkAll, List.length_cons, Nat.mul_succ]; omega
theorem shows_dRg {rs : List (Int × List Int)} (h : ∀ r ∈ rs, r.1.natAbs < 10 ^ 40 ∧ ∀ n ∈ r.2, n.natAbs < 10 ^ 40) (hw : ∀ r ∈ rs, r.2.length ≤ 1000) (hl : rs.length ≤ 100) : Shows (dRg rs) := by
  have h1 := show_runs rs h
  have h2 := dep_runs rs
  have h3 := bulk_runs rs 1000 hw
  have h4 : (1000 + 3) * rs.length ≤ 1003 * 100 := Nat.mul_le_mul_left _ hl
  refine shows_of ?_ ?_ ?_ ?_ ?_
  · simp only [dRg, PyData.canLay0]; exact lay_runs rs
  · simp only [dRg, PyData.showable]; exact h1.1
  · simp only [dRg, PyData.intsShort]; exact h1.2
  · simp only [dRg, PyData.depth]; omega
  · simp only [dRg, PyData.bulk]; omega
end RV
set_option maxHeartbeats 4000000
/-! things of any kind, as data -/
namespace RV
open PySem PySem.Spec PyProof.Rows L2
mutual
theorem Dp.same {K : PySem.W.Frag} {H H' : Hp} (s : Same H H') : ∀ {v : V} {d : PyData}, Dp K H v d → Dp K H' v d
  | _, _, .non => .non
  | _, _, .bl b => .bl b
  | _, _, .int i => .int i
  | _, _, .str x => .str x
  | _, _, .lst h1 h2 => .lst (sqL_same s h1) (DpAll.same s h2)
  | _, _, .tup h1 h2 => .tup (sqT_same s h1) (DpAll.same s h2)
theorem DpAll.same {K : PySem.W.Frag} {H H' : Hp} (s : Same H H') : ∀ {vs : List V} {ds : List PyData}, DpAll K H vs ds → DpAll K H' vs ds
  | _, _, .nil => .nil
  | _, _, .cons h1 h2 => .cons (Dp.same s h1) (DpAll.same s h2)
end
section
variable {K : PySem.W.Frag} {H H' : Hp}
theorem DpAll.len : ∀ {vs : List V} {ds : List PyData}, DpAll K H vs ds → vs.length = ds.length
  | _, _, .nil => rfl
  | _, _, .cons _ h => by rw [List.length_cons, List.length_cons, DpAll.len h]
theorem DpAll.at : ∀ {vs : List V} {ds : List PyData}, DpAll K H vs ds → ∀ {i : Nat} {v : V}, vs[i]? = some v → ∃ d, ds[i]? = some d ∧ Dp K H v d
  | _, _, .nil, _, _, e => by cases e
  | _, _, .cons h1 h2, 0, _, e => by cases e; exact ⟨_, rfl, h1⟩
  | _, _, .cons h1 h2, i + 1, _, e => DpAll.at h2 (i := i) e
theorem DpAll.app : ∀ {vs us : List V} {ds es : List PyData}, DpAll K H vs ds → DpAll K H us es → DpAll K H (vs ++ us) (ds ++ es)
  | _, _, _, _, .nil, h => h
  | _, _, _, _, .cons h1 h2, h => .cons h1 (DpAll.app h2 h)
theorem DpAll.take : ∀ {vs : List V} {ds : List PyData} (n : Nat), DpAll K H vs ds → DpAll K H (vs.take n) (ds.take n)
  | _, _, 0, _ => .nil
  | _, _, n + 1, .nil => .nil
  | _, _, n + 1, .cons h1 h2 => .cons h1 (DpAll.take n h2)
theorem DpAll.drop : ∀ {vs : List V} {ds : List PyData} (n : Nat), DpAll K H vs ds → DpAll K H (vs.drop n) (ds.drop n)
  | _, _, 0, h => h
  | _, _, n + 1, .nil => .nil
  | _, _, n + 1, .cons h1 h2 => DpAll.drop n h2
theorem DpAll.rev : ∀ {vs : List V} {ds : List PyData}, DpAll K H vs ds → DpAll K H vs.reverse ds.reverse
  | _, _, .nil => .nil
  | _, _, .cons h1 h2 => by
    rw [List.reverse_cons, List.reverse_cons]
    exact DpAll.app (DpAll.rev h2) (.cons h1 .nil)
theorem DpAll.put : ∀ {vs : List V} {ds : List PyData}, DpAll K H vs ds → ∀ {v : V} {d : PyData}, Dp K H v d → DpAll K H (vs ++ [v]) (ds ++ [d]) := fun h _ _ g => DpAll.app h (.cons g .nil)
/-- its type's name -/
def tnD : PyData → String
  | .none => "NoneType"
  | .bool _ => "bool"
  | .int _ => "int"
  | .str _ => "str"
  | .list _ => "list"
  | .tuple _ => "tuple"
  | .dict _ => "dict"
theorem tyL {a : Addr} {xs : List V} (h : SqL K H a xs) : TyX K H (.ref a) (.type "list") := by
  rcases h with (h | ⟨o, h⟩) | ⟨o, its, n, h1, h2, _⟩
  · exact .base (.lst h)
  · exact .base (.frz h)
  · exact .kList h1 h2
theorem tyD {v : V} {d : PyData} (h : Dp K H v d) : TyX K H v (.type (tnD d)) := by
  cases h with
  | non => exact .base .non
  | bl b => exact .base (.bl b)
  | int i => exact .base (.int i)
  | str x => exact .base (.str x)
  | lst h1 h2 => exact tyL h1
  | tup h1 h2 => exact tyT h1
/-- what isinstance(x, t) tells of data -/
def isiD (d : PyData) (t : String) : Bool := tnD d == t || (tnD d == "bool" && t == "int")
theorem kit_N : ∀ a ∈ ["NoneType", "bool", "int", "str", "list", "tuple", "dict"], ∀ b ∈ ["int", "bool", "tuple", "str"], kitB a b = some (a == b || (a == "bool" && b == "int")) := by decide +kernel
theorem tn_in (d : PyData) : tnD d ∈ ["NoneType", "bool", "int", "str", "list", "tuple", "dict"] := by cases d <;> simp [tnD]
theorem kit_D {d : PyData} {t : String} (ht : t = "int" ∨ t = "bool" ∨ t = "tuple" ∨ t = "str") : PySem.W.kitOne K (Value.type (tnD d)) (Value.type t) = some (isiD d t) := by
  exact kit_ty (kit_N _ (tn_in d) t (by rcases ht with rfl | rfl | rfl | rfl <;> simp))
theorem isi_D {v : V} {d : PyData} {t : String} {Q : VK} (h : Dp K H v d) (ht : t = "int" ∨ t = "bool" ∨ t = "tuple" ∨ t = "str") (q : Q (.bl (isiD d t)) H) : rIsi K [v, .ty t] H Q :=
  ⟨v, .ty t, .type (tnD d), .type t, isiD d t, rfl, .ty t, tyD h, kit_D ht, q⟩
end
/-! ### all of a list's things -/
theorem lay_all : ∀ {ds : List PyData}, PyData.canLayAll0 ds = true ↔ ∀ e ∈ ds, e.canLay0 = true
  | [] => by simp [PyData.canLayAll0]
  | d :: ds => by simp [PyData.canLayAll0, lay_all (ds := ds)]
theorem show_all : ∀ {ds : List PyData}, PyData.showableAll ds = true ↔ ∀ e ∈ ds, e.showable = true
  | [] => by simp [PyData.showableAll]
  | d :: ds => by simp [PyData.showableAll, show_all (ds := ds)]
theorem short_all : ∀ {ds : List PyData}, PyData.intsShortAll 41 ds = true ↔ ∀ e ∈ ds, e.intsShort 41 = true
  | [] => by simp [PyData.intsShortAll]
  | d :: ds => by simp [PyData.intsShortAll, short_all (ds := ds)]
theorem depth_all {n : Nat} : ∀ {ds : List PyData}, PyData.depthAll ds ≤ n ↔ ∀ e ∈ ds, e.depth ≤ n
  | [] => by simp [PyData.depthAll]
  | d :: ds => by simp only [PyData.depthAll, List.mem_cons, forall_eq_or_imp, ← depth_all (ds := ds)]; omega
theorem bulk_app : ∀ (ds es : List PyData), PyData.bulkAll (ds ++ es) = PyData.bulkAll ds + PyData.bulkAll es
  | [], es => by simp [PyData.bulkAll]
  | d :: ds, es => by rw [List.cons_append]; simp only [PyData.bulkAll, bulk_app ds es]; omega
theorem bulk_one (d : PyData) : PyData.bulkAll [d] = d.bulk + 1 := by simp [PyData.bulkAll]
theorem bulk_len : ∀ ds : List PyData, ds.length ≤ PyData.bulkAll ds
  | [] => Nat.zero_le _
  | d :: ds => by have := bulk_len ds; simp only [PyData.bulkAll, List.length_cons]; omega
theorem bulk_mem : ∀ {ds : List PyData} {e : PyData}, e ∈ ds → e.bulk ≤ PyData.bulkAll ds
  | d :: ds, e, h => by
    rcases List.mem_cons.mp h with z | z
    · subst z; simp only [PyData.bulkAll]; omega
    · have := bulk_mem z; simp only [PyData.bulkAll]; omega
theorem bulk_rev (ds : List PyData) : PyData.bulkAll ds.reverse = PyData.bulkAll ds := by
  induction ds with
  | nil => rfl
  | cons d ds ih => rw [List.reverse_cons, bulk_app, ih, bulk_one]; simp only [PyData.bulkAll]; omega
theorem bulk_take (n : Nat) (ds : List PyData) : PyData.bulkAll (ds.take n) + PyData.bulkAll (ds.drop n) = PyData.bulkAll ds := by
  rw [← bulk_app, List.take_append_drop]
/-- data that may be shown and compared: so deep, so much -/
structure Gd (d : PyData) (n m : Nat) : Prop where
  lay : d.canLay0 = true
  sh : d.showable = true
  si : d.intsShort 41 = true
  dep : d.depth ≤ n
  bk : d.bulk ≤ m
theorem Gd.up {d : PyData} {n m n' m' : Nat} (h : Gd d n m) (h1 : n ≤ n') (h2 : m ≤ m') : Gd d n' m' := ⟨h.lay, h.sh, h.si, Nat.le_trans h.dep h1, Nat.le_trans h.bk h2⟩
theorem Gd.shows {d : PyData} {n m : Nat} (h : Gd d n m) (hn : n ≤ 64) (hm : m ≤ 200000) : Shows d := shows_of h.lay h.sh h.si (by have := h.dep; omega) (by have := h.bk; omega)
theorem Gd.shaped {d : PyData} {n m : Nat} (h : Gd d n m) (hn : n ≤ 64) : SeqAt.shaped d = true := by
  show (d.canLay0 && decide (d.depth ≤ 64)) = true
  rw [h.lay, decide_eq_true (Nat.le_trans h.dep hn)]; rfl
theorem gd_int {n : Int} (h : n.natAbs < 10 ^ 40) : Gd (.int n) 0 0 :=
  ⟨by simp [PyData.canLay0], by simp [PyData.showable, log_big h], by simp [PyData.intsShort, len_big h], by simp [PyData.depth], by simp [PyData.bulk]⟩
theorem gd_bool (b : Bool) : Gd (.bool b) 0 0 := ⟨by simp [PyData.canLay0], by simp [PyData.showable], by simp [PyData.intsShort], by simp [PyData.depth], by simp [PyData.bulk]⟩
theorem gd_none : Gd .none 0 0 := ⟨by simp [PyData.canLay0], by simp [PyData.showable], by simp [PyData.intsShort], by simp [PyData.depth], by simp [PyData.bulk]⟩
theorem gd_tup {ds : List PyData} {n m : Nat} : Gd (.tuple ds) (n + 1) m ↔ (∀ e ∈ ds, Gd e n m) ∧ PyData.bulkAll ds ≤ m := by
  constructor
  · intro h
    have h1 := h.lay
    have h2 := h.sh
    have h3 := h.si
    have h4 := h.dep
    have h5 := h.bk
    simp only [PyData.canLay0] at h1
    simp only [PyData.showable] at h2
    simp only [PyData.intsShort] at h3
    simp only [PyData.depth] at h4
    simp only [PyData.bulk] at h5
    exact ⟨fun e he => ⟨lay_all.mp h1 e he, show_all.mp h2 e he, short_all.mp h3 e he, depth_all.mp (by omega) e he, Nat.le_trans (bulk_mem he) h5⟩, h5⟩
  · rintro ⟨h, hb⟩
    refine ⟨?_, ?_, ?_, ?_, ?_⟩
    · simp only [PyData.canLay0]; exact lay_all.mpr fun e he => (h e he).lay
    · simp only [PyData.showable]; exact show_all.mpr fun e he => (h e he).sh
    · simp only [PyData.intsShort]; exact short_all.mpr fun e he => (h e he).si
    · have := depth_all.mpr fun e he => (h e he).dep
      simp only [PyData.depth]; omega
    · simp only [PyData.bulk]; exact hb
theorem gd_lst {ds : List PyData} {n m : Nat} : Gd (.list ds) (n + 1) m ↔ (∀ e ∈ ds, Gd e n m) ∧ PyData.bulkAll ds ≤ m := by
  constructor
  · intro h
    have h1 := h.lay
    have h2 := h.sh
    have h3 := h.si
    have h4 := h.dep
    have h5 := h.bk
    simp only [PyData.canLay0] at h1
    simp only [PyData.showable] at h2
    simp only [PyData.intsShort] at h3
    simp only [PyData.depth] at h4
    simp only [PyData.bulk] at h5
    exact ⟨fun e he => ⟨lay_all.mp h1 e he, show_all.mp h2 e he, short_all.mp h3 e he, depth_all.mp (by omega) e he, Nat.le_trans (bulk_mem he) h5⟩, h5⟩
  · rintro ⟨h, hb⟩
    refine ⟨?_, ?_, ?_, ?_, ?_⟩
    · simp only [PyData.canLay0]; exact lay_all.mpr fun e he => (h e he).lay
    · simp only [PyData.showable]; exact show_all.mpr fun e he => (h e he).sh
    · simp only [PyData.intsShort]; exact short_all.mpr fun e he => (h e he).si
    · have := depth_all.mpr fun e he => (h e he).dep
      simp only [PyData.depth]; omega
    · simp only [PyData.bulk]; exact hb
end RV
namespace RV
open PySem
theorem isi_int (d : PyData) : isiD d "int" = (match d with | .int _ => true | .bool _ => true | _ => false) := by cases d <;> simp [isiD, tnD]
theorem isi_bool (d : PyData) : isiD d "bool" = (match d with | .bool _ => true | _ => false) := by cases d <;> simp [isiD, tnD]
theorem isi_tup (d : PyData) : isiD d "tuple" = (match d with | .tuple _ => true | _ => false) := by cases d <;> simp [isiD, tnD]
def wholeD : PyData → Bool
  | .int _ => true
  | _ => false
def belowD (n : Int) : PyData → Bool
  | .int i => decide (0 ≤ i) && decide (i < n)
  | _ => false
def marksD (n : Int) : PyData → Bool
  | .tuple ds => decide (0 < ds.length) && ds.all (belowD n)
  | _ => false
def timesD : PyData → Bool
  | .int i => decide (1 ≤ i)
  | _ => false
def runD (n : Int) : PyData → Bool
  | .tuple [t, m] => timesD t && marksD n m
  | _ => false
def formD (n : Int) : PyData → Bool
  | .tuple ds => decide (0 < ds.length) && ds.all (runD n)
  | _ => false
end RV
namespace RV
open PySem PySem.Spec PyProof.Rows L2
/-- the numbers of a tuple, the runs of a ring, read out of data -/
def intD : PyData → Int
  | .int i => i
  | _ => 0
def intsD : PyData → List Int
  | .tuple ds => ds.map intD
  | _ => []
def oneD : PyData → Int × List Int
  | .tuple [t, m] => (intD t, intsD m)
  | _ => (0, [])
def rsD : PyData → List (Int × List Int)
  | .tuple ds => ds.map oneD
  | _ => []
theorem below_int {n : Int} {d : PyData} (h : belowD n d = true) : d = .int (intD d) ∧ 0 ≤ intD d ∧ intD d < n := by
  cases d with
  | int i =>
    have h : (decide (0 ≤ i) && decide (i < n)) = true := h
    rw [Bool.and_eq_true, decide_eq_true_iff, decide_eq_true_iff] at h
    exact ⟨rfl, h⟩
  | none => cases h
  | bool b => cases h
  | str x => cases h
  | list ds => cases h
  | tuple ds => cases h
  | dict ds => cases h
theorem map_id_of {α : Type} {f : α → α} : ∀ {l : List α}, (∀ x ∈ l, f x = x) → l.map f = l
  | [], _ => rfl
  | x :: l, h => by rw [List.map_cons, h x (List.mem_cons_self ..), map_id_of fun y hy => h y (List.mem_cons_of_mem _ hy)]
theorem marks_ints {n : Int} {d : PyData} (h : marksD n d = true) : d = dI (intsD d) ∧ intsD d ≠ [] ∧ ∀ x ∈ intsD d, 0 ≤ x ∧ x < n := by
  cases d with
  | tuple ds =>
    have h : (decide (0 < ds.length) && ds.all (belowD n)) = true := h
    rw [Bool.and_eq_true, decide_eq_true_iff, List.all_eq_true] at h
    refine ⟨?_, fun z => ?_, fun x hx => ?_⟩
    · show PyData.tuple ds = .tuple ((ds.map intD).map PyData.int)
      rw [List.map_map, map_id_of (f := PyData.int ∘ intD) fun x hx => (below_int (h.2 x hx)).1.symm]
    · have z : ds.map intD = [] := z
      rw [List.map_eq_nil_iff] at z
      rw [z] at h
      exact absurd h.1 (Nat.lt_irrefl _)
    · obtain ⟨e, he, rfl⟩ := List.mem_map.mp (show x ∈ ds.map intD from hx)
      exact (below_int (h.2 e he)).2
  | none => cases h
  | bool b => cases h
  | str x => cases h
  | list ds => cases h
  | int ds => cases h
  | dict ds => cases h
theorem run_two {n : Int} {d : PyData} (h : runD n d = true) : ∃ t m, d = .tuple [t, m] ∧ timesD t = true ∧ marksD n m = true := by
  cases d with
  | tuple ds =>
    match ds, h with
    | [t, m], h =>
      have h : (timesD t && marksD n m) = true := h
      rw [Bool.and_eq_true] at h
      exact ⟨t, m, rfl, h⟩
    | [], h => cases h
    | [_], h => cases h
    | _ :: _ :: _ :: _, h => cases h
  | none => cases h
  | bool b => cases h
  | str x => cases h
  | list ds => cases h
  | int ds => cases h
  | dict ds => cases h
theorem times_int {d : PyData} (h : timesD d = true) : d = .int (intD d) ∧ 1 ≤ intD d := by
  cases d with
  | int i => exact ⟨rfl, of_decide_eq_true h⟩
  | none => cases h
  | bool b => cases h
  | str x => cases h
  | list ds => cases h
  | tuple ds => cases h
  | dict ds => cases h
theorem run_is {n : Int} {d : PyData} (h : runD n d = true) : d = dRun (oneD d) ∧ 1 ≤ (oneD d).1 ∧ (oneD d).2 ≠ [] ∧ ∀ x ∈ (oneD d).2, 0 ≤ x ∧ x < n := by
  obtain ⟨t, m, rfl, h1, h2⟩ := run_two h
  have e1 := times_int h1
  have e2 := marks_ints h2
  refine ⟨?_, e1.2, e2.2⟩
  show PyData.tuple [t, m] = .tuple [.int (intD t), dI (intsD m)]
  rw [← e1.1, ← e2.1]
theorem form_tup {n : Int} {d : PyData} (h : formD n d = true) : ∃ ds, d = .tuple ds ∧ 0 < ds.length ∧ ∀ e ∈ ds, runD n e = true := by
  cases d with
  | tuple ds =>
    have h : (decide (0 < ds.length) && ds.all (runD n)) = true := h
    rw [Bool.and_eq_true, decide_eq_true_iff, List.all_eq_true] at h
    exact ⟨ds, rfl, h⟩
  | none => cases h
  | bool b => cases h
  | str x => cases h
  | list ds => cases h
  | int ds => cases h
  | dict ds => cases h
theorem form_is {n : Int} {d : PyData} (h : formD n d = true) : d = dRg (rsD d) ∧ rsD d ≠ [] ∧ ∀ r ∈ rsD d, 1 ≤ r.1 ∧ r.2 ≠ [] ∧ ∀ x ∈ r.2, 0 ≤ x ∧ x < n := by
  obtain ⟨ds, rfl, h1, h2⟩ := form_tup h
  refine ⟨?_, fun z => ?_, fun r hr => ?_⟩
  · show PyData.tuple ds = .tuple ((ds.map oneD).map dRun)
    rw [List.map_map, map_id_of (f := dRun ∘ oneD) fun x hx => (run_is (h2 x hx)).1.symm]
  · have z : ds.map oneD = [] := z
    rw [List.map_eq_nil_iff] at z
    rw [z] at h1
    exact absurd h1 (Nat.lt_irrefl _)
  · obtain ⟨e, he, rfl⟩ := List.mem_map.mp (show r ∈ ds.map oneD from hr)
    exact (run_is (h2 e he)).2
/-- how much: runs and words are no longer -/
theorem run_bulk {rs : List (Int × List Int)} {m : Nat} (h : (dRg rs).bulk ≤ m) : rs.length ≤ m ∧ ∀ r ∈ rs, r.2.length ≤ m := by
  have h : PyData.bulkAll (rs.map dRun) ≤ m := by simpa only [dRg, PyData.bulk] using h
  refine ⟨?_, fun r hr => ?_⟩
  · have := bulk_len (rs.map dRun)
    rw [List.length_map] at this; omega
  · have z := bulk_mem (List.mem_map_of_mem (f := dRun) hr)
    have z2 : (dRun r).bulk = PyData.bulkAll [.int r.1, dI r.2] := by simp only [dRun, PyData.bulk]
    have z3 := bulk_mem (ds := [.int r.1, dI r.2]) (e := dI r.2) (List.mem_cons_of_mem _ (List.mem_cons_self ..))
    have z4 := bulk_len (r.2.map PyData.int)
    have z5 : (dI r.2).bulk = PyData.bulkAll (r.2.map PyData.int) := by simp only [dI, PyData.bulk]
    rw [List.length_map] at z4
    omega
end RV
set_option maxHeartbeats 4000000
namespace K4
open PySem PySem.Spec PyProof.Rows L2 RV
section
variable {P : Program} {w : World} {K : PySem.W.Frag} {mg : Str → Option Value} {base : Heap}
/-! ### is_whole, is_below, are_marks of anything -/
def spWholeD (K : PySem.W.Frag) : Sp := fun vs H Q _ => ∃ (v : V) (d : PyData), vs = [v] ∧ Dp K H v d ∧ Q (.bl (wholeD d)) H
theorem ok_wholeD {f : Addr} {fd : FuncData} (F : Fun K "is_whole" "is_whole" sWhole f fd) (B : Bare mg) : FnOk P w K mg base CX0 1 f fd ["thing"] (spWholeD K) := by
  refine F.ok scWhole (fun vs H Q E h => ?_) (fun cdv A outer s H vs Q E hr h => ?_)
  · obtain ⟨v, d, rfl, _⟩ := h
    rfl
  · obtain ⟨v, d, rfl, hd, q⟩ := h
    refine ⟨_, pss_one (ps_ret (pe_and (pe_callB call_isi (by rfl) B.isinstance (by decide +kernel) (pa_cons (pv 0) (pa_cons (pe_bltn (v := .ty "int") (by rfl) B.int boot_int rfl) pa_nil)))
      (pe_one (pe_not (pe_callB call_isi (by rfl) B.isinstance (by decide +kernel) (pa_cons (pv 0) (pa_cons (pe_bltn (v := .ty "bool") (by rfl) B.bool (by decide +kernel) rfl) pa_nil))))))), ?_⟩
    refine ⟨v, rfl, v, .ty "int", _, _, _, rfl, .ty "int", tyD hd, kit_D (.inl rfl), _, rfl, ?_⟩
    rw [isi_int]
    cases d with
    | int i => exact iteT ⟨v, rfl, v, .ty "bool", _, _, _, rfl, .ty "bool", tyD hd, kit_D (.inr (.inl rfl)), _, rfl, by rw [isi_bool]; exact q⟩
    | bool b => exact iteT ⟨v, rfl, v, .ty "bool", _, _, _, rfl, .ty "bool", tyD hd, kit_D (.inr (.inl rfl)), _, rfl, by rw [isi_bool]; exact q⟩
    | none => exact iteF q
    | str x => exact iteF q
    | list ds => exact iteF q
    | tuple ds => exact iteF q
    | dict ds => exact iteF q
def spBelowD (K : PySem.W.Frag) : Sp := fun vs H Q _ => ∃ (v : V) (d : PyData) (n : Int), vs = [v, .int n] ∧ Dp K H v d ∧ Q (.bl (belowD n d)) H
theorem ok_belowD {f fW : Addr} {fd fdW : FuncData} (F : Fun K "is_below" "is_below" sMark f fd) (D : DefAt K mg "is_whole" sWhole ["thing"] fW fdW) (B : Bare mg) : FnOk P w K mg base CX0 2 f fd ["thing", "many"] (spBelowD K) := by
  have GW : FnOk P w K mg base CX0 1 fW fdW ["thing"] (spWholeD K) := ok_wholeD D.fn B
  refine F.ok scMark (fun vs H Q E h => ?_) (fun cdv A outer s H vs Q E hr h => ?_)
  · obtain ⟨v, d, n, rfl, _⟩ := h
    rfl
  · obtain ⟨v, d, n, rfl, hd, q⟩ := h
    refine ⟨_, pss_one (ps_ret (pe_and (pe_call GW hr (by rfl) D.mg D.fn.kp D.bi .nil pass0 (pa_cons (pv 0) pa_nil)) (pe_one (pe_chain op_le op_lt pe_int (pv 0) (pv 1))))), ?_⟩
    refine ⟨v, rfl, v, d, rfl, hd, _, rfl, ?_⟩
    cases d with
    | int i =>
      cases hd
      refine iteT ⟨.int i, rfl, 0, i, rfl, rfl, _, rfl, ite2 (fun h0 => ?_) (fun h0 => ?_)⟩
      · refine ⟨.int n, rfl, i, n, rfl, rfl, ?_⟩
        have z : belowD n (.int i) = decide (i < n) := by show (decide (0 ≤ i) && decide (i < n)) = _; rw [h0, Bool.true_and]
        rw [z] at q
        exact q
      · have z : belowD n (.int i) = false := by show (decide (0 ≤ i) && decide (i < n)) = _; rw [Bool.eq_false_iff.mpr h0, Bool.false_and]
        rw [z] at q
        exact q
    | bool b => exact iteF q
    | none => exact iteF q
    | str x => exact iteF q
    | list ds => exact iteF q
    | tuple ds => exact iteF q
    | dict ds => exact iteF q
def spMarksD (K : PySem.W.Frag) : Sp := fun vs H Q _ => ∃ (v : V) (d : PyData) (n : Int), vs = [v, .int n] ∧ Dp K H v d ∧ d.bulk ≤ 1000 ∧ ∀ H', Same H H' → Q (.bl (marksD n d)) H'
theorem all_id (f : PyData → Bool) (ds : List PyData) : (ds.map f).all id = ds.all f := by rw [List.all_map]; rfl
theorem ok_marksD {f fM fW : Addr} {fd fdM fdW : FuncData} (F : Fun K "are_marks" "are_marks" sMarks f fd) (DM : DefAt K mg "is_below" sMark ["thing", "many"] fM fdM) (DW : DefAt K mg "is_whole" sWhole ["thing"] fW fdW) (B : Bare mg) :
    FnOk P w K mg base CX0 3 f fd ["thing", "many"] (spMarksD K) := by
  have GM : FnOk P w K mg base CX0 2 fM fdM ["thing", "many"] (spBelowD K) := ok_belowD DM.fn DW B
  refine F.ok scMarks (fun vs H Q E h => ?_) (fun cdv A outer s H vs Q E hr h => ?_)
  · obtain ⟨v, d, n, rfl, _⟩ := h
    rfl
  · obtain ⟨v, d, n, rfl, hd, hb, q⟩ := h
    refine ⟨_, pss_one (ps_ret (pe_and (pe_callB call_isi (by rfl) B.isinstance (by decide +kernel) (pa_cons (pv 0) (pa_cons (pe_bltn (v := .ty "tuple") (by rfl) B.tuple (by decide +kernel) rfl) pa_nil)))
      (pe_and (pe_cmpR op_gt (pe_callB call_len_seq (by rfl) B.len PySem.boot_len (pa_cons (pv 0) pa_nil)) pe_int (nomark _))
      (pe_one (pe_callB (cr_all rfl) (by rfl) B.all (by decide +kernel) (pa_cons
        (pe_lc (own := [("mark", 2)]) (g := gName 2) (tt := tYes) rfl scMarks.nd (pi_tup (pv 0)) (blkOk_by (N := ["thing", "many", "mark"]) (sc := defScope sMarks) (by decide +kernel)) (fun _ _ _ _ _ => pg_name (i := 2) scMarks.nd rfl (Or.inl rfl)) (fun _ _ _ _ _ => pts_nil)
          (fun _ _ _ _ _ => pe_call GM hr (by rfl) DM.mg DM.fn.kp DM.bi .nil pass0 (pa_cons (pv 2) (pa_cons (pv 1) pa_nil)))) pa_nil)))))), ?_⟩
    refine ⟨v, rfl, v, .ty "tuple", _, _, _, rfl, .ty "tuple", tyD hd, kit_D (.inr (.inr (.inl rfl))), _, rfl, ?_⟩
    rw [isi_tup]
    have no : ∀ e : PyData, d = e → marksD n e = false → Q (.bl false) H := fun e he hm => by
      have z := q H (Same.refl H)
      rw [he, hm] at z
      exact z
    cases hd with
    | tup hT hA =>
      rename_i a xs ds
      have hl := DpAll.len hA
      have hl2 : ds.length ≤ 1000 := by
        have z := bulk_len ds
        simp only [PyData.bulk] at hb
        omega
      refine iteT ⟨.ref a, rfl, a, _, rfl, .inr hT, _, _, rfl, rfl, _, rfl, ite2 (fun h0 => ?_) (fun h0 => ?_)⟩
      · have h0 := of_decide_eq_true h0
        refine ⟨.ref a, rfl, a, rfl, ⟨_, hT⟩, fun D nD => ?_⟩
        refine lc_tup (K := K) (a := a) (xs := xs) (fun i H' => Same H H' ∧ H' D = some (.lst (((ds.take i).map (belowD n)).map V.bl))) ⟨same_upd nD, upd_same⟩ (fun i H' _ p => sqT_same p.1 hT) (fun i x H' hx p => ?_) fun H' p => ?_
        · obtain ⟨e, ge, he⟩ := DpAll.at hA hx
          have hi : i < ds.length := (List.getElem?_eq_some_iff.mp ge).1
          refine ⟨rfl, tt_yes ⟨x, rfl, .int n, rfl, x, e, n, rfl, Dp.same p.1 he, _, p.2, ?_, fun b o z => ?_, ?_⟩⟩
          · rw [List.length_map, List.length_map, List.length_take]; exact few1 (by omega)
          · rw [upd_ne (ne_of_none z nD)]; exact p.1 b o z
          · rw [upd_same, List.take_add_one, ge, List.map_append, List.map_append]; rfl
        · rw [hl, List.take_of_length_le (Nat.le_refl _)] at p
          refine ⟨D, _, rfl, lstNew p.2, ?_⟩
          have z := q H' p.1
          have e : marksD n (.tuple ds) = ds.all (belowD n) := by
            show (decide (0 < ds.length) && ds.all (belowD n)) = _
            rw [decide_eq_true (by omega), Bool.true_and]
          rw [e] at z
          rw [all_id]
          exact z
      · have h0 : ds.length = 0 := by
          have : ¬ ((xs.length : Int) > 0) := fun z => h0 (decide_eq_true z)
          omega
        exact no _ rfl (by show (decide (0 < ds.length) && ds.all (belowD n)) = false; rw [decide_eq_false (by omega), Bool.false_and])
    | non => exact iteF (no _ rfl rfl)
    | bl b => exact iteF (no _ rfl rfl)
    | int i => exact iteF (no _ rfl rfl)
    | str x => exact iteF (no _ rfl rfl)
    | lst h1 h2 => exact iteF (no _ rfl rfl)
end
end K4
set_option maxHeartbeats 4000000
/-! repr(x), x data of any kind, an empty dict too -/
namespace RV
open PySem PySem.Spec PyProof.Rows L2
/-- a thing of any kind, an empty dict too -/
def Dz (K : PySem.W.Frag) (H : Hp) (v : V) (d : PyData) : Prop := Dp K H v d ∨ ∃ a, v = .ref a ∧ H a = some (.dK []) ∧ d = .dict []
theorem Dz.same {K : PySem.W.Frag} {H H' : Hp} {v : V} {d : PyData} (h : Dz K H v d) (s : Same H H') : Dz K H' v d := by
  rcases h with h | ⟨a, h1, h2, h3⟩
  · exact .inl (Dp.same s h)
  · exact .inr ⟨a, h1, s _ _ h2, h3⟩
theorem Dz.ty {K : PySem.W.Frag} {H : Hp} {v : V} {d : PyData} (h : Dz K H v d) : TyX K H v (.type (tnD d)) := by
  rcases h with h | ⟨a, rfl, h2, rfl⟩
  · exact tyD h
  · exact .base (.dK h2)
/-- its text -/
def tvD : PyData → Str
  | .int i => (toString i : String)
  | .none => ("None" : String)
  | .bool b => (if b then Str.ofString "True" else Str.ofString "False")
  | .str x => reprText x
  | d => d.shown
/-- what repr can write -/
def TopS : PyData → Prop
  | .int i => i.natAbs.log2 < 1920
  | .str x => (reprText x).length ≤ sizeLine
  | .list ds => Shows (.list ds)
  | .tuple ds => Shows (.tuple ds)
  | _ => True
theorem shown_nil : (PyData.dict []).shown.length ≤ sizeLine ∧ (PyData.dict []).showable = true ∧ (PyData.dict []).depth ≤ 1 := by
  refine ⟨?_, ?_, ?_⟩
  · simp only [PyData.shown]
    rw [sizeLine_eq]
    decide
  · simp [PyData.showable, PyData.showableKv]
  · simp [PyData.depth, PyData.depthKv]
section
variable {X : Cx}
theorem call_bool : CallR X (.builtin "repr") (fun xs H Q => ∃ b : Bool, xs = [.bl b] ∧ Q (.str (if b then Str.ofString "True" else Str.ofString "False")) H) := by
  intro pins s σ H xs us Q I r h
  obtain ⟨b, rfl, q⟩ := h
  obtain ⟨u, rfl, rx⟩ := vals1 r
  cases (show u = Value.bool b from rx)
  exact PySem.P.repr_of_bool ⟨.str _, H, I.tok _, ⟨_, rfl⟩, q⟩
def rReprZ (K : PySem.W.Frag) : List V → Hp → VK → Prop := fun xs H Q => ∃ (v : V) (d : PyData), xs = [v] ∧ Dz K H v d ∧ TopS d ∧ Q (.str (tvD d)) H
theorem call_reprZ (gd : X.A.guards = some []) (hu : X.A.units + 65 < cLine) : CallR X (.builtin "repr") (rReprZ X.K) := by
  intro pins s σ H xs us Q I r h
  obtain ⟨v, d, rfl, hz, hs, q⟩ := h
  rcases hz with hd | ⟨a, rfl, h2, rfl⟩
  · cases hd with
    | non => exact call_reprO pins s σ H _ us Q I r (.inr ⟨rfl, q⟩)
    | int i => exact call_reprO pins s σ H _ us Q I r (.inl ⟨i, rfl, hs, q⟩)
    | bl b => exact call_bool pins s σ H _ us Q I r ⟨b, rfl, q⟩
    | str x =>
      obtain ⟨u, rfl, rx⟩ := vals1 r
      obtain ⟨t, rfl⟩ := (show ∃ t, u = Value.str x t from rx)
      exact PySem.P.repr_of_str ⟨.str _, H, I.tok _, ⟨_, rfl⟩, q⟩ hs
    | tup h1 h2 => exact call_reprD gd hu pins s σ H _ us Q I r ⟨_, _, rfl, .tup h1 h2, hs.h1, hs.h2, hs.h3, hs.h4, q⟩
    | lst h1 h2 => exact call_reprD gd hu pins s σ H _ us Q I r ⟨_, _, rfl, .lst h1 h2, hs.h1, hs.h2, hs.h3, hs.h4, q⟩
  · obtain ⟨u, rfl, ru⟩ := vals1 r
    cases ru
    have ok := I.hok a _ h2
    unfold ObjOk at ok
    obtain ⟨_, hm, vs, kv, o, es, ep, g1, g2, g3, g4, g5, g6⟩ := ok
    have ev : vs = [] := by cases kv; rfl
    subst ev
    have ee : es.toList = [] := by
      cases h : es.toList with
      | nil => rfl
      | cons e r => rw [h] at g5; cases g5
    have rd : Reads s.heap (.ref a) (.dict []) (a :: [] ++ []) := .dict (kvs := []) (as := []) (bs := []) g1 g2.1 g3 (by rw [ee]; exact .nil) (by rw [ee]; exact .nil)
    obtain ⟨n1, n2, n3⟩ := shown_nil
    refine repr_of_reads' rd n2 (fun _ z => ?_) gd (by omega) (fun _ _ z => z) (fun h' uu tk k => ?_) n1
    · have z : sysModules ∈ [a] := z
      rw [← List.mem_singleton.mp z] at hm
      simp at hm
    · exact ⟨.str _, H, I.kept k, ⟨uu, rfl⟩, q⟩
end
end RV
set_option maxHeartbeats 4000000
namespace K4
open PySem PySem.Spec PyProof.Rows L2 RV
section
variable {K : PySem.W.Frag} {H : Hp}
theorem dp_ints : ∀ {vs : List V} {ns : List Int}, DpAll K H vs (ns.map PyData.int) → vs = ns.map V.int
  | [], [], .nil => rfl
  | v :: vs, n :: ns, .cons h1 h2 => by
    cases h1
    rw [dp_ints h2]; rfl
theorem dp_dI {v : V} {ns : List Int} (h : Dp K H v (dI ns)) : ∃ a, v = .ref a ∧ SqT K H a (ns.map V.int) := by
  unfold RV.dI at h
  cases h with
  | tup h1 h2 =>
    rw [dp_ints h2] at h1
    exact ⟨_, rfl, h1⟩
theorem dp_run {v : V} {r : Int × List Int} (h : Dp K H v (dRun r)) : ∃ k : Rk, v = .ref k.1 ∧ valR k = r ∧ RunOk K H k := by
  unfold dRun at h
  cases h with
  | tup h1 h2 =>
    cases h2 with
    | cons g1 g2 =>
      cases g1
      cases g2 with
      | cons g3 g4 =>
        cases g4
        obtain ⟨b, rfl, hb⟩ := dp_dI g3
        exact ⟨(_, b, r.1, r.2), rfl, rfl, h1, hb⟩
theorem dp_runs : ∀ {vs : List V} {rs : List (Int × List Int)}, DpAll K H vs (rs.map dRun) → ∃ ks : List Rk, vs = ks.map (fun k => V.ref k.1) ∧ ks.map valR = rs ∧ ∀ k ∈ ks, RunOk K H k
  | [], [], .nil => ⟨[], rfl, rfl, fun _ h => nomatch h⟩
  | v :: vs, r :: rs, .cons h1 h2 => by
    obtain ⟨k, rfl, e1, e2⟩ := dp_run h1
    obtain ⟨ks, rfl, e3, e4⟩ := dp_runs h2
    refine ⟨k :: ks, rfl, by rw [List.map_cons, e1, e3], fun q hq => ?_⟩
    rcases List.mem_cons.mp hq with z | z
    · rw [z]; exact e2
    · exact e4 q z
theorem dp_ring {v : V} {rs : List (Int × List Int)} (h : Dp K H v (dRg rs)) : ∃ a, v = .ref a ∧ RingAt K H a rs := by
  unfold dRg at h
  cases h with
  | tup h1 h2 =>
    obtain ⟨ks, rfl, e1, e2⟩ := dp_runs h2
    exact ⟨_, rfl, ks, e1, h1, e2⟩
end
/-- whether data is a ring of the rule -/
def ringD (ps : List (List Int)) (n : Int) (d : PyData) : Bool := formD n d && (nbs (rsD d) (rsD d).length).all fun p => decide (p ∈ ps)
section
variable {P : Program} {w : World} {K : PySem.W.Frag} {mg : Str → Option Value} {base : Heap}
/-! ### is_run of anything -/
def spRunD (K : PySem.W.Frag) (C : Addr) : Sp := fun vs H Q _ => ∃ (r : Addr) (v : V) (d : PyData) (ns : List Int) (ps : List (List Int)), vs = [.ref r, v] ∧ RuleAt K C H r ns ps ∧ Dp K H v d ∧ d.bulk ≤ 1000 ∧ ∀ H', Same H H' → Q (.bl (runD ns.length d)) H'
theorem ok_runD {f C fM fA fK fW : Addr} {fd dM dA dK dW : FuncData} (F : Fun K "is_run" "is_run" sIsRun f fd) (T : Txt K mg C) (B : Bare mg)
    (FM : Fun K "marks" "Rule.marks" sMarksM fM dM) (bM : Binds K dM ["self"] []) (mM : Meth K C "marks" fM)
    (DA : DefAt K mg "are_marks" sMarks ["thing", "many"] fA dA) (DK : DefAt K mg "is_below" sMark ["thing", "many"] fK dK) (DW : DefAt K mg "is_whole" sWhole ["thing"] fW dW) : FnOk P w K mg base CX0 4 f fd ["rule", "thing"] (spRunD K C) := by
  have GM : FnOk P w K mg base CX0 1 fM dM ["self"] (spMarksM K C) := ok_marksM FM T B
  have GA : FnOk P w K mg base CX0 3 fA dA ["thing", "many"] (spMarksD K) := ok_marksD DA.fn DK DW B
  have GW : FnOk P w K mg base CX0 1 fW dW ["thing"] (spWholeD K) := ok_wholeD DW.fn B
  refine F.ok scIsRun (fun vs H Q E h => ?_) (fun cdv A outer s H vs Q E hr h => ?_)
  · obtain ⟨r, v, d, ns, ps, rfl, _⟩ := h
    rfl
  · obtain ⟨r, v, d, ns, ps, rfl, R, hd, hb, q⟩ := h
    have r1 := hr.mono (show 1 ≤ 3 by decide)
    refine ⟨_, pss_cons (ps_if (PW.pt (pw_or (pt_not (pt_val (pe_callB call_isi (by rfl) B.isinstance (by decide +kernel) (pa_cons (pv 1) (pa_cons (pe_bltn (v := .ty "tuple") (by rfl) B.tuple (by decide +kernel) rfl) pa_nil)))))
        (pw_or1 (pt_cmpR op_ne (pe_callB call_len_seq (by rfl) B.len PySem.boot_len (pa_cons (pv 1) pa_nil)) pe_int (nomark _))))) (pss_one (ps_ret pe_bl)) pss_nil)
      (pss_cons (ps_asg (pv 1) (pg_tup (by rfl) (pgs_cons (pg_name (i := 2) scIsRun.nd rfl (Or.inl rfl)) (pgs_cons (pg_name (i := 3) scIsRun.nd rfl (Or.inl rfl)) pgs_nil))))
      (pss_one (ps_ret (pe_and (pe_call GW r1 (by rfl) DW.mg DW.fn.kp DW.bi .nil pass0 (pa_cons (pv 2) pa_nil)) (pe_and (pe_cmpR op_ge (pv 2) pe_int (nomark _)) (pe_one (pe_call GA hr (by rfl) DA.mg DA.fn.kp DA.bi .nil pass0 (pa_cons (pv 3) (pa_cons (pe_meth0 (pv 0) T.cl mM GM r1 bM .nil pass0) pa_nil))))))))), ?_⟩
    obtain ⟨dx, a0, b0, t0, g1, g2, g3, g4⟩ := R.ex
    have fno := flds_no a0 b0 t0 (m := "marks") (by decide +kernel) (by decide +kernel) (by decide +kernel)
    have no : runD ns.length d = false → Q (.bl false) H := fun hm => by
      have z := q H (Same.refl H)
      rw [hm] at z
      exact z
    refine ⟨v, rfl, v, .ty "tuple", _, _, _, rfl, .ty "tuple", tyD hd, kit_D (.inr (.inr (.inl rfl))), _, rfl, ?_⟩
    rw [isi_tup]
    cases hd with
    | tup hT hA =>
      rename_i a xs ds
      have hl := DpAll.len hA
      refine iteF ⟨.ref a, rfl, a, _, rfl, .inr hT, rfl, _, rfl, ?_⟩
      rw [decV]
      match ds, xs, hA, hl, hb, hT, no, q with
      | [t, m], [x, y], hA, _, hb, hT, no, q =>
        rw [decide_eq_true (show (([x, y] : List V).length : Int) = 2 from rfl)]
        refine iteF ?_
        obtain ⟨hx, hA2⟩ : Dp K H x t ∧ DpAll K H [y] [m] := by cases hA with | cons h1 h2 => exact ⟨h1, h2⟩
        have hy : Dp K H y m := by cases hA2 with | cons h1 h2 => exact h1
        have bm : m.bulk ≤ 1000 := by
          have z := bulk_mem (ds := [t, m]) (e := m) (List.mem_cons_of_mem _ (List.mem_cons_self ..))
          simp only [PyData.bulk] at hb
          omega
        refine ⟨.ref a, rfl, a, _, rfl, hT, rfl, _, _, rfl, _, _, rfl, rfl, ?_⟩
        refine ⟨x, rfl, x, t, rfl, hx, _, rfl, ?_⟩
        have stop : timesD t = false → Q (.bl false) H := fun ht => no (by show (timesD t && marksD _ m) = false; rw [ht, Bool.false_and])
        cases t with
        | int i =>
          cases hx
          refine iteT ⟨.int i, rfl, _, _, rfl, rfl, _, rfl, ite2 (fun h1 => ?_) (fun h1 => ?_)⟩
          · have h1 := of_decide_eq_true h1
            refine ⟨y, rfl, .ref r, rfl, r, dx, _, rfl, g1, fno, r, ns, ps, rfl, R, ?_⟩
            refine ⟨y, m, _, rfl, hy, bm, fun H' s' => ?_⟩
            have z := q H' s'
            have e : runD ns.length (.tuple [.int i, m]) = marksD ns.length m := by
              show (decide (1 ≤ i) && marksD _ m) = _
              rw [decide_eq_true (show (1 : Int) ≤ i from h1), Bool.true_and]
            rw [e] at z
            exact z
          · exact stop (decide_eq_false fun z => h1 (decide_eq_true z))
        | bool b => exact iteF (stop rfl)
        | none => exact iteF (stop rfl)
        | str x => exact iteF (stop rfl)
        | list ds => exact iteF (stop rfl)
        | tuple ds => exact iteF (stop rfl)
        | dict ds => exact iteF (stop rfl)
      | [], [], _, _, _, _, no, _ => exact iteT (no rfl)
      | [t], [x], _, _, _, _, no, _ => exact iteT (no rfl)
      | t :: m :: u :: ds, x :: y :: z :: xs, _, _, _, _, no, _ =>
        rw [decide_eq_false (show ¬ ((x :: y :: z :: xs).length : Int) = 2 by simp only [List.length_cons]; omega)]
        exact iteT (no rfl)
    | non => exact iteT (no rfl)
    | bl b => exact iteT (no rfl)
    | int i => exact iteT (no rfl)
    | str x => exact iteT (no rfl)
    | lst h1 h2 => exact iteT (no rfl)
end
end K4
set_option maxHeartbeats 4000000
namespace K4
open PySem PySem.Spec PyProof.Rows L2 RV
def topD : PyData → Nat
  | .tuple ds => ds.length
  | _ => 0
theorem form_rg {ns : List Int} {d : PyData} (h : formD ns.length d = true) (hb : d.bulk ≤ 1000) (ht : topD d ≤ 100) : Rg ns (rsD d) := by
  obtain ⟨e, ne, hr⟩ := form_is h
  rw [e] at hb
  obtain ⟨b1, b2⟩ := run_bulk hb
  refine ⟨⟨?_, ne, fun r hr' => ⟨(hr r hr').1, (hr r hr').2.1⟩, fun r hr' => ?_⟩, fun r hr' => b2 r hr', fun r hr' => (hr r hr').2.2⟩
  · obtain ⟨ds, rfl, _⟩ := form_tup h
    show (ds.map oneD).length ≤ 100
    rw [List.length_map]; exact ht
  · have := b2 r hr'; omega
section
variable {P : Program} {w : World} {K : PySem.W.Frag} {mg : Str → Option Value} {base : Heap}
/-! ### is_ring of anything -/
def spIsRingD (K : PySem.W.Frag) (C : Addr) : Sp := fun vs H Q _ => ∃ (r : Addr) (v : V) (d : PyData) (ns : List Int) (ps : List (List Int)), vs = [.ref r, v] ∧ RuleAt K C H r ns ps ∧ Mir ns ∧ Stp ns ps ∧ Dz K H v d ∧ d.bulk ≤ 1000 ∧ topD d ≤ 100 ∧
  ∀ H', Same H H' → Q (.bl (ringD ps ns.length d)) H'
theorem ok_isringD {f C fM fB fR fN fA fK fW : Addr} {fd dM dB dR dN dA dK dW : FuncData} (F : Fun K "is_ring" "is_ring" sIsRing f fd) (T : Txt K mg C) (B : Bare mg)
    (FM : Fun K "marks" "Rule.marks" sMarksM fM dM) (bM : Binds K dM ["self"] []) (mM : Meth K C "marks" fM) (FB : Fun K "behind" "Rule.behind" sBehindM fB dB) (bB : Binds K dB ["self", "mark"] []) (mB : Meth K C "behind" fB)
    (DR : DefAt K mg "is_run" sIsRun ["rule", "thing"] fR dR) (DN : DefAt K mg "neighbours" sNeighb ["ring"] fN dN)
    (DA : DefAt K mg "are_marks" sMarks ["thing", "many"] fA dA) (DK : DefAt K mg "is_below" sMark ["thing", "many"] fK dK) (DW : DefAt K mg "is_whole" sWhole ["thing"] fW dW) : FnOk P w K mg base CX0 5 f fd ["rule", "thing"] (spIsRingD K C) := by
  have GR : FnOk P w K mg base CX0 4 fR dR ["rule", "thing"] (spRunD K C) := ok_runD DR.fn T B FM bM mM DA DK DW
  have GN : FnOk P w K mg base CX0 1 fN dN ["ring"] (spNeighb K) := ok_neighb DN.fn B
  have GB : FnOk P w K mg base CX0 1 fB dB ["self", "mark"] (spBehindM K C) := ok_behindM FB T
  refine F.ok scIsRing (fun vs H Q E h => ?_) (fun cdv A outer s H vs Q E hr h => ?_)
  · obtain ⟨r, v, d, ns, ps, rfl, _⟩ := h
    rfl
  · obtain ⟨r, v, d, ns, ps, rfl, R, M, S, hz, hb, ht, q⟩ := h
    have r1 := hr.mono (show 1 ≤ 4 by decide)
    have hu5 := un65 hr
    obtain ⟨dx, a0, b0, t0, g1, g2, g3, g4⟩ := R.ex
    have fno := flds_no a0 b0 t0 (m := "behind") (by decide +kernel) (by decide +kernel) (by decide +kernel)
    refine ⟨_, pss_cons (ps_if (PW.pt (pw_or (pt_not (pt_val (pe_callB call_isi (by rfl) B.isinstance (by decide +kernel) (pa_cons (pv 1) (pa_cons (pe_bltn (v := .ty "tuple") (by rfl) B.tuple (by decide +kernel) rfl) pa_nil)))))
        (pw_or1 (pt_cmpR op_eq (pe_callB call_len_seq (by rfl) B.len PySem.boot_len (pa_cons (pv 1) pa_nil)) pe_int (nomark _))))) (pss_one (ps_ret pe_bl)) pss_nil)
      (pss_cons (ps_if (pt_not (pt_val (pe_callB (cr_all rfl) (by rfl) B.all (by decide +kernel) (pa_cons
          (pe_lc (own := [("run", 2)]) (g := gName 2) (tt := tYes) rfl scIsRing.nd (pi_tup (pv 1)) (blkOk_by (N := ["rule", "thing", "run", "a", "b"]) (sc := defScope sIsRing) (by decide +kernel))
            (fun _ _ _ _ _ => pg_name (i := 2) scIsRing.nd rfl (Or.inl rfl)) (fun _ _ _ _ _ => pts_nil) (fun _ _ _ _ _ => pe_call GR hr (by rfl) DR.mg DR.fn.kp DR.bi .nil pass0 (pa_cons (pv 0) (pa_cons (pv 2) pa_nil)))) pa_nil)))) (pss_one (ps_ret pe_bl)) pss_nil)
      (pss_one (ps_ret (pe_callB (cr_all rfl) (by rfl) B.all (by decide +kernel) (pa_cons
          (pe_lc (own := [("a", 3), ("b", 4)]) (g := gTup K 2 (gCons (gName 3) (gCons (gName 4) gNil))) (tt := tYes) rfl scIsRing.nd (pi_list (pe_call GN r1 (by rfl) DN.mg DN.fn.kp DN.bi .nil pass0 (pa_cons (pv 1) pa_nil))) (blkOk_by (N := ["rule", "thing", "run", "a", "b"]) (sc := defScope sIsRing) (by decide +kernel))
            (fun _ _ _ _ _ => pg_tupK rfl rfl (pgs_cons (pg_name (i := 3) scIsRing.nd rfl (Or.inl rfl)) (pgs_cons (pg_name (i := 4) scIsRing.nd rfl (Or.inl rfl)) pgs_nil))) (fun _ _ _ _ _ => pts_nil)
            (fun _ _ _ _ _ => pe_cmpR (op_inTIK (K := K) rfl hu5) (pv 4) (pe_meth (pv 0) T.cl mB GB r1 bB .nil pass0 (pa_cons (pv 3) pa_nil)) (by rfl))) pa_nil))))), ?_⟩
    have no : formD ns.length d = false → ∀ H', Same H H' → Q (.bl false) H' := fun hm H' s' => by
      have z := q H' s'
      unfold ringD at z
      rw [hm, Bool.false_and] at z
      exact z
    refine ⟨v, rfl, v, .ty "tuple", _, _, _, rfl, .ty "tuple", hz.ty, kit_D (.inr (.inr (.inl rfl))), _, rfl, ?_⟩
    rw [isi_tup]
    rcases hz with hd | ⟨a, rfl, h2, rfl⟩
    · cases hd with
      | tup hT hA =>
        rename_i a xs ds
        have hl := DpAll.len hA
        have hds : ds.length ≤ 100 := ht
        refine iteF ⟨.ref a, rfl, a, _, rfl, .inr hT, rfl, _, rfl, ?_⟩
        rw [decV]
        by_cases e0 : ds.length = 0
        · rw [decide_eq_true (show (xs.length : Int) = 0 by omega)]
          exact iteT (no (by show (decide (0 < ds.length) && _) = false; rw [decide_eq_false (by omega), Bool.false_and]) H (Same.refl H))
        rw [decide_eq_false (show ¬ (xs.length : Int) = 0 by omega)]
        refine iteF ?_
        refine ⟨.ref a, rfl, a, rfl, ⟨_, hT⟩, fun D nD => ?_⟩
        refine lc_tup (K := K) (a := a) (xs := xs) (fun i H' => Same H H' ∧ H' D = some (.lst (((ds.take i).map (runD ns.length)).map V.bl))) ⟨same_upd nD, upd_same⟩ (fun i H' _ p => sqT_same p.1 hT) (fun i x H' hx p => ?_) fun H1 p => ?_
        · obtain ⟨e, ge, he⟩ := DpAll.at hA hx
          have hi : i < ds.length := (List.getElem?_eq_some_iff.mp ge).1
          have be : e.bulk ≤ 1000 := by
            have z := bulk_mem (List.mem_of_getElem? ge)
            simp only [PyData.bulk] at hb
            omega
          refine ⟨rfl, tt_yes ⟨.ref r, rfl, x, rfl, r, x, e, ns, ps, rfl, R.same p.1, Dp.same p.1 he, be, fun H2 s2 => ⟨_, s2 _ _ p.2, ?_, fun b o z => ?_, ?_⟩⟩⟩
          · rw [List.length_map, List.length_map, List.length_take]; exact few1 (by omega)
          · rw [upd_ne (ne_of_none z nD)]; exact s2 _ _ (p.1 b o z)
          · rw [upd_same, List.take_add_one, ge, List.map_append, List.map_append]; rfl
        · rw [hl, List.take_of_length_le (Nat.le_refl _)] at p
          refine ⟨D, _, rfl, lstNew p.2, _, rfl, ?_⟩
          rw [all_id]
          have ef : formD ns.length (.tuple ds) = ds.all (runD ns.length) := by
            show (decide (0 < ds.length) && ds.all (runD ns.length)) = _
            rw [decide_eq_true (by omega), Bool.true_and]
          cases ea : ds.all (runD ns.length) with
          | false => exact iteT (no (by rw [ef, ea]) H1 p.1)
          | true =>
            rw [ea] at ef
            refine iteF ?_
            have g := form_rg ef hb ht
            have hdd : Dp K H (.ref a) (.tuple ds) := .tup hT hA
            have eform := (form_is ef).1
            rw [eform] at hdd
            obtain ⟨a', ea', hR⟩ := dp_ring hdd
            cases ea'
            have z := q
            unfold ringD at z
            rw [ef, Bool.true_and] at z
            generalize rsD (.tuple ds) = rs at g hR z
            have nbp := nbs_marks g
            have nbl := nbs_len g.sz.wo rs.length
            have hf := g.sz.few
            have nbl2 : (nbs rs rs.length).length ≤ 400000 := by
              have : rs.length * 3002 ≤ 100 * 3002 := Nat.mul_le_mul_right _ hf
              omega
            have s1 := p.1
            refine ⟨.ref a, rfl, a, rs, rfl, hR.same s1, g.sz, fun H2 l qs b2 eq => ?_⟩
            have s02 := s1.trans b2.sm
            refine ⟨l, rfl, ⟨_, lstNew b2.li⟩, fun D2 nD2 => ?_⟩
            refine lc_list (K := K) (a := l) (xs := qs.map fun k => V.ref k.1) (fun i H' => Same H2 H' ∧ H' D2 = some (.lst (((qs.take i).map fun k => decide (k.2 ∈ ps)).map V.bl))) ⟨same_upd nD2, upd_same⟩ (fun i H' _ p => lstNew (p.1 _ _ b2.li)) (fun i x H' hx p => ?_) fun H3 p => ?_
            · obtain ⟨k, gk, rfl⟩ := map_at hx
              have km := List.mem_of_getElem? gk
              obtain ⟨x, y, e, hx, hy⟩ := nbp k.2 (by rw [← eq]; exact List.mem_map_of_mem km)
              have tk := p.1 _ _ (b2.tu k km)
              rw [e] at tk
              have ql : qs.length ≤ 400000 := by
                have := congrArg List.length eq
                rw [List.length_map] at this; omega
              refine ⟨k.1, _, rfl, tupNew tk, rfl, _, _, rfl, _, _, rfl, rfl, rfl, tt_yes ⟨.int y, rfl, .ref r, rfl, r, dx, _, rfl, (s02.trans p.1) _ _ g1, fno, .int x, rfl, r, ns, ps, x.toNat, by rw [Int.toNat_of_nonneg hx.1]; rfl, R.same (s02.trans p.1), by omega, fun c hc => ?_⟩⟩
              rw [Int.toNat_of_nonneg hx.1] at hc
              refine ⟨c, y, _, rfl, rfl, hc, _, p.2, ?_, fun b o z => ?_, ?_⟩
              · rw [List.length_map, List.length_map, List.length_take, sizeLine_eq]; omega
              · rw [upd_ne (ne_of_none z nD2)]; exact p.1 b o z
              · have em : decide (y ∈ behindOf ps x) = decide (k.2 ∈ ps) := by
                  rw [e]; exact decide_eq_decide.mpr (mem_behind (fun p hp => S.pair p hp))
                rw [upd_same, List.take_add_one, gk, List.map_append, List.map_append, em]; rfl
            · rw [List.length_map, List.take_of_length_le (Nat.le_refl _)] at p
              refine ⟨D2, _, rfl, lstNew p.2, ?_⟩
              have e2 : (qs.map fun k => decide (k.2 ∈ ps)).all id = (nbs rs rs.length).all fun p => decide (p ∈ ps) := by
                rw [← eq, List.all_map, List.all_map]; rfl
              rw [e2]
              exact z H3 (s02.trans p.1)
      | non => exact iteT (no rfl H (Same.refl H))
      | bl b => exact iteT (no rfl H (Same.refl H))
      | int i => exact iteT (no rfl H (Same.refl H))
      | str x => exact iteT (no rfl H (Same.refl H))
      | lst h1 h2 => exact iteT (no rfl H (Same.refl H))
    · exact iteT (no rfl H (Same.refl H))
end
end K4
set_option maxHeartbeats 4000000
namespace K4
open PySem PySem.Spec PyProof.Rows L2 RV
/-! ### what stands beside what, by a spelling in which each run comes once or twice -/
def Con (ps : List (List Int)) (l : List Int) : Prop := ∀ (i : Nat) (a b : Int), l[i]? = some a → l[i + 1]? = some b → [a, b] ∈ ps
theorem con_app {ps : List (List Int)} {u v : List Int} (hu : Con ps u) (hv : Con ps v) (h : ∀ a b, u[u.length - 1]? = some a → v[0]? = some b → [a, b] ∈ ps) : Con ps (u ++ v) := fun i a b ha hb => by
  by_cases h1 : i + 1 < u.length
  · rw [List.getElem?_append_left (by omega)] at ha
    rw [List.getElem?_append_left h1] at hb
    exact hu i a b ha hb
  · by_cases h2 : i < u.length
    · rw [List.getElem?_append_left h2] at ha
      rw [List.getElem?_append_right (by omega), show i + 1 - u.length = 0 by omega] at hb
      exact h a b (by rw [show u.length - 1 = i by omega]; exact ha) hb
    · rw [List.getElem?_append_right (by omega)] at ha
      rw [List.getElem?_append_right (by omega), show i + 1 - u.length = i - u.length + 1 by omega] at hb
      exact hv _ a b ha hb
theorem con_word {ps : List (List Int)} {w : List Int} (h : ∀ p ∈ zpW w, p ∈ ps) : Con ps w := fun i a b ha hb => h _ (List.mem_of_getElem? (zpW_get ha hb))
theorem con_nil (ps : List (List Int)) : Con ps [] := fun i a b ha => by cases ha
theorem ls_at {w : List Int} (ne : w ≠ []) : w[w.length - 1]? = some (lsW w) := get_D (by have := List.length_pos_iff.mpr ne; omega)
theorem fs_at {w : List Int} (ne : w ≠ []) : w[0]? = some (fsW w) := get_D (List.length_pos_iff.mpr ne)
theorem rp_first {w : List Int} (ne : w ≠ []) {n : Nat} (h : 1 ≤ n) : (rp n w)[0]? = some (fsW w) := by
  obtain ⟨k, rfl⟩ : ∃ k, n = k + 1 := ⟨n - 1, by omega⟩
  rw [rp_succ, List.getElem?_append_left (List.length_pos_iff.mpr ne)]
  exact fs_at ne
theorem rp_last {w : List Int} (ne : w ≠ []) {n : Nat} (h : 1 ≤ n) : (rp n w)[(rp n w).length - 1]? = some (lsW w) := by
  have pos := List.length_pos_iff.mpr ne
  obtain ⟨k, rfl⟩ : ∃ k, n = k + 1 := ⟨n - 1, by omega⟩
  have e : rp (k + 1) w = rp k w ++ w := by rw [rp_add, rp_one]
  rw [e, List.length_append, List.getElem?_append_right (by omega), show (rp k w).length + w.length - 1 - (rp k w).length = w.length - 1 by omega]
  exact ls_at ne
theorem con_rp {ps : List (List Int)} {w : List Int} (ne : w ≠ []) (h : ∀ p ∈ zpW w, p ∈ ps) : ∀ n : Nat, (2 ≤ n → [lsW w, fsW w] ∈ ps) → Con ps (rp n w)
  | 0, _ => con_nil ps
  | 1, _ => by rw [rp_one]; exact con_word h
  | n + 2, t => by
    rw [show n + 2 = (n + 1) + 1 from rfl, rp_succ]
    refine con_app (con_word h) (con_rp ne h (n + 1) fun _ => t (by omega)) fun a b ha hb => ?_
    rw [ls_at ne] at ha
    rw [rp_first ne (by omega)] at hb
    cases ha
    cases hb
    exact t (by omega)
theorem mk_cons (r : Int × List Int) (rs : List (Int × List Int)) : mk (r :: rs) = rp r.1.toNat r.2 ++ mk rs := rfl
theorem mk_first {r : Int × List Int} {rs : List (Int × List Int)} (h : 1 ≤ r.1 ∧ r.2 ≠ []) : (mk (r :: rs))[0]? = some (fsW r.2) := by
  have z := rp_first h.2 (n := r.1.toNat) (by omega)
  rw [mk_cons, List.getElem?_append_left (List.getElem?_eq_some_iff.mp z).1]
  exact z
theorem mk_last : ∀ {rs : List (Int × List Int)} (rn : Rn rs) (r : Int × List Int), rs[rs.length - 1]? = some r → (mk rs)[(mk rs).length - 1]? = some (lsW r.2)
  | [], _, r, h => by cases h
  | [r0], rn, r, h => by
    cases h
    have hr := rn r0 (List.mem_cons_self ..)
    rw [show mk [r0] = rp r0.1.toNat r0.2 by rw [mk_cons]; exact List.append_nil _]
    exact rp_last hr.2 (by omega)
  | r0 :: r1 :: rs, rn, r, h => by
    have rn2 : Rn (r1 :: rs) := fun q hq => rn q (List.mem_cons_of_mem _ hq)
    have ih := mk_last rn2 r (by
      rw [List.length_cons, Nat.add_sub_cancel] at h ⊢
      rw [List.length_cons, List.getElem?_cons_succ] at h
      exact h)
    have hl := (List.getElem?_eq_some_iff.mp ih).1
    rw [mk_cons r0, List.length_append, List.getElem?_append_right (by omega), show (rp r0.1.toNat r0.2).length + (mk (r1 :: rs)).length - 1 - (rp r0.1.toNat r0.2).length = (mk (r1 :: rs)).length - 1 by omega]
    exact ih
theorem con_mk {ps : List (List Int)} : ∀ {rs : List (Int × List Int)} (rn : Rn rs) (h1 : ∀ r ∈ rs, (∀ p ∈ zpW r.2, p ∈ ps) ∧ (1 < r.1 → [lsW r.2, fsW r.2] ∈ ps)) (h2 : ∀ (i : Nat) (r r2 : Int × List Int), rs[i]? = some r → rs[i + 1]? = some r2 → [lsW r.2, fsW r2.2] ∈ ps), Con ps (mk rs)
  | [], _, _, _ => con_nil ps
  | r :: rs, rn, h1, h2 => by
    have hr := rn r (List.mem_cons_self ..)
    have hh := h1 r (List.mem_cons_self ..)
    rw [mk_cons]
    refine con_app (con_rp hr.2 hh.1 _ fun t => hh.2 (by omega)) (con_mk (fun q hq => rn q (List.mem_cons_of_mem _ hq)) (fun q hq => h1 q (List.mem_cons_of_mem _ hq)) fun i a b ha hb => h2 (i + 1) a b ha hb) fun a b ha hb => ?_
    rw [rp_last hr.2 (by omega)] at ha
    cases ha
    cases rs with
    | nil => cases hb
    | cons r1 rs =>
      rw [mk_first (rn r1 (List.mem_cons_of_mem _ (List.mem_cons_self ..)))] at hb
      cases hb
      exact h2 0 r r1 rfl rfl
/-- the pairs of a spelling, the last one with the first -/
def prev (l : List Int) (i : Nat) : Int := if i = 0 then l.getD (l.length - 1) 0 else l.getD (i - 1) 0
def roundB (ps : List (List Int)) (l : List Int) : Bool := (List.range l.length).all fun i => decide ([prev l i, l.getD i 0] ∈ ps)
theorem round_con {ps : List (List Int)} {l : List Int} (c : Con ps l) (h : ∀ a b, l[l.length - 1]? = some a → l[0]? = some b → [a, b] ∈ ps) : roundB ps l = true := by
  unfold roundB
  rw [List.all_eq_true]
  intro i hi
  have hi := List.mem_range.mp hi
  refine decide_eq_true ?_
  unfold prev
  by_cases z : i = 0
  · rw [if_pos z, z]
    exact h _ _ (get_D (by omega)) (get_D (by omega))
  · rw [if_neg z]
    refine c (i - 1) _ _ (get_D (by omega)) ?_
    rw [show i - 1 + 1 = i by omega]
    exact get_D hi
theorem round_cyc {ps : List (List Int)} {l : List Int} (ne : l ≠ []) (h : roundB ps l = true) : Cyc ps l := fun p => by
  have pos := List.length_pos_iff.mpr ne
  unfold roundB at h
  rw [List.all_eq_true] at h
  obtain ⟨b1, b2⟩ := rest_in ne (p + 1)
  obtain ⟨j, hj⟩ : ∃ j : Nat, (j : Int) = (p + 1) % (l.length : Int) := ⟨((p + 1) % (l.length : Int)).toNat, by omega⟩
  have hjl : j < l.length := by omega
  have z := of_decide_eq_true (h j (List.mem_range.mpr hjl))
  have e2 : mP l (p + 1) = l.getD j 0 := by unfold mP; rw [← hj, Int.toNat_natCast]
  have e1 : mP l p = prev l j := by
    unfold mP prev
    by_cases z0 : j = 0
    · rw [if_pos z0]
      congr 1
      have : p % (l.length : Int) = (l.length : Int) - 1 := by
        have m0 : (p + 1) % (l.length : Int) = 0 := by omega
        obtain ⟨k, hk⟩ := Int.dvd_of_emod_eq_zero m0
        have : p = (l.length : Int) - 1 + (l.length : Int) * (k - 1) := by rw [Int.mul_sub, Int.mul_one]; omega
        rw [this, Int.add_mul_emod_self_left, Int.emod_eq_of_lt (by omega) (by omega)]
      omega
    · rw [if_neg z0]
      congr 1
      have e : p = ((j : Int) - 1) + (l.length : Int) * ((p + 1) / (l.length : Int)) := by
        have := Int.emod_add_mul_ediv (p + 1) (l.length : Int)
        omega
      have : p % (l.length : Int) = (j : Int) - 1 := by
        rw [e, Int.add_mul_emod_self_left, Int.emod_eq_of_lt (by omega) (by omega)]
      omega
  rw [e1, e2]
  exact z
/-- runs at most twice -/
def cap (rs : List (Int × List Int)) : List (Int × List Int) := rs.map fun r => (min r.1 2, r.2)
theorem cap_rn {rs : List (Int × List Int)} (rn : Rn rs) : Rn (cap rs) := fun r hr => by
  obtain ⟨q, hq, rfl⟩ := List.mem_map.mp hr
  have := rn q hq
  exact ⟨by show 1 ≤ min q.1 2; omega, this.2⟩
theorem cap_get {rs : List (Int × List Int)} (i : Nat) : (cap rs).getD i (0, []) = (min (rs.getD i (0, [])).1 2, (rs.getD i (0, [])).2) := by
  unfold cap
  rw [List.getD_eq_getElem?_getD, List.getD_eq_getElem?_getD, List.getElem?_map]
  cases rs[i]? with
  | none => rfl
  | some r => rfl
theorem cap_nbs {rs : List (Int × List Int)} : nbs (cap rs) (cap rs).length = nbs rs rs.length := by
  have hl : (cap rs).length = rs.length := by unfold cap; rw [List.length_map]
  unfold nbs
  rw [hl]
  have e0 : ∀ i, nbR (cap rs) i = nbR rs i := fun i => ?_
  · rw [funext e0]
  unfold nbR wdR
  rw [cap_get, cap_get, hl]
  have e : (1 < min (rs.getD i (0, [])).1 2) = (1 < (rs.getD i (0, [])).1) := propext ⟨fun h => by omega, fun h => by omega⟩
  simp only [e]
theorem round_iff {rs : List (Int × List Int)} {ps : List (List Int)} (rn : Rn rs) (ne : rs ≠ []) : roundB ps (mk (cap rs)) = (nbs rs rs.length).all fun p => decide (p ∈ ps) := by
  have rc := cap_rn rn
  have nc : cap rs ≠ [] := fun z => ne (by unfold cap at z; exact List.map_eq_nil_iff.mp z)
  rw [← cap_nbs]
  generalize cap rs = qs at rc nc
  have lq := List.length_pos_iff.mpr nc
  cases e : (nbs qs qs.length).all fun p => decide (p ∈ ps) with
  | true =>
    rw [List.all_eq_true] at e
    have inn : ∀ i r r2, qs[i]? = some r → qs[(i + 1) % qs.length]? = some r2 → ∀ p ∈ nbR qs i, p ∈ ps := fun i r r2 g g2 p hp => by
      refine of_decide_eq_true (e p ?_)
      unfold nbs
      exact List.mem_flatMap.mpr ⟨i, List.mem_range.mpr (List.getElem?_eq_some_iff.mp g).1, hp⟩
    have nx : ∀ i, i < qs.length → ∃ r2, qs[(i + 1) % qs.length]? = some r2 := fun i _ => ⟨_, List.getElem?_eq_getElem (Nat.mod_lt _ lq)⟩
    refine round_con (con_mk rc (fun r hr => ?_) fun i r r2 g g2 => ?_) fun a b ha hb => ?_
    · obtain ⟨i, hi⟩ := List.getElem?_of_mem hr
      obtain ⟨r2, g2⟩ := nx i (List.getElem?_eq_some_iff.mp hi).1
      have z := inn i r r2 hi g2
      rw [nbR_at hi g2] at z
      refine ⟨fun p hp => z p (List.mem_append_left _ (List.mem_append_left _ hp)), fun t => z _ (List.mem_append_left _ (List.mem_append_right _ ?_))⟩
      rw [if_pos t]
      exact List.mem_singleton.mpr rfl
    · have hi := (List.getElem?_eq_some_iff.mp g2).1
      have g2' : qs[(i + 1) % qs.length]? = some r2 := by rw [Nat.mod_eq_of_lt hi]; exact g2
      have z := inn i r r2 g g2'
      rw [nbR_at g g2'] at z
      exact z _ (List.mem_append_right _ (List.mem_singleton.mpr rfl))
    · obtain ⟨r, g⟩ : ∃ r, qs[qs.length - 1]? = some r := ⟨_, List.getElem?_eq_getElem (by omega)⟩
      obtain ⟨r2, g2⟩ : ∃ r, qs[0]? = some r := ⟨_, List.getElem?_eq_getElem lq⟩
      have g2' : qs[(qs.length - 1 + 1) % qs.length]? = some r2 := by rw [Nat.sub_add_cancel lq, Nat.mod_self]; exact g2
      have z := inn _ r r2 g g2'
      rw [nbR_at g g2'] at z
      have zz := z _ (List.mem_append_right _ (List.mem_singleton.mpr rfl))
      rw [mk_last rc r g] at ha
      obtain ⟨q0, qs', eq⟩ : ∃ q0 qs', qs = q0 :: qs' := by
        cases h : qs with
        | nil => exact absurd h nc
        | cons q0 qs' => exact ⟨q0, qs', rfl⟩
      have eb : (mk qs)[0]? = some (fsW q0.2) := by
        rw [eq]
        exact mk_first (rc q0 (by rw [eq]; exact List.mem_cons_self ..))
      have eq2 : q0 = r2 := by
        rw [eq] at g2
        exact Option.some.inj g2
      rw [eb, eq2] at hb
      cases ha
      cases hb
      exact zz
  | false =>
    cases e2 : roundB ps (mk qs) with
    | false => rfl
    | true =>
      have c := round_cyc (mk_ne rc nc) e2
      have z : ((nbs qs qs.length).all fun p => decide (p ∈ ps)) = true := List.all_eq_true.mpr fun p hp => decide_eq_true (nbs_in rc c p hp)
      rw [z] at e
      cases e
end K4
set_option maxHeartbeats 4000000
namespace K4
open PySem PySem.Spec PyProof.Rows L2 RV
theorem eqv_nil (ds : List PyData) : PyData.eqv (.tuple ds) (.tuple []) = decide (ds.length = 0) := by
  cases ds <;> simp [PyData.eqv, PyData.eqvAll]
theorem shaped_nil : SeqAt.shaped (.tuple []) = true := by
  have h1 : (PyData.tuple []).canLay0 = true := by simp only [PyData.canLay0, PyData.canLayAll0]
  have h2 : (PyData.tuple []).depth ≤ 64 := by simp only [PyData.depth, PyData.depthAll]; omega
  show ((PyData.tuple []).canLay0 && decide ((PyData.tuple []).depth ≤ 64)) = true
  rw [h1, decide_eq_true h2]; rfl
section
variable {P : Program} {w : World} {K : PySem.W.Frag} {mg : Str → Option Value} {base : Heap}
/-! ### _law_is_number -/
theorem scIsNum : FnScope ["_law_thing"] ["_law_thing"] (defScope sIsNum) := ⟨rfl, rfl, rfl, by decide +kernel, rfl, by decide +kernel, by decide +kernel⟩
theorem ok_isnum {f : Addr} {fd : FuncData} (F : Fun K "_law_is_number" "_law_is_number" sIsNum f fd) (B : Bare mg) : FnOk P w K mg base CX0 1 f fd ["_law_thing"] (spWholeD K) := by
  refine F.ok scIsNum (fun vs H Q E h => ?_) (fun cdv A outer s H vs Q E hr h => ?_)
  · obtain ⟨v, d, rfl, _⟩ := h
    rfl
  · obtain ⟨v, d, rfl, hd, q⟩ := h
    refine ⟨_, pss_one (ps_ret (pe_and (pe_callB call_isi (by rfl) B.isinstance (by decide +kernel) (pa_cons (pv 0) (pa_cons (pe_bltn (v := .ty "int") (by rfl) B.int boot_int rfl) pa_nil)))
      (pe_one (pe_not (pe_callB call_isi (by rfl) B.isinstance (by decide +kernel) (pa_cons (pv 0) (pa_cons (pe_bltn (v := .ty "bool") (by rfl) B.bool (by decide +kernel) rfl) pa_nil))))))), ?_⟩
    refine ⟨v, rfl, v, .ty "int", _, _, _, rfl, .ty "int", tyD hd, kit_D (.inl rfl), _, rfl, ?_⟩
    rw [isi_int]
    cases d with
    | int i => exact iteT ⟨v, rfl, v, .ty "bool", _, _, _, rfl, .ty "bool", tyD hd, kit_D (.inr (.inl rfl)), _, rfl, by rw [isi_bool]; exact q⟩
    | bool b => exact iteT ⟨v, rfl, v, .ty "bool", _, _, _, rfl, .ty "bool", tyD hd, kit_D (.inr (.inl rfl)), _, rfl, by rw [isi_bool]; exact q⟩
    | none => exact iteF q
    | str x => exact iteF q
    | list ds => exact iteF q
    | tuple ds => exact iteF q
    | dict ds => exact iteF q
/-! ### _law_formed -/
abbrev nFormed : List Str := ["_law_thing", "_law_many", "_law_run", "_law_mark"]
theorem scFormed : FnScope nFormed ["_law_thing", "_law_many"] (defScope sFormed) := ⟨rfl, rfl, rfl, by decide +kernel, rfl, by decide +kernel, by decide +kernel⟩
def spFormed (K : PySem.W.Frag) : Sp := fun vs H Q _ => ∃ (v : V) (d : PyData) (n : Int), vs = [v, .int n] ∧ Dz K H v d ∧ (d = .dict [] ∨ Gd d 60 1000) ∧ ∀ H', Same H H' → Q (.bl (formD n d)) H'
theorem ok_formed {f fN : Addr} {fd dN : FuncData} (F : Fun K "_law_formed" "_law_formed" sFormed f fd) (DN : DefAt K mg "_law_is_number" sIsNum ["_law_thing"] fN dN) (B : Bare mg) : FnOk P w K mg base CX0 2 f fd ["_law_thing", "_law_many"] (spFormed K) := by
  have GN : FnOk P w K mg base CX0 1 fN dN ["_law_thing"] (spWholeD K) := ok_isnum DN.fn B
  refine F.ok scFormed (fun vs H Q E h => ?_) (fun cdv A outer s H vs Q E hr h => ?_)
  · obtain ⟨v, d, n, rfl, _⟩ := h
    rfl
  · obtain ⟨v, d, n, rfl, hz, hg, q⟩ := h
    refine ⟨_, pss_cons (ps_if (PW.pt (pw_or (pt_not (pt_val (pe_callB call_isi (by rfl) B.isinstance (by decide +kernel) (pa_cons (pv 0) (pa_cons (pe_bltn (v := .ty "tuple") (by rfl) B.tuple (by decide +kernel) rfl) pa_nil)))))
        (pw_or1 (pt_cmpR (op_eqD hr.units) (pv 0) (pe_tup pa_nil) (nomark _))))) (pss_one (ps_ret pe_bl)) pss_nil)
      (pss_cons (ps_for PassesOwn.never rfl (pi_tup (pv 0)) (pg_name (i := 2) scFormed.nd rfl (Or.inl rfl))
        (pss_cons (ps_if (PW.pt (pw_or (pt_not (pt_val (pe_callB call_isi (by rfl) B.isinstance (by decide +kernel) (pa_cons (pv 2) (pa_cons (pe_bltn (v := .ty "tuple") (by rfl) B.tuple (by decide +kernel) rfl) pa_nil)))))
            (pw_or (pt_cmpR op_ne (pe_callB call_len_seq (by rfl) B.len PySem.boot_len (pa_cons (pv 2) pa_nil)) pe_int (nomark _))
            (pw_or (pt_not (pt_val (pe_call GN hr (by rfl) DN.mg DN.fn.kp DN.bi .nil pass0 (pa_cons (pe_ix ix_tup (pv 2) pe_int (fun _ _ => rfl)) pa_nil))))
            (pw_or1 (pt_cmpR op_lt (pe_ix ix_tup (pv 2) pe_int (fun _ _ => rfl)) pe_int (nomark _))))))) (pss_one (ps_ret pe_bl)) pss_nil)
        (pss_cons (ps_if (PW.pt (pw_or (pt_not (pt_val (pe_callB call_isi (by rfl) B.isinstance (by decide +kernel) (pa_cons (pe_ix ix_tup (pv 2) pe_int (fun _ _ => rfl)) (pa_cons (pe_bltn (v := .ty "tuple") (by rfl) B.tuple (by decide +kernel) rfl) pa_nil)))))
            (pw_or1 (pt_cmpR (op_eqD hr.units) (pe_ix ix_tup (pv 2) pe_int (fun _ _ => rfl)) (pe_tup pa_nil) (nomark _))))) (pss_one (ps_ret pe_bl)) pss_nil)
        (pss_one (ps_if (pt_not (pt_val (pe_callB (cr_all rfl) (by rfl) B.all (by decide +kernel) (pa_cons
            (pe_lc (own := [("_law_mark", 3)]) (g := gName 3) (tt := tYes) rfl scFormed.nd (pi_tup (pe_ix ix_tup (pv 2) pe_int (fun _ _ => rfl))) (blkOk_by (N := nFormed) (sc := defScope sFormed) (by decide +kernel)) (fun _ _ _ _ _ => pg_name (i := 3) scFormed.nd rfl (Or.inl rfl)) (fun _ _ _ _ _ => pts_nil)
              (fun _ _ _ _ _ => pe_and (pe_call GN hr (by rfl) DN.mg DN.fn.kp DN.bi .nil pass0 (pa_cons (pv 3) pa_nil)) (pe_one (pe_chain op_le op_lt pe_int (pv 3) (pv 1))))) pa_nil)))) (pss_one (ps_ret pe_bl)) pss_nil)))))
      (pss_one (ps_ret pe_bl))), ?_⟩
    have no : formD n d = false → ∀ H', Same H H' → Q (.bl false) H' := fun hm H' s' => by
      have z := q H' s'
      rw [hm] at z
      exact z
    refine ⟨v, rfl, v, .ty "tuple", _, _, _, rfl, .ty "tuple", hz.ty, kit_D (.inr (.inr (.inl rfl))), _, rfl, ?_⟩
    rw [isi_tup]
    rcases hz with hd | ⟨a, rfl, h2, rfl⟩
    · cases hd with
      | tup hT hA =>
        rename_i a xs ds
        have g : Gd (.tuple ds) 60 1000 := by
          rcases hg with z | z
          · cases z
          · exact z
        have g59 := (gd_tup (n := 59)).mp g
        have hl := DpAll.len hA
        refine iteF ⟨.ref a, rfl, Nat.zero_le _, fun T0 nT0 => ?_⟩
        have sT0 := same_upd (o := .tup []) nT0
        refine ⟨.tuple ds, .tuple [], .tup (sqT_same sT0 hT) (DpAll.same sT0 hA), .tup (tupNew upd_same) .nil, g.shaped (by decide), shaped_nil, _, rfl, ?_⟩
        rw [eqv_nil]
        by_cases e0 : ds.length = 0
        · rw [decide_eq_true e0]
          exact iteT (no (by show (decide (0 < ds.length) && _) = false; rw [decide_eq_false (by omega), Bool.false_and]) _ sT0)
        rw [decide_eq_false e0]
        refine iteF ?_
        dsimp only
        generalize upd H T0 (.tup []) = H1 at sT0 ⊢
        refine ⟨.ref a, rfl, a, rfl, ⟨_, sqT_same sT0 hT⟩, ?_⟩
        refine for_tup (K := K) (a := a) (xs := xs) (fun i σ H' => ∃ (y2 y3 : Option V), σ = [some (.ref a), some (.int n), y2, y3] ∧ Same H1 H' ∧ ∀ e ∈ ds.take i, runD n e = true)
          ⟨none, none, rfl, Same.refl _, fun e he => by simp at he⟩ (fun i σ H' _ h => ?_) (fun i x σ H2 hx h => ?_) (fun σ H' h => ?_)
        · obtain ⟨_, _, _, s', _⟩ := h
          exact sqT_same (sT0.trans s') hT
        · obtain ⟨y2, y3, rfl, s2, al⟩ := h
          obtain ⟨e, ge, he0⟩ := DpAll.at hA hx
          have s02 := sT0.trans s2
          have he := Dp.same s02 he0
          have gE := g59.1 e (List.mem_of_getElem? ge)
          have fail : runD n e = false → ∀ H', Same H2 H' → Q (.bl false) H' := fun hf H' s' => no (by
            show (decide (0 < ds.length) && ds.all (runD n)) = false
            rw [Bool.and_eq_false_iff]
            right
            rw [List.all_eq_false]
            exact ⟨e, List.mem_of_getElem? ge, by rw [hf]; decide⟩) H' (s02.trans s')
          refine ⟨x, rfl, x, .ty "tuple", _, _, _, rfl, .ty "tuple", tyD he, kit_D (.inr (.inr (.inl rfl))), _, rfl, ?_⟩
          rw [isi_tup]
          cases he with
          | tup hT2 hA2 =>
            rename_i b ys es
            have hl2 := DpAll.len hA2
            refine iteF ⟨.ref b, rfl, b, _, rfl, .inr hT2, rfl, _, rfl, ?_⟩
            rw [decV]
            match es, ys, hA2, hl2, hT2, fail, gE, ge with
            | [t, m], [x0, y0], hA2, hll, hT2, fail, gE, ge =>
              rw [decide_eq_true (show (([x0, y0] : List V).length : Int) = 2 from rfl)]
              refine iteF ?_
              obtain ⟨hx0, hA3⟩ : Dp K H2 x0 t ∧ DpAll K H2 [y0] [m] := by cases hA2 with | cons h1 h2 => exact ⟨h1, h2⟩
              have hy0 : Dp K H2 y0 m := by cases hA3 with | cons h1 h2 => exact h1
              have gm : Gd m 58 1000 := ((gd_tup (n := 58)).mp gE).1 m (List.mem_cons_of_mem _ (List.mem_cons_self ..))
              have a0 : atI [x0, y0] 0 = some x0 := atI_nat (j := 0) rfl
              have a1 : atI [x0, y0] 1 = some y0 := atI_nat (j := 1) rfl
              refine ⟨.ref b, rfl, b, _, 0, x0, rfl, rfl, hT2, a0, x0, t, rfl, hx0, _, rfl, ?_⟩
              have stop : timesD t = false → ∀ H', Same H2 H' → Q (.bl false) H' := fun ht => fail (by show (timesD t && marksD n m) = false; rw [ht, Bool.false_and])
              have stop2 : marksD n m = false → ∀ H', Same H2 H' → Q (.bl false) H' := fun ht => fail (by show (timesD t && marksD n m) = false; rw [ht, Bool.and_false])
              cases t with
              | int j =>
                cases hx0
                refine iteF ⟨.ref b, rfl, b, _, 0, .int j, rfl, rfl, hT2, a0, _, _, rfl, rfl, _, rfl, ?_⟩
                by_cases j1 : j < 1
                · rw [decide_eq_true j1]
                  exact iteT (stop (decide_eq_false (show ¬ 1 ≤ j by omega)) H2 (Same.refl _))
                rw [decide_eq_false j1]
                refine iteF ?_
                dsimp only
                refine ⟨.ref b, rfl, b, _, 1, y0, rfl, rfl, hT2, a1, y0, .ty "tuple", _, _, _, rfl, .ty "tuple", tyD hy0, kit_D (.inr (.inr (.inl rfl))), _, rfl, ?_⟩
                rw [isi_tup]
                cases hy0 with
                | tup hT3 hA4 =>
                  rename_i c zs ms
                  have hl3 := DpAll.len hA4
                  refine iteF ⟨.ref b, rfl, b, _, 1, .ref c, rfl, rfl, hT2, a1, Nat.zero_le _, fun T2 nT2 => ?_⟩
                  have sT2 := same_upd (o := .tup []) nT2
                  refine ⟨.tuple ms, .tuple [], .tup (sqT_same sT2 hT3) (DpAll.same sT2 hA4), .tup (tupNew upd_same) .nil, gm.shaped (by decide), shaped_nil, _, rfl, ?_⟩
                  rw [eqv_nil]
                  by_cases e1 : ms.length = 0
                  · rw [decide_eq_true e1]
                    exact iteT (stop2 (by show (decide (0 < ms.length) && _) = false; rw [decide_eq_false (by omega), Bool.false_and]) _ sT2)
                  rw [decide_eq_false e1]
                  refine iteF ?_
                  dsimp only
                  generalize upd H2 T2 (.tup []) = H3 at sT2 ⊢
                  have bm : ms.length ≤ 1000 := by
                    have z := bulk_len ms
                    have z2 := gm.bk
                    simp only [PyData.bulk] at z2
                    omega
                  refine ⟨.ref b, rfl, b, _, 1, .ref c, rfl, rfl, sqT_same sT2 hT2, a1, c, rfl, ⟨_, sqT_same sT2 hT3⟩, fun D nD => ?_⟩
                  refine lc_tup (K := K) (a := c) (xs := zs) (fun k H' => Same H3 H' ∧ H' D = some (.lst (((ms.take k).map (belowD n)).map V.bl))) ⟨same_upd nD, upd_same⟩ (fun k H' _ p => sqT_same (sT2.trans p.1) hT3) (fun k x H' hx p => ?_) fun H4 p => ?_
                  · obtain ⟨e', ge', he'⟩ := DpAll.at hA4 hx
                    have hk : k < ms.length := (List.getElem?_eq_some_iff.mp ge').1
                    have he2 := Dp.same (sT2.trans p.1) he'
                    have fin : ∀ bb : Bool, bb = belowD n e' → ∃ acc, H' D = some (.lst acc) ∧ acc.length < sizeLine ∧ (Same H3 (upd H' D (.lst (acc ++ [.bl bb]))) ∧ (upd H' D (.lst (acc ++ [.bl bb]))) D = some (.lst (((ms.take (k + 1)).map (belowD n)).map V.bl))) := fun bb eb => by
                      refine ⟨_, p.2, ?_, fun b' o' z => ?_, ?_⟩
                      · rw [List.length_map, List.length_map, List.length_take]; exact few1 (by omega)
                      · rw [upd_ne (ne_of_none z nD)]; exact p.1 b' o' z
                      · rw [upd_same, List.take_add_one, ge', List.map_append, List.map_append, eb]; rfl
                    refine ⟨rfl, tt_yes ⟨x, rfl, x, e', rfl, he2, _, rfl, ?_⟩⟩
                    cases e' with
                    | int u =>
                      cases he2
                      refine iteT ⟨.int u, rfl, 0, u, rfl, rfl, _, rfl, ite2 (fun h0 => ?_) (fun h0 => ?_)⟩
                      · refine ⟨.int n, rfl, u, n, rfl, rfl, fin _ ?_⟩
                        show _ = (decide (0 ≤ u) && decide (u < n))
                        rw [h0, Bool.true_and]
                      · refine fin _ ?_
                        show _ = (decide (0 ≤ u) && decide (u < n))
                        rw [Bool.eq_false_iff.mpr h0, Bool.false_and]
                    | bool b => exact iteF (fin _ rfl)
                    | none => exact iteF (fin _ rfl)
                    | str x => exact iteF (fin _ rfl)
                    | list ds => exact iteF (fin _ rfl)
                    | tuple ds => exact iteF (fin _ rfl)
                    | dict ds => exact iteF (fin _ rfl)
                  · rw [hl3, List.take_of_length_le (Nat.le_refl _)] at p
                    refine ⟨D, _, rfl, lstNew p.2, _, rfl, ?_⟩
                    rw [all_id]
                    have em : marksD n (.tuple ms) = ms.all (belowD n) := by
                      show (decide (0 < ms.length) && ms.all (belowD n)) = _
                      rw [decide_eq_true (by omega), Bool.true_and]
                    cases ea : ms.all (belowD n) with
                    | false => exact iteT (stop2 (by rw [em, ea]) H4 (sT2.trans p.1))
                    | true =>
                      refine iteF ⟨_, _, rfl, (s2.trans sT2).trans p.1, fun e' he' => ?_⟩
                      rw [List.take_add_one, ge] at he'
                      rcases List.mem_append.mp he' with z | z
                      · exact al e' z
                      · rw [show e' = _ from List.mem_singleton.mp z]
                        show (decide (1 ≤ j) && marksD n (.tuple ms)) = true
                        rw [em, ea, decide_eq_true (show 1 ≤ j by omega)]; rfl
                | non => exact iteT (stop2 rfl H2 (Same.refl _))
                | bl b => exact iteT (stop2 rfl H2 (Same.refl _))
                | int i => exact iteT (stop2 rfl H2 (Same.refl _))
                | str x => exact iteT (stop2 rfl H2 (Same.refl _))
                | lst h1 h2 => exact iteT (stop2 rfl H2 (Same.refl _))
              | bool b => exact iteT (stop rfl H2 (Same.refl _))
              | none => exact iteT (stop rfl H2 (Same.refl _))
              | str x => exact iteT (stop rfl H2 (Same.refl _))
              | list ds => exact iteT (stop rfl H2 (Same.refl _))
              | tuple ds => exact iteT (stop rfl H2 (Same.refl _))
              | dict ds => exact iteT (stop rfl H2 (Same.refl _))
            | [], [], _, _, _, fail, _, _ => exact iteT (fail rfl H2 (Same.refl _))
            | [t], [x], _, _, _, fail, _, _ => exact iteT (fail rfl H2 (Same.refl _))
            | t :: m :: u :: ds, x :: y :: z :: xs, _, _, _, fail, _, _ =>
              rw [decide_eq_false (show ¬ ((x :: y :: z :: xs).length : Int) = 2 by simp only [List.length_cons]; omega)]
              exact iteT (fail rfl H2 (Same.refl _))
          | non => exact iteT (fail rfl H2 (Same.refl _))
          | bl b => exact iteT (fail rfl H2 (Same.refl _))
          | int i => exact iteT (fail rfl H2 (Same.refl _))
          | str x => exact iteT (fail rfl H2 (Same.refl _))
          | lst h1 h2 => exact iteT (fail rfl H2 (Same.refl _))
        · obtain ⟨y2, y3, rfl, s2, al⟩ := h
          rw [hl, List.take_of_length_le (Nat.le_refl _)] at al
          have z := q H' (sT0.trans s2)
          have e : formD n (.tuple ds) = true := by
            show (decide (0 < ds.length) && ds.all (runD n)) = true
            rw [decide_eq_true (by omega), Bool.true_and, List.all_eq_true]
            exact al
          rw [e] at z
          exact z
      | non => exact iteT (no rfl H (Same.refl H))
      | bl b => exact iteT (no rfl H (Same.refl H))
      | int i => exact iteT (no rfl H (Same.refl H))
      | str x => exact iteT (no rfl H (Same.refl H))
      | lst h1 h2 => exact iteT (no rfl H (Same.refl H))
    · exact iteT (no rfl H (Same.refl H))
end
end K4
set_option maxHeartbeats 4000000
namespace K4
open PySem PySem.Spec PyProof.Rows L2 RV
theorem op_inTsK {X : Cx} {K : PySem.W.Frag} (h : X.K = K) (hu : X.A.units + 65 < cLine) : OpR X (compareOp .In) (rInTs K) := h ▸ op_inTs hu
theorem cap_take {rs : List (Int × List Int)} {i : Nat} {r : Int × List Int} (h : rs[i]? = some r) : mk (cap (rs.take (i + 1))) = mk (cap (rs.take i)) ++ rp (min r.1 2).toNat r.2 := by
  unfold cap
  rw [List.take_add_one, h, List.map_append, mk_app]
  show _ ++ mk [(min r.1 2, r.2)] = _
  rw [mk_one]
theorem cap_len {ns : List Int} {rs : List (Int × List Int)} (g : Rg ns rs) : ∀ i, (mk (cap (rs.take i))).length ≤ 2000 * i
  | 0 => by rw [List.take_zero]; exact Nat.le_refl _
  | i + 1 => by
    have ih := cap_len g i
    cases e : rs[i]? with
    | none =>
      rw [List.take_add_one, e]
      simp only [Option.toList_none, List.append_nil]
      omega
    | some r =>
      rw [cap_take e, List.length_append, rp_len]
      have := g.wo r (List.mem_of_getElem? e)
      have : (min r.1 2).toNat ≤ 2 := by omega
      have := Nat.mul_le_mul this (Nat.le_refl r.2.length)
      omega
section
variable {P : Program} {w : World} {K : PySem.W.Frag} {mg : Str → Option Value} {base : Heap}
/-! ### _law_due -/
abbrev nDue : List Str := ["_law_thing", "_law_many", "_law_steps_here", "_law_marks", "_law_times", "_law_word", "_law_at"]
theorem scDue : FnScope nDue ["_law_thing", "_law_many", "_law_steps_here"] (defScope sDue) := ⟨rfl, rfl, rfl, by decide +kernel, rfl, by decide +kernel, by decide +kernel⟩
def spDue (K : PySem.W.Frag) : Sp := fun vs H Q _ => ∃ (v : V) (d : PyData) (ns : List Int) (u : Addr) (ps : List (List Int)), vs = [v, .int (ns.length : Int), .ref u] ∧ Dz K H v d ∧ (d = .dict [] ∨ Gd d 60 1000) ∧ topD d ≤ 100 ∧ Tups K H u ps ∧ ∀ H', Same H H' → Q (.bl (ringD ps ns.length d)) H'
theorem ok_due {f fF fN : Addr} {fd dF dN : FuncData} (F : Fun K "_law_due" "_law_due" sDue f fd) (DF : DefAt K mg "_law_formed" sFormed ["_law_thing", "_law_many"] fF dF) (DN : DefAt K mg "_law_is_number" sIsNum ["_law_thing"] fN dN) (B : Bare mg) : FnOk P w K mg base CX0 3 f fd ["_law_thing", "_law_many", "_law_steps_here"] (spDue K) := by
  have GF : FnOk P w K mg base CX0 2 fF dF ["_law_thing", "_law_many"] (spFormed K) := ok_formed DF.fn DN B
  refine F.ok scDue (fun vs H Q E h => ?_) (fun cdv A outer s H vs Q E hr h => ?_)
  · obtain ⟨v, d, ns, u, ps, rfl, _⟩ := h
    rfl
  · obtain ⟨v, d, ns, u, ps, rfl, hz, hg, ht, hU, q⟩ := h
    have hu5 := un65 hr
    have two : (2 : Nat) ≤ sizeLine := by decide
    refine ⟨_, pss_cons (ps_if (pt_not (pt_val (pe_call GF hr (by rfl) DF.mg DF.fn.kp DF.bi .nil pass0 (pa_cons (pv 0) (pa_cons (pv 1) pa_nil))))) (pss_one (ps_ret pe_bl)) pss_nil)
      (pss_cons (ps_set (i := 3) scDue.nd rfl (Or.inr rfl) (pe_lst pa_nil))
      (pss_cons (ps_for PassesOwn.never rfl (pi_tup (pv 0)) (pg_tup rfl (pgs_cons (pg_name (i := 4) scDue.nd rfl (Or.inl rfl)) (pgs_cons (pg_name (i := 5) scDue.nd rfl (Or.inl rfl)) pgs_nil)))
        (pss_one (ps_expr (pe_bm PySem.F.plainAttrs_list PySem.F.slot_list_extend PySem.F.type_list_extend mt_extend (pv 3) (pa_cons (pe_op op_rep (pe_callTy call_list_of (by rfl) B.list (by decide +kernel) (pa_cons (pv 5) pa_nil))
          (pe_callB (call_min2 rfl) (by rfl) B.min (by decide +kernel) (pa_cons (pv 4) (pa_cons pe_int pa_nil)))) pa_nil)))))
      (pss_one (ps_ret (pe_callB (cr_all rfl) (by rfl) B.all (by decide +kernel) (pa_cons
        (pe_lc (own := [("_law_at", 6)]) (g := gName 6) (tt := tYes) rfl scDue.nd (pi_range1 (by rfl) B.range (pa_cons (pe_callB call_len_seq (by rfl) B.len PySem.boot_len (pa_cons (pv 3) pa_nil)) pa_nil)) (blkOk_by (N := nDue) (sc := defScope sDue) (by decide +kernel)) (fun _ _ _ _ _ => pg_name (i := 6) scDue.nd rfl (Or.inl rfl)) (fun _ _ _ _ _ => pts_nil)
          (fun _ _ _ _ _ => pe_cmpR (op_inTsK (K := K) rfl hu5) (pe_tup (pa_cons (pe_ix (ix_listK (K := K) rfl) (pv 3) (pe_op op_sub (pv 6) pe_int) (fun _ _ => rfl)) (pa_cons (pe_ix (ix_listK (K := K) rfl) (pv 3) (pv 6) (fun _ _ => rfl)) pa_nil))) (pv 2) (by rfl))) pa_nil)))))), ?_⟩
    refine ⟨v, rfl, .int (ns.length : Int), rfl, v, d, (ns.length : Int), rfl, hz, hg, fun H1 s1 => ⟨_, rfl, ?_⟩⟩
    cases ef : formD ns.length d with
    | false =>
      refine iteT ?_
      have z := q H1 s1
      unfold ringD at z
      rw [ef, Bool.false_and] at z
      exact z
    | true =>
      refine iteF ?_
      have hd : Dp K H v d := by
        rcases hz with z | ⟨_, _, _, rfl⟩
        · exact z
        · cases ef
      have g0 : Gd d 60 1000 := by
        rcases hg with z | z
        · rw [z] at ef; cases ef
        · exact z
      have g := form_rg ef g0.bk ht
      have eform := (form_is ef).1
      rw [eform] at hd
      obtain ⟨a, rfl, hR⟩ := dp_ring hd
      have z := q
      unfold ringD at z
      rw [ef, Bool.true_and, ← round_iff g.sz.rn g.sz.ne] at z
      generalize rsD d = rs at g hR z
      obtain ⟨ks, ek, hT, hk⟩ := hR
      subst ek
      have hf := g.sz.few
      rw [List.length_map] at hf
      refine ⟨Nat.zero_le _, fun L nL => ?_⟩
      have sL := same_upd (o := .lst []) nL
      have s02 := s1.trans sL
      have nLH : H L = none := s1.free nL
      have eL0 : (upd H1 L (.lst [])) L = some (.lst []) := upd_same
      generalize upd H1 L (.lst []) = H2 at s02 eL0 ⊢
      refine ⟨.ref a, rfl, a, rfl, ⟨_, sqT_same s02 hT⟩, ?_⟩
      refine for_tup (K := K) (a := a) (xs := ks.map fun k => V.ref k.1) (fun i σ H' => ∃ (y4 y5 y6 : Option V), σ = [some (.ref a), some (.int (ns.length : Int)), some (.ref u), some (.ref L), y4, y5, y6] ∧ Same H H' ∧ H' L = some (.lst ((mk (cap ((ks.map valR).take i))).map V.int)))
        ⟨none, none, none, rfl, s02, eL0⟩ (fun i σ H' _ h => ?_) (fun i x σ H3 hx h => ?_) (fun σ H3 h => ?_)
      · obtain ⟨_, _, _, _, s', _⟩ := h
        exact sqT_same s' hT
      · obtain ⟨y4, y5, y6, rfl, s3, eL⟩ := h
        obtain ⟨k, gk, rfl⟩ := map_at hx
        have km := List.mem_of_getElem? gk
        have il := (List.getElem?_eq_some_iff.mp gk).1
        have gr : (ks.map valR)[i]? = some (valR k) := by rw [List.getElem?_map, gk]; rfl
        have hk3 := (hk k km).same s3
        have kr := List.mem_map_of_mem (f := valR) km
        have wl : k.2.2.2.length ≤ 1000 := g.wo _ kr
        have t1 : 1 ≤ k.2.2.1 := (g.sz.rn _ kr).1
        have cl := cap_len g i
        refine ⟨k.1, _, rfl, hk3.1, rfl, _, _, rfl, _, _, rfl, rfl, ?_⟩
        refine ⟨.ref L, rfl, .inl ⟨rfl, _, lstNew eL⟩, .ref k.2.1, rfl, k.2.1, _, rfl, .inr hk3.2, fun N1 nN1 => ⟨.int k.2.2.1, rfl, k.2.2.1, 2, rfl, ?_⟩⟩
        have sN1 := same_upd (o := .lst (k.2.2.2.map V.int)) nN1
        have em : (if (2 : Int) < k.2.2.1 then (2 : Int) else k.2.2.1) = min k.2.2.1 2 := by split <;> omega
        rw [em]
        have tn : (min k.2.2.1 2).toNat ≤ 2 := by omega
        refine ⟨N1, min k.2.2.1 2, _, rfl, rfl, upd_same, by omega, by omega, ?_, fun N2 nN2 => ?_⟩
        · rw [List.length_map]
          have := Nat.mul_le_mul wl tn
          rw [sizeLine_eq]; omega
        have sN2 := sN1.trans (same_upd (o := .lst (List.replicate (min k.2.2.1 2).toNat (k.2.2.2.map V.int)).flatten) nN2)
        have hNL : L ≠ N2 := ne_of_none (sN1 _ _ eL) nN2
        refine ⟨L, N2, _, _, rfl, rfl, sN2 _ _ eL, upd_same, ?_, ?_⟩
        · rw [List.length_map, rep_map, List.length_map, rp_len]
          have := Nat.mul_le_mul tn wl
          have : 2000 * i ≤ 2000 * 100 := Nat.mul_le_mul_left _ (by omega)
          rw [sizeLine_eq]; omega
        · refine ⟨_, _, _, rfl, fun b o e => ?_, ?_⟩
          · rw [upd_ne (ne_of_none e nLH)]; exact sN2 _ _ (s3 b o e)
          · rw [upd_same, rep_map, ← List.map_append, cap_take gr]; rfl
      · obtain ⟨y4, y5, y6, rfl, s3, eL⟩ := h
        rw [List.length_map, List.take_of_length_le (by rw [List.length_map]; exact Nat.le_refl _)] at eL
        have cl := cap_len g ks.length
        rw [List.take_of_length_le (by rw [List.length_map]; exact Nat.le_refl _)] at cl
        generalize hM : mk (cap (ks.map valR)) = M at eL cl z
        have ml : M.length ≤ 200000 := by
          have : 2000 * ks.length ≤ 2000 * 100 := Nat.mul_le_mul_left _ hf
          omega
        refine ⟨.ref L, rfl, L, _, rfl, .inl (lstNew eL), _, rfl, by rw [List.length_map]; omega, by rw [List.length_map]; omega, fun D nD => ?_⟩
        rw [List.length_map, Int.toNat_natCast]
        refine lc_range (lo := 0) (n := M.length) (fun i H' => Same H3 H' ∧ H' D = some (.lst (((List.range i).map fun j => decide ([prev M j, M.getD j 0] ∈ ps)).map V.bl))) ⟨same_upd nD, upd_same⟩ (fun i H' hi h => ?_) fun H4 h => ?_
        · obtain ⟨s', eD⟩ := h
          rw [show (0 : Int) + ((i : Nat) : Int) = (i : Int) by omega]
          have eL' := s' _ _ eL
          have ap : atI (M.map V.int) ((i : Int) - 1) = some (.int (prev M i)) := by
            unfold prev
            by_cases i0 : i = 0
            · rw [if_pos i0, i0]
              exact atI_m1 (by rw [List.length_map, List.getElem?_map, get_D (by omega)]; rfl)
            · rw [if_neg i0, show (i : Int) - 1 = ((i - 1 : Nat) : Int) by omega]
              exact atI_nat (by rw [List.getElem?_map, get_D (by omega)]; rfl)
          have ai : atI (M.map V.int) (i : Int) = some (.int (M.getD i 0)) := atI_nat (by rw [List.getElem?_map, get_D hi]; rfl)
          refine ⟨by simp [wipe, List.set_set], tt_yes ⟨.ref L, rfl, .int (i : Int), rfl, _, _, rfl, rfl, L, _, _, _, rfl, rfl, lstNew eL', ap, .ref L, rfl, .int (i : Int), rfl, L, _, _, _, rfl, rfl, lstNew eL', ai, two, fun U nU => ⟨.ref u, rfl, ?_⟩⟩⟩
          have sU := same_upd (o := .tup [.int (prev M i), .int (M.getD i 0)]) nU
          refine ⟨U, u, [prev M i, M.getD i 0], ps, rfl, rfl, tupNew upd_same, hU.same ((s3.trans s').trans sU), _, sU _ _ eD, ?_, fun b o e => ?_, ?_⟩
          · rw [List.length_map, List.length_map, List.length_range, sizeLine_eq]; omega
          · rw [upd_ne (ne_of_none e nD)]; exact sU _ _ (s' b o e)
          · rw [upd_same, List.range_succ, List.map_append, List.map_append]; rfl
        · obtain ⟨s4, eD⟩ := h
          refine ⟨D, _, rfl, lstNew eD, ?_⟩
          have e2 : ((List.range M.length).map fun j => decide ([prev M j, M.getD j 0] ∈ ps)).all id = roundB ps M := by
            unfold roundB
            rw [List.all_map]; rfl
          rw [e2]
          exact z H4 (s3.trans s4)
end
end K4
set_option maxHeartbeats 4000000
/-! numbers and words written as texts -/
namespace RV
open PySem PySem.Spec PyProof.Rows L2 TL
/-- the text of a number -/
def num (n : Nat) : Str := Str.ofString (toString ((n : Nat) : Int))
theorem tl_nm (n : Nat) : tl (num n) = numL n := tl_num n
theorem num_of {x : Int} (h : 0 ≤ x) : (V.str (toString x)) = V.str (num x.toNat) := by
  have e : x = ((x.toNat : Nat) : Int) := by omega
  rw [e]
  rfl
theorem num_one {n : Nat} (h : n < 10) : tl (num n) = [48 + n] := by rw [tl_nm, numL_lt h]
theorem num_pos (n : Nat) : 0 < (num n).length := by
  rw [len_tl, tl_nm]
  exact List.length_pos_iff.mpr (numL_ne n)
theorem num_len {n : Nat} (h : n < 10 ^ 30) : (num n).length ≤ 30 := by
  rw [len_tl, tl_nm]
  exact numL_len (by decide) h
theorem num_two {n : Nat} (h : 1 < (num n).length) : 10 ≤ n := by
  rw [len_tl, tl_nm] at h
  by_cases e : n < 10
  · rw [numL_lt e] at h; simp at h
  · omega
theorem numL_head : ∀ (n : Nat), 1 ≤ n → ∃ c r, numL n = c :: r ∧ c ≠ 48 := by
  intro n
  induction n using Nat.strongRecOn with
  | _ n ih =>
    intro h
    by_cases e : n < 10
    · rw [numL_lt e]
      exact ⟨48 + n, [], rfl, by omega⟩
    · obtain ⟨c, r, e1, e2⟩ := ih (n / 10) (by omega) (by omega)
      rw [numL_step (by omega), e1]
      exact ⟨c, r ++ [48 + n % 10], rfl, e2⟩
theorem num_log {n : Nat} (h : n < 10 ^ 30) : ((n : Nat) : Int).natAbs.log2 < 1920 := by
  show n.log2 < 1920
  by_cases e : n = 0
  · subst e; decide
  · rw [Nat.log2_lt e]
    exact Nat.lt_of_lt_of_le h (by decide)
theorem num_int {n : Nat} (h : n < 10 ^ 30) : PySem.intText? (num n) = some (n : Int) := by
  refine int_num ?_
  have := num_len h
  rw [len_tl, tl_nm] at this
  omega
theorem num_sign {n c : Nat} (h : c ∈ tl (num n)) : c ∈ tl (Str.ofString "0123456789") := by
  rw [tl_nm] at h
  have hc := numL_digits n c h
  have e : tl (Str.ofString "0123456789") = [48, 49, 50, 51, 52, 53, 54, 55, 56, 57] := by rw [tl_ofString]; decide
  rw [e]
  have h0 : 48 ≤ c := hc.1
  have h1 : c ≤ 57 := hc.2
  have : c = 48 ∨ c = 49 ∨ c = 50 ∨ c = 51 ∨ c = 52 ∨ c = 53 ∨ c = 54 ∨ c = 55 ∨ c = 56 ∨ c = 57 := by omega
  simp only [List.mem_cons, List.mem_nil_iff, or_false, List.not_mem_nil]
  exact this
theorem num_free {n s : Nat} (h : s < 48 ∨ 57 < s) : s ∉ tl (num n) := by rw [tl_nm]; exact numL_free h
theorem num_inj {m n : Nat} (h : num m = num n) : m = n := numL_inj (by rw [← tl_nm, ← tl_nm, h])
/-! ### words put together -/
theorem joinL_len (S : List Nat) : ∀ l : List (List Nat), (joinL S l).length ≤ (l.map List.length).sum + l.length * S.length
  | [] => by simp [joinL]
  | [p] => by simp [joinL]
  | p :: q :: r => by
    have h := joinL_len S (q :: r)
    have e : joinL S (p :: q :: r) = p ++ (S ++ joinL S (q :: r)) := rfl
    rw [e, List.length_append, List.length_append]
    simp only [List.map_cons, List.sum_cons, List.length_cons, Nat.add_mul, Nat.one_mul] at h ⊢
    omega
theorem join_len (y : Str) (l : List Str) : (Str.join y l).length ≤ (l.map (·.length)).sum + l.length * y.length := by
  have h := joinL_len (tl y) (l.map tl)
  rw [len_tl, tl_join]
  rw [List.map_map, List.length_map] at h
  have e : List.map (List.length ∘ tl) l = l.map (·.length) := List.map_congr_left fun x _ => (len_tl x).symm
  rw [e, ← len_tl] at h
  exact h
theorem sum_le {l : List Str} {k : Nat} (h : ∀ x ∈ l, x.length ≤ k) : (l.map (·.length)).sum ≤ l.length * k := by
  induction l with
  | nil => simp
  | cons a r ih =>
    have h1 := h a (List.mem_cons_self ..)
    have h2 := ih fun x hx => h x (List.mem_cons_of_mem _ hx)
    simp only [List.map_cons, List.sum_cons, List.length_cons, Nat.add_mul, Nat.one_mul]
    omega
theorem join_short {y : Str} {l : List Str} {k m : Nat} (h : ∀ x ∈ l, x.length ≤ k) (hm : l.length ≤ m) : (Str.join y l).length ≤ m * (k + y.length) := by
  have h1 := join_len y l
  have h2 := sum_le h
  have h3 : l.length * k + l.length * y.length = l.length * (k + y.length) := by rw [Nat.mul_add]
  have h4 : l.length * (k + y.length) ≤ m * (k + y.length) := Nat.mul_le_mul_right _ hm
  omega
theorem join_room {y : Str} {l : List Str} {k m : Nat} (h : ∀ x ∈ l, x.length ≤ k) (hm : l.length ≤ m) (hz : m * (k + y.length) ≤ 16777216) : (l.map (·.length)).sum + l.length * y.length ≤ 16777216 := by
  have h2 := sum_le h
  have h3 : l.length * k + l.length * y.length = l.length * (k + y.length) := by rw [Nat.mul_add]
  have h4 : l.length * (k + y.length) ≤ m * (k + y.length) := Nat.mul_le_mul_right _ hm
  omega
/-- a row of a word and numbers -/
def rowW (w : Str) (p : List Int) : List Str := w :: p.map fun x => num x.toNat
def sp1 : Str := Str.ofString " "
def nl1 : Str := Str.ofString "\n"
theorem tl_sp : tl sp1 = [32] := by unfold sp1; rw [tl_ofString]; decide
theorem tl_nl : tl nl1 = [10] := by unfold nl1; rw [tl_ofString]; decide
theorem row3 (w : Str) (x y : Int) : tl (Str.join sp1 (rowW w [x, y])) = tl w ++ (32 :: (numL x.toNat ++ (32 :: numL y.toNat))) := by
  rw [tl_join, tl_sp]
  show joinL [32] [tl w, tl (num x.toNat), tl (num y.toNat)] = _
  rw [tl_nm, tl_nm]
  rfl
theorem row2 (w : Str) (n : Nat) : tl (Str.join sp1 [w, num n]) = tl w ++ (32 :: numL n) := by
  rw [tl_join, tl_sp]
  show joinL [32] [tl w, tl (num n)] = _
  rw [tl_nm]
  rfl
theorem mem_joinL {s : Nat} {S : List Nat} (hS : s ∉ S) : ∀ l : List (List Nat), (∀ p ∈ l, s ∉ p) → s ∉ joinL S l
  | [], _ => by simp [joinL]
  | [p], h => h p (List.mem_cons_self ..)
  | p :: q :: r, h => by
    have h1 := mem_joinL hS (q :: r) fun x hx => h x (List.mem_cons_of_mem _ hx)
    have h2 := h p (List.mem_cons_self ..)
    have e : joinL S (p :: q :: r) = p ++ (S ++ joinL S (q :: r)) := rfl
    rw [e, List.mem_append, List.mem_append]
    rintro (z | z | z)
    · exact h2 z
    · exact hS z
    · exact h1 z
theorem mem_join {s : Nat} {y : Str} {l : List Str} (hS : s ∉ tl y) (h : ∀ x ∈ l, s ∉ tl x) : s ∉ tl (Str.join y l) := by
  rw [tl_join]
  refine mem_joinL hS _ fun p hp => ?_
  obtain ⟨x, hx, rfl⟩ := List.mem_map.mp hp
  exact h x hx
end RV
set_option maxHeartbeats 4000000
/-! a heap but for one list that changes; texts of numbers as data -/
namespace RV
open PySem PySem.Spec PyProof.Rows L2 TL
/-- the heap but for some lists, which may change -/
def rmS (L : List Addr) (H : Hp) : Hp := fun b => if b ∈ L then none else H b
theorem rmS_ne {L : List Addr} {a : Addr} {H : Hp} (h : a ∉ L) : rmS L H a = H a := if_neg h
theorem rmS_same {L : List Addr} {H : Hp} : Same (rmS L H) H := fun b o e => by
  by_cases z : b ∈ L
  · rw [show rmS L H b = none from if_pos z] at e; cases e
  · rw [← e]; exact (rmS_ne z).symm
theorem rmS_but {L : List Addr} {H H' : Hp} (h : ∀ c o, H c = some o → c ∉ L → H' c = some o) : Same (rmS L H) (rmS L H') := fun b o e => by
  by_cases z : b ∈ L
  · rw [show rmS L H b = none from if_pos z] at e; cases e
  · rw [rmS_ne z] at e ⊢; exact h b o e z
theorem rmS_mono {L : List Addr} {H H' : Hp} (h : Same H H') : Same (rmS L H) (rmS L H') := rmS_but fun c o e _ => h c o e
theorem rmS_at {L : List Addr} {a : Addr} {H : Hp} {o : HO} (h : H a = some o) (n : a ∉ L) : rmS L H a = some o := by rw [rmS_ne n]; exact h
theorem rmS_more {L : List Addr} {D : Addr} {H : Hp} (n : H D = none) : Same (rmS L H) (rmS (D :: L) H) := fun b o e => by
  by_cases z : b ∈ L
  · rw [show rmS L H b = none from if_pos z] at e; cases e
  · rw [rmS_ne z] at e
    have nb : b ≠ D := fun q => by rw [q, n] at e; cases e
    rw [rmS_ne (fun q => by rcases List.mem_cons.mp q with q | q; exact nb q; exact z q)]
    exact e
theorem rmS_less {L : List Addr} {D : Addr} {H : Hp} : Same (rmS (D :: L) H) (rmS L H) := fun b o e => by
  by_cases z : b ∈ D :: L
  · rw [show rmS (D :: L) H b = none from if_pos z] at e; cases e
  · rw [rmS_ne z] at e
    rw [rmS_ne fun q => z (List.mem_cons_of_mem _ q)]
    exact e
/-- what is left out: lists -/
def Lis (L : List Addr) (H : Hp) : Prop := ∀ b ∈ L, ∃ ys, H b = some (.lst ys)
theorem Lis.fresh {L : List Addr} {H : Hp} {N : Addr} (h : Lis L H) (n : H N = none) : N ∉ L := fun z => by
  obtain ⟨ys, e⟩ := h N z
  rw [n] at e; cases e
theorem Lis.same {L : List Addr} {H H' : Hp} (h : Lis L H) (s : Same H H') : Lis L H' := fun b hb => let ⟨ys, e⟩ := h b hb; ⟨ys, s _ _ e⟩
theorem Lis.add {L : List Addr} {H : Hp} {D : Addr} {ys : List V} (h : Lis L H) (e : H D = some (.lst ys)) : Lis (D :: L) H := fun b hb => by
  rcases List.mem_cons.mp hb with z | z
  · rw [z]; exact ⟨ys, e⟩
  · exact h b z
theorem Lis.set {L : List Addr} {H : Hp} {D : Addr} {ys : List V} (h : Lis L H) : Lis L (upd H D (.lst ys)) := fun b hb => by
  by_cases z : b = D
  · rw [z]; exact ⟨ys, upd_same⟩
  · obtain ⟨zs, e⟩ := h b hb
    exact ⟨zs, by rw [upd_ne z]; exact e⟩
theorem rmS_tup {K : PySem.W.Frag} {L : List Addr} {a : Addr} {H : Hp} {xs : List V} (hL : Lis L H) (h : SqT K H a xs) : SqT K (rmS L H) a xs := by
  rcases h with (h | ⟨u, h⟩) | h
  · exact .inl (.inl (rmS_at h fun z => by obtain ⟨ys, e⟩ := hL _ z; rw [e] at h; cases h))
  · exact .inl (.inr ⟨u, rmS_at h fun z => by obtain ⟨ys, e⟩ := hL _ z; rw [e] at h; cases h⟩)
  · exact .inr h
/-- the list at D, which is left out, holds these things -/
def Pile (K : PySem.W.Frag) (H : Hp) (L : List Addr) (D : Addr) (ds : List PyData) : Prop := D ∈ L ∧ ∃ vs, H D = some (.lst vs) ∧ DpAll K (rmS L H) vs ds
section
variable {K : PySem.W.Frag} {H H' : Hp} {L : List Addr} {D : Addr} {ds : List PyData}
theorem Pile.same (h : Pile K H L D ds) (s : Same H H') : Pile K H' L D ds := by
  obtain ⟨n, vs, h1, h2⟩ := h
  exact ⟨n, vs, s _ _ h1, DpAll.same (rmS_mono s) h2⟩
theorem Pile.nil (n : H D = none) : Pile K (upd H D (.lst [])) (D :: L) D [] := ⟨List.mem_cons_self .., [], upd_same, .nil⟩
theorem Pile.add {vs : List V} {v : V} {d : PyData} (h : Pile K H L D ds) (e : H D = some (.lst vs)) (hv : Dp K (rmS L H) v d) : Pile K (upd H D (.lst (vs ++ [v]))) L D (ds ++ [d]) := by
  obtain ⟨n, us, h1, h2⟩ := h
  rw [e] at h1
  cases h1
  have s : Same (rmS L H) (rmS L (upd H D (.lst (vs ++ [v])))) := rmS_but fun c o z nc => by
    rw [upd_ne fun q => nc (by rw [q]; exact n)]; exact z
  exact ⟨n, _, upd_same, DpAll.app (DpAll.same s h2) (.cons (Dp.same s hv) .nil)⟩
theorem Pile.len {vs : List V} (h : Pile K H L D ds) (e : H D = some (.lst vs)) : vs.length = ds.length := by
  obtain ⟨n, us, h1, h2⟩ := h
  rw [e] at h1
  cases h1
  exact DpAll.len h2
end
/-! ### texts of numbers -/
theorem low_num (n : Nat) : ∀ c ∈ tl (num n), c < 256 := fun c hc => by
  rw [tl_nm] at hc
  have h1 : c ≤ 57 := (numL_digits n c hc).2
  omega
theorem gd_str {x : Str} {m : Nat} (h : ∀ c ∈ tl x, c < 256) (hl : x.length ≤ m) : Gd (.str x) 0 m := by
  refine ⟨?_, by simp [PyData.showable], by simp [PyData.intsShort], by simp [PyData.depth], hl⟩
  simp only [PyData.canLay0]
  show PyData.strOk x = true
  unfold PyData.strOk
  rw [Array.all_eq_true_iff_forall_mem]
  intro c hc
  have := h c (Array.mem_toList_iff.mpr hc)
  simp only [decide_eq_true_eq]
  omega
theorem num_len2 {n : Nat} (h : n < 10 ^ 36) : (num n).length ≤ 36 := by
  rw [len_tl, tl_nm]
  exact numL_len (by decide) h
end RV
namespace RV
open PySem PySem.Spec PyProof.Rows L2
theorem pile_join {K : PySem.W.Frag} {H : Hp} {L : List Addr} {S D : Addr} {ds es : List PyData} {vs us : List V} (mS : S ∈ L) (hA : DpAll K (rmS (D :: L) H) vs ds) (hD : DpAll K (rmS (D :: L) H) us es) : Pile K (upd H S (.lst (vs ++ us))) L S (ds ++ es) := by
  have s : Same (rmS (D :: L) H) (rmS L (upd H S (.lst (vs ++ us)))) := rmS_less.trans (rmS_but fun c o z nc => by
    rw [upd_ne fun q => nc (by rw [q]; exact mS)]; exact z)
  exact ⟨mS, _, upd_same, DpAll.app (DpAll.same s hA) (DpAll.same s hD)⟩
end RV
set_option maxHeartbeats 4000000
namespace K4
open PySem PySem.Spec PyProof.Rows L2 RV
section
variable {P : Program} {w : World} {K : PySem.W.Frag} {mg : Str → Option Value} {base : Heap}
/-! ### _law_odd -/
theorem scOdd : FnScope ["_law_pail_here", "_law_thing", "_law_some"] ["_law_pail_here", "_law_thing"] (defScope sOdd) := ⟨rfl, rfl, rfl, by decide +kernel, rfl, by decide +kernel, by decide +kernel⟩
/-- a new thing, drawn: it stands whatever the pail does -/
def Gets (K : PySem.W.Frag) (H : Hp) (L : List Addr) (p : Addr) (t : Nat) (Q : VK) (n m c : Nat) (top : Nat) : Prop := ∀ (H' : Hp) (v : V) (d : PyData) (t' : Nat), t' ≤ t + c → PailAt H' p t' → But p H H' → Dp K (rmS L H') v d → Gd d n m → topD d ≤ top → Q v H'
/-- the lists that are left out, the pail among them -/
def Lk (p : Addr) (L : List Addr) (H : Hp) : Prop := p ∈ L ∧ Lis L H
theorem Lk.but {p : Addr} {L : List Addr} {H H' : Hp} {t : Nat} (h : Lk p L H) (b : But p H H') (hp : PailAt H' p t) : Lk p L H' := ⟨h.1, fun c hc => by
  by_cases z : c = p
  · rw [z]
    obtain ⟨x, y, e, _⟩ := hp
    exact ⟨_, e⟩
  · obtain ⟨ys, e⟩ := h.2 c hc
    exact ⟨ys, b _ _ e z⟩⟩
theorem Lk.same {p : Addr} {L : List Addr} {H H' : Hp} (h : Lk p L H) (s : Same H H') : Lk p L H' := ⟨h.1, h.2.same s⟩
theorem Lk.mono {p : Addr} {L : List Addr} {H H' : Hp} (h : Lk p L H) (b : But p H H') : Same (rmS L H) (rmS L H') := rmS_but fun c o e nc => b c o e fun z => nc (by rw [z]; exact h.1)
theorem Lk.add {p D : Addr} {L : List Addr} {H : Hp} {ys : List V} (h : Lk p L H) (e : H D = some (.lst ys)) : Lk p (D :: L) H := ⟨List.mem_cons_of_mem _ h.1, h.2.add e⟩
theorem Lk.set {p D : Addr} {L : List Addr} {H : Hp} {ys : List V} (h : Lk p L H) : Lk p L (upd H D (.lst ys)) := ⟨h.1, h.2.set⟩
def spOdd (K : PySem.W.Frag) : Sp := fun vs H Q _ => ∃ (L : List Addr) (p : Addr) (t : Nat) (i : Int), vs = [.ref p, .int i] ∧ Lk p L H ∧ PailAt H p t ∧ t ≤ 1900 ∧ 0 ≤ i ∧ i < 10 ^ 35 ∧ Gets K H L p t Q 1 60 1 60
theorem ok_odd {f fO fD : Addr} {fd dO dD : FuncData} (F : Fun K "_law_odd" "_law_odd" sOdd f fd) (DO : DefAt K mg "_law_of" sOf ["_law_pail_here", "_law_some"] fO dO) (DD : DefAt K mg "_law_draw" sDraw ["_law_pail_here", "_law_many"] fD dD) (B : Bare mg) : FnOk P w K mg base CX0 3 f fd ["_law_pail_here", "_law_thing"] (spOdd K) := by
  have GO : FnOk P w K mg base CX0 2 fO dO ["_law_pail_here", "_law_some"] (spOf K) := ok_of DO.fn DD B
  refine F.ok scOdd (fun vs H Q E h => ?_) (fun cdv A outer s H vs Q E hr h => ?_)
  · obtain ⟨L, p, t, i, rfl, _⟩ := h
    rfl
  · obtain ⟨L, p, t, i, rfl, hLk, hp, ht, i0, i1, q⟩ := h
    have one : (1 : Nat) ≤ sizeLine := by decide
    refine ⟨_, pss_cons (ps_set (i := 2) scOdd.nd rfl (Or.inl rfl) (pe_lst (pa_cons (pe_op op_add (pv 1) pe_int) (pa_cons (pe_op op_sub (pv 1) pe_int) (pa_cons pe_int (pa_cons (pe_op op_sub pe_int (pv 1)) (pa_cons (pe_cmpR op_eq (pv 1) pe_int (nomark _)) (pa_cons (pe_callTy call_str_int (by rfl) B.str (by decide +kernel) (pa_cons (pv 1) pa_nil)) (pa_cons pe_non
        (pa_cons (pe_tup (pa_cons (pv 1) pa_nil)) (pa_cons (pe_lst (pa_cons (pv 1) pa_nil)) (pa_cons pe_int (pa_cons (pe_op op_pow pe_int pe_int) pa_nil)))))))))))))
      (pss_one (ps_ret (pe_call GO hr (by rfl) DO.mg DO.fn.kp DO.bi .nil pass0 (pa_cons (pv 0) (pa_cons (pv 2) pa_nil))))), ?_⟩
    have lg : i.natAbs.log2 < 1920 := by
      have h1 : i.natAbs < 2 ^ 200 := Nat.lt_of_lt_of_le (show i.natAbs < 10 ^ 35 by omega) (by decide)
      by_cases z : i.natAbs = 0
      · rw [z]; decide
      · exact Nat.lt_of_lt_of_le ((Nat.log2_lt z).mpr h1) (by decide)
    refine ⟨.int i, rfl, _, _, rfl, rfl, .int i, rfl, _, _, rfl, rfl, .int i, rfl, _, _, rfl, rfl, .int i, rfl, rfl, .int i, rfl, i, rfl, lg, .int i, rfl, one, fun T nT => ⟨.int i, rfl, one, fun N nN => ⟨10, 29, rfl, rfl, ⟨by decide, by decide, by decide⟩, (by show 11 ≤ sizeLine; rw [sizeLine_eq]; omega), fun S nS => ?_⟩⟩⟩
    have sT := same_upd (o := .tup [.int i]) nT
    have sN := same_upd (o := .lst [.int i]) nN
    obtain ⟨n, rfl⟩ : ∃ n : Nat, i = (n : Int) := ⟨i.toNat, by omega⟩
    have es : Str.ofString (toString ((n : Nat) : Int)) = num n := rfl
    dsimp only
    rw [es]
    generalize hL : [V.int ((n : Int) + 1), V.int ((n : Int) - 1), V.int 0, V.int (0 - (n : Int)), V.bl (decide (V.int (n : Int) = V.int 1)), V.str (num n), V.non, V.ref T, V.ref N, V.int 7, V.int ((10 : Int) ^ (29 : Int).toNat)] = xs
    have sS := same_upd (o := .lst xs) nS
    have hNL : N ∉ L := (hLk.same sT).2.fresh nN
    have hSp : S ≠ p := pail_ne (pail_same (pail_same hp sT) sN) nS
    have s3 := (sT.trans sN).trans sS
    have hp3 := pail_same hp s3
    have eT3 := (sN.trans sS) _ _ (upd_same (H := H) (a := T) (o := .tup [.int (n : Int)]))
    have eN3 := sS _ _ (upd_same (H := upd H T (.tup [.int (n : Int)])) (a := N) (o := .lst [.int (n : Int)]))
    have eS3 : (upd (upd (upd H T (.tup [.int (n : Int)])) N (.lst [.int (n : Int)])) S (.lst xs)) S = some (.lst xs) := upd_same
    generalize upd (upd (upd H T (.tup [.int (n : Int)])) N (.lst [.int (n : Int)])) S (.lst xs) = H3 at s3 hp3 eT3 eN3 eS3 ⊢
    have hL3 := hLk.same s3
    have hA : DpAll K (rmS L H3) xs [.int ((n : Int) + 1), .int ((n : Int) - 1), .int 0, .int (0 - (n : Int)), .bool (decide (V.int (n : Int) = V.int 1)), .str (num n), .none, .tuple [.int (n : Int)], .list [.int (n : Int)], .int 7, .int ((10 : Int) ^ (29 : Int).toNat)] := by
      rw [← hL]
      exact .cons (.int _) (.cons (.int _) (.cons (.int _) (.cons (.int _) (.cons (.bl _) (.cons (.str _) (.cons .non (.cons (.tup (rmS_tup hL3.2 (tupNew eT3)) (.cons (.int _) .nil)) (.cons (.lst (lstNew (rmS_at eN3 hNL)) (.cons (.int _) .nil)) (.cons (.int _) (.cons (.int _) .nil))))))))))
    have lx : xs.length = 11 := by rw [← hL]; rfl
    refine ⟨.ref p, rfl, .ref S, rfl, p, S, t, xs, rfl, hp3, by omega, lstNew eS3, hSp, by omega, by omega, fun j v t' H' gv ht' hp' b' => ?_⟩
    obtain ⟨e, ge, he⟩ := DpAll.at hA gv
    have hN : n < 10 ^ 35 := by omega
    have one_ : ∀ c : Int, c.natAbs < 10 ^ 40 → Gd (.int c) 1 60 ∧ topD (.int c) ≤ 60 := fun c hc => ⟨(gd_int hc).up (by decide) (by decide), Nat.zero_le _⟩
    have good : Gd e 1 60 ∧ topD e ≤ 60 := by
      have hm := List.mem_of_getElem? ge
      simp only [List.mem_cons, List.not_mem_nil, or_false] at hm
      have b1 : Gd (.int (n : Int)) 0 0 := gd_int (by omega)
      rcases hm with rfl | rfl | rfl | rfl | rfl | rfl | rfl | rfl | rfl | rfl | rfl
      · exact one_ _ (by omega)
      · exact one_ _ (by omega)
      · exact one_ _ (by decide)
      · exact one_ _ (by omega)
      · exact ⟨(gd_bool _).up (by decide) (by decide), Nat.zero_le _⟩
      · exact ⟨(gd_str (low_num n) (num_len2 (by omega))).up (by decide) (by decide), Nat.zero_le _⟩
      · exact ⟨gd_none.up (by decide) (by decide), Nat.zero_le _⟩
      · refine ⟨gd_tup.mpr ⟨fun e he => ?_, ?_⟩, by show 1 ≤ 60; decide⟩
        · rw [List.mem_singleton.mp he]; exact b1.up (by decide) (by decide)
        · rw [bulk_one]; have := b1.bk; omega
      · refine ⟨gd_lst.mpr ⟨fun e he => ?_, ?_⟩, Nat.zero_le _⟩
        · rw [List.mem_singleton.mp he]; exact b1.up (by decide) (by decide)
        · rw [bulk_one]; have := b1.bk; omega
      · exact one_ _ (by decide)
      · exact one_ _ (by decide)
    exact q H' v e t' (by omega) hp' ((But.of s3).trans b') (Dp.same (hL3.mono b') he) good.1 good.2
end
end K4
set_option maxHeartbeats 4000000
namespace K4
open PySem PySem.Spec PyProof.Rows L2 RV
theorem cut_last (xs : List V) : cutV xs none (some (-1)) = xs.take (xs.length - 1) := by
  unfold cutV
  have e1 : HT.sIx xs.length xs.length (some (-1)) = xs.length - 1 := by
    unfold HT.sIx
    show (if (-1 : Int) < 0 then (-1 + (xs.length : Int)).toNat else _) = _
    rw [if_pos (by decide)]; omega
  have e2 : HT.sIx xs.length 0 none = 0 := rfl
  rw [e1, e2, List.drop_zero, Nat.sub_zero]
theorem op_neDT {X : Cx} {K : PySem.W.Frag} (h : X.K = K) (hu : X.A.units + 64 < cLine) : OpR X (compareOp .NotEq) (rNeD K) := h ▸ op_neD hu
/-- things as rings are made of: so deep -/
def LvN : Nat → PyData → Prop
  | 0, _ => False
  | k + 1, d => (∃ i, d = .int i ∧ 0 ≤ i ∧ i < 10 ^ 35) ∨ ∃ ds, d = .tuple ds ∧ ∀ e ∈ ds, LvN k e
section
variable {P : Program} {w : World} {K : PySem.W.Frag} {mg : Str → Option Value} {base : Heap}
/-! ### _law_bent -/
abbrev nBent : List Str := ["_law_pail_here", "_law_thing", "_law_lot", "_law_deep", "_law_at"]
theorem scBent : FnScope nBent ["_law_pail_here", "_law_thing"] (defScope sBent) := ⟨rfl, rfl, rfl, by decide +kernel, rfl, by decide +kernel, by decide +kernel⟩
def spB (K : PySem.W.Frag) : Nat → Sp
  | 0 => fun _ _ _ _ => False
  | k + 1 => fun vs H Q _ => ∃ (L : List Addr) (p : Addr) (t : Nat) (v : V) (d : PyData) (n m : Nat), vs = [.ref p, v] ∧ Lk p L H ∧ PailAt H p t ∧ t + 5 * (k + 1) ≤ 1800 ∧ Dp K (rmS L H) v d ∧ LvN (k + 1) d ∧ Gd d n m ∧ n ≤ 50 ∧ m ≤ 1000 ∧ Gets K H L p t Q (n + 2) (2 * m + 60) (4 * (k + 1)) (2 * topD d + 60)
theorem ok_bent {f fD fO fF : Addr} {fd dD dO dF : FuncData} (D : DefAt K mg "_law_bent" sBent ["_law_pail_here", "_law_thing"] f fd) (DD : DefAt K mg "_law_draw" sDraw ["_law_pail_here", "_law_many"] fD dD) (DO : DefAt K mg "_law_odd" sOdd ["_law_pail_here", "_law_thing"] fO dO) (DF : DefAt K mg "_law_of" sOf ["_law_pail_here", "_law_some"] fF dF) (B : Bare mg) :
    ∀ k, FnOk P w K mg base CX0 (3 + k) f fd ["_law_pail_here", "_law_thing"] (spB K k)
  | 0 => ⟨fun _ _ _ _ h => h.elim, fun _ _ _ _ _ _ _ _ _ _ _ _ _ h => h.elim⟩
  | k + 1 => by
    have G := ok_bent D DD DO DF B k
    have GD : FnOk P w K mg base CX0 1 fD dD ["_law_pail_here", "_law_many"] spDraw := ok_draw DD.fn
    have GO : FnOk P w K mg base CX0 3 fO dO ["_law_pail_here", "_law_thing"] (spOdd K) := ok_odd DO.fn DF DD B
    refine D.fn.ok scBent (fun vs H Q E h => ?_) (fun cdv A outer s H vs Q E hr h => ?_)
    · obtain ⟨L, p, t, v, d, n, m, rfl, _⟩ := h
      rfl
    · obtain ⟨L, p, t, v, d, n, m, rfl, hLk, hp, ht, hd, lv, gd, n50, m1, q⟩ := h
      have r1 := hr.mono (show 1 ≤ 3 + k by omega)
      have r3 := hr.mono (show 3 ≤ 3 + k by omega)
      have one : (1 : Nat) ≤ sizeLine := by decide
      refine ⟨_, pss_cons (ps_par (i := 2) (j := 3) (by rfl) scBent.nd rfl rfl (by decide) rfl rfl (pa_cons (pe_call GD r1 (by rfl) DD.mg DD.fn.kp DD.bi .nil pass0 (pa_cons (pv 0) (pa_cons pe_int pa_nil))) (pa_cons (pe_call GD r1 (by rfl) DD.mg DD.fn.kp DD.bi .nil pass0 (pa_cons (pv 0) (pa_cons pe_int pa_nil))) pa_nil)) (by rfl))
        (pss_cons (ps_if (pt_not (pt_val (pe_callB call_isi (by rfl) B.isinstance (by decide +kernel) (pa_cons (pv 1) (pa_cons (pe_bltn (v := .ty "tuple") (by rfl) B.tuple (by decide +kernel) rfl) pa_nil)))))
          (pss_one (ps_ret (pe_call GO r3 (by rfl) DO.mg DO.fn.kp DO.bi .nil pass0 (pa_cons (pv 0) (pa_cons (pv 1) pa_nil))))) pss_nil)
        (pss_cons (ps_if (PW.pt (pw_and (pt_cmpR (op_neD hr.units) (pv 1) (pe_tup pa_nil) (nomark _)) (pw_and1 (pt_cmpR op_gt (pv 3) pe_int (nomark _)))))
          (pss_cons (ps_set (i := 4) scBent.nd rfl (Or.inl rfl) (pe_call GD r1 (by rfl) DD.mg DD.fn.kp DD.bi .nil pass0 (pa_cons (pv 0) (pa_cons (pe_callB call_len_seq (by rfl) B.len PySem.boot_len (pa_cons (pv 1) pa_nil)) pa_nil))))
          (pss_one (ps_ret (pe_op op_catW (pe_op op_catW (pe_slice sl_tupW (pv 1) po_none (po_some (pv 4))) (pe_tup (pa_cons (pe_call G hr (by rfl) D.mg D.fn.kp D.bi .nil pass0 (pa_cons (pv 0) (pa_cons (pe_ix ix_tup (pv 1) (pv 4) (fun _ _ => rfl)) pa_nil))) pa_nil)))
            (pe_slice sl_tupW (pv 1) (po_some (pe_op op_add (pv 4) pe_int)) po_none))))) pss_nil)
        (pss_one (ps_ret (pe_ix ix_list (pe_lst (pa_cons (pe_slice sl_tupW (pv 1) (po_some pe_int) po_none) (pa_cons (pe_slice sl_tupW (pv 1) po_none (po_some (pe_un un_neg pe_int))) (pa_cons (pe_op op_catW (pv 1) (pe_slice sl_tupW (pv 1) po_none (po_some pe_int))) (pa_cons (pe_backT (pv 1)) (pa_cons (pe_callTy call_list_of (by rfl) B.list (by decide +kernel) (pa_cons (pv 1) pa_nil))
            (pa_cons (pe_tup (pa_cons (pv 1) pa_nil)) (pa_cons (pe_op op_catW (pv 1) (pe_tup (pa_cons pe_int pa_nil))) pa_nil)))))))) (pv 2) (fun _ _ => rfl)))))), ?_⟩
      refine ⟨.ref p, rfl, p, t, 7, rfl, hp, by omega, by decide, by decide, fun lot t1 H1 l0 l7 ht1 hp1 b1 => ⟨.ref p, rfl, p, t1, 5, rfl, hp1, by omega, by decide, by decide, fun deep t2 H2 d0 d5 ht2 hp2 b2 => ?_⟩⟩
      refine ⟨.int lot, .int deep, rfl, ?_⟩
      dsimp only
      have b12 := b1.trans b2
      have hL2 := hLk.but b12 hp2
      have hd2 := Dp.same (hLk.mono b12) hd
      have hdd := Dp.same rmS_same hd2
      refine ⟨v, rfl, v, .ty "tuple", _, _, _, rfl, .ty "tuple", tyD hdd, kit_D (.inr (.inr (.inl rfl))), _, rfl, ?_⟩
      rw [isi_tup]
      rcases lv with ⟨i, rfl, i0, i1⟩ | ⟨ds, rfl, lv⟩
      · cases hd
        refine iteT ⟨.ref p, rfl, .int i, rfl, L, p, t2, i, rfl, hL2, hp2, by omega, i0, i1, fun H' v' d' t' ht' hp' b' dp' g' tp' => ?_⟩
        exact q H' v' d' t' (by omega) hp' (b12.trans b') dp' (g'.up (by omega) (by omega)) (by omega)
      · refine iteF ?_
        cases hd2 with
        | tup hT0 hA0 =>
        rename_i a xs
        have hT : SqT K H2 a xs := sqT_same rmS_same hT0
        have hl := DpAll.len hA0
        obtain ⟨n', rfl⟩ : ∃ n', n = n' + 1 := by
          have z := gd.dep
          simp only [PyData.depth] at z
          exact ⟨n - 1, by omega⟩
        have g59 := (gd_tup (n := n')).mp gd
        have bl := bulk_len ds
        have ht2' : topD (.tuple ds) = ds.length := rfl
        rw [ht2'] at q
        obtain ⟨px, py, ep, pz⟩ := hp2
        have hp2 : PailAt H2 p t2 := ⟨px, py, ep, pz⟩
        refine seq_mid (fun σ H' => σ = [some (.ref p), some (.ref a), some (.int lot), some (.int deep), none] ∧ H' = H2) (fun σ H3 h => ?_) (fun tail => tail _ _ ⟨rfl, rfl⟩)
        obtain ⟨rfl, rfl⟩ := h
        refine seq_mid (fun σ H' => σ = [some (.ref p), some (.ref a), some (.int lot), some (.int deep), none] ∧ Same H3 H') (fun σ H4 h => ?_) (fun tail => ?_)
        · obtain ⟨rfl, s3⟩ := h
          have hp4 := pail_same hp2 s3
          have hT4 := sqT_same s3 hT
          have hL4 := hL2.same s3
          have hA4 := DpAll.same (rmS_mono s3) hA0
          have b34 : But p H3 H4 := But.of s3
          refine ⟨.ref a, rfl, _, rfl, a, xs, rfl, hT4, fun w1 H5 s5 h5 => ?_⟩
          rw [show (some (1 : Int)) = some ((1 : Nat) : Int) from rfl, cut_from] at h5
          have hT5 := sqT_same s5 hT4
          refine ⟨.ref a, rfl, 1, rfl, _, rfl, a, xs, rfl, hT5, fun w2 H6 s6 h6 => ?_⟩
          rw [cut_last] at h6
          have hT6 := sqT_same s6 hT5
          refine ⟨.ref a, rfl, .ref a, rfl, _, rfl, a, xs, rfl, hT6, fun w3 H7 s7 h7 => ?_⟩
          rw [show (some (1 : Int)) = some ((1 : Nat) : Int) from rfl, cut_to] at h7
          have hT7 := sqT_same s7 hT6
          refine ⟨a, w3, xs, _, rfl, rfl, hT7, h7, by rw [List.length_take, sizeLine_eq]; omega, fun w4 H8 s8 h8 => ?_⟩
          have hT8 := sqT_same s8 hT7
          refine ⟨.ref a, rfl, a, xs, rfl, hT8, fun w5 n5 => ?_⟩
          have s9 := same_upd (o := .tup xs.reverse) n5
          have h9 : SqT K (upd H8 w5 (.tup xs.reverse)) w5 xs.reverse := tupNew upd_same
          generalize upd H8 w5 (.tup xs.reverse) = H9 at s9 h9 ⊢
          have hT9 := sqT_same s9 hT8
          refine ⟨.ref a, rfl, a, _, rfl, .inr hT9, fun w6 n6 => ?_⟩
          have s48 := ((s5.trans s6).trans s7).trans (s8.trans s9)
          have hw6 : w6 ∉ L := (hL4.same s48).2.fresh n6
          have s10 := same_upd (o := .lst xs) n6
          have h10 : (upd H9 w6 (.lst xs)) w6 = some (.lst xs) := upd_same
          generalize upd H9 w6 (.lst xs) = H10 at s10 h10 ⊢
          have hT10 := sqT_same s10 hT9
          refine ⟨.ref a, rfl, one, fun w7 n7 => ?_⟩
          have s11 := same_upd (o := .tup [.ref a]) n7
          have h11 : SqT K (upd H10 w7 (.tup [.ref a])) w7 [.ref a] := tupNew upd_same
          generalize upd H10 w7 (.tup [.ref a]) = H11 at s11 h11 ⊢
          have hT11 := sqT_same s11 hT10
          refine ⟨.ref a, rfl, one, fun u8 n8 => ?_⟩
          have s12 := same_upd (o := .tup [.int 1]) n8
          have h12 : SqT K (upd H11 u8 (.tup [.int 1])) u8 [.int 1] := tupNew upd_same
          generalize upd H11 u8 (.tup [.int 1]) = H12 at s12 h12 ⊢
          have hT12 := sqT_same s12 hT11
          refine ⟨a, u8, xs, _, rfl, rfl, hT12, h12, by rw [sizeLine_eq]; simp only [List.length_cons, List.length_nil]; omega, fun w8 H13 s13 h13 => ?_⟩
          refine ⟨(by show 7 ≤ sizeLine; decide), fun S nS => ?_⟩
          generalize hL : [V.ref w1, V.ref w2, V.ref w4, V.ref w5, V.ref w6, V.ref w7, V.ref w8] = ys
          have s14 := same_upd (o := .lst ys) nS
          have eS : (upd H13 S (.lst ys)) S = some (.lst ys) := upd_same
          generalize upd H13 S (.lst ys) = H14 at s14 eS ⊢
          have z13 := s13.trans s14
          have z12 := s12.trans z13
          have z11 := s11.trans z12
          have z10 := s10.trans z11
          have z9 := s9.trans z10
          have z8 := s8.trans z9
          have z7 := s7.trans z8
          have z6 := s6.trans z7
          have z5 := s5.trans z6
          have hp14 := pail_same hp4 z5
          have hL14 := hL4.same z5
          have b314 : But p H3 H14 := b34.trans (But.of z5)
          have hA14 := DpAll.same (rmS_mono z5) hA4
          have hT14 := rmS_tup hL14.2 (sqT_same z5 hT4)
          have dA : Dp K (rmS L H14) (.ref a) (.tuple ds) := .tup hT14 hA14
          have hAll : DpAll K (rmS L H14) ys [.tuple (ds.drop 1), .tuple (ds.take (ds.length - 1)), .tuple (ds ++ ds.take 1), .tuple ds.reverse, .list ds, .tuple [.tuple ds], .tuple (ds ++ [.int 1])] := by
            rw [← hL]
            exact .cons (.tup (rmS_tup hL14.2 (sqT_same z6 h5)) (DpAll.drop 1 hA14)) (.cons (.tup (rmS_tup hL14.2 (sqT_same z7 h6)) (by rw [← hl]; exact DpAll.take _ hA14)) (.cons (.tup (rmS_tup hL14.2 (sqT_same z9 h8)) (DpAll.app hA14 (DpAll.take 1 hA14))) (.cons (.tup (rmS_tup hL14.2 (sqT_same z10 h9)) (DpAll.rev hA14)) (.cons (.lst (lstNew (rmS_at (z11 _ _ h10) hw6)) hA14)
              (.cons (.tup (rmS_tup hL14.2 (sqT_same z12 h11)) (.cons dA .nil)) (.cons (.tup (rmS_tup hL14.2 (sqT_same s14 h13)) (DpAll.app hA14 (.cons (.int 1) .nil))) .nil))))))
          obtain ⟨lt, rfl⟩ : ∃ lt : Nat, lot = (lt : Int) := ⟨lot.toNat, by omega⟩
          have ly : ys.length = 7 := by rw [← hL]; rfl
          obtain ⟨y0, gy⟩ : ∃ y, ys[lt]? = some y := ⟨_, List.getElem?_eq_getElem (by omega)⟩
          obtain ⟨e, ge, he⟩ := DpAll.at hAll gy
          refine ⟨.int (lt : Int), rfl, S, ys, _, y0, rfl, rfl, lstNew eS, atI_nat gy, ?_⟩
          have hm := List.mem_of_getElem? ge
          simp only [List.mem_cons, List.not_mem_nil, or_false] at hm
          have up1 : ∀ e ∈ ds, Gd e (n' + 2) (2 * m + 60) := fun e he => (g59.1 e he).up (by omega) (by omega)
          have i1 : Gd (.int 1) (n' + 2) (2 * m + 60) := (gd_int (by decide)).up (by omega) (by omega)
          have tk := fun c => bulk_take c ds
          have good : Gd e (n' + 1 + 2) (2 * m + 60) ∧ topD e ≤ 2 * ds.length + 60 := by
            rcases hm with rfl | rfl | rfl | rfl | rfl | rfl | rfl
            · refine ⟨gd_tup.mpr ⟨fun e he => up1 e (List.mem_of_mem_drop he), ?_⟩, ?_⟩
              · have := tk 1; omega
              · show (ds.drop 1).length ≤ _; rw [List.length_drop]; omega
            · refine ⟨gd_tup.mpr ⟨fun e he => up1 e (List.mem_of_mem_take he), ?_⟩, ?_⟩
              · have := tk (ds.length - 1); omega
              · show (ds.take _).length ≤ _; rw [List.length_take]; omega
            · refine ⟨gd_tup.mpr ⟨fun e he => ?_, ?_⟩, ?_⟩
              · rcases List.mem_append.mp he with z | z
                · exact up1 e z
                · exact up1 e (List.mem_of_mem_take z)
              · rw [bulk_app]; have := tk 1; omega
              · show (ds ++ ds.take 1).length ≤ _; rw [List.length_append, List.length_take]; omega
            · refine ⟨gd_tup.mpr ⟨fun e he => up1 e (List.mem_reverse.mp he), ?_⟩, ?_⟩
              · rw [bulk_rev]; omega
              · show ds.reverse.length ≤ _; rw [List.length_reverse]; omega
            · exact ⟨gd_lst.mpr ⟨up1, by omega⟩, Nat.zero_le _⟩
            · refine ⟨gd_tup.mpr ⟨fun e he => ?_, ?_⟩, by show 1 ≤ _; omega⟩
              · rw [List.mem_singleton.mp he]; exact gd.up (by omega) (by omega)
              · rw [bulk_one]; have := gd.bk; omega
            · refine ⟨gd_tup.mpr ⟨fun e he => ?_, ?_⟩, ?_⟩
              · rcases List.mem_append.mp he with z | z
                · exact up1 e z
                · rw [List.mem_singleton.mp z]; exact i1
              · rw [bulk_app, bulk_one]; have := (gd_int (n := 1) (by decide)).bk; omega
              · show (ds ++ [PyData.int 1]).length ≤ _; rw [List.length_append]; simp only [List.length_cons, List.length_nil]; omega
          exact q H14 y0 e t2 (by omega) hp14 (b12.trans b314) he good.1 good.2
        · refine ⟨.ref a, rfl, Nat.zero_le _, fun T0 nT0 => ?_⟩
          have sT0 := same_upd (o := .tup []) nT0
          refine ⟨.tuple ds, .tuple [], .tup (sqT_same sT0 hT) (DpAll.same (rmS_same.trans sT0) hA0), .tup (tupNew upd_same) .nil, gd.shaped (by omega), shaped_nil, _, rfl, ?_⟩
          rw [eqv_nil]
          by_cases e0 : ds.length = 0
          · rw [decide_eq_true e0]
            exact iteF (iteF (tail _ _ ⟨rfl, sT0⟩))
          rw [decide_eq_false e0]
          refine iteT ⟨.int deep, rfl, deep, 0, rfl, rfl, _, rfl, ?_⟩
          by_cases e1 : deep > 0
          · rw [decide_eq_true e1]
            refine iteT ?_
            have hp4 := pail_same hp2 sT0
            generalize upd H3 T0 (.tup []) = H4 at sT0 hp4 ⊢
            have hT4 := sqT_same sT0 hT
            refine ⟨.ref p, rfl, .ref a, rfl, a, _, rfl, .inr hT4, p, t2, _, rfl, hp4, by omega, by omega, by omega, fun r t3 H5 r0 r1' ht3 hp5 b5 => ?_⟩
            obtain ⟨rn, rfl⟩ : ∃ rn : Nat, r = (rn : Int) := ⟨r.toNat, by omega⟩
            have hT5 := sqT_pail hp4 b5 hT4
            have hrn : rn < xs.length := by omega
            refine ⟨.ref a, rfl, .int (rn : Int), rfl, _, rfl, a, xs, rfl, hT5, fun w1 H6 s6 h6 => ?_⟩
            rw [cut_to] at h6
            obtain ⟨x0, gx0⟩ : ∃ x0, xs[rn]? = some x0 := ⟨_, List.getElem?_eq_getElem hrn⟩
            obtain ⟨e0', ge0, he0⟩ := DpAll.at hA0 gx0
            have me0 := List.mem_of_getElem? ge0
            have hT6 := sqT_same s6 hT5
            have hp6 := pail_same hp5 s6
            have b36 : But p H3 H6 := ((But.of sT0).trans b5).trans (But.of s6)
            refine ⟨.ref p, rfl, .ref a, rfl, .int (rn : Int), rfl, a, xs, _, x0, rfl, rfl, hT6, atI_nat gx0, ?_⟩
            have lve := lv e0' me0
            obtain ⟨j, rfl⟩ : ∃ j, k = j + 1 := by
              cases k with
              | zero => exact lve.elim
              | succ j => exact ⟨j, rfl⟩
            have ge := g59.1 e0' me0
            have bsum : PyData.bulkAll (ds.take rn) + (e0'.bulk + 1) + PyData.bulkAll (ds.drop (rn + 1)) = PyData.bulkAll ds := by
              rw [← bulk_one, ← bulk_app, ← bulk_app]
              congr 1
              have hrd : rn < ds.length := by omega
              have e1 : ds[rn] = e0' := by
                have z := List.getElem?_eq_getElem hrd
                rw [ge0] at z
                exact (Option.some.inj z).symm
              rw [← e1, List.take_append_getElem, List.take_append_drop]
            refine ⟨L, p, t3, x0, e0', n', e0'.bulk, rfl, hL2.but b36 hp6, hp6, by omega, Dp.same (hL2.mono b36) he0, lve, ⟨ge.lay, ge.sh, ge.si, ge.dep, Nat.le_refl _⟩, by omega, by omega, fun H7 v7 d7 t7 ht7 hp7 b7 dp7 g7 tp7 => ⟨one, fun U nU => ?_⟩⟩
            have sU := same_upd (o := .tup [v7]) nU
            have h67 := sqT_same sU (sqT_pail hp6 b7 h6)
            refine ⟨w1, U, _, _, rfl, rfl, h67, tupNew upd_same, ?_, fun w2 H8 s8 h8 => ?_⟩
            · rw [List.length_take, sizeLine_eq]
              simp only [List.length_cons, List.length_nil]
              omega
            have b68 : But p H6 H8 := b7.trans (But.of (sU.trans s8))
            have hT8 := sqT_pail hp6 b68 hT6
            refine ⟨.ref a, rfl, .int (rn : Int), rfl, (rn : Int), 1, rfl, rfl, _, rfl, a, xs, rfl, hT8, fun w3 H9 s9 h9 => ?_⟩
            rw [show (rn : Int) + 1 = ((rn + 1 : Nat) : Int) by omega, cut_from] at h9
            refine ⟨w2, w3, _, _, rfl, rfl, sqT_same s9 h8, h9, ?_, fun w4 H10 s10 h10 => ?_⟩
            · rw [List.length_append, List.length_take, List.length_drop, sizeLine_eq]
              simp only [List.length_cons, List.length_nil]
              omega
            have s710 := (sU.trans s8).trans (s9.trans s10)
            have hp10 := pail_same hp7 s710
            have b310 : But p H3 H10 := b36.trans (b7.trans (But.of s710))
            have hL10 := hL2.but b310 hp10
            have hA10 := DpAll.same (hL2.mono b310) hA0
            refine q H10 (.ref w4) (.tuple (ds.take rn ++ [d7] ++ ds.drop (rn + 1))) t7 (by omega) hp10 (b12.trans b310) (.tup (rmS_tup hL10.2 h10) (DpAll.app (DpAll.app (DpAll.take rn hA10) (.cons (Dp.same (rmS_mono s710) dp7) .nil)) (DpAll.drop (rn + 1) hA10))) ?_ ?_
            · refine gd_tup.mpr ⟨fun e he => ?_, ?_⟩
              · rcases List.mem_append.mp he with he | he
                · rcases List.mem_append.mp he with he | he
                  · exact (g59.1 e (List.mem_of_mem_take he)).up (by omega) (by omega)
                  · rw [List.mem_singleton.mp he]
                    exact g7.up (by omega) (by omega)
                · exact (g59.1 e (List.mem_of_mem_drop he)).up (by omega) (by omega)
              · rw [bulk_app, bulk_app, bulk_one]
                have := g7.bk
                omega
            · show (ds.take rn ++ [d7] ++ ds.drop (rn + 1)).length ≤ _
              rw [List.length_append, List.length_append, List.length_take, List.length_drop]
              simp only [List.length_cons, List.length_nil]
              omega
          · rw [decide_eq_false e1]
            exact iteF (tail _ _ ⟨rfl, sT0⟩)
end
end K4
set_option maxHeartbeats 4000000
namespace K4
open PySem PySem.Spec PyProof.Rows L2 RV
/-- a run's data, that of two runs -/
theorem gd_run {r : Int × List Int} {m : Nat} (h0 : 0 ≤ r.1) (h1 : r.1 ≤ 10 ^ 30) (hm : ∀ x ∈ r.2, 0 ≤ x ∧ x < 8) (hl : r.2.length ≤ m) : Gd (dRun r) 2 (m + 2) := by
  have g0 : Gd (.int r.1) 0 0 := gd_int (by omega)
  have g1 : Gd (RV.dI r.2) 1 m := by
    refine gd_tup.mpr ⟨fun e he => ?_, ?_⟩
    · obtain ⟨x, hx, rfl⟩ := List.mem_map.mp he
      have := hm x hx
      exact (gd_int (by omega)).up (by decide) (by omega)
    · have z : ∀ ns : List Int, PyData.bulkAll (ns.map PyData.int) = ns.length := fun ns => by
        induction ns with
        | nil => rfl
        | cons n ns ih =>
          have := bulk_app [PyData.int n] (ns.map PyData.int)
          rw [bulk_one, ih] at this
          have b0 : (PyData.int n).bulk = 0 := by simp [PyData.bulk]
          rw [List.map_cons, List.length_cons]
          show PyData.bulkAll ([PyData.int n] ++ ns.map PyData.int) = _
          rw [this, b0]; omega
      rw [z]; exact hl
  refine gd_tup.mpr ⟨fun e he => ?_, ?_⟩
  · simp only [List.mem_cons, List.not_mem_nil, or_false] at he
    rcases he with rfl | rfl
    · exact g0.up (by decide) (by omega)
    · exact g1.up (by decide) (by omega)
  · show PyData.bulkAll ([PyData.int r.1] ++ [RV.dI r.2]) ≤ _
    rw [bulk_app, bulk_one, bulk_one]
    have := g0.bk
    have := g1.bk
    omega
theorem bulk_le {c : Nat} : ∀ {ds : List PyData}, (∀ e ∈ ds, e.bulk ≤ c) → PyData.bulkAll ds ≤ (c + 1) * ds.length
  | [], _ => by simp [PyData.bulkAll]
  | d :: ds, h => by
    have ih := bulk_le (ds := ds) fun e he => h e (List.mem_cons_of_mem _ he)
    have h1 := h d (List.mem_cons_self ..)
    have e : PyData.bulkAll (d :: ds) = d.bulk + 1 + PyData.bulkAll ds := by
      have := bulk_app [d] ds
      rw [bulk_one] at this
      exact this
    rw [e, List.length_cons, Nat.mul_succ]
    omega
theorem gd_ring {rs : List (Int × List Int)} {m : Nat} (h : ∀ r ∈ rs, (0 ≤ r.1 ∧ r.1 ≤ 10 ^ 30) ∧ (∀ x ∈ r.2, 0 ≤ x ∧ x < 8) ∧ r.2.length ≤ m) (hl : rs.length ≤ 12) : Gd (dRg rs) 3 ((m + 3) * 12) := by
  have g : ∀ e ∈ rs.map dRun, Gd e 2 (m + 2) := fun e he => by
    obtain ⟨r, hr, rfl⟩ := List.mem_map.mp he
    have z := h r hr
    exact gd_run z.1.1 z.1.2 z.2.1 z.2.2
  refine gd_tup.mpr ⟨fun e he => (g e he).up (Nat.le_refl _) (by omega), ?_⟩
  have z := bulk_le fun e he => (g e he).bk
  rw [List.length_map] at z
  have := Nat.mul_le_mul_left (m + 2 + 1) hl
  omega
section
variable {P : Program} {w : World} {K : PySem.W.Frag} {mg : Str → Option Value} {base : Heap}
/-- runs as data, from what stands in the heap -/
theorem dp_of_run {H : Hp} {k : Rk} (h : RunOk K H k) : Dp K H (.ref k.1) (dRun (valR k)) := .tup h.1 (.cons (.int _) (.cons (dpT h.2) .nil))
theorem dp_of_runs {H : Hp} : ∀ {ks : List Rk}, (∀ k ∈ ks, RunOk K H k) → DpAll K H (ks.map fun k => V.ref k.1) ((ks.map valR).map dRun)
  | [], _ => .nil
  | k :: ks, h => .cons (dp_of_run (h k (List.mem_cons_self ..))) (dp_of_runs fun q hq => h q (List.mem_cons_of_mem _ hq))
/-! ### _law_cut_words -/
abbrev nCut : List Str := ["_law_pail_here", "_law_steps_here", "_law_start", "_law_found", "_law_turn", "_law_word", "_law_cut"]
theorem scCut : FnScope nCut ["_law_pail_here", "_law_steps_here", "_law_start"] (defScope sCutW) := ⟨rfl, rfl, rfl, by decide +kernel, rfl, by decide +kernel, by decide +kernel⟩
/-- things that may be asked about -/
def Fine (d : PyData) : Prop := Gd d 10 1000 ∧ topD d ≤ 100
def spCut (K : PySem.W.Frag) : Sp := fun vs H Q _ => ∃ (L : List Addr) (p a : Addr) (t n : Nat) (x : Int) (ps : List (List Int)), vs = [.ref p, .ref a, .int x] ∧ Lk p L H ∧ PailAt H p t ∧ t ≤ 1000 ∧ Tups K H a ps ∧ (∀ p ∈ ps, Pr (n : Int) p) ∧ n ≤ 8 ∧ ps.length ≤ 64 ∧ Beg n ps x ∧
  ∀ (H' : Hp) (D : Addr) (ds : List PyData) (t' : Nat), t' ≤ t + 200 → PailAt H' p t' → But p H H' → H D = none → Pile K H' (D :: L) D ds → ds.length ≤ 4 → (∀ d ∈ ds, Fine d) → Q (.ref D) H'
theorem ok_cut {f fC fO fB fD fF : Addr} {fd dC dO dB dD dF : FuncData} (F : Fun K "_law_cut_words" "_law_cut_words" sCutW f fd) (B : Bare mg) (DC : DefAt K mg "_law_closed" sClosed ["_law_pail_here", "_law_steps_here", "_law_start", "_law_most"] fC dC)
    (DO : DefAt K mg "_law_off" sLOff ["_law_steps_here", "_law_goal"] fO dO) (DB : DefAt K mg "_law_behind" sLBehind ["_law_steps_here", "_law_mark"] fB dB)
    (DD : DefAt K mg "_law_draw" sDraw ["_law_pail_here", "_law_many"] fD dD) (DF : DefAt K mg "_law_of" sOf ["_law_pail_here", "_law_some"] fF dF) :
    FnOk P w K mg base CX0 4 f fd ["_law_pail_here", "_law_steps_here", "_law_start"] (spCut K) := by
  have GC : FnOk P w K mg base CX0 3 fC dC ["_law_pail_here", "_law_steps_here", "_law_start", "_law_most"] (spClosed K) := ok_closed DC.fn B DO DB DD DF
  have GD : FnOk P w K mg base CX0 1 fD dD ["_law_pail_here", "_law_many"] spDraw := ok_draw DD.fn
  refine F.ok scCut (fun vs H Q E h => ?_) (fun cdv A outer s H vs Q E hr h => ?_)
  · obtain ⟨L, p, a, t, n, x, ps, rfl, _⟩ := h
    rfl
  · obtain ⟨L, p, a, t, n, x, ps, rfl, hLk, hp, ht, hTT, hP, n8, hl64, bg, q⟩ := h
    have r1 := hr.mono (show 1 ≤ 3 by decide)
    have two : (2 : Nat) ≤ sizeLine := by decide
    refine ⟨_, pss_cons (ps_set (i := 3) scCut.nd rfl (Or.inl rfl) (pe_lst pa_nil))
      (pss_cons (ps_for PassesOwn.never rfl (pi_range1 (by rfl) B.range (pa_cons pe_int pa_nil)) (pg_name (i := 4) scCut.nd rfl (Or.inl rfl))
        (pss_cons (ps_set (i := 5) scCut.nd rfl (Or.inl rfl) (pe_op op_catW (pe_call GC hr (by rfl) DC.mg DC.fn.kp DC.bi .nil pass0 (pa_cons (pv 0) (pa_cons (pv 1) (pa_cons (pv 2) (pa_cons pe_int pa_nil))))) (pe_call GC hr (by rfl) DC.mg DC.fn.kp DC.bi .nil pass0 (pa_cons (pv 0) (pa_cons (pv 1) (pa_cons (pv 2) (pa_cons pe_int pa_nil)))))))
        (pss_cons (ps_set (i := 6) scCut.nd rfl (Or.inl rfl) (pe_op op_add pe_int (pe_call GD r1 (by rfl) DD.mg DD.fn.kp DD.bi .nil pass0 (pa_cons (pv 0) (pa_cons (pe_op op_sub (pe_callB call_len_seq (by rfl) B.len PySem.boot_len (pa_cons (pv 5) pa_nil)) pe_int) pa_nil)))))
        (pss_one (ps_expr (pe_bm PySem.F.plainAttrs_list PySem.F.slot_list_append PySem.F.type_list_append mt_append (pv 3) (pa_cons (pe_tup
          (pa_cons (pe_tup (pa_cons (pe_op op_add pe_int (pe_call GD r1 (by rfl) DD.mg DD.fn.kp DD.bi .nil pass0 (pa_cons (pv 0) (pa_cons pe_int pa_nil)))) (pa_cons (pe_slice sl_tupW (pv 5) po_none (po_some (pv 6))) pa_nil)))
          (pa_cons (pe_tup (pa_cons (pe_op op_add pe_int (pe_call GD r1 (by rfl) DD.mg DD.fn.kp DD.bi .nil pass0 (pa_cons (pv 0) (pa_cons pe_int pa_nil)))) (pa_cons (pe_slice sl_tupW (pv 5) (po_some (pv 6)) po_none) pa_nil))) pa_nil))) pa_nil)))))))
      (pss_one (ps_ret (pv 3)))), ?_⟩
    refine ⟨Nat.zero_le _, fun D nD => ?_⟩
    have hDp : D ≠ p := pail_ne hp nD
    have sD := same_upd (o := .lst []) nD
    have hL1 : Lk p (D :: L) (upd H D (.lst [])) := (hLk.same sD).add upd_same
    refine ⟨4, rfl, by decide, by decide, ?_⟩
    refine for_range (lo := 0) (n := (4 : Int).toNat) (fun i σ H' => ∃ (y4 y5 y6 : Option V) (ds : List PyData) (t' : Nat), σ = [some (.ref p), some (.ref a), some (.int x), some (.ref D), y4, y5, y6] ∧ But p H H' ∧ PailAt H' p t' ∧ t' ≤ t + 50 * i ∧ Lk p (D :: L) H' ∧ Pile K H' (D :: L) D ds ∧ ds.length = i ∧ ∀ d ∈ ds, Fine d)
      ⟨none, none, none, [], t, rfl, But.of sD, pail_same hp sD, Nat.le_refl _, hL1, Pile.nil nD, rfl, fun d hd => nomatch hd⟩ ?_ ?_
    · rintro i σ H1 hi ⟨y4, y5, y6, ds, t1, rfl, b1, hp1, ht1, hLi, pl1, lds, fn⟩
      have hi4 : i < 4 := hi
      refine ⟨.ref p, rfl, .ref a, rfl, .int x, rfl, p, a, t1, 5, n, x, ps, rfl, hp1, by omega, tups_pail hp b1 hTT, hP, n8, hl64, bg, by decide, by decide, fun H2 T2 ws t2 ht2 hp2 b2 hT2 lp2 nw2 lw2 in2 => ?_⟩
      refine ⟨.ref p, rfl, .ref a, rfl, .int x, rfl, p, a, t2, 5, n, x, ps, rfl, hp2, by omega, tups_pail hp (b1.trans b2) hTT, hP, n8, hl64, bg, by decide, by decide, fun H3 T3 us t3 ht3 hp3 b3 hT3 lp3 nw3 lw3 in3 => ?_⟩
      refine ⟨T2, T3, _, _, rfl, rfl, sqT_pail hp2 b3 hT2, hT3, ?_, fun w4 H4 s4 h4 => ?_⟩
      · rw [List.length_map, List.length_map, sizeLine_eq]; omega
      rw [← List.map_append] at h4
      have lw1 := List.length_pos_iff.mpr nw2
      have lw1' := List.length_pos_iff.mpr nw3
      have inn : ∀ y ∈ ws ++ us, 0 ≤ y ∧ y < 8 := fun y hy => by
        have : 0 ≤ y ∧ y < (n : Int) := (List.mem_append.mp hy).elim (in2 y) (in3 y)
        omega
      have lall : 2 ≤ (ws ++ us).length ∧ (ws ++ us).length ≤ 26 := by rw [List.length_append]; omega
      generalize ws ++ us = zs at h4 inn lall
      have hp4 := pail_same hp3 s4
      have b14 := (b2.trans b3).trans (But.of s4)
      refine ⟨.ref p, rfl, .ref w4, rfl, w4, _, rfl, .inr h4, _, _, rfl, rfl, p, t3, _, rfl, hp4, by omega, by rw [List.length_map]; omega, by rw [List.length_map]; omega, fun c t5 H5 c0 c1 ht5 hp5 b5 => ⟨1, c, rfl, rfl, ?_⟩⟩
      rw [List.length_map] at c1
      obtain ⟨cn, ecn⟩ : ∃ cn : Nat, 1 + c = (cn : Int) := ⟨(1 + c).toNat, by omega⟩
      have h5 := sqT_pail hp4 b5 h4
      obtain ⟨_, vs, eD1, _⟩ := pl1
      have eD5 := (b14.trans b5) _ _ eD1 hDp
      dsimp only
      rw [ecn]
      refine ⟨.ref D, rfl, .inl ⟨rfl, _, lstNew eD5⟩, .ref p, rfl, p, t5, 2, rfl, hp5, by omega, by decide, by decide, fun u1 t6 H6 u10 u11 ht6 hp6 b6 => ⟨1, u1, rfl, rfl, ?_⟩⟩
      have h6 := sqT_pail hp5 b6 h5
      refine ⟨.ref w4, rfl, .int (cn : Int), rfl, _, rfl, w4, _, rfl, h6, fun w7 H7 s7 h7 => ⟨two, fun U1 nU1 => ?_⟩⟩
      rw [cut_to, ← List.map_take] at h7
      have sU1 := same_upd (o := .tup [.int (1 + u1), .ref w7]) nU1
      have hU1 : SqT K (upd H7 U1 (.tup [.int (1 + u1), .ref w7])) U1 [.int (1 + u1), .ref w7] := tupNew upd_same
      have hp8 := pail_same (pail_same hp6 s7) sU1
      have h8 := sqT_same (s7.trans sU1) h6
      have h78 := sqT_same sU1 h7
      dsimp only at hU1 hp8 h8 h78 ⊢
      generalize upd H7 U1 (.tup [.int (1 + u1), .ref w7]) = H8 at sU1 hU1 hp8 h8 h78 ⊢
      refine ⟨.ref p, rfl, p, t6, 2, rfl, hp8, by omega, by decide, by decide, fun u2 t9 H9 u20 u21 ht9 hp9 b9 => ⟨1, u2, rfl, rfl, ?_⟩⟩
      have h9 := sqT_pail hp8 b9 h8
      refine ⟨.ref w4, rfl, .int (cn : Int), rfl, _, rfl, w4, _, rfl, h9, fun wa Ha sa ha => ⟨two, fun U2 nU2 => ⟨two, fun U3 nU3 => ?_⟩⟩⟩
      rw [cut_from, ← List.map_drop] at ha
      dsimp only at nU2 nU3 ⊢
      have sU2 := same_upd (o := .tup [.int (1 + u2), .ref wa]) nU2
      have hU2 : SqT K (upd Ha U2 (.tup [.int (1 + u2), .ref wa])) U2 [.int (1 + u2), .ref wa] := tupNew upd_same
      have sU3 := same_upd (o := .tup [.ref U1, .ref U2]) nU3
      have hU3 : SqT K (upd (upd Ha U2 (.tup [.int (1 + u2), .ref wa])) U3 (.tup [.ref U1, .ref U2])) U3 [.ref U1, .ref U2] := tupNew upd_same
      have s9b := sa.trans (sU2.trans sU3)
      have b8b : But p H8 _ := b9.trans (But.of s9b)
      have gU1 := sqT_pail hp8 b8b hU1
      have gw7 := sqT_pail hp8 b8b h78
      have gU2 := sqT_same sU3 hU2
      have gwa := sqT_same (sU2.trans sU3) ha
      have hpb := pail_same hp9 s9b
      have b5b : But p H5 _ := b6.trans ((But.of (s7.trans sU1)).trans b8b)
      have b1b : But p H1 _ := (b14.trans b5).trans b5b
      generalize upd (upd Ha U2 (.tup [.int (1 + u2), .ref wa])) U3 (.tup [.ref U1, .ref U2]) = Hb at hU3 gU1 gw7 gU2 gwa hpb b5b b1b ⊢
      have hLb := hLi.but b1b hpb
      have eDb := b5b _ _ eD5 hDp
      have plb : Pile K Hb (D :: L) D ds := ⟨List.mem_cons_self .., vs, eDb, DpAll.same (hLi.mono b1b) (by assumption)⟩
      have lvs : vs.length = ds.length := plb.len eDb
      have hring : RingAt K (rmS (D :: L) Hb) U3 [(1 + u1, zs.take cn), (1 + u2, zs.drop cn)] := by
        refine ⟨[(U1, w7, 1 + u1, zs.take cn), (U2, wa, 1 + u2, zs.drop cn)], rfl, rmS_tup hLb.2 hU3, fun k hk => ?_⟩
        simp only [List.mem_cons, List.not_mem_nil, or_false] at hk
        rcases hk with rfl | rfl
        · exact ⟨rmS_tup hLb.2 gU1, rmS_tup hLb.2 gw7⟩
        · exact ⟨rmS_tup hLb.2 gU2, rmS_tup hLb.2 gwa⟩
      have hdp : Dp K (rmS (D :: L) Hb) (.ref U3) (dRg [(1 + u1, zs.take cn), (1 + u2, zs.drop cn)]) := by
        obtain ⟨ks, ek, e1, e2⟩ := hring
        rw [← ek]
        exact .tup e1 (dp_of_runs e2)
      have fine : Fine (dRg [(1 + u1, zs.take cn), (1 + u2, zs.drop cn)]) := by
        refine ⟨(gd_ring (m := 26) (fun r hr => ?_) (by simp)).up (by decide) (by decide), by show 2 ≤ 100; decide⟩
        simp only [List.mem_cons, List.not_mem_nil, or_false] at hr
        rcases hr with rfl | rfl
        · exact ⟨⟨by show 0 ≤ 1 + u1; omega, by show 1 + u1 ≤ 10 ^ 30; omega⟩, fun y hy => inn y (List.mem_of_mem_take hy), by show (zs.take cn).length ≤ 26; rw [List.length_take]; omega⟩
        · exact ⟨⟨by show 0 ≤ 1 + u2; omega, by show 1 + u2 ≤ 10 ^ 30; omega⟩, fun y hy => inn y (List.mem_of_mem_drop hy), by show (zs.drop cn).length ≤ 26; rw [List.length_drop]; omega⟩
      refine ⟨D, _, _, rfl, rfl, eDb, by rw [sizeLine_eq]; omega, ?_⟩
      refine ⟨_, _, _, ds ++ [dRg [(1 + u1, zs.take cn), (1 + u2, zs.drop cn)]], t9, rfl, fun b o e ne => ?_, pail_set hpb hDp, by omega, hLb.set, plb.add eDb hdp, by rw [List.length_append, lds]; rfl, fun d hd => ?_⟩
      · rw [upd_ne (ne_of_none e nD)]; exact (b1.trans b1b) b o e ne
      · rcases List.mem_append.mp hd with z | z
        · exact fn d z
        · rw [List.mem_singleton.mp z]; exact fine
    · rintro σ H1 ⟨y4, y5, y6, ds, t1, rfl, b1, hp1, ht1, hLi, pl1, lds, fn⟩
      refine ⟨.ref D, rfl, q H1 D ds t1 ?_ hp1 b1 nD pl1 ?_ fn⟩
      · have : (4 : Int).toNat = 4 := rfl
        omega
      · have : (4 : Int).toNat = 4 := rfl
        omega
end
end K4
set_option maxHeartbeats 4000000
namespace K4
open PySem PySem.Spec PyProof.Rows L2 RV
section
variable {P : Program} {w : World} {K : PySem.W.Frag} {mg : Str → Option Value} {base : Heap}
/-! ### _law_any_runs -/
abbrev nAny : List Str := ["_law_pail_here", "_law_many", "_law_found", "_law_turn", "_law_word", "_law_at"]
theorem scAny : FnScope nAny ["_law_pail_here", "_law_many"] (defScope sAnyRuns) := ⟨rfl, rfl, rfl, by decide +kernel, rfl, by decide +kernel, by decide +kernel⟩
def spAny (K : PySem.W.Frag) : Sp := fun vs H Q _ => ∃ (L : List Addr) (p : Addr) (t n : Nat), vs = [.ref p, .int (n : Int)] ∧ Lk p L H ∧ PailAt H p t ∧ t ≤ 1500 ∧ 1 ≤ n ∧ n ≤ 8 ∧
  ∀ (H' : Hp) (v : V) (d : PyData) (t' : Nat), t' ≤ t + 20 → PailAt H' p t' → But p H H' → Dp K (rmS L H') v d → Fine d → Q v H'
theorem ok_any {f fD : Addr} {fd dD : FuncData} (F : Fun K "_law_any_runs" "_law_any_runs" sAnyRuns f fd) (B : Bare mg) (DD : DefAt K mg "_law_draw" sDraw ["_law_pail_here", "_law_many"] fD dD) : FnOk P w K mg base CX0 2 f fd ["_law_pail_here", "_law_many"] (spAny K) := by
  have GD : FnOk P w K mg base CX0 1 fD dD ["_law_pail_here", "_law_many"] spDraw := ok_draw DD.fn
  refine F.ok scAny (fun vs H Q E h => ?_) (fun cdv A outer s H vs Q E hr h => ?_)
  · obtain ⟨L, p, t, n, rfl, _⟩ := h
    rfl
  · obtain ⟨L, p, t, n, rfl, hLk, hp, ht, n1, n8, q⟩ := h
    have two : (2 : Nat) ≤ sizeLine := by decide
    refine ⟨_, pss_cons (ps_set (i := 2) scAny.nd rfl (Or.inl rfl) (pe_lst pa_nil))
      (pss_cons (ps_for PassesOwn.never rfl (pi_range1 (by rfl) B.range (pa_cons (pe_op op_add pe_int (pe_call GD hr (by rfl) DD.mg DD.fn.kp DD.bi .nil pass0 (pa_cons (pv 0) (pa_cons pe_int pa_nil)))) pa_nil)) (pg_name (i := 3) scAny.nd rfl (Or.inl rfl))
        (pss_cons (ps_set (i := 4) scAny.nd rfl (Or.inl rfl) (pe_tupleOf (by rfl) B.tuple
          (pe_lc (own := [("_law_at", 5)]) (g := gName 5) (tt := tYes) rfl scAny.nd (pi_range1 (by rfl) B.range (pa_cons (pe_op op_add pe_int (pe_call GD hr (by rfl) DD.mg DD.fn.kp DD.bi .nil pass0 (pa_cons (pv 0) (pa_cons pe_int pa_nil)))) pa_nil)) (blkOk_by (N := nAny) (sc := defScope sAnyRuns) (by decide +kernel)) (fun _ _ _ _ _ => pg_name (i := 5) scAny.nd rfl (Or.inl rfl)) (fun _ _ _ _ _ => pts_nil)
            (fun _ _ _ _ _ => pe_call GD hr (by rfl) DD.mg DD.fn.kp DD.bi .nil pass0 (pa_cons (pv 0) (pa_cons (pv 1) pa_nil))))))
        (pss_one (ps_expr (pe_bm PySem.F.plainAttrs_list PySem.F.slot_list_append PySem.F.type_list_append mt_append (pv 2) (pa_cons (pe_tup (pa_cons (pe_op op_add pe_int (pe_call GD hr (by rfl) DD.mg DD.fn.kp DD.bi .nil pass0 (pa_cons (pv 0) (pa_cons pe_int pa_nil)))) (pa_cons (pv 4) pa_nil))) pa_nil))))))
      (pss_one (ps_ret (pe_tupleOf (by rfl) B.tuple (pv 2))))), ?_⟩
    refine ⟨Nat.zero_le _, fun D nD => ?_⟩
    have hDp : D ≠ p := pail_ne hp nD
    have sD := same_upd (o := .lst []) nD
    have hp1 := pail_same hp sD
    have pl0 : Pile K (upd H D (.lst [])) (D :: L) D [] := Pile.nil nD
    have hL1 : Lk p (D :: L) (upd H D (.lst [])) := (hLk.same sD).add upd_same
    generalize upd H D (.lst []) = H1 at sD hp1 pl0 hL1 ⊢
    refine ⟨.ref p, rfl, p, t, 3, rfl, hp1, by omega, by decide, by decide, fun r t2 H2 r0 r3 ht2 hp2 b2 => ⟨1, r, rfl, rfl, 1 + r, rfl, by omega, by omega, ?_⟩⟩
    have b02 : But p H H2 := (But.of sD).trans b2
    have hL2 := hL1.but b2 hp2
    have pl2 : Pile K H2 (D :: L) D [] := ⟨pl0.1, [], by obtain ⟨_, vs, e1, e2⟩ := pl0; cases e2; exact b2 _ _ e1 hDp, .nil⟩
    refine for_range (lo := 0) (n := (1 + r).toNat) (fun i σ H' => ∃ (y3 y4 y5 : Option V) (rs : List (Int × List Int)) (t' : Nat), σ = [some (.ref p), some (.int (n : Int)), some (.ref D), y3, y4, y5] ∧ But p H H' ∧ PailAt H' p t' ∧ t' ≤ t + 1 + 5 * i ∧ Lk p (D :: L) H' ∧ Pile K H' (D :: L) D (rs.map dRun) ∧ rs.length = i ∧ ∀ r ∈ rs, (0 ≤ r.1 ∧ r.1 ≤ 10 ^ 30) ∧ (∀ x ∈ r.2, 0 ≤ x ∧ x < 8) ∧ r.2.length ≤ 3)
      ⟨none, none, none, [], t2, rfl, b02, hp2, by omega, hL2, pl2, rfl, fun r hr => nomatch hr⟩ ?_ ?_
    · rintro i σ H3 hi ⟨y3, y4, y5, rs, t3, rfl, b3, hp3, ht3, hL3, pl3, lrs, fn⟩
      have hi3 : i < 3 := by omega
      refine ⟨.ref p, rfl, p, t3, 3, rfl, hp3, by omega, by decide, by decide, fun c t4 H4 c0 c3 ht4 hp4 b4 => ⟨1, c, rfl, rfl, 1 + c, rfl, by omega, by omega, fun D2 nD2 => ?_⟩⟩
      have hD2p : D2 ≠ p := pail_ne hp4 nD2
      have s5 := same_upd (o := .lst []) nD2
      obtain ⟨cn, ecn⟩ : ∃ cn : Nat, 1 + c = (cn : Int) := ⟨(1 + c).toNat, by omega⟩
      rw [ecn, Int.toNat_natCast]
      refine lc_range (lo := 0) (n := cn) (fun k H' => But p H4 H' ∧ ∃ (t' : Nat) (xs : List Int), PailAt H' p t' ∧ t' ≤ t4 + k ∧ xs.length = k ∧ (∀ x ∈ xs, 0 ≤ x ∧ x < 8) ∧ H' D2 = some (.lst (xs.map V.int))) ⟨But.of s5, t4, [], pail_same hp4 s5, Nat.le_refl _, rfl, (fun _ z => by cases z), upd_same⟩ (fun k H' hk h => ?_) fun H5 h => ?_
      · obtain ⟨b', t', xs, hp', ht', lx, ix, eD2⟩ := h
        refine ⟨by simp [wipe, List.set_set], tt_yes ⟨.ref p, rfl, .int (n : Int), rfl, p, t', n, rfl, hp', by omega, by omega, by omega, fun y t6 H6 y0 yn ht6 hp6 b6 => ?_⟩⟩
        refine ⟨_, b6 _ _ eD2 hD2p, by rw [List.length_map]; exact few1 (by omega), ?_, t6, xs ++ [y], pail_set hp6 hD2p, by omega, by rw [List.length_append, lx]; rfl, fun x hx => ?_, by rw [upd_same, List.map_append]; rfl⟩
        · exact fun b o e ne => by rw [upd_ne (ne_of_none e nD2)]; exact (b'.trans b6) b o e ne
        · rcases List.mem_append.mp hx with z | z
          · exact ix x z
          · rw [List.mem_singleton.mp z]; omega
      · obtain ⟨b5, t5, xs, hp5, ht5, lx, ix, eD2⟩ := h
        refine .inl ⟨D2, _, rfl, lstNew eD2, fun u nu => ?_⟩
        have su := same_upd (o := .tup (xs.map V.int)) nu
        have hu : SqT K (upd H5 u (.tup (xs.map V.int))) u (xs.map V.int) := tupNew upd_same
        have hp6 := pail_same hp5 su
        have b36 : But p H3 (upd H5 u (.tup (xs.map V.int))) := (b4.trans b5).trans (But.of su)
        generalize upd H5 u (.tup (xs.map V.int)) = H6 at hu hp6 b36 ⊢
        obtain ⟨_, vs, eD3, hA3⟩ := pl3
        have eD6 := b36 _ _ eD3 hDp
        refine ⟨.ref D, rfl, .inl ⟨rfl, _, lstNew eD6⟩, .ref p, rfl, p, t5, 3, rfl, hp6, by omega, by decide, by decide, fun e t7 H7 e0 e3 ht7 hp7 b7 => ⟨1, e, rfl, rfl, .ref u, rfl, two, fun U nU => ?_⟩⟩
        have sU := same_upd (o := .tup [.int (1 + e), .ref u]) nU
        have hU : SqT K (upd H7 U (.tup [.int (1 + e), .ref u])) U [.int (1 + e), .ref u] := tupNew upd_same
        have hp8 := pail_same hp7 sU
        have b68 : But p H6 (upd H7 U (.tup [.int (1 + e), .ref u])) := b7.trans (But.of sU)
        have hu8 := sqT_same sU (sqT_pail hp6 b7 hu)
        dsimp only at hU hp8 b68 hu8 ⊢
        generalize upd H7 U (.tup [.int (1 + e), .ref u]) = H8 at hU hp8 b68 hu8 ⊢
        have hL8 := hL3.but (b36.trans b68) hp8
        have pl8 : Pile K H8 (D :: L) D (rs.map dRun) := ⟨List.mem_cons_self .., vs, (b36.trans b68) _ _ eD3 hDp, DpAll.same (hL3.mono (b36.trans b68)) hA3⟩
        have eD8 := b68 _ _ eD6 hDp
        have lvs : vs.length = rs.length := by
          have := pl8.len eD8
          rwa [List.length_map] at this
        have hdp : Dp K (rmS (D :: L) H8) (.ref U) (dRun (1 + e, xs)) := dp_of_run (k := (U, u, 1 + e, xs)) ⟨rmS_tup hL8.2 hU, rmS_tup hL8.2 hu8⟩
        refine ⟨D, _, _, rfl, rfl, eD8, by rw [sizeLine_eq]; omega, ?_⟩
        refine ⟨_, _, _, rs ++ [(1 + e, xs)], t7, rfl, fun b o z ne => ?_, pail_set hp8 hDp, by omega, hL8.set, ?_, by rw [List.length_append, lrs]; rfl, fun r hr => ?_⟩
        · rw [upd_ne (ne_of_none z nD)]; exact (b3.trans (b36.trans b68)) b o z ne
        · rw [List.map_append]; exact pl8.add eD8 hdp
        · rcases List.mem_append.mp hr with z | z
          · exact fn r z
          · rw [List.mem_singleton.mp z]
            exact ⟨⟨by show 0 ≤ 1 + e; omega, by show 1 + e ≤ 10 ^ 30; omega⟩, ix, by show xs.length ≤ 3; omega⟩
    · rintro σ H3 ⟨y3, y4, y5, rs, t3, rfl, b3, hp3, ht3, hL3, pl3, lrs, fn⟩
      obtain ⟨_, vs, eD, hA⟩ := pl3
      refine ⟨.ref D, rfl, .inl ⟨D, _, rfl, lstNew eD, fun u nu => ?_⟩⟩
      have su := same_upd (o := .tup vs) nu
      have hp4 := pail_same hp3 su
      refine q _ (.ref u) (dRg rs) t3 (by omega) hp4 (b3.trans (But.of su)) (.tup (rmS_tup (hLk.but (b3.trans (But.of su)) hp4).2 (tupNew upd_same)) (DpAll.same (rmS_less.trans (rmS_mono su)) hA)) ⟨(gd_ring (m := 3) fn (by omega)).up (by decide) (by decide), ?_⟩
      show (rs.map dRun).length ≤ 100
      rw [List.length_map]; omega
end
end K4
set_option maxHeartbeats 4000000
namespace K4
open PySem PySem.Spec PyProof.Rows L2 RV TL
theorem RuleAt.pail {K : PySem.W.Frag} {C : Addr} {H H' : Hp} {p r : Addr} {t : Nat} {ns : List Int} {ps : List (List Int)} (h : RuleAt K C H r ns ps) (hp : PailAt H p t) (b : But p H H') : RuleAt K C H' r ns ps := by
  obtain ⟨dx, a, b0, t0, h1, h2, h3, h4⟩ := h.ex
  refine ⟨dx, a, b0, t0, b _ _ h1 fun z => ?_, sqT_pail hp b h2, tups_pail hp b h3, tups_pail hp b h4⟩
  obtain ⟨x, y, e, _⟩ := hp
  rw [z, e] at h1; cases h1
/-! ### a ring as data -/
theorem ints_id (w : List Int) : intsD (RV.dI w) = w := by
  show (w.map PyData.int).map RV.intD = w
  rw [List.map_map]
  exact map_id_of fun x _ => rfl
theorem one_id (r : Int × List Int) : oneD (dRun r) = r := by
  show (RV.intD (.int r.1), intsD (RV.dI r.2)) = r
  rw [ints_id]; rfl
theorem rs_id (rs : List (Int × List Int)) : rsD (dRg rs) = rs := by
  show (rs.map dRun).map oneD = rs
  rw [List.map_map]
  exact map_id_of fun r _ => one_id r
theorem marks_ok {n : Int} {w : List Int} (ne : w ≠ []) (h : ∀ x ∈ w, 0 ≤ x ∧ x < n) : marksD n (RV.dI w) = true := by
  show (decide (0 < (w.map PyData.int).length) && (w.map PyData.int).all (belowD n)) = true
  rw [List.length_map, decide_eq_true (List.length_pos_iff.mpr ne), Bool.true_and, List.all_eq_true]
  intro e he
  obtain ⟨x, hx, rfl⟩ := List.mem_map.mp he
  show (decide (0 ≤ x) && decide (x < n)) = true
  rw [decide_eq_true (h x hx).1, decide_eq_true (h x hx).2]; rfl
theorem form_ok {n : Int} {rs : List (Int × List Int)} (ne : rs ≠ []) (rn : Rn rs) (h : ∀ r ∈ rs, ∀ x ∈ r.2, 0 ≤ x ∧ x < n) : formD n (dRg rs) = true := by
  show (decide (0 < (rs.map dRun).length) && (rs.map dRun).all (runD n)) = true
  rw [List.length_map, decide_eq_true (List.length_pos_iff.mpr ne), Bool.true_and, List.all_eq_true]
  intro e he
  obtain ⟨r, hr, rfl⟩ := List.mem_map.mp he
  show (decide (1 ≤ r.1) && marksD n (RV.dI r.2)) = true
  rw [decide_eq_true (rn r hr).1, marks_ok (rn r hr).2 (h r hr)]; rfl
theorem ring_ok {ns : List Int} {ps : List (List Int)} {x : Int} {rs : List (Int × List Int)} (lr : Lr (ns.length : Int) ps x rs) (ne : rs ≠ []) : ringD ps ns.length (dRg rs) = true := by
  unfold ringD
  rw [form_ok ne lr.rn lr.inn, Bool.true_and, rs_id, List.all_eq_true]
  intro p hp
  exact decide_eq_true (nbs_in lr.rn (lr.loop.cyc (mk_ne lr.rn ne)) p hp)
theorem lv_ring {rs : List (Int × List Int)} (h : ∀ r ∈ rs, (0 ≤ r.1 ∧ r.1 ≤ 10 ^ 30) ∧ ∀ x ∈ r.2, 0 ≤ x ∧ x < 8) : LvN 4 (dRg rs) := by
  refine .inr ⟨_, rfl, fun e he => ?_⟩
  obtain ⟨r, hr, rfl⟩ := List.mem_map.mp he
  have z := h r hr
  refine .inr ⟨_, rfl, fun e he => ?_⟩
  simp only [List.mem_cons, List.not_mem_nil, or_false] at he
  rcases he with rfl | rfl
  · exact .inl ⟨r.1, rfl, z.1.1, by have := z.1.2; omega⟩
  · refine .inr ⟨_, rfl, fun e he => ?_⟩
    obtain ⟨x, hx, rfl⟩ := List.mem_map.mp he
    have := z.2 x hx
    exact .inl ⟨x, rfl, this.1, by omega⟩
theorem ring_dp {K : PySem.W.Frag} {H : Hp} {L : List Addr} {a : Addr} {rs : List (Int × List Int)} (hL : Lis L H) (h : RingAt K H a rs) : Dp K (rmS L H) (.ref a) (dRg rs) := by
  obtain ⟨ks, rfl, h1, h2⟩ := h
  exact .tup (rmS_tup hL h1) (dp_of_runs fun k hk => ⟨rmS_tup hL (h2 k hk).1, rmS_tup hL (h2 k hk).2⟩)
/-! ### things asked about -/
/-- as Fine, an empty dict too; and repr writes it -/
def FineZ (d : PyData) : Prop := (d = .dict [] ∨ Gd d 60 1000) ∧ d.bulk ≤ 1000 ∧ topD d ≤ 100 ∧ TopS d
theorem Gd.fine {d : PyData} {n : Nat} (h : Gd d n 1000) (hn : n ≤ 60) (ht : topD d ≤ 100) : FineZ d := by
  refine ⟨.inr (h.up hn (Nat.le_refl _)), h.bk, ht, ?_⟩
  have sh := h.shows (by omega) (by omega)
  cases d with
  | int i =>
    have z := h.sh
    simp only [PyData.showable] at z
    show i.natAbs.log2 < 1920
    exact of_decide_eq_true z
  | str x =>
    have z := h.lay
    simp only [PyData.canLay0] at z
    unfold PyData.strOk at z
    rw [Array.all_eq_true_iff_forall_mem] at z
    have hl : x.length ≤ 1000 := h.bk
    have z2 := PySem.StrLaws.reprText_len x fun c hc => by
      have := z c (Array.mem_toList_iff.mp hc)
      simp only [decide_eq_true_eq] at this
      omega
    show (reprText x).length ≤ sizeLine
    rw [sizeLine_eq]; omega
  | none => trivial
  | bool b => trivial
  | list ds => exact sh
  | tuple ds => exact sh
  | dict ds => trivial
theorem Fine.z {d : PyData} (h : Fine d) : FineZ d := Gd.fine h.1 (by decide) h.2
/-! ### the things gathered -/
theorem tups_setL {K : PySem.W.Frag} {H : Hp} {D a : Addr} {ys : List V} {o : HO} {ps : List (List Int)} (e : H D = some (.lst ys)) (h : Tups K H a ps) : Tups K (upd H D o) a ps :=
  let ⟨ks, h1, h2, h3⟩ := h; ⟨ks, h1, sqT_setL e h2, fun k hk => sqT_setL e (h3 k hk)⟩
theorem rule_setL {K : PySem.W.Frag} {C : Addr} {H : Hp} {D r : Addr} {ys : List V} {o : HO} {ns : List Int} {ps : List (List Int)} (e : H D = some (.lst ys)) (h : RuleAt K C H r ns ps) : RuleAt K C (upd H D o) r ns ps := by
  obtain ⟨dx, a, b0, t0, h1, h2, h3, h4⟩ := h.ex
  refine ⟨dx, a, b0, t0, ?_, sqT_setL e h2, tups_setL e h3, tups_setL e h4⟩
  rw [upd_ne fun z => by rw [z, e] at h1; cases h1]; exact h1
/-- where the law stands: its rule, its steps, its pail, the things so far -/
structure Stat (K : PySem.W.Frag) (C p S r c : Addr) (ns : List Int) (ps : List (List Int)) (H : Hp) (t : Nat) (ds : List PyData) : Prop where
  R : RuleAt K C H r ns ps
  U : Tups K H c ps
  hp : PailAt H p t
  L : Lk p [S, p] H
  pl : Pile K H [S, p] S ds
  ne : S ≠ p
theorem Stat.join {K : PySem.W.Frag} {C p S r c D : Addr} {ns : List Int} {ps : List (List Int)} {H HA : Hp} {t t' : Nat} {ds es : List PyData} {us : List V} (h : Stat K C p S r c ns ps H t ds) (nD : H D = none) (b : But p H HA) (hpA : PailAt HA p t') (hD : DpAll K (rmS [D, S, p] HA) us es) :
    ∃ vs, HA S = some (.lst vs) ∧ vs.length = ds.length ∧ Stat K C p S r c ns ps (upd HA S (.lst (vs ++ us))) t' (ds ++ es) := by
  obtain ⟨_, vs, e1, hA⟩ := h.pl
  have eA := b _ _ e1 h.ne
  have s : Same (rmS [D, S, p] H) (rmS [D, S, p] HA) := rmS_but fun x o e nc => b x o e fun z => nc (by rw [z]; simp)
  have hA' : DpAll K (rmS [D, S, p] HA) vs ds := DpAll.same ((rmS_more nD).trans s) hA
  have LA := h.L.but b hpA
  exact ⟨vs, eA, DpAll.len hA, ⟨rule_setL eA (h.R.pail h.hp b), tups_setL eA (tups_pail h.hp b h.U), pail_set hpA h.ne, LA.set, pile_join (List.mem_cons_self ..) hA' hD, h.ne⟩⟩
theorem Stat.same {K : PySem.W.Frag} {C p S r c : Addr} {ns : List Int} {ps : List (List Int)} {H H' : Hp} {t : Nat} {ds : List PyData} (h : Stat K C p S r c ns ps H t ds) (s : Same H H') : Stat K C p S r c ns ps H' t ds :=
  ⟨h.R.same s, h.U.same s, pail_same h.hp s, h.L.same s, h.pl.same s, h.ne⟩
/-! ### the things by hand -/
def wText : Str := Str.ofString "1*0"
theorem w_low : ∀ c ∈ TL.tl wText, c < 256 := by decide
theorem g_t0 : Gd (.tuple []) 1 0 := gd_tup.mpr ⟨(fun e he => by cases he), by simp [PyData.bulkAll]⟩
theorem g_l0 : Gd (.list []) 1 0 := gd_lst.mpr ⟨(fun e he => by cases he), by simp [PyData.bulkAll]⟩
theorem g_tup {ds : List PyData} {n m : Nat} (h : ∀ e ∈ ds, Gd e n m) (hl : (m + 1) * ds.length ≤ 1000) : Gd (.tuple ds) (n + 1) 1000 := by
  have z := bulk_le fun e he => (h e he).bk
  refine gd_tup.mpr ⟨fun e he => (h e he).up (Nat.le_refl _) ?_, by omega⟩
  have hl1 := List.length_pos_of_mem he
  have := Nat.mul_le_mul_left (m + 1) hl1
  omega
theorem g_lst {ds : List PyData} {n m : Nat} (h : ∀ e ∈ ds, Gd e n m) (hl : (m + 1) * ds.length ≤ 1000) : Gd (.list ds) (n + 1) 1000 := by
  have z := bulk_le fun e he => (h e he).bk
  refine gd_lst.mpr ⟨fun e he => (h e he).up (Nat.le_refl _) ?_, by omega⟩
  have hl1 := List.length_pos_of_mem he
  have := Nat.mul_le_mul_left (m + 1) hl1
  omega
theorem g_int (i : Int) (h : i.natAbs < 10 ^ 40) (n m : Nat) : Gd (.int i) n m := (gd_int h).up (Nat.zero_le _) (Nat.zero_le _)
/-- a pair of a number and a thing -/
theorem g_pair {d : PyData} {n m : Nat} (i : Int) (h : i.natAbs < 10 ^ 40) (g : Gd d n m) : Gd (.tuple [.int i, d]) (n + 1) (m + 2) := by
  refine gd_tup.mpr ⟨fun e he => ?_, ?_⟩
  · simp only [List.mem_cons, List.not_mem_nil, or_false] at he
    rcases he with rfl | rfl
    · exact g_int i h _ _
    · exact g.up (Nat.le_refl _) (by omega)
  · show PyData.bulkAll ([PyData.int i] ++ [d]) ≤ _
    rw [bulk_app, bulk_one, bulk_one]
    have b0 : (PyData.int i).bulk = 0 := by simp [PyData.bulk]
    have := g.bk
    omega
theorem g_ones {i : Int} (h : i.natAbs < 10 ^ 40) : Gd (.tuple [.int i]) 1 1 := gd_tup.mpr ⟨fun e he => by rw [List.mem_singleton.mp he]; exact g_int i h _ _, by rw [bulk_one]; simp [PyData.bulk]⟩
theorem g_onel {i : Int} (h : i.natAbs < 10 ^ 40) : Gd (.list [.int i]) 1 1 := gd_lst.mpr ⟨fun e he => by rw [List.mem_singleton.mp he]; exact g_int i h _ _, by rw [bulk_one]; simp [PyData.bulk]⟩
def byHand : List PyData := [.none, .bool true, .int 0, .str wText, .list [], .dict [], .tuple [], .tuple [.tuple []], .tuple [.tuple [.int 1, .tuple []]], .tuple [.tuple [.int 1, .list [.int 0]]], .list [.tuple [.int 1, .tuple [.int 0]]], .tuple [.int 1, .tuple [.int 0]]]
theorem fz_hand : ∀ d ∈ byHand, FineZ d := by
  have i1 : (1 : Int).natAbs < 10 ^ 40 := by decide
  have i0 : (0 : Int).natAbs < 10 ^ 40 := by decide
  intro d hd
  unfold byHand at hd
  simp only [List.mem_cons, List.not_mem_nil, or_false] at hd
  rcases hd with rfl | rfl | rfl | rfl | rfl | rfl | rfl | rfl | rfl | rfl | rfl | rfl
  · exact Gd.fine (gd_none.up (Nat.zero_le 0) (Nat.zero_le _)) (by decide) (Nat.zero_le _)
  · exact Gd.fine ((gd_bool true).up (Nat.zero_le 0) (Nat.zero_le _)) (by decide) (Nat.zero_le _)
  · exact Gd.fine (g_int 0 i0 0 1000) (by decide) (Nat.zero_le _)
  · exact Gd.fine (n := 0) (gd_str w_low (by decide)) (by decide) (Nat.zero_le _)
  · exact Gd.fine (g_l0.up (Nat.le_refl 1) (Nat.zero_le _)) (by decide) (Nat.zero_le _)
  · exact ⟨.inl rfl, by simp [PyData.bulk, PyData.bulkKv], Nat.zero_le _, trivial⟩
  · exact Gd.fine (g_t0.up (Nat.le_refl 1) (Nat.zero_le _)) (by decide) (Nat.zero_le _)
  · exact Gd.fine (g_tup (n := 1) (m := 0) (fun e he => by rw [List.mem_singleton.mp he]; exact g_t0) (by decide)) (by decide) (by show 1 ≤ 100; decide)
  · exact Gd.fine (g_tup (n := 2) (m := 2) (fun e he => by rw [List.mem_singleton.mp he]; exact g_pair 1 i1 g_t0) (by decide)) (by decide) (by show 1 ≤ 100; decide)
  · exact Gd.fine (g_tup (n := 2) (m := 3) (fun e he => by rw [List.mem_singleton.mp he]; exact g_pair 1 i1 (g_onel i0)) (by decide)) (by decide) (by show 1 ≤ 100; decide)
  · exact Gd.fine (g_lst (n := 2) (m := 3) (fun e he => by rw [List.mem_singleton.mp he]; exact g_pair 1 i1 (g_ones i0)) (by decide)) (by decide) (Nat.zero_le _)
  · exact Gd.fine ((g_pair 1 i1 (g_ones i0)).up (Nat.le_refl 2) (by decide)) (by decide) (by show 2 ≤ 100; decide)
end K4
set_option maxHeartbeats 4000000
namespace K4
open PySem PySem.Spec PyProof.Rows L2 RV
section
variable {P : Program} {w : World} {K : PySem.W.Frag} {mg : Str → Option Value} {base : Heap}
/-! ### law -/
abbrev nLaw : List Str := ["_law_script", "_law_k", "_law_pail_here", "_law_mirrors_here", "_law_steps_here", "_law_rule", "_law_many", "_law_some", "_law_starts_here", "_law_ring", "_law_thing", "_law_kept", "_law_turn", "_law_mark"]
theorem scLaw : FnScope nLaw ["_law_script"] (defScope sLaw) := ⟨rfl, rfl, rfl, by decide +kernel, rfl, by decide +kernel, by decide +kernel⟩
def spLaw (K : PySem.W.Frag) : Sp := fun vs H Q _ => ∃ (a : Addr) (ns : List Int), vs = [.ref a] ∧ SqL K H a (ns.map V.int) ∧ ns.length ≤ 63 ∧ ∀ H', Q (.bl true) H'
structure LDefs (K : PySem.W.Frag) (mg : Str → Option Value) (fP fD fO fM fS fF fB fT fC fR fN fU fA fE fW : Addr) (dP dD dO dM dS dF dB dT dC dR dN dU dA dE dW : FuncData) : Prop where
  pail : DefAt K mg "_law_pail" sPail ["_law_script", "_law_at"] fP dP
  draw : DefAt K mg "_law_draw" sDraw ["_law_pail_here", "_law_many"] fD dD
  of : DefAt K mg "_law_of" sOf ["_law_pail_here", "_law_some"] fO dO
  mirrors : DefAt K mg "_law_mirrors" sDMirrors ["_law_pail_here", "_law_many"] fM dM
  steps : DefAt K mg "_law_steps" sDSteps ["_law_pail_here", "_law_mirrors_here"] fS dS
  off : DefAt K mg "_law_off" sLOff ["_law_steps_here", "_law_goal"] fF dF
  behind : DefAt K mg "_law_behind" sLBehind ["_law_steps_here", "_law_mark"] fB dB
  starts : DefAt K mg "_law_starts" sLStarts ["_law_steps_here", "_law_many"] fT dT
  closed : DefAt K mg "_law_closed" sClosed ["_law_pail_here", "_law_steps_here", "_law_start", "_law_most"] fC dC
  runs : DefAt K mg "_law_runs" sRuns ["_law_pail_here", "_law_steps_here", "_law_start", "_law_few"] fR dR
  bent : DefAt K mg "_law_bent" sBent ["_law_pail_here", "_law_thing"] fN dN
  cut : DefAt K mg "_law_cut_words" sCutW ["_law_pail_here", "_law_steps_here", "_law_start"] fU dU
  any : DefAt K mg "_law_any_runs" sAnyRuns ["_law_pail_here", "_law_many"] fA dA
  due : DefAt K mg "_law_due" sDue ["_law_thing", "_law_many", "_law_steps_here"] fE dE
  odd : DefAt K mg "_law_odd" sOdd ["_law_pail_here", "_law_thing"] fW dW
variable {C fP fD fO fM fS fF fB fT fC fR fN fU fA fE fW fI fX : Addr} {dP dD dO dM dS dF dB dT dC dR dN dU dA dE dW dI dX : FuncData}
theorem ok_law {f : Addr} {fd : FuncData} (F : Fun K "law" "law" sLaw f fd) (T : Txt K mg C) (B : Bare mg) (MK : Mk K C fI) (bI : Binds K dI ["self", "mirrors", "steps"] []) (GI : FnOk P w K mg base CX0 6 fI dI ["self", "mirrors", "steps"] (spInit K C))
    (L : LDefs K mg fP fD fO fM fS fF fB fT fC fR fN fU fA fE fW dP dD dO dM dS dF dB dT dC dR dN dU dA dE dW) (GE : FnOk P w K mg base CX0 3 fE dE ["_law_thing", "_law_many", "_law_steps_here"] (spDue K))
    (DX : DefAt K mg "is_ring" sIsRing ["rule", "thing"] fX dX) (GX : FnOk P w K mg base CX0 5 fX dX ["rule", "thing"] (spIsRingD K C)) : FnG P w K mg base CX0 9 f fd ["_law_script"] (spLaw K) := by
  have GP : FnOk P w K mg base CX0 1 fP dP ["_law_script", "_law_at"] (spPail K) := ok_pail L.pail.fn B
  have GD : FnOk P w K mg base CX0 1 fD dD ["_law_pail_here", "_law_many"] spDraw := ok_draw L.draw.fn
  have GO : FnOk P w K mg base CX0 2 fO dO ["_law_pail_here", "_law_some"] (spOf K) := ok_of L.of.fn L.draw B
  have GM : FnOk P w K mg base CX0 2 fM dM ["_law_pail_here", "_law_many"] (spDMirrors K) := ok_dmirrors L.mirrors.fn L.draw B
  have GS : FnOk P w K mg base CX0 3 fS dS ["_law_pail_here", "_law_mirrors_here"] (spDSteps K) := ok_dsteps L.steps.fn L.draw L.of B
  have GT : FnOk P w K mg base CX0 2 fT dT ["_law_steps_here", "_law_many"] (spStarts K) := ok_starts L.starts.fn B L.off L.behind
  have GR : FnOk P w K mg base CX0 4 fR dR ["_law_pail_here", "_law_steps_here", "_law_start", "_law_few"] (spRuns K) := ok_runs L.runs.fn B L.closed L.off L.behind L.draw L.of
  have GN : FnOk P w K mg base CX0 7 fN dN ["_law_pail_here", "_law_thing"] (spB K 4) := ok_bent L.bent L.draw L.odd L.of B 4
  have GU : FnOk P w K mg base CX0 4 fU dU ["_law_pail_here", "_law_steps_here", "_law_start"] (spCut K) := ok_cut L.cut.fn B L.closed L.off L.behind L.draw L.of
  have GA : FnOk P w K mg base CX0 2 fA dA ["_law_pail_here", "_law_many"] (spAny K) := ok_any L.any.fn B L.draw
  refine okG F scLaw (fun vs H Q E h => ?_) (fun cdv A outer s H vs Q E gd hr h => ?_)
  · obtain ⟨a, ns, rfl, _⟩ := h
    rfl
  · obtain ⟨a, cs, rfl, hS, hlen, q⟩ := h
    have r1 := hr.mono (show 1 ≤ 8 by decide)
    have r2 := hr.mono (show 2 ≤ 8 by decide)
    have r3 := hr.mono (show 3 ≤ 8 by decide)
    have r4 := hr.mono (show 4 ≤ 8 by decide)
    have r5 := hr.mono (show 5 ≤ 8 by decide)
    have r7 := hr.mono (show 7 ≤ 8 by decide)
    have hu := un65 hr
    have one : (1 : Nat) ≤ sizeLine := by decide
    have two : (2 : Nat) ≤ sizeLine := by decide
    have three : (3 : Nat) ≤ sizeLine := by decide
    refine ⟨_, pss_cons (ps_for PassesOwn.never rfl (pi_range1 (by rfl) B.range (pa_cons (pe_callB (call_max2 rfl) (by rfl) B.max (by decide +kernel) (pa_cons pe_int (pa_cons (pe_callB (call_min2 rfl) (by rfl) B.min (by decide +kernel) (pa_cons pe_int (pa_cons (pe_callB call_len_seq (by rfl) B.len PySem.boot_len (pa_cons (pv 0) pa_nil)) pa_nil))) pa_nil))) pa_nil)) (pg_name (i := 1) scLaw.nd rfl (Or.inl rfl))
        (pss_cons (ps_set (i := 2) scLaw.nd rfl (Or.inr rfl) (pe_call GP r1 (by rfl) L.pail.mg L.pail.fn.kp L.pail.bi .nil pass0 (pa_cons (pv 0) (pa_cons (pv 1) pa_nil))))
        (pss_cons (ps_set (i := 3) scLaw.nd rfl (Or.inl rfl) (pe_call GM r2 (by rfl) L.mirrors.mg L.mirrors.fn.kp L.mirrors.bi .nil pass0 (pa_cons (pv 2) (pa_cons (pe_op op_add pe_int (pe_call GD r1 (by rfl) L.draw.mg L.draw.fn.kp L.draw.bi .nil pass0 (pa_cons (pv 2) (pa_cons pe_int pa_nil)))) pa_nil))))
        (pss_cons (ps_set (i := 4) scLaw.nd rfl (Or.inl rfl) (pe_call GS r3 (by rfl) L.steps.mg L.steps.fn.kp L.steps.bi .nil pass0 (pa_cons (pv 2) (pa_cons (pv 3) pa_nil))))
        (pss_cons (ps_asg (pe_tup (pa_cons (pe_make MK GI r7 (by rfl) T.mgC bI .nil pass0 (pa_cons (pv 3) (pa_cons (pv 4) pa_nil))) (pa_cons (pe_callB call_len_seq (by rfl) B.len PySem.boot_len (pa_cons (pv 3) pa_nil)) (pa_cons (pe_lst pa_nil) pa_nil))))
          (pg_tup rfl (pgs_cons (pg_name (i := 5) scLaw.nd rfl (Or.inl rfl)) (pgs_cons (pg_name (i := 6) scLaw.nd rfl (Or.inr rfl)) (pgs_cons (pg_name (i := 7) scLaw.nd rfl (Or.inl rfl)) pgs_nil)))))
        (pss_cons (ps_set (i := 8) scLaw.nd rfl (Or.inl rfl) (pe_call GT r2 (by rfl) L.starts.mg L.starts.fn.kp L.starts.bi .nil pass0 (pa_cons (pv 4) (pa_cons (pv 6) pa_nil))))
        (pss_cons (ps_if (pt_cmpR (op_neD hr.units) (pv 8) (pe_lst pa_nil) (nomark _))
          (pss_cons (ps_set (i := 9) scLaw.nd rfl (Or.inr rfl) (pe_call GR r4 (by rfl) L.runs.mg L.runs.fn.kp L.runs.bi .nil pass0 (pa_cons (pv 2) (pa_cons (pv 4) (pa_cons (pe_call GO r2 (by rfl) L.of.mg L.of.fn.kp L.of.bi .nil pass0 (pa_cons (pv 2) (pa_cons (pv 8) pa_nil))) (pa_cons pe_int pa_nil))))))
          (pss_cons (ps_if (pt_cmpR op_notBl (pe_call GX r5 (by rfl) DX.mg DX.fn.kp DX.bi .nil pass0 (pa_cons (pv 5) (pa_cons (pv 9) pa_nil))) pe_bl (nomark _)) (pss_one (ps_ret pe_bl)) pss_nil)
          (pss_one (ps_set (i := 7) scLaw.nd rfl (Or.inl rfl) (pe_op op_cat
            (pe_lc (own := [("_law_turn", 12)]) (g := gName 12) (tt := tYes) rfl scLaw.nd (pi_range1 (by rfl) B.range (pa_cons pe_int pa_nil)) (blkOk_by (N := nLaw) (sc := defScope sLaw) (by decide +kernel)) (fun _ _ _ _ _ => pg_name (i := 12) scLaw.nd rfl (Or.inl rfl)) (fun _ _ _ _ _ => pts_nil)
              (fun _ _ _ _ _ => pe_call GN r7 (by rfl) L.bent.mg L.bent.fn.kp L.bent.bi .nil pass0 (pa_cons (pv 2) (pa_cons (pv 9) pa_nil))))
            (pe_call GU r4 (by rfl) L.cut.mg L.cut.fn.kp L.cut.bi .nil pass0 (pa_cons (pv 2) (pa_cons (pv 4) (pa_cons (pe_ix ix_tup (pe_ix ix_tup (pe_ix ix_tup (pv 9) pe_int (fun _ _ => rfl)) pe_int (fun _ _ => rfl)) pe_int (fun _ _ => rfl)) pa_nil))))))))) pss_nil)
        (pss_cons (ps_expr (pe_bm PySem.F.plainAttrs_list PySem.F.slot_list_extend PySem.F.type_list_extend mt_extend (pv 7) (pa_cons
            (pe_lc (own := [("_law_turn", 12)]) (g := gName 12) (tt := tYes) rfl scLaw.nd (pi_range1 (by rfl) B.range (pa_cons pe_int pa_nil)) (blkOk_by (N := nLaw) (sc := defScope sLaw) (by decide +kernel)) (fun _ _ _ _ _ => pg_name (i := 12) scLaw.nd rfl (Or.inl rfl)) (fun _ _ _ _ _ => pts_nil)
              (fun _ _ _ _ _ => pe_call GA r2 (by rfl) L.any.mg L.any.fn.kp L.any.bi .nil pass0 (pa_cons (pv 2) (pa_cons (pv 6) pa_nil)))) pa_nil)))
        (pss_cons (ps_expr (pe_bm PySem.F.plainAttrs_list PySem.F.slot_list_extend PySem.F.type_list_extend mt_extend (pv 7) (pa_cons
            (pe_lc (own := [("_law_mark", 13)]) (g := gName 13) (tt := tYes) rfl scLaw.nd (pi_range1 (by rfl) B.range (pa_cons (pv 6) pa_nil)) (blkOk_by (N := nLaw) (sc := defScope sLaw) (by decide +kernel)) (fun _ _ _ _ _ => pg_name (i := 13) scLaw.nd rfl (Or.inl rfl)) (fun _ _ _ _ _ => pts_nil)
              (fun _ _ _ _ _ => pe_tup (pa_cons (pe_tup (pa_cons pe_int (pa_cons (pe_tup (pa_cons (pv 13) pa_nil)) pa_nil))) pa_nil))) pa_nil)))
        (pss_cons (ps_expr (pe_bm PySem.F.plainAttrs_list PySem.F.slot_list_extend PySem.F.type_list_extend mt_extend (pv 7) (pa_cons
            (pe_lst (pa_cons pe_non (pa_cons pe_bl (pa_cons pe_int (pa_cons pe_str (pa_cons (pe_lst pa_nil) (pa_cons pe_dnewK (pa_cons (pe_tup pa_nil) (pa_cons (pe_tup (pa_cons (pe_tup pa_nil) pa_nil)) (pa_cons (pe_tup (pa_cons (pe_tup (pa_cons pe_int (pa_cons (pe_tup pa_nil) pa_nil))) pa_nil))
              (pa_cons (pe_tup (pa_cons (pe_tup (pa_cons pe_int (pa_cons (pe_lst (pa_cons pe_int pa_nil)) pa_nil))) pa_nil)) (pa_cons (pe_lst (pa_cons (pe_tup (pa_cons pe_int (pa_cons (pe_tup (pa_cons pe_int pa_nil)) pa_nil))) pa_nil)) (pa_cons (pe_tup (pa_cons pe_int (pa_cons (pe_tup (pa_cons pe_int pa_nil)) pa_nil))) pa_nil))))))))))))) pa_nil)))
        (pss_one (ps_for PassesOwn.never rfl (pi_list (pv 7)) (pg_name (i := 10) scLaw.nd rfl (Or.inl rfl))
          (pss_cons (ps_set (i := 11) scLaw.nd rfl (Or.inl rfl) (pe_callB (call_reprZ gd hu) (by rfl) B.repr (by decide +kernel) (pa_cons (pv 10) pa_nil)))
          (pss_one (ps_if (PW.pt (pw_or (pt_cmpR op_ne (pe_callB (call_reprZ gd hu) (by rfl) B.repr (by decide +kernel) (pa_cons (pe_call GX r5 (by rfl) DX.mg DX.fn.kp DX.bi .nil pass0 (pa_cons (pv 5) (pa_cons (pv 10) pa_nil))) pa_nil))
              (pe_callB (call_reprZ gd hu) (by rfl) B.repr (by decide +kernel) (pa_cons (pe_call GE r3 (by rfl) L.due.mg L.due.fn.kp L.due.bi .nil pass0 (pa_cons (pv 10) (pa_cons (pv 6) (pa_cons (pv 4) pa_nil)))) pa_nil)) (nomark _))
            (pw_or1 (pt_cmpR op_ne (pe_callB (call_reprZ gd hu) (by rfl) B.repr (by decide +kernel) (pa_cons (pv 10) pa_nil)) (pv 11) (nomark _))))) (pss_one (ps_ret pe_bl)) pss_nil)))))))))))))))
      (pss_one (ps_ret pe_bl)), ?_⟩
    refine ⟨.ref a, rfl, a, _, rfl, .inl hS, 3, _, rfl, 1, _, rfl, ?_⟩
    have vb : ∀ n : Int, 0 ≤ n → n ≤ 63 → 1 ≤ (if (if n < 3 then n else 3) > 1 then (if n < 3 then n else 3) else 1) ∧ (if (if n < 3 then n else 3) > 1 then (if n < 3 then n else 3) else 1) ≤ 3 := fun n _ _ => by
      split <;> split <;> omega
    have vb1 := vb ((cs.map V.int).length : Int) (by omega) (by rw [List.length_map]; omega)
    refine ⟨_, rfl, by omega, by omega, ?_⟩
    refine for_range (lo := 0) (n := _) (fun i σ H' => ∃ (y1 y2 y3 y4 y5 y6 y7 y8 y9 y10 y11 y12 y13 : Option V), σ = [some (.ref a), y1, y2, y3, y4, y5, y6, y7, y8, y9, y10, y11, y12, y13] ∧ Same H H')
      ⟨none, none, none, none, none, none, none, none, none, none, none, none, none, rfl, Same.refl H⟩ ?_ ?_
    · rintro i σ H1 hi ⟨y1, y2, y3, y4, y5, y6, y7, y8, y9, y10, y11, y12, y13, rfl, s1⟩
      have hi3 : i < 64 := by omega
      refine ⟨.ref a, rfl, .int (0 + (i : Nat)), rfl, a, cs, i, by rw [Int.zero_add]; rfl, s1.seq hS, hi3, fun H2 p s2 np hp2 => ?_⟩
      -- mirrors
      refine ⟨.ref p, rfl, .ref p, rfl, p, 0, 8, rfl, hp2, by omega, by decide, by decide, fun m0 t3 H3 m00 m01 ht3 hp3 b3 => ⟨1, m0, rfl, rfl, ?_⟩⟩
      obtain ⟨m, em⟩ : ∃ m : Nat, 1 + m0 = (m : Int) := ⟨(1 + m0).toNat, by omega⟩
      refine ⟨p, t3, m, by rw [← em]; rfl, hp3, by omega, by omega, by omega, fun H4 u t4 ns hp4 ht4 b4 hT4 M => ?_⟩
      have b04 := same_but s2 np (b3.trans b4)
      -- steps
      refine ⟨.ref p, rfl, .ref u, rfl, p, u, t4, ns, rfl, hp4, by omega, hT4, M, fun H5 c t5 ps hp5 ht5 b5 hC5 St => ?_⟩
      have hT5 := sqT_pail hp4 b5 hT4
      have b05 := same_but b04 np b5
      have h8 := M.few
      have m1 := M.pos
      have hP : ∀ p ∈ ps, Pr (ns.length : Int) p := fun p hp => St.pair p hp
      -- Rule
      refine ⟨.ref u, rfl, .ref c, rfl, fun r dx nr ndr ner => make_rule (ns := ns) (ps := ps) hT5 hC5.tups M St nr ndr ner fun H6 s6 R6 => ?_⟩
      have hT6 := sqT_same s6 hT5
      refine ⟨.ref u, rfl, u, _, rfl, .inr hT6, Nat.zero_le _, fun S0 nS0 => ⟨three, fun T0 nT0 => ?_⟩⟩
      rw [List.length_map]
      have sS0 := same_upd (o := .lst []) nS0
      have sT0 := same_upd (o := .tup [.ref r, .int (ns.length : Int), .ref S0]) nT0
      have hpS : PailAt (upd H6 S0 (.lst [])) p t5 := pail_same (pail_same hp5 s6) sS0
      have nS01 : H1 S0 = none := (b05.trans s6).free nS0
      have hS0p : S0 ≠ p := pail_ne (pail_same hp5 s6) nS0
      have eS07 := sT0 _ _ (upd_same (H := H6) (a := S0) (o := .lst []))
      refine ⟨T0, _, rfl, tupNew upd_same, rfl, _, _, rfl, _, _, rfl, _, _, rfl, rfl, ?_⟩
      have s57 := (s6.trans sS0).trans sT0
      have hp7 := pail_same hp5 s57
      have R7 := R6.same (sS0.trans sT0)
      have hC7 := (hC5.tups (K := K)).same s57
      have b07 := b05.trans s57
      generalize upd (upd H6 S0 (.lst [])) T0 (.tup [.ref r, .int (ns.length : Int), .ref S0]) = H7 at eS07 s57 hp7 R7 hC7 b07 ⊢
      -- starts
      refine ⟨.ref c, rfl, .int (ns.length : Int), rfl, c, ns.length, ps, rfl, hC7, hP, h8, St.few, fun H8 l0 xs0 s8 nl0 el0 lx0 bx0 => ?_⟩
      have hp8 := pail_same hp7 s8
      have hl0p : l0 ≠ p := pail_ne hp7 nl0
      have R8 := R7.same s8
      have hC8 := hC7.same s8
      have b08 := b07.trans s8
      have eS08 := s8 _ _ eS07
      clear hpS sS0 sT0 nT0 nS0 s57 R6 hT6
      dsimp only
      refine seq_mid (fun σ H' => ∃ (S : Addr) (ds : List PyData) (t' : Nat) (y9 y10 y11 y12 y13 : Option V), σ = [some (.ref a), some (.int (0 + (i : Nat))), some (.ref p), some (.ref u), some (.ref c), some (.ref r), some (.int (ns.length : Int)), some (.ref S), some (.ref l0), y9, y10, y11, y12, y13] ∧ t' ≤ 700 ∧ Same H1 H' ∧ H1 S = none ∧ Stat K C p S r c ns ps H' t' ds ∧ ds.length ≤ 20 ∧ ∀ d ∈ ds, Fine d) ?_ (fun tail => ?_)
      · rintro σ H9 ⟨S, ds, t9, y9, y10, y11, y12, y13, rfl, ht9, sH1, nS1, st9, l9, f9⟩
        -- six more
        obtain ⟨_, vs9, eS9, _⟩ := st9.pl
        refine ⟨.ref S, rfl, .inl ⟨rfl, _, lstNew eS9⟩, 6, rfl, by decide, by decide, fun D nD => ?_⟩
        rw [show (6 : Int).toNat = 6 from rfl]
        have hDp : D ≠ p := pail_ne st9.hp nD
        have sD := same_upd (o := .lst []) nD
        refine lc_range (lo := 0) (n := 6) (fun k H' => But p H9 H' ∧ ∃ (t' : Nat) (es : List PyData), PailAt H' p t' ∧ t' ≤ t9 + 20 * k ∧ Lk p [D, S, p] H' ∧ Pile K H' [D, S, p] D es ∧ es.length = k ∧ ∀ d ∈ es, Fine d)
          ⟨But.of sD, t9, [], pail_same st9.hp sD, Nat.le_refl _, (st9.L.same sD).add upd_same, Pile.nil nD, rfl, fun d hd => by cases hd⟩ (fun k H' hk h => ?_) fun HA h => ?_
        · obtain ⟨b', t', es, hp', ht', hL', pl', le', fe'⟩ := h
          refine ⟨by simp [wipe, List.set_set], tt_yes ⟨.ref p, rfl, .int (ns.length : Int), rfl, [D, S, p], p, t', ns.length, rfl, hL', hp', by omega, m1, h8, fun H2 v d t2 ht2 hp2' b2 dp2 f2 => ?_⟩⟩
          obtain ⟨_, vs, eD1, hA1⟩ := pl'
          have eD2 := b2 _ _ eD1 hDp
          have hL2 := hL'.but b2 hp2'
          have pl2 : Pile K H2 [D, S, p] D es := ⟨List.mem_cons_self .., vs, eD2, DpAll.same (hL'.mono b2) hA1⟩
          have lv2 := pl2.len eD2
          refine ⟨vs, eD2, by rw [sizeLine_eq]; omega, ?_, t2, es ++ [d], pail_set hp2' hDp, by omega, hL2.set, pl2.add eD2 dp2, by rw [List.length_append, le']; rfl, fun e he => ?_⟩
          · exact fun b o z nz => by rw [upd_ne (ne_of_none z nD)]; exact (b'.trans b2) b o z nz
          · rcases List.mem_append.mp he with z | z
            · exact fe' e z
            · rw [List.mem_singleton.mp z]; exact f2
        obtain ⟨b', tA, es, hpA, htA, hLA, plA, leA, feA⟩ := h
        obtain ⟨_, us, eD, hD⟩ := plA
        have lus : us.length = es.length := DpAll.len hD
        obtain ⟨vs, eSA, lvs, stB⟩ := st9.join nD b' hpA hD
        refine ⟨S, D, vs, us, rfl, rfl, eSA, eD, by rw [sizeLine_eq]; omega, ?_⟩
        have fB : ∀ d ∈ ds ++ es, Fine d := fun d hd => (List.mem_append.mp hd).elim (f9 d) (feA d)
        have lB : (ds ++ es).length ≤ 26 := by rw [List.length_append]; omega
        have sH1 : Same H1 (upd HA S (.lst (vs ++ us))) := fun b o e => by rw [upd_ne (ne_of_none e nS1)]; exact same_but sH1 np b' b o e
        generalize upd HA S (.lst (vs ++ us)) = HB at stB sH1 ⊢
        generalize ds ++ es = dsB at stB fB lB
        clear hD eD hLA hpA b' sD nD eSA st9 f9 feA eS9
        -- rings of one mark
        obtain ⟨_, vsB, eSB, _⟩ := stB.pl
        refine ⟨.ref S, rfl, .inl ⟨rfl, _, lstNew eSB⟩, .int (ns.length : Int), rfl, (ns.length : Int), rfl, by omega, by omega, fun D nD => ?_⟩
        rw [Int.toNat_natCast]
        have hDp : D ≠ p := pail_ne stB.hp nD
        have sD := same_upd (o := .lst []) nD
        refine lc_range (lo := 0) (n := ns.length) (fun k H' => Same HB H' ∧ ∃ (es : List PyData), Lk p [D, S, p] H' ∧ Pile K H' [D, S, p] D es ∧ es.length = k ∧ ∀ d ∈ es, Fine d)
          ⟨sD, [], (stB.L.same sD).add upd_same, Pile.nil nD, rfl, fun d hd => by cases hd⟩ (fun k H' hk h => ?_) fun HC h => ?_
        · obtain ⟨s', es, hL', pl', le', fe'⟩ := h
          rw [show (0 : Int) + ((k : Nat) : Int) = (k : Int) by omega]
          refine ⟨by simp [wipe, List.set_set], tt_yes ⟨.int (k : Int), rfl, one, fun U1 n1 => ⟨two, fun U2 n2 => ⟨one, fun U3 n3 => ?_⟩⟩⟩⟩
          have z1 := same_upd (o := .tup [.int (k : Int)]) n1
          have z2 := same_upd (o := .tup [.int 1, .ref U1]) n2
          have z3 := same_upd (o := .tup [.ref U2]) n3
          have e1 : SqT K (upd (upd (upd H' U1 (.tup [.int (k : Int)])) U2 (.tup [.int 1, .ref U1])) U3 (.tup [.ref U2])) U1 ([(k : Int)].map V.int) := sqT_same (z2.trans z3) (tupNew upd_same)
          have e2 : SqT K (upd (upd (upd H' U1 (.tup [.int (k : Int)])) U2 (.tup [.int 1, .ref U1])) U3 (.tup [.ref U2])) U2 [.int 1, .ref U1] := sqT_same z3 (tupNew upd_same)
          have e3 : SqT K (upd (upd (upd H' U1 (.tup [.int (k : Int)])) U2 (.tup [.int 1, .ref U1])) U3 (.tup [.ref U2])) U3 [.ref U2] := tupNew upd_same
          have z := (z1.trans z2).trans z3
          generalize upd (upd (upd H' U1 (.tup [.int (k : Int)])) U2 (.tup [.int 1, .ref U1])) U3 (.tup [.ref U2]) = H2 at e1 e2 e3 z ⊢
          have hL2 := hL'.same z
          have pl2 := pl'.same z
          have dp2 : Dp K (rmS [D, S, p] H2) (.ref U3) (dRg [(1, [(k : Int)])]) := ring_dp hL2.2 ⟨[(U2, U1, 1, [(k : Int)])], rfl, e3, fun q hq => by
            rw [List.mem_singleton.mp hq]
            exact ⟨e2, e1⟩⟩
          have f2 : Fine (dRg [(1, [(k : Int)])]) := by
            refine ⟨(gd_ring (m := 1) (fun q hq => ?_) (by simp)).up (by decide) (by decide), by show 1 ≤ 100; decide⟩
            rw [List.mem_singleton.mp hq]
            refine ⟨⟨by show (0 : Int) ≤ 1; decide, by show (1 : Int) ≤ 10 ^ 30; decide⟩, fun x hx => ?_, Nat.le_refl _⟩
            rw [List.mem_singleton.mp hx]; omega
          obtain ⟨_, vs, eD2, hA2⟩ := pl2
          have lv2 : vs.length = es.length := DpAll.len hA2
          have pl2 : Pile K H2 [D, S, p] D es := ⟨List.mem_cons_self .., vs, eD2, hA2⟩
          refine ⟨vs, eD2, by rw [sizeLine_eq]; omega, ?_, es ++ [_], hL2.set, pl2.add eD2 dp2, by rw [List.length_append, le']; rfl, fun e he => ?_⟩
          · exact fun b o z' => by rw [upd_ne (ne_of_none z' nD)]; exact z b o (s' b o z')
          · rcases List.mem_append.mp he with q | q
            · exact fe' e q
            · rw [List.mem_singleton.mp q]; exact f2
        obtain ⟨s', es2, hLC, plC, leC, feC⟩ := h
        obtain ⟨_, us2, eD, hD⟩ := plC
        have lus2 : us2.length = es2.length := DpAll.len hD
        obtain ⟨vs2, eSC, lvs2, stC⟩ := stB.join nD (But.of s') (pail_same stB.hp s') hD
        refine ⟨S, D, vs2, us2, rfl, rfl, eSC, eD, by rw [sizeLine_eq]; omega, ?_⟩
        have fC : ∀ d ∈ dsB ++ es2, Fine d := fun d hd => (List.mem_append.mp hd).elim (fB d) (feC d)
        have lC : (dsB ++ es2).length ≤ 34 := by rw [List.length_append]; omega
        have sH1 : Same H1 (upd HC S (.lst (vs2 ++ us2))) := fun b o e => by rw [upd_ne (ne_of_none e nS1)]; exact s' b o (sH1 b o e)
        generalize upd HC S (.lst (vs2 ++ us2)) = HD at stC sH1 ⊢
        generalize dsB ++ es2 = dsC at stC fC lC
        clear hD eD hLC s' sD nD eSC stB fB feC eSB
        obtain ⟨_, vsC, eSD, _⟩ := stC.pl
        refine ⟨.ref S, rfl, .inl ⟨rfl, _, lstNew eSD⟩, Nat.zero_le _, fun A1 n0 => ?_⟩
        have z := same_upd (o := .lst []) n0
        have fA1 : A1 ∉ [S, p] := stC.L.2.fresh n0
        have eA1 : (upd HD A1 (.lst [])) A1 = some (.lst []) := upd_same
        have eSD := z _ _ eSD
        have stC := stC.same z
        have sH1 := sH1.trans z
        clear n0
        generalize upd HD A1 (.lst []) = G1 at z eSD stC sH1 eA1 ⊢
        clear z
        refine fun A2 n0 => ?_
        have z := same_upd (o := .dK []) n0
        have fA2 : A2 ∉ [S, p] := stC.L.2.fresh n0
        have eA2 : (upd G1 A2 (.dK [])) A2 = some (.dK []) := upd_same
        have eA1 := z _ _ eA1
        have eSD := z _ _ eSD
        have stC := stC.same z
        have sH1 := sH1.trans z
        clear n0
        generalize upd G1 A2 (.dK []) = G2 at z eSD stC sH1 eA1 eA2 ⊢
        clear z
        refine ⟨Nat.zero_le _, fun A3 n0 => ?_⟩
        have z := same_upd (o := .tup []) n0
        have eA3 : (upd G2 A3 (.tup [])) A3 = some (.tup []) := upd_same
        have eA1 := z _ _ eA1
        have eA2 := z _ _ eA2
        have eSD := z _ _ eSD
        have stC := stC.same z
        have sH1 := sH1.trans z
        clear n0
        generalize upd G2 A3 (.tup []) = G3 at z eSD stC sH1 eA1 eA2 eA3 ⊢
        clear z
        refine ⟨Nat.zero_le _, fun A4 n0 => ?_⟩
        have z := same_upd (o := .tup []) n0
        have eA4 : (upd G3 A4 (.tup [])) A4 = some (.tup []) := upd_same
        have eA1 := z _ _ eA1
        have eA2 := z _ _ eA2
        have eA3 := z _ _ eA3
        have eSD := z _ _ eSD
        have stC := stC.same z
        have sH1 := sH1.trans z
        clear n0
        generalize upd G3 A4 (.tup []) = G4 at z eSD stC sH1 eA1 eA2 eA3 eA4 ⊢
        clear z
        refine ⟨one, fun A5 n0 => ?_⟩
        have z := same_upd (o := .tup [.ref A4]) n0
        have eA5 : (upd G4 A5 (.tup [.ref A4])) A5 = some (.tup [.ref A4]) := upd_same
        have eA1 := z _ _ eA1
        have eA2 := z _ _ eA2
        have eA3 := z _ _ eA3
        have eA4 := z _ _ eA4
        have eSD := z _ _ eSD
        have stC := stC.same z
        have sH1 := sH1.trans z
        clear n0
        generalize upd G4 A5 (.tup [.ref A4]) = G5 at z eSD stC sH1 eA1 eA2 eA3 eA4 eA5 ⊢
        clear z
        refine ⟨Nat.zero_le _, fun A6 n0 => ?_⟩
        have z := same_upd (o := .tup []) n0
        have eA6 : (upd G5 A6 (.tup [])) A6 = some (.tup []) := upd_same
        have eA1 := z _ _ eA1
        have eA2 := z _ _ eA2
        have eA3 := z _ _ eA3
        have eA4 := z _ _ eA4
        have eA5 := z _ _ eA5
        have eSD := z _ _ eSD
        have stC := stC.same z
        have sH1 := sH1.trans z
        clear n0
        generalize upd G5 A6 (.tup []) = G6 at z eSD stC sH1 eA1 eA2 eA3 eA4 eA5 eA6 ⊢
        clear z
        refine ⟨two, fun A7 n0 => ?_⟩
        have z := same_upd (o := .tup [.int 1, .ref A6]) n0
        have eA7 : (upd G6 A7 (.tup [.int 1, .ref A6])) A7 = some (.tup [.int 1, .ref A6]) := upd_same
        have eA1 := z _ _ eA1
        have eA2 := z _ _ eA2
        have eA3 := z _ _ eA3
        have eA4 := z _ _ eA4
        have eA5 := z _ _ eA5
        have eA6 := z _ _ eA6
        have eSD := z _ _ eSD
        have stC := stC.same z
        have sH1 := sH1.trans z
        clear n0
        generalize upd G6 A7 (.tup [.int 1, .ref A6]) = G7 at z eSD stC sH1 eA1 eA2 eA3 eA4 eA5 eA6 eA7 ⊢
        clear z
        refine ⟨one, fun A8 n0 => ?_⟩
        have z := same_upd (o := .tup [.ref A7]) n0
        have eA8 : (upd G7 A8 (.tup [.ref A7])) A8 = some (.tup [.ref A7]) := upd_same
        have eA1 := z _ _ eA1
        have eA2 := z _ _ eA2
        have eA3 := z _ _ eA3
        have eA4 := z _ _ eA4
        have eA5 := z _ _ eA5
        have eA6 := z _ _ eA6
        have eA7 := z _ _ eA7
        have eSD := z _ _ eSD
        have stC := stC.same z
        have sH1 := sH1.trans z
        clear n0
        generalize upd G7 A8 (.tup [.ref A7]) = G8 at z eSD stC sH1 eA1 eA2 eA3 eA4 eA5 eA6 eA7 eA8 ⊢
        clear z
        refine ⟨one, fun A9 n0 => ?_⟩
        have z := same_upd (o := .lst [.int 0]) n0
        have fA9 : A9 ∉ [S, p] := stC.L.2.fresh n0
        have eA9 : (upd G8 A9 (.lst [.int 0])) A9 = some (.lst [.int 0]) := upd_same
        have eA1 := z _ _ eA1
        have eA2 := z _ _ eA2
        have eA3 := z _ _ eA3
        have eA4 := z _ _ eA4
        have eA5 := z _ _ eA5
        have eA6 := z _ _ eA6
        have eA7 := z _ _ eA7
        have eA8 := z _ _ eA8
        have eSD := z _ _ eSD
        have stC := stC.same z
        have sH1 := sH1.trans z
        clear n0
        generalize upd G8 A9 (.lst [.int 0]) = G9 at z eSD stC sH1 eA1 eA2 eA3 eA4 eA5 eA6 eA7 eA8 eA9 ⊢
        clear z
        refine ⟨two, fun B1 n0 => ?_⟩
        have z := same_upd (o := .tup [.int 1, .ref A9]) n0
        have eB1 : (upd G9 B1 (.tup [.int 1, .ref A9])) B1 = some (.tup [.int 1, .ref A9]) := upd_same
        have eA1 := z _ _ eA1
        have eA2 := z _ _ eA2
        have eA3 := z _ _ eA3
        have eA4 := z _ _ eA4
        have eA5 := z _ _ eA5
        have eA6 := z _ _ eA6
        have eA7 := z _ _ eA7
        have eA8 := z _ _ eA8
        have eA9 := z _ _ eA9
        have eSD := z _ _ eSD
        have stC := stC.same z
        have sH1 := sH1.trans z
        clear n0
        generalize upd G9 B1 (.tup [.int 1, .ref A9]) = G10 at z eSD stC sH1 eA1 eA2 eA3 eA4 eA5 eA6 eA7 eA8 eA9 eB1 ⊢
        clear z
        refine ⟨one, fun B2 n0 => ?_⟩
        have z := same_upd (o := .tup [.ref B1]) n0
        have eB2 : (upd G10 B2 (.tup [.ref B1])) B2 = some (.tup [.ref B1]) := upd_same
        have eA1 := z _ _ eA1
        have eA2 := z _ _ eA2
        have eA3 := z _ _ eA3
        have eA4 := z _ _ eA4
        have eA5 := z _ _ eA5
        have eA6 := z _ _ eA6
        have eA7 := z _ _ eA7
        have eA8 := z _ _ eA8
        have eA9 := z _ _ eA9
        have eB1 := z _ _ eB1
        have eSD := z _ _ eSD
        have stC := stC.same z
        have sH1 := sH1.trans z
        clear n0
        generalize upd G10 B2 (.tup [.ref B1]) = G11 at z eSD stC sH1 eA1 eA2 eA3 eA4 eA5 eA6 eA7 eA8 eA9 eB1 eB2 ⊢
        clear z
        refine ⟨one, fun B3 n0 => ?_⟩
        have z := same_upd (o := .tup [.int 0]) n0
        have eB3 : (upd G11 B3 (.tup [.int 0])) B3 = some (.tup [.int 0]) := upd_same
        have eA1 := z _ _ eA1
        have eA2 := z _ _ eA2
        have eA3 := z _ _ eA3
        have eA4 := z _ _ eA4
        have eA5 := z _ _ eA5
        have eA6 := z _ _ eA6
        have eA7 := z _ _ eA7
        have eA8 := z _ _ eA8
        have eA9 := z _ _ eA9
        have eB1 := z _ _ eB1
        have eB2 := z _ _ eB2
        have eSD := z _ _ eSD
        have stC := stC.same z
        have sH1 := sH1.trans z
        clear n0
        generalize upd G11 B3 (.tup [.int 0]) = G12 at z eSD stC sH1 eA1 eA2 eA3 eA4 eA5 eA6 eA7 eA8 eA9 eB1 eB2 eB3 ⊢
        clear z
        refine ⟨two, fun B4 n0 => ?_⟩
        have z := same_upd (o := .tup [.int 1, .ref B3]) n0
        have eB4 : (upd G12 B4 (.tup [.int 1, .ref B3])) B4 = some (.tup [.int 1, .ref B3]) := upd_same
        have eA1 := z _ _ eA1
        have eA2 := z _ _ eA2
        have eA3 := z _ _ eA3
        have eA4 := z _ _ eA4
        have eA5 := z _ _ eA5
        have eA6 := z _ _ eA6
        have eA7 := z _ _ eA7
        have eA8 := z _ _ eA8
        have eA9 := z _ _ eA9
        have eB1 := z _ _ eB1
        have eB2 := z _ _ eB2
        have eB3 := z _ _ eB3
        have eSD := z _ _ eSD
        have stC := stC.same z
        have sH1 := sH1.trans z
        clear n0
        generalize upd G12 B4 (.tup [.int 1, .ref B3]) = G13 at z eSD stC sH1 eA1 eA2 eA3 eA4 eA5 eA6 eA7 eA8 eA9 eB1 eB2 eB3 eB4 ⊢
        clear z
        refine ⟨one, fun B5 n0 => ?_⟩
        have z := same_upd (o := .lst [.ref B4]) n0
        have fB5 : B5 ∉ [S, p] := stC.L.2.fresh n0
        have eB5 : (upd G13 B5 (.lst [.ref B4])) B5 = some (.lst [.ref B4]) := upd_same
        have eA1 := z _ _ eA1
        have eA2 := z _ _ eA2
        have eA3 := z _ _ eA3
        have eA4 := z _ _ eA4
        have eA5 := z _ _ eA5
        have eA6 := z _ _ eA6
        have eA7 := z _ _ eA7
        have eA8 := z _ _ eA8
        have eA9 := z _ _ eA9
        have eB1 := z _ _ eB1
        have eB2 := z _ _ eB2
        have eB3 := z _ _ eB3
        have eB4 := z _ _ eB4
        have eSD := z _ _ eSD
        have stC := stC.same z
        have sH1 := sH1.trans z
        clear n0
        generalize upd G13 B5 (.lst [.ref B4]) = G14 at z eSD stC sH1 eA1 eA2 eA3 eA4 eA5 eA6 eA7 eA8 eA9 eB1 eB2 eB3 eB4 eB5 ⊢
        clear z
        refine ⟨one, fun B6 n0 => ?_⟩
        have z := same_upd (o := .tup [.int 0]) n0
        have eB6 : (upd G14 B6 (.tup [.int 0])) B6 = some (.tup [.int 0]) := upd_same
        have eA1 := z _ _ eA1
        have eA2 := z _ _ eA2
        have eA3 := z _ _ eA3
        have eA4 := z _ _ eA4
        have eA5 := z _ _ eA5
        have eA6 := z _ _ eA6
        have eA7 := z _ _ eA7
        have eA8 := z _ _ eA8
        have eA9 := z _ _ eA9
        have eB1 := z _ _ eB1
        have eB2 := z _ _ eB2
        have eB3 := z _ _ eB3
        have eB4 := z _ _ eB4
        have eB5 := z _ _ eB5
        have eSD := z _ _ eSD
        have stC := stC.same z
        have sH1 := sH1.trans z
        clear n0
        generalize upd G14 B6 (.tup [.int 0]) = G15 at z eSD stC sH1 eA1 eA2 eA3 eA4 eA5 eA6 eA7 eA8 eA9 eB1 eB2 eB3 eB4 eB5 eB6 ⊢
        clear z
        refine ⟨two, fun B7 n0 => ?_⟩
        have z := same_upd (o := .tup [.int 1, .ref B6]) n0
        have eB7 : (upd G15 B7 (.tup [.int 1, .ref B6])) B7 = some (.tup [.int 1, .ref B6]) := upd_same
        have eA1 := z _ _ eA1
        have eA2 := z _ _ eA2
        have eA3 := z _ _ eA3
        have eA4 := z _ _ eA4
        have eA5 := z _ _ eA5
        have eA6 := z _ _ eA6
        have eA7 := z _ _ eA7
        have eA8 := z _ _ eA8
        have eA9 := z _ _ eA9
        have eB1 := z _ _ eB1
        have eB2 := z _ _ eB2
        have eB3 := z _ _ eB3
        have eB4 := z _ _ eB4
        have eB5 := z _ _ eB5
        have eB6 := z _ _ eB6
        have eSD := z _ _ eSD
        have stC := stC.same z
        have sH1 := sH1.trans z
        clear n0
        generalize upd G15 B7 (.tup [.int 1, .ref B6]) = G16 at z eSD stC sH1 eA1 eA2 eA3 eA4 eA5 eA6 eA7 eA8 eA9 eB1 eB2 eB3 eB4 eB5 eB6 eB7 ⊢
        clear z
        refine ⟨(by show 12 ≤ sizeLine; decide), fun N nN => ?_⟩
        have sN := same_upd (o := .lst [V.non, V.bl true, V.int 0, V.str (Str.ofString "1*0"), V.ref A1, V.ref A2, V.ref A3, V.ref A5, V.ref A8, V.ref B2, V.ref B5, V.ref B7]) nN
        generalize hcs : [V.non, V.bl true, V.int 0, V.str (Str.ofString "1*0"), V.ref A1, V.ref A2, V.ref A3, V.ref A5, V.ref A8, V.ref B2, V.ref B5, V.ref B7] = cs12 at sN ⊢
        have hL := stC.L.2
        have tA3 := rmS_tup (K := K) hL (tupNew eA3)
        have tA4 := rmS_tup (K := K) hL (tupNew eA4)
        have tA5 := rmS_tup (K := K) hL (tupNew eA5)
        have tA6 := rmS_tup (K := K) hL (tupNew eA6)
        have tA7 := rmS_tup (K := K) hL (tupNew eA7)
        have tA8 := rmS_tup (K := K) hL (tupNew eA8)
        have tB1 := rmS_tup (K := K) hL (tupNew eB1)
        have tB2 := rmS_tup (K := K) hL (tupNew eB2)
        have tB3 := rmS_tup (K := K) hL (tupNew eB3)
        have tB4 := rmS_tup (K := K) hL (tupNew eB4)
        have tB6 := rmS_tup (K := K) hL (tupNew eB6)
        have tB7 := rmS_tup (K := K) hL (tupNew eB7)
        have allc : ∀ v ∈ cs12, ∃ d ∈ byHand, Dz K (rmS [S, p] G16) v d := fun v hv => by
          rw [← hcs] at hv
          simp only [List.mem_cons, List.not_mem_nil, or_false] at hv
          rcases hv with rfl | rfl | rfl | rfl | rfl | rfl | rfl | rfl | rfl | rfl | rfl | rfl
          · exact ⟨.none, by simp [byHand], .inl .non⟩
          · exact ⟨.bool true, by simp [byHand], .inl (.bl true)⟩
          · exact ⟨.int 0, by simp [byHand], .inl (.int 0)⟩
          · exact ⟨.str wText, by simp [byHand], .inl (.str wText)⟩
          · exact ⟨.list [], by simp [byHand], .inl (.lst (lstNew (rmS_at eA1 fA1)) .nil)⟩
          · exact ⟨.dict [], by simp [byHand], .inr ⟨A2, rfl, rmS_at eA2 fA2, rfl⟩⟩
          · exact ⟨.tuple [], by simp [byHand], .inl (.tup tA3 .nil)⟩
          · exact ⟨.tuple [.tuple []], by simp [byHand], .inl (.tup tA5 (.cons (.tup tA4 .nil) .nil))⟩
          · exact ⟨.tuple [.tuple [.int 1, .tuple []]], by simp [byHand], .inl (.tup tA8 (.cons (.tup tA7 (.cons (.int 1) (.cons (.tup tA6 .nil) .nil))) .nil))⟩
          · exact ⟨.tuple [.tuple [.int 1, .list [.int 0]]], by simp [byHand], .inl (.tup tB2 (.cons (.tup tB1 (.cons (.int 1) (.cons (.lst (lstNew (rmS_at eA9 fA9)) (.cons (.int 0) .nil)) .nil))) .nil))⟩
          · exact ⟨.list [.tuple [.int 1, .tuple [.int 0]]], by simp [byHand], .inl (.lst (lstNew (rmS_at eB5 fB5)) (.cons (.tup tB4 (.cons (.int 1) (.cons (.tup tB3 (.cons (.int 0) .nil)) .nil))) .nil))⟩
          · exact ⟨.tuple [.int 1, .tuple [.int 0]], by simp [byHand], .inl (.tup tB7 (.cons (.int 1) (.cons (.tup tB6 (.cons (.int 0) .nil)) .nil)))⟩
        have l12 : cs12.length = 12 := by rw [← hcs]; rfl
        clear hcs tA3 tA4 tA5 tA6 tA7 tA8 tB1 tB2 tB3 tB4 tB6 tB7 eA1 eA2 eA3 eA4 eA5 eA6 eA7 eA8 eA9 eB1 eB2 eB3 eB4 eB5 eB6 eB7 hL
        have eN : (upd G16 N (.lst cs12)) N = some (.lst cs12) := upd_same
        have eSN := sN _ _ eSD
        have stN := stC.same sN
        have sH1 := sH1.trans sN
        have allN : ∀ v ∈ cs12, ∃ d, Dz K (rmS [S, p] (upd G16 N (.lst cs12))) v d ∧ FineZ d := fun v hv => by
          obtain ⟨d, h1, h2⟩ := allc v hv
          exact ⟨d, h2.same (rmS_mono sN), fz_hand d h1⟩
        clear allc stC eSD sN nN
        generalize upd G16 N (.lst cs12) = HN at eN eSN stN allN sH1 ⊢
        obtain ⟨_, vs3, eS3, hA3⟩ := stN.pl
        rw [eSN] at eS3
        have eS3 := (Option.some.inj eS3)
        injection eS3 with eS3
        subst eS3
        have lvs3 : vsC.length = dsC.length := DpAll.len hA3
        refine ⟨S, N, vsC, cs12, rfl, rfl, eSN, eN, by rw [sizeLine_eq]; omega, ?_⟩
        have eF : (upd HN S (.lst (vsC ++ cs12))) S = some (.lst (vsC ++ cs12)) := upd_same
        have toF : Same (rmS [S, p] HN) (upd HN S (.lst (vsC ++ cs12))) := fun b o e => by
          by_cases q : b ∈ [S, p]
          · rw [show rmS [S, p] HN b = none from if_pos q] at e; cases e
          · rw [rmS_ne q] at e
            rw [upd_ne fun z => q (by rw [z]; exact List.mem_cons_self ..)]; exact e
        have RF := rule_setL (o := .lst (vsC ++ cs12)) eSN stN.R
        have UF := tups_setL (o := .lst (vsC ++ cs12)) eSN stN.U
        have allF : ∀ v ∈ vsC ++ cs12, ∃ d, Dz K (upd HN S (.lst (vsC ++ cs12))) v d ∧ FineZ d := fun v hv => by
          rcases List.mem_append.mp hv with q | q
          · obtain ⟨j, hj⟩ := List.getElem?_of_mem q
            obtain ⟨d, gd', hd⟩ := DpAll.at hA3 hj
            exact ⟨d, .inl (Dp.same toF hd), (fC d (List.mem_of_getElem? gd')).z⟩
          · obtain ⟨d, h1, h2⟩ := allN v q
            exact ⟨d, h1.same toF, h2⟩
        have lF : (vsC ++ cs12).length ≤ 60 := by rw [List.length_append]; omega
        have sH1 : Same H1 (upd HN S (.lst (vsC ++ cs12))) := fun b o e => by rw [upd_ne (ne_of_none e nS1)]; exact sH1 b o e
        generalize upd HN S (.lst (vsC ++ cs12)) = HF at eF RF UF allF sH1 ⊢
        generalize vsC ++ cs12 = xsF at eF allF lF
        clear allN stN toF eSN eN hA3
        -- thing by thing
        refine ⟨.ref S, rfl, S, rfl, ⟨_, lstNew eF⟩, ?_⟩
        refine for_list (K := K) (a := S) (xs := xsF) (fun j σ H' => ∃ (y1 y3 y8 y9 y10 y11 y12 y13 : Option V), σ = [some (.ref a), y1, some (.ref p), y3, some (.ref c), some (.ref r), some (.int (ns.length : Int)), some (.ref S), y8, y9, y10, y11, y12, y13] ∧ Same HF H')
          ⟨_, _, _, _, _, _, _, _, rfl, Same.refl _⟩ (fun j σ H' _ h => ?_) (fun j x σ H' hx h => ?_) (fun σ H' h => ?_)
        · obtain ⟨_, _, _, _, _, _, _, _, _, s'⟩ := h
          exact lstNew (s' _ _ eF)
        · obtain ⟨y1, y3, y8, y9, y10, y11, y12, y13, rfl, s'⟩ := h
          obtain ⟨d, hz, fz⟩ := allF x (List.mem_of_getElem? hx)
          have hz' := hz.same s'
          obtain ⟨f1, f2, f3, f4⟩ := fz
          refine ⟨x, rfl, x, d, rfl, hz', f4, ?_⟩
          refine ⟨.ref r, rfl, x, rfl, r, x, d, ns, ps, rfl, RF.same s', M, St, hz', f2, f3, fun HX sX => ?_⟩
          refine ⟨_, .bool (ringD ps ns.length d), rfl, .inl (.bl _), trivial, ?_⟩
          refine ⟨x, rfl, .int (ns.length : Int), rfl, .ref c, rfl, x, d, ns, c, ps, rfl, hz'.same sX, f1, f3, (UF.same s').same sX, fun HY sY => ?_⟩
          refine ⟨_, .bool (ringD ps ns.length d), rfl, .inl (.bl _), trivial, rfl, _, rfl, ?_⟩
          rw [decide_eq_true rfl]
          refine iteF ?_
          refine ⟨x, rfl, x, d, rfl, (hz'.same sX).same sY, f4, .str (tvD d), rfl, rfl, _, rfl, ?_⟩
          rw [decide_eq_true rfl]
          refine iteF ?_
          exact ⟨_, _, _, _, _, _, _, _, rfl, (s'.trans sX).trans sY⟩
        · obtain ⟨y1, y3, y8, y9, y10, y11, y12, y13, rfl, s'⟩ := h
          exact ⟨_, _, _, _, _, _, _, _, _, _, _, _, _, rfl, s1.trans (sH1.trans s')⟩
      · refine ⟨.ref l0, rfl, Nat.zero_le _, fun N nN => ?_⟩
        have sN := same_upd (o := .lst []) nN
        refine ⟨.list (xs0.map PyData.int), .list (([] : List Int).map PyData.int), dpL (lstNew (sN _ _ el0)), .lst (lstNew upd_same) .nil, shapedL xs0, shapedL [], _, rfl, ?_⟩
        rw [eqvL]
        by_cases e0 : xs0 = []
        · rw [decide_eq_true e0]
          refine iteF (tail _ _ ⟨S0, [], t5, _, _, _, _, _, rfl, by omega, b08.trans sN, nS01, ⟨R8.same sN, hC8.same sN, pail_same hp8 sN, ⟨List.mem_cons_of_mem _ (List.mem_cons_self ..), fun b hb => ?_⟩, ⟨List.mem_cons_self .., [], sN _ _ eS08, .nil⟩, hS0p⟩, Nat.zero_le _, fun d hd => by cases hd⟩)
          simp only [List.mem_cons, List.not_mem_nil, or_false] at hb
          rcases hb with rfl | rfl
          · exact ⟨_, sN _ _ eS08⟩
          · obtain ⟨x, y, e, _⟩ := pail_same hp8 sN
            exact ⟨_, e⟩
        · rw [decide_eq_false e0]
          refine iteT ?_
          have hpN := pail_same hp8 sN
          have elN := sN _ _ el0
          have RN := R8.same sN
          have hCN := hC8.same sN
          have bN : But p H8 (upd H8 N (.lst [])) := But.of sN
          generalize upd H8 N (.lst []) = HN at hpN elN RN hCN bN ⊢
          -- runs
          refine ⟨.ref p, rfl, .ref c, rfl, .ref p, rfl, .ref l0, rfl, p, l0, t5, _, rfl, hpN, by omega, lstNew elN, hl0p, by rw [List.length_map]; exact List.length_pos_iff.mpr e0, by rw [List.length_map]; omega, fun j v tA HA gv htA hpA bA => ?_⟩
          obtain ⟨x, gx, rfl⟩ := map_at gv
          have hb := bx0 x (List.mem_of_getElem? gx)
          have hCA := tups_pail hpN bA hCN
          refine ⟨p, c, tA, 4, ns.length, x, ps, rfl, hpA, by omega, hCA, hP, h8, St.few, hb, by decide, by decide, fun HB Tr rs tB htB hpB bB hRB lr ne l12 => ?_⟩
          have RB := (RN.pail hpN bA).pail hpA bB
          have b8B := (bN.trans bA).trans bB
          have hCB := tups_pail hpA bB hCA
          have rsm : ∀ r ∈ rs, (0 ≤ r.1 ∧ r.1 ≤ 10 ^ 30) ∧ (∀ x ∈ r.2, 0 ≤ x ∧ x < 8) ∧ r.2.length ≤ 14 := fun r hr => ⟨⟨by have := (lr.rn r hr).1; omega, by have := lr.ti r hr; omega⟩, fun x hx => by have := lr.inn r hr x hx; omega, lr.wo r hr⟩
          have gdr : Gd (dRg rs) 3 204 := gd_ring rsm l12
          have topr : topD (dRg rs) = rs.length := by show (rs.map dRun).length = _; rw [List.length_map]
          have lisp : ∀ {H' : Hp} {t' : Nat}, PailAt H' p t' → Lk p [p] H' := fun {H' t'} h => ⟨List.mem_cons_self .., fun b hb => by
            rw [List.mem_singleton.mp hb]
            obtain ⟨x, y, e, _⟩ := h
            exact ⟨_, e⟩⟩
          have dpB := ring_dp (lisp hpB).2 hRB
          -- is_ring
          refine ⟨.ref r, rfl, .ref Tr, rfl, r, .ref Tr, dRg rs, ns, ps, rfl, RB, M, St, .inl (Dp.same rmS_same dpB), by have := gdr.bk; omega, by omega, fun HC sC => ?_⟩
          rw [ring_ok lr ne]
          refine ⟨true, true, rfl, rfl, _, rfl, iteF ?_⟩
          have hpC := pail_same hpB sC
          have hRC := hRB.same sC
          have hCC := hCB.same sC
          have b8C := b8B.trans (But.of sC)
          -- ten of them bent
          refine ⟨10, rfl, by decide, by decide, fun D nD => ?_⟩
          rw [show (10 : Int).toNat = 10 from rfl]
          have hDp : D ≠ p := pail_ne hpC nD
          have sD := same_upd (o := .lst []) nD
          refine lc_range (lo := 0) (n := 10) (fun k H' => But p HC H' ∧ ∃ (t' : Nat) (es : List PyData), PailAt H' p t' ∧ t' ≤ tB + 16 * k ∧ Lk p [D, p] H' ∧ Pile K H' [D, p] D es ∧ es.length = k ∧ ∀ d ∈ es, Fine d)
            ⟨But.of sD, tB, [], pail_same hpC sD, Nat.le_refl _, ((lisp hpC).same sD).add upd_same, Pile.nil nD, rfl, fun d hd => by cases hd⟩ (fun k H' hk h => ?_) fun HD h => ?_
          · obtain ⟨b', t', es, hp', ht', hL', pl', le', fe'⟩ := h
            have dp' := ring_dp hL'.2 (hRC.pail hpC b')
            refine ⟨by simp [wipe, List.set_set], tt_yes ⟨.ref p, rfl, .ref Tr, rfl, [D, p], p, t', .ref Tr, dRg rs, 3, 204, rfl, hL', hp', (show t' + 5 * (3 + 1) ≤ 1800 by omega), dp', lv_ring fun r hr => ⟨(rsm r hr).1, (rsm r hr).2.1⟩, gdr, by decide, by decide, fun H2 v d t2 ht2 hp2' b2 dp2 g2 tp2 => ?_⟩⟩
            obtain ⟨_, vs, eD1, hA1⟩ := pl'
            have ht2' : t2 ≤ t' + 4 * (3 + 1) := ht2
            have eD2 := b2 _ _ eD1 hDp
            have hL2 := hL'.but b2 hp2'
            have pl2 : Pile K H2 [D, p] D es := ⟨List.mem_cons_self .., vs, eD2, DpAll.same (hL'.mono b2) hA1⟩
            have lv2 := pl2.len eD2
            refine ⟨vs, eD2, by rw [sizeLine_eq]; omega, ?_, t2, es ++ [d], pail_set hp2' hDp, by omega, hL2.set, pl2.add eD2 dp2, by rw [List.length_append, le']; rfl, fun e he => ?_⟩
            · exact fun b o z nz => by rw [upd_ne (ne_of_none z nD)]; exact (b'.trans b2) b o z nz
            · rcases List.mem_append.mp he with z | z
              · exact fe' e z
              · rw [List.mem_singleton.mp z]
                exact ⟨g2.up (by decide) (by decide), by omega⟩
          · obtain ⟨b', t', es, hp', ht', hL', pl', le', fe'⟩ := h
            obtain ⟨ks, ek, hkT, hk⟩ := hRC.pail hpC b'
            obtain ⟨k0, ks', ekk⟩ : ∃ k0 ks', ks = k0 :: ks' := by
              cases h : ks with
              | nil => rw [h] at ek; exact absurd ek.symm ne
              | cons k0 ks' => exact ⟨k0, ks', rfl⟩
            have hk0 := hk k0 (by rw [ekk]; exact List.mem_cons_self ..)
            have er : rs = valR k0 :: ks'.map valR := by rw [← ek, ekk]; rfl
            have hw0 := lr.rn (valR k0) (by rw [er]; exact List.mem_cons_self ..)
            obtain ⟨x0, ws, ew⟩ : ∃ x0 ws, k0.2.2.2 = x0 :: ws := by
              cases h : k0.2.2.2 with
              | nil => exact absurd h hw0.2
              | cons x0 ws => exact ⟨x0, ws, rfl⟩
            have ex : x0 = x := by
              have z := mk_first (rs := ks'.map valR) hw0
              rw [← er] at z
              have z2 := lr.loop.1 _ z
              have z3 : fsW (valR k0).2 = x0 := by show fsW k0.2.2.2 = x0; rw [ew]; rfl
              rw [← z3, z2]
            subst ex
            have b8' := b8C.trans b'
            have hCD := tups_pail hpC b' hCC
            refine ⟨.ref p, rfl, .ref c, rfl, .ref Tr, rfl, Tr, _, 0, .ref k0.1, rfl, rfl, hkT, atI_nat (j := 0) (by rw [ekk]; rfl), k0.1, _, 1, .ref k0.2.1, rfl, rfl, hk0.1, atI_nat (j := 1) rfl, k0.2.1, _, 0, .int x0, rfl, rfl, hk0.2, atI_nat (j := 0) (by rw [ew]; rfl), ?_⟩
            refine ⟨[D, p], p, c, t', ns.length, x0, ps, rfl, hL', hp', by omega, hCD, hP, h8, St.few, hb, fun HE D2 ds2 tE htE hpE bE nD2 pl2 l2 fn2 => ?_⟩
            obtain ⟨_, vs, eD1, hA1⟩ := pl'
            have lv1 : vs.length = es.length := DpAll.len hA1
            have hLE := hL'.but bE hpE
            have eDE := bE _ _ eD1 hDp
            obtain ⟨_, us, eD2, hA2⟩ := pl2
            have lv2 : us.length = ds2.length := DpAll.len hA2
            have hA1' : DpAll K (rmS [p] HE) vs es := DpAll.same (rmS_less) (DpAll.same (hL'.mono bE) hA1)
            have hA2' : DpAll K (rmS [p] HE) us ds2 := DpAll.same rmS_less (DpAll.same rmS_less hA2)
            refine ⟨D, D2, vs, us, rfl, rfl, eDE, eD2, by rw [sizeLine_eq]; omega, fun S' nS' => ?_⟩
            have sS' := same_upd (o := .lst (vs ++ us)) nS'
            have upS : Same (rmS [p] HE) (rmS [S', p] (upd HE S' (.lst (vs ++ us)))) := (rmS_more nS').trans (rmS_mono sS')
            refine tail _ _ ⟨S', es ++ ds2, tE, _, _, _, _, _, rfl, by omega, (same_but b08 np (b8'.trans bE)).trans sS', (same_but b08 np (b8'.trans bE)).free nS', ⟨((((RB.same sC).pail hpC b').pail hp' bE).same sS'), (tups_pail hp' bE hCD).same sS', pail_same hpE sS', ((lisp hpE).same sS').add upd_same, ⟨List.mem_cons_self .., vs ++ us, upd_same, DpAll.app (DpAll.same upS hA1') (DpAll.same upS hA2')⟩, pail_ne hpE nS'⟩, by rw [List.length_append]; omega, fun d hd => ?_⟩
            rcases List.mem_append.mp hd with z | z
            · exact fe' d z
            · exact fn2 d z
    · rintro σ H1 ⟨y1, y2, y3, y4, y5, y6, y7, y8, y9, y10, y11, y12, y13, rfl, s1⟩
      exact q H1
end
end K4
set_option maxHeartbeats 4000000
namespace K4
open PySem PySem.Spec PyProof.Rows L2 RV
theorem def_mk {K : PySem.W.Frag} {h : Heap} {mg : Str → Option Value} {x : Str} {st : Stmt} {ps : List Str} {f : Addr} {oc : Value} {od an : Option Addr} {sl : Array (Option Value)} {kV dc pm cd ct : Value} (X : K.In h) (G : h.Ns mainGlobals mg)
    (a : PySem.W.nsIn K mainGlobals x = some (some (.ref f))) (l : K.lookup f = some ⟨oc, od, .func (PySem.W.fnOf x x (defArgs st) (defBody st) (defScope st) .none kV dc pm an cd ct), sl⟩) (c : PySem.W.codeIn K cd x = true) (k : PySem.W.keepIn K (.ref f) = true)
    (hb : ∀ (kV doc pm : Value) (an : Option Addr) (cdv ct : Value) (us : List Value), us.length = ps.length → bindArgs (PySem.W.fnOf x x (defArgs st) (defBody st) (defScope st) .none kV doc pm an cdv ct) ⟨us, []⟩ = pure (ps.zip us)) :
    DefAt K mg x st ps f (PySem.W.fnOf x x (defArgs st) (defBody st) (defScope st) .none kV dc pm an cd ct) :=
  let F := fun_mk (st := st) l c k
  ⟨F, F.binds hb, PySem.W.mg_of X G a⟩
theorem all_mk {l : PySem.W.OpenLaw} {w : World} {K : PySem.W.Frag} {h : Heap} {mg : Str → Option Value} {fa C f1 f2 f3 f4 f5 f6 f7 f8 f9 f10 f11 f12 f13 f14 f15 f16 f17 f18 f19 f20 f21 f22 f23 f24 f25 f26 f27 f28 f29 f30 f31 f32 f33 : Addr} {tk : Tok} (X : K.In h) (G : h.Ns mainGlobals mg) (hfa : mg "law" = some (.ref fa))
    {od1 an1 od2 an2 od3 an3 od4 an4 od5 an5 od6 an6 od7 an7 od8 an8 od9 an9 od10 an10 od11 an11 od12 an12 od13 an13 od14 an14 od15 an15 od16 an16 od17 an17 od18 an18 od19 an19 od20 an20 od21 an21 od22 an22 od23 an23 od24 an24 od25 an25 od26 an26 od27 an27 od28 an28 od29 an29 od30 an30 od31 an31 od32 an32 od33 an33 : Option Addr} {sl1 sl2 sl3 sl4 sl5 sl6 sl7 sl8 sl9 sl10 sl11 sl12 sl13 sl14 sl15 sl16 sl17 sl18 sl19 sl20 sl21 sl22 sl23 sl24 sl25 sl26 sl27 sl28 sl29 sl30 sl31 sl32 sl33 : Array (Option Value)}
    {oc1 kV1 dc1 pm1 cd1 ct1 oc2 kV2 dc2 pm2 cd2 ct2 oc3 kV3 dc3 pm3 cd3 ct3 oc4 kV4 dc4 pm4 cd4 ct4 oc5 kV5 dc5 pm5 cd5 ct5 oc6 kV6 dc6 pm6 cd6 ct6 oc7 kV7 dc7 pm7 cd7 ct7 oc8 kV8 dc8 pm8 cd8 ct8 oc9 kV9 dc9 pm9 cd9 ct9 oc10 kV10 dc10 pm10 cd10 ct10 oc11 kV11 dc11 pm11 cd11 ct11 oc12 kV12 dc12 pm12 cd12 ct12 oc13 kV13 dc13 pm13 cd13 ct13 oc14 kV14 dc14 pm14 cd14 ct14 oc15 kV15 dc15 pm15 cd15 ct15 oc16 kV16 dc16 pm16 cd16 ct16 oc17 kV17 dc17 pm17 cd17 ct17 oc18 kV18 dc18 pm18 cd18 ct18 oc19 kV19 dc19 pm19 cd19 ct19 oc20 kV20 dc20 pm20 cd20 ct20 oc21 kV21 dc21 pm21 cd21 ct21 oc22 kV22 dc22 pm22 cd22 ct22 oc23 kV23 dc23 pm23 cd23 ct23 oc24 kV24 dc24 pm24 cd24 ct24 oc25 kV25 dc25 pm25 cd25 ct25 oc26 kV26 dc26 pm26 cd26 ct26 oc27 kV27 dc27 pm27 cd27 ct27 oc28 kV28 dc28 pm28 cd28 ct28 oc29 kV29 dc29 pm29 cd29 ct29 oc30 kV30 dc30 pm30 cd30 ct30 oc31 kV31 dc31 pm31 cd31 ct31 oc32 kV32 dc32 pm32 cd32 ct32 oc33 kV33 dc33 pm33 cd33 ct33 : Value}
    (a1 : PySem.W.nsIn K mainGlobals "is_whole" = some (some (.ref f1)))
    (l1 : K.lookup f1 = some ⟨oc1, od1, .func (PySem.W.fnOf "is_whole" "is_whole" (defArgs sWhole) (defBody sWhole) (defScope sWhole) .none kV1 dc1 pm1 an1 cd1 ct1), sl1⟩)
    (c1 : PySem.W.codeIn K cd1 "is_whole" = true)
    (k1 : PySem.W.keepIn K (.ref f1) = true)
    (a2 : PySem.W.nsIn K mainGlobals "is_below" = some (some (.ref f2)))
    (l2 : K.lookup f2 = some ⟨oc2, od2, .func (PySem.W.fnOf "is_below" "is_below" (defArgs sMark) (defBody sMark) (defScope sMark) .none kV2 dc2 pm2 an2 cd2 ct2), sl2⟩)
    (c2 : PySem.W.codeIn K cd2 "is_below" = true)
    (k2 : PySem.W.keepIn K (.ref f2) = true)
    (a3 : PySem.W.nsIn K mainGlobals "are_marks" = some (some (.ref f3)))
    (l3 : K.lookup f3 = some ⟨oc3, od3, .func (PySem.W.fnOf "are_marks" "are_marks" (defArgs sMarks) (defBody sMarks) (defScope sMarks) .none kV3 dc3 pm3 an3 cd3 ct3), sl3⟩)
    (c3 : PySem.W.codeIn K cd3 "are_marks" = true)
    (k3 : PySem.W.keepIn K (.ref f3) = true)
    (a4 : PySem.W.nsIn K mainGlobals "are_mirrors" = some (some (.ref f4)))
    (l4 : K.lookup f4 = some ⟨oc4, od4, .func (PySem.W.fnOf "are_mirrors" "are_mirrors" (defArgs sMirrors) (defBody sMirrors) (defScope sMirrors) .none kV4 dc4 pm4 an4 cd4 ct4), sl4⟩)
    (c4 : PySem.W.codeIn K cd4 "are_mirrors" = true)
    (k4 : PySem.W.keepIn K (.ref f4) = true)
    (a5 : PySem.W.nsIn K mainGlobals "are_steps" = some (some (.ref f5)))
    (l5 : K.lookup f5 = some ⟨oc5, od5, .func (PySem.W.fnOf "are_steps" "are_steps" (defArgs sSteps) (defBody sSteps) (defScope sSteps) .none kV5 dc5 pm5 an5 cd5 ct5), sl5⟩)
    (c5 : PySem.W.codeIn K cd5 "are_steps" = true)
    (k5 : PySem.W.keepIn K (.ref f5) = true)
    (a6 : PySem.W.nsIn K mainGlobals "is_step" = some (some (.ref f6)))
    (l6 : K.lookup f6 = some ⟨oc6, od6, .func (PySem.W.fnOf "is_step" "is_step" (defArgs sStep) (defBody sStep) (defScope sStep) .none kV6 dc6 pm6 an6 cd6 ct6), sl6⟩)
    (c6 : PySem.W.codeIn K cd6 "is_step" = true)
    (k6 : PySem.W.keepIn K (.ref f6) = true)
    (a7 : PySem.W.nsIn K mainGlobals "is_rising" = some (some (.ref f7)))
    (l7 : K.lookup f7 = some ⟨oc7, od7, .func (PySem.W.fnOf "is_rising" "is_rising" (defArgs sRising) (defBody sRising) (defScope sRising) .none kV7 dc7 pm7 an7 cd7 ct7), sl7⟩)
    (c7 : PySem.W.codeIn K cd7 "is_rising" = true)
    (k7 : PySem.W.keepIn K (.ref f7) = true)
    (a8 : PySem.W.nsIn K mainGlobals "marks_behind" = some (some (.ref f8)))
    (l8 : K.lookup f8 = some ⟨oc8, od8, .func (PySem.W.fnOf "marks_behind" "marks_behind" (defArgs sBehind) (defBody sBehind) (defScope sBehind) .none kV8 dc8 pm8 an8 cd8 ct8), sl8⟩)
    (c8 : PySem.W.codeIn K cd8 "marks_behind" = true)
    (k8 : PySem.W.keepIn K (.ref f8) = true)
    (a9 : PySem.W.nsIn K mainGlobals "is_ring" = some (some (.ref f9)))
    (l9 : K.lookup f9 = some ⟨oc9, od9, .func (PySem.W.fnOf "is_ring" "is_ring" (defArgs sIsRing) (defBody sIsRing) (defScope sIsRing) .none kV9 dc9 pm9 an9 cd9 ct9), sl9⟩)
    (c9 : PySem.W.codeIn K cd9 "is_ring" = true)
    (k9 : PySem.W.keepIn K (.ref f9) = true)
    (a10 : PySem.W.nsIn K mainGlobals "is_run" = some (some (.ref f10)))
    (l10 : K.lookup f10 = some ⟨oc10, od10, .func (PySem.W.fnOf "is_run" "is_run" (defArgs sIsRun) (defBody sIsRun) (defScope sIsRun) .none kV10 dc10 pm10 an10 cd10 ct10), sl10⟩)
    (c10 : PySem.W.codeIn K cd10 "is_run" = true)
    (k10 : PySem.W.keepIn K (.ref f10) = true)
    (a11 : PySem.W.nsIn K mainGlobals "neighbours" = some (some (.ref f11)))
    (l11 : K.lookup f11 = some ⟨oc11, od11, .func (PySem.W.fnOf "neighbours" "neighbours" (defArgs sNeighb) (defBody sNeighb) (defScope sNeighb) .none kV11 dc11 pm11 an11 cd11 ct11), sl11⟩)
    (c11 : PySem.W.codeIn K cd11 "neighbours" = true)
    (k11 : PySem.W.keepIn K (.ref f11) = true)
    (a12 : PySem.W.nsIn K mainGlobals "_law_pail" = some (some (.ref f12)))
    (l12 : K.lookup f12 = some ⟨oc12, od12, .func (PySem.W.fnOf "_law_pail" "_law_pail" (defArgs sPail) (defBody sPail) (defScope sPail) .none kV12 dc12 pm12 an12 cd12 ct12), sl12⟩)
    (c12 : PySem.W.codeIn K cd12 "_law_pail" = true)
    (k12 : PySem.W.keepIn K (.ref f12) = true)
    (a13 : PySem.W.nsIn K mainGlobals "_law_draw" = some (some (.ref f13)))
    (l13 : K.lookup f13 = some ⟨oc13, od13, .func (PySem.W.fnOf "_law_draw" "_law_draw" (defArgs sDraw) (defBody sDraw) (defScope sDraw) .none kV13 dc13 pm13 an13 cd13 ct13), sl13⟩)
    (c13 : PySem.W.codeIn K cd13 "_law_draw" = true)
    (k13 : PySem.W.keepIn K (.ref f13) = true)
    (a14 : PySem.W.nsIn K mainGlobals "_law_of" = some (some (.ref f14)))
    (l14 : K.lookup f14 = some ⟨oc14, od14, .func (PySem.W.fnOf "_law_of" "_law_of" (defArgs sOf) (defBody sOf) (defScope sOf) .none kV14 dc14 pm14 an14 cd14 ct14), sl14⟩)
    (c14 : PySem.W.codeIn K cd14 "_law_of" = true)
    (k14 : PySem.W.keepIn K (.ref f14) = true)
    (a15 : PySem.W.nsIn K mainGlobals "_law_mirrors" = some (some (.ref f15)))
    (l15 : K.lookup f15 = some ⟨oc15, od15, .func (PySem.W.fnOf "_law_mirrors" "_law_mirrors" (defArgs sDMirrors) (defBody sDMirrors) (defScope sDMirrors) .none kV15 dc15 pm15 an15 cd15 ct15), sl15⟩)
    (c15 : PySem.W.codeIn K cd15 "_law_mirrors" = true)
    (k15 : PySem.W.keepIn K (.ref f15) = true)
    (a16 : PySem.W.nsIn K mainGlobals "_law_steps" = some (some (.ref f16)))
    (l16 : K.lookup f16 = some ⟨oc16, od16, .func (PySem.W.fnOf "_law_steps" "_law_steps" (defArgs sDSteps) (defBody sDSteps) (defScope sDSteps) .none kV16 dc16 pm16 an16 cd16 ct16), sl16⟩)
    (c16 : PySem.W.codeIn K cd16 "_law_steps" = true)
    (k16 : PySem.W.keepIn K (.ref f16) = true)
    (a17 : PySem.W.nsIn K mainGlobals "_law_off" = some (some (.ref f17)))
    (l17 : K.lookup f17 = some ⟨oc17, od17, .func (PySem.W.fnOf "_law_off" "_law_off" (defArgs sLOff) (defBody sLOff) (defScope sLOff) .none kV17 dc17 pm17 an17 cd17 ct17), sl17⟩)
    (c17 : PySem.W.codeIn K cd17 "_law_off" = true)
    (k17 : PySem.W.keepIn K (.ref f17) = true)
    (a18 : PySem.W.nsIn K mainGlobals "_law_behind" = some (some (.ref f18)))
    (l18 : K.lookup f18 = some ⟨oc18, od18, .func (PySem.W.fnOf "_law_behind" "_law_behind" (defArgs sLBehind) (defBody sLBehind) (defScope sLBehind) .none kV18 dc18 pm18 an18 cd18 ct18), sl18⟩)
    (c18 : PySem.W.codeIn K cd18 "_law_behind" = true)
    (k18 : PySem.W.keepIn K (.ref f18) = true)
    (a19 : PySem.W.nsIn K mainGlobals "_law_starts" = some (some (.ref f19)))
    (l19 : K.lookup f19 = some ⟨oc19, od19, .func (PySem.W.fnOf "_law_starts" "_law_starts" (defArgs sLStarts) (defBody sLStarts) (defScope sLStarts) .none kV19 dc19 pm19 an19 cd19 ct19), sl19⟩)
    (c19 : PySem.W.codeIn K cd19 "_law_starts" = true)
    (k19 : PySem.W.keepIn K (.ref f19) = true)
    (a20 : PySem.W.nsIn K mainGlobals "_law_closed" = some (some (.ref f20)))
    (l20 : K.lookup f20 = some ⟨oc20, od20, .func (PySem.W.fnOf "_law_closed" "_law_closed" (defArgs sClosed) (defBody sClosed) (defScope sClosed) .none kV20 dc20 pm20 an20 cd20 ct20), sl20⟩)
    (c20 : PySem.W.codeIn K cd20 "_law_closed" = true)
    (k20 : PySem.W.keepIn K (.ref f20) = true)
    (a21 : PySem.W.nsIn K mainGlobals "_law_runs" = some (some (.ref f21)))
    (l21 : K.lookup f21 = some ⟨oc21, od21, .func (PySem.W.fnOf "_law_runs" "_law_runs" (defArgs sRuns) (defBody sRuns) (defScope sRuns) .none kV21 dc21 pm21 an21 cd21 ct21), sl21⟩)
    (c21 : PySem.W.codeIn K cd21 "_law_runs" = true)
    (k21 : PySem.W.keepIn K (.ref f21) = true)
    (a22 : PySem.W.nsIn K mainGlobals "_law_is_number" = some (some (.ref f22)))
    (l22 : K.lookup f22 = some ⟨oc22, od22, .func (PySem.W.fnOf "_law_is_number" "_law_is_number" (defArgs sIsNum) (defBody sIsNum) (defScope sIsNum) .none kV22 dc22 pm22 an22 cd22 ct22), sl22⟩)
    (c22 : PySem.W.codeIn K cd22 "_law_is_number" = true)
    (k22 : PySem.W.keepIn K (.ref f22) = true)
    (a23 : PySem.W.nsIn K mainGlobals "_law_formed" = some (some (.ref f23)))
    (l23 : K.lookup f23 = some ⟨oc23, od23, .func (PySem.W.fnOf "_law_formed" "_law_formed" (defArgs sFormed) (defBody sFormed) (defScope sFormed) .none kV23 dc23 pm23 an23 cd23 ct23), sl23⟩)
    (c23 : PySem.W.codeIn K cd23 "_law_formed" = true)
    (k23 : PySem.W.keepIn K (.ref f23) = true)
    (a24 : PySem.W.nsIn K mainGlobals "_law_due" = some (some (.ref f24)))
    (l24 : K.lookup f24 = some ⟨oc24, od24, .func (PySem.W.fnOf "_law_due" "_law_due" (defArgs sDue) (defBody sDue) (defScope sDue) .none kV24 dc24 pm24 an24 cd24 ct24), sl24⟩)
    (c24 : PySem.W.codeIn K cd24 "_law_due" = true)
    (k24 : PySem.W.keepIn K (.ref f24) = true)
    (a25 : PySem.W.nsIn K mainGlobals "_law_odd" = some (some (.ref f25)))
    (l25 : K.lookup f25 = some ⟨oc25, od25, .func (PySem.W.fnOf "_law_odd" "_law_odd" (defArgs sOdd) (defBody sOdd) (defScope sOdd) .none kV25 dc25 pm25 an25 cd25 ct25), sl25⟩)
    (c25 : PySem.W.codeIn K cd25 "_law_odd" = true)
    (k25 : PySem.W.keepIn K (.ref f25) = true)
    (a26 : PySem.W.nsIn K mainGlobals "_law_bent" = some (some (.ref f26)))
    (l26 : K.lookup f26 = some ⟨oc26, od26, .func (PySem.W.fnOf "_law_bent" "_law_bent" (defArgs sBent) (defBody sBent) (defScope sBent) .none kV26 dc26 pm26 an26 cd26 ct26), sl26⟩)
    (c26 : PySem.W.codeIn K cd26 "_law_bent" = true)
    (k26 : PySem.W.keepIn K (.ref f26) = true)
    (a27 : PySem.W.nsIn K mainGlobals "_law_cut_words" = some (some (.ref f27)))
    (l27 : K.lookup f27 = some ⟨oc27, od27, .func (PySem.W.fnOf "_law_cut_words" "_law_cut_words" (defArgs sCutW) (defBody sCutW) (defScope sCutW) .none kV27 dc27 pm27 an27 cd27 ct27), sl27⟩)
    (c27 : PySem.W.codeIn K cd27 "_law_cut_words" = true)
    (k27 : PySem.W.keepIn K (.ref f27) = true)
    (a28 : PySem.W.nsIn K mainGlobals "_law_any_runs" = some (some (.ref f28)))
    (l28 : K.lookup f28 = some ⟨oc28, od28, .func (PySem.W.fnOf "_law_any_runs" "_law_any_runs" (defArgs sAnyRuns) (defBody sAnyRuns) (defScope sAnyRuns) .none kV28 dc28 pm28 an28 cd28 ct28), sl28⟩)
    (c28 : PySem.W.codeIn K cd28 "_law_any_runs" = true)
    (k28 : PySem.W.keepIn K (.ref f28) = true)
    (a29 : PySem.W.nsIn K mainGlobals "law" = some (some (.ref f29)))
    (l29 : K.lookup f29 = some ⟨oc29, od29, .func (PySem.W.fnOf "law" "law" (defArgs sLaw) (defBody sLaw) (defScope sLaw) .none kV29 dc29 pm29 an29 cd29 ct29), sl29⟩)
    (c29 : PySem.W.codeIn K cd29 "law" = true)
    (k29 : PySem.W.keepIn K (.ref f29) = true)
    (aC : PySem.W.nsIn K mainGlobals "Rule" = some (some (.ref C)))
    (a30 : PySem.W.findIn K (.ref C) "__init__" = some (some (.ref f30)))
    (i30 : PySem.W.isFn K (.ref f30) = true)
    (l30 : K.lookup f30 = some ⟨oc30, od30, .func (PySem.W.fnOf "__init__" "Rule.__init__" (defArgs sInit) (defBody sInit) (defScope sInit) .none kV30 dc30 pm30 an30 cd30 ct30), sl30⟩)
    (c30 : PySem.W.codeIn K cd30 "Rule.__init__" = true)
    (k30 : PySem.W.keepIn K (.ref f30) = true)
    (a31 : PySem.W.findIn K (.ref C) "marks" = some (some (.ref f31)))
    (i31 : PySem.W.isFn K (.ref f31) = true)
    (l31 : K.lookup f31 = some ⟨oc31, od31, .func (PySem.W.fnOf "marks" "Rule.marks" (defArgs sMarksM) (defBody sMarksM) (defScope sMarksM) .none kV31 dc31 pm31 an31 cd31 ct31), sl31⟩)
    (c31 : PySem.W.codeIn K cd31 "Rule.marks" = true)
    (k31 : PySem.W.keepIn K (.ref f31) = true)
    (a32 : PySem.W.findIn K (.ref C) "mirror" = some (some (.ref f32)))
    (i32 : PySem.W.isFn K (.ref f32) = true)
    (l32 : K.lookup f32 = some ⟨oc32, od32, .func (PySem.W.fnOf "mirror" "Rule.mirror" (defArgs sMirrorM) (defBody sMirrorM) (defScope sMirrorM) .none kV32 dc32 pm32 an32 cd32 ct32), sl32⟩)
    (c32 : PySem.W.codeIn K cd32 "Rule.mirror" = true)
    (k32 : PySem.W.keepIn K (.ref f32) = true)
    (a33 : PySem.W.findIn K (.ref C) "behind" = some (some (.ref f33)))
    (i33 : PySem.W.isFn K (.ref f33) = true)
    (l33 : K.lookup f33 = some ⟨oc33, od33, .func (PySem.W.fnOf "behind" "Rule.behind" (defArgs sBehindM) (defBody sBehindM) (defScope sBehindM) .none kV33 dc33 pm33 an33 cd33 ct33), sl33⟩)
    (c33 : PySem.W.codeIn K cd33 "Rule.behind" = true)
    (k33 : PySem.W.keepIn K (.ref f33) = true)
    (pg : PySem.W.plainGet K C Str.empty = true)
    (hd : PySem.W.hasDictIn K C = true)
    (po : PySem.W.plainOver K C = true)
    (sa : PySem.W.findIn K (.ref C) "__setattr__" = some (some (.builtin "object.__setattr__")))
    (mk : PySem.W.makesIn K C = true)
    (kc : PySem.W.keepIn K (.ref C) = true)
    (nM : PySem.W.findIn K (.ref C) "mirrors" = some none)
    (nS : PySem.W.findIn K (.ref C) "steps" = some none)
    (nF : PySem.W.findIn K (.ref C) "followers" = some none)
    (t1 : PySem.W.findIn K (.ref C) "__class__" = some (some (.builtin "object.__class__")))
    (t2 : PySem.W.specialIn K (.builtin "object.__class__") "__get__" = some (some (.builtin "getset_descriptor.__get__")))
    (t3 : PySem.W.takesIn K (.builtin "object.__class__") = some true)
    (t4 : PySem.W.mroIn K C (.type "object") = some true)
    (mM : PySem.W.nsIn K mainGlobals "MOST_MARKS" = some (some (.int 8 tk)))
    (z0 : PySem.W.nsIn K mainGlobals "len" = some none)
    (z1 : PySem.W.nsIn K mainGlobals "isinstance" = some none)
    (z2 : PySem.W.nsIn K mainGlobals "int" = some none)
    (z3 : PySem.W.nsIn K mainGlobals "bool" = some none)
    (z4 : PySem.W.nsIn K mainGlobals "tuple" = some none)
    (z5 : PySem.W.nsIn K mainGlobals "all" = some none)
    (z6 : PySem.W.nsIn K mainGlobals "enumerate" = some none)
    (z7 : PySem.W.nsIn K mainGlobals "zip" = some none)
    (z8 : PySem.W.nsIn K mainGlobals "range" = some none)
    (z9 : PySem.W.nsIn K mainGlobals "list" = some none)
    (z10 : PySem.W.nsIn K mainGlobals "set" = some none)
    (z11 : PySem.W.nsIn K mainGlobals "sorted" = some none)
    (z12 : PySem.W.nsIn K mainGlobals "abs" = some none)
    (z13 : PySem.W.nsIn K mainGlobals "max" = some none)
    (z14 : PySem.W.nsIn K mainGlobals "min" = some none)
    (z15 : PySem.W.nsIn K mainGlobals "repr" = some none)
    (z16 : PySem.W.nsIn K mainGlobals "dict" = some none)
    (z17 : PySem.W.nsIn K mainGlobals "str" = some none) :
    ∃ fd : FuncData, (∀ (s : Shared) (v : Value), BindsTo s fd ⟨[v], []⟩ [("_law_script", v)]) ∧ ∀ base : Heap, K.In base → base.Ns mainGlobals mg → FnG l.prog w K mg base CX0 9 fa fd ["_law_script"] (spLaw K) := by
  have e := hfa.symm.trans (PySem.W.mg_of X G a29)
  cases e
  have B : Bare mg := ⟨PySem.W.mg_none_of X G z0, PySem.W.mg_none_of X G z1, PySem.W.mg_none_of X G z2, PySem.W.mg_none_of X G z3, PySem.W.mg_none_of X G z4, PySem.W.mg_none_of X G z5, PySem.W.mg_none_of X G z6, PySem.W.mg_none_of X G z7, PySem.W.mg_none_of X G z8, PySem.W.mg_none_of X G z9, PySem.W.mg_none_of X G z10, PySem.W.mg_none_of X G z11, PySem.W.mg_none_of X G z12, PySem.W.mg_none_of X G z13, PySem.W.mg_none_of X G z14, PySem.W.mg_none_of X G z15, PySem.W.mg_none_of X G z16, PySem.W.mg_none_of X G z17⟩
  have D1 := def_mk (st := sWhole) (ps := ["thing"]) X G a1 l1 c1 k1 fun _ _ _ _ _ _ us hl => match us, hl with | [_], _ => rfl
  have D2 := def_mk (st := sMark) (ps := ["thing", "many"]) X G a2 l2 c2 k2 fun _ _ _ _ _ _ us hl => match us, hl with | [_, _], _ => rfl
  have D3 := def_mk (st := sMarks) (ps := ["thing", "many"]) X G a3 l3 c3 k3 fun _ _ _ _ _ _ us hl => match us, hl with | [_, _], _ => rfl
  have D4 := def_mk (st := sMirrors) (ps := ["thing"]) X G a4 l4 c4 k4 fun _ _ _ _ _ _ us hl => match us, hl with | [_], _ => rfl
  have D5 := def_mk (st := sSteps) (ps := ["mirrors", "thing"]) X G a5 l5 c5 k5 fun _ _ _ _ _ _ us hl => match us, hl with | [_, _], _ => rfl
  have D6 := def_mk (st := sStep) (ps := ["thing", "many"]) X G a6 l6 c6 k6 fun _ _ _ _ _ _ us hl => match us, hl with | [_, _], _ => rfl
  have D7 := def_mk (st := sRising) (ps := ["pairs"]) X G a7 l7 c7 k7 fun _ _ _ _ _ _ us hl => match us, hl with | [_], _ => rfl
  have D8 := def_mk (st := sBehind) (ps := ["steps", "mark"]) X G a8 l8 c8 k8 fun _ _ _ _ _ _ us hl => match us, hl with | [_, _], _ => rfl
  have D9 := def_mk (st := sIsRing) (ps := ["rule", "thing"]) X G a9 l9 c9 k9 fun _ _ _ _ _ _ us hl => match us, hl with | [_, _], _ => rfl
  have D10 := def_mk (st := sIsRun) (ps := ["rule", "thing"]) X G a10 l10 c10 k10 fun _ _ _ _ _ _ us hl => match us, hl with | [_, _], _ => rfl
  have D11 := def_mk (st := sNeighb) (ps := ["ring"]) X G a11 l11 c11 k11 fun _ _ _ _ _ _ us hl => match us, hl with | [_], _ => rfl
  have D12 := def_mk (st := sPail) (ps := ["_law_script", "_law_at"]) X G a12 l12 c12 k12 fun _ _ _ _ _ _ us hl => match us, hl with | [_, _], _ => rfl
  have D13 := def_mk (st := sDraw) (ps := ["_law_pail_here", "_law_many"]) X G a13 l13 c13 k13 fun _ _ _ _ _ _ us hl => match us, hl with | [_, _], _ => rfl
  have D14 := def_mk (st := sOf) (ps := ["_law_pail_here", "_law_some"]) X G a14 l14 c14 k14 fun _ _ _ _ _ _ us hl => match us, hl with | [_, _], _ => rfl
  have D15 := def_mk (st := sDMirrors) (ps := ["_law_pail_here", "_law_many"]) X G a15 l15 c15 k15 fun _ _ _ _ _ _ us hl => match us, hl with | [_, _], _ => rfl
  have D16 := def_mk (st := sDSteps) (ps := ["_law_pail_here", "_law_mirrors_here"]) X G a16 l16 c16 k16 fun _ _ _ _ _ _ us hl => match us, hl with | [_, _], _ => rfl
  have D17 := def_mk (st := sLOff) (ps := ["_law_steps_here", "_law_goal"]) X G a17 l17 c17 k17 fun _ _ _ _ _ _ us hl => match us, hl with | [_, _], _ => rfl
  have D18 := def_mk (st := sLBehind) (ps := ["_law_steps_here", "_law_mark"]) X G a18 l18 c18 k18 fun _ _ _ _ _ _ us hl => match us, hl with | [_, _], _ => rfl
  have D19 := def_mk (st := sLStarts) (ps := ["_law_steps_here", "_law_many"]) X G a19 l19 c19 k19 fun _ _ _ _ _ _ us hl => match us, hl with | [_, _], _ => rfl
  have D20 := def_mk (st := sClosed) (ps := ["_law_pail_here", "_law_steps_here", "_law_start", "_law_most"]) X G a20 l20 c20 k20 fun _ _ _ _ _ _ us hl => match us, hl with | [_, _, _, _], _ => rfl
  have D21 := def_mk (st := sRuns) (ps := ["_law_pail_here", "_law_steps_here", "_law_start", "_law_few"]) X G a21 l21 c21 k21 fun _ _ _ _ _ _ us hl => match us, hl with | [_, _, _, _], _ => rfl
  have D22 := def_mk (st := sIsNum) (ps := ["_law_thing"]) X G a22 l22 c22 k22 fun _ _ _ _ _ _ us hl => match us, hl with | [_], _ => rfl
  have D23 := def_mk (st := sFormed) (ps := ["_law_thing", "_law_many"]) X G a23 l23 c23 k23 fun _ _ _ _ _ _ us hl => match us, hl with | [_, _], _ => rfl
  have D24 := def_mk (st := sDue) (ps := ["_law_thing", "_law_many", "_law_steps_here"]) X G a24 l24 c24 k24 fun _ _ _ _ _ _ us hl => match us, hl with | [_, _, _], _ => rfl
  have D25 := def_mk (st := sOdd) (ps := ["_law_pail_here", "_law_thing"]) X G a25 l25 c25 k25 fun _ _ _ _ _ _ us hl => match us, hl with | [_, _], _ => rfl
  have D26 := def_mk (st := sBent) (ps := ["_law_pail_here", "_law_thing"]) X G a26 l26 c26 k26 fun _ _ _ _ _ _ us hl => match us, hl with | [_, _], _ => rfl
  have D27 := def_mk (st := sCutW) (ps := ["_law_pail_here", "_law_steps_here", "_law_start"]) X G a27 l27 c27 k27 fun _ _ _ _ _ _ us hl => match us, hl with | [_, _, _], _ => rfl
  have D28 := def_mk (st := sAnyRuns) (ps := ["_law_pail_here", "_law_many"]) X G a28 l28 c28 k28 fun _ _ _ _ _ _ us hl => match us, hl with | [_, _], _ => rfl
  have F29 := fun_mk (st := sLaw) l29 c29 k29
  have F30 := fun_mk (st := sInit) l30 c30 k30
  have b30 := F30.binds (ps := ["self", "mirrors", "steps"]) fun _ _ _ _ _ _ us hl => match us, hl with | [_, _, _], _ => rfl
  have F31 := fun_mk (st := sMarksM) l31 c31 k31
  have b31 := F31.binds (ps := ["self"]) fun _ _ _ _ _ _ us hl => match us, hl with | [_], _ => rfl
  have F32 := fun_mk (st := sMirrorM) l32 c32 k32
  have b32 := F32.binds (ps := ["self", "mark"]) fun _ _ _ _ _ _ us hl => match us, hl with | [_, _], _ => rfl
  have F33 := fun_mk (st := sBehindM) l33 c33 k33
  have b33 := F33.binds (ps := ["self", "mark"]) fun _ _ _ _ _ _ us hl => match us, hl with | [_, _], _ => rfl
  have T : Txt K mg C := ⟨⟨pg, hd, po, sa⟩, nM, nS, nF, PySem.W.mg_of X G aC, t1, t2, t3, t4, kit_self⟩
  have mm := PySem.W.mg_of X G mM
  refine ⟨PySem.W.fnOf "law" "law" (defArgs sLaw) (defBody sLaw) (defScope sLaw) .none kV29 dc29 pm29 an29 cd29 ct29, fun s v => .of_eq rfl, fun base _ _ => ?_⟩
  have G3 : FnOk l.prog w K mg base CX0 3 f3 _ ["thing", "many"] (spMarks K) := ok_marks D3.fn D2 D1 B
  have G4 : FnOk l.prog w K mg base CX0 4 f4 _ ["thing"] (spMirrors K) := ok_mirrors D4.fn D3 G3 B mm
  have G6 : FnOk l.prog w K mg base CX0 4 f6 _ ["thing", "many"] (spStep K) := ok_step D6.fn D3 G3 B
  have G5 : FnOk l.prog w K mg base CX0 5 f5 _ ["mirrors", "thing"] (spSteps K) := ok_steps D5.fn D6 G6 D7 B
  have GI : FnOk l.prog w K mg base CX0 6 f30 _ ["self", "mirrors", "steps"] (spInit K C) := ok_init F30 T D4 G4 D5 G5 D8 B
  have GIR : FnOk l.prog w K mg base CX0 5 f9 _ ["rule", "thing"] (spIsRingD K C) := ok_isringD D9.fn T B F31 b31 ⟨a31, i31, k31⟩ F33 b33 ⟨a33, i33, k33⟩ D10 D11 D3 D2 D1
  have GDU : FnOk l.prog w K mg base CX0 3 f24 _ ["_law_thing", "_law_many", "_law_steps_here"] (spDue K) := ok_due D24.fn D23 D22 B
  exact ok_law F29 T B ⟨mk, a30, i30, kc⟩ b30 GI ⟨D12, D13, D14, D15, D16, D17, D18, D19, D20, D21, D26, D27, D28, D24, D25⟩ GDU D9 GIR
end K4
open PySem PySem.W PyProof.Rows
set_option maxRecDepth 100000 in
set_option maxHeartbeats 0 in
theorem PySem.Challenge.cw_ringvouch_k04_rings_or_not_holds : PySem.Challenge.rw_ringvouch_k04_rings_or_not.Holds := by
  w_on; o_law; k_head; (case hw => w_witness2)
  k_fill
  refine RV.walk_G (l := PySem.Challenge.rw_ringvouch_k04_rings_or_not) (n := 63) (k := 9) (x := "_law_script") (sp := fun w => K4.spLaw _) rfl (by decide) rfl ⟨rfl, by decide, by decide⟩ (fun w h Y => PySem.W.kIn_of Y) ?F (fun _ _ a ns hl _ hS => ⟨a, ns, rfl, hS, hl, fun _ => rfl⟩)
  case F =>
    intro w mg fa h KX G hmg
    refine' K4.all_mk KX G hmg ?a1 ?l1 ?c1 ?k1 ?a2 ?l2 ?c2 ?k2 ?a3 ?l3 ?c3 ?k3 ?a4 ?l4 ?c4 ?k4 ?a5 ?l5 ?c5 ?k5 ?a6 ?l6 ?c6 ?k6 ?a7 ?l7 ?c7 ?k7 ?a8 ?l8 ?c8 ?k8 ?a9 ?l9 ?c9 ?k9 ?a10 ?l10 ?c10 ?k10 ?a11 ?l11 ?c11 ?k11 ?a12 ?l12 ?c12 ?k12 ?a13 ?l13 ?c13 ?k13 ?a14 ?l14 ?c14 ?k14 ?a15 ?l15 ?c15 ?k15 ?a16 ?l16 ?c16 ?k16 ?a17 ?l17 ?c17 ?k17 ?a18 ?l18 ?c18 ?k18 ?a19 ?l19 ?c19 ?k19 ?a20 ?l20 ?c20 ?k20 ?a21 ?l21 ?c21 ?k21 ?a22 ?l22 ?c22 ?k22 ?a23 ?l23 ?c23 ?k23 ?a24 ?l24 ?c24 ?k24 ?a25 ?l25 ?c25 ?k25 ?a26 ?l26 ?c26 ?k26 ?a27 ?l27 ?c27 ?k27 ?a28 ?l28 ?c28 ?k28 ?a29 ?l29 ?c29 ?k29 ?aC ?a30 ?i30 ?l30 ?c30 ?k30 ?a31 ?i31 ?l31 ?c31 ?k31 ?a32 ?i32 ?l32 ?c32 ?k32 ?a33 ?i33 ?l33 ?c33 ?k33 ?pg ?hd ?po ?sa ?mk ?kc ?nM ?nS ?nF ?t1 ?t2 ?t3 ?t4 ?mM ?z0 ?z1 ?z2 ?z3 ?z4 ?z5 ?z6 ?z7 ?z8 ?z9 ?z10 ?z11 ?z12 ?z13 ?z14 ?z15 ?z16 ?z17
    (case a1 => k_is)
    (case l1 => k_is)
    (case c1 => k_is)
    (case k1 => k_is)
    (case a2 => k_is)
    (case l2 => k_is)
    (case c2 => k_is)
    (case k2 => k_is)
    (case a3 => k_is)
    (case l3 => k_is)
    (case c3 => k_is)
    (case k3 => k_is)
    (case a4 => k_is)
    (case l4 => k_is)
    (case c4 => k_is)
    (case k4 => k_is)
    (case a5 => k_is)
    (case l5 => k_is)
    (case c5 => k_is)
    (case k5 => k_is)
    (case a6 => k_is)
    (case l6 => k_is)
    (case c6 => k_is)
    (case k6 => k_is)
    (case a7 => k_is)
    (case l7 => k_is)
    (case c7 => k_is)
    (case k7 => k_is)
    (case a8 => k_is)
    (case l8 => k_is)
    (case c8 => k_is)
    (case k8 => k_is)
    (case a9 => k_is)
    (case l9 => k_is)
    (case c9 => k_is)
    (case k9 => k_is)
    (case a10 => k_is)
    (case l10 => k_is)
    (case c10 => k_is)
    (case k10 => k_is)
    (case a11 => k_is)
    (case l11 => k_is)
    (case c11 => k_is)
    (case k11 => k_is)
    (case a12 => k_is)
    (case l12 => k_is)
    (case c12 => k_is)
    (case k12 => k_is)
    (case a13 => k_is)
    (case l13 => k_is)
    (case c13 => k_is)
    (case k13 => k_is)
    (case a14 => k_is)
    (case l14 => k_is)
    (case c14 => k_is)
    (case k14 => k_is)
    (case a15 => k_is)
    (case l15 => k_is)
    (case c15 => k_is)
    (case k15 => k_is)
    (case a16 => k_is)
    (case l16 => k_is)
    (case c16 => k_is)
    (case k16 => k_is)
    (case a17 => k_is)
    (case l17 => k_is)
    (case c17 => k_is)
    (case k17 => k_is)
    (case a18 => k_is)
    (case l18 => k_is)
    (case c18 => k_is)
    (case k18 => k_is)
    (case a19 => k_is)
    (case l19 => k_is)
    (case c19 => k_is)
    (case k19 => k_is)
    (case a20 => k_is)
    (case l20 => k_is)
    (case c20 => k_is)
    (case k20 => k_is)
    (case a21 => k_is)
    (case l21 => k_is)
    (case c21 => k_is)
    (case k21 => k_is)
    (case a22 => k_is)
    (case l22 => k_is)
    (case c22 => k_is)
    (case k22 => k_is)
    (case a23 => k_is)
    (case l23 => k_is)
    (case c23 => k_is)
    (case k23 => k_is)
    (case a24 => k_is)
    (case l24 => k_is)
    (case c24 => k_is)
    (case k24 => k_is)
    (case a25 => k_is)
    (case l25 => k_is)
    (case c25 => k_is)
    (case k25 => k_is)
    (case a26 => k_is)
    (case l26 => k_is)
    (case c26 => k_is)
    (case k26 => k_is)
    (case a27 => k_is)
    (case l27 => k_is)
    (case c27 => k_is)
    (case k27 => k_is)
    (case a28 => k_is)
    (case l28 => k_is)
    (case c28 => k_is)
    (case k28 => k_is)
    (case a29 => k_is)
    (case l29 => k_is)
    (case c29 => k_is)
    (case k29 => k_is)
    (case aC => k_is)
    (case a30 => k_is)
    (case i30 => k_is)
    (case l30 => k_is)
    (case c30 => k_is)
    (case k30 => k_is)
    (case a31 => k_is)
    (case i31 => k_is)
    (case l31 => k_is)
    (case c31 => k_is)
    (case k31 => k_is)
    (case a32 => k_is)
    (case i32 => k_is)
    (case l32 => k_is)
    (case c32 => k_is)
    (case k32 => k_is)
    (case a33 => k_is)
    (case i33 => k_is)
    (case l33 => k_is)
    (case c33 => k_is)
    (case k33 => k_is)
    (case pg => k_is)
    (case hd => k_is)
    (case po => k_is)
    (case sa => k_is)
    (case mk => k_is)
    (case kc => k_is)
    (case nM => k_is)
    (case nS => k_is)
    (case nF => k_is)
    (case t1 => k_is)
    (case t2 => k_is)
    (case t3 => k_is)
    (case t4 => k_is)
    (case mM => k_is)
    (case z0 => k_is)
    (case z1 => k_is)
    (case z2 => k_is)
    (case z3 => k_is)
    (case z4 => k_is)
    (case z5 => k_is)
    (case z6 => k_is)
    (case z7 => k_is)
    (case z8 => k_is)
    (case z9 => k_is)
    (case z10 => k_is)
    (case z11 => k_is)
    (case z12 => k_is)
    (case z13 => k_is)
    (case z14 => k_is)
    (case z15 => k_is)
    (case z16 => k_is)
    (case z17 => k_is)
