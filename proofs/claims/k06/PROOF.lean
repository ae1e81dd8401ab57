import PyProof.Rows.All
import Wide.All
import OpenK.AllK
import Wide.FinOn
import HandS.ForMost
import KE.GoesEnum
import HandS.Style
import KE.KRevSl
import PyProof.ReprRoads
import HandS.OwnEq
import PyProof.InstNe
import HandS.TupSets
import HandS.IsInst
import HandS.Walk
import HandS.Zip
import HandS.TupAny
import HandS.Deep
import HandS.Conv
import HandS.More
import HandS.Wide
import HandS.SortRule
import HandS.SortOrd
import KE.KDictSum
import HandS.TupMul
import PyProof.AutoSeq1
import KE.KDictZip
import KE.KItemsList
import KE.GoesMore
import HandS.ListItems
import HandS.Rev
import HandS.Strs
import HandS.SetBool
import KE.DataMinMax
import HandS.NamedTupSort
import PyProof.ReprBulk
import HandS.RaiseMore
import HandS.Dict
import HandS.WordsDict
import PySem.Challenge.RW_ringvouch_k06_turned_and_mirrored
set_option Elab.async false
set_option linter.all false
set_option maxRecDepth 100000
namespace RV
open PySem PySem.Spec PyProof.Rows L2
set_option maxHeartbeats 4000000 in
theorem meets_en1 {val : Value} {ob : Obj} {HH : Heap → Prop} (B : Begins val ob HH) :
    Meets (Builtin.«enumerate.__new__» ⟨[.type "enumerate", val], []⟩) (fun _ R st => HH st.heap ∧
      R (.ok (.ret (.ref (st.heap.push ob).objs.size)))
        { st with heap := (st.heap.push ob).push { cls := .type "enumerate", data := .fields #[.none, .bool false, .ref st.heap.objs.size, rawInt 0, .none, .none] } }) :=
  .of_wp fun prog w A R st hyp => by
    obtain ⟨hp, gs, dr, tk, os⟩ := st
    obtain ⟨hyp1, hyp2⟩ := hyp
    have hsub := sub_enumerate
    have it1 : ∀ {A' : Around} {E : Value → Shared → Prop} {Q : Value → Shared → Prop}, Q (.ref hp.objs.size) ⟨hp.push ob, gs, dr, tk, os⟩ →
        wpAny (model prog w) A' (pyIter val) Q E ⟨hp, gs, dr, tk, os⟩ := fun q => B.iter prog w _ _ ⟨hp, gs, dr, tk, os⟩ _ hyp1 q
    wp_walk using it1
    refine wpAny_stack_any fun sk => wpAny_pure ?_
    split
    · rename_i cc _ _ _ _ _
      cases (cc == Value.type "enumerate") <;> (wp_walk using it1; exact ⟨_, rfl, hyp2⟩)
    · wp_walk using it1
      exact ⟨_, rfl, hyp2⟩
section
variable {prog : Program} {w : World} {A : Around} {E : Value → Shared → Prop} {s : Shared}
theorem call_en1 {val : Value} {ob : Obj} {HH : Heap → Prop} {Q : Value → Shared → Prop} (B : Begins val ob HH) (hh : HH s.heap)
    (k : ∀ h', IsEnum h' (s.heap.objs.size + 1) s.heap.objs.size 0 .none → h'.get? s.heap.objs.size = some ob → h'.objs.size = s.heap.objs.size + 2 →
      (∀ b o, s.heap.get? b = some o → h'.get? b = some o) → Q (.ref (s.heap.objs.size + 1)) { s with heap := h' }) :
    wpAny (model prog w) A (call (.type "enumerate") [val]) Q E s := by
  refine callType_new F.called_enumerate (by decide) (F.typeCall_enumerate_1 _) (F.newCall_enumerate_1 _) (fun oo => F.args_object_init_2 oo _) F.entry_enumerate_new (meets_en1 B) ⟨hh, ?_⟩
  have z1 : (s.heap.push ob).objs.size = s.heap.objs.size + 1 := Heap.size_push ..
  show _ ∧ _
  rw [z1]
  have z2 : IsEnum ((s.heap.push ob).push { cls := .type "enumerate", data := .fields #[.none, .bool false, .ref s.heap.objs.size, rawInt 0, .none, .none] }) (s.heap.objs.size + 1) s.heap.objs.size 0 .none := by
    have z3 := Heap.get?_push_size (s.heap.push ob) (o := { cls := .type "enumerate", data := .fields #[.none, .bool false, .ref s.heap.objs.size, rawInt 0, .none, .none] }) rfl
    rw [z1] at z3; exact z3
  refine ⟨⟨_, z2, rfl⟩, k _ z2 (Heap.get?_push_of_some _ (Heap.get?_push_size _ B.free)) (by rw [Heap.size_push, z1]) fun b o x => ?_⟩
  exact Heap.get?_push_of_some _ (Heap.get?_push_of_some _ x)
end
/-- enumerate of a tuple: the items in new pairs -/
def IteT (K : PySem.W.Frag) (a : Addr) : It where
  go i H := ∃ (xs : List V) (x : V), SqT K H a xs ∧ xs[i]? = some x
  yld i H v H' := ∃ T x, v = .ref T ∧ H T = none ∧ H' = upd H T (.tup [.int (i : Nat), x]) ∧ ∀ xs, SqT K H a xs → xs[i]? = some x
  stop i H := ∃ xs : List V, SqT K H a xs ∧ xs.length ≤ i
theorem turn_enT {P : Program} {w : World} {K : PySem.W.Frag} {elts : List Expr} {kk : Nat} {tpos : Pos} (a e it : Addr) :
    Turn P w K (.Tuple elts kk tpos) (IteT K a) [e, it] e (fun i h => (∃ old, IsEnum h e it ((i : Nat) : Int) old) ∧ h.IsTupleIter it a i ∧ e ≠ it ∧ a ≠ it ∧ a ≠ e) where
  mem := by simp
  obj := fun i h st b hb => by
    obtain ⟨⟨old, he⟩, ⟨o, ho, hc, hd⟩, _, _⟩ := st
    have eb : b = e ∨ b = it := by simpa using hb
    rcases eb with rfl | rfl
    · exact ⟨_, he, fun v q => nomatch q⟩
    · exact ⟨o, ho, fun v q => by rw [hd] at q; cases q⟩
  keep := fun i h h' st k => let ⟨⟨old, he⟩, hi, hne⟩ := st; ⟨⟨old, k e (by simp) _ he⟩, hi.at fun o q => k it (by simp) o q, hne⟩
  item := by
    intro X hP hw hK hc i pins s σ H E I hf st hg
    subst hP hw hK
    obtain ⟨⟨old, he⟩, hit, hne, hai, hae⟩ := st
    obtain ⟨xs, x, hq, hx⟩ := hg
    obtain ⟨its, rv, p, hz⟩ := I.tuple hq
    obtain ⟨u, hu, ru⟩ := rv.get hx
    have hel : e < s.heap.objs.size := Heap.lt_size he
    have hil : it < s.heap.objs.size := by obtain ⟨_, q, _⟩ := hit; exact Heap.lt_size q
    have hi : i < its.toArray.size := by
      have := (List.getElem?_eq_some_iff.mp hu).1
      simpa using this
    refine wpAny_pyNext_enum_itemD (A := X.A) (Draws.tuple (A := X.A.in1) (show X.A.in1.handled = none from I.ok.hd hc) it a hai its.toArray) he ⟨hit, p⟩ hi hne (by simp [hne, Ne.symm hae]) fun y h' tk hy ho hst hT hsz hk => ?_
    have hyu : y = u := by
      have e1 : its[i]? = some y := by simpa using hy
      rw [hu] at e1
      exact (Option.some.inj e1).symm
    subst hyu
    refine ⟨_, rfl, wpAny_letOwnedTupleGo_enum (s := { s with heap := h', toks := tk + 1 }) ho fun h'' he' sb => ?_⟩
    have hT2 : h''.get? s.heap.objs.size = some { cls := .type "tuple", data := .seq #[.int i tk, y] } := (sb.2 _ (Nat.ne_of_gt hel)).trans hT
    have new : ObjOk X.prog X.w (upd H s.heap.objs.size (.tup [.int (i : Nat), x])) h'' s.heap.objs.size (.tup [.int (i : Nat), x]) :=
      ⟨by show 2 ≤ sizeLine; decide, [.int i tk, y], .cons ⟨_, rfl⟩ (.cons ru .nil), ⟨_, hT2, rfl, _, rfl⟩⟩
    have I1 : Inv X pins σ (upd H s.heap.objs.size (.tup [.int (i : Nat), x])) { s with heap := h'', toks := tk + 1 } := by
      refine I.turnedNew (ch := [e, it]) (fun b ob hb q => ?_) hf (Nat.le_refl _) new
      exact (sb.2 b (fun z => hb (by simp [z]))).trans (hk b ob (fun z => hb (by simp [z])) (fun z => hb (by simp [z])) q)
    refine ⟨.ref s.heap.objs.size, _, I1, rfl, ⟨_, x, rfl, I.hok.fresh (Nat.le_refl _), rfl, fun ys hy => ?_⟩, ⟨⟨y, ?_⟩, hst.1.at fun o q => (sb.2 it (Ne.symm hne)).trans q, hne, hai, hae⟩, fun b hb => ?_⟩
    · rw [I.tuple_inj hy hq]; exact hx
    · rw [show ((i + 1 : Nat) : Int) = (i : Int) + 1 by omega]; exact he'
    · have eb : b = e ∨ b = it := by simpa using hb
      have hb' : b < s.heap.objs.size := by
        rcases eb with z | z <;> rw [z] <;> assumption
      rw [upd_ne (Nat.ne_of_lt hb')]
      exact (hf b hb).1
  done := by
    intro X hP hw hK hc i pins s σ H E I hf st hg
    subst hP hw hK
    obtain ⟨⟨old, he⟩, hit, hne, hai, hae⟩ := st
    obtain ⟨xs, hq, hx⟩ := hg
    obtain ⟨its, rv, p, hz⟩ := I.tuple hq
    obtain ⟨f0, f1, f2, f3, f4, f5⟩ := hf it (by simp)
    have hl := rv.length
    have hT : s.TypeIs (.ref e) "enumerate" := ⟨_, he, rfl⟩
    unfold pyNext
    refine wpAny_bind (wpAny_attempt (wpAny_callSpecial?_slot (name := Str.ofString "__next__") hT F.slot_enumerate_next (wpAny_call_entry F.slot_enumerate_next hT F.entry_enumerate_next ?_ (F.args_enumerate_next_1 _))))
    show wpAny _ _ (field (.ref e) 2 >>= _) _ _ _
    refine wpAny_bind (wpAny_field he rfl (x := .ref it) rfl ?_)
    refine wpAny_bind (wpAny_nextOf_tuple_end (I.ok.hd hc) hit p (by simp; omega) fun h' x he' hx' => ?_)
    obtain ⟨o, ho, hco⟩ := hx'
    refine wpAny_bind (wpAny_isInstance (T := "StopIteration") (b := true) ⟨o, ho, hco⟩ isSubtype_stop ?_)
    exact wpAny_pure ⟨rfl, I.turned (t' := s.toks) (fun b o hb q => he' b o hb q) f0 f1 f3 f4 f5⟩
  self := fun A i s Q E st h => let ⟨⟨_, he⟩, _⟩ := st; wpAny_pyIter_enum he h
def iEnT (K : PySem.W.Frag) (ta : TA) : TI := fun σ H R => ta σ H fun vs H1 => ∃ a xs, vs = [.ref a] ∧ SqT K H1 a xs ∧ R (IteT K a) H1
theorem pi_enT {X : Cx} {e : Expr} {ta : TA} {p pos tpos : Pos} {elts : List Expr} {kk : Nat} (hg : Gl X "enumerate") (hm : X.mg "enumerate" = none) (ha : PA X [e] ta)
    (hs : starEach [e] X.env = [(false, eval e X.env)] := by rfl) : PI X (.Tuple elts kk tpos) (.Call (.Name "enumerate" p) [e] [] pos) (iEnT X.K ta) := by
  refine ⟨fun pins s σ H R I h => Call_ (ld_blt I hg hm boot_enumerate (PyProof.Rows.callWith_type1 (thn (ha.run pos pins s σ H _ I h) fun us s1 ⟨vs, H1, I1, r1, q1⟩ => ?_) hs rfl))⟩
  obtain ⟨a, xs, ex, hq, q⟩ := q1
  subst ex
  cases r1 with
  | cons r rr =>
    cases rr
    cases r
    obtain ⟨its, rv, p', hz⟩ := I1.tuple hq
    have ha0 : a < s1.heap.objs.size := by
      obtain ⟨o, ho, _⟩ := p'
      exact Heap.lt_size ho
    refine call_en1 (begins_tuple a its.toArray) p' fun h' he hit hsz hk => wpAny_pyIter_enum he ?_
    have I2 : Inv X pins σ H1 { s1 with heap := h' } := I1.kept (t' := s1.toks) hk
    refine ⟨s1.heap.objs.size + 1, [s1.heap.objs.size + 1, s1.heap.objs.size], _, _, H1, rfl, I2, turn_enT a (s1.heap.objs.size + 1) s1.heap.objs.size,
      ⟨⟨.none, he⟩, ⟨_, hit, rfl, rfl⟩, Nat.succ_ne_self _, Nat.ne_of_lt ha0, Nat.ne_of_lt (Nat.lt_succ_of_lt ha0)⟩, fun b hb => ?_, q⟩
    have eb : b = s1.heap.objs.size + 1 ∨ b = s1.heap.objs.size := by simpa using hb
    have hle : s1.heap.objs.size ≤ b := by
      rcases eb with z | z
      · rw [z]; exact Nat.le_add_right _ _
      · rw [z]; exact Nat.le_refl _
    exact I1.fpOk hle (I1.hok.fresh hle)
end RV
set_option maxHeartbeats 4000000
namespace RV
open PySem PySem.Spec PyProof.Rows L2 HT
theorem back_places (n : Nat) : Builtin.Slice.slicePlaces ((n : Int) - 1) (-1) (-1) = n := by
  unfold Builtin.Slice.slicePlaces
  rw [if_neg (show ¬ ((-1 : Int) > 0) by decide)]
  by_cases hn : (n : Int) - 1 > -1
  · rw [if_pos hn, show (- -1 : Int) = 1 from rfl, Int.ediv_one]; omega
  · rw [if_neg hn]; omega
theorem back_pick (xs : Array Value) : ((List.range xs.size).filterMap fun (m : Nat) => xs[((xs.size : Int) - 1 + (m : Int) * (-1)).toNat]?).toArray = xs.toList.reverse.toArray := by
  have e0 : ∀ (l : List Nat), (∀ m ∈ l, m < xs.size) → l.filterMap (fun (m : Nat) => xs[((xs.size : Int) - 1 + (m : Int) * (-1)).toNat]?) = (l.map fun k => xs.size - 1 - k).filterMap (xs[·]?) := by
    intro l
    induction l with
    | nil => intro _; rfl
    | cons m r ih =>
      intro hm
      have h1 := hm m (List.mem_cons_self ..)
      have h2 := ih fun z hz => hm z (List.mem_cons_of_mem _ hz)
      rw [List.map_cons, List.filterMap_cons, List.filterMap_cons, h2, show ((xs.size : Int) - 1 + (m : Int) * (-1)).toNat = xs.size - 1 - m by omega]
  have e1 := e0 (List.range xs.size) fun m hm => List.mem_range.mp hm
  rw [e1, PySem.W.krv_range, List.filterMap_reverse, PySem.W.krv_all]
section
variable {prog : Program} {w : World} {A : Around} {E : Value → Shared → Prop} {s : Shared}
theorem applied_back {sl : Addr} {vl vu vs : Value} {n : Nat} {Q : Int × Int × Nat → Shared → Prop} (hs : s.heap.IsSliceOf sl vl vu vs) (pl : IsPart vl none) (pu : IsPart vu none) (ps : IsPart vs (some (-1)))
    (k : Q ((n : Int) - 1, -1, n) s) : wpAny (model prog w) A (Builtin.Slice.sliceApplied (.ref sl) (pure (n : Int))) Q E s := by
  obtain ⟨os, o1, o2, o3⟩ := id hs
  unfold Builtin.Slice.sliceApplied Builtin.Slice.sliceFields
  refine wpAny_bind (wpAny_bind (wpAny_field o1 o3 (x := vl) rfl (wpAny_bind (wpAny_field o1 o3 (x := vu) rfl (wpAny_bind (wpAny_field o1 o3 (x := vs) rfl (wpAny_pure ?_)))))))
  refine wpAny_bind (slicePart_ ps ?_)
  show wpAny _ _ (if ((-1 : Int) == 0) = true then _ else _) _ _ s
  rw [if_neg (by decide)]
  refine wpAny_bind (slicePart_ pl (wpAny_bind (slicePart_ pu (wpAny_bind (wpAny_pure ?_)))))
  show wpAny _ _ (pure ((n : Int) - 1, (-1 : Int), Builtin.Slice.slicePlaces ((n : Int) - 1) (-1) (-1))) _ _ s
  rw [back_places]
  exact wpAny_pure k
theorem item_back {t sl : Addr} {items : Array Value} {vl vu vs : Value} {Q : Value → Shared → Prop} (ht : IsTup s.heap t items) (hs : s.heap.IsSliceOf sl vl vu vs) (pl : IsPart vl none) (pu : IsPart vu none) (ps : IsPart vs (some (-1)))
    (k : Q (.ref s.heap.objs.size) { s with heap := s.heap.push { cls := .type "tuple", data := .seq items.toList.reverse.toArray } })
    (hsz : items.size ≤ sizeLine) : wpAny (model prog w) A (getItem (.ref t) (.ref sl)) Q E s := by
  have hok : sizeOk (.seq items.toList.reverse.toArray) := by
    show items.toList.reverse.toArray.size ≤ sizeLine
    simpa using hsz
  obtain ⟨os, o1, o2, o3⟩ := id hs
  have hTs : s.TypeIs (.ref sl) "slice" := ⟨os, o1, o2⟩
  unfold getItem
  try with_reducible refine wpAny_holding ?_
  first | refine wpAny_bind (wpAny_pure ?_) | skip
  refine wpAny_bind (wpAny_sequenceKey ht.typeIs (by decide) ?_)
  refine wpAny_bind (wpAny_callSpecial?_slot (name := Str.ofString "__getitem__") ht.typeIs PyProof.Rows.slot_tuple_getitem (wpAny_call_entry PyProof.Rows.slot_tuple_getitem ht.typeIs entry_tuple_getitem ?_ (args_tuple_getitem _ _)))
  show wpAny _ _ (Builtin.Tuple.tupleItemsOf (.ref t) >>= _) _ _ s
  refine wpAny_bind (tupleItemsOf_ ht (wpAny_bind (wpAny_typeOf hTs ?_)))
  rw [if_pos (by decide)]
  refine wpAny_bind (applied_back hs pl pu ps ?_)
  show wpAny _ _ (if (((items.size : Int) - 1) == 0 && (-1 : Int) == 1 && items.size == items.size) = true then _ else _) _ _ s
  rw [if_neg (by simp), back_pick]
  first
    | exact wpAny_bind (m := Builtin.Tuple.tupleExact _) (wpAny_newObj_type (wpAny_pure ⟨_, rfl, wpAny_pure k⟩) hok)
    | exact wpAny_bind (wpAny_bind (m := Builtin.Tuple.tupleExact _) (wpAny_newObj_type (wpAny_pure (wpAny_pure ⟨_, rfl, wpAny_pure k⟩)) hok))
    | exact wpAny_bind (wpAny_bind (m := Builtin.Tuple.tupleExact _) (wpAny_newObj_type (wpAny_pure ⟨_, rfl, wpAny_pure k⟩) hok))
    | exact wpAny_bind (m := Builtin.Tuple.tupleExact _) (wpAny_newObj_type (wpAny_bind (wpAny_pure (wpAny_pure ⟨_, rfl, wpAny_pure k⟩))) hok)
end
section
variable {X : Cx}
/-- t[::-1] of a tuple -/
def tBackT (K : PySem.W.Frag) (te : TE) : TE := fun σ H Q => te σ H fun x H1 => ∃ a xs, x = .ref a ∧ SqT K H1 a xs ∧ ∀ p, H1 p = none → Q (.ref p) (upd H1 p (.tup xs.reverse))
theorem pe_backT {e : Expr} {te : TE} {k : Nat} {p1 p2 p3 pos : Pos} (he : PE X e te) : PE X (.Subscript e (.Slice none none (some (.UnaryOp .USub (.Constant (.int 1) k p1) p2)) p3) pos) (tBackT X.K te) := by
  refine ⟨fun pins s σ H Q I h => Subscript_ (thn (he.run pins s σ H _ I h) fun v s1 ⟨x, H1, I1, r1, q1⟩ => ?_)⟩
  obtain ⟨a, xs, ex, hx, q⟩ := q1
  subst ex
  cases r1
  have hst : PO X (some (.UnaryOp .USub (.Constant (.int 1) k p1) p2)) (tPart (tUn (rU fun i => .int (-i)) (tC (.int 1)))) := po_some (pe_un un_neg pe_int)
  refine wpAny_Slice (thn (po_none.run pins s1 σ H1 (fun o H2 => o = none ∧ H2 = H1) I1 ⟨rfl, rfl⟩) fun vl s2 ⟨l, H2, I2, pl, el, e2⟩ => ?_)
  subst el e2
  refine thn (po_none.run pins s2 σ H2 (fun o H3 => o = none ∧ H3 = H2) I2 ⟨rfl, rfl⟩) fun vu s3 ⟨u, H3, I3, pu, eu, e3⟩ => ?_
  subst eu e3
  refine thn (hst.run pins s3 σ H3 (fun o H4 => o = some (-1) ∧ H4 = H3) I3 ⟨1, rfl, -1, rfl, rfl, rfl⟩) fun vs s4 ⟨o, H4, I4, ps, eo, e4⟩ => ?_
  subst eo e4
  have I5 : Inv X pins σ H4 { s4 with heap := s4.heap.push { cls := .type "slice", data := .fields #[vl, vu, vs] } } := I4.kept (t' := s4.toks) fun b ob q => Heap.get?_push_of_some _ q
  obtain ⟨its, r, ht, hz⟩ := I5.tuple hx
  have hlen := r.length
  show wpAny (model X.prog X.w) X.A (subscriptTail e _ (.ref a) (.ref s4.heap.objs.size)) (EP X pins σ Q) X.xe { s4 with heap := s4.heap.push { cls := .type "slice", data := .fields #[vl, vu, vs] } }
  refine tail_any (ops := [.ref a, .ref s4.heap.objs.size]) ht.typeIs (PyProof.Rows.slot_tuple_getitem.lookup) ?_ (by with_unfolding_all rfl)
  refine item_back ht (Heap.IsSliceOf.new _ vl vu vs) pl pu ps ?_ (by rw [List.size_toArray]; omega)
  refine ⟨.ref _, _, I5.laid (t' := s4.toks) (o := .tup xs.reverse) (fun b ob q => Heap.get?_push_of_some _ q) (Nat.le_refl _) ?_, rfl, q _ (I5.hok.fresh (Nat.le_refl _))⟩
  exact ⟨by rw [List.length_reverse]; exact hz, its.reverse, r.reverse, IsTup.new _ _⟩
end
end RV
set_option maxHeartbeats 4000000
namespace RV
open PySem PySem.Spec PyProof.Rows L2
/-- as the layer's promise of a def, where no repr runs around -/
structure FnG (P : Program) (w : World) (K : PySem.W.Frag) (mg : Str → Option Value) (base : Heap) (CX : CXT) (k : Nat) (f : Addr) (fd : FuncData) (ps : List Str) (sp : Sp) : Prop where
  many : ∀ vs H Q E, sp vs H Q E → vs.length = ps.length
  goes : ∀ (A : Around) (outer : List Env) (s : Shared) (H : Hp) (args : Args) (us : List Value) (vs : List V) (Q : VK) (E : XK), A.guards = some [] → Room k A → Env0 P w K mg base A outer s H →
    BindsTo s fd args (ps.zip us) → Vals vs us → sp vs H Q E → codeAny (model P w) A (.call (.ref f) args) (CR CX outer P w H s Q E) s
section
variable {P : Program} {w : World} {K : PySem.W.Frag} {mg : Str → Option Value} {base : Heap} {CX : CXT} {k : Nat} {f : Addr} {fd : FuncData} {N ps : List Str} {sp : Sp} {x qual : Str} {st : Stmt}
theorem okG (F : Fun K x qual st f fd) (S : FnScope N ps (defScope st)) (len : ∀ vs H Q E, sp vs H Q E → vs.length = ps.length)
    (body : ∀ (cdv : Value) (A : Around) (outer : List Env) (s : Shared) (H : Hp) (vs : List V) (Q : VK) (E : XK), A.guards = some [] → Room k (A.deeper (envOfC qual (defScope st) s.heap.objs.size f cdv)) → sp vs H Q E →
      ∃ t, PSs (cxOf CX0 P w K mg base N qual (defScope st) f cdv A outer s H E).nox (defBody st) t ∧ t { nx := fun _ H' => Q .non H', rt := Q } (start N vs) H) : FnG P w K mg base CX0 (k + 1) f fd ps sp := by
  obtain ⟨oc, od, kV, doc, pm, an, cdv, ct, osl, rfl, lk, hcd⟩ := F.ex
  refine ⟨len, fun A outer s H args us vs Q E gd hr e0 hb r hsp => ?_⟩
  have KX : K.In s.heap := e0.mod.kin.keeps fun b o z => (e0.bs b o z).1
  have lim : s.heap.NoLimit := e0.mod.nolimit.keeps fun b o z => (e0.bs b o z).1
  have kinds : ∀ y ∈ ps.zip us, (defScope st).names.lookup y.1 = some .local ∨ ((defScope st).names.lookup y.1 = some .cell ∧ ((cellsFrom (s.heap.objs.size + 1) (defScope st).names []).lookup y.1).isSome = true) := by
    rintro ⟨n, v⟩ hy
    exact (S.par n (List.of_mem_zip hy).1).imp id fun q => ⟨q, PySem.W.cellsFrom_some _ _ _ (.inl q)⟩
  refine codeAny_call_function hr.depth (KX _ _ lk) rfl S.co S.gen rfl (PySem.W.codeRec_of KX hcd) (hb _ _ _ _ (wpAny_newFunctionEnv_cells S.kind kinds fun env he s1 z => ?_))
  subst he
  refine ⟨lim.keeps z.toInCall.keep, codeAny_func ?_⟩
  obtain ⟨t, ht, hq⟩ := body cdv A outer s H vs Q E gd (hr.deeper _) hsp
  have I : Inv (cxOf CX0 P w K mg base N qual (defScope st) f cdv A outer s H E) [] (start N vs) H s1 := inv_start S hr.hd e0 (len _ _ _ _ hsp) r z
  refine wpAny_mono (ht.nox.run [] s1 (start N vs) H _ I hq) (fun fl s' hs => ?_) fun e s' hs => hs
  cases fl with
  | ret u =>
    obtain ⟨v, σ', H', J, rv, q⟩ := hs
    exact ⟨v, H', J.os, J.bare, J.base, J.hok, rv, q⟩
  | next =>
    obtain ⟨σ', H', J, q⟩ := hs
    exact ⟨V.non, H', J.os, J.bare, J.base, J.hok, rfl, q⟩
  | brk => exact hs.elim fun _ z => z.elim fun _ y => False.elim y.2
  | cont => exact hs.elim fun _ z => z.elim fun _ y => False.elim y.2
end
section
variable {X : Cx} {CX : CXT} {k : Nat} {f : Addr} {fd : FuncData} {ps : List Str} {sp : Sp} {dvs : List V} {ds : List Value} {E : XK} {x : Str} {p pos : Pos} {e : Expr} {es : List Expr} {t : TA}
/-- f(e, ..) of such a def -/
theorem pe_callG (F : FnG X.prog X.w X.K X.mg X.base CX k f fd ps sp) (gd : X.A.guards = some []) (hr : Room k X.A) (hg : Gl X x) (hm : X.mg x = some (.ref f)) (hk : PySem.W.keepIn X.K (.ref f) = true) (hb : Binds X.K fd ps ds) (hd : Vals dvs ds) (hx : Passes CX X E)
    (ha : PA X (e :: es) t) (hdb : (x == ("__debug__" : Str)) = false := by decide) (he : starEach (e :: es) X.env = (false, eval e X.env) :: starEach es X.env := by rfl) (hpl : (backTo pos (starEach es X.env)).any (·.1) = false := by rfl) :
    PE X (.Call (.Name x p) (e :: es) [] pos) (tCall sp dvs E t) := by
  refine ⟨fun pins s σ H Q I h => wpAny_Call_Name_kw (ld_glob I hg hm ?_ hdb)⟩
  refine PySem.W.callWith_K (h₀ := X.base) I.ok.mod.kin hk (thn (ha.run pos pins s σ H _ I h) fun us s1 ⟨vs, H1, I1, r, q⟩ => ⟨I1.kIn, ?_⟩) he hpl
  have r2 : Vals (vs ++ dvs) (us ++ ds) := r.append hd
  have hl : (us ++ ds).length = ps.length := r2.length ▸ F.many _ _ _ _ q
  refine wpAny_call (codeAny_mono (F.goes X.A X.stack s1 H1 ⟨us, []⟩ (us ++ ds) (vs ++ dvs) Q E gd hr I1.env0 (hb s1 us I1.kIn hl) r2 q) fun rr s' hq => ?_)
  cases rr with
  | error ee => exact hx pins σ H1 s1 ee s' I1 hq
  | ok fl => cases fl <;> first | exact I1.after hq | exact False.elim hq
/-- repr(x), x an object read as data -/
theorem call_reprD (gd : X.A.guards = some []) (hu : X.A.units + 65 < cLine) : CallR X (.builtin "repr") (fun xs H Q => ∃ (a : Addr) (d : PyData), xs = [.ref a] ∧ Dp X.K H (.ref a) d ∧ d.showable = true ∧ d.hasDict = false ∧ d.depth ≤ 64 ∧ d.shown.length ≤ sizeLine ∧ Q (.str d.shown) H) := by
  intro pins s σ H xs us Q I r h
  obtain ⟨a, d, rfl, hd, h1, h2, h3, h4, q⟩ := h
  obtain ⟨u, rfl, ru⟩ := vals1 r
  cases ru
  obtain ⟨as, rd⟩ := Dp.reads I d (.ref a) (.ref a) hd rfl
  refine repr_of_reads' rd h1 (fun z => by rw [h2] at z; cases z) gd (by omega) (fun _ _ z => z) (fun h' uu tk k => ?_) h4
  exact ⟨.str d.shown, H, I.kept k, ⟨uu, rfl⟩, q⟩
end
section
/-- the law's call, from such a promise -/
theorem law_callG {P : Program} {w : World} {K : PySem.W.Frag} {mg mb : Str → Option Value} {k : Nat} {fa a : Addr} {fd : FuncData} {x : Str} {sp : Sp} {st : Shared} {vs : List Value} {ns : List Int}
    (KX : K.In st.heap) (n1 : st.heap.Ns mainGlobals mg) (n2 : st.heap.Ns builtinsNs mb) (n3 : ∀ x : Str, x ≠ "__name__" → mb x = bootBuiltins x) (n4 : st.heap.NoLimit) (n5 : st.gens = #[])
    (ha : st.heap.get? a = some { cls := .type "list", data := .seq vs.toArray }) (hi : IntsAre vs ns) (hl : ns.length ≤ sizeLine) (hr : Room k callerA)
    (F : ∀ base : Heap, K.In base → base.Ns mainGlobals mg → FnG P w K mg base CX0 k fa fd [x] sp) (bnd : ∀ (s : Shared) (u : Value), BindsTo s fd ⟨[u], []⟩ [(x, u)])
    (hsp : ∀ H : Hp, Only H → SqL K H a (ns.map V.int) → sp [.ref a] H (fun v _ => v = .bl true) fun _ _ _ => False) :
    codeAny (model P w) callerA (.call (.ref fa) ⟨[.ref a], []⟩) (fun r s' => r = .ok (.ret (.bool true)) ∧ OldK st.heap s'.heap ∧ s'.os = st.os ∧ AllBare s'.gens) st := by
  have rv := vals_ints hi
  have lv := hi.length
  have key : ∀ H : Hp, Only H → SqL K H a (ns.map V.int) → HOk P w H st.heap → (∀ b, H b ≠ none → b = a) → (H a ≠ none → K.lookup a = none) →
      codeAny (model P w) callerA (.call (.ref fa) ⟨[.ref a], []⟩) (fun r s' => r = .ok (.ret (.bool true)) ∧ OldK st.heap s'.heap ∧ s'.os = st.os ∧ AllBare s'.gens) st := by
    intro H hO hS hok hA hK
    have noA : ∀ {b : Addr} {o : Obj} {es : Array DictEntry} {ep : Nat}, st.heap.get? b = some o → o.data = .dict es ep → H b = none := by
      intro b o es ep e d
      cases q : H b with
      | none => rfl
      | some u =>
        obtain rfl : b = a := hA b (by rw [q]; simp)
        rw [ha] at e
        cases e
        cases (show Data.seq vs.toArray _ = Data.dict es ep from d)
    have nsK : ∀ {b : Addr} {m : Str → Option Value}, st.heap.Ns b m → (hidT st.heap H).Ns b m := fun {b m} ⟨o, es, ep, e, d, r⟩ => ⟨o, es, ep, hidT_get e (noA e d), d, r⟩
    have kb : K.In (hidT st.heap H) := fun b o e => hidT_get (KX b o e) (by
      cases q : H b with
      | none => rfl
      | some u =>
        obtain rfl : b = a := hA b (by rw [q]; simp)
        rw [hK (by rw [q]; simp)] at e
        cases e)
    obtain ⟨mc, l1, l2⟩ := n4
    have e0 : Env0 P w K mg (hidT st.heap H) callerA [] st H :=
      ⟨rfl, ⟨kb, nsK n1, ⟨mb, nsK n2, n3⟩, ⟨mc, nsK l1, l2⟩⟩, fun b o e => of_hidT e, Nat.le_of_eq (hidT_size _ _), trivial, fun b hb => absurd (show b ∈ ([] : List Addr) from hb) (by simp), hok, .of_eq n5⟩
    refine codeAny_mono ((F _ kb (nsK n1)).goes callerA [] st H ⟨[.ref a], []⟩ [.ref a] [.ref a] _ _ rfl hr e0 (bnd st (.ref a)) (.cons rfl .nil) (hsp H hO hS)) fun r s' h => ?_
    cases r with
    | error e => exact False.elim h
    | ok fl =>
      cases fl with
      | next => exact False.elim h
      | brk => exact False.elim h
      | cont => exact False.elim h
      | ret u =>
        obtain ⟨v, H', os, bare, un, hok', r', q⟩ := h
        obtain rfl : v = .bl true := q
        obtain rfl : u = Value.bool true := r'
        refine ⟨rfl, OldK.of_keep fun b o e => ?_, os, bare⟩
        rcases hO b with z | ⟨ob, xs, z⟩
        · exact un.keep b o e z (fun y => absurd (show b ∈ ([] : List Addr) from y) (by simp)) (by simp)
        · have z2 := un.frzs b ob _ z
          obtain ⟨e1, _⟩ := hok b _ z
          obtain ⟨e2, _⟩ := hok' b _ z2
          rw [e] at e1
          cases e1
          exact e2
  cases hk : K.lookup a with
  | some o =>
    have e := KX a o hk
    rw [ha] at e
    cases e
    exact key (fun _ => none) (fun _ => .inl rfl) (.inr ⟨_, vs.toArray, _, hk, rfl, rfl, rfl, by rw [List.size_toArray, lv]; exact hl, by simpa using rv⟩)
      (fun b u z => by cases (show (none : Option HO) = some u from z)) (fun b z => absurd rfl z) fun z => absurd rfl z
  | none =>
    refine key (fun b => if b = a then some (.frz { cls := .type "list", data := .seq vs.toArray } (.lst (ns.map V.int))) else none) (fun b => ?_) (.inl (.inr ⟨{ cls := .type "list", data := .seq vs.toArray }, if_pos rfl⟩)) (fun b u z => ?_) (fun b z => ?_) fun _ => hk
    · by_cases hb : b = a
      · exact .inr ⟨_, _, if_pos hb⟩
      · exact .inl (if_neg hb)
    · by_cases hb : b = a
      · cases (if_pos hb).symm.trans z
        subst hb
        exact ⟨ha, by rw [List.length_map]; exact hl, vs, _, rv, ha⟩
      · cases (if_neg hb).symm.trans z
    · exact Classical.byContradiction fun hb => z (if_neg hb)
theorem walk_G {l : PySem.W.OpenLaw} {n k : Nat} {q : Program} {loose : List Str} {XP : (Str → Option Value) → Heap → Prop} {YP : World → Heap → Prop} {d : DefRec} {K : Params → PySem.W.Frag} {sp : World → Sp} {x : Str}
    (hn : l.most = some n) (hn2 : n ≤ sizeLine) (hdf : d.params.defaults = []) (hr : Room k callerA) (hY : ∀ (w : World) (h : Heap), YP w h → (K w.params).In h)
    (F : ∀ (w : World) (mg : Str → Option Value) (fa : Addr) (h : Heap), (K w.params).In h → h.Ns mainGlobals mg → mg d.name = some (.ref fa) →
      ∃ fd : FuncData, (∀ (s : Shared) (u : Value), BindsTo s fd ⟨[u], []⟩ [(x, u)]) ∧ ∀ base : Heap, (K w.params).In base → base.Ns mainGlobals mg → FnG l.prog w (K w.params) mg base CX0 k fa fd [x] (sp w))
    (hsp : ∀ (w : World) (H : Hp) (a : Addr) (ns : List Int), ns.length ≤ n → Only H → SqL (K w.params) H a (ns.map V.int) → sp w [.ref a] H (fun v _ => v = .bl true) fun _ _ _ => False) :
    PySem.W.WalkO q loose XP YP l.row.toRowW d [] (fun f vs => PySem.call f vs) := by
  refine Att.attach_call hn hdf fun w s₀ st mg mb fa o pm cd doc a vs ns G Y ho hd hcd hmg hobj hints hlen hg => ?_
  obtain ⟨fd, hb, hF⟩ := F w mg fa _ (hY w _ Y) G.T.g hmg
  exact law_callG (hY w _ Y) G.T.g G.T.b G.T.builtins G.T.nolimit hg hobj hints (Nat.le_trans hlen hn2) hr hF hb fun H hO hS => hsp w H a ns hlen hO hS
end
end RV
set_option maxHeartbeats 4000000
namespace RV
open PySem PySem.Spec PyProof.Rows L2 PySem.W
section
variable {prog : Program} {w : World} {A : Around} {E : Value → Shared → Prop} {s : Shared} {K : Frag} {x C L f : Addr} {h₀ : Heap} {m : Str → Option Value} {ox : Obj} {od : Option Obj} {b tb : Value}
theorem ne_bound {Q : Option Value → Shared → Prop} (X : K.In s.heap) (I : InstAt s.heap x ox C od) (hs : findIn K (.ref C) "__ne__" = some (some (.builtin "object.__ne__")))
    (h : wpAny (model prog w) A (call (.builtin "object.__ne__") [.ref x, b]) (fun v => Q (some v)) E s) : wpAny (model prog w) A (callSpecialIfBound? (.ref x) "__ne__" [b]) Q E s := by
  simp only [callSpecialIfBound?, bindSpecialIfBound?]
  refine wpAny_holding (wpAny_bind (wpAny_bind (wpAny_bind (I.type.here ((looks_findIn X hs).here ?_)))))
  refine wpAny_bind (wpAny_askSetting (wpAny_ite ?_))
  have fin : wpAny (model prog w) A (call (.builtin "object.__ne__") ([.ref x] ++ [b]) >>= fun v => pure (some v)) Q E s :=
    wpAny_bind (wpAny_mono h (fun v s' z => wpAny_pure z) fun _ _ z => z)
  split
  · rw [F.cmp_object.ne.bind]
    exact wpAny_bind (wpAny_pure (wpAny_pure fin))
  · rw [F.cmp_object.ne.bind]
    exact wpAny_tryCatch (wpAny_bind (wpAny_pure (wpAny_pure fin)))
theorem obj_ne {Q : Fin → Shared → Prop} (X : K.In s.heap) (hu : A.units < cLine) (I : InstAt s.heap x ox C od) (hs : findIn K (.ref C) "__eq__" = some (some (.ref f))) (hf : isFn K (.ref f) = true)
    (h : wpAny (model prog w) A (call (.ref f) [.ref x, b]) (fun v s' => ∃ c, v = .bool c ∧ Q (.done (.ret (.bool (!c)))) s') E s) :
    wpAny (model prog w) A (Builtin.«object.__ne__» ⟨[.ref x, b], []⟩) Q E s := by
  unfold Builtin.«object.__ne__»
  repeat (first
    | with_reducible refine wpAny_cRoomFor hu ?_
    | (refine wpAny_bind (m := callSpecialIfBound? (.ref x) (Str.ofString "__eq__") [b])
        (ifBound_K X I hs hf (wpAny_mono h (fun r s' hr => by
          obtain ⟨c, rfl, hq⟩ := hr
          repeat (first | exact hq | exact wpAny_pure hq | exact wpAny_truthy_bool hq | (refine wpAny_bind (m := truthy (.bool _)) (wpAny_truthy_bool ?_)) | wp_step)) fun _ _ z => z)))
    | wp_step)
theorem cmp_ne {Q : Value → Shared → Prop} (hu : A.units + 1 < cLine) (F0 : Fr h₀ L s.heap m) (X₀ : K.In h₀) (I : InstAt s.heap x ox C od) (hb : Looks (model prog w) s.heap (typeOf b) (.ref C))
    (hn : findIn K (.ref C) "__ne__" = some (some (.builtin "object.__ne__"))) (hm : mroIn K C (.type "object") = some true)
    (hs : findIn K (.ref C) "__eq__" = some (some (.ref f))) (hf : isFn K (.ref f) = true)
    (h : wpAny (model prog w) A.in1 (call (.ref f) [.ref x, b]) (fun v s' => ∃ c, v = .bool c ∧ Q (.bool (!c)) s') E s) : wpAny (model prog w) A (richCompare .NotEq (.ref x) b) Q E s := by
  have X := X₀.keeps F0.keep
  have one : wpAny (model prog w) A (tryCompare (.ref x) "__ne__" b) (fun r s' => ∃ v, r = some v ∧ Q v s') E s := by
    unfold tryCompare
    refine wpAny_bind (ne_bound X I hn (wpAny_call (codeAny_call_builtin F.cmp_object.ne.plain F.cmpEntry_ne ?_)))
    refine check_slot F.cmpKind_ne F.cmpSplit_ne ?_ (F.cmpArgs_ne _ _) ?_
    · exact I.type.andThen (looks_mroIn X hm)
    · refine obj_ne (A := A.in1) X hu I hs hf (wpAny_mono h (fun v s' hv => ?_) fun _ _ z => z)
      obtain ⟨c, rfl, hq⟩ := hv
      exact ⟨c, rfl, wpAny_pure ⟨_, rfl, hq⟩⟩
  unfold richCompare
  simp only [oneThing_ref]
  refine wpAny_holding (wpAny_bind (wpAny_cRoomFor (Nat.lt_of_succ_lt hu) ?_))
  rw [cmpInfo_NotEq]
  dsimp only
  refine wpAny_bind (I.type.here (wpAny_bind (hb.here ?_)))
  rw [show (Value.ref C != Value.ref C) = false from by simp]
  simp only [Bool.false_eq_true, if_false]
  refine wpAny_bind (wpAny_pure ?_)
  simp only [Bool.false_eq_true, if_false]
  refine wpAny_bind (wpAny_mono one (fun r s' z => ?_) fun _ _ z => z)
  obtain ⟨v, rfl, hq⟩ := z
  exact wpAny_pure hq
end
section
variable {X : Cx} {CX : CXT} {n : Nat} {C f : Addr} {fd : FuncData} {ps : List Str} {sp : Sp} {E : XK}
/-- x != y, instances of the class at C, by the text's own == -/
def rNeI (C : Addr) (sp : Sp) (E : XK) : R2 := fun x y H Q => ∃ a b dx dy fs gs, x = .ref a ∧ y = .ref b ∧ H a = some (.ins C dx fs) ∧ H b = some (.ins C dy gs) ∧ sp [.ref a, .ref b] H (fun v H' => ∃ c, v = .bl c ∧ Q (.bl (!c)) H') E
def rEqI (C : Addr) (sp : Sp) (E : XK) : R2 := fun x y H Q => ∃ a b dx dy fs gs, x = .ref a ∧ y = .ref b ∧ H a = some (.ins C dx fs) ∧ H b = some (.ins C dy gs) ∧ sp [.ref a, .ref b] H (fun v H' => ∃ c, v = .bl c ∧ Q (.bl c) H') E
theorem op_neI (G : FnOk X.prog X.w X.K X.mg X.base CX n f fd ps sp) (hr : Room (n + 1) X.A) (hn : findIn X.K (.ref C) "__ne__" = some (some (.builtin "object.__ne__"))) (hm : mroIn X.K C (.type "object") = some true)
    (hs : findIn X.K (.ref C) "__eq__" = some (some (.ref f))) (hf : isFn X.K (.ref f) = true) (hb : Binds X.K fd ps []) (hx : Passes CX X E) : OpR X (compareOp .NotEq) (rNeI C sp E) := by
  intro pins s σ H x y v u Q I rx ry hq
  obtain ⟨a, b, dx, dy, fs, gs, rfl, rfl, ha, hb', q⟩ := hq
  cases rx
  cases ry
  obtain ⟨mA, J, _⟩ := ins_get I.hok ha
  obtain ⟨mB, J', _⟩ := ins_get I.hok hb'
  obtain ⟨od, J, _⟩ := J.look
  obtain ⟨od', J', _⟩ := J'.look
  obtain ⟨m, hF⟩ := I.fr
  show wpAny (model X.prog X.w) X.A (richCompare .NotEq (.ref a) (.ref b)) (EP X pins σ Q) X.xe s
  refine cmp_ne (by have := hr.un; omega) hF I.ok.mod.kin J J'.type hn hm hs hf ?_
  have hl := G.len _ _ _ _ q
  have r2 : Vals [V.ref a, V.ref b] [Value.ref a, Value.ref b] := .cons rfl (.cons rfl .nil)
  refine wpAny_call (codeAny_mono (G.run X.A.in1 X.stack s H ⟨[.ref a, .ref b], []⟩ [.ref a, .ref b] [.ref a, .ref b] _ E hr.in1 I.env0.in1 (by simpa using hb s [.ref a, .ref b] I.kIn (by simpa using hl)) r2 q) fun r s' hq => ?_)
  cases r with
  | error e => exact hx pins σ H s e s' I hq
  | ok fl =>
    cases fl with
    | ret w =>
      obtain ⟨z, H', I', rz, c, ez, ex⟩ := I.after hq
      subst ez
      cases rz
      exact ⟨c, rfl, .bl (!c), H', I', rfl, ex⟩
    | next => exact False.elim hq
    | brk => exact False.elim hq
    | cont => exact False.elim hq
theorem op_eqI (G : FnOk X.prog X.w X.K X.mg X.base CX n f fd ps sp) (hr : Room n X.A)
    (hs : findIn X.K (.ref C) "__eq__" = some (some (.ref f))) (hf : isFn X.K (.ref f) = true) (hb : Binds X.K fd ps []) (hx : Passes CX X E) : OpR X (compareOp .Eq) (rEqI C sp E) := by
  intro pins s σ H x y v u Q I rx ry hq
  obtain ⟨a, b, dx, dy, fs, gs, rfl, rfl, ha, hb', q⟩ := hq
  cases rx
  cases ry
  obtain ⟨mA, J, _⟩ := ins_get I.hok ha
  obtain ⟨mB, J', _⟩ := ins_get I.hok hb'
  obtain ⟨od, J, _⟩ := J.look
  obtain ⟨od', J', _⟩ := J'.look
  obtain ⟨m, hF⟩ := I.fr
  show wpAny (model X.prog X.w) X.A (richCompare .Eq (.ref a) (.ref b)) (EP X pins σ Q) X.xe s
  refine PySem.W.cmp_K (op := .Eq) (tb := .ref C) hr.units0 hF I.ok.mod.kin J J'.type (by simp [PySem.W.notFirst]) hs hf ?_
  have hl := G.len _ _ _ _ q
  have r2 : Vals [V.ref a, V.ref b] [Value.ref a, Value.ref b] := .cons rfl (.cons rfl .nil)
  refine wpAny_call (codeAny_mono (G.run X.A X.stack s H ⟨[.ref a, .ref b], []⟩ [.ref a, .ref b] [.ref a, .ref b] _ E hr I.env0 (by simpa using hb s [.ref a, .ref b] I.kIn (by simpa using hl)) r2 q) fun r s' hq => ?_)
  cases r with
  | error e => exact hx pins σ H s e s' I hq
  | ok fl =>
    cases fl with
    | ret w =>
      obtain ⟨z, H', I', rz, c, ez, ex⟩ := I.after hq
      subst ez
      cases rz
      exact ⟨.bl c, H', I', rfl, ex⟩
    | next => exact False.elim hq
    | brk => exact False.elim hq
    | cont => exact False.elim hq
end
end RV
set_option maxHeartbeats 4000000
/-! set(xs) of tuples of ints, xs of any length, where few of them are unlike -/
namespace RV
open PySem PySem.Spec PyProof.Rows L2
/-- fewer than 63 unlike ones -/
def FewUnlike (ks : List (Addr × List Int)) : Prop := ∀ L : List (Addr × List Int), (L.map (·.2)).Nodup → (∀ p ∈ L, p ∈ ks) → L.length + 1 < 64
abbrev noneYet (w : World) : Obj := { cls := .type "set", dict := none, data := .set #[] 0 (.fresh 0 0 (!w.params.followText "set-order")) }
section
variable {P : Program} {w : World} {A : Around} {E : Value → Shared → Prop} {s : Shared}
theorem setN_loop {R : Result → Shared → Prop} (hh : A.in1.handled = none) (S l it : Addr) (hSl : S ≠ l) (hSi : S ≠ it) (hli : l ≠ it) (items : Array Value) (ks : List (Addr × List Int)) (few : FewUnlike ks)
    (refs : ∀ (i : Nat) (p : Addr × List Int), ks[i]? = some p → items[i]? = some (Value.ref p.1)) (size : items.size = ks.length) (old : Heap) (tups : ∀ p ∈ ks, IsT P w old p.2 p.1) (o1 : old.get? S = none) (o2 : old.get? it = none) (hu : A.in1.units < cLine) :
    ∀ (k i : Nat) (s : Shared), ks.length - i = k → i ≤ ks.length → s.heap.IsListIter it l i → s.heap.IsList l items → (∀ b o, old.get? b = some o → s.heap.get? b = some o) → (∃ L es ep t, SetTR P w s.heap S L es ep t ∧ Got ks i L) →
      (∀ h' tk L es ep t, SetTR P w h' S L es ep t → Got ks ks.length L → (∀ b o, old.get? b = some o → h'.get? b = some o) → R (.ok (.ret .none)) { s with heap := h', toks := tk }) →
      codeAny (model P w) A (.builtin "set.update.loop" ⟨[.ref S, .ref it], []⟩) R s
  | 0, i, s, hk, hi, hit, hl, keep, ⟨L, es, ep, t, hS, got⟩, fin => by
    obtain rfl : i = ks.length := by omega
    refine codeAny_builtin F.entry_set_update_loop ?_
    rw [Around.under_plainId F.plain_set_update_loop _]
    show wpAny _ A.in1 (pyNext (.ref it) >>= _) _ _ s
    refine wpAny_bind (wpAny_pyNext_list_end hh hit hl (by simp [size]) fun h' ext => ?_)
    have keep' : ∀ b o, old.get? b = some o → h'.get? b = some o := fun b o e => ext b o (fun z => by rw [z, o2] at e; cases e) (keep b o e)
    exact wpAny_pure (fin h' s.toks L es ep t (hS.keep (fun o e => ext S o hSi e) fun p hp => isT_keep (tups p (List.mem_of_mem_take (got.sub p hp))) keep') got keep')
  | k + 1, i, s, hk, hi, hit, hl, keep, ⟨L, es, ep, t, hS, got⟩, fin => by
    obtain ⟨p, hp⟩ : ∃ p, ks[i]? = some p := ⟨_, List.getElem?_eq_getElem (by omega)⟩
    refine codeAny_builtin F.entry_set_update_loop ?_
    rw [Around.under_plainId F.plain_set_update_loop _]
    show wpAny _ A.in1 (pyNext (.ref it) >>= _) _ _ s
    refine wpAny_bind (wpAny_pyNext_list_item hit hl (refs i p hp) fun h1 hit1 sb1 => ?_)
    have keep1 : ∀ b o, old.get? b = some o → h1.get? b = some o := fun b o e => (sb1.2 b fun z => by rw [z, o2] at e; cases e).trans (keep b o e)
    have inKs : ∀ q ∈ L, q ∈ ks := fun q hq => List.mem_of_mem_take (got.sub q hq)
    have hS1 : SetTR P w h1 S L es ep t := hS.keep (fun o e => (sb1.2 S hSi).trans e) fun q hq => isT_keep (tups q (inKs q hq)) keep1
    have hT : IsT P w h1 p.2 p.1 := isT_keep (tups p (List.mem_of_getElem? hp)) keep1
    show wpAny _ A.in1 (holding [Value.ref p.1] (setAdd S (.ref p.1)) >>= _) _ _ _
    refine wpAny_bind (wpAny_holding ?_)
    unfold setAdd
    refine wpAny_holding (wpAny_bind (wpAny_pyHash_tuple hu hT ?_))
    refine add_at (s := { s with heap := h1, toks := s.toks + (p.2.length + 1) }) hS1 hT hu (few L hS1.nd inKs) fun b h2 L2 es2 ep2 t2 sb2 hS2 yes no => ?_
    have got2 : Got ks (i + 1) L2 := by
      by_cases c : p.2 ∈ L.map (·.2)
      · rw [yes c]; exact got.same hp c
      · exact got.more hp (no c)
    have keep2 : ∀ b o, old.get? b = some o → h2.get? b = some o := fun b o e => (sb2.2 b fun z => by rw [z, o1] at e; cases e).trans (keep1 b o e)
    refine wpAny_pure ⟨plainId_quiet F.plain_set_update_loop _, setN_loop hh S l it hSl hSi hli items ks few refs size old tups o1 o2 hu k (i + 1) _ (by omega) (by omega)
      (hit1.at fun o e => (sb2.2 it (Ne.symm hSi)).trans e) ((hl.at fun o e => (sb1.2 l hli).trans e).at fun o e => (sb2.2 l (Ne.symm hSl)).trans e) keep2 ⟨L2, es2, ep2, t2, hS2, got2⟩ fun h' tk L' es' ep' t' z1 z2 z3 => ?_⟩
    exact fin h' tk L' es' ep' t' z1 z2 z3
set_option maxHeartbeats 8000000 in
theorem call_setN {l : Addr} {items : Array Value} (ks : List (Addr × List Int)) {Q : Value → Shared → Prop} (hh : A.handled = none) (hl : s.heap.IsList l items) (refs : items.toList = ks.map fun p => Value.ref p.1)
    (tups : ∀ p ∈ ks, IsT P w s.heap p.2 p.1) (few : FewUnlike ks) (hu : A.units + 3 < cLine)
    (k : ∀ (h' : Heap) (tk : Nat) L es ep t, SetTR P w h' s.heap.objs.size L es ep t → Got ks ks.length L → (∀ b o, s.heap.get? b = some o → h'.get? b = some o) → Q (.ref s.heap.objs.size) { s with heap := h', toks := tk }) :
    wpAny (model P w) A (call (.type "set") [.ref l]) Q E s := by
  have size : items.size = ks.length := by simpa using congrArg List.length refs
  have refs' : ∀ (i : Nat) (p : Addr × List Int), ks[i]? = some p → items[i]? = some (Value.ref p.1) := fun i p e => by
    rw [← Array.getElem?_toList, refs, List.getElem?_map, e]; rfl
  obtain ⟨c, tl, hm⟩ := F.called_set.mro
  have a1 := F.called_set.made
  have a2 := F.called_set.sub
  have a3 := F.called_set.notType
  have a4 := F.called_set.canCreate
  have a5 := F.typeCall_set_1 (.ref l)
  refine wpAny_call (codeAny_of_tree ?_)
  show wpAny _ _ (callAny (.type "set") _) _ _ _
  refine wpAny_pure ⟨Code.quiet_builtin _ (by decide +kernel), codeAny_builtin F.entry_type_call ?_⟩
  rw [Around.under_plain (weight_type_call_type "set" [.ref l] []) rfl]
  repeat (any_goals (first | assumption | wp_step))
  refine codeAny_mono (code_set_led1 (.ref l) (E := E) (Q₁ := fun obj s₁ => obj = .ref s.heap.objs.size ∧ s₁ = { s with heap := s.heap.push (noneYet w) }) ⟨rfl, rfl⟩) fun r s₁ hr => ?_
  match r, hr with
  | .error e, hr => exact hr
  | .ok .next, hr => exact hr.elim
  | .ok .brk, hr => exact hr.elim
  | .ok .cont, hr => exact hr.elim
  | .ok (.ret obj), hr =>
    obtain ⟨rfl, rfl⟩ := hr
    have hS : (s.heap.push (noneYet w)).get? s.heap.objs.size = some (noneYet w) := Heap.get?_push_size _ rfl
    have hT : Shared.TypeIs { s with heap := s.heap.push (noneYet w) } (.ref s.heap.objs.size) "set" := ⟨_, hS, rfl⟩
    have b1 := F.called_set.init.lookup
    have b2 := F.called_set.init.bind (.ref s.heap.objs.size)
    repeat (any_goals (first | assumption | wp_step))
    refine codeAny_mono (codeAny_call_builtin (R := wants (fun r s₂ => r = .none ∧ ∃ h' tk L es ep t, s₂ = { s with heap := h', toks := tk } ∧ SetTR P w h' s.heap.objs.size L es ep t ∧ Got ks ks.length L ∧
        (∀ b o, s.heap.get? b = some o → h'.get? b = some o)) E) F.called_set.init.plain F.entry_set_init (check_set_init_1 hT ?_)) fun r₂ s₂ hr₂ => ?_
    · obtain ⟨⟨oc, od, dt, os⟩, g1, g2, nl, g3⟩ := hl
      simp only at g2 g3
      subst g2 g3
      have g4 : (s.heap.push (noneYet w)).get? l = some { cls := .type "list", dict := od, data := .seq items nl, slots := os } := Heap.get?_push_of_some _ g1
      have c1 := F.sub_list_set
      have c2 := F.sub_list_frozenset
      have c3 : (Value.type "list" == Value.type "dict") = false := by decide
      have isl : (s.heap.push (noneYet w)).IsList l items := ⟨_, g4, rfl, nl, rfl⟩
      unfold Builtin.«set.__init__» noKeywords Builtin.Frozenset.updateFrom
      generalize hpi : pyIter = pI
      wp_walk
      subst hpi
      refine wpAny_pyIter_list isl (wpAny_bind (wpAny_runValue ?_))
      have lt : l < s.heap.objs.size := Heap.lt_size g1
      have z1 : (s.heap.push (noneYet w)).objs.size = s.heap.objs.size + 1 := Heap.size_push ..
      have none1 : ∀ b, s.heap.objs.size ≤ b → s.heap.get? b = none := fun b hb => by
        cases q : s.heap.get? b with
        | none => rfl
        | some o => exact absurd (Nat.lt_of_lt_of_le (Heap.lt_size q) hb) (Nat.lt_irrefl _)
      refine setN_loop (A := A.in1.in1) (by simp [hh]) s.heap.objs.size l (s.heap.push (noneYet w)).objs.size (Nat.ne_of_gt lt) (by rw [z1]; exact Nat.ne_of_lt (Nat.lt_succ_self _)) (by rw [z1]; exact Nat.ne_of_lt (Nat.lt_succ_of_lt lt)) items ks few refs' size s.heap tups (none1 _ (Nat.le_refl _)) (none1 _ (by rw [z1]; exact Nat.le_succ _)) hu (ks.length - 0) 0 _ rfl (Nat.zero_le _)
        ⟨_, Heap.get?_push_size _ rfl, rfl, rfl⟩ (isl.push _) (fun b o e => Heap.get?_push_of_some _ (Heap.get?_push_of_some _ e)) ⟨[], #[], 0, _, setTR_fresh (Heap.get?_push_of_some _ hS), Got.zero ks⟩ fun h' tk L es ep t q1 q2 q3 => ?_
      show wpAny _ _ _ _ _ _
      refine wpAny_pure ?_
      show wpAny _ _ (ret Value.none) _ _ _
      exact wpAny_pure ⟨rfl, h', tk, L, es, ep, t, rfl, q1, q2, q3⟩
    · match r₂, hr₂ with
      | .error e, hr₂ => exact hr₂
      | .ok .next, hr₂ => exact hr₂.elim
      | .ok .brk, hr₂ => exact hr₂.elim
      | .ok .cont, hr₂ => exact hr₂.elim
      | .ok (.ret r), hr₂ =>
        obtain ⟨rfl, h', tk, L, es, ep, t, rfl, q1, q2, q3⟩ := hr₂
        repeat (any_goals (first | assumption | wp_step))
        exact k _ _ _ _ _ _ q1 q2 q3
end
section
variable {X : Cx}
def rSetN (K : PySem.W.Frag) (P : Program) (w : World) : List V → Hp → VK → Prop := fun xs H Q => ∃ (l : Addr) (ks : List (Addr × List Int)), xs = [V.ref l] ∧ SqL K H l (ks.map fun p => V.ref p.1) ∧ (∀ p ∈ ks, SqT K H p.1 (p.2.map V.int)) ∧ FewUnlike ks ∧
  ∀ a L, H a = none → (∀ p ∈ L, p ∈ ks) → (∀ p ∈ ks, p.2 ∈ L.map (·.2)) → Q (.ref a) (upd H a (SetTO P w a L))
theorem cr_setN (hc : X.calm = true) (hu : X.A.units + 64 < cLine) : CallR X (.type "set") (rSetN X.K X.prog X.w) := by
  intro pins s σ H xs us Q I r h
  obtain ⟨l, ks, rfl, hl, hk, few, q⟩ := h
  rw [Vals.ref1 r]
  obtain ⟨its, rv, pl, hz⟩ := I.list hl
  refine call_setN ks (I.ok.hd hc) pl.isList (by simpa using refs_of_vals rv) (fun p hp => I.isT (hk p hp)) few (by omega) fun h' tk L es ep t R g kp => ?_
  refine ⟨.ref s.heap.objs.size, upd H s.heap.objs.size (SetTO X.prog X.w s.heap.objs.size L), I.laid (t' := tk) kp (Nat.le_refl _) (setTO_new R.t0), rfl, ?_⟩
  exact q _ L (I.hok.fresh (Nat.le_refl _)) (fun p hp => List.mem_of_mem_take (g.sub p hp)) fun p hp => g.all p (by rw [List.take_length]; exact hp)
end
end RV
set_option maxHeartbeats 4000000
namespace RV
open PySem PySem.Spec PyProof.Rows L2
/-! ### heaps -/
theorem same_upd {H : Hp} {p : Addr} {o : HO} (h : H p = none) : Same H (upd H p o) := fun b x e => by
  rw [upd_ne (ne_of_none e h)]
  exact e
theorem sqT_same {K : PySem.W.Frag} {H H' : Hp} {a : Addr} {xs : List V} (e : Same H H') (h : SqT K H a xs) : SqT K H' a xs := SqT.ext h e
theorem sqL_same {K : PySem.W.Frag} {H H' : Hp} {a : Addr} {xs : List V} (e : Same H H') (h : SqL K H a xs) : SqL K H' a xs := SqL.ext h e
theorem tyT {K : PySem.W.Frag} {H : Hp} {a : Addr} {xs : List V} (h : SqT K H a xs) : TyX K H (.ref a) (.type "tuple") := by
  rcases h with (h | ⟨o, h⟩) | ⟨o, its, n, h1, h2, _⟩
  · exact .base (.tup h)
  · exact .fTuple h
  · exact .kTuple h1 h2
theorem tupNew {K : PySem.W.Frag} {H : Hp} {a : Addr} {xs : List V} (h : H a = some (.tup xs)) : SqT K H a xs := .inl (.inl h)
theorem lstNew {K : PySem.W.Frag} {H : Hp} {a : Addr} {xs : List V} (h : H a = some (.lst xs)) : SqL K H a xs := .inl (.inl h)
theorem walk_enT {K : PySem.W.Frag} {a : Addr} {xs : List V} : Walk (IteT K a) xs.length (fun H => SqT K H a xs) (YPair (fun i => some (.int (i : Nat))) (fun i => xs[i]?)) := by
  refine ⟨fun i _ hi q => ⟨xs, xs[i], q, by simp [hi]⟩, fun _ q => ⟨xs, q, Nat.le_refl _⟩, fun i H v H' _ q y => ?_⟩
  obtain ⟨T, x, h1, h2, h3, h4⟩ := y
  exact ⟨T, .int (i : Nat), x, h1, h2, h3, rfl, h4 xs q⟩
theorem walk_zipT {K : PySem.W.Frag} {a b : Addr} {xs ys : List V} {n : Nat} (hn : n = min xs.length ys.length) : Walk (RZ.ItzT K a b) n (fun H => SqT K H a xs ∧ SqT K H b ys) (YPair (fun i => xs[i]?) (fun i => ys[i]?)) := by
  subst hn
  refine ⟨fun i _ hi q => ⟨xs, ys, xs[i]'(by omega), ys[i]'(by omega), q.1, q.2, List.getElem?_eq_getElem _, List.getElem?_eq_getElem _⟩, fun _ q => ⟨xs, ys, q.1, q.2, by omega⟩, fun i H v H' _ q y => ?_⟩
  obtain ⟨T, x, z, h1, h2, h3, h4, h5⟩ := y
  exact ⟨T, x, z, h1, h2, h3, h4 xs q.1, h5 ys q.2⟩
/-- a tuple of tuples of ints -/
def Tups (K : PySem.W.Frag) (H : Hp) (a : Addr) (ps : List (List Int)) : Prop := ∃ ks : List (Addr × List Int), ks.map (·.2) = ps ∧ SqT K H a (ks.map fun p => V.ref p.1) ∧ ∀ p ∈ ks, SqT K H p.1 (p.2.map V.int)
/-- a list of tuples of ints -/
def Lots (K : PySem.W.Frag) (H : Hp) (a : Addr) (ps : List (List Int)) : Prop := ∃ ks : List (Addr × List Int), ks.map (·.2) = ps ∧ SqL K H a (ks.map fun p => V.ref p.1) ∧ ∀ p ∈ ks, SqT K H p.1 (p.2.map V.int)
theorem Tups.same {K : PySem.W.Frag} {H H' : Hp} {a : Addr} {ps : List (List Int)} (h : Tups K H a ps) (e : Same H H') : Tups K H' a ps :=
  let ⟨ks, h1, h2, h3⟩ := h; ⟨ks, h1, sqT_same e h2, fun p hp => sqT_same e (h3 p hp)⟩
theorem Lots.same {K : PySem.W.Frag} {H H' : Hp} {a : Addr} {ps : List (List Int)} (h : Lots K H a ps) (e : Same H H') : Lots K H' a ps :=
  let ⟨ks, h1, h2, h3⟩ := h; ⟨ks, h1, sqL_same e h2, fun p hp => sqT_same e (h3 p hp)⟩
theorem dpInts {K : PySem.W.Frag} {H : Hp} : ∀ ns : List Int, DpAll K H (ns.map V.int) (ns.map PyData.int)
  | [] => .nil
  | n :: r => .cons (.int n) (dpInts r)
def dI (ns : List Int) : PyData := .tuple (ns.map PyData.int)
def dTT (ps : List (List Int)) : PyData := .tuple (ps.map dI)
theorem dpT {K : PySem.W.Frag} {H : Hp} {a : Addr} {ns : List Int} (h : SqT K H a (ns.map V.int)) : Dp K H (.ref a) (dI ns) := .tup h (dpInts ns)
theorem dpTs {K : PySem.W.Frag} {H : Hp} : ∀ ks : List (Addr × List Int), (∀ p ∈ ks, SqT K H p.1 (p.2.map V.int)) → DpAll K H (ks.map fun p => V.ref p.1) ((ks.map (·.2)).map dI)
  | [], _ => .nil
  | p :: r, h => .cons (dpT (h p (List.mem_cons_self ..))) (dpTs r fun q hq => h q (List.mem_cons_of_mem _ hq))
theorem Tups.dp {K : PySem.W.Frag} {H : Hp} {a : Addr} {ps : List (List Int)} (h : Tups K H a ps) : Dp K H (.ref a) (dTT ps) := by
  obtain ⟨ks, rfl, h2, h3⟩ := h
  exact .tup h2 (dpTs ks h3)
theorem map_at {α β : Type} {f : α → β} {l : List α} {i : Nat} {y : β} (h : (l.map f)[i]? = some y) : ∃ x, l[i]? = some x ∧ y = f x := by
  rw [List.getElem?_map] at h
  cases e : l[i]? with
  | none => rw [e] at h; cases h
  | some x => rw [e] at h; exact ⟨x, rfl, (Option.some.inj h).symm⟩
theorem all_true : ∀ n : Nat, (List.replicate n true).all id = true
  | 0 => rfl
  | n + 1 => by rw [List.replicate_succ, List.all_cons, all_true n]; rfl
theorem rep_bl (n : Nat) : List.replicate n (V.bl true) = (List.replicate n true).map V.bl := by rw [List.map_replicate]
theorem rep_next {α : Type} (n : Nat) (x : α) : List.replicate n x ++ [x] = List.replicate (n + 1) x := by rw [List.replicate_succ', ]
theorem tt_yes {σ : L2.St} {H : Hp} {A B : Hp → Prop} (h : A H) : tYes σ H (fun b H3 => if b = true then A H3 else B H3) := iteT (A := A H) (B := B H) h
theorem un65 {k : Nat} {A : Around} (r : Room k A) : A.units + 65 < cLine := by have := r.un; omega
theorem few1 {n : Nat} (h : n ≤ 1000) : n < sizeLine := small1000 h
/-! ### data of ints, tuples of these -/
theorem lay_ints : ∀ ns : List Int, PyData.canLayAll0 (ns.map PyData.int) = true
  | [] => by simp [PyData.canLayAll0]
  | n :: r => by simp [PyData.canLayAll0, PyData.canLay0, lay_ints r]
theorem dep_ints : ∀ ns : List Int, PyData.depthAll (ns.map PyData.int) = 0
  | [] => by simp [PyData.depthAll]
  | n :: r => by simp [PyData.depthAll, PyData.depth, dep_ints r]
theorem dI_lay (ns : List Int) : (dI ns).canLay0 = true := by simp only [dI, PyData.canLay0]; exact lay_ints ns
theorem dI_dep (ns : List Int) : (dI ns).depth = 1 := by simp only [dI, PyData.depth, dep_ints]
theorem lay_dI : ∀ ps : List (List Int), PyData.canLayAll0 (ps.map dI) = true
  | [] => by simp [PyData.canLayAll0]
  | n :: r => by simp [PyData.canLayAll0, dI_lay, lay_dI r]
theorem dep_dI : ∀ ps : List (List Int), PyData.depthAll (ps.map dI) ≤ 1
  | [] => by simp [PyData.depthAll]
  | n :: r => by
    have h := dep_dI r
    simp only [List.map_cons, PyData.depthAll, dI_dep]
    omega
theorem shapedI (ns : List Int) : SeqAt.shaped (dI ns) = true := by
  show ((dI ns).canLay0 && decide ((dI ns).depth ≤ 64)) = true
  rw [dI_lay, dI_dep]; rfl
theorem shapedTT (ps : List (List Int)) : SeqAt.shaped (dTT ps) = true := by
  have h := dep_dI ps
  have e : (dTT ps).depth ≤ 64 := by simp only [dTT, PyData.depth]; omega
  show ((dTT ps).canLay0 && decide ((dTT ps).depth ≤ 64)) = true
  rw [decide_eq_true e, Bool.and_true]
  simp only [dTT, PyData.canLay0]; exact lay_dI ps
theorem eqv_ints : ∀ ns ms : List Int, PyData.eqvAll (ns.map PyData.int) (ms.map PyData.int) = decide (ns = ms)
  | [], [] => by simp [PyData.eqvAll]
  | [], m :: r => by simp [PyData.eqvAll]
  | n :: r, [] => by simp [PyData.eqvAll]
  | n :: r, m :: q => by
    have h := eqv_ints r q
    simp only [List.map_cons, PyData.eqvAll, PyData.eqv, h]
    by_cases e : n = m
    · subst e; by_cases e2 : r = q <;> simp [e2]
    · simp [e]
theorem eqvI (ns ms : List Int) : PyData.eqv (dI ns) (dI ms) = decide (ns = ms) := by simp only [dI, PyData.eqv, eqv_ints]
theorem eqv_dIs : ∀ ns ms : List (List Int), PyData.eqvAll (ns.map dI) (ms.map dI) = decide (ns = ms)
  | [], [] => by simp [PyData.eqvAll]
  | [], m :: r => by simp [PyData.eqvAll]
  | n :: r, [] => by simp [PyData.eqvAll]
  | n :: r, m :: q => by
    have h := eqv_dIs r q
    simp only [List.map_cons, PyData.eqvAll, eqvI, h]
    by_cases e : n = m
    · subst e; by_cases e2 : r = q <;> simp [e2]
    · simp [e]
theorem eqvTT (ns ms : List (List Int)) : PyData.eqv (dTT ns) (dTT ms) = decide (ns = ms) := by simp only [dTT, PyData.eqv, eqv_dIs]
theorem any_dI (p : List Int) : ∀ ps : List (List Int), (ps.map dI).any (fun y => PyData.eqv y (dI p)) = decide (p ∈ ps)
  | [] => rfl
  | q :: r => by
    rw [List.map_cons, List.any_cons, any_dI p r, eqvI]
    by_cases e : q = p
    · subst e; simp
    · have e' : ¬ p = q := fun z => e z.symm
      by_cases e2 : p ∈ r <;> simp [e, e', e2]
section
variable {X : Cx}
/-- t in ts, of tuples of ints -/
def rInTs (K : PySem.W.Frag) : R2 := fun x y H Q => ∃ (a b : Addr) (p : List Int) (ps : List (List Int)), x = .ref a ∧ y = .ref b ∧ SqT K H a (p.map V.int) ∧ Tups K H b ps ∧ Q (.bl (decide (p ∈ ps))) H
theorem op_inTs (hu : X.A.units + 65 < cLine) : OpR X (compareOp .In) (rInTs X.K) := by
  intro pins s σ H x y v u Q I rx ry h
  obtain ⟨a, b, p, ps, rfl, rfl, h1, h2, q⟩ := h
  obtain ⟨as, r1⟩ := Dp.reads I (dI p) (.ref a) v (dpT h1) rx
  obtain ⟨bs, r2⟩ := Dp.reads I (dTT ps) (.ref b) u h2.dp ry
  refine SeqAt.in_tuple_reads (xs := ps.map dI) r2 r1 (lay_dI ps) (dI_lay p) ?_ ⟨.bl _, H, I, rfl, ?_⟩
  · have := Nat.min_le_right (PyData.depthAll (ps.map dI)) (dI p).depth
    have e := dI_dep p
    omega
  · rw [any_dI]; exact q
/-- two tuples of ints, two tuples of tuples of ints compared -/
def rEqI1 (K : PySem.W.Frag) : R2 := fun x y H Q => ∃ (a b : Addr) (p q : List Int), x = .ref a ∧ y = .ref b ∧ SqT K H a (p.map V.int) ∧ SqT K H b (q.map V.int) ∧ Q (.bl (decide (p = q))) H
def rEqTs (K : PySem.W.Frag) : R2 := fun x y H Q => ∃ (a b : Addr) (p q : List (List Int)), x = .ref a ∧ y = .ref b ∧ Tups K H a p ∧ Tups K H b q ∧ Q (.bl (decide (p = q))) H
theorem op_eqI1 (hu : X.A.units + 64 < cLine) : OpR X (compareOp .Eq) (rEqI1 X.K) := by
  intro pins s σ H x y v u Q I rx ry h
  obtain ⟨a, b, p, ps, rfl, rfl, h1, h2, q⟩ := h
  refine op_eqD hu pins s σ H _ _ v u Q I rx ry ⟨dI p, dI ps, dpT h1, dpT h2, shapedI p, shapedI ps, ?_⟩
  rw [eqvI]; exact q
theorem op_eqTs (hu : X.A.units + 64 < cLine) : OpR X (compareOp .Eq) (rEqTs X.K) := by
  intro pins s σ H x y v u Q I rx ry h
  obtain ⟨a, b, p, ps, rfl, rfl, h1, h2, q⟩ := h
  refine op_eqD hu pins s σ H _ _ v u Q I rx ry ⟨dTT p, dTT ps, h1.dp, h2.dp, shapedTT p, shapedTT ps, ?_⟩
  rw [eqvTT]; exact q
end
section
variable {X : Cx} {K : PySem.W.Frag}
/-! the rules whose reading names the written part, for a comprehension's block -/
theorem ix_tupK (h : X.K = K) : IxR X (rIxT K) := h ▸ ix_tup
theorem pg_tupK {es : List Expr} {k : Nat} {t : TGs} {n : Nat} {pos : Pos} (h : X.K = K) (hc : X.calm = true) (hg : PGs X es t)
    (hn : (assignEach es X.env).length = n := by rfl) (hst : (assignEach es X.env).findIdx? (·.1) = none := by rfl) : PG X (.Tuple es k pos) (gTup K n t) := h ▸ pg_tup hc hg hn hst
theorem op_inTsK (h : X.K = K) (hu : X.A.units + 65 < cLine) : OpR X (compareOp .In) (rInTs K) := h ▸ op_inTs hu
theorem op_ltTK (h : X.K = K) (hu : X.A.units < cLine) : OpR X (compareOp .Lt) (rLtT K) := h ▸ op_ltT hu
def rLenS (K : PySem.W.Frag) : List V → Hp → VK → Prop := fun xs H Q => ∃ p ys, xs = [.ref p] ∧ (SqL K H p ys ∨ SqT K H p ys) ∧ Q (.int ys.length) H
theorem call_lenK (h : X.K = K) : CallR X (.builtin "len") (rLenS K) := h ▸ call_len_seq
end
end RV
set_option maxHeartbeats 4000000
namespace K6
open PySem PySem.Spec PyProof.Rows L2 RV
/-! ### the text by places -/
def topS (i : Nat) : Stmt := PySem.Challenge.pw_ringvouch_k06_turned_and_mirrored.main.body.getD i (.Pass ⟨0, 0, 0, 0⟩)
abbrev sWhole : Stmt := topS 5
abbrev sMark : Stmt := topS 6
abbrev sMarks : Stmt := topS 7
abbrev sIsRing : Stmt := topS 10
abbrev sIsRun : Stmt := topS 11
abbrev sNeighb : Stmt := topS 12
abbrev sRunPl : Stmt := topS 13
abbrev sRPlaces : Stmt := topS 14
abbrev sSpot : Stmt := topS 15
abbrev sMarkAt : Stmt := topS 16
abbrev sStretch : Stmt := topS 17
abbrev sTurned : Stmt := topS 18
abbrev sMirrored : Stmt := topS 19
abbrev sSpelled : Stmt := topS 20
abbrev sMirrors : Stmt := topS 24
abbrev sSteps : Stmt := topS 25
abbrev sStep : Stmt := topS 26
abbrev sRising : Stmt := topS 27
abbrev sBehind : Stmt := topS 28
abbrev sPlain : Stmt := topS 29
abbrev sPail : Stmt := topS 31
abbrev sDraw : Stmt := topS 32
abbrev sOf : Stmt := topS 33
abbrev sDMirrors : Stmt := topS 34
abbrev sDSteps : Stmt := topS 35
abbrev sLOff : Stmt := topS 36
abbrev sLBehind : Stmt := topS 37
abbrev sLStarts : Stmt := topS 38
abbrev sClosed : Stmt := topS 39
abbrev sRuns : Stmt := topS 40
abbrev sSpots : Stmt := topS 41
abbrev sAlike : Stmt := topS 42
abbrev sTurnedR : Stmt := topS 43
abbrev sMirroredR : Stmt := topS 44
abbrev sSmallR : Stmt := topS 45
abbrev sLaw : Stmt := topS 46
abbrev sInit : Stmt := inClass (topS 23) 0
abbrev sEq : Stmt := inClass (topS 23) 4
abbrev sMarksM : Stmt := inClass (topS 23) 1
abbrev sMirrorM : Stmt := inClass (topS 23) 2
abbrev sBehindM : Stmt := inClass (topS 23) 3
/-- a def of the text as the top has left it -/
structure DefAt (K : PySem.W.Frag) (mg : Str → Option Value) (x : Str) (st : Stmt) (ps : List Str) (f : Addr) (fd : FuncData) : Prop where
  fn : Fun K x x st f fd
  bi : Binds K fd ps []
  mg : mg x = some (.ref f)
/-- the names that are the interpreter's own -/
structure Bare (mg : Str → Option Value) : Prop where
  len : mg "len" = none
  isinstance : mg "isinstance" = none
  int : mg "int" = none
  bool : mg "bool" = none
  tuple : mg "tuple" = none
  all : mg "all" = none
  enumerate : mg "enumerate" = none
  zip : mg "zip" = none
  range : mg "range" = none
  list : mg "list" = none
  set : mg "set" = none
  sorted : mg "sorted" = none
  abs : mg "abs" = none
  max : mg "max" = none
  min : mg "min" = none
  repr : mg "repr" = none
  dict : mg "dict" = none
  sum : mg "sum" = none
  divmod : mg "divmod" = none
section
variable {P : Program} {w : World} {K : PySem.W.Frag} {mg : Str → Option Value} {base : Heap}
/-! ### is_whole -/
theorem scWhole : FnScope ["thing"] ["thing"] (defScope sWhole) := ⟨rfl, rfl, rfl, by decide +kernel, rfl, by decide +kernel, by decide +kernel⟩
def spWhole : Sp := fun vs H Q _ => ∃ i : Int, vs = [.int i] ∧ Q (.bl true) H
theorem ok_whole {f : Addr} {fd : FuncData} (F : Fun K "is_whole" "is_whole" sWhole f fd) (B : Bare mg) : FnOk P w K mg base CX0 1 f fd ["thing"] spWhole := by
  refine F.ok scWhole (fun vs H Q E h => ?_) (fun cdv A outer s H vs Q E hr h => ?_)
  · obtain ⟨i, rfl, _⟩ := h
    rfl
  · obtain ⟨i, rfl, q⟩ := h
    refine ⟨_, pss_one (ps_ret (pe_and (pe_callB call_isi (by rfl) B.isinstance (by decide +kernel) (pa_cons (pv 0) (pa_cons (pe_bltn (v := .ty "int") (by rfl) B.int boot_int rfl) pa_nil)))
      (pe_one (pe_not (pe_callB call_isi (by rfl) B.isinstance (by decide +kernel) (pa_cons (pv 0) (pa_cons (pe_bltn (v := .ty "bool") (by rfl) B.bool (by decide +kernel) rfl) pa_nil))))))), ?_⟩
    refine ⟨.int i, rfl, .int i, .ty "int", _, _, true, rfl, .ty "int", .base (.int i), kit_ty (by decide +kernel), true, rfl, iteT ?_⟩
    exact ⟨.int i, rfl, .int i, .ty "bool", _, _, false, rfl, .ty "bool", .base (.int i), kit_ty (by decide +kernel), false, rfl, q⟩
/-! ### is_below -/
theorem scMark : FnScope ["thing", "many"] ["thing", "many"] (defScope sMark) := ⟨rfl, rfl, rfl, by decide +kernel, rfl, by decide +kernel, by decide +kernel⟩
def spMark : Sp := fun vs H Q _ => ∃ i n : Int, vs = [.int i, .int n] ∧ 0 ≤ i ∧ i < n ∧ Q (.bl true) H
theorem ok_mark {f fW : Addr} {fd fdW : FuncData} (F : Fun K "is_below" "is_below" sMark f fd) (D : DefAt K mg "is_whole" sWhole ["thing"] fW fdW) (B : Bare mg) : FnOk P w K mg base CX0 2 f fd ["thing", "many"] spMark := by
  have GW : FnOk P w K mg base CX0 1 fW fdW ["thing"] spWhole := ok_whole D.fn B
  refine F.ok scMark (fun vs H Q E h => ?_) (fun cdv A outer s H vs Q E hr h => ?_)
  · obtain ⟨i, n, rfl, _⟩ := h
    rfl
  · obtain ⟨i, n, rfl, h1, h2, q⟩ := h
    refine ⟨_, pss_one (ps_ret (pe_and (pe_call GW hr (by rfl) D.mg D.fn.kp D.bi .nil pass0 (pa_cons (pv 0) pa_nil)) (pe_one (pe_chain op_le op_lt pe_int (pv 0) (pv 1))))), ?_⟩
    refine ⟨.int i, rfl, i, rfl, true, rfl, iteT ?_⟩
    refine ⟨.int i, rfl, 0, i, rfl, rfl, _, rfl, ?_⟩
    rw [decide_eq_true h1]
    refine iteT ⟨.int n, rfl, i, n, rfl, rfl, ?_⟩
    show Q (.bl (decide (i < n))) H
    rw [decide_eq_true h2]
    exact q
/-! ### are_marks -/
theorem scMarks : FnScope ["thing", "many", "mark"] ["thing", "many"] (defScope sMarks) := ⟨rfl, rfl, rfl, by decide +kernel, rfl, by decide +kernel, by decide +kernel⟩
def spMarks (K : PySem.W.Frag) : Sp := fun vs H Q _ => ∃ (a : Addr) (ns : List Int) (n : Int), vs = [.ref a, .int n] ∧ SqT K H a (ns.map V.int) ∧ 0 < ns.length ∧ ns.length ≤ 1000 ∧ (∀ i ∈ ns, 0 ≤ i ∧ i < n) ∧ ∀ H', Same H H' → Q (.bl true) H'
theorem ok_marks {f fM fW : Addr} {fd fdM fdW : FuncData} (F : Fun K "are_marks" "are_marks" sMarks f fd) (DM : DefAt K mg "is_below" sMark ["thing", "many"] fM fdM) (DW : DefAt K mg "is_whole" sWhole ["thing"] fW fdW) (B : Bare mg) :
    FnOk P w K mg base CX0 3 f fd ["thing", "many"] (spMarks K) := by
  have GM : FnOk P w K mg base CX0 2 fM fdM ["thing", "many"] spMark := ok_mark DM.fn DW B
  refine F.ok scMarks (fun vs H Q E h => ?_) (fun cdv A outer s H vs Q E hr h => ?_)
  · obtain ⟨a, ns, n, rfl, _⟩ := h
    rfl
  · obtain ⟨a, ns, n, rfl, hT, h0, hm, hin, q⟩ := h
    refine ⟨_, pss_one (ps_ret (pe_and (pe_callB call_isi (by rfl) B.isinstance (by decide +kernel) (pa_cons (pv 0) (pa_cons (pe_bltn (v := .ty "tuple") (by rfl) B.tuple (by decide +kernel) rfl) pa_nil)))
      (pe_and (pe_cmpR op_gt (pe_callB call_len_seq (by rfl) B.len PySem.boot_len (pa_cons (pv 0) pa_nil)) pe_int (nomark _))
      (pe_one (pe_callB (cr_all rfl) (by rfl) B.all (by decide +kernel) (pa_cons
        (pe_lc (own := [("mark", 2)]) (g := gName 2) (tt := tYes) rfl scMarks.nd (pi_tup (pv 0)) (blkOk_by (N := ["thing", "many", "mark"]) (sc := defScope sMarks) (by decide +kernel)) (fun _ _ _ _ _ => pg_name (i := 2) scMarks.nd rfl (Or.inl rfl)) (fun _ _ _ _ _ => pts_nil)
          (fun _ _ _ _ _ => pe_call GM hr (by rfl) DM.mg DM.fn.kp DM.bi .nil pass0 (pa_cons (pv 2) (pa_cons (pv 1) pa_nil)))) pa_nil)))))), ?_⟩
    refine ⟨.ref a, rfl, .ref a, .ty "tuple", _, _, true, rfl, .ty "tuple", tyT hT, kit_ty (by decide +kernel), true, rfl, iteT ?_⟩
    refine ⟨.ref a, rfl, a, _, rfl, .inr hT, _, _, rfl, rfl, decide (((ns.map V.int).length : Int) > 0), rfl, ?_⟩
    rw [decide_eq_true (show ((ns.map V.int).length : Int) > 0 by rw [List.length_map]; omega)]
    refine iteT ⟨.ref a, rfl, a, rfl, ⟨_, hT⟩, fun D nD => ?_⟩
    refine lc_tup (K := K) (a := a) (xs := ns.map V.int) (fun i H' => Same H H' ∧ H' D = some (.lst (List.replicate i (V.bl true)))) ⟨same_upd nD, upd_same⟩ (fun i H' _ p => sqT_same p.1 hT) (fun i x H' hx p => ?_) fun H' p => ?_
    · obtain ⟨m, hm', rfl⟩ := map_at hx
      have hi : i < ns.length := (List.getElem?_eq_some_iff.mp hm').1
      have hr' := hin m (List.mem_of_getElem? hm')
      refine ⟨rfl, tt_yes ⟨.int m, rfl, .int n, rfl, m, n, rfl, hr'.1, hr'.2, _, p.2, ?_, ?_, ?_⟩⟩
      · rw [List.length_replicate]; exact few1 (by omega)
      · exact fun b o e => by rw [upd_ne (ne_of_none e nD)]; exact p.1 b o e
      · rw [upd_same, rep_next]
    · rw [List.length_map, rep_bl] at p
      refine ⟨D, _, rfl, lstNew p.2, ?_⟩
      rw [all_true]
      exact q H' p.1
end
end K6
set_option maxHeartbeats 4000000
namespace K6
open PySem PySem.Spec PyProof.Rows L2 RV
/-- mirrors of one to eight marks -/
structure Mir (ns : List Int) : Prop where
  pos : 0 < ns.length
  few : ns.length ≤ 8
  inn : ∀ i ∈ ns, 0 ≤ i ∧ i < (ns.length : Int)
  back : ∀ (k : Nat) (m : Int), ns[k]? = some m → ns[m.toNat]? = some (k : Int)
/-- a rising tuple of steps, with their mirror steps -/
structure Stp (ns : List Int) (ps : List (List Int)) : Prop where
  few : ps.length ≤ 64
  pair : ∀ p ∈ ps, ∃ x y : Int, p = [x, y] ∧ (0 ≤ x ∧ x < (ns.length : Int)) ∧ (0 ≤ y ∧ y < (ns.length : Int))
  rise : ∀ (i : Nat) (p q : List Int), ps[i]? = some p → ps[i + 1]? = some q → HT.lexLt p q = true
  mirr : ∀ x y mx my : Int, [x, y] ∈ ps → ns[x.toNat]? = some mx → ns[y.toNat]? = some my → [my, mx] ∈ ps
  nd : ps.Nodup
section
variable {P : Program} {w : World} {K : PySem.W.Frag} {mg : Str → Option Value} {base : Heap}
/-! ### are_mirrors -/
theorem scMirrors : FnScope ["thing", "mark", "mirror"] ["thing"] (defScope sMirrors) := ⟨rfl, rfl, rfl, by decide +kernel, rfl, by decide +kernel, by decide +kernel⟩
def spMirrors (K : PySem.W.Frag) : Sp := fun vs H Q _ => ∃ (a : Addr) (ns : List Int), vs = [.ref a] ∧ SqT K H a (ns.map V.int) ∧ Mir ns ∧ ∀ H', Same H H' → Q (.bl true) H'
theorem ok_mirrors {f fA : Addr} {fd fdA : FuncData} {t : Tok} (F : Fun K "are_mirrors" "are_mirrors" sMirrors f fd) (DA : DefAt K mg "are_marks" sMarks ["thing", "many"] fA fdA) (GA : FnOk P w K mg base CX0 3 fA fdA ["thing", "many"] (spMarks K)) (B : Bare mg)
    (mM : mg "MOST_MARKS" = some (.int 8 t)) : FnOk P w K mg base CX0 4 f fd ["thing"] (spMirrors K) := by
  refine F.ok scMirrors (fun vs H Q E h => ?_) (fun cdv A outer s H vs Q E hr h => ?_)
  · obtain ⟨a, ns, rfl, _⟩ := h
    rfl
  · obtain ⟨a, ns, rfl, hT, hM, q⟩ := h
    refine ⟨_, pss_cons (ps_if (PW.pt (pw_or (pt_not (pt_val (pe_callB call_isi (by rfl) B.isinstance (by decide +kernel) (pa_cons (pv 0) (pa_cons (pe_bltn (v := .ty "tuple") (by rfl) B.tuple (by decide +kernel) rfl) pa_nil)))))
        (pw_or1 (pt_cmpR op_gt (pe_callB call_len_seq (by rfl) B.len PySem.boot_len (pa_cons (pv 0) pa_nil)) (pe_glob (v := .int 8) rfl mM ⟨_, rfl⟩) (nomark _))))) (pss_one (ps_ret pe_bl)) pss_nil)
      (pss_cons (ps_if (pt_not (pt_val (pe_call GA hr (by rfl) DA.mg DA.fn.kp DA.bi .nil pass0 (pa_cons (pv 0) (pa_cons (pe_callB call_len_seq (by rfl) B.len PySem.boot_len (pa_cons (pv 0) pa_nil)) pa_nil))))) (pss_one (ps_ret pe_bl)) pss_nil)
      (pss_one (ps_ret (pe_callB (cr_all rfl) (by rfl) B.all (by decide +kernel) (pa_cons
        (pe_lc (own := [("mark", 1), ("mirror", 2)]) (g := gTup K 2 (gCons (gName 1) (gCons (gName 2) gNil))) (tt := tYes) rfl scMirrors.nd (pi_enT (by rfl) B.enumerate (pa_cons (pv 0) pa_nil)) (blkOk_by (N := ["thing", "mark", "mirror"]) (sc := defScope sMirrors) (by decide +kernel))
          (fun _ _ _ _ _ => pg_tupK rfl rfl (pgs_cons (pg_name (i := 1) scMirrors.nd rfl (Or.inl rfl)) (pgs_cons (pg_name (i := 2) scMirrors.nd rfl (Or.inl rfl)) pgs_nil))) (fun _ _ _ _ _ => pts_nil)
          (fun _ _ _ _ _ => pe_cmpR op_eq (pe_ix (ix_tupK (K := K) rfl) (pv 0) (pv 2) (fun _ _ => rfl)) (pv 1) (nomark _))) pa_nil))))), ?_⟩
    refine ⟨.ref a, rfl, .ref a, .ty "tuple", _, _, true, rfl, .ty "tuple", tyT hT, kit_ty (by decide +kernel), true, rfl, iteF ?_⟩
    refine ⟨.ref a, rfl, a, _, rfl, .inr hT, _, _, rfl, rfl, decide (((ns.map V.int).length : Int) > 8), rfl, ?_⟩
    have h8 := hM.few
    rw [decide_eq_false (show ¬ ((ns.map V.int).length : Int) > 8 by rw [List.length_map]; omega)]
    refine iteF ?_
    refine ⟨.ref a, rfl, .ref a, rfl, a, _, rfl, .inr hT, a, ns, _, rfl, hT, hM.pos, by omega, fun i hi => ?_, fun H1 s1 => ⟨true, rfl, iteF ?_⟩⟩
    · rw [List.length_map]; exact hM.inn i hi
    · refine ⟨.ref a, rfl, a, _, rfl, sqT_same s1 hT, fun D nD => ?_⟩
      refine lc_it (walk_enT (K := K) (a := a) (xs := ns.map V.int)) (fun i H' => Same H1 H' ∧ H' D = some (.lst (List.replicate i (V.bl true)))) ⟨same_upd nD, upd_same⟩ (fun i H' _ p => sqT_same p.1 (sqT_same s1 hT)) (fun i x H2 H3 hi p y => ?_) fun H' p => ?_
      · obtain ⟨T, x1, x2, rfl, nT, rfl, e1, e2⟩ := y
        have e1' : x1 = .int (i : Nat) := (Option.some.inj e1).symm
        subst e1'
        obtain ⟨m, hm, rfl⟩ := map_at e2
        have hin := hM.inn m (List.mem_of_getElem? hm)
        have hil : i < ns.length := (List.getElem?_eq_some_iff.mp hm).1
        have hDT : D ≠ T := ne_of_none p.2 nT
        have sT : Same H2 (upd H2 T (.tup [.int (i : Nat), .int m])) := same_upd nT
        have hA : SqT K (upd H2 T (.tup [.int (i : Nat), .int m])) a (ns.map V.int) := sqT_same sT (sqT_same p.1 (sqT_same s1 hT))
        have gm : (ns.map V.int)[m.toNat]? = some (.int (i : Nat)) := by
          rw [List.getElem?_map, hM.back i m hm]; rfl
        refine ⟨T, _, rfl, tupNew upd_same, rfl, _, _, rfl, _, _, rfl, rfl, rfl, tt_yes ⟨.ref a, rfl, .int m, rfl, a, _, m, .int (i : Nat), rfl, rfl, hA, ?_, .int (i : Nat), rfl, rfl, _, (sT _ _ p.2), ?_, ?_, ?_⟩⟩
        · have e : m = ((m.toNat : Nat) : Int) := by omega
          rw [e]; exact atI_nat gm
        · rw [List.length_replicate]; exact few1 (by omega)
        · exact fun b o e => by rw [upd_ne (ne_of_none e nD)]; exact sT b o (p.1 b o e)
        · rw [upd_same, decide_eq_true rfl, rep_next]
      · rw [List.length_map, rep_bl] at p
        refine ⟨D, _, rfl, lstNew p.2, ?_⟩
        rw [all_true]
        exact q H' (s1.trans p.1)
end
end K6
set_option maxHeartbeats 4000000
namespace K6
open PySem PySem.Spec PyProof.Rows L2 RV
section
variable {P : Program} {w : World} {K : PySem.W.Frag} {mg : Str → Option Value} {base : Heap}
/-! ### is_step -/
theorem scStep : FnScope ["thing", "many"] ["thing", "many"] (defScope sStep) := ⟨rfl, rfl, rfl, by decide +kernel, rfl, by decide +kernel, by decide +kernel⟩
def spStep (K : PySem.W.Frag) : Sp := fun vs H Q _ => ∃ (a : Addr) (x y n : Int), vs = [.ref a, .int n] ∧ SqT K H a ([x, y].map V.int) ∧ (0 ≤ x ∧ x < n) ∧ (0 ≤ y ∧ y < n) ∧ ∀ H', Same H H' → Q (.bl true) H'
theorem ok_step {f fA : Addr} {fd fdA : FuncData} (F : Fun K "is_step" "is_step" sStep f fd) (DA : DefAt K mg "are_marks" sMarks ["thing", "many"] fA fdA) (GA : FnOk P w K mg base CX0 3 fA fdA ["thing", "many"] (spMarks K)) (B : Bare mg) :
    FnOk P w K mg base CX0 4 f fd ["thing", "many"] (spStep K) := by
  refine F.ok scStep (fun vs H Q E h => ?_) (fun cdv A outer s H vs Q E hr h => ?_)
  · obtain ⟨a, x, y, n, rfl, _⟩ := h
    rfl
  · obtain ⟨a, x, y, n, rfl, hT, hx, hy, q⟩ := h
    refine ⟨_, pss_one (ps_ret (pe_and (pe_call GA hr (by rfl) DA.mg DA.fn.kp DA.bi .nil pass0 (pa_cons (pv 0) (pa_cons (pv 1) pa_nil))) (pe_one (pe_cmpR op_eq (pe_callB call_len_seq (by rfl) B.len PySem.boot_len (pa_cons (pv 0) pa_nil)) pe_int (nomark _))))), ?_⟩
    refine ⟨.ref a, rfl, .int n, rfl, a, [x, y], n, rfl, hT, by simp, by simp, fun i hi => ?_, fun H1 s1 => ⟨true, rfl, iteT ?_⟩⟩
    · simp only [List.mem_cons, List.mem_nil_iff, or_false, List.not_mem_nil] at hi
      rcases hi with rfl | rfl
      · exact hx
      · exact hy
    · refine ⟨.ref a, rfl, a, _, rfl, .inr (sqT_same s1 hT), rfl, ?_⟩
      exact q H1 s1
/-! ### is_rising -/
theorem scRising : FnScope ["pairs", "one", "other"] ["pairs"] (defScope sRising) := ⟨rfl, rfl, rfl, by decide +kernel, rfl, by decide +kernel, by decide +kernel⟩
def spRising (K : PySem.W.Frag) : Sp := fun vs H Q _ => ∃ (a : Addr) (ps : List (List Int)), vs = [.ref a] ∧ Tups K H a ps ∧ ps.length ≤ 1000 ∧ (∀ (i : Nat) (p q : List Int), ps[i]? = some p → ps[i + 1]? = some q → HT.lexLt p q = true) ∧ ∀ H', Same H H' → Q (.bl true) H'
theorem cut1 (xs : List V) : cutV xs (some 1) none = xs.drop 1 := by
  unfold cutV
  rw [show HT.sIx xs.length 0 (some 1) = min 1 xs.length from HT.sIx_nat xs.length 0 1, HT.sIx_none]
  cases xs with
  | nil => rfl
  | cons x r =>
    rw [show min 1 (x :: r).length = 1 by rw [List.length_cons]; omega]
    show (List.take ((x :: r).length - 1) r) = r
    rw [List.length_cons, Nat.add_sub_cancel]
    exact List.take_length
theorem ok_rising {f : Addr} {fd : FuncData} (F : Fun K "is_rising" "is_rising" sRising f fd) (B : Bare mg) : FnOk P w K mg base CX0 1 f fd ["pairs"] (spRising K) := by
  refine F.ok scRising (fun vs H Q E h => ?_) (fun cdv A outer s H vs Q E hr h => ?_)
  · obtain ⟨a, ps, rfl, _⟩ := h
    rfl
  · obtain ⟨a, ps, rfl, hTT, hl, hrise, q⟩ := h
    obtain ⟨ks, rfl, hT, hks⟩ := hTT
    refine ⟨_, pss_one (ps_ret (pe_callB (cr_all rfl) (by rfl) B.all (by decide +kernel) (pa_cons
        (pe_lc (own := [("one", 1), ("other", 2)]) (g := gTup K 2 (gCons (gName 1) (gCons (gName 2) gNil))) (tt := tYes) rfl scRising.nd (RZ.pi_zipA (by rfl) B.zip (pa_cons (pv 0) (pa_cons (pe_slice sl_tupA (pv 0) (po_some pe_int) po_none) pa_nil))) (blkOk_by (N := ["pairs", "one", "other"]) (sc := defScope sRising) (by decide +kernel))
          (fun _ _ _ _ _ => pg_tupK rfl rfl (pgs_cons (pg_name (i := 1) scRising.nd rfl (Or.inl rfl)) (pgs_cons (pg_name (i := 2) scRising.nd rfl (Or.inl rfl)) pgs_nil))) (fun _ _ _ _ _ => pts_nil)
          (fun _ _ _ _ _ => pe_cmpR (op_ltTK (K := K) rfl hr.units0) (pv 1) (pv 2) (nomark _))) pa_nil))), ?_⟩
    have go : ∀ (b : Addr) (H1 : Hp) (Qc : VK), Same H H1 → SqT K H1 b ((ks.map fun p => V.ref p.1).drop 1) → (∀ D H', Same H1 H' → H' D = some (.lst (List.replicate (ks.length - 1) (V.bl true))) → Qc (.ref D) H') →
        tLc (fun _ H2 R => R (RZ.ItzT K a b) H2) (gTup K 2 (gCons (gName 1) (gCons (gName 2) gNil))) tYes (tOp (rLtT K) (tVar 1) (tVar 2)) [1, 2] (start ["pairs", "one", "other"] [.ref a]) H1 Qc := by
      intro b H1 Qc s1 hb fin D nD
      refine lc_it (walk_zipT (K := K) (a := a) (b := b) (xs := ks.map fun p => V.ref p.1) (ys := (ks.map fun p => V.ref p.1).drop 1) (n := ks.length - 1) (by rw [List.length_drop, List.length_map]; omega))
        (fun i H' => Same H1 H' ∧ H' D = some (.lst (List.replicate i (V.bl true)))) ⟨same_upd nD, upd_same⟩ (fun i H' _ p => ⟨sqT_same p.1 (sqT_same s1 hT), sqT_same p.1 hb⟩) (fun i x H2 H3 hi p y => ?_) fun H' p => fin D H' p.1 p.2
      obtain ⟨T, x1, x2, rfl, nT, rfl, e1, e2⟩ := y
      have e3 : ((ks.map fun p => V.ref p.1).drop 1)[i]? = some x2 := e2
      rw [List.getElem?_drop] at e3
      obtain ⟨k1, g1, rfl⟩ := map_at e1
      obtain ⟨k2, g2, rfl⟩ := map_at e3
      have sT : Same H2 (upd H2 T (.tup [V.ref k1.1, V.ref k2.1])) := same_upd nT
      have sA : Same H (upd H2 T (.tup [V.ref k1.1, V.ref k2.1])) := (s1.trans p.1).trans sT
      have lt : HT.lexLt k1.2 k2.2 = true := by
        refine hrise i k1.2 k2.2 ?_ ?_
        · rw [List.getElem?_map, g1]; rfl
        · rw [Nat.add_comm, List.getElem?_map, g2]; rfl
      refine ⟨T, _, rfl, tupNew upd_same, rfl, _, _, rfl, _, _, rfl, rfl, rfl, tt_yes ⟨.ref k1.1, rfl, .ref k2.1, rfl, k1.1, k2.1, k1.2, k2.2, rfl, rfl, sqT_same sA (hks k1 (List.mem_of_getElem? g1)), sqT_same sA (hks k2 (List.mem_of_getElem? g2)), _, sT _ _ p.2, ?_, ?_, ?_⟩⟩
      · rw [List.length_replicate]; rw [List.length_map] at hl; exact few1 (by omega)
      · exact fun b o e => by rw [upd_ne (ne_of_none e nD)]; exact sT b o (p.1 b o e)
      · rw [upd_same, lt, rep_next]
    have fin : ∀ (H1 : Hp), Same H H1 → ∀ D H', Same H1 H' → H' D = some (.lst (List.replicate (ks.length - 1) (V.bl true))) → ∃ (a : Addr) (bs : List Bool), [V.ref D] = [V.ref a] ∧ SqL K H' a (bs.map V.bl) ∧ Q (.bl (bs.all id)) H' := by
      intro H1 s1 D H' s2 e
      refine ⟨D, List.replicate (ks.length - 1) true, rfl, lstNew (by rw [e, rep_bl]), ?_⟩
      rw [all_true]
      exact q H' (s1.trans s2)
    refine ⟨.ref a, rfl, .ref a, rfl, 1, rfl, a, _, rfl, hT, fun hw => ?_, fun hw c nc => ?_⟩
    · have e0 : ks.map (fun p => V.ref p.1) = [] := by
        cases hk : ks.map (fun p => V.ref p.1) with
        | nil => rfl
        | cons x r =>
          rw [hk] at hw
          have h1 := hw.1
          rw [show HT.sIx (x :: r).length 0 (some 1) = min 1 (x :: r).length from HT.sIx_nat _ 0 1, List.length_cons] at h1
          omega
      refine ⟨a, a, _, _, rfl, .inr ⟨hT, hT, ?_⟩⟩
      refine go a H (fun v H2 => ∃ (a : Addr) (bs : List Bool), [v] = [V.ref a] ∧ SqL K H2 a (bs.map V.bl) ∧ Q (.bl (bs.all id)) H2) (Same.refl H) ?_ ?_
      · rw [e0]; rw [e0] at hT; exact hT
      · exact fin H (Same.refl H)
    · have s1 : Same H (upd H c (.tup (cutV (ks.map fun p => V.ref p.1) (some 1) none))) := same_upd nc
      refine ⟨a, c, _, _, rfl, .inr ⟨sqT_same s1 hT, tupNew upd_same, ?_⟩⟩
      refine go c _ (fun v H2 => ∃ (a : Addr) (bs : List Bool), [v] = [V.ref a] ∧ SqL K H2 a (bs.map V.bl) ∧ Q (.bl (bs.all id)) H2) s1 ?_ ?_
      · exact tupNew (by rw [upd_same, cut1])
      · exact fin _ s1
end
end K6
set_option maxHeartbeats 4000000
namespace K6
open PySem PySem.Spec PyProof.Rows L2 RV
/-- the marks behind m by the steps ps -/
def behindOf (ps : List (List Int)) (m : Int) : List Int := (ps.filter fun p => decide (p.getD 0 0 = m)).map fun p => p.getD 1 0
section
variable {P : Program} {w : World} {K : PySem.W.Frag} {mg : Str → Option Value} {base : Heap}
/-! ### marks_behind -/
theorem scBehind : FnScope ["steps", "mark", "a", "b"] ["steps", "mark"] (defScope sBehind) := ⟨rfl, rfl, rfl, by decide +kernel, rfl, by decide +kernel, by decide +kernel⟩
def spBehind (K : PySem.W.Frag) : Sp := fun vs H Q _ => ∃ (a : Addr) (ps : List (List Int)) (m : Int), vs = [.ref a, .int m] ∧ Tups K H a ps ∧ ps.length ≤ 1000 ∧ (∀ p ∈ ps, ∃ x y : Int, p = [x, y]) ∧
  ∀ H' t, Same H H' → H t = none → H' t = some (.tup ((behindOf ps m).map V.int)) → Q (.ref t) H'
theorem behind_next {ps : List (List Int)} {m : Int} {i : Nat} {x y : Int} (h : ps[i]? = some [x, y]) : behindOf (ps.take (i + 1)) m = behindOf (ps.take i) m ++ (if x = m then [y] else []) := by
  unfold behindOf
  rw [List.take_add_one, h]
  show List.map _ (List.filter _ (ps.take i ++ [[x, y]])) = _
  rw [List.filter_append, List.map_append]
  by_cases e : x = m
  · simp [e]
  · simp [e]
theorem behind_len (ps : List (List Int)) (m : Int) : (behindOf ps m).length ≤ ps.length := by
  unfold behindOf
  rw [List.length_map]
  exact List.length_filter_le _ _
theorem ok_behind {f : Addr} {fd : FuncData} (F : Fun K "marks_behind" "marks_behind" sBehind f fd) (B : Bare mg) : FnOk P w K mg base CX0 1 f fd ["steps", "mark"] (spBehind K) := by
  refine F.ok scBehind (fun vs H Q E h => ?_) (fun cdv A outer s H vs Q E hr h => ?_)
  · obtain ⟨a, ps, m, rfl, _⟩ := h
    rfl
  · obtain ⟨a, ps, m, rfl, hTT, hl, hp, q⟩ := h
    obtain ⟨ks, rfl, hT, hks⟩ := hTT
    refine ⟨_, pss_one (ps_ret (pe_tupleOf (by rfl) B.tuple
        (pe_lc (own := [("a", 2), ("b", 3)]) (g := gTup K 2 (gCons (gName 2) (gCons (gName 3) gNil))) rfl scBehind.nd (pi_tup (pv 0)) (blkOk_by (N := ["steps", "mark", "a", "b"]) (sc := defScope sBehind) (by decide +kernel))
          (fun _ _ _ _ _ => pg_tupK rfl rfl (pgs_cons (pg_name (i := 2) scBehind.nd rfl (Or.inl rfl)) (pgs_cons (pg_name (i := 3) scBehind.nd rfl (Or.inl rfl)) pgs_nil))) (fun _ _ _ _ _ => pts_one (pt_cmpR op_eq (pv 2) (pv 1) (nomark _)))
          (fun _ _ _ _ _ => pv 3)))), ?_⟩
    refine ⟨.ref a, rfl, a, rfl, ⟨_, hT⟩, fun D nD => ?_⟩
    refine lc_tup (K := K) (a := a) (xs := ks.map fun p => V.ref p.1) (fun i H' => Same H H' ∧ H' D = some (.lst ((behindOf ((ks.map (·.2)).take i) m).map V.int))) ⟨same_upd nD, by rw [upd_same]; rfl⟩ (fun i H' _ p => sqT_same p.1 hT) (fun i x H' hx p => ?_) fun H' p => ?_
    · obtain ⟨k, g, rfl⟩ := map_at hx
      have hk : k ∈ ks := List.mem_of_getElem? g
      obtain ⟨x, y, e⟩ := hp k.2 (List.mem_map_of_mem hk)
      have hkT : SqT K H' k.1 ([x, y].map V.int) := by rw [← e]; exact sqT_same p.1 (hks k hk)
      have gi : (ks.map (·.2))[i]? = some [x, y] := by rw [List.getElem?_map, g, ← e]; rfl
      refine ⟨k.1, _, rfl, hkT, rfl, _, _, rfl, _, _, rfl, rfl, rfl, .int x, rfl, .int m, rfl, rfl, _, rfl, ?_⟩
      have hle := behind_len ((ks.map (·.2)).take i) m
      rw [List.length_take] at hle
      by_cases e : x = m
      · subst e
        rw [decide_eq_true rfl]
        refine iteT ⟨.int y, rfl, _, p.2, ?_, ?_, ?_⟩
        · rw [List.length_map]; exact few1 (by omega)
        · exact fun b o z => by rw [upd_ne (ne_of_none z nD)]; exact p.1 b o z
        · rw [upd_same, behind_next gi, if_pos rfl, List.map_append]; rfl
      · rw [decide_eq_false (fun z => e (V.int.inj z))]
        refine iteF ⟨p.1, ?_⟩
        rw [p.2, behind_next gi, if_neg e, List.append_nil]
    · rw [List.length_map] at p
      have e : (ks.map (·.2)).take ks.length = ks.map (·.2) := List.take_of_length_le (by rw [List.length_map]; exact Nat.le_refl _)
      rw [e] at p
      refine .inl ⟨D, _, rfl, lstNew p.2, fun t nt => ?_⟩
      exact q _ t (p.1.trans (same_upd nt)) (p.1.free nt) upd_same
/-! ### are_steps -/
theorem scSteps : FnScope ["mirrors", "thing", "pair", "a", "b"] ["mirrors", "thing"] (defScope sSteps) := ⟨rfl, rfl, rfl, by decide +kernel, rfl, by decide +kernel, by decide +kernel⟩
def spSteps (K : PySem.W.Frag) : Sp := fun vs H Q _ => ∃ (a b : Addr) (ns : List Int) (ps : List (List Int)), vs = [.ref a, .ref b] ∧ SqT K H a (ns.map V.int) ∧ Tups K H b ps ∧ Mir ns ∧ Stp ns ps ∧ ∀ H', Same H H' → Q (.bl true) H'
theorem ok_steps {f fS fR : Addr} {fd fdS fdR : FuncData} (F : Fun K "are_steps" "are_steps" sSteps f fd) (DS : DefAt K mg "is_step" sStep ["thing", "many"] fS fdS) (GS : FnOk P w K mg base CX0 4 fS fdS ["thing", "many"] (spStep K))
    (DR : DefAt K mg "is_rising" sRising ["pairs"] fR fdR) (B : Bare mg) : FnOk P w K mg base CX0 5 f fd ["mirrors", "thing"] (spSteps K) := by
  have GR : FnOk P w K mg base CX0 1 fR fdR ["pairs"] (spRising K) := ok_rising DR.fn B
  refine F.ok scSteps (fun vs H Q E h => ?_) (fun cdv A outer s H vs Q E hr h => ?_)
  · obtain ⟨a, b, ns, ps, rfl, _⟩ := h
    rfl
  · obtain ⟨a, b, ns, ps, rfl, hA, hTT, hM, hS, q⟩ := h
    have hTT0 := hTT
    obtain ⟨ks, rfl, hT, hks⟩ := hTT
    have h64 := hS.few
    rw [List.length_map] at h64
    refine ⟨_, pss_cons (ps_if (pt_not (pt_val (pe_callB call_isi (by rfl) B.isinstance (by decide +kernel) (pa_cons (pv 1) (pa_cons (pe_bltn (v := .ty "tuple") (by rfl) B.tuple (by decide +kernel) rfl) pa_nil))))) (pss_one (ps_ret pe_bl)) pss_nil)
      (pss_cons (ps_if (pt_not (pt_val (pe_callB (cr_all rfl) (by rfl) B.all (by decide +kernel) (pa_cons
        (pe_lc (own := [("pair", 2)]) (g := gName 2) (tt := tYes) rfl scSteps.nd (pi_tup (pv 1)) (blkOk_by (N := ["mirrors", "thing", "pair", "a", "b"]) (sc := defScope sSteps) (by decide +kernel)) (fun _ _ _ _ _ => pg_name (i := 2) scSteps.nd rfl (Or.inl rfl)) (fun _ _ _ _ _ => pts_nil)
          (fun _ _ _ _ _ => pe_call GS hr (by rfl) DS.mg DS.fn.kp DS.bi .nil pass0 (pa_cons (pv 2) (pa_cons (pe_callB (call_lenK (K := K) rfl) (by rfl) B.len PySem.boot_len (pa_cons (pv 0) pa_nil)) pa_nil)))) pa_nil)))) (pss_one (ps_ret pe_bl)) pss_nil)
      (pss_cons (ps_if (pt_not (pt_val (pe_call GR (hr.mono (by decide)) (by rfl) DR.mg DR.fn.kp DR.bi .nil pass0 (pa_cons (pv 1) pa_nil)))) (pss_one (ps_ret pe_bl)) pss_nil)
      (pss_one (ps_ret (pe_callB (cr_all rfl) (by rfl) B.all (by decide +kernel) (pa_cons
        (pe_lc (own := [("a", 3), ("b", 4)]) (g := gTup K 2 (gCons (gName 3) (gCons (gName 4) gNil))) (tt := tYes) rfl scSteps.nd (pi_tup (pv 1)) (blkOk_by (N := ["mirrors", "thing", "pair", "a", "b"]) (sc := defScope sSteps) (by decide +kernel))
          (fun _ _ _ _ _ => pg_tupK rfl rfl (pgs_cons (pg_name (i := 3) scSteps.nd rfl (Or.inl rfl)) (pgs_cons (pg_name (i := 4) scSteps.nd rfl (Or.inl rfl)) pgs_nil))) (fun _ _ _ _ _ => pts_nil)
          (fun _ _ _ _ _ => pe_cmpR (op_inTsK (K := K) rfl (un65 hr)) (pe_tup (pa_cons (pe_ix (ix_tupK (K := K) rfl) (pv 0) (pv 4) (fun _ _ => rfl)) (pa_cons (pe_ix (ix_tupK (K := K) rfl) (pv 0) (pv 3) (fun _ _ => rfl)) pa_nil))) (pv 1) (by rfl))) pa_nil)))))), ?_⟩
    -- isinstance(thing, tuple)
    refine ⟨.ref b, rfl, .ref b, .ty "tuple", _, _, true, rfl, .ty "tuple", tyT hT, kit_ty (by decide +kernel), true, rfl, iteF ?_⟩
    -- all of them are steps
    refine ⟨.ref b, rfl, b, rfl, ⟨_, hT⟩, fun D nD => ?_⟩
    refine lc_tup (K := K) (a := b) (xs := ks.map fun p => V.ref p.1) (fun i H' => Same H H' ∧ H' D = some (.lst (List.replicate i (V.bl true)))) ⟨same_upd nD, upd_same⟩ (fun i H' _ p => sqT_same p.1 hT) (fun i x H' hx p => ?_) fun H1 p => ?_
    · obtain ⟨k, g, rfl⟩ := map_at hx
      have hk : k ∈ ks := List.mem_of_getElem? g
      have hi : i < ks.length := (List.getElem?_eq_some_iff.mp g).1
      obtain ⟨x, y, e, hx1, hy1⟩ := hS.pair k.2 (List.mem_map_of_mem hk)
      have hkT : SqT K H' k.1 ([x, y].map V.int) := by rw [← e]; exact sqT_same p.1 (hks k hk)
      refine ⟨rfl, tt_yes ⟨.ref k.1, rfl, .ref a, rfl, a, _, rfl, .inr (sqT_same p.1 hA), k.1, x, y, _, rfl, hkT, ?_, ?_, fun H2 s2 => ⟨_, s2 _ _ p.2, ?_, ?_, ?_⟩⟩⟩
      · rw [List.length_map]; exact hx1
      · rw [List.length_map]; exact hy1
      · rw [List.length_replicate]; exact few1 (by omega)
      · exact fun c o z => by rw [upd_ne (ne_of_none z nD)]; exact s2 c o (p.1 c o z)
      · rw [upd_same, rep_next]
    · rw [rep_bl] at p
      refine ⟨D, _, rfl, lstNew p.2, ?_⟩
      rw [all_true]
      refine ⟨true, rfl, iteF ?_⟩
      -- they rise
      refine ⟨.ref b, rfl, b, _, rfl, hTT0.same p.1, by rw [List.length_map]; omega, hS.rise, fun H2 s2 => ⟨true, rfl, iteF ?_⟩⟩
      have s02 : Same H H2 := p.1.trans s2
      -- their mirror steps
      refine ⟨.ref b, rfl, b, rfl, ⟨_, sqT_same s02 hT⟩, fun D2 nD2 => ?_⟩
      refine lc_tup (K := K) (a := b) (xs := ks.map fun p => V.ref p.1) (fun i H' => Same H2 H' ∧ H' D2 = some (.lst (List.replicate i (V.bl true)))) ⟨same_upd nD2, upd_same⟩ (fun i H' _ p => sqT_same p.1 (sqT_same s02 hT)) (fun i x H' hx p => ?_) fun H3 p => ?_
      · obtain ⟨k, g, rfl⟩ := map_at hx
        have hk : k ∈ ks := List.mem_of_getElem? g
        have hi : i < ks.length := (List.getElem?_eq_some_iff.mp g).1
        obtain ⟨x, y, e, hx1, hy1⟩ := hS.pair k.2 (List.mem_map_of_mem hk)
        have s0' : Same H H' := s02.trans p.1
        have hkT : SqT K H' k.1 ([x, y].map V.int) := by rw [← e]; exact sqT_same s0' (hks k hk)
        obtain ⟨mx, gx⟩ : ∃ mx, ns[x.toNat]? = some mx := ⟨_, List.getElem?_eq_getElem (by omega)⟩
        obtain ⟨my, gy⟩ : ∃ my, ns[y.toNat]? = some my := ⟨_, List.getElem?_eq_getElem (by omega)⟩
        have hin : [my, mx] ∈ ks.map (·.2) := hS.mirr x y mx my (by rw [← e]; exact List.mem_map_of_mem hk) gx gy
        have ax : atI (ns.map V.int) x = some (.int mx) := by
          rw [show x = ((x.toNat : Nat) : Int) by omega]; exact atI_nat (by rw [List.getElem?_map, gx]; rfl)
        have ay : atI (ns.map V.int) y = some (.int my) := by
          rw [show y = ((y.toNat : Nat) : Int) by omega]; exact atI_nat (by rw [List.getElem?_map, gy]; rfl)
        refine ⟨k.1, _, rfl, hkT, rfl, _, _, rfl, _, _, rfl, rfl, rfl, tt_yes ⟨.ref a, rfl, .int y, rfl, a, _, y, _, rfl, rfl, sqT_same s0' hA, ay, .ref a, rfl, .int x, rfl, a, _, x, _, rfl, rfl, sqT_same s0' hA, ax, (by show 2 ≤ sizeLine; decide), fun T nT => ?_⟩⟩
        have sT : Same H' (upd H' T (.tup [.int my, .int mx])) := same_upd nT
        refine ⟨.ref b, rfl, T, b, [my, mx], _, rfl, rfl, tupNew upd_same, (hTT0.same s0').same sT, _, sT _ _ p.2, ?_, ?_, ?_⟩
        · rw [List.length_replicate]; exact few1 (by omega)
        · exact fun c o z => by rw [upd_ne (ne_of_none z nD2)]; exact sT c o (p.1 c o z)
        · rw [upd_same, decide_eq_true hin, rep_next]
      · rw [rep_bl] at p
        refine ⟨D2, _, rfl, lstNew p.2, ?_⟩
        rw [all_true]
        exact q H3 (s02.trans p.1)
end
end K6
set_option maxHeartbeats 4000000
namespace K6
open PySem PySem.Spec PyProof.Rows L2 RV
/-! ### a Rule's fields -/
theorem n1 : ¬ (("mirrors" : Str) = "steps") := by decide +kernel
theorem n2 : ¬ (("mirrors" : Str) = "followers") := by decide +kernel
theorem n3 : ¬ (("steps" : Str) = "followers") := by decide +kernel
def flds (a b t : Addr) : List (Str × V) := putF "followers" (.ref t) (putF "steps" (.ref b) (putF "mirrors" (.ref a) []))
theorem flds_m (a b t : Addr) : (flds a b t).lookup ("mirrors" : Str) = some (.ref a) := by
  unfold flds
  rw [lookup_putF, if_neg n2, lookup_putF, if_neg n1, lookup_putF, if_pos rfl]
theorem flds_s (a b t : Addr) : (flds a b t).lookup ("steps" : Str) = some (.ref b) := by
  unfold flds
  rw [lookup_putF, if_neg n3, lookup_putF, if_pos rfl]
/-- all that a mark is followed by, mark by mark -/
def follow (n : Nat) (ps : List (List Int)) : List (List Int) := (List.range n).map fun (i : Nat) => behindOf ps (i : Int)
/-- a Rule stands at p -/
structure RuleAt (K : PySem.W.Frag) (C : Addr) (H : Hp) (p : Addr) (ns : List Int) (ps : List (List Int)) : Prop where
  ex : ∃ dx a b t, H p = some (.ins C dx (flds a b t)) ∧ SqT K H a (ns.map V.int) ∧ Tups K H b ps ∧ Tups K H t (follow ns.length ps)
theorem RuleAt.same {K : PySem.W.Frag} {C : Addr} {H H' : Hp} {p : Addr} {ns : List Int} {ps : List (List Int)} (r : RuleAt K C H p ns ps) (s : Same H H') : RuleAt K C H' p ns ps := by
  obtain ⟨dx, a, b, t, h1, h2, h3, h4⟩ := r.ex
  exact ⟨dx, a, b, t, s _ _ h1, sqT_same s h2, h3.same s, h4.same s⟩
/-- what the class is, behind the top -/
structure Txt (K : PySem.W.Frag) (mg : Str → Option Value) (C : Addr) : Prop where
  cl : Cls K C
  nM : NoAttr K C "mirrors"
  nS : NoAttr K C "steps"
  nF : NoAttr K C "followers"
  mgC : mg "Rule" = some (.ref C)
  c1 : PySem.W.findIn K (.ref C) "__class__" = some (some (.builtin "object.__class__"))
  c2 : PySem.W.specialIn K (.builtin "object.__class__") "__get__" = some (some (.builtin "getset_descriptor.__get__"))
  c3 : PySem.W.takesIn K (.builtin "object.__class__") = some true
  c4 : PySem.W.mroIn K C (.type "object") = some true
  c5 : PySem.W.kitOne K (.ref C) (.ref C) = some true
section
variable {P : Program} {w : World} {K : PySem.W.Frag} {mg : Str → Option Value} {base : Heap}
/-! ### __init__ -/
theorem scInit : FnScope ["self", "mirrors", "steps", "mark"] ["self", "mirrors", "steps"] (defScope sInit) := ⟨rfl, rfl, rfl, by decide +kernel, rfl, by decide +kernel, by decide +kernel⟩
def spInit (K : PySem.W.Frag) (C : Addr) : Sp := fun vs H Q _ => ∃ (p dx a b : Addr) (ns : List Int) (ps : List (List Int)), vs = [.ref p, .ref a, .ref b] ∧ H p = some (.ins C dx []) ∧ SqT K H a (ns.map V.int) ∧ Tups K H b ps ∧ Mir ns ∧ Stp ns ps ∧
  ∀ H' t, (∀ c o, H c = some o → c ≠ p → H' c = some o) → H' p = some (.ins C dx (flds a b t)) → Tups K H' t (follow ns.length ps) → Q .non H'
theorem sqT_but {H H' : Hp} {p C dx : Addr} {fs : List (Str × V)} (hp : H p = some (.ins C dx fs)) (k : ∀ c o, H c = some o → c ≠ p → H' c = some o) {a : Addr} {xs : List V} (h : SqT K H a xs) : SqT K H' a xs := by
  rcases h with (h | ⟨o, h⟩) | h
  · exact .inl (.inl (k _ _ h fun z => by rw [z, hp] at h; cases h))
  · exact .inl (.inr ⟨o, k _ _ h fun z => by rw [z, hp] at h; cases h⟩)
  · exact .inr h
theorem tups_but {H H' : Hp} {p C dx : Addr} {fs : List (Str × V)} (hp : H p = some (.ins C dx fs)) (k : ∀ c o, H c = some o → c ≠ p → H' c = some o) {a : Addr} {ps : List (List Int)} (h : Tups K H a ps) : Tups K H' a ps := by
  obtain ⟨ks, h1, h2, h3⟩ := h
  exact ⟨ks, h1, sqT_but hp k h2, fun q hq => sqT_but hp k (h3 q hq)⟩
theorem follow_next (i : Nat) (ps : List (List Int)) : follow (i + 1) ps = follow i ps ++ [behindOf ps (i : Int)] := by
  unfold follow
  rw [List.range_succ, List.map_append]; rfl
theorem ok_init {f fM fS fB C : Addr} {fd fdM fdS fdB : FuncData} (F : Fun K "__init__" "Rule.__init__" sInit f fd) (T : Txt K mg C)
    (DM : DefAt K mg "are_mirrors" sMirrors ["thing"] fM fdM) (GM : FnOk P w K mg base CX0 4 fM fdM ["thing"] (spMirrors K)) (DS : DefAt K mg "are_steps" sSteps ["mirrors", "thing"] fS fdS) (GS : FnOk P w K mg base CX0 5 fS fdS ["mirrors", "thing"] (spSteps K))
    (DB : DefAt K mg "marks_behind" sBehind ["steps", "mark"] fB fdB) (B : Bare mg) : FnOk P w K mg base CX0 6 f fd ["self", "mirrors", "steps"] (spInit K C) := by
  have GB : FnOk P w K mg base CX0 1 fB fdB ["steps", "mark"] (spBehind K) := ok_behind DB.fn B
  refine F.ok scInit (fun vs H Q E h => ?_) (fun cdv A outer s H vs Q E hr h => ?_)
  · obtain ⟨p, dx, a, b, ns, ps, rfl, _⟩ := h
    rfl
  · obtain ⟨p, dx, a, b, ns, ps, rfl, hp, hA, hB, hM, hS, q⟩ := h
    refine ⟨_, pss_cons (ps_if (pt_not (pt_val (pe_call GM (hr.mono (by decide)) (by rfl) DM.mg DM.fn.kp DM.bi .nil pass0 (pa_cons (pv 1) pa_nil)))) (pss_one ps_never) pss_nil)
      (pss_cons (ps_if (pt_not (pt_val (pe_call GS hr (by rfl) DS.mg DS.fn.kp DS.bi .nil pass0 (pa_cons (pv 1) (pa_cons (pv 2) pa_nil))))) (pss_one ps_never) pss_nil)
      (pss_cons (ps_fld (pv 0) (pv 1) rfl)
      (pss_cons (ps_fld (pv 0) (pv 2) rfl)
      (pss_one (ps_fld (pv 0) (pe_tupleOf (by rfl) B.tuple
        (pe_lc (own := [("mark", 3)]) (g := gName 3) (tt := tYes) rfl scInit.nd (pi_range1 (by rfl) B.range (pa_cons (pe_callB call_len_seq (by rfl) B.len PySem.boot_len (pa_cons (pv 1) pa_nil)) pa_nil)) (blkOk_by (N := ["self", "mirrors", "steps", "mark"]) (sc := defScope sInit) (by decide +kernel))
          (fun _ _ _ _ _ => pg_name (i := 3) scInit.nd rfl (Or.inl rfl)) (fun _ _ _ _ _ => pts_nil)
          (fun _ _ _ _ _ => pe_call GB (hr.mono (by decide)) (by rfl) DB.mg DB.fn.kp DB.bi .nil pass0 (pa_cons (pv 2) (pa_cons (pv 3) pa_nil))))) rfl))))), ?_⟩
    refine ⟨.ref a, rfl, a, ns, rfl, hA, hM, fun H1 s1 => ⟨true, rfl, iteF ?_⟩⟩
    refine ⟨.ref a, rfl, .ref b, rfl, a, b, ns, ps, rfl, sqT_same s1 hA, hB.same s1, hM, hS, fun H2 s2 => ⟨true, rfl, iteF ?_⟩⟩
    have s02 : Same H H2 := s1.trans s2
    have hp2 := s02 _ _ hp
    refine ⟨.ref a, rfl, .ref p, rfl, p, C, dx, [], rfl, hp2, T.cl, T.nM, (by show 0 < 1000; decide), ?_⟩
    refine ⟨.ref b, rfl, .ref p, rfl, p, C, dx, _, rfl, upd_same, T.cl, T.nS, (by show 1 < 1000; decide), ?_⟩
    -- the heap behind both stores
    have k4 : ∀ c o, H2 c = some o → c ≠ p → (upd (upd H2 p (.ins C dx (putF "mirrors" (.ref a) []))) p (.ins C dx (putF "steps" (.ref b) (putF "mirrors" (.ref a) [])))) c = some o := fun c o e z => by
      rw [upd_ne z, upd_ne z]; exact e
    generalize e4 : upd (upd H2 p (.ins C dx (putF "mirrors" (.ref a) []))) p (.ins C dx (putF "steps" (.ref b) (putF "mirrors" (.ref a) []))) = H4 at k4 ⊢
    have hp4 : H4 p = some (.ins C dx (putF "steps" (.ref b) (putF "mirrors" (.ref a) []))) := by rw [← e4, upd_same]
    have hA4 : SqT K H4 a (ns.map V.int) := sqT_but hp2 k4 (sqT_same s02 hA)
    have hB4 : Tups K H4 b ps := tups_but hp2 k4 (hB.same s02)
    have h8 := hM.few
    refine ⟨.ref a, rfl, a, _, rfl, .inr hA4, _, rfl, ?_, ?_, fun D nD => ?_⟩
    · rw [List.length_map]; omega
    · rw [List.length_map]; omega
    rw [List.length_map, Int.toNat_natCast]
    refine lc_range (lo := 0) (n := ns.length) (fun i H' => Same H4 H' ∧ ∃ ks : List (Addr × List Int), ks.map (·.2) = follow i ps ∧ H' D = some (.lst (ks.map fun p => V.ref p.1)) ∧ ∀ q ∈ ks, SqT K H' q.1 (q.2.map V.int)) ⟨same_upd nD, [], rfl, upd_same, fun _ z => nomatch z⟩ (fun i H' hi z => ?_) fun H' z => ?_
    · obtain ⟨s5, ks, e1, e2, e3⟩ := z
      have hkl : ks.length = i := by
        have := congrArg List.length e1
        rw [List.length_map] at this
        rw [this]; unfold follow; rw [List.length_map, List.length_range]
      refine ⟨rfl, tt_yes ⟨.ref b, rfl, .int (0 + (i : Nat)), rfl, b, ps, _, rfl, hB4.same s5, by have := hS.few; omega, fun q hq => ?_, fun H6 t s6 nt et => ⟨_, s6 _ _ e2, ?_, ?_, ?_⟩⟩⟩
      · obtain ⟨x, y, e, _⟩ := hS.pair q hq
        exact ⟨x, y, e⟩
      · rw [List.length_map]; exact few1 (by omega)
      · exact fun c o e => by rw [upd_ne (ne_of_none e nD)]; exact s6 c o (s5 c o e)
      · have hk6 : ∀ c o, H6 c = some o → c ≠ D → (upd H6 D (.lst ((ks.map fun p => V.ref p.1) ++ [V.ref t]))) c = some o := fun c o e z => by rw [upd_ne z]; exact e
        have tk : ∀ {c : Addr} {xs : List V}, SqT K H6 c xs → SqT K (upd H6 D (.lst ((ks.map fun p => V.ref p.1) ++ [V.ref t]))) c xs := by
          intro c xs h
          have eD := s6 _ _ e2
          rcases h with (h | ⟨o, h⟩) | h
          · exact .inl (.inl (hk6 _ _ h fun z => by rw [z, eD] at h; cases h))
          · exact .inl (.inr ⟨o, hk6 _ _ h fun z => by rw [z, eD] at h; cases h⟩)
          · exact .inr h
        refine ⟨ks ++ [(t, behindOf ps (i : Int))], ?_, ?_, fun q hq => ?_⟩
        · rw [List.map_append, e1, follow_next]; rfl
        · rw [upd_same, List.map_append]; rfl
        · rcases List.mem_append.mp hq with z | z
          · exact tk (sqT_same s6 (e3 q z))
          · rw [List.mem_singleton.mp z]
            refine tk (tupNew ?_)
            rw [et, show (0 + ((i : Nat) : Int)) = (i : Int) by omega]
    · obtain ⟨s5, ks, e1, e2, e3⟩ := z
      refine .inl ⟨D, _, rfl, lstNew e2, fun t nt => ?_⟩
      have sT : Same H' (upd H' t (.tup (ks.map fun p => V.ref p.1))) := same_upd nt
      have hpT := sT _ _ (s5 _ _ hp4)
      refine ⟨.ref p, rfl, p, C, dx, _, rfl, hpT, T.cl, T.nF, (by
        show (putF "steps" (V.ref b) (putF "mirrors" (V.ref a) [])).length < 1000
        show (if ("mirrors" : Str) = "steps" then [(("mirrors" : Str), V.ref b)] else (("mirrors" : Str), V.ref a) :: putF "steps" (V.ref b) []).length < 1000
        rw [if_neg n1]; show 2 < 1000; decide), ?_⟩
      refine q _ t (fun c o e z => ?_) upd_same ?_
      · rw [upd_ne z]
        exact sT _ _ (s5 _ _ (k4 _ _ (s02 _ _ e) z))
      · have tt : Tups K (upd H' t (.tup (ks.map fun p => V.ref p.1))) t (follow ns.length ps) := ⟨ks, e1, tupNew upd_same, fun q hq => sqT_same sT (e3 q hq)⟩
        exact tups_but hpT (fun c o e z => by rw [upd_ne z]; exact e) tt
end
end K6
namespace RV
open PySem L2
/-! ### lists that rise -/
theorem sorted_eq {α : Type} {f : α → Int} : ∀ {l l' : List α}, l.Pairwise (fun a b => f a < f b) → l'.Pairwise (fun a b => f a < f b) → (∀ x, x ∈ l ↔ x ∈ l') → l = l'
  | [], [], _, _, _ => rfl
  | [], y :: r, _, _, h => nomatch (h y).mpr (List.mem_cons_self ..)
  | x :: r, [], _, _, h => nomatch (h x).mp (List.mem_cons_self ..)
  | x :: l, y :: l', h1, h2, h => by
    rw [List.pairwise_cons] at h1 h2
    have exy : x = y := by
      rcases List.mem_cons.mp ((h x).mp (List.mem_cons_self ..)) with e | e
      · exact e
      · rcases List.mem_cons.mp ((h y).mpr (List.mem_cons_self ..)) with e' | e'
        · exact e'.symm
        · have := h2.1 x e
          have := h1.1 y e'
          omega
    subst exy
    rw [sorted_eq h1.2 h2.2 fun z => ⟨fun hz => ?_, fun hz => ?_⟩]
    · rcases List.mem_cons.mp ((h z).mp (List.mem_cons_of_mem _ hz)) with e | e
      · have := h1.1 z hz
        rw [e] at this; omega
      · exact e
    · rcases List.mem_cons.mp ((h z).mpr (List.mem_cons_of_mem _ hz)) with e | e
      · have := h2.1 z hz
        rw [e] at this; omega
      · exact e
theorem nodup_le {α : Type} [DecidableEq α] : ∀ {l us : List α}, l.Nodup → (∀ x ∈ l, x ∈ us) → l.length ≤ us.length
  | [], _, _, _ => Nat.zero_le _
  | x :: l, us, h, hs => by
    rw [List.nodup_cons] at h
    have hx := hs x (List.mem_cons_self ..)
    have ih : l.length ≤ (us.erase x).length := nodup_le h.2 fun z hz => by
      refine (List.mem_erase_of_ne fun e => ?_).mpr (hs z (List.mem_cons_of_mem _ hz))
      subst e; exact h.1 hz
    have hl := List.length_erase_of_mem hx
    have hp : 0 < us.length := List.length_pos_of_mem hx
    rw [List.length_cons]; omega
/-! ### pairs -/
/-- a pair of marks below b -/
def Pr (b : Int) (p : List Int) : Prop := ∃ x y : Int, p = [x, y] ∧ (0 ≤ x ∧ x < b) ∧ (0 ≤ y ∧ y < b)
abbrev cd (p : List Int) : Int := TS.code 64 p
theorem cd_pair (x y : Int) : cd [x, y] = x * 64 + y := code_pair x y
theorem lt_lex {p q : List Int} (hp : Pr 64 p) (hq : Pr 64 q) (h : cd p < cd q) : HT.lexLt p q = true := by
  obtain ⟨x, y, rfl, hx, hy⟩ := hp
  obtain ⟨x', y', rfl, hx', hy'⟩ := hq
  rw [cd_pair, cd_pair] at h
  rw [HT.lexLt_cons, HT.lexLt_cons, HT.lexLt_nil_nil]
  by_cases e : x = x'
  · rw [if_pos e]
    have : y < y' := by omega
    rw [if_neg (by omega)]; exact decide_eq_true this
  · rw [if_neg e]; exact decide_eq_true (by omega)
theorem lt_of {p q : List Int} (hp : Pr 64 p) (hq : Pr 64 q) (h : cd p ≤ cd q) (ne : p ≠ q) : cd p < cd q := by
  obtain ⟨x, y, rfl, hx, hy⟩ := hp
  obtain ⟨x', y', rfl, hx', hy'⟩ := hq
  have z := pair_lt h ne hx hy hx' hy'
  rw [cd_pair, cd_pair]
  omega
theorem Pr.mono {b c : Int} {p : List Int} (h : Pr b p) (hbc : b ≤ c) : Pr c p := by
  obtain ⟨x, y, e, hx, hy⟩ := h
  exact ⟨x, y, e, by omega, by omega⟩
theorem sorted_lt {l : List (List Int)} (hb : ∀ p ∈ l, Pr 64 p) (nd : l.Nodup) (h : l.Pairwise fun p q => cd p ≤ cd q) : l.Pairwise fun p q => cd p < cd q := by
  have h2 := List.Pairwise.and h nd
  exact List.Pairwise.imp_of_mem (fun {p q} hp hq z => lt_of (hb p hp) (hb q hq) z.1 z.2) h2
theorem adj_rise {l : List (List Int)} (hb : ∀ p ∈ l, Pr 64 p) (h : l.Pairwise fun p q => cd p < cd q) (i : Nat) (p q : List Int) (h1 : l[i]? = some p) (h2 : l[i + 1]? = some q) : HT.lexLt p q = true := by
  obtain ⟨l1, e1⟩ := List.getElem?_eq_some_iff.mp h1
  obtain ⟨l2, e2⟩ := List.getElem?_eq_some_iff.mp h2
  have := List.pairwise_iff_getElem.mp h i (i + 1) l1 l2 (Nat.lt_succ_self _)
  rw [e1, e2] at this
  exact lt_lex (hb p (List.mem_of_getElem? h1)) (hb q (List.mem_of_getElem? h2)) this
/-! ### all pairs, row by row -/
def rowOf (d : Int) (Pd : Int → Int → Bool) (i n : Nat) : List (List Int) := ((List.range n).filter fun (j : Nat) => Pd (i : Int) (j : Int)).map fun (j : Nat) => [d + (i : Int), d + (j : Int)]
def gridOf (d : Int) (Pd : Int → Int → Bool) (m n : Nat) : List (List Int) := (List.range n).flatMap fun (i : Nat) => rowOf d Pd i m
theorem row_next (d : Int) (Pd : Int → Int → Bool) (i n : Nat) : rowOf d Pd i (n + 1) = rowOf d Pd i n ++ (if Pd (i : Int) (n : Int) = true then [[d + (i : Int), d + (n : Int)]] else []) := by
  unfold rowOf
  rw [List.range_succ, List.filter_append, List.map_append]
  by_cases h : Pd (i : Int) (n : Int) = true <;> simp [h]
theorem grid_next (d : Int) (Pd : Int → Int → Bool) (m n : Nat) : gridOf d Pd m (n + 1) = gridOf d Pd m n ++ rowOf d Pd n m := by
  unfold gridOf
  rw [List.range_succ, List.flatMap_append]; simp
theorem row_len (d : Int) (Pd : Int → Int → Bool) (i n : Nat) : (rowOf d Pd i n).length ≤ n := by
  unfold rowOf
  rw [List.length_map]
  exact Nat.le_trans (List.length_filter_le _ _) (by rw [List.length_range]; exact Nat.le_refl _)
theorem grid_len (d : Int) (Pd : Int → Int → Bool) (m : Nat) : ∀ n, (gridOf d Pd m n).length ≤ n * m
  | 0 => by simp [gridOf]
  | n + 1 => by
    have h := grid_len d Pd m n
    have h2 := row_len d Pd n m
    rw [grid_next, List.length_append, Nat.succ_mul]; omega
theorem mem_row {d : Int} {Pd : Int → Int → Bool} {i n : Nat} {p : List Int} : p ∈ rowOf d Pd i n ↔ ∃ j : Nat, j < n ∧ Pd (i : Int) (j : Int) = true ∧ p = [d + (i : Int), d + (j : Int)] := by
  unfold rowOf
  rw [List.mem_map]
  constructor
  · rintro ⟨j, hj, e⟩
    rw [List.mem_filter, List.mem_range] at hj
    exact ⟨j, hj.1, hj.2, e.symm⟩
  · rintro ⟨j, h1, h2, e⟩
    exact ⟨j, List.mem_filter.mpr ⟨List.mem_range.mpr h1, h2⟩, e.symm⟩
theorem mem_grid {d : Int} {Pd : Int → Int → Bool} {m n : Nat} {p : List Int} : p ∈ gridOf d Pd m n ↔ ∃ i j : Nat, i < n ∧ j < m ∧ Pd (i : Int) (j : Int) = true ∧ p = [d + (i : Int), d + (j : Int)] := by
  unfold gridOf
  rw [List.mem_flatMap]
  constructor
  · rintro ⟨i, hi, hp⟩
    obtain ⟨j, h1, h2, h3⟩ := mem_row.mp hp
    exact ⟨i, j, List.mem_range.mp hi, h1, h2, h3⟩
  · rintro ⟨i, j, h1, h2, h3, h4⟩
    exact ⟨i, List.mem_range.mpr h1, mem_row.mpr ⟨j, h2, h3, h4⟩⟩
theorem grid_rise {d : Int} {Pd : Int → Int → Bool} {m n : Nat} (hd : 0 ≤ d) (hm : d + (m : Int) ≤ 64) : (gridOf d Pd m n).Pairwise fun p q => cd p < cd q := by
  unfold gridOf
  rw [List.pairwise_flatMap]
  refine ⟨fun i _ => ?_, ?_⟩
  · unfold rowOf
    rw [List.pairwise_map]
    refine List.Pairwise.imp (fun {a b} (h : a < b) => ?_) (List.Pairwise.filter _ List.pairwise_lt_range)
    rw [cd_pair, cd_pair]; omega
  · refine List.Pairwise.imp (fun {a b} (h : a < b) x hx y hy => ?_) List.pairwise_lt_range
    obtain ⟨j, h1, _, rfl⟩ := mem_row.mp hx
    obtain ⟨k, h2, _, rfl⟩ := mem_row.mp hy
    rw [cd_pair, cd_pair]; omega
theorem grid_pr {d : Int} {Pd : Int → Int → Bool} {m n : Nat} {b : Int} (hd : 0 ≤ d) (hm : d + (m : Int) ≤ b) (hn : d + (n : Int) ≤ b) : ∀ p ∈ gridOf d Pd m n, Pr b p := by
  intro p hp
  obtain ⟨i, j, h1, h2, _, rfl⟩ := mem_grid.mp hp
  exact ⟨_, _, rfl, by omega, by omega⟩
end RV
namespace K6
open PySem PySem.Spec PyProof.Rows L2 RV
def rgI (a b : Int) : List Int := (List.range (b - a).toNat).map fun (i : Nat) => a + (i : Int)
theorem rgV_rgI (a b : Int) : rgV a b = (rgI a b).map V.int := by
  unfold rgV rgI
  rw [List.map_map]; rfl
theorem rgI_len (a b : Int) : (rgI a b).length = (b - a).toNat := by unfold rgI; rw [List.length_map, List.length_range]
theorem rgI_get {a b : Int} {k : Nat} {m : Int} : (rgI a b)[k]? = some m ↔ k < (b - a).toNat ∧ m = a + (k : Int) := by
  unfold rgI
  rw [List.getElem?_map]
  by_cases h : k < (b - a).toNat
  · rw [List.getElem?_range h]
    simp [h, eq_comm]
  · rw [List.getElem?_eq_none (by rw [List.length_range]; omega)]
    simp [h]
/-! ### mirrors drawn: fs so far, ls the marks left -/
structure Half (m : Nat) (fs ls : List Int) : Prop where
  len : fs.length = m
  inn : ∀ (k : Nat) (x : Int), fs[k]? = some x → 0 ≤ x ∧ x < (m : Int)
  back : ∀ (k : Nat) (x : Int), fs[k]? = some x → fs[x.toNat]? = some (k : Int)
  nd : ls.Nodup
  lin : ∀ x ∈ ls, 0 ≤ x ∧ x < (m : Int)
  self : ∀ x ∈ ls, fs[x.toNat]? = some x
theorem half_start (m : Nat) : Half m (rgI 0 (m : Int)) (rgI 0 (m : Int)) := by
  have mem : ∀ x ∈ rgI 0 (m : Int), 0 ≤ x ∧ x < (m : Int) := fun x hx => by
    obtain ⟨k, hk, e⟩ := List.getElem_of_mem hx
    have z : (rgI 0 (m : Int))[k]? = some x := by rw [List.getElem?_eq_getElem hk, e]
    rw [rgI_get] at z; omega
  refine ⟨by rw [rgI_len]; omega, fun k x h => ?_, fun k x h => ?_, ?_, mem, fun x hx => ?_⟩
  · rw [rgI_get] at h; omega
  · rw [rgI_get] at h ⊢; omega
  · unfold rgI
    refine List.Pairwise.map _ (fun a b (h : a < b) => ?_) List.pairwise_lt_range
    omega
  · have := mem x hx
    rw [rgI_get]; omega
theorem half_drop {m : Nat} {fs ls : List Int} {x : Int} (h : Half m fs (x :: ls)) : Half m fs ls :=
  ⟨h.len, h.inn, h.back, (List.nodup_cons.mp h.nd).2, fun y hy => h.lin y (List.mem_cons_of_mem _ hy), fun y hy => h.self y (List.mem_cons_of_mem _ hy)⟩
theorem not_in_erase : ∀ {ls : List Int} {r : Nat} {z : Int}, ls.Nodup → ls[r]? = some z → z ∉ ls.eraseIdx r
  | [], _, _, _, h => by simp at h
  | a :: l, 0, z, nd, h => by
    have e : a = z := Option.some.inj h
    subst e
    exact (List.nodup_cons.mp nd).1
  | a :: l, r + 1, z, nd, h => by
    have h' : l[r]? = some z := h
    intro hz
    rcases List.mem_cons.mp (show z ∈ a :: l.eraseIdx r from hz) with e | e
    · exact (List.nodup_cons.mp nd).1 (e ▸ List.mem_of_getElem? h')
    · exact not_in_erase (List.nodup_cons.mp nd).2 h' e
theorem half_pair {m : Nat} {fs ls : List Int} {x y : Int} {r : Nat} (h : Half m fs (x :: ls)) (hy : ls[r]? = some y) : Half m ((fs.set x.toNat y).set y.toNat x) (ls.eraseIdx r) := by
  have hx := h.lin x (List.mem_cons_self ..)
  have hyl : y ∈ ls := List.mem_of_getElem? hy
  have hy1 := h.lin y (List.mem_cons_of_mem _ hyl)
  have hxy : x ≠ y := fun e => (List.nodup_cons.mp h.nd).1 (e ▸ hyl)
  have sx := h.self x (List.mem_cons_self ..)
  have sy := h.self y (List.mem_cons_of_mem _ hyl)
  have hl := h.len
  have nxy : x.toNat ≠ y.toNat := by omega
  have get : ∀ k : Nat, ((fs.set x.toNat y).set y.toNat x)[k]? = if y.toNat = k then (if k < m then some x else none) else if x.toNat = k then (if k < m then some y else none) else fs[k]? := fun k => by
    rw [List.getElem?_set, List.getElem?_set, List.length_set, hl]
    by_cases e1 : y.toNat = k
    · simp [e1]
    · by_cases e2 : x.toNat = k
      · simp [e1, e2]
      · simp [e1, e2]
  have sub : ∀ z ∈ ls.eraseIdx r, z ∈ ls := fun z hz => List.mem_of_mem_eraseIdx hz
  refine ⟨by rw [List.length_set, List.length_set]; exact hl, fun k z hz => ?_, fun k z hz => ?_, ?_, fun z hz => h.lin z (List.mem_cons_of_mem _ (sub z hz)), fun z hz => ?_⟩
  · rw [get] at hz
    split at hz
    · split at hz
      · cases hz; exact hx
      · cases hz
    · split at hz
      · split at hz
        · cases hz; exact hy1
        · cases hz
      · exact h.inn k z hz
  · rw [get] at hz
    split at hz
    · rename_i e1
      split at hz
      · cases hz
        rw [get, if_neg (by omega), if_pos rfl, if_pos (by omega)]
        congr 1; omega
      · cases hz
    · rename_i e1
      split at hz
      · rename_i e2
        split at hz
        · cases hz
          rw [get, if_pos rfl, if_pos (by omega)]
          congr 1; omega
        · cases hz
      · rename_i e2
        have b1 := h.back k z hz
        have i1 := h.inn k z hz
        have n1 : y.toNat ≠ z.toNat := fun e => by
          have : z = y := by omega
          subst this
          rw [sy] at b1
          have := Option.some.inj b1
          omega
        have n2 : x.toNat ≠ z.toNat := fun e => by
          have : z = x := by omega
          subst this
          rw [sx] at b1
          have := Option.some.inj b1
          omega
        rw [get, if_neg n1, if_neg n2]; exact b1
  · exact List.Nodup.sublist (List.eraseIdx_sublist ls r) (List.nodup_cons.mp h.nd).2
  · have hzl := sub z hz
    have z1 := h.lin z (List.mem_cons_of_mem _ hzl)
    have zx : z ≠ x := fun e => (List.nodup_cons.mp h.nd).1 (e ▸ hzl)
    have zy : z ≠ y := fun e => by
      subst e
      exact not_in_erase (List.nodup_cons.mp h.nd).2 hy hz
    rw [get, if_neg (by omega), if_neg (by omega)]
    exact h.self z (List.mem_cons_of_mem _ hzl)
theorem half_mir {m : Nat} {fs : List Int} (h : Half m fs []) (h1 : 1 ≤ m) (h8 : m ≤ 8) : Mir fs := by
  have hl := h.len
  refine ⟨by omega, by omega, fun x hx => ?_, h.back⟩
  obtain ⟨k, hk, e⟩ := List.getElem_of_mem hx
  have := h.inn k x (by rw [List.getElem?_eq_getElem hk, e])
  omega
end K6
set_option maxHeartbeats 4000000
namespace K6
open PySem PySem.Spec PyProof.Rows L2 RV
/-- a pail of numbers stands at p, t have been mixed -/
def PailAt (H : Hp) (p : Addr) (t : Nat) : Prop := ∃ x y : Int, H p = some (.lst [.int x, .int y, .int (t : Int)]) ∧ 0 ≤ x ∧ 0 ≤ y ∧ y < 2147483629
/-- all stands but what is at p -/
def But (p : Addr) (H H' : Hp) : Prop := ∀ c o, H c = some o → c ≠ p → H' c = some o
theorem But.refl (p : Addr) (H : Hp) : But p H H := fun _ _ e _ => e
theorem But.trans {p : Addr} {H H1 H2 : Hp} (a : But p H H1) (b : But p H1 H2) : But p H H2 := fun c o e z => b c o (a c o e z) z
theorem But.of {p : Addr} {H H' : Hp} (s : Same H H') : But p H H' := fun c o e _ => s c o e
section
variable {P : Program} {w : World} {K : PySem.W.Frag} {mg : Str → Option Value} {base : Heap}
/-! ### _law_pail -/
theorem scPail : FnScope ["_law_script", "_law_at", "_law_cell", "_law_own"] ["_law_script", "_law_at"] (defScope sPail) := ⟨rfl, rfl, rfl, by decide +kernel, rfl, by decide +kernel, by decide +kernel⟩
def spPail (K : PySem.W.Frag) : Sp := fun vs H Q _ => ∃ (a : Addr) (ns : List Int) (k : Nat), vs = [.ref a, .int (k : Int)] ∧ SqL K H a (ns.map V.int) ∧ k < 64 ∧ ∀ H' p, Same H H' → H p = none → PailAt H' p 0 → Q (.ref p) H'
theorem flag01 (b : Bool) : -(2 ^ 64) < (if b = true then (1 : Int) else 0) ∧ (if b = true then (1 : Int) else 0) < 2 ^ 64 := by cases b <;> decide
theorem mul_flag {x : Int} (h : 0 ≤ x) (b : Bool) : 0 ≤ x * (if b = true then (1 : Int) else 0) := by
  cases b
  · show 0 ≤ x * 0
    rw [Int.mul_zero]; exact Int.le_refl _
  · show 0 ≤ x * 1
    rw [Int.mul_one]; exact h
theorem pow60 : ((10 : Int) ^ (60 : Int).toNat).natAbs < 2 ^ 200 := by decide +kernel
theorem pow120 : ((10 : Int) ^ (60 : Int).toNat * (10 : Int) ^ (60 : Int).toNat).natAbs < 2 ^ 400 := by decide +kernel
theorem pow180 : (0 : Int) < (10 : Int) ^ (60 : Int).toNat * (10 : Int) ^ (60 : Int).toNat * (10 : Int) ^ (60 : Int).toNat := by decide +kernel
theorem ok_pail {f : Addr} {fd : FuncData} (F : Fun K "_law_pail" "_law_pail" sPail f fd) (B : Bare mg) : FnOk P w K mg base CX0 1 f fd ["_law_script", "_law_at"] (spPail K) := by
  refine F.ok scPail (fun vs H Q E h => ?_) (fun cdv A outer s H vs Q E hr h => ?_)
  · obtain ⟨a, ns, k, rfl, _⟩ := h
    rfl
  · obtain ⟨a, ns, k, rfl, hS, hk, q⟩ := h
    refine ⟨_, pss_cons (ps_set (i := 2) scPail.nd rfl (Or.inl rfl) (pe_ifExp (pt_cmpR op_lt (pv 1) (pe_callB call_len_seq (by rfl) B.len PySem.boot_len (pa_cons (pv 0) pa_nil)) (nomark _)) (pe_ix ix_list (pv 0) (pv 1) (fun _ _ => rfl)) (pe_op op_add (pe_op op_mul pe_int (pv 1)) pe_int)))
      (pss_cons (ps_set (i := 3) scPail.nd rfl (Or.inl rfl) (pe_op op_mod (pe_callB call_abs (by rfl) B.abs (by decide +kernel) (pa_cons (pv 2) pa_nil)) (pe_op op_mulW (pe_op op_mulW (pe_op op_pow pe_int pe_int) (pe_op op_pow pe_int pe_int)) (pe_op op_pow pe_int pe_int))))
      (pss_one (ps_ret (pe_lst (pa_cons (pe_op op_mul (pv 3) (pe_callTy call_int1 (by rfl) B.int boot_int (pa_cons (pe_cmpR op_ge (pe_callB call_abs (by rfl) B.abs (by decide +kernel) (pa_cons (pv 2) pa_nil)) (pe_op op_pow pe_int pe_int) (nomark _)) pa_nil)))
        (pa_cons (pe_op op_mod (pe_op op_mul (pe_op op_add (pe_op op_add (pe_op op_mod (pv 2) pe_int) (pe_op op_mul pe_int (pv 1))) pe_int) pe_int) pe_int) (pa_cons pe_int pa_nil))))))), ?_⟩
    refine ⟨.int (k : Int), rfl, .ref a, rfl, a, _, rfl, .inl hS, (k : Int), _, rfl, rfl, _, rfl, ?_⟩
    refine ite2 (fun hlt => ?_) (fun _ => ?_)
    · have hkl : k < ns.length := by
        have z := of_decide_eq_true hlt
        rw [List.length_map] at z; omega
      refine ⟨.ref a, rfl, .int (k : Int), rfl, a, _, (k : Int), .int ns[k], rfl, rfl, hS, atI_nat (by rw [List.getElem?_map, List.getElem?_eq_getElem hkl]; rfl), ?_⟩
      refine ⟨_, rfl, ns[k], rfl, 10, 60, rfl, rfl, ⟨by decide, by decide, by decide⟩, 10, 60, rfl, rfl, ⟨by decide, by decide, by decide⟩, _, _, rfl, rfl, wide_mul pow60 pow60 (by decide) (by decide) (by decide), 10, 60, rfl, rfl, ⟨by decide, by decide, by decide⟩, _, _, rfl, rfl, wide_mul pow120 pow60 (by decide) (by decide) (by decide), _, _, rfl, rfl, pow180, ?_⟩
      have own0 := Int.emod_nonneg (if ns[k] < 0 then -ns[k] else ns[k]) (Int.ne_of_gt pow180)
      refine ⟨_, rfl, _, rfl, ns[k], rfl, 10, 18, rfl, rfl, ⟨by decide, by decide, by decide⟩, _, _, rfl, rfl, .inr ⟨_, rfl, _, _, rfl, rfl, .inr ?_, _, rfl, ns[k], 2305843009213693951, rfl, rfl, (show (0 : Int) < 2305843009213693951 by decide), .int (k : Int), rfl, 7877, (k : Int), rfl, rfl, .inl ⟨by decide, by decide⟩, _, _, rfl, rfl, _, 29, rfl, rfl, _, 39373, rfl, rfl, .inr ⟨by decide, by decide⟩, _, 2147483629, rfl, rfl, (show (0 : Int) < 2147483629 by decide), ?_, fun p np => ?_⟩⟩
      · exact flag01 _
      · show 3 ≤ sizeLine; decide
      · refine q _ p (same_upd np) np ⟨_, _, upd_same, ?_, Int.emod_nonneg _ (by decide), Int.emod_lt_of_pos _ (by decide)⟩
        exact mul_flag own0 _
    · refine ⟨.int (k : Int), rfl, 11, (k : Int), rfl, rfl, .inl ⟨by decide, by decide⟩, _, 5, rfl, rfl, ?_⟩
      refine ⟨_, rfl, (11 * (k : Int) + 5), rfl, 10, 60, rfl, rfl, ⟨by decide, by decide, by decide⟩, 10, 60, rfl, rfl, ⟨by decide, by decide, by decide⟩, _, _, rfl, rfl, wide_mul pow60 pow60 (by decide) (by decide) (by decide), 10, 60, rfl, rfl, ⟨by decide, by decide, by decide⟩, _, _, rfl, rfl, wide_mul pow120 pow60 (by decide) (by decide) (by decide), _, _, rfl, rfl, pow180, ?_⟩
      have own0 := Int.emod_nonneg (if (11 * (k : Int) + 5) < 0 then -(11 * (k : Int) + 5) else (11 * (k : Int) + 5)) (Int.ne_of_gt pow180)
      refine ⟨_, rfl, _, rfl, (11 * (k : Int) + 5), rfl, 10, 18, rfl, rfl, ⟨by decide, by decide, by decide⟩, _, _, rfl, rfl, .inr ⟨_, rfl, _, _, rfl, rfl, .inr ?_, _, rfl, (11 * (k : Int) + 5), 2305843009213693951, rfl, rfl, (show (0 : Int) < 2305843009213693951 by decide), .int (k : Int), rfl, 7877, (k : Int), rfl, rfl, .inl ⟨by decide, by decide⟩, _, _, rfl, rfl, _, 29, rfl, rfl, _, 39373, rfl, rfl, .inr ⟨by decide, by decide⟩, _, 2147483629, rfl, rfl, (show (0 : Int) < 2147483629 by decide), ?_, fun p np => ?_⟩⟩
      · exact flag01 _
      · show 3 ≤ sizeLine; decide
      · refine q _ p (same_upd np) np ⟨_, _, upd_same, ?_, Int.emod_nonneg _ (by decide), Int.emod_lt_of_pos _ (by decide)⟩
        exact mul_flag own0 _
end
end K6
set_option maxHeartbeats 4000000
namespace K6
open PySem PySem.Spec PyProof.Rows L2 RV
section
variable {P : Program} {w : World} {K : PySem.W.Frag} {mg : Str → Option Value} {base : Heap}
/-! ### _law_draw -/
theorem scDraw : FnScope ["_law_pail_here", "_law_many", "_law_told", "_law_turn", "_law_prime", "_law_mixed"] ["_law_pail_here", "_law_many"] (defScope sDraw) := ⟨rfl, rfl, rfl, by decide +kernel, rfl, by decide +kernel, by decide +kernel⟩
def spDraw : Sp := fun vs H Q _ => ∃ (p : Addr) (t : Nat) (m : Int), vs = [.ref p, .int m] ∧ PailAt H p t ∧ t ≤ 2000 ∧ 1 ≤ m ∧ m ≤ 1000000 ∧
  ∀ (r : Int) (t' : Nat) (H' : Hp), 0 ≤ r → r < m → t' ≤ t + 1 → PailAt H' p t' → But p H H' → Q (.int r) H'
theorem primes_at (t : Int) (h : 0 ≤ t) : ∃ v : Int, atI [V.int 2147483587, V.int 2147483579, V.int 2147483563, V.int 2147483549, V.int 2147483543] (t % 5) = some (.int v) ∧ 0 < v ∧ v < 2147483648 := by
  have h5 : t % 5 = 0 ∨ t % 5 = 1 ∨ t % 5 = 2 ∨ t % 5 = 3 ∨ t % 5 = 4 := by omega
  rcases h5 with e | e | e | e | e <;> rw [e] <;> exact ⟨_, rfl, by decide, by decide⟩
theorem ix3 (j : Nat) (h : j < 3) : ixN 3 (j : Int) = some j := by
  rcases (show j = 0 ∨ j = 1 ∨ j = 2 by omega) with e | e | e <;> subst e <;> rfl
theorem ok_draw {f : Addr} {fd : FuncData} (F : Fun K "_law_draw" "_law_draw" sDraw f fd) : FnOk P w K mg base CX0 1 f fd ["_law_pail_here", "_law_many"] spDraw := by
  refine F.ok scDraw (fun vs H Q E h => ?_) (fun cdv A outer s H vs Q E hr h => ?_)
  · obtain ⟨p, t, m, rfl, _⟩ := h
    rfl
  · obtain ⟨p, t, m, rfl, ⟨x, y, hp, hx, hy0, hy1⟩, ht, hm1, hm2, q⟩ := h
    refine ⟨_, pss_cons (ps_if (pt_cmpR op_gt (pe_ix ix_list (pv 0) pe_int (fun _ _ => rfl)) pe_int (nomark _))
        (pss_cons (ps_set (i := 2) scDraw.nd rfl (Or.inl rfl) (pe_op op_mod (pe_ix ix_list (pv 0) pe_int (fun _ _ => rfl)) (pv 1)))
        (pss_cons (ps_asg (pe_op op_fdiv (pe_ix ix_list (pv 0) pe_int (fun _ _ => rfl)) (pv 1)) (pg_sub (pv 0) pe_int set_list))
        (pss_one (ps_ret (pv 2))))) pss_nil)
      (pss_cons (ps_asg (pe_op op_add (pe_ix ix_list (pv 0) pe_int (fun _ _ => rfl)) pe_int) (pg_sub (pv 0) pe_int set_list))
      (pss_cons (ps_set (i := 3) scDraw.nd rfl (Or.inl rfl) (pe_ix ix_list (pv 0) pe_int (fun _ _ => rfl)))
      (pss_cons (ps_set (i := 4) scDraw.nd rfl (Or.inl rfl) (pe_ix ix_list (pe_lst (pa_cons pe_int (pa_cons pe_int (pa_cons pe_int (pa_cons pe_int (pa_cons pe_int pa_nil)))))) (pe_op op_mod (pv 3) pe_int) (fun _ _ => rfl)))
      (pss_cons (ps_set (i := 5) scDraw.nd rfl (Or.inl rfl) (pe_op op_mod (pe_op op_pow (pe_op op_add (pe_op op_add (pe_ix ix_list (pv 0) pe_int (fun _ _ => rfl)) (pe_op op_mul (pe_op op_mul pe_int (pv 3)) (pv 3))) (pe_op op_mul pe_int (pv 3))) pe_int) (pv 4)))
      (pss_one (ps_ret (pe_op op_mod (pe_op op_fdiv (pe_op op_mod (pe_op op_mul (pv 5) (pe_op op_add (pe_op op_add (pe_op op_mod (pv 5) pe_int) (pv 3)) pe_int)) (pv 4)) pe_int) (pv 1)))))))), ?_⟩
    refine ⟨.ref p, rfl, p, _, 0, .int x, rfl, rfl, lstNew hp, rfl, x, 0, rfl, rfl, _, rfl, ite2 (fun hx0 => ?_) (fun _ => ?_)⟩
    · refine ⟨.ref p, rfl, p, _, 0, .int x, rfl, rfl, lstNew hp, rfl, .int m, rfl, x, m, rfl, rfl, (show 0 < m by omega), ?_⟩
      refine ⟨.ref p, rfl, p, _, 0, .int x, rfl, rfl, lstNew hp, rfl, .int m, rfl, x, m, rfl, rfl, ⟨by omega, by omega⟩, .ref p, rfl, p, _, 0, 0, rfl, rfl, hp, rfl, ?_⟩
      refine ⟨_, rfl, ?_⟩
      exact q (x % m) t _ (Int.emod_nonneg _ (by omega)) (Int.emod_lt_of_pos _ (by omega)) (by omega) ⟨x / m, y, upd_same, Int.ediv_nonneg hx (by omega), hy0, hy1⟩ fun c o e z => by rw [upd_ne z]; exact e
    · refine ⟨.ref p, rfl, p, _, 2, .int (t : Int), rfl, rfl, lstNew hp, rfl, (t : Int), 1, rfl, rfl, .ref p, rfl, p, _, 2, 2, rfl, rfl, hp, rfl, ?_⟩
      have hp1 : (upd H p (.lst [.int x, .int y, .int ((t : Int) + 1)])) p = some (.lst [.int x, .int y, .int ((t : Int) + 1)]) := upd_same
      have b1 : But p H (upd H p (.lst [.int x, .int y, .int ((t : Int) + 1)])) := fun c o e z => by rw [upd_ne z]; exact e
      refine ⟨.ref p, rfl, p, _, 2, .int ((t : Int) + 1), rfl, rfl, lstNew upd_same, rfl, ?_⟩
      obtain ⟨v, hv, v0, v1⟩ := primes_at ((t : Int) + 1) (by omega)
      refine ⟨(by show 5 ≤ sizeLine; decide), fun l nl => ⟨.int ((t : Int) + 1), rfl, (t : Int) + 1, 5, rfl, rfl, (show (0 : Int) < 5 by decide), l, _, _, .int v, rfl, rfl, lstNew upd_same, hv, ?_⟩⟩
      have s2 := same_upd (H := upd H p (.lst [.int x, .int y, .int ((t : Int) + 1)])) (o := .lst [.int 2147483587, .int 2147483579, .int 2147483563, .int 2147483549, .int 2147483543]) nl
      have hp2 := s2 _ _ hp1
      have tt : 0 ≤ ((t : Int) + 1) ∧ ((t : Int) + 1) ≤ 2001 := by omega
      have sq : 6151 * ((t : Int) + 1) * ((t : Int) + 1) ≤ 6151 * 2001 * 2001 := by
        have h1 : 6151 * ((t : Int) + 1) ≤ 6151 * 2001 := by omega
        exact Int.mul_le_mul h1 tt.2 tt.1 (by decide)
      have sq0 : 0 ≤ 6151 * ((t : Int) + 1) * ((t : Int) + 1) := Int.mul_nonneg (by omega) tt.1
      refine ⟨.ref p, rfl, p, _, 1, .int y, rfl, rfl, lstNew hp2, rfl, .int ((t : Int) + 1), rfl, 6151, _, rfl, rfl, .inl ⟨by decide, by decide⟩, .int ((t : Int) + 1), rfl, _, _, rfl, rfl, .inl ⟨by omega, by omega⟩, y, _, rfl, rfl, .int ((t : Int) + 1), rfl, 17, _, rfl, rfl, .inl ⟨by decide, by decide⟩, _, _, rfl, rfl, _, 3, rfl, rfl, ⟨by decide, by decide, ?_⟩, .int v, rfl, _, v, rfl, rfl, v0, ?_⟩
      · show (y + 6151 * ((t : Int) + 1) * ((t : Int) + 1) + 17 * ((t : Int) + 1)).natAbs < 2 ^ 64
        omega
      have z0 := Int.emod_nonneg ((y + 6151 * ((t : Int) + 1) * ((t : Int) + 1) + 17 * ((t : Int) + 1)) ^ (3 : Int).toNat) (show v ≠ 0 by omega)
      have z1 := Int.emod_lt_of_pos ((y + 6151 * ((t : Int) + 1) * ((t : Int) + 1) + 17 * ((t : Int) + 1)) ^ (3 : Int).toNat) v0
      refine ⟨_, rfl, _, rfl, _, 1009, rfl, rfl, (show (0 : Int) < 1009 by decide), .int ((t : Int) + 1), rfl, _, _, rfl, rfl, _, 1, rfl, rfl, _, _, rfl, rfl, .inl ?_, .int v, rfl, _, v, rfl, rfl, v0, _, 19, rfl, rfl, ⟨by decide, by decide⟩, .int m, rfl, _, m, rfl, rfl, (show 0 < m by omega), ?_⟩
      · exact ⟨by omega, by omega⟩
      · exact q _ (t + 1) _ (Int.emod_nonneg _ (by omega)) (Int.emod_lt_of_pos _ (by omega)) (Nat.le_refl _) ⟨x, y, hp2, hx, hy0, hy1⟩ (b1.trans (But.of s2))
end
end K6
set_option maxHeartbeats 4000000
namespace K6
open PySem PySem.Spec PyProof.Rows L2 RV
/-! ### what a draw leaves -/
theorem sqT_pail {K : PySem.W.Frag} {H H' : Hp} {p : Addr} {t : Nat} (hp : PailAt H p t) (b : But p H H') {a : Addr} {xs : List V} (h : SqT K H a xs) : SqT K H' a xs := by
  obtain ⟨x, y, e, _⟩ := hp
  rcases h with (h | ⟨o, h⟩) | h
  · exact .inl (.inl (b _ _ h fun z => by rw [z, e] at h; cases h))
  · exact .inl (.inr ⟨o, b _ _ h fun z => by rw [z, e] at h; cases h⟩)
  · exact .inr h
theorem sqL_but {K : PySem.W.Frag} {H H' : Hp} {p a : Addr} (b : But p H H') (n : a ≠ p) {xs : List V} (h : SqL K H a xs) : SqL K H' a xs := by
  rcases h with (h | ⟨o, h⟩) | h
  · exact .inl (.inl (b _ _ h n))
  · exact .inl (.inr ⟨o, b _ _ h n⟩)
  · exact .inr h
theorem tups_pail {K : PySem.W.Frag} {H H' : Hp} {p : Addr} {t : Nat} (hp : PailAt H p t) (b : But p H H') {a : Addr} {ps : List (List Int)} (h : Tups K H a ps) : Tups K H' a ps := by
  obtain ⟨ks, h1, h2, h3⟩ := h
  exact ⟨ks, h1, sqT_pail hp b h2, fun q hq => sqT_pail hp b (h3 q hq)⟩
theorem same_but {p : Addr} {H H1 H2 : Hp} (s : Same H H1) (n : H p = none) (b : But p H1 H2) : Same H H2 := fun c o e => b c o (s c o e) (ne_of_none e n)
theorem pail_same {p : Addr} {H H' : Hp} {t : Nat} (h : PailAt H p t) (s : Same H H') : PailAt H' p t := by
  obtain ⟨x, y, e, r⟩ := h
  exact ⟨x, y, s _ _ e, r⟩
theorem pail_new {p a : Addr} {H : Hp} {o : HO} {t : Nat} (h : PailAt H p t) (n : H a = none) : PailAt (upd H a o) p t := pail_same h (same_upd n)
theorem pail_set {p l : Addr} {H : Hp} {o : HO} {t : Nat} (h : PailAt H p t) (n : l ≠ p) : PailAt (upd H l o) p t := by
  obtain ⟨x, y, e, r⟩ := h
  exact ⟨x, y, by rw [upd_ne n.symm]; exact e, r⟩
theorem pail_ne {p a : Addr} {H : Hp} {t : Nat} (h : PailAt H p t) (n : H a = none) : a ≠ p := by
  obtain ⟨x, y, e, r⟩ := h
  exact (ne_of_none e n).symm
section
variable {P : Program} {w : World} {K : PySem.W.Frag} {mg : Str → Option Value} {base : Heap}
/-! ### _law_of -/
theorem scOf : FnScope ["_law_pail_here", "_law_some"] ["_law_pail_here", "_law_some"] (defScope sOf) := ⟨rfl, rfl, rfl, by decide +kernel, rfl, by decide +kernel, by decide +kernel⟩
def spOf (K : PySem.W.Frag) : Sp := fun vs H Q _ => ∃ (p a : Addr) (t : Nat) (xs : List V), vs = [.ref p, .ref a] ∧ PailAt H p t ∧ t ≤ 2000 ∧ SqL K H a xs ∧ a ≠ p ∧ 0 < xs.length ∧ xs.length ≤ 1000 ∧
  ∀ (j : Nat) (v : V) (t' : Nat) (H' : Hp), xs[j]? = some v → t' ≤ t + 1 → PailAt H' p t' → But p H H' → Q v H'
theorem ok_of {f fD : Addr} {fd fdD : FuncData} (F : Fun K "_law_of" "_law_of" sOf f fd) (DD : DefAt K mg "_law_draw" sDraw ["_law_pail_here", "_law_many"] fD fdD) (B : Bare mg) : FnOk P w K mg base CX0 2 f fd ["_law_pail_here", "_law_some"] (spOf K) := by
  have GD : FnOk P w K mg base CX0 1 fD fdD ["_law_pail_here", "_law_many"] spDraw := ok_draw DD.fn
  refine F.ok scOf (fun vs H Q E h => ?_) (fun cdv A outer s H vs Q E hr h => ?_)
  · obtain ⟨p, a, t, xs, rfl, _⟩ := h
    rfl
  · obtain ⟨p, a, t, xs, rfl, hp, ht, hS, hne, h0, h1, q⟩ := h
    refine ⟨_, pss_one (ps_ret (pe_ix ix_list (pv 1) (pe_call GD hr (by rfl) DD.mg DD.fn.kp DD.bi .nil pass0 (pa_cons (pv 0) (pa_cons (pe_callB call_len_seq (by rfl) B.len PySem.boot_len (pa_cons (pv 1) pa_nil)) pa_nil))) (fun _ _ => rfl))), ?_⟩
    refine ⟨.ref a, rfl, .ref p, rfl, .ref a, rfl, a, xs, rfl, .inl hS, p, t, (xs.length : Int), rfl, hp, ht, by omega, by omega, fun r t1 H1 r0 r1 ht1 hp1 b1 => ?_⟩
    obtain ⟨v, hv⟩ : ∃ v, xs[r.toNat]? = some v := ⟨_, List.getElem?_eq_getElem (by omega)⟩
    refine ⟨a, xs, r, v, rfl, rfl, sqL_but b1 hne hS, ?_, q r.toNat v t1 H1 hv ht1 hp1 b1⟩
    rw [show r = ((r.toNat : Nat) : Int) by omega]
    exact atI_nat hv
theorem erase_map {α β : Type} (f : α → β) : ∀ (l : List α) (i : Nat), (l.map f).eraseIdx i = (l.eraseIdx i).map f
  | [], _ => rfl
  | a :: l, 0 => rfl
  | a :: l, i + 1 => by
    show f a :: (l.map f).eraseIdx i = f a :: (l.eraseIdx i).map f
    rw [erase_map f l i]
theorem ix_at {n : Nat} {i : Int} (h1 : i < (n : Int)) (h0 : 0 ≤ i) : ixN n i = some i.toNat := by
  unfold ixN
  rw [if_pos h0, if_pos h1]
/-! ### _law_mirrors -/
theorem scDMirrors : FnScope ["_law_pail_here", "_law_many", "_law_left", "_law_found", "_law_mark", "_law_other"] ["_law_pail_here", "_law_many"] (defScope sDMirrors) := ⟨rfl, rfl, rfl, by decide +kernel, rfl, by decide +kernel, by decide +kernel⟩
def spDMirrors (K : PySem.W.Frag) : Sp := fun vs H Q _ => ∃ (p : Addr) (t m : Nat), vs = [.ref p, .int (m : Int)] ∧ PailAt H p t ∧ t ≤ 1500 ∧ 1 ≤ m ∧ m ≤ 8 ∧
  ∀ (H' : Hp) (u : Addr) (t' : Nat) (ns : List Int), PailAt H' p t' → t' ≤ t + 20 → But p H H' → SqT K H' u (ns.map V.int) → Mir ns → Q (.ref u) H'
def lenAt (H : Hp) (a : Addr) : Nat := match H a with
  | some (.lst xs) => xs.length
  | _ => 0
theorem lenAt_eq {H : Hp} {a : Addr} {xs : List V} (h : H a = some (.lst xs)) : lenAt H a = xs.length := by unfold lenAt; rw [h]
theorem shapedL (ns : List Int) : SeqAt.shaped (.list (ns.map PyData.int)) = true := by
  have h1 : (PyData.list (ns.map PyData.int)).canLay0 = true := by simp only [PyData.canLay0]; exact lay_ints ns
  have h2 : (PyData.list (ns.map PyData.int)).depth ≤ 64 := by simp only [PyData.depth, dep_ints]; omega
  show ((PyData.list (ns.map PyData.int)).canLay0 && decide ((PyData.list (ns.map PyData.int)).depth ≤ 64)) = true
  rw [h1, decide_eq_true h2]; rfl
theorem eqvL (ns ms : List Int) : PyData.eqv (.list (ns.map PyData.int)) (.list (ms.map PyData.int)) = decide (ns = ms) := by simp only [PyData.eqv, eqv_ints]
theorem ok_dmirrors {f fD : Addr} {fd fdD : FuncData} (F : Fun K "_law_mirrors" "_law_mirrors" sDMirrors f fd) (DD : DefAt K mg "_law_draw" sDraw ["_law_pail_here", "_law_many"] fD fdD) (B : Bare mg) : FnOk P w K mg base CX0 2 f fd ["_law_pail_here", "_law_many"] (spDMirrors K) := by
  have GD : FnOk P w K mg base CX0 1 fD fdD ["_law_pail_here", "_law_many"] spDraw := ok_draw DD.fn
  refine F.ok scDMirrors (fun vs H Q E h => ?_) (fun cdv A outer s H vs Q E hr h => ?_)
  · obtain ⟨p, t, m, rfl, _⟩ := h
    rfl
  · obtain ⟨p, t, m, rfl, hp, ht, m1, m8, q⟩ := h
    refine ⟨_, pss_cons (ps_par (i := 2) (j := 3) (by rfl) scDMirrors.nd rfl rfl (by decide) rfl rfl (pa_cons (pe_listRg rfl (by rfl) B.list (prg_1 (by rfl) B.range (pv 1))) (pa_cons (pe_listRg rfl (by rfl) B.list (prg_1 (by rfl) B.range (pv 1))) pa_nil)) (by rfl))
      (pss_cons (ps_while PassesOwn.never (pt_cmpR (op_neD hr.units) (pv 2) (pe_lst pa_nil) (nomark _))
        (pss_cons (ps_set (i := 4) scDMirrors.nd rfl (Or.inl rfl) (pe_bm PySem.F.plainAttrs_list PySem.F.slot_list_pop PySem.F.type_list_pop mt_popAt (pv 2) (pa_cons pe_int pa_nil)))
        (pss_one (ps_if (PW.pt (pw_and (pt_cmpR (op_neD hr.units) (pv 2) (pe_lst pa_nil) (nomark _)) (pw_and1 (pt_cmpR op_eq (pe_call GD hr (by rfl) DD.mg DD.fn.kp DD.bi .nil pass0 (pa_cons (pv 0) (pa_cons pe_int pa_nil))) pe_int (nomark _)))))
          (pss_cons (ps_set (i := 5) scDMirrors.nd rfl (Or.inl rfl) (pe_bm PySem.F.plainAttrs_list PySem.F.slot_list_pop PySem.F.type_list_pop mt_popAt (pv 2) (pa_cons (pe_call GD hr (by rfl) DD.mg DD.fn.kp DD.bi .nil pass0 (pa_cons (pv 0) (pa_cons (pe_callB call_len_seq (by rfl) B.len PySem.boot_len (pa_cons (pv 2) pa_nil)) pa_nil))) pa_nil)))
          (pss_cons (ps_asg (pv 5) (pg_sub (pv 3) (pv 4) set_list))
          (pss_one (ps_asg (pv 4) (pg_sub (pv 3) (pv 5) set_list))))) pss_nil))))
      (pss_one (ps_ret (pe_tupleOf (by rfl) B.tuple (pv 3))))), ?_⟩
    refine ⟨.int (m : Int), rfl, (m : Int), rfl, RgOk.of_le (by omega) (by omega) (by omega) (by omega), fun a na => ?_⟩
    refine ⟨.int (m : Int), rfl, (m : Int), rfl, RgOk.of_le (by omega) (by omega) (by omega) (by omega), fun b nb => ⟨.ref a, .ref b, rfl, ?_⟩⟩
    have hab : a ≠ b := ne_of_none upd_same nb
    have hap : a ≠ p := pail_ne hp na
    have hbp : b ≠ p := pail_ne (pail_new hp na) nb
    have nbH : H b = none := (same_upd na).free nb
    have s0 := (same_upd (o := .lst (rgV 0 (m : Int))) na).trans (same_upd (o := .lst (rgV 0 (m : Int))) nb)
    refine while_by (fun σ H' => ∃ (y4 y5 : Option V) (t' : Nat) (fs ls : List Int), σ = [some (.ref p), some (.int (m : Int)), some (.ref a), some (.ref b), y4, y5] ∧ But p H H' ∧ PailAt H' p t' ∧ t' + 2 * ls.length ≤ t + 16 ∧ H' a = some (.lst (ls.map V.int)) ∧ H' b = some (.lst (fs.map V.int)) ∧ Half m fs ls)
      (fun σ H' => lenAt H' a) ?_ ?_ ?_
    · refine ⟨none, none, t, rgI 0 (m : Int), rgI 0 (m : Int), rfl, But.of s0, pail_same hp s0, by rw [rgI_len]; omega, ?_, ?_, half_start m⟩
      · rw [upd_ne hab, upd_same, rgV_rgI]
      · rw [upd_same, rgV_rgI]
    · rintro σ H1 ⟨y4, y5, t1, fs, ls, rfl, b1, hp1, ht1, ea, eb, hh⟩
      refine ⟨.ref a, rfl, Nat.zero_le _, fun c nc => ?_⟩
      have sc := same_upd (o := .lst []) nc
      have ea2 := sc _ _ ea
      have eb2 := sc _ _ eb
      have hp2 := pail_same hp1 sc
      have b2 := b1.trans (But.of (p := p) sc)
      have ec : (upd H1 c (.lst [])) c = some (.lst []) := upd_same
      refine ⟨.list (ls.map PyData.int), .list (([] : List Int).map PyData.int), .lst (lstNew ea2) (dpInts ls), .lst (lstNew ec) .nil, shapedL ls, shapedL [], _, rfl, ?_⟩
      rw [eqvL]
      have lt1 : lenAt H1 a = ls.length := by rw [lenAt_eq ea, List.length_map]
      generalize upd H1 c (.lst []) = H2 at ea2 eb2 hp2 b2 ⊢
      clear ea eb sc nc ec
      cases ls with
      | nil =>
        rw [decide_eq_true rfl]
        refine iteF ?_
        refine ⟨.ref b, rfl, .inl ⟨b, _, rfl, lstNew eb2, fun u nu => ?_⟩⟩
        exact q _ u t1 fs (pail_new hp2 nu) (by omega) (b2.trans (But.of (same_upd nu))) (tupNew upd_same) (half_mir hh m1 m8)
      | cons x l =>
        rw [decide_eq_false (by simp)]
        refine iteT ?_
        -- mark = left.pop(0)
        refine ⟨.ref a, rfl, .inl ⟨rfl, _, lstNew ea2⟩, a, _, 0, 0, .int x, rfl, rfl, ea2, by decide, by decide, by simp [seqIndex?], rfl, ?_⟩
        have ea3 : (upd H2 a (.lst (((x :: l).map V.int).eraseIdx 0))) a = some (.lst (l.map V.int)) := upd_same
        have eb3 : (upd H2 a (.lst (((x :: l).map V.int).eraseIdx 0))) b = some (.lst (fs.map V.int)) := by rw [upd_ne hab.symm]; exact eb2
        have hp3 := pail_set (o := .lst (((x :: l).map V.int).eraseIdx 0)) hp2 hap
        have b3 : But p H (upd H2 a (.lst (((x :: l).map V.int).eraseIdx 0))) := fun k o e z => by rw [upd_ne (ne_of_none e na)]; exact b2 k o e z
        generalize upd H2 a (.lst (((x :: l).map V.int).eraseIdx 0)) = H3 at ea3 eb3 hp3 b3 ⊢
        -- left != []
        refine ⟨.ref a, rfl, Nat.zero_le _, fun c2 nc2 => ?_⟩
        have sc2 := same_upd (o := .lst []) nc2
        have ea4 := sc2 _ _ ea3
        have eb4 := sc2 _ _ eb3
        have hp4 := pail_same hp3 sc2
        have b4 := b3.trans (But.of (p := p) sc2)
        have ec2 : (upd H3 c2 (.lst [])) c2 = some (.lst []) := upd_same
        refine ⟨.list (l.map PyData.int), .list (([] : List Int).map PyData.int), .lst (lstNew ea4) (dpInts l), .lst (lstNew ec2) .nil, shapedL l, shapedL [], _, rfl, ?_⟩
        rw [eqvL]
        generalize upd H3 c2 (.lst []) = H4 at ea4 eb4 hp4 b4 ⊢
        clear ea3 eb3 hp3 b3 sc2 nc2 ec2 ea2 eb2 hp2 b2 b1 hp1
        rw [List.length_cons] at lt1 ht1
        have hxl := hh.lin x (List.mem_cons_self ..)
        cases l with
        | nil =>
          rw [decide_eq_true rfl]
          refine iteF (iteF ?_)
          refine ⟨⟨_, _, t1, fs, [], rfl, b4, hp4, by simp only [List.length_nil]; omega, ea4, eb4, half_drop hh⟩, ?_⟩
          rw [lenAt_eq ea4, lt1]; simp
        | cons y0 l =>
          rw [decide_eq_false (by simp)]
          refine iteT ?_
          rw [List.length_cons] at lt1 ht1
          have hl8 : (y0 :: l).length ≤ 8 := by
            have := nodup_le (us := rgI 0 (m : Int)) (half_drop hh).nd fun z hz => by
              have h1 := (half_drop hh).lin z hz
              exact List.mem_of_getElem? (i := z.toNat) (rgI_get.mpr ⟨by omega, by omega⟩)
            rw [rgI_len] at this; omega
          rw [List.length_cons] at hl8
          refine ⟨.ref p, rfl, p, t1, 2, rfl, hp4, by omega, by decide, by decide, fun r t5 H5 r0 r1 ht5 hp5 b5 => ⟨rfl, _, rfl, ite2 (fun _ => ?_) (fun _ => ?_)⟩⟩
          · have ea5 := b5 _ _ ea4 hap
            have eb5 := b5 _ _ eb4 hbp
            refine ⟨.ref a, rfl, .inl ⟨rfl, _, lstNew ea5⟩, .ref p, rfl, .ref a, rfl, a, _, rfl, .inl (lstNew ea5), p, t5, _, rfl, hp5, by omega, by simp; omega, by simp; omega, fun r2 t6 H6 r20 r21 ht6 hp6 b6 => ?_⟩
            have ea6 := b6 _ _ ea5 hap
            have eb6 := b6 _ _ eb5 hbp
            rw [List.length_map, List.length_cons] at r21
            obtain ⟨y, hy⟩ : ∃ y, (y0 :: l)[r2.toNat]? = some y := ⟨_, List.getElem?_eq_getElem (by rw [List.length_cons]; omega)⟩
            refine ⟨a, _, r2, r2.toNat, .int y, rfl, rfl, ea6, by omega, by omega, ?_, by rw [List.getElem?_map, hy]; rfl, ?_⟩
            · rw [List.length_map]
              unfold seqIndex?
              simp only [if_neg (show ¬ r2 < 0 by omega)]
              rw [if_pos]
              simp only [Bool.and_eq_true, decide_eq_true_eq]
              exact ⟨r20, by rw [List.length_cons]; omega⟩
            have hyl := (half_drop hh).lin y (List.mem_of_getElem? hy)
            have hfl := hh.len
            have b06 : But p H H6 := (b4.trans b5).trans b6
            have ea7 : (upd H6 a (.lst (((y0 :: l).map V.int).eraseIdx r2.toNat))) a = some (.lst (((y0 :: l).eraseIdx r2.toNat).map V.int)) := by rw [upd_same, erase_map]
            have eb7 : (upd H6 a (.lst (((y0 :: l).map V.int).eraseIdx r2.toNat))) b = some (.lst (fs.map V.int)) := by rw [upd_ne hab.symm]; exact eb6
            have hp7 := pail_set (o := .lst (((y0 :: l).map V.int).eraseIdx r2.toNat)) hp6 hap
            have b7 : But p H (upd H6 a (.lst (((y0 :: l).map V.int).eraseIdx r2.toNat))) := fun k o e z => by rw [upd_ne (ne_of_none e na)]; exact b06 k o e z
            generalize upd H6 a (.lst (((y0 :: l).map V.int).eraseIdx r2.toNat)) = H7 at ea7 eb7 hp7 b7 ⊢
            -- found[mark] = other; found[other] = mark
            refine ⟨.int y, rfl, .ref b, rfl, .int x, rfl, b, _, x, x.toNat, rfl, rfl, eb7, ix_at (by rw [List.length_map]; omega) hxl.1, ?_⟩
            refine ⟨.int x, rfl, .ref b, rfl, .int y, rfl, b, _, y, y.toNat, rfl, rfl, upd_same, ix_at (by rw [List.length_set, List.length_map]; omega) hyl.1, ?_⟩
            have hlen : ((y0 :: l).eraseIdx r2.toNat).length = l.length := by rw [List.length_eraseIdx_of_lt (by rw [List.length_cons]; omega)]; rfl
            refine ⟨⟨_, _, t6, (fs.set x.toNat y).set y.toNat x, (y0 :: l).eraseIdx r2.toNat, rfl, fun k o e z => ?_, pail_set (pail_set hp7 hbp) hbp, by rw [hlen]; omega, ?_, ?_, half_pair hh hy⟩, ?_⟩
            · rw [upd_ne (ne_of_none e nbH), upd_ne (ne_of_none e nbH)]; exact b7 k o e z
            · rw [upd_ne hab, upd_ne hab]; exact ea7
            · rw [upd_same, List.map_set, List.map_set]
            · rw [lenAt_eq (xs := ((y0 :: l).eraseIdx r2.toNat).map V.int) (by rw [upd_ne hab, upd_ne hab]; exact ea7), lt1, List.length_map, hlen]; omega
          · refine ⟨⟨_, _, t5, fs, y0 :: l, rfl, b4.trans b5, hp5, by rw [List.length_cons]; omega, b5 _ _ ea4 hap, b5 _ _ eb4 hbp, half_drop hh⟩, ?_⟩
            rw [lenAt_eq (b5 _ _ ea4 hap), lt1, List.length_map, List.length_cons]; omega
    · intro σ H1 Q1 Q2 hq h
      obtain ⟨v, e, z, h⟩ := h
      refine ⟨v, e, z, fun c nc => ?_⟩
      obtain ⟨d, e', h1, h2, h3, h4, k, h5, h6⟩ := h c nc
      exact ⟨d, e', h1, h2, h3, h4, k, h5, hq _ _ h6⟩
end
end K6
set_option maxHeartbeats 4000000
/-! sorted(d), d a dict whose keys are pairs of ints -/
namespace RV
open PySem PySem.Spec PyProof.Rows L2
/-- a pair of ints as a key, and back -/
def keyP (p : List Int) : List L2.Key := p.map Sum.inl
def pairOf (k : List L2.Key) : List Int := k.map fun x => match x with | .inl i => i | .inr _ => 0
theorem pairOf_keyP (p : List Int) : pairOf (keyP p) = p := by
  unfold pairOf keyP
  rw [List.map_map]
  exact List.map_id p
theorem kV_keyP (p : List Int) : (keyP p).map kV = p.map V.int := by
  unfold keyP
  rw [List.map_map]; rfl
abbrev two (p : List Int) : Int × Int := (p.getD 0 0, p.getD 1 0)
open Classical in
noncomputable def readP (h : Heap) (v : Value) : Int × Int := if e : ∃ p : Int × Int, Srt.IsPair h v p.1 p.2 then Classical.choose e else (0, 0)
theorem readP_eq {h : Heap} {v : Value} {x y : Int} (e : Srt.IsPair h v x y) : readP h v = (x, y) := by
  have ex : ∃ p : Int × Int, Srt.IsPair h v p.1 p.2 := ⟨(x, y), e⟩
  unfold readP
  rw [dif_pos ex]
  have c := Classical.choose_spec ex
  generalize Classical.choose ex = p at c
  obtain ⟨a, o, t, u, n, e1, e2, e3, e4⟩ := c
  obtain ⟨a', o', t', u', n', f1, f2, f3, f4⟩ := e
  rw [e1] at f1
  cases f1
  rw [e2] at f2
  cases f2
  rw [e4] at f4
  injection f4 with g1 g2
  have g3 : [Value.int p.1 t, Value.int p.2 u] = [Value.int x t', Value.int y u'] := by
    have := congrArg Array.toList g1
    simpa using this
  injection g3 with g4 g5
  injection g5 with g5 _
  injection g4 with g4 _
  injection g5 with g5 _
  obtain ⟨p1, p2⟩ := p
  simp only at g4 g5
  rw [g4, g5]
theorem paired_mem {α β : Type} {F : α → β → Prop} : ∀ {l : List α} {m : List β}, Paired F l m → ∀ y ∈ m, ∃ x ∈ l, F x y
  | _, _, .nil, y, h => nomatch h
  | _, _, .cons f t, y, h => by
    rcases List.mem_cons.mp h with e | e
    · rw [e]; exact ⟨_, List.mem_cons_self .., f⟩
    · obtain ⟨x, hx, fx⟩ := paired_mem t y e
      exact ⟨x, List.mem_cons_of_mem _ hx, fx⟩
theorem paired_map {α β γ : Type} {F : α → β → Prop} {f : α → γ} {g : β → γ} (h : ∀ a b, F a b → f a = g b) : ∀ {l : List α} {m : List β}, Paired F l m → l.map f = m.map g
  | _, _, .nil => rfl
  | _, _, .cons e t => by rw [List.map_cons, List.map_cons, h _ _ e, paired_map h t]
section
variable {X : Cx}
/-- sorted(d) -/
def rSortDT : List V → Hp → VK → Prop := fun xs H Q => ∃ (d : Addr) (kvs : List (List L2.Key × V)) (ps : List (List Int)), xs = [.ref d] ∧ Rd H d (.dT kvs) ∧ kvs.map (·.1) = ps.map keyP ∧ (∀ p ∈ ps, ∃ x y : Int, p = [x, y]) ∧ kvs.length ≤ 1000 ∧
  ∀ (L : List (Addr × List Int)) (q : Addr), H q = none → (L.map (·.2)).Perm ps → L.Pairwise (fun a b => SrtO.lexB (two b.2) (two a.2) = false) → (∀ a ∈ L, H a.1 = some (.tup (a.2.map V.int))) → Q (.ref q) (upd H q (.lst (L.map fun a => V.ref a.1)))
theorem cr_sortedDT (hc : X.calm = true) : CallR X (.builtin "sorted") rSortDT := by
  intro pins s σ H xs us Q I r h
  obtain ⟨d, kvs, ps, rfl, hd, hks, hpr, h1000, q⟩ := h
  obtain ⟨u, rfl, rx⟩ := vals1 r
  cases rx
  obtain ⟨z, hs, ks, pr, o, es, ep, ho, hx, hdt, he, hn⟩ := (show ObjOk X.prog X.w H s.heap d (.dT kvs) from hd.ok I.hok)
  have l1 : es.size = ks.length := size_of_entries he
  have l2 : kvs.length = ks.length := Paired.length pr
  refine Calls.call_function_entry kind_sorted plain_sorted entry_sorted (args_sorted1 _) ?_
  unfold Builtin.«sorted»
  refine wpAny_bind (m := checkCount "sorted" 1 1 _) (wpAny_pure ?_)
  refine wpAny_bind (PySem.W.kdu_collect (A := X.A.in1) (kdl_raw hs hx hdt) (I.ok.hd hc) ho (by rw [l1, ← l2]; exact Nat.le_of_lt (small1000 h1000)) fun h' tk acc kp it => ?_)
  -- what was collected
  have ea : acc.toList = ks.map fun x => Value.ref x.2.1 := by
    have hl : acc.toList.length = ks.length := by rw [Array.length_toList, it.1, l1]
    refine List.ext_getElem (by rw [hl, List.length_map]) fun j j1 j2 => ?_
    have ja : acc.toList[j]? = some acc.toList[j] := List.getElem?_eq_getElem j1
    obtain ⟨en, hen, hv⟩ := it.2 j _ (by rw [← Array.getElem?_toList]; exact ja)
    have qe := entry_at he j
    have jk : j < ks.length := by rw [List.length_map] at j2; exact j2
    rw [hen, List.getElem?_eq_getElem jk] at qe
    have e2 : en = entryOfKey (tupleKind (mixKind X.prog X.w)) ks[j] := Option.some.inj qe
    rw [hv, e2, List.getElem_map]; rfl
  have I1 : Inv X pins σ H { s with heap := h', toks := tk } := I.kept kp
  have hal : acc.toList.length = ks.length := by rw [ea, List.length_map]
  refine wpAny_bind (wpAny_newList ?_ (by rw [hal, ← l2]; exact Nat.le_of_lt (small1000 h1000)))
  have hoL : (h'.push (seqObj "list" acc.toList.toArray 0)).get? h'.objs.size = some (seqObj "list" acc.toList.toArray 0) := Heap.get?_push_size _ rfl
  show wpAny _ _ _ _ _ { s with heap := h'.push (seqObj "list" acc.toList.toArray 0), toks := tk }
  -- each is a pair
  have ent : ∀ v ∈ acc.toList, ∃ (b : Addr) (p : List Int), v = .ref b ∧ p ∈ ps ∧ H b = some (.tup (p.map V.int)) ∧ ∃ x y : Int, p = [x, y] ∧ Srt.IsPair h' v x y := by
    intro v hv
    rw [ea] at hv
    obtain ⟨x, hx1, rfl⟩ := List.mem_map.mp hv
    obtain ⟨kv, hkv, q1, q2, _⟩ := paired_mem pr x hx1
    have hk2 : kv.1 ∈ ps.map keyP := by rw [← hks]; exact List.mem_map_of_mem hkv
    obtain ⟨p, hp, ep⟩ := List.mem_map.mp hk2
    have hb : H x.2.1 = some (.tup (p.map V.int)) := by rw [q2, ← ep, kV_keyP]
    obtain ⟨x', y', e'⟩ := hpr p hp
    refine ⟨x.2.1, p, rfl, hp, hb, x', y', e', ?_⟩
    obtain ⟨_, its2, r2, oo, ho2, hc2, n2, hd2⟩ := (show ObjOk X.prog X.w H s.heap x.2.1 (.tup (p.map V.int)) from I.hok _ _ hb)
    rw [e'] at r2
    obtain ⟨u1, u2, rfl, ri, rj⟩ := vals2 r2
    obtain ⟨t1, rfl⟩ := ri
    obtain ⟨t2, rfl⟩ := rj
    exact ⟨x.2.1, oo, t1, t2, n2, rfl, kp _ _ ho2, hc2, hd2⟩
  have isp : ∀ v ∈ acc.toList, Srt.IsPair h' v (readP h' v).1 (readP h' v).2 := fun v hv => by
    obtain ⟨b, p, _, _, _, x, y, _, e⟩ := ent v hv
    rw [readP_eq e]; exact e
  refine wpAny_bind (wpAny_holding (wpAny_call_entry slot_list_sort ⟨_, hoL, rfl⟩ entry_list_sort (SrtO.list_sort_ord (s := { s with heap := h'.push (seqObj "list" acc.toList.toArray 0), toks := tk }) (ltv := fun v u => SrtO.lexB (readP h' v) (readP h' u)) (SrtO.swo_lex (readP h')) hoL
    (by rw [hal, ← l2]; exact Nat.le_of_lt (small1000 h1000)) (fun h2 => ?_) fun out g1 g2 => ⟨_, rfl, ?_⟩) (args_list_sort _)))
  · refine SrtO.pairs_sortableO (k := readP h') (s := { s with heap := h'.push (seqObj "list" acc.toList.toArray 0), toks := tk }) (by omega) (fun v hm => (isp v hm).keeps fun b o e _ => Heap.get?_push_of_some _ e) fun o e => ?_
    have e' : some o = some (seqObj "list" acc.toList.toArray 0) := e.symm.trans hoL
    cases e'
    intro c
    exact absurd (Value.type.inj c) (by decide)
  · obtain ⟨e', he'⟩ := sortedHeap_at (vs := acc.toList) (out := out.toArray) hoL
    -- as addresses with their ints
    have inV : ∀ v ∈ out, v ∈ acc.toList := fun v hv => g2.perm.mem_iff.mp hv
    let ad : Value → Addr := fun v => match v with | .ref b => b | _ => 0
    let L : List (Addr × List Int) := out.map fun v => (ad v, [(readP h' v).1, (readP h' v).2])
    have tell : ∀ v ∈ out, v = .ref (ad v) ∧ [(readP h' v).1, (readP h' v).2] ∈ ps ∧ H (ad v) = some (.tup (([(readP h' v).1, (readP h' v).2] : List Int).map V.int)) := fun v hv => by
      obtain ⟨b, p, rfl, hp, hb, x, y, rfl, e⟩ := ent v (inV v hv)
      rw [readP_eq e]
      exact ⟨rfl, hp, hb⟩
    have eo : out = L.map fun a => Value.ref a.1 := by
      show out = (out.map _).map _
      rw [List.map_map]
      conv => lhs; rw [← List.map_id out]
      exact List.map_congr_left fun v hv => (tell v hv).1
    have eks : ∀ v ∈ acc.toList, True := fun _ _ => trivial
    have hLlen : (L.map fun a => V.ref a.1).length ≤ sizeLine := by
      rw [List.length_map, List.length_map, g2.len, hal, ← l2]; exact Nat.le_of_lt (small1000 h1000)
    have rv : Vals (L.map fun a => V.ref a.1) out := by
      rw [eo]
      have : ∀ M : List (Addr × List Int), Vals (M.map fun a => V.ref a.1) (M.map fun a => Value.ref a.1) := fun M => by
        induction M with
        | nil => exact .nil
        | cons m r ih => exact .cons rfl ih
      exact this L
    have e2 : L.map (·.2) = out.map fun v => [(readP h' v).1, (readP h' v).2] := by
      show (out.map _).map _ = _
      rw [List.map_map]; rfl
    have e3 : (acc.toList.map fun v => [(readP h' v).1, (readP h' v).2]) = ps := by
      have w1 : ks.map (fun x => pairOf x.1) = ps := by
        rw [← paired_map (f := fun (a : List L2.Key × V) => pairOf a.1) (g := fun (b : List L2.Key × Addr × Value) => pairOf b.1) (fun a b f => by rw [f.1]) pr]
        have w2 : kvs.map (fun a => pairOf a.1) = (kvs.map (·.1)).map pairOf := by rw [List.map_map]; rfl
        rw [w2, hks, List.map_map]
        conv => rhs; rw [← List.map_id ps]
        exact List.map_congr_left fun p _ => pairOf_keyP p
      rw [← w1, ea, List.map_map]
      refine List.map_congr_left fun x hx1 => ?_
      obtain ⟨kv, hkv, q1, q2, _⟩ := paired_mem pr x hx1
      obtain ⟨b, p, eb, hp, hb, x', y', e', isP⟩ := ent (.ref x.2.1) (by rw [ea]; exact List.mem_map.mpr ⟨x, hx1, rfl⟩)
      cases eb
      show [(readP h' (.ref x.2.1)).1, (readP h' (.ref x.2.1)).2] = pairOf x.1
      rw [readP_eq isP, ← q1]
      have hk2 : kv.1 ∈ ps.map keyP := by rw [← hks]; exact List.mem_map_of_mem hkv
      obtain ⟨p2, hp2, ep2⟩ := List.mem_map.mp hk2
      rw [← ep2, pairOf_keyP]
      rw [hb, ← ep2, kV_keyP] at q2
      have q3 : p.map V.int = p2.map V.int := by
        injection q2 with q2
        injection q2
      have q4 : p = p2 := by
        have inj : ∀ l m : List Int, l.map V.int = m.map V.int → l = m := fun l => by
          induction l with
          | nil => intro m e; cases m with | nil => rfl | cons => cases e
          | cons a r ih =>
            intro m e
            cases m with
            | nil => cases e
            | cons b t =>
              rw [List.map_cons, List.map_cons] at e
              injection e with e1 e2
              injection e1 with e1
              rw [e1, ih t e2]
        exact inj p p2 q3
      rw [← q4, e']
    refine wpAny_pure ⟨_, rfl, .ref h'.objs.size, upd H h'.objs.size (.lst (L.map fun a => V.ref a.1)), I1.laid (t' := tk) (fun b u e => ?_) (Nat.le_refl _)
      (show ObjOk X.prog X.w _ _ _ (.lst (L.map fun a => V.ref a.1)) from ⟨hLlen, out, e', rv, he'⟩), rfl, q L _ (I1.hok.fresh (Nat.le_refl _)) ?_ ?_ fun a ha => ?_⟩
    · have hb : b < h'.objs.size := Heap.lt_size e
      rw [sortedHeap_old (Nat.ne_of_lt hb) (by rw [size_push']; exact Nat.lt_succ_of_lt hb)]
      exact Heap.get?_push_of_some _ e
    · rw [e2, ← e3]
      exact g2.perm.map _
    · show (out.map _).Pairwise _
      rw [List.pairwise_map]
      exact g1
    · obtain ⟨v, hv, rfl⟩ := List.mem_map.mp ha
      exact (tell v hv).2.2
end
end RV
set_option maxHeartbeats 4000000
namespace K6
open PySem PySem.Spec PyProof.Rows L2 RV
/-! ### a dict of pairs, by its keys -/
def addP (ps : List (List Int)) (p : List Int) : List (List Int) := if p ∈ ps then ps else ps ++ [p]
theorem keyP_inj {p q : List Int} (h : keyP p = keyP q) : p = q := by
  have := congrArg pairOf h
  rwa [pairOf_keyP, pairOf_keyP] at this
theorem key_mem {p : List Int} {ps : List (List Int)} : keyP p ∈ ps.map keyP ↔ p ∈ ps := by
  constructor
  · intro h
    obtain ⟨q, hq, e⟩ := List.mem_map.mp h
    rw [← keyP_inj e]; exact hq
  · exact fun h => List.mem_map_of_mem h
theorem put_keys {kvs : List (List L2.Key × V)} {ps : List (List Int)} {p : List Int} {v : V} (h : kvs.map (·.1) = ps.map keyP) : (putK kvs (keyP p) v).map (·.1) = (addP ps p).map keyP := by
  unfold addP
  cases e : valV kvs (keyP p) with
  | none =>
    have n : p ∉ ps := fun z => valV_not e (by rw [h]; exact key_mem.mpr z)
    rw [putK_new v e, if_neg n, List.map_append, List.map_append, h]; rfl
  | some x =>
    have y : p ∈ ps := key_mem.mp (by rw [← h]; exact valV_in e)
    rw [if_pos y, ← h]
    unfold putK
    rw [valV_any, e]
    show (kvs.map fun kv => if kv.1 = keyP p then (kv.1, v) else kv).map (·.1) = kvs.map (·.1)
    rw [List.map_map]
    refine List.map_congr_left fun kv _ => ?_
    show (if kv.1 = keyP p then (kv.1, v) else kv).1 = kv.1
    split <;> rfl
theorem mem_addP {ps : List (List Int)} {p q : List Int} : q ∈ addP ps p ↔ q ∈ ps ∨ q = p := by
  unfold addP
  split
  · rename_i h
    constructor
    · exact .inl
    · rintro (z | rfl)
      · exact z
      · exact h
  · rw [List.mem_append, List.mem_singleton]
theorem nd_addP {ps : List (List Int)} {p : List Int} (h : ps.Nodup) : (addP ps p).Nodup := by
  unfold addP
  split
  · exact h
  · rename_i n
    rw [List.nodup_append]
    exact ⟨h, by simp, fun a ha b hb e => n (by rw [← List.mem_singleton.mp hb, ← e]; exact ha)⟩
/-- a tuple of tuples of ints, all of them seen -/
def TupsH (H : Hp) (a : Addr) (ps : List (List Int)) : Prop := ∃ ks : List (Addr × List Int), ks.map (·.2) = ps ∧ H a = some (.tup (ks.map fun p => V.ref p.1)) ∧ ∀ p ∈ ks, H p.1 = some (.tup (p.2.map V.int))
theorem TupsH.tups {K : PySem.W.Frag} {H : Hp} {a : Addr} {ps : List (List Int)} (h : TupsH H a ps) : Tups K H a ps :=
  let ⟨ks, h1, h2, h3⟩ := h; ⟨ks, h1, tupNew h2, fun p hp => tupNew (h3 p hp)⟩
theorem TupsH.same {H H' : Hp} {a : Addr} {ps : List (List Int)} (h : TupsH H a ps) (e : Same H H') : TupsH H' a ps :=
  let ⟨ks, h1, h2, h3⟩ := h; ⟨ks, h1, e _ _ h2, fun p hp => e _ _ (h3 p hp)⟩
theorem TupsH.but {H H' : Hp} {p a : Addr} {t : Nat} {ps : List (List Int)} (h : TupsH H a ps) (hp : PailAt H p t) (b : But p H H') : TupsH H' a ps := by
  obtain ⟨ks, h1, h2, h3⟩ := h
  obtain ⟨x, y, e, _⟩ := hp
  exact ⟨ks, h1, b _ _ h2 fun z => (by rw [z, e] at h2; cases h2), fun q hq => b _ _ (h3 q hq) fun z => (by have h := h3 q hq; rw [z, e] at h; cases h)⟩
/-- steps drawn so far -/
structure Part (ns : List Int) (ps : List (List Int)) : Prop where
  nd : ps.Nodup
  pr : ∀ p ∈ ps, Pr (ns.length : Int) p
  mi : ∀ x y mx my : Int, [x, y] ∈ ps → ns[x.toNat]? = some mx → ns[y.toNat]? = some my → [my, mx] ∈ ps
theorem Part.nil (ns : List Int) : Part ns [] := ⟨List.nodup_nil, (fun _ h => nomatch h), fun _ _ _ _ h => nomatch h⟩
theorem Part.add {ns : List Int} {ps : List (List Int)} {x y mx my : Int} (M : Mir ns) (h : Part ns ps) (hx : 0 ≤ x ∧ x < (ns.length : Int)) (hy : 0 ≤ y ∧ y < (ns.length : Int)) (ex : ns[x.toNat]? = some mx) (ey : ns[y.toNat]? = some my) :
    Part ns (addP (addP ps [x, y]) [my, mx]) := by
  have bx := M.back _ _ ex
  have bY := M.back _ _ ey
  have ix := M.inn mx (List.mem_of_getElem? ex)
  have iy := M.inn my (List.mem_of_getElem? ey)
  refine ⟨nd_addP (nd_addP h.nd), fun p hp => ?_, fun a b ma mb hab ha hb => ?_⟩
  · rcases mem_addP.mp hp with z | rfl
    · rcases mem_addP.mp z with z | rfl
      · exact h.pr p z
      · exact ⟨x, y, rfl, hx, hy⟩
    · exact ⟨my, mx, rfl, iy, ix⟩
  · rw [mem_addP, mem_addP] at hab ⊢
    rcases hab with (z | z) | z
    · exact .inl (.inl (h.mi a b ma mb z ha hb))
    · injection z with z1 z2
      injection z2 with z2 _
      subst z1 z2
      rw [ex] at ha
      rw [ey] at hb
      cases ha
      cases hb
      exact .inr rfl
    · injection z with z1 z2
      injection z2 with z2 _
      subst z1 z2
      rw [bY] at ha
      rw [bx] at hb
      cases ha
      cases hb
      refine .inl (.inr ?_)
      rw [show ((x.toNat : Nat) : Int) = x by omega, show ((y.toNat : Nat) : Int) = y by omega]
theorem Part.len {ns : List Int} {ps : List (List Int)} (h : Part ns ps) (M : Mir ns) : ps.length ≤ 64 := by
  have := nodup_le (us := gridOf 0 (fun _ _ => true) ns.length ns.length) h.nd fun p hp => by
    obtain ⟨x, y, rfl, hx, hy⟩ := h.pr p hp
    refine mem_grid.mpr ⟨x.toNat, y.toNat, by omega, by omega, rfl, ?_⟩
    rw [show (0 + ((x.toNat : Nat) : Int)) = x by omega, show (0 + ((y.toNat : Nat) : Int)) = y by omega]
  have g := grid_len 0 (fun _ _ => true) ns.length ns.length
  have m8 : ns.length * ns.length ≤ 8 * 8 := Nat.mul_le_mul M.few M.few
  omega
theorem le_of_two {p q : List Int} (hp : Pr 64 p) (hq : Pr 64 q) (h : SrtO.lexB (two q) (two p) = false) : cd p ≤ cd q := by
  obtain ⟨x, y, rfl, hx, hy⟩ := hp
  obtain ⟨x', y', rfl, hx', hy'⟩ := hq
  have z := SrtO.lexB_no.mp h
  have z' : ¬ (x' < x ∨ (x' = x ∧ y' < y)) := z
  rw [cd_pair, cd_pair]; omega
/-- sorted, they are a rule's steps -/
theorem Part.stp {ns : List Int} {ps : List (List Int)} {L : List (Addr × List Int)} (M : Mir ns) (h : Part ns ps) (pm : (L.map (·.2)).Perm ps) (pw : L.Pairwise fun a b => SrtO.lexB (two b.2) (two a.2) = false) : Stp ns (L.map (·.2)) := by
  have h8 := M.few
  have pr : ∀ p ∈ L.map (·.2), Pr (ns.length : Int) p := fun p hp => h.pr p (pm.mem_iff.mp hp)
  have pr64 : ∀ p ∈ L.map (·.2), Pr 64 p := fun p hp => (pr p hp).mono (by omega)
  have le : (L.map (·.2)).Pairwise fun p q => cd p ≤ cd q := by
    rw [List.pairwise_map]
    exact List.Pairwise.imp_of_mem (fun {a b} ha hb z => le_of_two (pr64 _ (List.mem_map_of_mem ha)) (pr64 _ (List.mem_map_of_mem hb)) z) pw
  refine ⟨by rw [pm.length_eq]; exact h.len M, fun p hp => pr p hp, adj_rise pr64 (sorted_lt pr64 (pm.nodup_iff.mpr h.nd) le), fun x y mx my hxy hx hy => ?_, pm.nodup_iff.mpr h.nd⟩
  exact pm.mem_iff.mpr (h.mi x y mx my (pm.mem_iff.mp hxy) hx hy)
section
variable {P : Program} {w : World} {K : PySem.W.Frag} {mg : Str → Option Value} {base : Heap}
/-! ### _law_steps -/
theorem scDSteps : FnScope ["_law_pail_here", "_law_mirrors_here", "_law_found", "_law_share", "_law_one", "_law_other"] ["_law_pail_here", "_law_mirrors_here"] (defScope sDSteps) := ⟨rfl, rfl, rfl, by decide +kernel, rfl, by decide +kernel, by decide +kernel⟩
def spDSteps (K : PySem.W.Frag) : Sp := fun vs H Q _ => ∃ (p u : Addr) (t : Nat) (ns : List Int), vs = [.ref p, .ref u] ∧ PailAt H p t ∧ t ≤ 1500 ∧ SqT K H u (ns.map V.int) ∧ Mir ns ∧
  ∀ (H' : Hp) (c : Addr) (t' : Nat) (ps : List (List Int)), PailAt H' p t' → t' ≤ t + 70 → But p H H' → TupsH H' c ps → Stp ns ps → Q (.ref c) H'
theorem ok_dsteps {f fD fO : Addr} {fd fdD fdO : FuncData} (F : Fun K "_law_steps" "_law_steps" sDSteps f fd) (DD : DefAt K mg "_law_draw" sDraw ["_law_pail_here", "_law_many"] fD fdD) (DO : DefAt K mg "_law_of" sOf ["_law_pail_here", "_law_some"] fO fdO) (B : Bare mg) : FnOk P w K mg base CX0 3 f fd ["_law_pail_here", "_law_mirrors_here"] (spDSteps K) := by
  have GD : FnOk P w K mg base CX0 1 fD fdD ["_law_pail_here", "_law_many"] spDraw := ok_draw DD.fn
  have GO : FnOk P w K mg base CX0 2 fO fdO ["_law_pail_here", "_law_some"] (spOf K) := ok_of DO.fn DD B
  refine F.ok scDSteps (fun vs H Q E h => ?_) (fun cdv A outer s H vs Q E hr h => ?_)
  · obtain ⟨p, u, t, ns, rfl, _⟩ := h
    rfl
  · obtain ⟨p, u, t, ns, rfl, hp, ht, hT, M, q⟩ := h
    have hu := hu_of hr
    have hr1 := hr.mono (show 1 ≤ 2 by decide)
    refine ⟨_, pss_cons (ps_par (i := 2) (j := 3) (by rfl) scDSteps.nd rfl rfl (by decide) rfl rfl (pa_cons pe_dnewT (pa_cons (pe_call GO hr (by rfl) DO.mg DO.fn.kp DO.bi .nil pass0 (pa_cons (pv 0) (pa_cons (pe_lst (pa_cons pe_int (pa_cons pe_int (pa_cons pe_int (pa_cons pe_int pa_nil))))) pa_nil))) pa_nil)) (by rfl))
      (pss_cons (ps_for PassesOwn.never rfl (pi_range1 (by rfl) B.range (pa_cons (pe_callB call_len_seq (by rfl) B.len PySem.boot_len (pa_cons (pv 1) pa_nil)) pa_nil)) (pg_name (i := 4) scDSteps.nd rfl (Or.inl rfl))
        (pss_one (ps_for PassesOwn.never rfl (pi_range1 (by rfl) B.range (pa_cons (pe_callB call_len_seq (by rfl) B.len PySem.boot_len (pa_cons (pv 1) pa_nil)) pa_nil)) (pg_name (i := 5) scDSteps.nd rfl (Or.inl rfl))
          (pss_one (ps_if (PW.pt (pw_and (pt_cmp (pc_dnotin hu (pe_tup (pa_cons (pv 4) (pa_cons (pv 5) pa_nil))) (pv 2))) (pw_and1 (pt_cmpR op_eq (pe_call GD hr1 (by rfl) DD.mg DD.fn.kp DD.bi .nil pass0 (pa_cons (pv 0) (pa_cons (pv 3) pa_nil))) pe_int (nomark _)))))
            (pss_cons (ps_dput hu (pv 2) (pe_tup (pa_cons (pv 4) (pa_cons (pv 5) pa_nil))) pe_bl rfl)
            (pss_one (ps_dput hu (pv 2) (pe_tup (pa_cons (pe_ix ix_tup (pv 1) (pv 5) (fun _ _ => rfl)) (pa_cons (pe_ix ix_tup (pv 1) (pv 4) (fun _ _ => rfl)) pa_nil))) pe_bl rfl))) pss_nil)))))
      (pss_one (ps_ret (pe_tupleOf (by rfl) B.tuple (pe_callB (cr_sortedDT rfl) (by rfl) B.sorted (by decide +kernel) (pa_cons (pv 2) pa_nil)))))), ?_⟩
    intro d nd
    have hdp : d ≠ p := pail_ne hp nd
    refine ⟨.ref p, rfl, (by show 4 ≤ sizeLine; decide), fun l nl => ⟨p, l, t, [.int 2, .int 3, .int 4, .int 6], rfl, pail_new (pail_new hp nd) nl, by omega, lstNew upd_same, pail_ne (pail_new hp nd) nl, by decide, by decide, fun j v t1 H1 hv ht1 hp1 b1 => ⟨.ref d, v, rfl, ?_⟩⟩⟩
    obtain ⟨sh, rfl, sh1, sh6⟩ : ∃ sh : Int, v = .int sh ∧ 1 ≤ sh ∧ sh ≤ 6 := by
      have hj : j < 4 := (List.getElem?_eq_some_iff.mp hv).1
      rcases (show j = 0 ∨ j = 1 ∨ j = 2 ∨ j = 3 by omega) with e | e | e | e <;> subst e <;> cases hv <;> exact ⟨_, rfl, by decide, by decide⟩
    have s0 := (same_upd (o := .dT []) nd).trans (same_upd (o := .lst [.int 2, .int 3, .int 4, .int 6]) nl)
    have ed1 : H1 d = some (.dT []) := b1 _ _ (same_upd nl _ _ upd_same) hdp
    have b01 : But p H H1 := (But.of s0).trans b1
    have hT1 : SqT K H1 u (ns.map V.int) := sqT_pail hp b01 hT
    have hn8 := M.few
    refine ⟨.ref u, rfl, u, _, rfl, .inr hT1, _, rfl, by rw [List.length_map]; omega, by rw [List.length_map]; omega, ?_⟩
    refine for_range (lo := 0) (n := _) (fun i σ H' => ∃ (kvs : List (List L2.Key × V)) (ps : List (List Int)) (t' : Nat) (y4 y5 : Option V), σ = [some (.ref p), some (.ref u), some (.ref d), some (.int sh), y4, y5] ∧ But p H H' ∧ PailAt H' p t' ∧ t' ≤ t + 1 + i * 8 ∧ H' d = some (.dT kvs) ∧ kvs.map (·.1) = ps.map keyP ∧ Part ns ps)
      ⟨[], [], t1, none, none, rfl, b01, hp1, by omega, ed1, rfl, Part.nil ns⟩ ?_ ?_
    · rintro i σ H2 hi ⟨kvs, ps, t2, y4, y5, rfl, b2, hp2, ht2, ed2, ek2, P2⟩
      rw [List.length_map, Int.toNat_natCast] at hi
      have hT2 : SqT K H2 u (ns.map V.int) := sqT_pail hp b2 hT
      refine ⟨.ref u, rfl, u, _, rfl, .inr hT2, _, rfl, by rw [List.length_map]; omega, by rw [List.length_map]; omega, ?_⟩
      refine for_range (lo := 0) (n := _) (fun j σ H' => ∃ (kvs : List (List L2.Key × V)) (ps : List (List Int)) (t' : Nat) (y5 : Option V), σ = [some (.ref p), some (.ref u), some (.ref d), some (.int sh), some (.int (0 + (i : Nat))), y5] ∧ But p H H' ∧ PailAt H' p t' ∧ t' ≤ t + 1 + i * 8 + j ∧ H' d = some (.dT kvs) ∧ kvs.map (·.1) = ps.map keyP ∧ Part ns ps)
        ⟨kvs, ps, t2, y5, rfl, b2, hp2, by omega, ed2, ek2, P2⟩ ?_ ?_
      · rintro j σ H3 hj ⟨kvs, ps, t3, y5, rfl, b3, hp3, ht3, ed3, ek3, P3⟩
        rw [List.length_map, Int.toNat_natCast] at hj
        have ei : (0 + ((i : Nat) : Int)) = (i : Int) := by omega
        have ej : (0 + ((j : Nat) : Int)) = (j : Int) := by omega
        have hl3 := P3.len M
        have hkl : kvs.length ≤ 64 := by
          have z := congrArg List.length ek3
          rw [List.length_map, List.length_map] at z; omega
        -- (one, other) not in found
        refine ⟨.int (0 + (i : Nat)), rfl, .int (0 + (j : Nat)), rfl, (by show 2 ≤ sizeLine; decide), fun T nT => ?_⟩
        have sT := same_upd (o := .tup [.int (0 + (i : Nat)), .int (0 + (j : Nat))]) nT
        have eT : (upd H3 T (.tup [.int (0 + (i : Nat)), .int (0 + (j : Nat))])) T = some (.tup ((keyP [0 + (i : Nat), 0 + (j : Nat)]).map kV)) := upd_same
        have ed4 := sT _ _ ed3
        have b4 := b3.trans (But.of (p := p) sT)
        have hp4 := pail_same hp3 sT
        generalize upd H3 T (.tup [.int (0 + (i : Nat)), .int (0 + (j : Nat))]) = H4 at eT ed4 b4 hp4 ⊢
        refine ⟨.ref d, rfl, d, _, rfl, DGet.t ed4 eT, _, rfl, ?_⟩
        cases ev : valV kvs (keyP [0 + (i : Nat), 0 + (j : Nat)]) with
        | some x =>
          refine iteF (iteF ?_)
          exact ⟨kvs, ps, t3, _, rfl, b4, hp4, by omega, ed4, ek3, P3⟩
        | none =>
          refine iteT ?_
          refine ⟨.ref p, rfl, .int sh, rfl, p, t3, sh, rfl, hp4, by omega, sh1, by omega, fun r t5 H5 r0 r1 ht5 hp5 b5 => ⟨rfl, _, rfl, ite2 (fun _ => ?_) (fun _ => ?_)⟩⟩
          · have ed5 := b5 _ _ ed4 hdp
            have b05 := b4.trans b5
            have hT5 : SqT K H5 u (ns.map V.int) := sqT_pail hp b05 hT
            -- found[one, other] = True
            refine ⟨.ref d, rfl, .int (0 + (i : Nat)), rfl, .int (0 + (j : Nat)), rfl, (by show 2 ≤ sizeLine; decide), fun T2 nT2 => ?_⟩
            have sT2 := same_upd (o := .tup [.int (0 + (i : Nat)), .int (0 + (j : Nat))]) nT2
            have eT2 : (upd H5 T2 (.tup [.int (0 + (i : Nat)), .int (0 + (j : Nat))])) T2 = some (.tup ((keyP [0 + (i : Nat), 0 + (j : Nat)]).map kV)) := upd_same
            refine ⟨d, _, rfl, DPut.t (sT2 _ _ ed5) eT2 (few1 (by omega)), ?_⟩
            have ed6 : (upd (upd H5 T2 (.tup [.int (0 + (i : Nat)), .int (0 + (j : Nat))])) d (.dT (putK kvs (keyP [0 + (i : Nat), 0 + (j : Nat)]) (.bl true)))) d = some (.dT (putK kvs (keyP [0 + (i : Nat), 0 + (j : Nat)]) (.bl true))) := upd_same
            have b6 : But p H (upd (upd H5 T2 (.tup [.int (0 + (i : Nat)), .int (0 + (j : Nat))])) d (.dT (putK kvs (keyP [0 + (i : Nat), 0 + (j : Nat)]) (.bl true)))) := fun k o e z => by rw [upd_ne (ne_of_none e nd)]; exact sT2 _ _ (b05 k o e z)
            have hp6 := pail_set (o := .dT (putK kvs (keyP [0 + (i : Nat), 0 + (j : Nat)]) (.bl true))) (pail_same hp5 sT2) hdp
            have ek6 := put_keys (p := [0 + ((i : Nat) : Int), 0 + ((j : Nat) : Int)]) (v := .bl true) ek3
            have l6 : (putK kvs (keyP [0 + (i : Nat), 0 + (j : Nat)]) (.bl true)).length ≤ 65 := by
              rw [putK_new _ ev, List.length_append]
              show kvs.length + 1 ≤ 65
              omega
            generalize upd (upd H5 T2 (.tup [.int (0 + (i : Nat)), .int (0 + (j : Nat))])) d (.dT (putK kvs (keyP [0 + (i : Nat), 0 + (j : Nat)]) (.bl true))) = H6 at ed6 b6 hp6 ⊢
            generalize putK kvs (keyP [0 + (i : Nat), 0 + (j : Nat)]) (.bl true) = kvs6 at ed6 ek6 l6
            have hT6 : SqT K H6 u (ns.map V.int) := sqT_pail hp b6 hT
            -- found[mirrors[other], mirrors[one]] = True
            obtain ⟨mi, gi⟩ : ∃ mi, ns[i]? = some mi := ⟨_, List.getElem?_eq_getElem hi⟩
            obtain ⟨mj, gj⟩ : ∃ mj, ns[j]? = some mj := ⟨_, List.getElem?_eq_getElem hj⟩
            have ai : atI (ns.map V.int) (0 + (i : Nat)) = some (.int mi) := by rw [ei]; exact atI_nat (by rw [List.getElem?_map, gi]; rfl)
            have aj : atI (ns.map V.int) (0 + (j : Nat)) = some (.int mj) := by rw [ej]; exact atI_nat (by rw [List.getElem?_map, gj]; rfl)
            refine ⟨.ref d, rfl, .ref u, rfl, .int (0 + (j : Nat)), rfl, u, _, _, _, rfl, rfl, hT6, aj, .ref u, rfl, .int (0 + (i : Nat)), rfl, u, _, _, _, rfl, rfl, hT6, ai, (by show 2 ≤ sizeLine; decide), fun T3 nT3 => ?_⟩
            have sT3 := same_upd (o := .tup [.int mj, .int mi]) nT3
            have eT3 : (upd H6 T3 (.tup [.int mj, .int mi])) T3 = some (.tup ((keyP [mj, mi]).map kV)) := upd_same
            refine ⟨d, _, rfl, DPut.t (sT3 _ _ ed6) eT3 (few1 (by omega)), ?_⟩
            have P7 := Part.add (x := (i : Int)) (y := (j : Int)) M P3 (by omega) (by omega) (by rw [Int.toNat_natCast]; exact gi) (by rw [Int.toNat_natCast]; exact gj)
            refine ⟨_, addP (addP ps [0 + ((i : Nat) : Int), 0 + ((j : Nat) : Int)]) [mj, mi], t5, _, rfl, fun k o e z => ?_, pail_set (pail_same hp6 sT3) hdp, by omega, upd_same, put_keys ek6, by rw [ei, ej]; exact P7⟩
            rw [upd_ne (ne_of_none e nd)]; exact sT3 _ _ (b6 k o e z)
          · exact ⟨kvs, ps, t5, _, rfl, b4.trans b5, hp5, by omega, b5 _ _ ed4 hdp, ek3, P3⟩
      · rintro σ H3 ⟨kvs, ps, t3, y5, rfl, b3, hp3, ht3, ed3, ek3, P3⟩
        rw [List.length_map, Int.toNat_natCast] at ht3
        exact ⟨kvs, ps, t3, _, _, rfl, b3, hp3, by omega, ed3, ek3, P3⟩
    · rintro σ H2 ⟨kvs, ps, t2, y4, y5, rfl, b2, hp2, ht2, ed2, ek2, P2⟩
      rw [List.length_map, Int.toNat_natCast] at ht2
      have hl2 := P2.len M
      have hkl : kvs.length ≤ 64 := by
        have z := congrArg List.length ek2
        rw [List.length_map, List.length_map] at z; omega
      refine ⟨.ref d, rfl, d, kvs, ps, rfl, .inl ed2, ek2, fun z hz => ?_, by omega, fun L c nc pm pw tu => .inl ⟨c, _, rfl, lstNew upd_same, fun e ne => ?_⟩⟩
      · obtain ⟨x, y, e, _⟩ := P2.pr z hz
        exact ⟨x, y, e⟩
      · have s3 := (same_upd (o := .lst (L.map fun a => V.ref a.1)) nc).trans (same_upd (o := .tup (L.map fun a => V.ref a.1)) ne)
        exact q _ e t2 (L.map (·.2)) (pail_same hp2 s3) (by omega) (b2.trans (But.of s3)) ⟨L, rfl, upd_same, fun k hk => s3 _ _ (tu k hk)⟩ (P2.stp M pm pw)
end
end K6
set_option maxHeartbeats 4000000
namespace K6
open PySem PySem.Spec PyProof.Rows L2 RV
theorem mro_tuple : PySem.fastBuiltinMro "tuple" = some [.type "tuple", .type "object"] := by decide +kernel
theorem mro_none : PySem.fastBuiltinMro "NoneType" = some [.type "NoneType", .type "object"] := by decide +kernel
theorem mro_str : PySem.fastBuiltinMro "str" = some [.type "str", .type "object"] := by decide +kernel
theorem mro_int : PySem.fastBuiltinMro "int" = some [.type "int", .type "object"] := by decide +kernel
theorem kit_other {K : PySem.W.Frag} {C : Addr} {T : String} (h1 : (PySem.W.clsIn K C).isSome = true) (h2 : PySem.W.typeIn K (.ref C) = some (.type "type")) (h3 : PySem.fastBuiltinMro T = some [.type T, .type "object"]) : PySem.W.kitOne K (.type T) (.ref C) = some false := by
  unfold PySem.W.kitOne PySem.W.kitCls
  rw [if_neg (by simp)]
  show (if ((PySem.W.clsIn K C).isSome && PySem.W.typeIn K (.ref C) == some (.type "type")) = true then PySem.W.subIn K (.type T) (.ref C) else none) = some false
  rw [h1, h2, if_pos (by simp)]
  show (PySem.fastBuiltinMro T).map (·.contains (.ref C)) = some false
  rw [h3]
  simp
theorem kit_self {K : PySem.W.Frag} {C : Addr} : PySem.W.kitOne K (.ref C) (.ref C) = some true := by
  unfold PySem.W.kitOne
  simp
section
variable {P : Program} {w : World} {K : PySem.W.Frag} {mg : Str → Option Value} {base : Heap}
/-! ### __eq__ -/
theorem scEq : FnScope ["self", "other"] ["self", "other"] (defScope sEq) := ⟨rfl, rfl, rfl, by decide +kernel, rfl, by decide +kernel, by decide +kernel⟩
def spEq (K : PySem.W.Frag) (C : Addr) : Sp := fun vs H Q _ => ∃ (p : Addr) (v : V) (ns : List Int) (ps : List (List Int)), vs = [.ref p, v] ∧ RuleAt K C H p ns ps ∧
  ((∃ (q : Addr) (ns' : List Int) (ps' : List (List Int)), v = .ref q ∧ RuleAt K C H q ns' ps' ∧ Q (.bl (decide (ns = ns') && decide (ps = ps'))) H) ∨ (∃ t, TyX K H v t ∧ PySem.W.kitOne K t (.ref C) = some false ∧ Q (.bl false) H))
theorem ok_eq {f C : Addr} {fd : FuncData} (F : Fun K "__eq__" "Rule.__eq__" sEq f fd) (T : Txt K mg C) (B : Bare mg) : FnOk P w K mg base CX0 1 f fd ["self", "other"] (spEq K C) := by
  refine F.ok scEq (fun vs H Q E h => ?_) (fun cdv A outer s H vs Q E hr h => ?_)
  · obtain ⟨p, v, ns, ps, rfl, _⟩ := h
    rfl
  · obtain ⟨p, v, ns, ps, rfl, R1, h⟩ := h
    obtain ⟨dx, a, b, t, h1, h2, h3, h4⟩ := R1.ex
    refine ⟨_, pss_one (ps_ret (pe_and (pe_callB call_isi (by rfl) B.isinstance (by decide +kernel) (pa_cons (pv 1) (pa_cons (pe_glob (v := .ref C) rfl T.mgC rfl) pa_nil)))
      (pe_and (pe_cmpR (op_eqI1 hr.units) (pe_fld (pv 0) rfl) (pe_fld (pv 1) rfl) (nomark _)) (pe_one (pe_cmpR (op_eqTs hr.units) (pe_fld (pv 0) rfl) (pe_fld (pv 1) rfl) (nomark _)))))), ?_⟩
    rcases h with ⟨q, ns', ps', rfl, R2, k⟩ | ⟨ty, hty, hk, k⟩
    · obtain ⟨dx', a', b', t', g1, g2, g3, g4⟩ := R2.ex
      refine ⟨.ref q, rfl, .ref q, .ref C, _, _, true, rfl, .own C, .base (.ins g1 T.cl T.c1 T.c2 T.c3 T.c4), T.c5, true, rfl, iteT ?_⟩
      refine ⟨.ref p, rfl, p, C, dx, _, _, rfl, h1, T.cl, T.nM, flds_m _ _ _, .ref q, rfl, q, C, dx', _, _, rfl, g1, T.cl, T.nM, flds_m _ _ _, a, a', ns, ns', rfl, rfl, h2, g2, _, rfl, ?_⟩
      by_cases e : ns = ns'
      · rw [decide_eq_true e] at k ⊢
        refine iteT ⟨.ref p, rfl, p, C, dx, _, _, rfl, h1, T.cl, T.nS, flds_s _ _ _, .ref q, rfl, q, C, dx', _, _, rfl, g1, T.cl, T.nS, flds_s _ _ _, b, b', ps, ps', rfl, rfl, h3, g3, ?_⟩
        rw [Bool.true_and] at k
        exact k
      · rw [decide_eq_false e] at k ⊢
        rw [Bool.false_and] at k
        exact iteF k
    · exact ⟨v, rfl, v, .ref C, _, _, false, rfl, .own C, hty, hk, false, rfl, iteF k⟩
/-! ### marks, mirror, behind -/
theorem scMarksM : FnScope ["self"] ["self"] (defScope sMarksM) := ⟨rfl, rfl, rfl, by decide +kernel, rfl, by decide +kernel, by decide +kernel⟩
def spMarksM (K : PySem.W.Frag) (C : Addr) : Sp := fun vs H Q _ => ∃ (p : Addr) (ns : List Int) (ps : List (List Int)), vs = [.ref p] ∧ RuleAt K C H p ns ps ∧ Q (.int (ns.length : Int)) H
theorem ok_marksM {f C : Addr} {fd : FuncData} (F : Fun K "marks" "Rule.marks" sMarksM f fd) (T : Txt K mg C) (B : Bare mg) : FnOk P w K mg base CX0 1 f fd ["self"] (spMarksM K C) := by
  refine F.ok scMarksM (fun vs H Q E h => ?_) (fun cdv A outer s H vs Q E hr h => ?_)
  · obtain ⟨p, ns, ps, rfl, _⟩ := h
    rfl
  · obtain ⟨p, ns, ps, rfl, R1, k⟩ := h
    obtain ⟨dx, a, b, t, h1, h2, h3, h4⟩ := R1.ex
    refine ⟨_, pss_one (ps_ret (pe_callB call_len_seq (by rfl) B.len PySem.boot_len (pa_cons (pe_fld (pv 0) rfl) pa_nil))), ?_⟩
    refine ⟨.ref p, rfl, p, C, dx, _, _, rfl, h1, T.cl, T.nM, flds_m _ _ _, a, _, rfl, .inr h2, ?_⟩
    rw [List.length_map]; exact k
theorem scMirrorM : FnScope ["self", "mark"] ["self", "mark"] (defScope sMirrorM) := ⟨rfl, rfl, rfl, by decide +kernel, rfl, by decide +kernel, by decide +kernel⟩
def spMirrorM (K : PySem.W.Frag) (C : Addr) : Sp := fun vs H Q _ => ∃ (p : Addr) (ns : List Int) (ps : List (List Int)) (i : Nat) (x : Int), vs = [.ref p, .int (i : Int)] ∧ RuleAt K C H p ns ps ∧ ns[i]? = some x ∧ Q (.int x) H
theorem ok_mirrorM {f C : Addr} {fd : FuncData} (F : Fun K "mirror" "Rule.mirror" sMirrorM f fd) (T : Txt K mg C) : FnOk P w K mg base CX0 1 f fd ["self", "mark"] (spMirrorM K C) := by
  refine F.ok scMirrorM (fun vs H Q E h => ?_) (fun cdv A outer s H vs Q E hr h => ?_)
  · obtain ⟨p, ns, ps, i, x, rfl, _⟩ := h
    rfl
  · obtain ⟨p, ns, ps, i, x, rfl, R1, e, k⟩ := h
    obtain ⟨dx, a, b, t, h1, h2, h3, h4⟩ := R1.ex
    refine ⟨_, pss_one (ps_ret (pe_ix ix_tup (pe_fld (pv 0) rfl) (pv 1) (fun _ _ => rfl))), ?_⟩
    exact ⟨.ref p, rfl, p, C, dx, _, _, rfl, h1, T.cl, T.nM, flds_m _ _ _, .int (i : Int), rfl, a, _, _, _, rfl, rfl, h2, atI_nat (by rw [List.getElem?_map, e]; rfl), k⟩
theorem n4 : ¬ (("followers" : Str) = "steps") := by decide +kernel
theorem flds_f (a b t : Addr) : (flds a b t).lookup ("followers" : Str) = some (.ref t) := by
  unfold flds
  rw [lookup_putF, if_pos rfl]
theorem scBehindM : FnScope ["self", "mark"] ["self", "mark"] (defScope sBehindM) := ⟨rfl, rfl, rfl, by decide +kernel, rfl, by decide +kernel, by decide +kernel⟩
def spBehindM (K : PySem.W.Frag) (C : Addr) : Sp := fun vs H Q _ => ∃ (p : Addr) (ns : List Int) (ps : List (List Int)) (i : Nat), vs = [.ref p, .int (i : Int)] ∧ RuleAt K C H p ns ps ∧ i < ns.length ∧ ∀ c, SqT K H c ((behindOf ps (i : Int)).map V.int) → Q (.ref c) H
theorem ok_behindM {f C : Addr} {fd : FuncData} (F : Fun K "behind" "Rule.behind" sBehindM f fd) (T : Txt K mg C) : FnOk P w K mg base CX0 1 f fd ["self", "mark"] (spBehindM K C) := by
  refine F.ok scBehindM (fun vs H Q E h => ?_) (fun cdv A outer s H vs Q E hr h => ?_)
  · obtain ⟨p, ns, ps, i, rfl, _⟩ := h
    rfl
  · obtain ⟨p, ns, ps, i, rfl, R1, hi, k⟩ := h
    obtain ⟨dx, a, b, t, h1, h2, h3, h4⟩ := R1.ex
    obtain ⟨ks, e1, e2, e3⟩ := h4
    refine ⟨_, pss_one (ps_ret (pe_ix ix_tup (pe_fld (pv 0) rfl) (pv 1) (fun _ _ => rfl))), ?_⟩
    have hkl : ks.length = ns.length := by
      have z := congrArg List.length e1
      rw [List.length_map] at z
      rw [z]; unfold follow; rw [List.length_map, List.length_range]
    have hk : i < ks.length := by omega
    have e4 : (ks.map (·.2))[i]? = some ks[i].2 := by rw [List.getElem?_map, List.getElem?_eq_getElem hk]; rfl
    have e5 : ks[i].2 = behindOf ps (i : Int) := by
      rw [e1] at e4
      unfold follow at e4
      rw [List.getElem?_map, List.getElem?_range hi] at e4
      exact (Option.some.inj e4).symm
    refine ⟨.ref p, rfl, p, C, dx, _, _, rfl, h1, T.cl, T.nF, flds_f _ _ _, .int (i : Int), rfl, t, _, _, .ref ks[i].1, rfl, rfl, e2, atI_nat (by rw [List.getElem?_map, List.getElem?_eq_getElem hk]; rfl), k _ ?_⟩
    rw [← e5]; exact e3 _ (List.getElem_mem hk)
/-- what a call Rule(a, b) comes to -/
theorem make_rule {C a b x dx : Addr} {H : Hp} {Qh : Hp → Prop} {E : XK} {ns : List Int} {ps : List (List Int)} (hA : SqT K H a (ns.map V.int)) (hB : Tups K H b ps) (hM : Mir ns) (hS : Stp ns ps) (nx : H x = none) (nd : H dx = none) (ne : dx ≠ x)
    (k : ∀ H', Same H H' → RuleAt K C H' x ns ps → Qh H') :
    spInit K C (.ref x :: ([.ref a, .ref b] ++ [])) (upd (upd H dx (.own x)) x (.ins C dx [])) (fun v H2 => v = .non ∧ Qh H2) E := by
  have s0 : Same H (upd (upd H dx (.own x)) x (.ins C dx [])) := fun c o e => by
    rw [upd_ne (ne_of_none e nx), upd_ne (ne_of_none e nd)]; exact e
  refine ⟨x, dx, a, b, ns, ps, rfl, upd_same, sqT_same s0 hA, hB.same s0, hM, hS, fun H' t k1 k2 k3 => ⟨rfl, ?_⟩⟩
  have s1 : Same H H' := fun c o e => k1 c o (s0 c o e) (ne_of_none e nx)
  exact k H' s1 ⟨dx, a, b, t, k2, sqT_same s1 hA, hB.same s1, k3⟩
end
end K6
set_option maxHeartbeats 4000000
namespace K6
open PySem PySem.Spec PyProof.Rows L2 RV
def idM (m : Nat) : List Int := rgI 0 (m : Int)
def owM (m : Nat) : List Int := rgI (m : Int) (2 * (m : Int)) ++ rgI 0 (m : Int)
theorem idM_len (m : Nat) : (idM m).length = m := by unfold idM; rw [rgI_len]; omega
theorem owM_len (m : Nat) : (owM m).length = 2 * m := by unfold owM; rw [List.length_append, rgI_len, rgI_len]; omega
theorem idM_get {m k : Nat} {x : Int} : (idM m)[k]? = some x ↔ k < m ∧ x = (k : Int) := by
  unfold idM
  rw [rgI_get]
  constructor <;> rintro ⟨h1, h2⟩ <;> exact ⟨by omega, by omega⟩
theorem owM_get {m k : Nat} {x : Int} : (owM m)[k]? = some x ↔ (k < m ∧ x = (m : Int) + (k : Int)) ∨ (m ≤ k ∧ k < 2 * m ∧ x = (k : Int) - (m : Int)) := by
  unfold owM
  by_cases h : k < m
  · rw [List.getElem?_append_left (by rw [rgI_len]; omega), rgI_get]
    constructor
    · rintro ⟨h1, h2⟩; exact .inl ⟨h, h2⟩
    · rintro (⟨h1, h2⟩ | ⟨h1, _⟩)
      · exact ⟨by omega, h2⟩
      · omega
  · rw [List.getElem?_append_right (by rw [rgI_len]; omega), rgI_len, rgI_get]
    constructor
    · rintro ⟨h1, h2⟩; exact .inr ⟨by omega, by omega, by omega⟩
    · rintro (⟨h1, h2⟩ | ⟨h1, h2, h3⟩)
      · omega
      · exact ⟨by omega, by omega⟩
theorem mem_at {l : List Int} {x : Int} (h : x ∈ l) : ∃ k : Nat, l[k]? = some x := by
  obtain ⟨k, hk, e⟩ := List.getElem_of_mem h
  exact ⟨k, by rw [List.getElem?_eq_getElem hk, e]⟩
theorem mir_id {m : Nat} (h1 : 1 ≤ m) (h2 : m ≤ 8) : Mir (idM m) := by
  refine ⟨by rw [idM_len]; omega, by rw [idM_len]; omega, fun i hi => ?_, fun k x hk => ?_⟩
  · obtain ⟨k, hk⟩ := mem_at hi
    rw [idM_get] at hk
    rw [idM_len]; omega
  · rw [idM_get] at hk ⊢
    omega
theorem mir_ow {m : Nat} (h1 : 1 ≤ m) (h2 : m ≤ 4) : Mir (owM m) := by
  refine ⟨by rw [owM_len]; omega, by rw [owM_len]; omega, fun i hi => ?_, fun k x hk => ?_⟩
  · obtain ⟨k, hk⟩ := mem_at hi
    rw [owM_get] at hk
    rw [owM_len]; omega
  · rw [owM_get] at hk ⊢
    omega
/-! ### the steps -/
def pPlain (ps : List (List Int)) : Int → Int → Bool := fun i j => decide ([i, j] ∈ ps) || decide ([j, i] ∈ ps)
def pAhead (ps : List (List Int)) : Int → Int → Bool := fun i j => decide ([i, j] ∈ ps)
def pBack (ps : List (List Int)) : Int → Int → Bool := fun i j => decide ([j, i] ∈ ps)
def plainSteps (m : Nat) (ps : List (List Int)) : List (List Int) := gridOf 0 (pPlain ps) m m
def aheadSteps (m : Nat) (ps : List (List Int)) : List (List Int) := gridOf 0 (pAhead ps) m m
def backSteps (m : Nat) (ps : List (List Int)) : List (List Int) := gridOf (m : Int) (pBack ps) m m
theorem mem_plain {m : Nat} {ps : List (List Int)} {x y : Int} : [x, y] ∈ plainSteps m ps ↔ (0 ≤ x ∧ x < (m : Int)) ∧ (0 ≤ y ∧ y < (m : Int)) ∧ ([x, y] ∈ ps ∨ [y, x] ∈ ps) := by
  unfold plainSteps
  rw [mem_grid]
  constructor
  · rintro ⟨i, j, h1, h2, h3, h4⟩
    obtain ⟨e1, e2⟩ : x = 0 + (i : Int) ∧ y = 0 + (j : Int) := by simpa using h4
    rw [Int.zero_add] at e1 e2
    subst e1 e2
    refine ⟨by omega, by omega, ?_⟩
    simpa [pPlain] using h3
  · rintro ⟨hx, hy, h⟩
    have ex : x = ((x.toNat : Nat) : Int) := by omega
    have ey : y = ((y.toNat : Nat) : Int) := by omega
    refine ⟨x.toNat, y.toNat, by omega, by omega, ?_, by rw [Int.zero_add, Int.zero_add, ← ex, ← ey]⟩
    rw [← ex, ← ey]
    simpa [pPlain] using h
theorem mem_ahead {m : Nat} {ps : List (List Int)} {x y : Int} : [x, y] ∈ aheadSteps m ps ↔ (0 ≤ x ∧ x < (m : Int)) ∧ (0 ≤ y ∧ y < (m : Int)) ∧ [x, y] ∈ ps := by
  unfold aheadSteps
  rw [mem_grid]
  constructor
  · rintro ⟨i, j, h1, h2, h3, h4⟩
    obtain ⟨e1, e2⟩ : x = 0 + (i : Int) ∧ y = 0 + (j : Int) := by simpa using h4
    rw [Int.zero_add] at e1 e2
    subst e1 e2
    refine ⟨by omega, by omega, ?_⟩
    simpa [pAhead] using h3
  · rintro ⟨hx, hy, h⟩
    have ex : x = ((x.toNat : Nat) : Int) := by omega
    have ey : y = ((y.toNat : Nat) : Int) := by omega
    refine ⟨x.toNat, y.toNat, by omega, by omega, ?_, by rw [Int.zero_add, Int.zero_add, ← ex, ← ey]⟩
    rw [← ex, ← ey]
    simpa [pAhead] using h
theorem mem_back {m : Nat} {ps : List (List Int)} {x y : Int} : [x, y] ∈ backSteps m ps ↔ ((m : Int) ≤ x ∧ x < 2 * (m : Int)) ∧ ((m : Int) ≤ y ∧ y < 2 * (m : Int)) ∧ [y - (m : Int), x - (m : Int)] ∈ ps := by
  unfold backSteps
  rw [mem_grid]
  constructor
  · rintro ⟨i, j, h1, h2, h3, h4⟩
    obtain ⟨e1, e2⟩ : x = (m : Int) + (i : Int) ∧ y = (m : Int) + (j : Int) := by simpa using h4
    subst e1 e2
    refine ⟨by omega, by omega, ?_⟩
    rw [show (m : Int) + (j : Int) - (m : Int) = (j : Int) by omega, show (m : Int) + (i : Int) - (m : Int) = (i : Int) by omega]
    simpa [pBack] using h3
  · rintro ⟨hx, hy, h⟩
    have ex : x = (m : Int) + (((x - (m : Int)).toNat : Nat) : Int) := by omega
    have ey : y = (m : Int) + (((y - (m : Int)).toNat : Nat) : Int) := by omega
    refine ⟨(x - (m : Int)).toNat, (y - (m : Int)).toNat, by omega, by omega, ?_, by rw [← ex, ← ey]⟩
    rw [show (((x - (m : Int)).toNat : Nat) : Int) = x - (m : Int) by omega, show (((y - (m : Int)).toNat : Nat) : Int) = y - (m : Int) by omega]
    simpa [pBack] using h
theorem plain_pr {m : Nat} (h : m ≤ 8) {ps : List (List Int)} : ∀ p ∈ plainSteps m ps, Pr (m : Int) p := grid_pr (by omega) (by omega) (by omega)
theorem plain_rise {m : Nat} (h : m ≤ 8) {ps : List (List Int)} : (plainSteps m ps).Pairwise fun p q => cd p < cd q := grid_rise (by omega) (by omega)
theorem one_pr {m : Nat} (h : m ≤ 4) {ps : List (List Int)} : ∀ p ∈ aheadSteps m ps ++ backSteps m ps, Pr (2 * (m : Int)) p := by
  intro p hp
  rcases List.mem_append.mp hp with z | z
  · exact (grid_pr (b := (m : Int)) (by omega) (by omega) (by omega) p z).mono (by omega)
  · exact grid_pr (by omega) (by omega) (by omega) p z
theorem one_rise {m : Nat} (h : m ≤ 4) {ps : List (List Int)} : (aheadSteps m ps ++ backSteps m ps).Pairwise fun p q => cd p < cd q := by
  rw [List.pairwise_append]
  refine ⟨grid_rise (by omega) (by omega), grid_rise (by omega) (by omega), fun p hp q hq => ?_⟩
  obtain ⟨i, j, h1, h2, _, rfl⟩ := mem_grid.mp hp
  obtain ⟨i', j', h3, h4, _, rfl⟩ := mem_grid.mp hq
  rw [cd_pair, cd_pair]; omega
theorem stp_plain {m : Nat} (h1 : 1 ≤ m) (h2 : m ≤ 8) (ps : List (List Int)) : Stp (idM m) (plainSteps m ps) := by
  refine ⟨?_, fun p hp => ?_, adj_rise (fun p hp => (plain_pr h2 p hp).mono (by omega)) (plain_rise h2), fun x y mx my h hx hy => ?_, (plain_rise h2).imp fun h e => by rw [e] at h; exact Int.lt_irrefl _ h⟩
  · have h := grid_len 0 (pPlain ps) m m
    have h3 : m * m ≤ 8 * 8 := Nat.mul_le_mul h2 h2
    exact Nat.le_trans h h3
  · rw [idM_len]; exact plain_pr h2 p hp
  · rw [mem_plain] at h
    rw [idM_get] at hx hy
    have e1 : mx = x := by omega
    have e2 : my = y := by omega
    subst e1 e2
    exact mem_plain.mpr ⟨h.2.1, h.1, h.2.2.symm⟩
theorem stp_one {m : Nat} (h1 : 1 ≤ m) (h2 : m ≤ 4) (ps : List (List Int)) : Stp (owM m) (aheadSteps m ps ++ backSteps m ps) := by
  refine ⟨?_, fun p hp => ?_, adj_rise (fun p hp => (one_pr h2 p hp).mono (by omega)) (one_rise h2), fun x y mx my h hx hy => ?_, (one_rise h2).imp fun h e => by rw [e] at h; exact Int.lt_irrefl _ h⟩
  · have h := grid_len 0 (pAhead ps) m m
    have h' := grid_len (m : Int) (pBack ps) m m
    have h3 : m * m ≤ 4 * 4 := Nat.mul_le_mul h2 h2
    rw [List.length_append]
    show (gridOf 0 (pAhead ps) m m).length + (gridOf (m : Int) (pBack ps) m m).length ≤ 64
    omega
  · obtain ⟨x, y, e, hx, hy⟩ := one_pr h2 p hp
    rw [owM_len]
    exact ⟨x, y, e, by omega, by omega⟩
  · rw [List.mem_append] at h ⊢
    rw [owM_get] at hx hy
    rcases h with h | h
    · rw [mem_ahead] at h
      obtain ⟨a1, a2, a3⟩ := h
      have e1 : mx = (m : Int) + x := by omega
      have e2 : my = (m : Int) + y := by omega
      subst e1 e2
      refine .inr (mem_back.mpr ⟨by omega, by omega, ?_⟩)
      rw [show (m : Int) + x - (m : Int) = x by omega, show (m : Int) + y - (m : Int) = y by omega]
      exact a3
    · rw [mem_back] at h
      obtain ⟨a1, a2, a3⟩ := h
      have e1 : mx = x - (m : Int) := by omega
      have e2 : my = y - (m : Int) := by omega
      subst e1 e2
      exact .inl (mem_ahead.mpr ⟨by omega, by omega, a3⟩)
/-! ### what sorted(set(..)) gives -/
def swp (p : List Int) : List Int := [p.getD 1 0, p.getD 0 0]
def shf (m : Int) (p : List Int) : List Int := [p.getD 1 0 + m, p.getD 0 0 + m]
theorem got_plain {m : Nat} (h2 : m ≤ 8) {ps L : List (List Int)} (hp : ∀ p ∈ ps, Pr (m : Int) p) (nd : L.Nodup) (srt : L.Pairwise fun p q => cd p ≤ cd q) (sub : ∀ p ∈ L, p ∈ ps ++ ps.map swp) (all : ∀ p ∈ ps ++ ps.map swp, p ∈ L) : L = plainSteps m ps := by
  have hb : ∀ p ∈ ps ++ ps.map swp, Pr (m : Int) p := by
    intro p h
    rcases List.mem_append.mp h with z | z
    · exact hp p z
    · obtain ⟨q, hq, rfl⟩ := List.mem_map.mp z
      obtain ⟨x, y, rfl, hx, hy⟩ := hp q hq
      exact ⟨y, x, rfl, hy, hx⟩
  refine sorted_eq (f := cd) (sorted_lt (fun p h => (hb p (sub p h)).mono (by omega)) nd srt) (plain_rise h2) fun p => ⟨fun h => ?_, fun h => ?_⟩
  · have h' := sub p h
    obtain ⟨x, y, rfl, hx, hy⟩ := hb p h'
    refine mem_plain.mpr ⟨hx, hy, ?_⟩
    rcases List.mem_append.mp h' with z | z
    · exact .inl z
    · obtain ⟨q, hq, e⟩ := List.mem_map.mp z
      obtain ⟨x', y', rfl, _⟩ := hp q hq
      have e' : ([y', x'] : List Int) = [x, y] := e
      injection e' with e1 e2
      injection e2 with e2 _
      subst e1 e2
      exact .inr hq
  · obtain ⟨x, y, rfl, _⟩ := plain_pr h2 p h
    rw [mem_plain] at h
    refine all _ (List.mem_append.mpr ?_)
    rcases h.2.2 with z | z
    · exact .inl z
    · exact .inr (List.mem_map.mpr ⟨[y, x], z, rfl⟩)
theorem got_one {m : Nat} (h2 : m ≤ 4) {ps L : List (List Int)} (hp : ∀ p ∈ ps, Pr (m : Int) p) (nd : L.Nodup) (srt : L.Pairwise fun p q => cd p ≤ cd q) (sub : ∀ p ∈ L, p ∈ ps ++ ps.map (shf m)) (all : ∀ p ∈ ps ++ ps.map (shf m), p ∈ L) : L = aheadSteps m ps ++ backSteps m ps := by
  have hb : ∀ p ∈ ps ++ ps.map (shf m), Pr (2 * (m : Int)) p := by
    intro p h
    rcases List.mem_append.mp h with z | z
    · exact (hp p z).mono (by omega)
    · obtain ⟨q, hq, rfl⟩ := List.mem_map.mp z
      obtain ⟨x, y, rfl, hx, hy⟩ := hp q hq
      exact ⟨y + m, x + m, rfl, by omega, by omega⟩
  refine sorted_eq (f := cd) (sorted_lt (fun p h => (hb p (sub p h)).mono (by omega)) nd srt) (one_rise h2) fun p => ⟨fun h => ?_, fun h => ?_⟩
  · have h' := sub p h
    rcases List.mem_append.mp h' with z | z
    · obtain ⟨x, y, rfl, hx, hy⟩ := hp p z
      exact List.mem_append.mpr (.inl (mem_ahead.mpr ⟨hx, hy, z⟩))
    · obtain ⟨q, hq, rfl⟩ := List.mem_map.mp z
      obtain ⟨x, y, rfl, hx, hy⟩ := hp q hq
      refine List.mem_append.mpr (.inr (mem_back (x := y + m) (y := x + m) |>.mpr ⟨by omega, by omega, ?_⟩))
      rw [show y + (m : Int) - (m : Int) = y by omega, show x + (m : Int) - (m : Int) = x by omega]
      exact hq
  · refine all _ (List.mem_append.mpr ?_)
    rcases List.mem_append.mp h with z | z
    · obtain ⟨i, j, _, _, _, rfl⟩ := mem_grid.mp z
      exact .inl (mem_ahead.mp z).2.2
    · obtain ⟨i, j, _, _, _, rfl⟩ := mem_grid.mp z
      have z2 := (mem_back.mp z).2.2
      refine .inr (List.mem_map.mpr ⟨_, z2, ?_⟩)
      show [(m : Int) + (i : Int) - m + m, (m : Int) + (j : Int) - m + m] = [(m : Int) + (i : Int), (m : Int) + (j : Int)]
      rw [show (m : Int) + (i : Int) - m + m = (m : Int) + (i : Int) by omega, show (m : Int) + (j : Int) - m + m = (m : Int) + (j : Int) by omega]
/-- pairs of marks below m, drawn: at most eleven and these turned about -/
structure Drw (m : Nat) (ps : List (List Int)) : Prop where
  pr : ∀ p ∈ ps, Pr (m : Int) p
  len : ps.length ≤ 33
  ex : ∃ bs : List (List Int), bs.length ≤ 11 ∧ ∀ p ∈ ps, p ∈ bs ∨ p ∈ bs.map swp
theorem drw_all {m : Nat} {ps : List (List Int)} (d : Drw m ps) : ∃ us : List (List Int), us.length ≤ 22 ∧ ∀ p ∈ ps, p ∈ us := by
  obtain ⟨bs, h1, h2⟩ := d.ex
  refine ⟨bs ++ bs.map swp, by rw [List.length_append, List.length_map]; omega, fun p hp => List.mem_append.mpr (h2 p hp)⟩
theorem few_by {ks : List (Addr × List Int)} {us : List (List Int)} (h : us.length ≤ 60) (hs : ∀ p ∈ ks, p.2 ∈ us) : FewUnlike ks := by
  intro L nd sub
  have := nodup_le nd fun x hx => by
    obtain ⟨p, hp, rfl⟩ := List.mem_map.mp hx
    exact hs p (sub p hp)
  rw [List.length_map] at this
  omega
section
variable {P : Program} {w : World} {K : PySem.W.Frag} {mg : Str → Option Value} {base : Heap}
/-- a new Rule of these -/
def newRule (K : PySem.W.Frag) (C : Addr) (H : Hp) (Q : VK) (ns : List Int) (ps : List (List Int)) : Prop := ∀ H' p, Same H H' → RuleAt K C H' p ns ps → Q (.ref p) H'
/-! ### plain_rule -/
theorem scPlain : FnScope ["many", "pairs", "both_ways", "a", "b"] ["many", "pairs"] (defScope sPlain) := ⟨rfl, rfl, rfl, by decide +kernel, rfl, by decide +kernel, by decide +kernel⟩
def spPlain (K : PySem.W.Frag) (C : Addr) : Sp := fun vs H Q _ => ∃ (m : Nat) (t : Addr) (ps : List (List Int)), vs = [.int (m : Int), .ref t] ∧ 1 ≤ m ∧ m ≤ 8 ∧ Tups K H t ps ∧ Drw m ps ∧ newRule K C H Q (idM m) (plainSteps m ps)
theorem ok_plain {f fI C : Addr} {fd fdI : FuncData} (F : Fun K "plain_rule" "plain_rule" sPlain f fd) (T : Txt K mg C) (M : Mk K C fI) (bI : Binds K fdI ["self", "mirrors", "steps"] []) (GI : FnOk P w K mg base CX0 6 fI fdI ["self", "mirrors", "steps"] (spInit K C)) (B : Bare mg) :
    FnOk P w K mg base CX0 8 f fd ["many", "pairs"] (spPlain K C) := by
  refine F.ok scPlain (fun vs H Q E h => ?_) (fun cdv A outer s H vs Q E hr h => ?_)
  · obtain ⟨m, t, ps, rfl, _⟩ := h
    rfl
  · obtain ⟨m, t, ps, rfl, m1, m8, hTT, hD, q⟩ := h
    have hTT0 := hTT
    obtain ⟨ks, rfl, hT, hks⟩ := hTT
    have h33 := hD.len
    rw [List.length_map] at h33
    refine ⟨_, pss_cons (ps_set (i := 2) scPlain.nd rfl (Or.inl rfl) (pe_op op_cat (pe_callTy call_list_of (by rfl) B.list (by decide +kernel) (pa_cons (pv 1) pa_nil))
        (pe_lc (own := [("a", 3), ("b", 4)]) (g := gTup K 2 (gCons (gName 3) (gCons (gName 4) gNil))) (tt := tYes) rfl scPlain.nd (pi_tup (pv 1)) (blkOk_by (N := ["many", "pairs", "both_ways", "a", "b"]) (sc := defScope sPlain) (by decide +kernel))
          (fun _ _ _ _ _ => pg_tupK rfl rfl (pgs_cons (pg_name (i := 3) scPlain.nd rfl (Or.inl rfl)) (pgs_cons (pg_name (i := 4) scPlain.nd rfl (Or.inl rfl)) pgs_nil))) (fun _ _ _ _ _ => pts_nil)
          (fun _ _ _ _ _ => pe_tup (pa_cons (pv 4) (pa_cons (pv 3) pa_nil))))))
      (pss_one (ps_ret (pe_make M GI hr (by rfl) T.mgC bI .nil pass0 (pa_cons (pe_tupRg rfl (by rfl) B.tuple (prg_1 (by rfl) B.range (pv 0)))
        (pa_cons (pe_tupleOf (by rfl) B.tuple (pe_callB (cr_sortedT rfl) (by rfl) B.sorted (by decide +kernel) (pa_cons (pe_callTy (cr_setN rfl hr.units) (by rfl) B.set (by decide +kernel) (pa_cons (pv 2) pa_nil)) pa_nil))) pa_nil))))), ?_⟩
    -- list(pairs)
    refine ⟨.ref t, rfl, t, _, rfl, .inr hT, fun l nl => ?_⟩
    have s1 : Same H (upd H l (.lst (ks.map fun p => V.ref p.1))) := same_upd nl
    -- [(b, a) for a, b in pairs]
    refine ⟨.ref t, rfl, t, rfl, ⟨_, sqT_same s1 hT⟩, fun D nD => ?_⟩
    have hlD : l ≠ D := ne_of_none (upd_same) nD
    refine lc_tup (K := K) (a := t) (xs := ks.map fun p => V.ref p.1) (fun i H' => Same (upd H l (.lst (ks.map fun p => V.ref p.1))) H' ∧ ∃ js : List (Addr × List Int), js.map (·.2) = ((ks.map (·.2)).take i).map swp ∧ H' D = some (.lst (js.map fun p => V.ref p.1)) ∧ ∀ q ∈ js, H' q.1 = some (.tup (q.2.map V.int)))
      ⟨same_upd nD, [], rfl, upd_same, fun _ z => nomatch z⟩ (fun i H' _ p => sqT_same p.1 (sqT_same s1 hT)) (fun i x H' hx p => ?_) fun H2 p => ?_
    · obtain ⟨k, g, rfl⟩ := map_at hx
      have hk : k ∈ ks := List.mem_of_getElem? g
      have hi : i < ks.length := (List.getElem?_eq_some_iff.mp g).1
      obtain ⟨s2, js, e1, e2, e3⟩ := p
      obtain ⟨x, y, e, _⟩ := hD.pr k.2 (List.mem_map_of_mem hk)
      have hkT : SqT K H' k.1 ([x, y].map V.int) := by rw [← e]; exact sqT_same (s1.trans s2) (hks k hk)
      have gi : (ks.map (·.2))[i]? = some [x, y] := by rw [List.getElem?_map, g, ← e]; rfl
      have hjl : js.length = i := by
        have z := congrArg List.length e1
        rw [List.length_map, List.length_map, List.length_take, List.length_map] at z
        omega
      refine ⟨k.1, _, rfl, hkT, rfl, _, _, rfl, _, _, rfl, rfl, rfl, tt_yes ⟨.int y, rfl, .int x, rfl, (by show 2 ≤ sizeLine; decide), fun U nU => ⟨_, (same_upd nU) _ _ e2, ?_, ?_, ?_⟩⟩⟩
      · rw [List.length_map]; exact few1 (by omega)
      · exact fun c o z => by rw [upd_ne (ne_of_none z nD)]; exact same_upd nU c o (s2 c o z)
      · have hUD : D ≠ U := ne_of_none e2 nU
        refine ⟨js ++ [(U, [y, x])], ?_, ?_, fun q hq => ?_⟩
        · rw [List.map_append, e1, List.take_add_one, gi, List.map_append]; rfl
        · rw [upd_same, List.map_append]; rfl
        · rcases List.mem_append.mp hq with z | z
          · have e4 := e3 q z
            have n1 : q.1 ≠ D := ne_of e4 e2 (by intro z; cases z)
            rw [upd_ne n1]; exact same_upd nU _ _ e4
          · rw [List.mem_singleton.mp z]
            show (upd (upd H' U (.tup [.int y, .int x])) D _) U = _
            rw [upd_ne hUD.symm, upd_same]; rfl
    · obtain ⟨s2, js, e1, e2, e3⟩ := p
      rw [List.length_map, List.take_of_length_le (by rw [List.length_map]; exact Nat.le_refl _)] at e1
      have hjl : js.length = ks.length := by
        have z := congrArg List.length e1
        rwa [List.length_map, List.length_map, List.length_map] at z
      have el := s2 _ _ (upd_same (H := H) (a := l) (o := .lst (ks.map fun p => V.ref p.1)))
      refine ⟨l, D, _, _, rfl, rfl, el, e2, ?_, fun o no => ?_⟩
      · rw [List.length_map, List.length_map, hjl]; exact Nat.le_of_lt (few1 (by omega))
      have s3 : Same H2 (upd H2 o (.lst ((ks.map fun p => V.ref p.1) ++ (js.map fun p => V.ref p.1)))) := same_upd no
      have s03 := (s1.trans s2).trans s3
      -- Rule(tuple(range(many)), ..)
      refine ⟨.int (m : Int), rfl, (m : Int), rfl, RgOk.of_le (by omega) (by omega) (by omega) (by omega), fun c nc => ?_⟩
      have s4 : Same (upd H2 o (.lst ((ks.map fun p => V.ref p.1) ++ (js.map fun p => V.ref p.1)))) (upd (upd H2 o (.lst ((ks.map fun p => V.ref p.1) ++ (js.map fun p => V.ref p.1)))) c (.tup (rgV 0 (m : Int)))) := same_upd nc
      have s04 := s03.trans s4
      have s24 := s3.trans s4
      generalize e5 : upd (upd H2 o (.lst ((ks.map fun p => V.ref p.1) ++ (js.map fun p => V.ref p.1)))) c (.tup (rgV 0 (m : Int))) = H4 at s4 s04 s24 ⊢
      have hc4 : H4 c = some (.tup ((idM m).map V.int)) := by rw [← e5, upd_same]; unfold idM; rw [rgV_rgI]
      have ho4 : H4 o = some (.lst ((ks ++ js).map fun p => V.ref p.1)) := by
        rw [s4 _ _ upd_same, List.map_append]
      have tk : ∀ p ∈ ks ++ js, SqT K H4 p.1 (p.2.map V.int) := fun p hp => by
        rcases List.mem_append.mp hp with z | z
        · exact sqT_same s04 (hks p z)
        · exact tupNew (s24 _ _ (e3 p z))
      have kk : (ks ++ js).map (·.2) = ks.map (·.2) ++ (ks.map (·.2)).map swp := by rw [List.map_append, e1]
      -- sorted(set(both_ways))
      refine ⟨.ref o, rfl, o, ks ++ js, rfl, lstNew ho4, tk, ?_, fun S L nS hsub hall => ?_⟩
      · obtain ⟨us, u1, u2⟩ := drw_all hD
        refine few_by (us := us ++ us.map swp) (by rw [List.length_append, List.length_map]; omega) fun p hp => ?_
        have hp2 : p.2 ∈ ks.map (·.2) ++ (ks.map (·.2)).map swp := by rw [← kk]; exact List.mem_map_of_mem hp
        rcases List.mem_append.mp hp2 with z | z
        · exact List.mem_append.mpr (.inl (u2 _ z))
        · obtain ⟨r, hr1, hr2⟩ := List.mem_map.mp z
          exact List.mem_append.mpr (.inr (List.mem_map.mpr ⟨r, u2 _ hr1, hr2⟩))
      have s5 : Same H4 (upd H4 S (SetTO P w S L)) := same_upd nS
      have prs : ∀ p ∈ ks.map (·.2) ++ (ks.map (·.2)).map swp, Pr (m : Int) p := by
        intro p hp
        rcases List.mem_append.mp hp with z | z
        · exact hD.pr p z
        · obtain ⟨r, hr1, rfl⟩ := List.mem_map.mp z
          obtain ⟨x, y, rfl, hx, hy⟩ := hD.pr r hr1
          exact ⟨y, x, rfl, hy, hx⟩
      have inL : ∀ p ∈ L, p.2 ∈ ks.map (·.2) ++ (ks.map (·.2)).map swp := fun p hp => by rw [← kk]; exact List.mem_map_of_mem (hsub p hp)
      refine ⟨S, L, 2, 64, rfl, upd_same, fun p hp => sqT_same s5 (tk p (hsub p hp)), by decide, fun p hp => ?_, fun L' z pm nd _ pw nz => ?_⟩
      · obtain ⟨x, y, e, hx, hy⟩ := prs _ (inL p hp)
        rw [e]
        refine ⟨rfl, fun i hi => ?_⟩
        simp only [List.mem_cons, List.not_mem_nil, or_false] at hi
        rcases hi with rfl | rfl <;> omega
      have s6 : Same (upd H4 S (SetTO P w S L)) (upd (upd H4 S (SetTO P w S L)) z (.lst (L'.map fun q => V.ref q.1))) := same_upd nz
      have eL : L'.map (·.2) = plainSteps m (ks.map (·.2)) := by
        refine got_plain m8 hD.pr nd (by rw [List.pairwise_map]; exact pw) (fun p hp => ?_) fun p hp => ?_
        · obtain ⟨r, hr1, rfl⟩ := List.mem_map.mp hp
          exact inL r (pm.mem_iff.mp hr1)
        · rw [← kk] at hp
          obtain ⟨r, hr1, rfl⟩ := List.mem_map.mp hp
          exact (pm.map (·.2)).mem_iff.mpr (hall r hr1)
      -- tuple(..)
      refine .inl ⟨z, _, rfl, lstNew upd_same, fun u nu => ?_⟩
      have s7 := same_upd (o := .tup (L'.map fun q => V.ref q.1)) nu
      have s47 := (s5.trans s6).trans s7
      refine fun x dx nx nd ne => make_rule (ns := idM m) (ps := plainSteps m (ks.map (·.2))) (tupNew (s47 _ _ hc4)) ⟨L', eL, tupNew upd_same, fun p hp => sqT_same s47 (tk p (hsub p (pm.mem_iff.mp hp)))⟩ (mir_id m1 m8) (stp_plain m1 m8 _) nx nd ne fun H' s8 R => ?_
      exact q H' x ((s04.trans s47).trans s8) R
end
end K6
namespace RV
/-! ### rings: runs of marks, by the list of all their marks -/
/-- so many times the word -/
def rp (n : Nat) (w : List Int) : List Int := (List.replicate n w).flatten
theorem rp_zero (w : List Int) : rp 0 w = [] := rfl
theorem rp_succ (n : Nat) (w : List Int) : rp (n + 1) w = w ++ rp n w := by unfold rp; rw [List.replicate_succ, List.flatten_cons]
theorem rp_one (w : List Int) : rp 1 w = w := by rw [rp_succ, rp_zero, List.append_nil]
theorem rp_add (a b : Nat) (w : List Int) : rp (a + b) w = rp a w ++ rp b w := by unfold rp; rw [← List.replicate_append_replicate, List.flatten_append]
theorem rp_len : ∀ (n : Nat) (w : List Int), (rp n w).length = n * w.length
  | 0, w => by rw [rp_zero, Nat.zero_mul]; rfl
  | n + 1, w => by rw [rp_succ, List.length_append, rp_len n w, Nat.succ_mul, Nat.add_comm]
theorem rp_get : ∀ (n : Nat) (w : List Int) (i : Nat), i < n * w.length → (rp n w)[i]? = w[i % w.length]?
  | 0, w, i, h => by rw [Nat.zero_mul] at h; omega
  | n + 1, w, i, h => by
    rw [rp_succ]
    rcases Nat.lt_or_ge i w.length with z | z
    · rw [List.getElem?_append_left z, Nat.mod_eq_of_lt z]
    · rw [List.getElem?_append_right z, rp_get n w _ (by rw [Nat.succ_mul] at h; omega), Nat.mod_eq_sub_mod z]
theorem rp_rev : ∀ (n : Nat) (w : List Int), (rp n w).reverse = rp n w.reverse
  | 0, w => rfl
  | n + 1, w => by rw [rp_succ, List.reverse_append, rp_rev n w, show n + 1 = n + 1 from rfl, rp_add, rp_one]
theorem rp_map (f : Int → Int) : ∀ (n : Nat) (w : List Int), (rp n w).map f = rp n (w.map f)
  | 0, w => rfl
  | n + 1, w => by rw [rp_succ, List.map_append, rp_map f n w, rp_succ]
/-- all marks of the runs -/
def mk : List (Int × List Int) → List Int
  | [] => []
  | r :: rs => rp r.1.toNat r.2 ++ mk rs
theorem mk_app : ∀ (a b : List (Int × List Int)), mk (a ++ b) = mk a ++ mk b
  | [], b => rfl
  | r :: a, b => by show rp r.1.toNat r.2 ++ mk (a ++ b) = rp r.1.toNat r.2 ++ mk a ++ mk b; rw [mk_app a b, List.append_assoc]
theorem mk_one (t : Int) (w : List Int) : mk [(t, w)] = rp t.toNat w := by show rp t.toNat w ++ [] = _; rw [List.append_nil]
/-- how many places a run takes -/
def rl (r : Int × List Int) : Int := r.1 * (r.2.length : Int)
def pl (rs : List (Int × List Int)) : Int := (rs.map rl).sum
theorem pl_cons (r : Int × List Int) (rs : List (Int × List Int)) : pl (r :: rs) = rl r + pl rs := by unfold pl; rw [List.map_cons, List.sum_cons]
theorem pl_app (a b : List (Int × List Int)) : pl (a ++ b) = pl a + pl b := by unfold pl; rw [List.map_append, List.sum_append_int]
/-- runs as rings have them -/
def Rn (rs : List (Int × List Int)) : Prop := ∀ r ∈ rs, 1 ≤ r.1 ∧ r.2 ≠ []
theorem rl_pos {r : Int × List Int} (h : 1 ≤ r.1 ∧ r.2 ≠ []) : 0 < rl r := Int.mul_pos (by omega) (by have := List.length_pos_iff.mpr h.2; omega)
theorem rl_nat {r : Int × List Int} (h : 0 ≤ r.1) : ((r.1.toNat * r.2.length : Nat) : Int) = rl r := by
  unfold rl; rw [Int.natCast_mul, Int.toNat_of_nonneg h]
theorem mk_len : ∀ {rs : List (Int × List Int)}, (∀ r ∈ rs, 0 ≤ r.1) → ((mk rs).length : Int) = pl rs
  | [], _ => rfl
  | r :: rs, h => by
    show (((rp r.1.toNat r.2 ++ mk rs).length : Nat) : Int) = _
    rw [List.length_append, Int.natCast_add, mk_len fun q hq => h q (List.mem_cons_of_mem _ hq), pl_cons, rp_len, rl_nat (h r (List.mem_cons_self ..))]
theorem Rn.nn {rs : List (Int × List Int)} (h : Rn rs) : ∀ r ∈ rs, 0 ≤ r.1 := fun r hr => by have := (h r hr).1; omega
theorem Rn.sub {rs qs : List (Int × List Int)} (h : Rn rs) (s : ∀ q ∈ qs, q ∈ rs) : Rn qs := fun q hq => h q (s q hq)
theorem Rn.pos {rs : List (Int × List Int)} (h : Rn rs) (n : rs ≠ []) : 0 < pl rs := by
  cases rs with
  | nil => exact absurd rfl n
  | cons r rs =>
    have h1 := rl_pos (h r (List.mem_cons_self ..))
    have h2 : 0 ≤ pl rs := by rw [← mk_len (Rn.nn (h.sub fun q hq => List.mem_cons_of_mem _ hq))]; omega
    rw [pl_cons]; omega
theorem pl_nn {rs : List (Int × List Int)} (h : ∀ r ∈ rs, 0 ≤ r.1) : 0 ≤ pl rs := by rw [← mk_len h]; omega
theorem split_at {α : Type} {rs : List α} {a : Nat} {r : α} (h : rs[a]? = some r) : rs = rs.take a ++ r :: rs.drop (a + 1) := by
  have hl := (List.getElem?_eq_some_iff.mp h)
  obtain ⟨hl, e⟩ := hl
  conv => lhs; rw [← List.take_append_drop a rs]
  rw [List.drop_eq_getElem_cons hl, e]
theorem mk_at {rs : List (Int × List Int)} (hn : ∀ r ∈ rs, 0 ≤ r.1) {a : Nat} {r : Int × List Int} (h : rs[a]? = some r) {i : Nat} (hi : (i : Int) < rl r) : (mk rs)[(pl (rs.take a)).toNat + i]? = r.2[i % r.2.length]? := by
  have e := split_at h
  have n1 : ∀ q ∈ rs.take a, 0 ≤ q.1 := fun q hq => hn q (List.mem_of_mem_take hq)
  have l1 := mk_len n1
  have hr0 : 0 ≤ r.1 := hn r (List.mem_of_getElem? h)
  have ln : i < r.1.toNat * r.2.length := by have z := rl_nat (r := r) hr0; omega
  have key : (mk (rs.take a ++ r :: rs.drop (a + 1)))[(pl (rs.take a)).toNat + i]? = r.2[i % r.2.length]? := by
   rw [mk_app]
   show (mk (rs.take a) ++ (rp r.1.toNat r.2 ++ mk (rs.drop (a + 1))))[_]? = _
   rw [List.getElem?_append_right (by omega), show (pl (rs.take a)).toNat + i - (mk (rs.take a)).length = i by omega, List.getElem?_append_left (by rw [rp_len]; exact ln), rp_get _ _ _ ln]
  rw [← e] at key; exact key
/-- the mark at a place, counted on round the ring -/
def mP (l : List Int) (p : Int) : Int := l.getD (p % (l.length : Int)).toNat 0
theorem mP_get {l : List Int} {i : Nat} (h : i < l.length) : mP l (i : Int) = l.getD i 0 := by
  unfold mP; rw [Int.emod_eq_of_lt (by omega) (by omega), Int.toNat_natCast]
theorem mP_mod (l : List Int) (p q : Int) (h : (p - q) % (l.length : Int) = 0) : mP l p = mP l q := by
  unfold mP
  rw [Int.emod_emod_of_dvd p (Int.dvd_refl _) |>.symm, (Int.emod_eq_emod_iff_emod_sub_eq_zero).mpr h, Int.emod_emod_of_dvd q (Int.dvd_refl _)]
theorem mP_add (l : List Int) (p : Int) (k : Int) : mP l (p + (l.length : Int) * k) = mP l p := by
  apply mP_mod
  rw [show p + (l.length : Int) * k - p = (l.length : Int) * k by omega, Int.mul_emod_right]
theorem mP_rest (l : List Int) (p : Int) : mP l (p % (l.length : Int)) = mP l p := by
  apply mP_mod
  rw [Int.sub_emod, Int.emod_emod_of_dvd p (Int.dvd_refl _), Int.sub_self, Int.zero_emod]
/-- a place within: nonneg rest -/
theorem rest_in {l : List Int} (h : l ≠ []) (p : Int) : 0 ≤ p % (l.length : Int) ∧ p % (l.length : Int) < (l.length : Int) := by
  have := List.length_pos_iff.mpr h
  exact ⟨Int.emod_nonneg _ (by omega), Int.emod_lt_of_pos _ (by omega)⟩
theorem mP_rot {A B : List Int} (h : A ++ B ≠ []) (p : Int) : mP (B ++ A) p = mP (A ++ B) (p + (A.length : Int)) := by
  have hl : ((B ++ A).length : Int) = ((A ++ B).length : Int) := by rw [List.length_append, List.length_append]; omega
  have hN : ((A ++ B).length : Int) = (A.length : Int) + (B.length : Int) := by rw [List.length_append]; omega
  have h' : B ++ A ≠ [] := fun z => h (by rw [List.append_eq_nil_iff] at z ⊢; exact ⟨z.2, z.1⟩)
  obtain ⟨i, hi⟩ : ∃ i : Nat, (i : Int) = p % ((B ++ A).length : Int) := ⟨(p % ((B ++ A).length : Int)).toNat, by have := (rest_in h' p).1; omega⟩
  have b := (rest_in h' p).2
  have e1 : mP (B ++ A) p = (B ++ A).getD i 0 := by rw [← mP_rest, ← hi, mP_get (by omega)]
  rw [e1]
  have hm : (p - (i : Int)) % ((A ++ B).length : Int) = 0 := by
    rw [hi, hl, Int.sub_emod, Int.emod_emod_of_dvd p (Int.dvd_refl _), Int.sub_self, Int.zero_emod]
  have e2 : mP (A ++ B) (p + (A.length : Int)) = mP (A ++ B) ((i : Int) + (A.length : Int)) := mP_mod _ _ _ (by rw [show p + (A.length : Int) - ((i : Int) + (A.length : Int)) = p - (i : Int) by omega]; exact hm)
  rw [e2]
  rcases Nat.lt_or_ge i B.length with z | z
  · rw [show (i : Int) + (A.length : Int) = ((A.length + i : Nat) : Int) by omega, mP_get (by rw [List.length_append]; omega), List.getD_eq_getElem?_getD, List.getD_eq_getElem?_getD, List.getElem?_append_left z, List.getElem?_append_right (by omega), show A.length + i - A.length = i by omega]
  · have e3 : mP (A ++ B) ((i : Int) + (A.length : Int)) = mP (A ++ B) ((i - B.length : Nat) : Int) := mP_mod _ _ _ (by
      rw [show (i : Int) + (A.length : Int) - ((i - B.length : Nat) : Int) = ((A ++ B).length : Int) * 1 by omega, Int.mul_emod_right])
    rw [← hi, hl, hN] at b
    rw [e3, mP_get (by rw [List.length_append]; omega), List.getD_eq_getElem?_getD, List.getD_eq_getElem?_getD, List.getElem?_append_right z, List.getElem?_append_left (by omega)]
theorem mP_back {l : List Int} (h : l ≠ []) (f : Int → Int) (p : Int) : mP (l.reverse.map f) p = f (mP l ((l.length : Int) - 1 - p)) := by
  have hl : ((l.reverse.map f).length : Int) = (l.length : Int) := by rw [List.length_map, List.length_reverse]
  obtain ⟨i, hi⟩ : ∃ i : Nat, (i : Int) = p % (l.length : Int) := ⟨(p % (l.length : Int)).toNat, by have := (rest_in h p).1; omega⟩
  have b := (rest_in h p).2
  rw [← hi] at b
  have il : i < l.length := by omega
  have e1 : mP (l.reverse.map f) p = (l.reverse.map f).getD i 0 := by rw [← mP_rest, hl, ← hi, mP_get (by omega)]
  have e2 : mP l ((l.length : Int) - 1 - p) = mP l ((l.length - 1 - i : Nat) : Int) := mP_mod _ _ _ (by
    rw [show (l.length : Int) - 1 - p - ((l.length - 1 - i : Nat) : Int) = (i : Int) - p by omega, hi, Int.sub_emod, Int.emod_emod_of_dvd p (Int.dvd_refl _), Int.sub_self, Int.zero_emod])
  rw [e1, e2, mP_get (by omega), List.getD_eq_getElem?_getD, List.getD_eq_getElem?_getD, List.getElem?_map, List.getElem?_reverse il]
  rw [List.getElem?_eq_getElem (show l.length - 1 - i < l.length by omega)]; rfl
/-! ### closed round -/
/-- each mark may stand behind the one ahead of it, all round -/
def Cyc (ps : List (List Int)) (l : List Int) : Prop := ∀ p : Int, [mP l p, mP l (p + 1)] ∈ ps
theorem Cyc.rot {ps : List (List Int)} {A B : List Int} (h : A ++ B ≠ []) (c : Cyc ps (A ++ B)) : Cyc ps (B ++ A) := fun p => by
  rw [mP_rot h, mP_rot h, show p + 1 + (A.length : Int) = p + (A.length : Int) + 1 by omega]; exact c _
theorem Cyc.back {ps : List (List Int)} {l : List Int} {f : Int → Int} (h : l ≠ []) (hf : ∀ a b, a ∈ l → b ∈ l → [a, b] ∈ ps → [f b, f a] ∈ ps) (hm : ∀ p, mP l p ∈ l) (c : Cyc ps l) : Cyc ps (l.reverse.map f) := fun p => by
  rw [mP_back h, mP_back h]
  have := c ((l.length : Int) - 1 - (p + 1))
  rw [show (l.length : Int) - 1 - (p + 1) + 1 = (l.length : Int) - 1 - p by omega] at this
  exact hf _ _ (hm _) (hm _) this
theorem mP_mem {l : List Int} (h : l ≠ []) (p : Int) : mP l p ∈ l := by
  have b := rest_in h p
  unfold mP
  rw [List.getD_eq_getElem?_getD, List.getElem?_eq_getElem (show (p % (l.length : Int)).toNat < l.length by omega)]
  exact List.getElem_mem _
/-- a walk from the mark x round and back to it -/
def Loop (ps : List (List Int)) (x : Int) (l : List Int) : Prop := (∀ y, l[0]? = some y → y = x) ∧ (∀ i a b, l[i]? = some a → (l ++ [x])[i + 1]? = some b → [a, b] ∈ ps)
theorem Loop.nil (ps : List (List Int)) (x : Int) : Loop ps x [] := ⟨(fun _ h => nomatch h), fun _ _ _ h => nomatch h⟩
theorem Loop.app {ps : List (List Int)} {x : Int} {u v : List Int} (hu : Loop ps x u) (hv : Loop ps x v) : Loop ps x (u ++ v) := by
  constructor
  · intro y hy
    cases u with
    | nil => exact hv.1 y hy
    | cons a u => exact hu.1 y hy
  · intro i a b ha hb
    rcases Nat.lt_or_ge i u.length with z | z
    · rw [List.getElem?_append_left z] at ha
      refine hu.2 i a b ha ?_
      rcases Nat.lt_or_ge (i + 1) u.length with z2 | z2
      · rw [List.append_assoc, List.getElem?_append_left z2] at hb
        rw [List.getElem?_append_left z2]; exact hb
      · rw [List.append_assoc, List.getElem?_append_right z2] at hb
        rw [List.getElem?_append_right z2]
        rw [show i + 1 - u.length = 0 by omega] at hb ⊢
        cases v with
        | nil => exact hb
        | cons c v =>
          rw [show ((c :: v) ++ [x])[0]? = some c from rfl] at hb
          cases hb
          rw [hv.1 _ rfl]; rfl
    · rw [List.getElem?_append_right z] at ha
      rw [List.append_assoc, List.getElem?_append_right (by omega), show i + 1 - u.length = i - u.length + 1 by omega] at hb
      exact hv.2 _ a b ha hb
theorem Loop.rp {ps : List (List Int)} {x : Int} {w : List Int} (h : Loop ps x w) : ∀ n, Loop ps x (rp n w)
  | 0 => Loop.nil ps x
  | n + 1 => by rw [rp_succ]; exact h.app (Loop.rp h n)
theorem Loop.cyc {ps : List (List Int)} {x : Int} {l : List Int} (h : Loop ps x l) (n : l ≠ []) : Cyc ps l := fun p => by
  obtain ⟨i, hi⟩ : ∃ i : Nat, (i : Int) = p % (l.length : Int) := ⟨(p % (l.length : Int)).toNat, by have := (rest_in n p).1; omega⟩
  have b := (rest_in n p).2
  rw [← hi] at b
  have il : i < l.length := by omega
  have e1 : mP l p = mP l (i : Int) := by rw [hi, mP_rest]
  have e2 : mP l (p + 1) = mP l ((i : Int) + 1) := mP_mod _ _ _ (by rw [show p + 1 - ((i : Int) + 1) = p - i by omega, hi, Int.sub_emod, Int.emod_emod_of_dvd p (Int.dvd_refl _), Int.sub_self, Int.zero_emod])
  rw [e1, e2, mP_get il]
  refine h.2 i _ _ (by rw [List.getD_eq_getElem?_getD, List.getElem?_eq_getElem il]; rfl) ?_
  rcases Nat.lt_or_ge (i + 1) l.length with z | z
  · rw [List.getElem?_append_left z, show (i : Int) + 1 = ((i + 1 : Nat) : Int) by omega, mP_get z, List.getD_eq_getElem?_getD, List.getElem?_eq_getElem z]; rfl
  · rw [List.getElem?_append_right z, show i + 1 - l.length = 0 by omega]
    have e3 : mP l ((i : Int) + 1) = mP l ((0 : Nat) : Int) := mP_mod _ _ _ (by rw [show (i : Int) + 1 - ((0 : Nat) : Int) = (l.length : Int) * 1 by omega, Int.mul_emod_right])
    have l0 : 0 < l.length := by omega
    rw [e3, mP_get l0, List.getD_eq_getElem?_getD, List.getElem?_eq_getElem l0]
    rw [h.1 l[0] (List.getElem?_eq_getElem l0)]; rfl
end RV
set_option maxHeartbeats 4000000
namespace RV
open PySem PySem.Spec PyProof.Rows L2
theorem nx_step {i : Nat} {v : V} {σ : L2.St} {H : Hp} {G : L2.St → Hp → Prop} (h : G (σ.set i (some v)) H) : gName i v σ H G := h
theorem seq_mid {t1 t2 : TS} {D : Ends} {σ : L2.St} {H : Hp} (J : L2.St → Hp → Prop) (h2 : ∀ σ H, J σ H → t2 D σ H) (h1 : (∀ σ H, J σ H → t2 D σ H) → tSeq t1 t2 D σ H) : tSeq t1 t2 D σ H := h1 h2
section
variable {X : Cx} {K : PySem.W.Frag}
theorem op_notInDK (h : X.K = K) (hu : X.A.units + 65 < cLine) : OpR X (compareOp .NotIn) (rNotInD K) := h ▸ op_notInD hu
theorem pe_backTK {e : Expr} {te : TE} {k : Nat} {p1 p2 p3 pos : Pos} (h : X.K = K) (he : PE X e te) : PE X (.Subscript e (.Slice none none (some (.UnaryOp .USub (.Constant (.int 1) k p1) p2)) p3) pos) (tBackT K te) := h ▸ pe_backT he
end
section
variable {X : Cx} {K : PySem.W.Frag}
theorem op_inDK (h : X.K = K) (hu : X.A.units + 65 < cLine) : OpR X (compareOp .In) (rInD K) := h ▸ op_inD hu
theorem ix_listK (h : X.K = K) : IxR X (rIxL K) := h ▸ ix_list
end
theorem take_filt {α : Type} {c : α → Bool} {ks : List α} {k : α} {i : Nat} (g : ks[i]? = some k) : (ks.take (i + 1)).filter c = (ks.take i).filter c ++ (if c k = true then [k] else []) := by
  rw [List.take_add_one, g]
  show (ks.take i ++ [k]).filter c = _
  rw [List.filter_append]
  by_cases e : c k = true
  · rw [if_pos e]; simp [e]
  · rw [if_neg e]; simp [e]
section
variable {K : PySem.W.Frag} {tt : TT} {te : TE} {f : Int → Bool} {σ : L2.St} {H1 : Hp} {a D : Addr} {v : Nat} {ns : List Int} {Qd : Hp → Prop}
/-- [x for x in t if ..], t a tuple of ints -/
theorem lc_filtT (hT : SqT K H1 a (ns.map V.int)) (hl : ns.length ≤ 1000) (nD : H1 D = none)
    (htest : ∀ x ∈ ns, ∀ H', Same H1 H' → ∀ A B : Hp → Prop, (∀ H2, Same H' H2 → if f x = true then A H2 else B H2) → tt ((wipe σ [v]).set v (some (.int x))) H' (fun b H3 => if b = true then A H3 else B H3))
    (hte : ∀ (x : Int) (H' : Hp) (Q : VK), Q (.int x) H' → te ((wipe σ [v]).set v (some (.int x))) H' Q)
    (hd : ∀ H', Same H1 H' → H' D = some (.lst ((ns.filter f).map V.int)) → Qd H') :
    ∃ W : Nat → Nat → Hp → Prop, (∃ m, W 0 m (upd H1 D (.lst []))) ∧ ∀ i m H, W i m H →
      ((Itt K a).stop i H ∧ Qd H) ∨ ((Itt K a).go i H ∧ ∃ Nx : Hp → Prop, (∀ H', Nx H' → ∃ m', m' < m ∧ W (i + 1) m' H') ∧ ∀ x H', (Itt K a).yld i H x H' → gName v x (wipe σ [v]) H' fun σ2 H2 => wipe σ2 [v] = wipe σ [v] ∧ tt σ2 H2 fun b H3 =>
        if b = true then te σ2 H3 fun y H4 => ∃ acc, H4 D = some (.lst acc) ∧ acc.length < sizeLine ∧ Nx (upd H4 D (.lst (acc ++ [y]))) else Nx H3) := by
  refine lc_tup (K := K) (a := a) (xs := ns.map V.int) (fun i H' => Same H1 H' ∧ H' D = some (.lst (((ns.take i).filter f).map V.int))) ⟨same_upd nD, upd_same⟩ (fun i H' _ p => sqT_same p.1 hT) (fun i x H' hx p => ?_) fun H' p => ?_
  · obtain ⟨k, g, rfl⟩ := map_at hx
    refine ⟨by simp [wipe, List.set_set], htest k (List.mem_of_getElem? g) H' p.1 _ _ fun H2 s2 => ?_⟩
    have s12 := p.1.trans s2
    have e2 := s2 _ _ p.2
    by_cases e : f k = true
    · rw [if_pos e]
      refine hte k H2 _ ⟨_, e2, ?_, fun b o z => ?_, ?_⟩
      · rw [List.length_map]
        exact few1 (Nat.le_trans (List.length_filter_le _ _) (by rw [List.length_take]; omega))
      · rw [upd_ne (ne_of_none z nD)]; exact s12 b o z
      · rw [upd_same, take_filt g, if_pos e, List.map_append]; rfl
    · rw [if_neg e]
      exact ⟨s12, by rw [take_filt g, if_neg e, List.append_nil]; exact e2⟩
  · rw [List.length_map, List.take_of_length_le (Nat.le_refl _)] at p
    exact hd H' p.1 p.2
/-- [x for x in l if ..], l a list of ints -/
theorem lc_filtL (hT : SqL K H1 a (ns.map V.int)) (hl : ns.length ≤ 1000) (nD : H1 D = none)
    (htest : ∀ x ∈ ns, ∀ H', Same H1 H' → ∀ A B : Hp → Prop, (∀ H2, Same H' H2 → if f x = true then A H2 else B H2) → tt ((wipe σ [v]).set v (some (.int x))) H' (fun b H3 => if b = true then A H3 else B H3))
    (hte : ∀ (x : Int) (H' : Hp) (Q : VK), Q (.int x) H' → te ((wipe σ [v]).set v (some (.int x))) H' Q)
    (hd : ∀ H', Same H1 H' → H' D = some (.lst ((ns.filter f).map V.int)) → Qd H') :
    ∃ W : Nat → Nat → Hp → Prop, (∃ m, W 0 m (upd H1 D (.lst []))) ∧ ∀ i m H, W i m H →
      ((Itl K a).stop i H ∧ Qd H) ∨ ((Itl K a).go i H ∧ ∃ Nx : Hp → Prop, (∀ H', Nx H' → ∃ m', m' < m ∧ W (i + 1) m' H') ∧ ∀ x H', (Itl K a).yld i H x H' → gName v x (wipe σ [v]) H' fun σ2 H2 => wipe σ2 [v] = wipe σ [v] ∧ tt σ2 H2 fun b H3 =>
        if b = true then te σ2 H3 fun y H4 => ∃ acc, H4 D = some (.lst acc) ∧ acc.length < sizeLine ∧ Nx (upd H4 D (.lst (acc ++ [y]))) else Nx H3) := by
  refine lc_list (K := K) (a := a) (xs := ns.map V.int) (fun i H' => Same H1 H' ∧ H' D = some (.lst (((ns.take i).filter f).map V.int))) ⟨same_upd nD, upd_same⟩ (fun i H' _ p => sqL_same p.1 hT) (fun i x H' hx p => ?_) fun H' p => ?_
  · obtain ⟨k, g, rfl⟩ := map_at hx
    refine ⟨by simp [wipe, List.set_set], htest k (List.mem_of_getElem? g) H' p.1 _ _ fun H2 s2 => ?_⟩
    have s12 := p.1.trans s2
    have e2 := s2 _ _ p.2
    by_cases e : f k = true
    · rw [if_pos e]
      refine hte k H2 _ ⟨_, e2, ?_, fun b o z => ?_, ?_⟩
      · rw [List.length_map]
        exact few1 (Nat.le_trans (List.length_filter_le _ _) (by rw [List.length_take]; omega))
      · rw [upd_ne (ne_of_none z nD)]; exact s12 b o z
      · rw [upd_same, take_filt g, if_pos e, List.map_append]; rfl
    · rw [if_neg e]
      exact ⟨s12, by rw [take_filt g, if_neg e, List.append_nil]; exact e2⟩
  · rw [List.length_map, List.take_of_length_le (Nat.le_refl _)] at p
    exact hd H' p.1 p.2
end
/-! ### x in l, of ints -/
theorem dpL {K : PySem.W.Frag} {H : Hp} {a : Addr} {ns : List Int} (h : SqL K H a (ns.map V.int)) : Dp K H (.ref a) (.list (ns.map PyData.int)) := .lst h (dpInts ns)
theorem shapedLI (ns : List Int) : SeqAt.shaped (.list (ns.map PyData.int)) = true := by
  have h1 : (PyData.list (ns.map PyData.int)).canLay0 = true := by simp only [PyData.canLay0]; exact lay_ints ns
  have h2 : (PyData.list (ns.map PyData.int)).depth ≤ 64 := by simp only [PyData.depth, dep_ints]; omega
  show ((PyData.list (ns.map PyData.int)).canLay0 && decide ((PyData.list (ns.map PyData.int)).depth ≤ 64)) = true
  rw [h1, decide_eq_true h2]; rfl
theorem shapedN (n : Int) : SeqAt.shaped (.int n) = true := by
  show ((PyData.int n).canLay0 && decide ((PyData.int n).depth ≤ 64)) = true
  simp [PyData.canLay0, PyData.depth]
theorem any_int (x : Int) : ∀ ns : List Int, (ns.map PyData.int).any (fun y => PyData.eqv y (.int x)) = decide (x ∈ ns)
  | [] => rfl
  | n :: r => by
    rw [List.map_cons, List.any_cons, any_int x r]
    by_cases e : x = n
    · subst e; simp [PyData.eqv]
    · have e' : ¬ n = x := fun z => e z.symm
      by_cases e2 : x ∈ r <;> simp [PyData.eqv, e, e', e2]
section
variable {X : Cx}
/-- n in t, t a tuple of ints -/
def rInTI (K : PySem.W.Frag) : R2 := fun x y H Q => ∃ (b : Addr) (n : Int) (ns : List Int), x = .int n ∧ y = .ref b ∧ SqT K H b (ns.map V.int) ∧ Q (.bl (decide (n ∈ ns))) H
theorem op_inTI (hu : X.A.units + 65 < cLine) : OpR X (compareOp .In) (rInTI X.K) := by
  intro pins s σ H x y v u Q I rx ry h
  obtain ⟨b, n, ns, rfl, rfl, h2, q⟩ := h
  obtain ⟨as, r1⟩ := Dp.reads I (.int n) (.int n) v (.int n) rx
  obtain ⟨bs, r2⟩ := Dp.reads I (dI ns) (.ref b) u (dpT h2) ry
  refine SeqAt.in_tuple_reads (xs := ns.map PyData.int) r2 r1 (lay_ints ns) (by simp [PyData.canLay0]) ?_ ⟨.bl _, H, I, rfl, ?_⟩
  · have := Nat.min_le_right (PyData.depthAll (ns.map PyData.int)) (PyData.int n).depth
    have e : (PyData.int n).depth = 0 := by simp [PyData.depth]
    omega
  · rw [any_int]; exact q
theorem op_inTIK {K : PySem.W.Frag} (h : X.K = K) (hu : X.A.units + 65 < cLine) : OpR X (compareOp .In) (rInTI K) := h ▸ op_inTI hu
end
end RV
namespace RV
open PySem L2
/-! ### who comes to whom by one step or more -/
inductive Rch (ps : List (List Int)) : Int → Int → Prop where
  | one {i j : Int} : [i, j] ∈ ps → Rch ps i j
  | more {i j k : Int} : Rch ps i j → [j, k] ∈ ps → Rch ps i k
theorem Rch.trans {ps : List (List Int)} {i j k : Int} (h : Rch ps i j) (g : Rch ps j k) : Rch ps i k := by
  induction g with
  | one e => exact .more h e
  | more _ e ih => exact .more ih e
theorem Rch.bound {ps : List (List Int)} {n : Int} (hb : ∀ p ∈ ps, Pr n p) {i j : Int} (h : Rch ps i j) : (0 ≤ i ∧ i < n) ∧ (0 ≤ j ∧ j < n) := by
  induction h with
  | one e =>
    obtain ⟨x, y, e2, hx, hy⟩ := hb _ e
    injection e2 with e3 e4
    injection e4 with e4 _
    subst e3 e4
    exact ⟨hx, hy⟩
  | more _ e ih =>
    obtain ⟨x, y, e2, hx, hy⟩ := hb _ e
    injection e2 with e3 e4
    injection e4 with e4 _
    subst e3 e4
    exact ⟨ih.1, hy⟩
/-- a lot that holds all right behind m and is closed -/
theorem rch_closed {ps : List (List Int)} {m : Int} {fs : List Int} (h1 : ∀ j, [m, j] ∈ ps → j ∈ fs) (h2 : ∀ x ∈ fs, ∀ j, [x, j] ∈ ps → j ∈ fs) {j : Int} (h : Rch ps m j) : j ∈ fs := by
  induction h with
  | one e => exact h1 _ e
  | more _ e ih => exact h2 _ ih _ e
noncomputable def rB (ps : List (List Int)) (i j : Int) : Bool := @decide (Rch ps i j) (Classical.propDecidable _)
theorem rB_iff {ps : List (List Int)} {i j : Int} : rB ps i j = true ↔ Rch ps i j := by
  unfold rB
  exact @decide_eq_true_iff _ (Classical.propDecidable _)
/-! ### numbers below n -/
def upN (n : Nat) : List Int := (List.range n).map fun (i : Nat) => (i : Int)
theorem upN_get {n k : Nat} (h : k < n) : (upN n)[k]? = some (k : Int) := by
  unfold upN
  rw [List.getElem?_map, List.getElem?_range h]; rfl
theorem upN_len (n : Nat) : (upN n).length = n := by unfold upN; rw [List.length_map, List.length_range]
theorem mem_upN {n : Nat} {x : Int} : x ∈ upN n ↔ 0 ≤ x ∧ x < (n : Int) := by
  unfold upN
  rw [List.mem_map]
  constructor
  · rintro ⟨k, hk, rfl⟩
    have := List.mem_range.mp hk
    omega
  · rintro ⟨h0, h1⟩
    exact ⟨x.toNat, List.mem_range.mpr (by omega), by omega⟩
theorem upN_rise (n : Nat) : (upN n).Pairwise (· < ·) := by
  unfold upN
  rw [List.pairwise_map]
  exact List.Pairwise.imp (fun {a b} (h : a < b) => by omega) List.pairwise_lt_range
/-! ### the lot of a mark -/
noncomputable def lotOf (ps : List (List Int)) (n : Nat) (m : Int) : List Int := (upN n).filter fun j => rB ps m j && rB ps j m
theorem mem_lot {ps : List (List Int)} {n : Nat} {m j : Int} : j ∈ lotOf ps n m ↔ (0 ≤ j ∧ j < (n : Int)) ∧ Rch ps m j ∧ Rch ps j m := by
  unfold lotOf
  rw [List.mem_filter, mem_upN, Bool.and_eq_true, rB_iff, rB_iff]
theorem lot_rise (ps : List (List Int)) (n : Nat) (m : Int) : (lotOf ps n m).Pairwise (· < ·) := (upN_rise n).filter _
theorem lot_len (ps : List (List Int)) (n : Nat) (m : Int) : (lotOf ps n m).length ≤ n := by
  have := List.length_filter_le (fun j => rB ps m j && rB ps j m) (upN n)
  rw [upN_len] at this
  exact this
theorem lot_eq {ps : List (List Int)} {n : Nat} {m j : Int} (h : j ∈ lotOf ps n m) : lotOf ps n j = lotOf ps n m := by
  obtain ⟨_, h1, h2⟩ := mem_lot.mp h
  unfold lotOf
  refine List.filter_congr fun x _ => ?_
  rw [Bool.eq_iff_iff, Bool.and_eq_true, Bool.and_eq_true, rB_iff, rB_iff, rB_iff, rB_iff]
  exact ⟨fun ⟨a, b⟩ => ⟨h1.trans a, b.trans h2⟩, fun ⟨a, b⟩ => ⟨h2.trans a, b.trans h1⟩⟩
theorem lot_self {ps : List (List Int)} {n : Nat} {m : Int} (hm : 0 ≤ m ∧ m < (n : Int)) (h : Rch ps m m) : m ∈ lotOf ps n m := mem_lot.mpr ⟨hm, h, h⟩
theorem lot_none {ps : List (List Int)} {n : Nat} {m : Int} (h : ¬ Rch ps m m) : lotOf ps n m = [] := by
  refine List.eq_nil_iff_forall_not_mem.mpr fun j hj => ?_
  obtain ⟨_, h1, h2⟩ := mem_lot.mp hj
  exact h (h1.trans h2)
theorem lot_some {ps : List (List Int)} {n : Nat} {m j : Int} (h : j ∈ lotOf ps n m) : Rch ps m m := by
  obtain ⟨_, h1, h2⟩ := mem_lot.mp h
  exact h1.trans h2
/-! ### the parts -/
noncomputable def isHead (ps : List (List Int)) (n : Nat) (m : Int) : Bool := decide ((lotOf ps n m).head? = some m)
noncomputable def partsOf (ps : List (List Int)) (n : Nat) : List (List Int) := ((upN n).filter (isHead ps n)).map (lotOf ps n)
theorem mem_parts {ps : List (List Int)} {n : Nat} {p : List Int} : p ∈ partsOf ps n ↔ ∃ m : Int, (0 ≤ m ∧ m < (n : Int)) ∧ (lotOf ps n m).head? = some m ∧ p = lotOf ps n m := by
  unfold partsOf isHead
  rw [List.mem_map]
  constructor
  · rintro ⟨m, hm, rfl⟩
    obtain ⟨h1, h2⟩ := List.mem_filter.mp hm
    exact ⟨m, mem_upN.mp h1, of_decide_eq_true h2, rfl⟩
  · rintro ⟨m, h1, h2, rfl⟩
    exact ⟨m, List.mem_filter.mpr ⟨mem_upN.mpr h1, decide_eq_true h2⟩, rfl⟩
theorem lot_part {ps : List (List Int)} {n : Nat} {m j : Int} (h : j ∈ lotOf ps n m) : lotOf ps n m ∈ partsOf ps n := by
  cases e : lotOf ps n m with
  | nil => rw [e] at h; cases h
  | cons x r =>
    have hx : x ∈ lotOf ps n m := by rw [e]; exact List.mem_cons_self ..
    have ex := lot_eq hx
    refine mem_parts.mpr ⟨x, (mem_lot.mp hx).1, ?_, ?_⟩
    · rw [ex, e]; rfl
    · rw [ex, e]
theorem part_ne {ps : List (List Int)} {n : Nat} {p : List Int} (h : p ∈ partsOf ps n) : p ≠ [] := by
  obtain ⟨m, _, h2, rfl⟩ := mem_parts.mp h
  intro e
  rw [e] at h2; cases h2
theorem part_lot {ps : List (List Int)} {n : Nat} {p : List Int} {x : Int} (h : p ∈ partsOf ps n) (hx : x ∈ p) : lotOf ps n x = p := by
  obtain ⟨m, _, _, rfl⟩ := mem_parts.mp h
  exact lot_eq hx
def hd0 (l : List Int) : Int := l.headD 0
theorem parts_rise (ps : List (List Int)) (n : Nat) : (partsOf ps n).Pairwise fun p q => hd0 p < hd0 q := by
  unfold partsOf
  rw [List.pairwise_map]
  refine List.Pairwise.imp_of_mem (fun {a b} ha hb (h : a < b) => ?_) ((upN_rise n).filter _)
  have ea : (lotOf ps n a).head? = some a := of_decide_eq_true (List.mem_filter.mp ha).2
  have eb : (lotOf ps n b).head? = some b := of_decide_eq_true (List.mem_filter.mp hb).2
  unfold hd0
  rw [List.headD_eq_head?_getD, List.headD_eq_head?_getD, ea, eb]
  exact h
theorem parts_nodup (ps : List (List Int)) (n : Nat) : (partsOf ps n).Nodup := (parts_rise ps n).imp fun {a b} h e => by rw [e] at h; omega
theorem parts_len (ps : List (List Int)) (n : Nat) : (partsOf ps n).length ≤ n := by
  unfold partsOf
  rw [List.length_map]
  have := List.length_filter_le (isHead ps n) (upN n)
  rw [upN_len] at this
  exact this
/-- of two lots unlike heads tell which is ahead -/
theorem part_hd {ps : List (List Int)} {n : Nat} {p q : List Int} (hp : p ∈ partsOf ps n) (hq : q ∈ partsOf ps n) (h : hd0 p = hd0 q) : p = q := by
  obtain ⟨a, _, ea, rfl⟩ := mem_parts.mp hp
  obtain ⟨b, _, eb, rfl⟩ := mem_parts.mp hq
  unfold hd0 at h
  rw [List.headD_eq_head?_getD, List.headD_eq_head?_getD, ea, eb] at h
  have h' : a = b := h
  rw [h']
/-! ### the table that is gone on with, mark by mark -/
def Wsh (ps : List (List Int)) : Nat → Int → Int → Prop
  | 0, i, j => [i, j] ∈ ps
  | k + 1, i, j => Wsh ps k i j ∨ (Wsh ps k i (k : Int) ∧ Wsh ps k (k : Int) j)
theorem Wsh.up {ps : List (List Int)} {i j : Int} (h : [i, j] ∈ ps) : ∀ k, Wsh ps k i j
  | 0 => h
  | k + 1 => .inl (Wsh.up h k)
theorem Wsh.rch {ps : List (List Int)} : ∀ {k : Nat} {i j : Int}, Wsh ps k i j → Rch ps i j
  | 0, _, _, h => .one h
  | k + 1, _, _, .inl h => Wsh.rch h
  | k + 1, _, _, .inr h => (Wsh.rch h.1).trans (Wsh.rch h.2)
theorem Wsh.amid {ps : List (List Int)} : ∀ (k : Nat) (m : Nat) (i j : Int), m < k → Wsh ps k i (m : Int) → Wsh ps k (m : Int) j → Wsh ps k i j
  | 0, _, _, _, h, _, _ => absurd h (Nat.not_lt_zero _)
  | k + 1, m, i, j, h, h1, h2 => by
    by_cases e : m = k
    · subst e
      have a1 : Wsh ps m i (m : Int) := h1.elim id fun z => z.1
      have a2 : Wsh ps m (m : Int) j := h2.elim id fun z => z.2
      exact .inr ⟨a1, a2⟩
    · have hm : m < k := by omega
      have T := fun i j => Wsh.amid (ps := ps) k m i j hm
      rcases h1 with h1 | ⟨p1, p2⟩
      · rcases h2 with h2 | ⟨q1, q2⟩
        · exact .inl (T _ _ h1 h2)
        · exact .inr ⟨T _ _ h1 q1, q2⟩
      · rcases h2 with h2 | ⟨q1, q2⟩
        · exact .inr ⟨p1, T _ _ p2 h2⟩
        · exact .inr ⟨p1, q2⟩
theorem rch_wsh {ps : List (List Int)} {n : Nat} (hb : ∀ p ∈ ps, Pr (n : Int) p) {i j : Int} (h : Rch ps i j) : Wsh ps n i j := by
  induction h with
  | one e => exact Wsh.up e n
  | @more j k _ e ih =>
    have b := (Rch.bound hb (.one e)).1
    have ej : j = ((j.toNat : Nat) : Int) := by omega
    rw [ej] at ih e
    exact Wsh.amid n j.toNat _ _ (by omega) ih (Wsh.up e n)
end RV
set_option maxHeartbeats 4000000
namespace RV
open PySem PySem.Spec PyProof.Rows L2
section
variable {K : PySem.W.Frag} {tt : TT} {te : TE} {f : Int → Bool} {σ : L2.St} {H1 : Hp} {D : Addr} {v n : Nat} {Qd : Hp → Prop}
/-- [x for x in range(n) if ..] -/
theorem lc_filtR (hl : n ≤ 1000) (nD : H1 D = none)
    (htest : ∀ x : Int, 0 ≤ x → x < (n : Int) → ∀ H', Same H1 H' → ∀ A B : Hp → Prop, (∀ H2, Same H' H2 → if f x = true then A H2 else B H2) → tt ((wipe σ [v]).set v (some (.int x))) H' (fun b H3 => if b = true then A H3 else B H3))
    (hte : ∀ (x : Int) (H' : Hp) (Q : VK), Q (.int x) H' → te ((wipe σ [v]).set v (some (.int x))) H' Q)
    (hd : ∀ H', Same H1 H' → H' D = some (.lst (((upN n).filter f).map V.int)) → Qd H') :
    ∃ W : Nat → Nat → Hp → Prop, (∃ m, W 0 m (upd H1 D (.lst []))) ∧ ∀ i m H, W i m H →
      ((Itr 0 n).stop i H ∧ Qd H) ∨ ((Itr 0 n).go i H ∧ ∃ Nx : Hp → Prop, (∀ H', Nx H' → ∃ m', m' < m ∧ W (i + 1) m' H') ∧ ∀ x H', (Itr 0 n).yld i H x H' → gName v x (wipe σ [v]) H' fun σ2 H2 => wipe σ2 [v] = wipe σ [v] ∧ tt σ2 H2 fun b H3 =>
        if b = true then te σ2 H3 fun y H4 => ∃ acc, H4 D = some (.lst acc) ∧ acc.length < sizeLine ∧ Nx (upd H4 D (.lst (acc ++ [y]))) else Nx H3) := by
  refine lc_range (lo := 0) (n := n) (fun i H' => Same H1 H' ∧ H' D = some (.lst ((((upN n).take i).filter f).map V.int))) ⟨same_upd nD, upd_same⟩ (fun i H' hi p => ?_) fun H' p => ?_
  · have g : (upN n)[i]? = some (i : Int) := upN_get hi
    rw [Int.zero_add]
    refine ⟨by simp [wipe, List.set_set], htest (i : Int) (by omega) (by omega) H' p.1 _ _ fun H2 s2 => ?_⟩
    have s12 := p.1.trans s2
    have e2 := s2 _ _ p.2
    by_cases e : f (i : Int) = true
    · rw [if_pos e]
      refine hte _ H2 _ ⟨_, e2, ?_, fun b o z => ?_, ?_⟩
      · rw [List.length_map]
        exact few1 (Nat.le_trans (List.length_filter_le _ _) (by rw [List.length_take, upN_len]; omega))
      · rw [upd_ne (ne_of_none z nD)]; exact s12 b o z
      · rw [upd_same, take_filt g, if_pos e, List.map_append]; rfl
    · rw [if_neg e]
      exact ⟨s12, by rw [take_filt g, if_neg e, List.append_nil]; exact e2⟩
  · rw [List.take_of_length_le (by rw [upN_len]; exact Nat.le_refl _)] at p
    exact hd H' p.1 p.2
end
end RV
set_option maxHeartbeats 4000000
namespace RV
open PySem PySem.Spec PyProof.Rows L2
def fromN (lo : Int) (n : Nat) : List Int := (List.range n).map fun (i : Nat) => lo + (i : Int)
theorem fromN_get {lo : Int} {n k : Nat} (h : k < n) : (fromN lo n)[k]? = some (lo + (k : Int)) := by
  unfold fromN
  rw [List.getElem?_map, List.getElem?_range h]; rfl
theorem fromN_len (lo : Int) (n : Nat) : (fromN lo n).length = n := by unfold fromN; rw [List.length_map, List.length_range]
theorem mem_fromN {lo : Int} {n : Nat} {x : Int} : x ∈ fromN lo n ↔ lo ≤ x ∧ x < lo + (n : Int) := by
  unfold fromN
  rw [List.mem_map]
  constructor
  · rintro ⟨k, hk, rfl⟩
    have := List.mem_range.mp hk
    omega
  · rintro ⟨h0, h1⟩
    exact ⟨(x - lo).toNat, List.mem_range.mpr (by omega), by omega⟩
theorem pe_weakR {X : Cx} {e : Expr} {t t' : TE} (h : PE X e t) (imp : ∀ σ H Q, t' σ H Q → t σ H Q) : PE X e t' := ⟨fun pins s σ H Q I q => h.run pins s σ H Q I (imp σ H Q q)⟩
section
variable {X : Cx} {K : PySem.W.Frag}
theorem cr_allK (h : X.K = K) (hc : X.calm = true) : CallR X (.builtin "all") (rAll K) := h ▸ cr_all hc
theorem pi_listK {tg l : Expr} {tl : TE} (h : X.K = K) (hl : PE X l tl) : PI X tg l (iList K tl) := h ▸ pi_list hl
theorem pi_tupK {tg l : Expr} {tl : TE} (h : X.K = K) (hl : PE X l tl) : PI X tg l (iTup K tl) := h ▸ pi_tup hl
end
section
variable {K : PySem.W.Frag} {tt : TT} {te : TE} {f : Int → Bool} {h : Int → Int} {σ : L2.St} {H1 : Hp} {D : Addr} {v n : Nat} {lo : Int} {Qd : Hp → Prop}
/-- [h(x) for x in range(lo, ..) if f(x)] -/
theorem lc_mapR (hl : n ≤ 1000) (nD : H1 D = none)
    (htest : ∀ x ∈ fromN lo n, ∀ H', Same H1 H' → ∀ A B : Hp → Prop, (∀ H2, Same H' H2 → if f x = true then A H2 else B H2) → tt ((wipe σ [v]).set v (some (.int x))) H' (fun b H3 => if b = true then A H3 else B H3))
    (hte : ∀ x ∈ fromN lo n, ∀ (H' : Hp) (Q : VK), Same H1 H' → f x = true → (∀ H2, Same H' H2 → Q (.int (h x)) H2) → te ((wipe σ [v]).set v (some (.int x))) H' Q)
    (hd : ∀ H', Same H1 H' → H' D = some (.lst ((((fromN lo n).filter f).map h).map V.int)) → Qd H') :
    ∃ W : Nat → Nat → Hp → Prop, (∃ m, W 0 m (upd H1 D (.lst []))) ∧ ∀ i m H, W i m H →
      ((Itr lo n).stop i H ∧ Qd H) ∨ ((Itr lo n).go i H ∧ ∃ Nx : Hp → Prop, (∀ H', Nx H' → ∃ m', m' < m ∧ W (i + 1) m' H') ∧ ∀ x H', (Itr lo n).yld i H x H' → gName v x (wipe σ [v]) H' fun σ2 H2 => wipe σ2 [v] = wipe σ [v] ∧ tt σ2 H2 fun b H3 =>
        if b = true then te σ2 H3 fun y H4 => ∃ acc, H4 D = some (.lst acc) ∧ acc.length < sizeLine ∧ Nx (upd H4 D (.lst (acc ++ [y]))) else Nx H3) := by
  refine lc_range (lo := lo) (n := n) (fun i H' => Same H1 H' ∧ H' D = some (.lst (((((fromN lo n).take i).filter f).map h).map V.int))) ⟨same_upd nD, upd_same⟩ (fun i H' hi p => ?_) fun H' p => ?_
  · have g : (fromN lo n)[i]? = some (lo + (i : Int)) := fromN_get hi
    have hm := List.mem_of_getElem? g
    refine ⟨by simp [wipe, List.set_set], htest _ hm H' p.1 _ _ fun H2 s2 => ?_⟩
    have s12 := p.1.trans s2
    have e2 := s2 _ _ p.2
    by_cases e : f (lo + (i : Int)) = true
    · rw [if_pos e]
      refine hte _ hm H2 _ s12 e fun H3 s3 => ⟨_, s3 _ _ e2, ?_, fun b o z => ?_, ?_⟩
      · rw [List.length_map, List.length_map]
        exact few1 (Nat.le_trans (List.length_filter_le _ _) (by rw [List.length_take, fromN_len]; omega))
      · rw [upd_ne (ne_of_none z nD)]; exact s3 _ _ (s12 b o z)
      · rw [upd_same, take_filt g, if_pos e, List.map_append, List.map_append]; rfl
    · rw [if_neg e]
      exact ⟨s12, by rw [take_filt g, if_neg e, List.append_nil]; exact e2⟩
  · rw [List.take_of_length_le (by rw [fromN_len]; exact Nat.le_refl _)] at p
    exact hd H' p.1 p.2
end
/-- [c(x) for x in l] of truths, l a list of ints -/
theorem lc_blL {K : PySem.W.Frag} {te : TE} {c : Int → Bool} {σ : L2.St} {H1 : Hp} {a D : Addr} {v : Nat} {ns : List Int} {Qd : Hp → Prop} (hT : SqL K H1 a (ns.map V.int)) (hl : ns.length ≤ 1000) (nD : H1 D = none)
    (hte : ∀ x ∈ ns, ∀ (H' : Hp) (Q : VK), Same H1 H' → Q (.bl (c x)) H' → te ((wipe σ [v]).set v (some (.int x))) H' Q)
    (hd : ∀ H', Same H1 H' → H' D = some (.lst ((ns.map c).map V.bl)) → Qd H') :
    ∃ W : Nat → Nat → Hp → Prop, (∃ m, W 0 m (upd H1 D (.lst []))) ∧ ∀ i m H, W i m H →
      ((Itl K a).stop i H ∧ Qd H) ∨ ((Itl K a).go i H ∧ ∃ Nx : Hp → Prop, (∀ H', Nx H' → ∃ m', m' < m ∧ W (i + 1) m' H') ∧ ∀ x H', (Itl K a).yld i H x H' → gName v x (wipe σ [v]) H' fun σ2 H2 => wipe σ2 [v] = wipe σ [v] ∧ tYes σ2 H2 fun b H3 =>
        if b = true then te σ2 H3 fun y H4 => ∃ acc, H4 D = some (.lst acc) ∧ acc.length < sizeLine ∧ Nx (upd H4 D (.lst (acc ++ [y]))) else Nx H3) := by
  refine lc_list (K := K) (a := a) (xs := ns.map V.int) (fun i H' => Same H1 H' ∧ H' D = some (.lst (((ns.take i).map c).map V.bl))) ⟨same_upd nD, upd_same⟩ (fun i H' _ p => sqL_same p.1 hT) (fun i x H' hx p => ?_) fun H' p => ?_
  · obtain ⟨k, g, rfl⟩ := map_at hx
    refine ⟨by simp [wipe, List.set_set], tt_yes (hte k (List.mem_of_getElem? g) H' _ p.1 ⟨_, p.2, ?_, fun b o z => ?_, ?_⟩)⟩
    · rw [List.length_map, List.length_map, List.length_take]; exact few1 (by omega)
    · rw [upd_ne (ne_of_none z nD)]; exact p.1 b o z
    · rw [upd_same, List.take_add_one, g, List.map_append, List.map_append]; rfl
  · rw [List.length_map, List.take_of_length_le (Nat.le_refl _)] at p
    exact hd H' p.1 p.2
end RV
set_option maxHeartbeats 4000000
namespace K6
open PySem PySem.Spec PyProof.Rows L2 RV
/-! ### rings that stand -/
/-- a run: its tuple, its word's tuple, its times, its marks -/
abbrev Rk := Addr × Addr × Int × List Int
def valR (k : Rk) : Int × List Int := k.2.2
def RunOk (K : PySem.W.Frag) (H : Hp) (k : Rk) : Prop := SqT K H k.1 [.int k.2.2.1, .ref k.2.1] ∧ SqT K H k.2.1 (k.2.2.2.map V.int)
def RingAt (K : PySem.W.Frag) (H : Hp) (a : Addr) (rs : List (Int × List Int)) : Prop := ∃ ks : List Rk, ks.map valR = rs ∧ SqT K H a (ks.map fun k => V.ref k.1) ∧ ∀ k ∈ ks, RunOk K H k
theorem RunOk.same {K : PySem.W.Frag} {H H' : Hp} {k : Rk} (h : RunOk K H k) (s : Same H H') : RunOk K H' k := ⟨sqT_same s h.1, sqT_same s h.2⟩
theorem RingAt.same {K : PySem.W.Frag} {H H' : Hp} {a : Addr} {rs : List (Int × List Int)} (h : RingAt K H a rs) (s : Same H H') : RingAt K H' a rs :=
  let ⟨ks, h1, h2, h3⟩ := h; ⟨ks, h1, sqT_same s h2, fun k hk => (h3 k hk).same s⟩
theorem RingAt.pail {K : PySem.W.Frag} {H H' : Hp} {p a : Addr} {t : Nat} {rs : List (Int × List Int)} (h : RingAt K H a rs) (hp : PailAt H p t) (b : But p H H') : RingAt K H' a rs :=
  let ⟨ks, h1, h2, h3⟩ := h; ⟨ks, h1, sqT_pail hp b h2, fun k hk => ⟨sqT_pail hp b (h3 k hk).1, sqT_pail hp b (h3 k hk).2⟩⟩
/-- a ring as the law has them -/
structure Sz (rs : List (Int × List Int)) : Prop where
  few : rs.length ≤ 100
  ne : rs ≠ []
  rn : Rn rs
  wo : ∀ r ∈ rs, r.2.length ≤ 3000
section
variable {P : Program} {w : World} {K : PySem.W.Frag} {mg : Str → Option Value} {base : Heap}
/-! ### run_places -/
theorem scRunPl : FnScope ["run", "times", "marks"] ["run"] (defScope sRunPl) := ⟨rfl, rfl, rfl, by decide +kernel, rfl, by decide +kernel, by decide +kernel⟩
def spRunPl (K : PySem.W.Frag) : Sp := fun vs H Q _ => ∃ k : Rk, vs = [.ref k.1] ∧ RunOk K H k ∧ k.2.2.2.length ≤ 3000 ∧ Q (.int (rl (valR k))) H
theorem ok_runpl {f : Addr} {fd : FuncData} (F : Fun K "run_places" "run_places" sRunPl f fd) (B : Bare mg) : FnOk P w K mg base CX0 1 f fd ["run"] (spRunPl K) := by
  refine F.ok scRunPl (fun vs H Q E h => ?_) (fun cdv A outer s H vs Q E hr h => ?_)
  · obtain ⟨k, rfl, _⟩ := h
    rfl
  · obtain ⟨k, rfl, hk, hl, q⟩ := h
    refine ⟨_, pss_cons (ps_asg (pv 0) (pg_tup (by rfl) (pgs_cons (pg_name (i := 1) scRunPl.nd rfl (Or.inl rfl)) (pgs_cons (pg_name (i := 2) scRunPl.nd rfl (Or.inl rfl)) pgs_nil))))
      (pss_one (ps_ret (pe_op op_mul (pv 1) (pe_callB call_len_seq (by rfl) B.len PySem.boot_len (pa_cons (pv 2) pa_nil))))), ?_⟩
    refine ⟨.ref k.1, rfl, k.1, _, rfl, hk.1, rfl, _, _, rfl, _, _, rfl, rfl, ?_⟩
    refine ⟨.int k.2.2.1, rfl, .ref k.2.1, rfl, k.2.1, _, rfl, .inr hk.2, _, _, rfl, rfl, .inr ?_, ?_⟩
    · rw [List.length_map]; omega
    · rw [List.length_map]; exact q
/-! ### places -/
theorem scRPlaces : FnScope ["ring", "run"] ["ring"] (defScope sRPlaces) := ⟨rfl, rfl, rfl, by decide +kernel, rfl, by decide +kernel, by decide +kernel⟩
def spRPlaces (K : PySem.W.Frag) : Sp := fun vs H Q _ => ∃ (a : Addr) (rs : List (Int × List Int)), vs = [.ref a] ∧ RingAt K H a rs ∧ rs.length ≤ 200 ∧ (∀ r ∈ rs, r.2.length ≤ 3000) ∧ ∀ H', Same H H' → Q (.int (pl rs)) H'
theorem ok_rplaces {f fR : Addr} {fd dR : FuncData} (F : Fun K "places" "places" sRPlaces f fd) (B : Bare mg) (DR : DefAt K mg "run_places" sRunPl ["run"] fR dR) : FnOk P w K mg base CX0 2 f fd ["ring"] (spRPlaces K) := by
  have GR : FnOk P w K mg base CX0 1 fR dR ["run"] (spRunPl K) := ok_runpl DR.fn B
  refine F.ok scRPlaces (fun vs H Q E h => ?_) (fun cdv A outer s H vs Q E hr h => ?_)
  · obtain ⟨a, rs, rfl, _⟩ := h
    rfl
  · obtain ⟨a, rs, rfl, ⟨ks, rfl, hT, hk⟩, hl, hw, q⟩ := h
    rw [List.length_map] at hl
    refine ⟨_, pss_one (ps_ret (pe_callB (cr_sum rfl) (by rfl) B.sum (by decide +kernel) (pa_cons
        (pe_lc (own := [("run", 1)]) (g := gName 1) (tt := tYes) rfl scRPlaces.nd (pi_tup (pv 0)) (blkOk_by (N := ["ring", "run"]) (sc := defScope sRPlaces) (by decide +kernel))
          (fun _ _ _ _ _ => pg_name (i := 1) scRPlaces.nd rfl (Or.inl rfl)) (fun _ _ _ _ _ => pts_nil) (fun _ _ _ _ _ => pe_call GR hr (by rfl) DR.mg DR.fn.kp DR.bi .nil pass0 (pa_cons (pv 1) pa_nil))) pa_nil))), ?_⟩
    refine ⟨.ref a, rfl, a, rfl, ⟨_, hT⟩, fun D nD => ?_⟩
    refine lc_tup (K := K) (a := a) (xs := ks.map fun k => V.ref k.1) (fun i H' => Same H H' ∧ H' D = some (.lst (((ks.take i).map fun k => rl (valR k)).map V.int))) ⟨same_upd nD, upd_same⟩ (fun i H' _ p => sqT_same p.1 hT) (fun i x H' hx p => ?_) fun H' p => ?_
    · obtain ⟨k, g, rfl⟩ := map_at hx
      have hm := List.mem_of_getElem? g
      refine ⟨rfl, tt_yes ⟨.ref k.1, rfl, k, rfl, (hk k hm).same p.1, hw _ (List.mem_map_of_mem hm), _, p.2, ?_, fun b o e => ?_, ?_⟩⟩
      · rw [List.length_map, List.length_map, List.length_take]; exact few1 (by omega)
      · rw [upd_ne (ne_of_none e nD)]; exact p.1 b o e
      · rw [upd_same, List.take_add_one, g, List.map_append, List.map_append]; rfl
    · rw [List.length_map, List.take_of_length_le (Nat.le_refl _)] at p
      refine ⟨D, _, rfl, lstNew p.2, ?_⟩
      have e : (ks.map fun k => rl (valR k)).sum = pl (ks.map valR) := by unfold pl; rw [List.map_map]; rfl
      rw [e]
      exact q H' p.1
/-! ### spot -/
/-- the run and how far in it a place stands -/
structure At (rs : List (Int × List Int)) (place : Int) (at_ : Nat) (ins : Int) : Prop where
  run : ∃ r, rs[at_]? = some r ∧ ins < rl r
  nn : 0 ≤ ins
  eq : place % pl rs = pl (rs.take at_) + ins
theorem scSpot : FnScope ["ring", "place", "at", "inside"] ["ring", "place"] (defScope sSpot) := ⟨rfl, rfl, rfl, by decide +kernel, rfl, by decide +kernel, by decide +kernel⟩
def spSpot (K : PySem.W.Frag) : Sp := fun vs H Q _ => ∃ (a : Addr) (place : Int) (rs : List (Int × List Int)), vs = [.ref a, .int place] ∧ RingAt K H a rs ∧ Sz rs ∧
  ∀ (H' : Hp) (T : Addr) (at_ : Nat) (ins : Int), Same H H' → H' T = some (.tup [.int (at_ : Int), .int ins]) → At rs place at_ ins → Q (.ref T) H'
def atSp : L2.St → Nat
  | [_, _, some (.int a), _] => 100 - a.toNat
  | _ => 0
theorem pl_take_next {rs : List (Int × List Int)} {i : Nat} {r : Int × List Int} (h : rs[i]? = some r) : pl (rs.take (i + 1)) = pl (rs.take i) + rl r := by
  rw [List.take_add_one, h, pl_app]
  show pl (rs.take i) + pl [r] = _
  rw [pl_cons]; show _ + (rl r + 0) = _; omega
theorem ok_spot {f fR fP : Addr} {fd dR dP : FuncData} (F : Fun K "spot" "spot" sSpot f fd) (B : Bare mg) (DR : DefAt K mg "run_places" sRunPl ["run"] fR dR) (DP : DefAt K mg "places" sRPlaces ["ring"] fP dP) : FnOk P w K mg base CX0 3 f fd ["ring", "place"] (spSpot K) := by
  have GR : FnOk P w K mg base CX0 1 fR dR ["run"] (spRunPl K) := ok_runpl DR.fn B
  have GP : FnOk P w K mg base CX0 2 fP dP ["ring"] (spRPlaces K) := ok_rplaces DP.fn B DR
  refine F.ok scSpot (fun vs H Q E h => ?_) (fun cdv A outer s H vs Q E hr h => ?_)
  · obtain ⟨a, place, rs, rfl, _⟩ := h
    rfl
  · obtain ⟨a, place, rs, rfl, hR, hz, q⟩ := h
    have r1 := hr.mono (show 1 ≤ 2 by decide)
    have hp := hz.rn.pos hz.ne
    have hfew := hz.few
    refine ⟨_, pss_cons (ps_set (i := 2) scSpot.nd rfl (Or.inl rfl) pe_int)
      (pss_cons (ps_set (i := 3) scSpot.nd rfl (Or.inl rfl) (pe_op op_mod (pv 1) (pe_call GP hr (by rfl) DP.mg DP.fn.kp DP.bi .nil pass0 (pa_cons (pv 0) pa_nil))))
      (pss_cons (ps_while PassesOwn.never (pt_cmpR op_ge (pv 3) (pe_call GR r1 (by rfl) DR.mg DR.fn.kp DR.bi .nil pass0 (pa_cons (pe_ix ix_tup (pv 0) (pv 2) (fun _ _ => rfl)) pa_nil)) (nomark _))
        (pss_cons (ps_aug (i := 3) scSpot.nd rfl (.inl rfl) (pe_call GR r1 (by rfl) DR.mg DR.fn.kp DR.bi .nil pass0 (pa_cons (pe_ix ix_tup (pv 0) (pv 2) (fun _ _ => rfl)) pa_nil)) ip_sub)
        (pss_one (ps_aug (i := 2) scSpot.nd rfl (.inl rfl) pe_int ip_add))))
      (pss_one (ps_ret (pe_tup (pa_cons (pv 2) (pa_cons (pv 3) pa_nil))))))), ?_⟩
    refine ⟨.int place, rfl, .ref a, rfl, a, rs, rfl, hR, by omega, hz.wo, fun H1 s1 => ⟨place, pl rs, rfl, rfl, hp, ?_⟩⟩
    have m0 := Int.emod_nonneg place (show pl rs ≠ 0 by omega)
    have m1 := Int.emod_lt_of_pos place hp
    obtain ⟨ks, ek, hT, hk⟩ := hR.same s1
    have lk : ks.length = rs.length := by rw [← ek, List.length_map]
    -- the run at a place
    have get : ∀ i, i < rs.length → ∃ k, ks[i]? = some k ∧ rs[i]? = some (valR k) := fun i hi => by
      have z : i < ks.length := by omega
      exact ⟨ks[i], List.getElem?_eq_getElem z, by rw [← ek, List.getElem?_map, List.getElem?_eq_getElem z]; rfl⟩
    have inR : ∀ {i : Nat} {x : Int}, i ≤ rs.length → 0 ≤ x → place % pl rs = pl (rs.take i) + x → i < rs.length := fun {i x} h1 h2 h3 => by
      rcases Nat.lt_or_ge i rs.length with z | z
      · exact z
      · rw [List.take_of_length_le z] at h3; omega
    refine while_by (fun σ H' => ∃ (i : Nat) (x : Int), σ = [some (.ref a), some (.int place), some (.int (i : Int)), some (.int x)] ∧ H' = H1 ∧ i ≤ rs.length ∧ 0 ≤ x ∧ place % pl rs = pl (rs.take i) + x)
      (fun σ _ => atSp σ) ?_ ?_ ?_
    · exact ⟨0, place % pl rs, rfl, rfl, Nat.zero_le _, m0, by show _ = 0 + _; omega⟩
    · rintro σ H2 ⟨i, x, rfl, rfl, hi, hx, e⟩
      have hi2 := inR hi hx e
      obtain ⟨k, g, gr⟩ := get i hi2
      have km := List.mem_of_getElem? g
      have gk : (ks.map fun k => V.ref k.1)[i]? = some (.ref k.1) := by rw [List.getElem?_map, g]; rfl
      have kw : k.2.2.2.length ≤ 3000 := hz.wo _ (List.mem_of_getElem? gr)
      refine ⟨.int x, rfl, .ref a, rfl, .int (i : Int), rfl, a, _, _, .ref k.1, rfl, rfl, hT, atI_nat gk, k, rfl, hk k km, kw, _, _, rfl, rfl, _, rfl, ite2 (fun hge => ?_) (fun hlt => ?_)⟩
      · have hge := of_decide_eq_true hge
        refine ⟨.int x, rfl, .ref a, rfl, .int (i : Int), rfl, a, _, _, .ref k.1, rfl, rfl, hT, atI_nat gk, k, rfl, hk k km, kw, _, _, rfl, rfl, ?_⟩
        refine ⟨.int (i : Int), rfl, _, _, rfl, rfl, ?_⟩
        refine ⟨⟨i + 1, x - rl (valR k), rfl, rfl, by omega, by omega, ?_⟩, ?_⟩
        · rw [pl_take_next gr, e]; omega
        · show 100 - ((i : Int) + 1).toNat < 100 - (i : Int).toNat
          omega
      · have hlt := of_decide_eq_false (eq_false_of_ne_true hlt)
        refine ⟨.int (i : Int), rfl, .int x, rfl, (by show 2 ≤ sizeLine; decide), fun T nT => ?_⟩
        exact q _ T i x (s1.trans (same_upd nT)) upd_same ⟨⟨_, gr, by omega⟩, hx, e⟩
    · intro σ H1 Q1 Q2 hq h
      obtain ⟨v, e, a1, e1, i1, e2, a2, xs2, i2, v2, e3, e4, h1, h2, k, e5, h3, h4, i3, i4, e6, e7, b, e8, h5⟩ := h
      exact ⟨v, e, a1, e1, i1, e2, a2, xs2, i2, v2, e3, e4, h1, h2, k, e5, h3, h4, i3, i4, e6, e7, b, e8, hq _ _ h5⟩
/-! ### mark_at -/
theorem scMarkAt : FnScope ["ring", "place", "at", "inside", "marks"] ["ring", "place"] (defScope sMarkAt) := ⟨rfl, rfl, rfl, by decide +kernel, rfl, by decide +kernel, by decide +kernel⟩
def spMarkAt (K : PySem.W.Frag) : Sp := fun vs H Q _ => ∃ (a : Addr) (place : Int) (rs : List (Int × List Int)), vs = [.ref a, .int place] ∧ RingAt K H a rs ∧ Sz rs ∧ ∀ H', Same H H' → Q (.int (mP (mk rs) place)) H'
theorem At.mark {rs : List (Int × List Int)} {place : Int} {at_ : Nat} {ins : Int} (h : At rs place at_ ins) (rn : Rn rs) {r : Int × List Int} (g : rs[at_]? = some r) : 0 < r.2.length ∧ r.2[(ins % (r.2.length : Int)).toNat]? = some (mP (RV.mk rs) place) := by
  obtain ⟨⟨r', g', hi⟩, h0, e⟩ := h
  rw [g] at g'; cases g'
  have hr := rn r (List.mem_of_getElem? g)
  have hl : 0 < r.2.length := List.length_pos_iff.mpr hr.2
  refine ⟨hl, ?_⟩
  have ml := mk_len rn.nn
  have z := mk_at rn.nn g (i := ins.toNat) (by omega)
  have p0 : 0 ≤ pl (rs.take at_) := pl_nn fun q hq => rn.nn q (List.mem_of_mem_take hq)
  have ei : (ins % (r.2.length : Int)).toNat = ins.toNat % r.2.length := by
    rw [show ins = ((ins.toNat : Nat) : Int) by omega, ← Int.natCast_emod]; rfl
  have lt := Nat.mod_lt ins.toNat hl
  unfold mP
  rw [ml, e, show (pl (rs.take at_) + ins).toNat = (pl (rs.take at_)).toNat + ins.toNat by omega, List.getD_eq_getElem?_getD, z, ei, List.getElem?_eq_getElem lt]; rfl
theorem ok_markat {f fR fP fS : Addr} {fd dR dP dS : FuncData} (F : Fun K "mark_at" "mark_at" sMarkAt f fd) (B : Bare mg) (DR : DefAt K mg "run_places" sRunPl ["run"] fR dR) (DP : DefAt K mg "places" sRPlaces ["ring"] fP dP) (DS : DefAt K mg "spot" sSpot ["ring", "place"] fS dS) :
    FnOk P w K mg base CX0 4 f fd ["ring", "place"] (spMarkAt K) := by
  have GS : FnOk P w K mg base CX0 3 fS dS ["ring", "place"] (spSpot K) := ok_spot DS.fn B DR DP
  refine F.ok scMarkAt (fun vs H Q E h => ?_) (fun cdv A outer s H vs Q E hr h => ?_)
  · obtain ⟨a, place, rs, rfl, _⟩ := h
    rfl
  · obtain ⟨a, place, rs, rfl, hR, hz, q⟩ := h
    refine ⟨_, pss_cons (ps_asg (pe_call GS hr (by rfl) DS.mg DS.fn.kp DS.bi .nil pass0 (pa_cons (pv 0) (pa_cons (pv 1) pa_nil))) (pg_tup (by rfl) (pgs_cons (pg_name (i := 2) scMarkAt.nd rfl (Or.inl rfl)) (pgs_cons (pg_name (i := 3) scMarkAt.nd rfl (Or.inl rfl)) pgs_nil))))
      (pss_cons (ps_set (i := 4) scMarkAt.nd rfl (Or.inl rfl) (pe_ix ix_tup (pe_ix ix_tup (pv 0) (pv 2) (fun _ _ => rfl)) pe_int (fun _ _ => rfl)))
      (pss_one (ps_ret (pe_ix ix_tup (pv 4) (pe_op op_mod (pv 3) (pe_callB call_len_seq (by rfl) B.len PySem.boot_len (pa_cons (pv 4) pa_nil))) (fun _ _ => rfl))))), ?_⟩
    refine ⟨.ref a, rfl, .int place, rfl, a, place, rs, rfl, hR, hz, fun H1 T i x s1 eT hA => ?_⟩
    refine ⟨T, _, rfl, tupNew eT, rfl, _, _, rfl, _, _, rfl, rfl, ?_⟩
    obtain ⟨ks, rfl, hT, hk⟩ := hR.same s1
    obtain ⟨r, g, hx⟩ := hA.run
    obtain ⟨k, gk, rfl⟩ := map_at g
    have km := List.mem_of_getElem? gk
    obtain ⟨l0, em⟩ := hA.mark hz.rn g
    refine ⟨.ref a, rfl, .int (i : Int), rfl, a, _, _, .ref k.1, rfl, rfl, hT, atI_nat (by rw [List.getElem?_map, gk]; rfl), k.1, _, 1, .ref k.2.1, rfl, rfl, (hk k km).1, rfl, ?_⟩
    have hw := (hk k km).2
    have hn := Int.emod_nonneg x (show (k.2.2.2.length : Int) ≠ 0 by have : 0 < k.2.2.2.length := l0; omega)
    refine ⟨.ref k.2.1, rfl, .int x, rfl, .ref k.2.1, rfl, k.2.1, _, rfl, .inr hw, x, _, rfl, rfl, ?_, k.2.1, _, x % (k.2.2.2.length : Int), .int (mP (mk (ks.map valR)) place), rfl, ?_, hw, ?_, q H1 s1⟩
    · rw [List.length_map]; have : 0 < k.2.2.2.length := l0; omega
    · rw [List.length_map]
    · rw [show x % (k.2.2.2.length : Int) = (((x % (k.2.2.2.length : Int)).toNat : Nat) : Int) by omega]
      refine atI_nat ?_
      have em' : k.2.2.2[(x % (k.2.2.2.length : Int)).toNat]? = some (mP (mk (ks.map valR)) place) := em
      rw [List.getElem?_map, em']; rfl
end
end K6
set_option maxHeartbeats 4000000
namespace RV
open PySem PySem.Spec PyProof.Rows L2
section
variable {X : Cx} {K : PySem.W.Frag}
/-- t + u of any two tuples, wherever the sum stands -/
def rCatW (K : PySem.W.Frag) : R2 := fun x y H Q => ∃ a b xs ys, x = .ref a ∧ y = .ref b ∧ SqT K H a xs ∧ SqT K H b ys ∧ xs.length + ys.length ≤ sizeLine ∧ ∀ (p : Addr) (H' : Hp), Same H H' → SqT K H' p (xs ++ ys) → Q (.ref p) H'
theorem op_catW : OpR X (binaryOp .Add) (rCatW X.K) := by
  intro pins s σ H x y v u Q I rx ry h
  obtain ⟨a, b, xs, ys, e1, e2, h1, h2, hl, q⟩ := h
  refine op_catA pins s σ H x y v u Q I rx ry ⟨a, b, xs, ys, e1, e2, h1, h2, hl, fun z => ?_, fun _ z => ?_, fun _ _ p np => ?_⟩
  · exact q b H (fun _ _ e => e) (by rw [z]; exact h2)
  · exact q a H (fun _ _ e => e) (by rw [z, List.append_nil]; exact h1)
  · exact q p _ (same_upd np) (tupNew upd_same)
theorem op_catWK (h : X.K = K) : OpR X (binaryOp .Add) (rCatW K) := h ▸ op_catW
/-- t[lo:hi], wherever the slice stands -/
def rSlW (K : PySem.W.Frag) : V → Option Int → Option Int → Hp → VK → Prop := fun x lo hi H Q => ∃ a xs, x = .ref a ∧ SqT K H a xs ∧ ∀ (p : Addr) (H' : Hp), Same H H' → SqT K H' p (cutV xs lo hi) → Q (.ref p) H'
theorem sl_tupW : SlR X (rSlW X.K) := by
  intro pins s σ H x v vl vu lo hi sl Q I rx hs pl pu h
  obtain ⟨a, xs, e, h1, q⟩ := h
  refine sl_tupA pins s σ H x v vl vu lo hi sl Q I rx hs pl pu ⟨a, xs, e, h1, fun z => ?_, fun _ p np => ?_⟩
  · refine q a H (fun _ _ e => e) ?_
    unfold cutV
    rw [z.1, z.2, List.drop_zero, Nat.sub_zero, List.take_of_length_le (Nat.le_refl _)]
    exact h1
  · exact q p _ (same_upd np) (tupNew upd_same)
theorem sl_tupWK (h : X.K = K) : SlR X (rSlW K) := h ▸ sl_tupW
theorem cut_from (xs : List V) (k : Nat) : cutV xs (some (k : Int)) none = xs.drop k := by
  unfold cutV
  rw [HT.sIx_nat, HT.sIx_none]
  rcases Nat.le_total k xs.length with h | h
  · rw [Nat.min_eq_left h, List.take_of_length_le (by rw [List.length_drop]; exact Nat.le_refl _)]
  · rw [Nat.min_eq_right h, Nat.sub_self, List.take_zero, List.drop_eq_nil_of_le h]
theorem cut_to (xs : List V) (k : Nat) : cutV xs none (some (k : Int)) = xs.take k := by
  unfold cutV
  rw [HT.sIx_nat, HT.sIx_none, List.drop_zero, Nat.sub_zero]
  rcases Nat.le_total k xs.length with h | h
  · rw [Nat.min_eq_left h]
  · rw [Nat.min_eq_right h, List.take_of_length_le (Nat.le_refl _), List.take_of_length_le h]
theorem tuple_mul1 (l : Addr) (items : Array Value) (n : Nat) (dd : Option Addr) (sl : Array (Option Value)) (x : Int) (u : Tok) (c0 : (decide (x < -(2 ^ 63)) || decide (x ≥ 2 ^ 63)) = false) (c1 : (items.isEmpty || x == 1) = true) :
    Meets (Builtin.«tuple.__mul__» ⟨[.ref l, .int x u], []⟩) (fun _ R s => s.heap.get? l = some { cls := .type "tuple", dict := dd, data := .seq items n, slots := sl } ∧ R (.ok (.ret (Value.ref l))) s) :=
  .of_wp fun prog w A R s h => by
    obtain ⟨hp, g, d, tk, os⟩ := s
    obtain ⟨hl, h⟩ := h
    have f1 := AutoSeq1.idx_int
    wp_walk using wpAny_loadPart' hl
    repeat (first
      | (refine wpAny_ite_false (decide_eq_false (by rw [c0]; exact Bool.false_ne_true)) ?_; wp_walk using wpAny_loadPart' hl)
      | (refine wpAny_ite_true (decide_eq_true (by rw [c1])) ?_; wp_walk using wpAny_loadPart' hl))
    exact ⟨_, rfl, h⟩
theorem tuple_mul0 (l : Addr) (items : Array Value) (n : Nat) (dd : Option Addr) (sl : Array (Option Value)) (x : Int) (u : Tok) (c0 : (decide (x < -(2 ^ 63)) || decide (x ≥ 2 ^ 63)) = false) (c1 : (items.isEmpty || x == 1) = false) (c2 : (decide (x ≤ 0) || items.isEmpty) = true) :
    Meets (Builtin.«tuple.__mul__» ⟨[.ref l, .int x u], []⟩) (fun _ R s => s.heap.get? l = some { cls := .type "tuple", dict := dd, data := .seq items n, slots := sl } ∧ R (.ok (.ret (Value.ref s.heap.objs.size))) { s with heap := s.heap.push { cls := Value.type "tuple", data := Data.seq #[] }, toks := s.toks }) :=
  .of_wp fun prog w A R s h => by
    obtain ⟨hp, g, d, tk, os⟩ := s
    obtain ⟨hl, h⟩ := h
    have f1 := AutoSeq1.idx_int
    wp_walk using wpAny_loadPart' hl
    repeat (first
      | (refine wpAny_ite_false (decide_eq_false (by rw [c0]; exact Bool.false_ne_true)) ?_; wp_walk using wpAny_loadPart' hl)
      | (refine wpAny_ite_false (decide_eq_false (by rw [c1]; exact Bool.false_ne_true)) ?_; wp_walk using wpAny_loadPart' hl)
      | (refine wpAny_ite_true (decide_eq_true (by rw [c2])) ?_; wp_walk using wpAny_loadPart' hl))
    exact ⟨_, rfl, h⟩
/-- t * k, k from 0 on -/
def rRepW (K : PySem.W.Frag) : R2 := fun x y H Q => ∃ l k xs, x = .ref l ∧ y = .int k ∧ SqT K H l xs ∧ 0 ≤ k ∧ k ≤ 1000 ∧ xs.length ≤ 1000 ∧ ∀ (p : Addr) (H' : Hp), Same H H' → SqT K H' p (List.replicate k.toNat xs).flatten → Q (.ref p) H'
theorem flat_nil : ∀ m : Nat, (List.replicate m ([] : List V)).flatten = []
  | 0 => rfl
  | m + 1 => by rw [List.replicate_succ, List.flatten_cons, flat_nil m]; rfl
theorem op_repW : OpR X (binaryOp .Mult) (rRepW X.K) := by
  intro pins s σ H x y v u Q I rx ry h
  obtain ⟨l, k, xs, rfl, rfl, hT, h0, h1, hz, q⟩ := h
  by_cases hbig : xs ≠ [] ∧ 2 ≤ k
  · exact op_repT pins s σ H _ _ v u Q I rx ry ⟨l, k, xs, rfl, rfl, hT, hbig.1, hbig.2, h1, hz, fun p np => q p _ (same_upd np) (tupNew upd_same)⟩
  cases rx
  obtain ⟨t, rfl⟩ := ry
  obtain ⟨its, r, ⟨⟨cls, dd, data, sl⟩, ho, hc, n, hd⟩, hs⟩ := I.tuple hT
  simp only at hc hd
  subst hc hd
  have hle : its.length = xs.length := r.length.symm
  have c0 : (decide (k < -(2 ^ 63)) || decide (k ≥ 2 ^ 63)) = false := by
    rw [decide_eq_false (by omega), decide_eq_false (by omega)] <;> rfl
  by_cases e1 : xs = [] ∨ k = 1
  · have c1 : (its.toArray.isEmpty || k == 1) = true := by
      rcases e1 with e | e
      · have : its = [] := List.eq_nil_of_length_eq_zero (by rw [hle, e]; rfl)
        rw [this]; rfl
      · rw [e]; simp
    refine wpAny_binaryOp_repeat_ref (T := "tuple") (U := "int") (by decide) ⟨_, ho, rfl⟩ (fun s' => typeIs_int s' k t) noFill_tuple_mul F.fills_int_mul F.slot_int_rmul repeat_tuple F.slot_int_index.lookup
      (call_meets F.slot_int_rmul (typeIs_int s k t) F.entry_int_rmul (F.args_int_rmul_2 _ _) (int_rmul_tuple k t l its.toArray n dd sl)
        ⟨ho, rfl, ⟨_, ho, rfl⟩, call_meets F.slot_tuple_mul ⟨_, ho, rfl⟩ F.entry_tuple_mul (F.args_tuple_mul_2 _ _) (tuple_mul1 l its.toArray n dd sl k t c0 c1) ⟨ho, ?_⟩⟩)
    refine ⟨.ref l, H, I, rfl, q l H (fun _ _ e => e) ?_⟩
    rcases e1 with e | e
    · subst e; rw [flat_nil]; exact hT
    · subst e
      show SqT X.K H l ([xs].flatten)
      rw [List.flatten_cons, List.flatten_nil, List.append_nil]; exact hT
  · have e2 : xs ≠ [] := fun e => e1 (.inl e)
    have e3 : k = 0 := by
      rcases Int.lt_or_le k 2 with z | z
      · have : k ≠ 1 := fun e => e1 (.inr e)
        omega
      · exact absurd ⟨e2, z⟩ hbig
    have hi : its.toArray.isEmpty = false := by
      cases its with
      | nil => exact absurd (List.eq_nil_of_length_eq_zero hle.symm) e2
      | cons a b => rfl
    have c1 : (its.toArray.isEmpty || k == 1) = false := by
      rw [hi, e3]; rfl
    have c2 : (decide (k ≤ 0) || its.toArray.isEmpty) = true := by
      rw [e3]; rfl
    refine wpAny_binaryOp_repeat_ref (T := "tuple") (U := "int") (by decide) ⟨_, ho, rfl⟩ (fun s' => typeIs_int s' k t) noFill_tuple_mul F.fills_int_mul F.slot_int_rmul repeat_tuple F.slot_int_index.lookup
      (call_meets F.slot_int_rmul (typeIs_int s k t) F.entry_int_rmul (F.args_int_rmul_2 _ _) (int_rmul_tuple k t l its.toArray n dd sl)
        ⟨ho, rfl, ⟨_, ho, rfl⟩, call_meets F.slot_tuple_mul ⟨_, ho, rfl⟩ F.entry_tuple_mul (F.args_tuple_mul_2 _ _) (tuple_mul0 l its.toArray n dd sl k t c0 c1 c2) ⟨ho, ?_⟩⟩)
    refine ⟨.ref s.heap.objs.size, _, I.laid (t' := s.toks) (o := .tup []) (fun b ob q => Heap.get?_push_of_some _ q) (Nat.le_refl _) ?_, rfl, q _ _ (same_upd (I.hok.fresh (Nat.le_refl _))) (by rw [e3]; exact tupNew upd_same)⟩
    exact ⟨Nat.zero_le _, [], .nil, IsTup.new _ _⟩
theorem op_eqI1K (h : X.K = K) (hu : X.A.units + 64 < cLine) : OpR X (compareOp .Eq) (rEqI1 K) := h ▸ op_eqI1 hu
theorem op_repWK (h : X.K = K) : OpR X (binaryOp .Mult) (rRepW K) := h ▸ op_repW
end
/-- [h(x) for x in t], t a tuple of ints -/
theorem lc_mapT {K : PySem.W.Frag} {te : TE} {h : Int → Int} {σ : L2.St} {H1 : Hp} {a D : Addr} {v : Nat} {ns : List Int} {Qd : Hp → Prop} (hT : SqT K H1 a (ns.map V.int)) (hl : ns.length ≤ 1000) (nD : H1 D = none)
    (hte : ∀ x ∈ ns, ∀ (H' : Hp) (Q : VK), Same H1 H' → (∀ H2, Same H' H2 → Q (.int (h x)) H2) → te ((wipe σ [v]).set v (some (.int x))) H' Q)
    (hd : ∀ H', Same H1 H' → H' D = some (.lst ((ns.map h).map V.int)) → Qd H') :
    ∃ W : Nat → Nat → Hp → Prop, (∃ m, W 0 m (upd H1 D (.lst []))) ∧ ∀ i m H, W i m H →
      ((Itt K a).stop i H ∧ Qd H) ∨ ((Itt K a).go i H ∧ ∃ Nx : Hp → Prop, (∀ H', Nx H' → ∃ m', m' < m ∧ W (i + 1) m' H') ∧ ∀ x H', (Itt K a).yld i H x H' → gName v x (wipe σ [v]) H' fun σ2 H2 => wipe σ2 [v] = wipe σ [v] ∧ tYes σ2 H2 fun b H3 =>
        if b = true then te σ2 H3 fun y H4 => ∃ acc, H4 D = some (.lst acc) ∧ acc.length < sizeLine ∧ Nx (upd H4 D (.lst (acc ++ [y]))) else Nx H3) := by
  refine lc_tup (K := K) (a := a) (xs := ns.map V.int) (fun i H' => Same H1 H' ∧ H' D = some (.lst (((ns.take i).map h).map V.int))) ⟨same_upd nD, upd_same⟩ (fun i H' _ p => sqT_same p.1 hT) (fun i x H' hx p => ?_) fun H' p => ?_
  · obtain ⟨k, g, rfl⟩ := map_at hx
    refine ⟨by simp [wipe, List.set_set], tt_yes (hte k (List.mem_of_getElem? g) H' _ p.1 fun H2 s2 => ⟨_, s2 _ _ p.2, ?_, fun b o z => ?_, ?_⟩)⟩
    · rw [List.length_map, List.length_map, List.length_take]; exact few1 (by omega)
    · rw [upd_ne (ne_of_none z nD)]; exact s2 _ _ (p.1 b o z)
    · rw [upd_same, List.take_add_one, g, List.map_append, List.map_append]; rfl
  · rw [List.length_map, List.take_of_length_le (Nat.le_refl _)] at p
    exact hd H' p.1 p.2
end RV
set_option maxHeartbeats 4000000
namespace RV
open PySem PySem.Spec PyProof.Rows L2
/-! ### xs.extend(t), t a tuple; t * k of any size -/
theorem ext_tup (l : Addr) (xa : Array Value) (n : Nat) (b : Addr) (xb : Array Value) (n2 : Nat) (dd : Option Addr) (sl : Array (Option Value)) (c1 : ¬(!xa.isEmpty && Builtin.List.listTooLong (xa.size + xb.size)) = true) (c2 : xa.size ≤ sizeLine) (c3 : xa.size + xb.size ≤ sizeLine + 1) :
    Meets (Builtin.«list.extend» ⟨[.ref l, .ref b], []⟩) (fun _ R s => s.heap.get? l = some { cls := .type "list", dict := none, data := .seq xa n, slots := #[] } ∧ s.heap.get? b = some { cls := .type "tuple", dict := dd, data := .seq xb n2, slots := sl } ∧ R (.ok (.ret Value.none)) { s with heap := s.heap.update l (Obj.mapSeq fun x => x ++ xb), toks := s.toks }) :=
  .of_wp fun _ _ _ _ sh hh => by
    obtain ⟨_, _, _, _, _⟩ := sh
    obtain ⟨hl, hb, h⟩ := hh
    have q1 := AutoSeq1.idx_int
    have q2 := AutoSeq1.sub_tuple_tuple
    have q3 := AutoSeq1.sub_list_list
    have q4 := AutoSeq1.sub_tuple_list
    have q5 := AutoSeq1.sub_list_tuple
    have c4 : (xa ++ xb).size ≤ sizeLine + 1 := by
      rw [Array.size_append]
      exact c3
    wp_walk using (wpAny_updateSeq hl rfl (hz := c2) (_hz' := c4)), AutoSeq1.wpAny_loadPart' hl, AutoSeq1.wpAny_loadPart' hb
    exact ⟨_, rfl, h⟩
section
variable {X : Cx} {K : PySem.W.Frag}
def rExtendT (K : PySem.W.Frag) : V → List V → Hp → VK → Prop := fun x vs H Q => ∃ l b xs zs, x = .ref l ∧ vs = [.ref b] ∧ H l = some (.lst xs) ∧ SqT K H b zs ∧ xs.length + zs.length ≤ sizeLine ∧ Q .non (upd H l (.lst (xs ++ zs)))
theorem mt_extendT : MtM X "list.extend" (rExtendT X.K) := by
  intro pins s σ H x vs v us Q I rx rv h
  obtain ⟨l, b, xs, zs, rfl, rfl, hH, hB, hz, q⟩ := h
  cases rx
  obtain ⟨u, rfl, ru⟩ := rv.one
  cases ru
  obtain ⟨z, its, n, r, hl, e⟩ := I.lstM hH
  obtain ⟨jts, r2, ⟨⟨cls, dd, data, sl⟩, e2, hc, n2, hd⟩, hl2⟩ := I.tuple hB
  simp only at hc hd
  subst hc hd
  have le2 := r2.length
  have le1 := r.length
  have hsz : its.toArray.size + jts.toArray.size ≤ sizeLine := by simp only [List.size_toArray]; omega
  have hlong : ¬ (!its.toArray.isEmpty && Builtin.List.listTooLong (its.toArray.size + jts.toArray.size)) = true := by
    rw [notLongL hsz, Bool.and_false]; simp
  refine call_meets F.slot_list_extend ⟨_, e, rfl⟩ F.entry_list_extend (F.args_list_extend_2 _ _) (ext_tup l its.toArray n b jts.toArray n2 dd sl hlong (by rw [List.size_toArray]; omega) (by omega)) ⟨e, e2, ?_⟩
  refine ⟨.non, _, I.lset (its' := its ++ jts) hH e (by simp) (r.append r2) ?_, rfl, q⟩
  rw [List.length_append]; omega
/-- t * k of any size, k from 2 on, t not empty -/
theorem op_repC {Q : VK} {pins : List (Addr × Obj)} {s : Shared} {σ : L2.St} {H : Hp} {l : Addr} {k : Int} {t : Tok} {xs : List V} (I : Inv X pins σ H s) (hT : SqT X.K H l xs) (hne : xs ≠ []) (h1 : 2 ≤ k) (hz : xs.length * k.toNat ≤ 1000000)
    (q : ∀ p, H p = none → Q (.ref p) (upd H p (.tup (List.replicate k.toNat xs).flatten))) : wpAny (model X.prog X.w) X.A (binaryOp .Mult (.ref l) (.int k t)) (EP X pins σ Q) X.xe s := by
  obtain ⟨its, r, ⟨⟨cls, dd, data, sl⟩, ho, hc, n, hd⟩, hs⟩ := I.tuple hT
  simp only at hc hd
  subst hc hd
  have hle : xs.length = its.length := r.length
  have l1 : 1 ≤ xs.length := List.length_pos_iff.mpr hne
  have hk : k.toNat ≤ 1000000 := by
    have : 1 * k.toNat ≤ xs.length * k.toNat := Nat.mul_le_mul_right _ l1
    omega
  have hi : its.toArray.isEmpty = false := by
    cases its with
    | nil => rw [List.length_nil] at hle; omega
    | cons a b => rfl
  have hm : ((its.toArray.size : Nat) : Int) * k ≤ 1000000 := by
    rw [List.size_toArray, ← hle, show k = ((k.toNat : Nat) : Int) by omega, ← Int.natCast_mul]; omega
  have flen : (List.replicate k.toNat its).flatten.length ≤ sizeLine := by
    rw [PyProof.Rows.lm_len_rep_flat, ← hle, sizeLine_eq, Nat.mul_comm]; omega
  have c0 : (decide (k < -(2 ^ 63)) || decide (k ≥ 2 ^ 63)) = false := by
    rw [Bool.or_eq_false_iff]; exact ⟨decide_eq_false (by omega), decide_eq_false (by omega)⟩
  have c1 : (its.toArray.isEmpty || k == 1) = false := by
    rw [Bool.or_eq_false_iff]; exact ⟨hi, beq_eq_false_iff_ne.mpr (by omega)⟩
  have c2 : (decide (k ≤ 0) || its.toArray.isEmpty) = false := by
    rw [Bool.or_eq_false_iff]; exact ⟨decide_eq_false (by omega), hi⟩
  have c4 : Builtin.Tuple.tupleTooMany (((its.toArray.size : Nat) : Int) * k) = false := by
    simp only [Builtin.Tuple.tupleTooMany, sizeLine_eq]; exact decide_eq_false (by omega)
  refine wpAny_binaryOp_repeat_ref (T := "tuple") (U := "int") (by decide) ⟨_, ho, rfl⟩ (fun s' => typeIs_int s' k t) noFill_tuple_mul F.fills_int_mul F.slot_int_rmul repeat_tuple F.slot_int_index.lookup (call_meets F.slot_int_rmul (typeIs_int s k t) F.entry_int_rmul (F.args_int_rmul_2 _ _) (int_rmul_tuple k t l its.toArray n dd sl) ⟨ho, rfl, ⟨_, ho, rfl⟩, ?_⟩)
  refine call_meets F.slot_tuple_mul ⟨_, ho, rfl⟩ F.entry_tuple_mul (F.args_tuple_mul_2 _ _) (tuple_mulW l its.toArray n dd sl k t c0 c1 c2 (by omega) c4 (by rw [size_rep, List.size_toArray]; exact flen)) ⟨ho, ?_⟩
  rw [size_rep]
  refine ⟨.ref s.heap.objs.size, _, I.laid (t' := s.toks) (o := .tup (List.replicate k.toNat xs).flatten) (fun b ob q => Heap.get?_push_of_some _ q) (Nat.le_refl _) ?_, rfl, q _ (I.hok.fresh (Nat.le_refl _))⟩
  refine ⟨?_, _, r.rep k.toNat, IsTup.new _ _⟩
  rw [PyProof.Rows.lm_len_rep_flat, sizeLine_eq, Nat.mul_comm]; omega
/-- t * k of any size, k from 0 on -/
def rRepB (K : PySem.W.Frag) : R2 := fun x y H Q => ∃ l k xs, x = .ref l ∧ y = .int k ∧ SqT K H l xs ∧ 1 ≤ k ∧ xs ≠ [] ∧ xs.length * k.toNat ≤ 1000000 ∧ ∀ (p : Addr) (H' : Hp), Same H H' → SqT K H' p (List.replicate k.toNat xs).flatten → Q (.ref p) H'
theorem op_repB : OpR X (binaryOp .Mult) (rRepB X.K) := by
  intro pins s σ H x y v u Q I rx ry h
  obtain ⟨l, k, xs, rfl, rfl, hT, h0, hne, hz, q⟩ := h
  cases rx
  obtain ⟨t, rfl⟩ := ry
  by_cases h2 : 2 ≤ k
  · exact op_repC I hT hne h2 hz fun p np => q p _ (same_upd np) (tupNew upd_same)
  have e : k = 1 := by omega
  subst e
  obtain ⟨its, r, ⟨⟨cls, dd, data, sl⟩, ho, hc, n, hd⟩, hs⟩ := I.tuple hT
  simp only at hc hd
  subst hc hd
  refine wpAny_binaryOp_repeat_ref (T := "tuple") (U := "int") (by decide) ⟨_, ho, rfl⟩ (fun s' => typeIs_int s' 1 t) noFill_tuple_mul F.fills_int_mul F.slot_int_rmul repeat_tuple F.slot_int_index.lookup (call_meets F.slot_int_rmul (typeIs_int s 1 t) F.entry_int_rmul (F.args_int_rmul_2 _ _) (int_rmul_tuple 1 t l its.toArray n dd sl) ⟨ho, rfl, ⟨_, ho, rfl⟩, ?_⟩)
  refine call_meets F.slot_tuple_mul ⟨_, ho, rfl⟩ F.entry_tuple_mul (F.args_tuple_mul_2 _ _) (tuple_mul1 l its.toArray n dd sl 1 t (by decide) (by simp)) ⟨ho, ?_⟩
  refine ⟨.ref l, H, I, rfl, q l H (fun _ _ e => e) ?_⟩
  show SqT X.K H l ([xs].flatten)
  rw [List.flatten_cons, List.flatten_nil, List.append_nil]; exact hT
end
end RV
namespace RV
/-- so many marks from the place q on -/
def fst (l : List Int) (q : Int) (n : Nat) : List Int := (List.range n).map fun (i : Nat) => mP l (q + (i : Int))
theorem fst_len (l : List Int) (q : Int) (n : Nat) : (fst l q n).length = n := by unfold fst; rw [List.length_map, List.length_range]
theorem fst_get {l : List Int} {q : Int} {n i : Nat} (h : i < n) : (fst l q n)[i]? = some (mP l (q + (i : Int))) := by
  unfold fst; rw [List.getElem?_map, List.getElem?_range h]; rfl
theorem fst_add (l : List Int) (q : Int) (n m : Nat) : fst l q (n + m) = fst l q n ++ fst l (q + (n : Int)) m := by
  apply List.ext_getElem?
  intro i
  rcases Nat.lt_or_ge i n with h | h
  · rw [List.getElem?_append_left (by rw [fst_len]; exact h), fst_get h, fst_get (by omega)]
  · rw [List.getElem?_append_right (by rw [fst_len]; exact h), fst_len]
    rcases Nat.lt_or_ge i (n + m) with h2 | h2
    · rw [fst_get h2, fst_get (by omega), show q + (n : Int) + ((i - n : Nat) : Int) = q + (i : Int) by omega]
    · rw [List.getElem?_eq_none (by rw [fst_len]; exact h2), List.getElem?_eq_none (by rw [fst_len]; omega)]
theorem fst_all {l : List Int} : fst l 0 l.length = l := by
  apply List.ext_getElem?
  intro i
  rcases Nat.lt_or_ge i l.length with h | h
  · rw [fst_get h, Int.zero_add, mP_get h, List.getD_eq_getElem?_getD, List.getElem?_eq_getElem h]; rfl
  · rw [List.getElem?_eq_none (by rw [fst_len]; exact h), List.getElem?_eq_none h]
/-- the mark at the place i of the run that stands at a -/
theorem mP_run {rs : List (Int × List Int)} (rn : Rn rs) {a : Nat} {r : Int × List Int} (h : rs[a]? = some r) {q : Int} {i : Nat} (hi : (i : Int) < rl r) (e : (q - (pl (rs.take a) + (i : Int))) % pl rs = 0) : r.2[i % r.2.length]? = some (mP (mk rs) q) := by
  have ml := mk_len rn.nn
  have p0 : 0 ≤ pl (rs.take a) := pl_nn fun q hq => rn.nn q (List.mem_of_mem_take hq)
  have z := mk_at rn.nn h hi
  have e1 : mP (mk rs) q = mP (mk rs) (((pl (rs.take a)).toNat + i : Nat) : Int) := mP_mod _ _ _ (by
    rw [ml, show q - (((pl (rs.take a)).toNat + i : Nat) : Int) = q - (pl (rs.take a) + (i : Int)) by omega]; exact e)
  have hw : 0 < r.2.length := List.length_pos_iff.mpr (rn r (List.mem_of_getElem? h)).2
  have hl := Nat.mod_lt i hw
  have hx : (pl (rs.take a)).toNat + i < (mk rs).length := by
    rw [List.getElem?_eq_getElem hl] at z
    exact (List.getElem?_eq_some_iff.mp z).1
  rw [e1, mP_get hx, List.getD_eq_getElem?_getD, z, List.getElem?_eq_getElem hl]; rfl
/-- a piece of the run's word gone round -/
theorem piece {rs : List (Int × List Int)} (rn : Rn rs) {a : Nat} {r : Int × List Int} (h : rs[a]? = some r) {q ins : Int} (h0 : 0 ≤ ins) {n m : Nat} (hn : ins + (n : Int) ≤ rl r) (e : (q - (pl (rs.take a) + ins)) % pl rs = 0)
    (hm : (ins % (r.2.length : Int)).toNat + n ≤ m * r.2.length) : ((rp m r.2).drop (ins % (r.2.length : Int)).toNat).take n = fst (mk rs) q n := by
  apply List.ext_getElem?
  intro i
  have hw : 0 < r.2.length := List.length_pos_iff.mpr (rn r (List.mem_of_getElem? h)).2
  rcases Nat.lt_or_ge i n with hi | hi
  · rw [List.getElem?_take_of_lt hi, List.getElem?_drop, rp_get _ _ _ (by omega), fst_get hi]
    have z := mP_run rn h (q := q + (i : Int)) (i := ins.toNat + i) (by omega) (by rw [show q + (i : Int) - (pl (rs.take a) + ((ins.toNat + i : Nat) : Int)) = q - (pl (rs.take a) + ins) by omega]; exact e)
    rw [← z]
    congr 1
    have ei : (ins % (r.2.length : Int)).toNat = ins.toNat % r.2.length := by
      rw [show ins = ((ins.toNat : Nat) : Int) by omega, ← Int.natCast_emod]; rfl
    rw [ei, Nat.mod_add_mod]
  · rw [List.getElem?_eq_none (by rw [List.length_take]; omega), List.getElem?_eq_none (by rw [fst_len]; exact hi)]
theorem pl_take_nx {rs : List (Int × List Int)} {i : Nat} {r : Int × List Int} (h : rs[i]? = some r) : pl (rs.take (i + 1)) = pl (rs.take i) + rl r := by
  rw [List.take_add_one, h, pl_app]
  show pl (rs.take i) + pl [r] = _
  rw [pl_cons]; show _ + (rl r + 0) = _; omega
/-- on to the next run -/
theorem next_run {rs : List (Int × List Int)} {a : Nat} {r : Int × List Int} (h : rs[a]? = some r) {q : Int} (e : (q - (pl (rs.take a) + rl r)) % pl rs = 0) : (q - (pl (rs.take ((a + 1) % rs.length)) + 0)) % pl rs = 0 := by
  have ha := (List.getElem?_eq_some_iff.mp h).1
  rw [← pl_take_nx h] at e
  rcases Nat.lt_or_ge (a + 1) rs.length with z | z
  · rw [Nat.mod_eq_of_lt z, Int.add_zero]; exact e
  · rw [show a + 1 = rs.length by omega] at e ⊢
    rw [List.take_length] at e
    rw [Nat.mod_self, List.take_zero]
    show (q - (0 + 0)) % pl rs = 0
    rw [show q - (0 + 0) = q - pl rs + pl rs * 1 by omega, Int.add_mul_emod_self_left]; exact e
end RV
set_option maxHeartbeats 4000000
/-! list(zip(s, t)) of two tuples -/
namespace RV
open PySem PySem.Spec PyProof.Rows L2
section
variable {prog : Program} {w : World} {A : Around} {E : Value → Shared → Prop} {s : Shared}
/-- the next pair, while the first one is still out -/
theorem zt_item {z TI TO T0 i1 i2 u1 u2 : Addr} {f : Bool} {ob : Obj} {j : Nat} {xs ys : Array Value} {x y : Value} {Q : Option Value → Shared → Prop} (D : ZipApart z TI TO i1 i2 u1 u2)
    (hz : IsZipHeld s.heap z TI TO T0 f) (h0 : s.heap.get? T0 = some ob) (hP : IsPair s.heap TI (.ref i1) (.ref i2)) (a1 : s.heap.IsTupleIter i1 u1 j) (a2 : s.heap.IsTupleIter i2 u2 j) (b1 : s.heap.IsTuple u1 xs) (b2 : s.heap.IsTuple u2 ys)
    (ex : xs[j]? = some x) (ey : ys[j]? = some y)
    (q : ∀ hh, IsZipHeld hh z TI TO T0 true → hh.IsTupleIter i1 u1 (j + 1) → hh.IsTupleIter i2 u2 (j + 1) → IsPair hh s.heap.objs.size x y → hh.objs.size = s.heap.objs.size + 1 → (∀ c o, c ≠ z → c ≠ i1 → c ≠ i2 → s.heap.get? c = some o → hh.get? c = some o) → Q (some (.ref s.heap.objs.size)) { s with heap := hh }) :
    wpAny (model prog w) A (pyNext (.ref z)) Q E s := by
  have tz : s.TypeIs (.ref z) "zip" := ⟨_, hz, rfl⟩
  unfold pyNext
  refine wpAny_bind (wpAny_attempt (wpAny_callSpecial?_slot (name := Str.ofString "__next__") tz F.slot_zip_next (wpAny_call_entry F.slot_zip_next tz F.entry_zip_next ?_ (F.args_zip_next_1 _))))
  show wpAny _ _ (field (.ref z) 2 >>= fun _ => _) _ _ s
  refine wpAny_bind (wpAny_field hz rfl (x := .bool false) rfl (wpAny_bind (wpAny_field hz rfl (x := .ref TI) rfl (wpAny_bind (wpAny_seqItems hP rfl (wpAny_bind (wpAny_tupleHeld_zip hz h0 fun g1 z1 k1 => ?_)))))))
  simp only [Bool.false_eq_true, if_false]
  refine wpAny_bind ?_
  rw [← Array.forIn_toList]; simp only [List.forIn_cons, List.forIn_nil]
  refine wpAny_bind (wpAny_bind (wpAny_holding (wpAny_bind (wpAny_nextOf_tuple_item (s := { s with heap := g1 }) (a1.extBut k1.extBut D.i1z) (b1.extBut k1.extBut D.l1z) ex fun g2 c1 k2 => wpAny_pure (wpAny_pure ?_)))))
  refine wpAny_bind (wpAny_bind (wpAny_holding (wpAny_bind (wpAny_nextOf_tuple_item (s := { s with heap := g2 }) ((a2.extBut k1.extBut D.i2z).extBut k2.extBut D.i12.symm) ((b2.extBut k1.extBut D.l2z).extBut k2.extBut D.l2i1) ey fun g3 c2 k3 => wpAny_pure (wpAny_pure (wpAny_pure ?_))))))
  show wpAny _ _ (newTuple [x, y] >>= fun _ => _) _ _ _
  refine wpAny_bind (wpAny_newTuple ?_)
  have ez : g3.objs.size = s.heap.objs.size := by rw [k3.1, k2.1, k1.1]
  have z3 : IsZipHeld g3 z TI TO T0 true := k3.extBut _ _ D.i2z.symm (k2.extBut _ _ D.i1z.symm z1)
  have c13 := c1.extBut k3.extBut D.i12
  have np : IsPair (g3.push { cls := .type "tuple", data := .seq #[x, y] }) g3.objs.size x y := Heap.get?_push_size _ rfl
  have nz : (g3.push { cls := .type "tuple", data := .seq #[x, y] }).objs.size = g3.objs.size + 1 := Heap.size_push ..
  refine wpAny_pure ⟨_, rfl, wpAny_pure ?_⟩
  show Q (some (.ref g3.objs.size)) _
  rw [ez] at np nz ⊢
  exact q _ (Heap.get?_push_of_some _ z3) (c13.at fun o e => Heap.get?_push_of_some _ e) (c2.at fun o e => Heap.get?_push_of_some _ e) np nz fun c o n1 n2 n3 e => Heap.get?_push_of_some _ (k3.extBut _ _ n3 (k2.extBut _ _ n2 (k1.extBut _ _ n1 e)))
theorem zt_end {z TI TO T0 i1 i2 u1 u2 : Addr} {f : Bool} {ob : Obj} {j : Nat} {xs ys : Array Value} {Q : Option Value → Shared → Prop} (hh : A.handled = none) (D : ZipApart z TI TO i1 i2 u1 u2)
    (hz : IsZipHeld s.heap z TI TO T0 f) (h0 : s.heap.get? T0 = some ob) (hP : IsPair s.heap TI (.ref i1) (.ref i2)) (a1 : s.heap.IsTupleIter i1 u1 j) (a2 : s.heap.IsTupleIter i2 u2 j) (b1 : s.heap.IsTuple u1 xs) (b2 : s.heap.IsTuple u2 ys)
    (no : xs[j]? = none ∨ ys[j]? = none) (q : ∀ hp, (∀ c o, c ≠ z → c ≠ i1 → c ≠ i2 → s.heap.get? c = some o → hp.get? c = some o) → Q none { s with heap := hp }) : wpAny (model prog w) A (pyNext (.ref z)) Q E s := by
  have tz : s.TypeIs (.ref z) "zip" := ⟨_, hz, rfl⟩
  unfold pyNext
  have fin : ∀ (hp : Heap) (e : Addr), (∀ c o, c ≠ z → c ≠ i1 → c ≠ i2 → s.heap.get? c = some o → hp.get? c = some o) → (∃ o, hp.get? e = some o ∧ o.cls = .type "StopIteration") →
      wpAny (model prog w) A (do if ← isInstance (.ref e) (.type "StopIteration") then pure none else throw (.ref e)) Q E { s with heap := hp } := fun hp e k ⟨o, ho, hc⟩ => by
    refine wpAny_bind (wpAny_isInstance (T := "StopIteration") (b := true) ⟨o, ho, hc⟩ isSubtype_stop ?_)
    exact wpAny_pure (q _ k)
  refine wpAny_bind (wpAny_attempt (wpAny_callSpecial?_slot (name := Str.ofString "__next__") tz F.slot_zip_next (wpAny_call_entry F.slot_zip_next tz F.entry_zip_next ?_ (F.args_zip_next_1 _))))
  show wpAny _ _ (field (.ref z) 2 >>= fun _ => _) _ _ s
  refine wpAny_bind (wpAny_field hz rfl (x := .bool false) rfl (wpAny_bind (wpAny_field hz rfl (x := .ref TI) rfl (wpAny_bind (wpAny_seqItems hP rfl (wpAny_bind (wpAny_tupleHeld_zip hz h0 fun g1 z1 k1 => ?_)))))))
  simp only [Bool.false_eq_true, if_false]
  refine wpAny_bind ?_
  rw [← Array.forIn_toList]; simp only [List.forIn_cons, List.forIn_nil]
  refine wpAny_bind (wpAny_bind (wpAny_holding ?_))
  cases ex : xs[j]? with
  | none => exact wpAny_bind (wpAny_nextOf_tuple_end (s := { s with heap := g1 }) hh (a1.extBut k1.extBut D.i1z) (b1.extBut k1.extBut D.l1z) ex fun g2 e k2 he => fin g2 e (fun c o n1 n2 _ y => k2 _ _ n2 (k1.extBut _ _ n1 y)) he)
  | some x =>
    have ey : ys[j]? = none := by
      rcases no with n | n
      · rw [ex] at n; cases n
      · exact n
    refine wpAny_bind (wpAny_nextOf_tuple_item (s := { s with heap := g1 }) (a1.extBut k1.extBut D.i1z) (b1.extBut k1.extBut D.l1z) ex fun g2 c1 k2 => wpAny_pure (wpAny_pure (wpAny_bind (wpAny_bind (wpAny_holding ?_)))))
    exact wpAny_bind (wpAny_nextOf_tuple_end (s := { s with heap := g2 }) hh ((a2.extBut k1.extBut D.i2z).extBut k2.extBut D.i12.symm) ((b2.extBut k1.extBut D.l2z).extBut k2.extBut D.l2i1) ey fun g3 e k3 he => fin g3 e (fun c o n1 n2 n3 y => k3 _ _ n3 (k2.extBut _ _ n2 (k1.extBut _ _ n1 y))) he)
/-- where the walk stands behind j pairs -/
structure ZSt (h : Heap) (z TI TO i1 i2 u1 u2 S : Addr) (j : Nat) : Prop where
  pr : IsPair h TI (.ref i1) (.ref i2)
  a1 : h.IsTupleIter i1 u1 j
  a2 : h.IsTupleIter i2 u2 j
  st : (j = 0 ∧ IsZip h z TI TO .none ∧ ∃ a b, IsPair h TO a b) ∨ ∃ T0 f ob, IsZipHeld h z TI TO T0 f ∧ h.get? T0 = some ob ∧ T0 ≠ z ∧ T0 ≠ i1 ∧ T0 ≠ i2 ∧ T0 ≠ S
theorem ZSt.keep {h h' : Heap} {z TI TO i1 i2 u1 u2 S : Addr} {j : Nat} (x : ZSt h z TI TO i1 i2 u1 u2 S j) (k : ∀ b o, b ≠ S → h.get? b = some o → h'.get? b = some o) (n1 : z ≠ S) (n2 : TI ≠ S) (n3 : TO ≠ S) (n4 : i1 ≠ S) (n5 : i2 ≠ S) : ZSt h' z TI TO i1 i2 u1 u2 S j := by
  obtain ⟨p, a1, a2, st⟩ := x
  refine ⟨k _ _ n2 p, a1.at fun o e => k _ _ n4 e, a2.at fun o e => k _ _ n5 e, ?_⟩
  rcases st with ⟨e, hz, a, b, ho⟩ | ⟨T0, f, ob, hz, h0, m1, m2, m3, m4⟩
  · exact .inl ⟨e, k _ _ n1 hz, a, b, k _ _ n3 ho⟩
  · exact .inr ⟨T0, f, ob, k _ _ n1 hz, k _ _ m4 h0, m1, m2, m3, m4⟩
theorem zs_item {z TI TO i1 i2 u1 u2 S : Addr} {j : Nat} {xs ys : Array Value} {x y : Value} {Q : Option Value → Shared → Prop} (D : ZipApart z TI TO i1 i2 u1 u2) (x0 : ZSt s.heap z TI TO i1 i2 u1 u2 S j) (hS : S < s.heap.objs.size) (b1 : s.heap.IsTuple u1 xs) (b2 : s.heap.IsTuple u2 ys) (ex : xs[j]? = some x) (ey : ys[j]? = some y)
    (q : ∀ hh, ZSt hh z TI TO i1 i2 u1 u2 S (j + 1) → IsPair hh s.heap.objs.size x y → (∀ c o, c ≠ z → c ≠ TO → c ≠ i1 → c ≠ i2 → s.heap.get? c = some o → hh.get? c = some o) → Q (some (.ref s.heap.objs.size)) { s with heap := hh }) : wpAny (model prog w) A (pyNext (.ref z)) Q E s := by
  obtain ⟨p, a1, a2, st⟩ := x0
  have lt : ∀ {c o}, s.heap.get? c = some o → s.heap.objs.size ≠ c := fun e => Nat.ne_of_gt (Heap.lt_size e)
  have l1 : s.heap.objs.size ≠ i1 := by obtain ⟨_, e, _⟩ := a1; exact lt e
  have l2 : s.heap.objs.size ≠ i2 := by obtain ⟨_, e, _⟩ := a2; exact lt e
  rcases st with ⟨e, hz, a, b, ho⟩ | ⟨T0, f, ob, hz, h0, m1, m2, m3, m4⟩
  · exact RZ.pyNext_zipT_item D hz p ho a1 a2 b1 b2 ex ey fun hh z' o' c1 c2 np nz k => q hh ⟨k _ _ D.TIz D.TITO D.TIi1 D.TIi2 p, c1, c2, .inr ⟨s.heap.objs.size, false, _, z', np, lt hz, l1, l2, Nat.ne_of_gt hS⟩⟩ np k
  · exact zt_item D hz h0 p a1 a2 b1 b2 ex ey fun hh z' c1 c2 np nz k => q hh ⟨k _ _ D.TIz D.TIi1 D.TIi2 p, c1, c2, .inr ⟨T0, true, ob, z', k _ _ m1 m2 m3 h0, m1, m2, m3, m4⟩⟩ np fun c o n1 _ n3 n4 e => k c o n1 n3 n4 e
theorem zs_end {z TI TO i1 i2 u1 u2 S : Addr} {j : Nat} {xs ys : Array Value} {Q : Option Value → Shared → Prop} (hh : A.handled = none) (D : ZipApart z TI TO i1 i2 u1 u2) (x0 : ZSt s.heap z TI TO i1 i2 u1 u2 S j) (b1 : s.heap.IsTuple u1 xs) (b2 : s.heap.IsTuple u2 ys) (no : xs[j]? = none ∨ ys[j]? = none)
    (q : ∀ hp, (∀ c o, c ≠ z → c ≠ TO → c ≠ i1 → c ≠ i2 → s.heap.get? c = some o → hp.get? c = some o) → Q none { s with heap := hp }) : wpAny (model prog w) A (pyNext (.ref z)) Q E s := by
  obtain ⟨p, a1, a2, st⟩ := x0
  rcases st with ⟨e, hz, a, b, ho⟩ | ⟨T0, f, ob, hz, h0, m1, m2, m3, m4⟩
  · exact RZ.pyNext_zipT_end hh D hz p ho a1 a2 b1 b2 no q
  · exact zt_end hh D hz h0 p a1 a2 b1 b2 no fun hp k => q hp fun c o n1 _ n3 n4 e => k c o n1 n3 n4 e
/-- the tuples told so far -/
structure ZG (xs ys : Array Value) (lo : Addr) (h : Heap) (as : List Addr) : Prop where
  up : as.Pairwise (· < ·)
  hi : ∀ a ∈ as, lo < a
  at_ : ∀ (j : Nat) (a : Addr), as[j]? = some a → ∃ x y, xs[j]? = some x ∧ ys[j]? = some y ∧ IsPair h a x y
theorem ZG.lt {xs ys : Array Value} {lo : Addr} {h : Heap} {as : List Addr} (g : ZG xs ys lo h as) {a : Addr} (ha : a ∈ as) : a < h.objs.size := by
  obtain ⟨j, hj⟩ := List.mem_iff_getElem?.mp ha
  obtain ⟨_, _, _, _, e⟩ := g.at_ j a hj
  exact Heap.lt_size e
theorem zs_loop {R : Result → Shared → Prop} {z TI TO i1 i2 u1 u2 S : Addr} {xs ys : Array Value} (hh : A.handled = none) (D : ZipApart z TI TO i1 i2 u1 u2) (n1 : z < S) (n2 : TI < S) (n3 : TO < S) (n4 : i1 < S) (n5 : i2 < S) (n6 : u1 < S) (n7 : u2 < S) (hn : min xs.size ys.size ≤ sizeLine) (res : Value) {h1 : Heap}
    (q : ∀ h' tk acc c as, (∀ b o, b ≠ S → b ≠ z → b ≠ TO → b ≠ i1 → b ≠ i2 → h1.get? b = some o → h'.get? b = some o) → h'.get? S = some { cls := .type "list", dict := none, data := .seq acc c, slots := #[] } → as.length = min xs.size ys.size → ZG xs ys S h' as → acc.toList = as.map Value.ref → R (.ok (.ret res)) { s with heap := h', toks := tk }) :
    ∀ (k j : Nat) (h : Heap) (tk c : Nat) (acc : Array Value) (as : List Addr), min xs.size ys.size - j = k → j ≤ min xs.size ys.size → ZSt h z TI TO i1 i2 u1 u2 S j → h.IsTuple u1 xs → h.IsTuple u2 ys → (∀ b o, b ≠ S → b ≠ z → b ≠ TO → b ≠ i1 → b ≠ i2 → h1.get? b = some o → h.get? b = some o) →
      h.get? S = some { cls := .type "list", dict := none, data := .seq acc c, slots := #[] } → acc.toList = as.map Value.ref → as.length = j → ZG xs ys S h as → codeAny (model prog w) A (.builtin "list.extend.loop" ⟨[.ref S, .ref z, res], []⟩) R { s with heap := h, toks := tk } := by
  intro k
  induction k with
  | zero =>
    intro j h tk c acc as hk hj x0 b1 b2 kp hS ea la g
    refine codeAny_builtin PySem.F.entry_extend_loop ?_
    rw [Around.under_plainId PySem.F.plain_extend_loop _]
    show wpAny _ A.in1 (pyNext (.ref z) >>= fun _ => _) _ _ _
    have no : xs[j]? = none ∨ ys[j]? = none := by
      by_cases e : xs.size ≤ j
      · exact .inl (by simp; omega)
      · exact .inr (by simp; omega)
    refine wpAny_bind (zs_end (s := { s with heap := h, toks := tk }) (A := A.in1) hh D x0 b1 b2 no fun hp k2 => ?_)
    have up : ∀ b o, S ≤ b → h.get? b = some o → hp.get? b = some o := fun b o lb e => k2 b o (Nat.ne_of_gt (Nat.lt_of_lt_of_le n1 lb)) (Nat.ne_of_gt (Nat.lt_of_lt_of_le n3 lb)) (Nat.ne_of_gt (Nat.lt_of_lt_of_le n4 lb)) (Nat.ne_of_gt (Nat.lt_of_lt_of_le n5 lb)) e
    refine wpAny_pure (q hp tk acc c as (fun b o m0 m1 m2 m3 m4 e => k2 b o m1 m2 m3 m4 (kp b o m0 m1 m2 m3 m4 e)) (up S _ (Nat.le_refl _) hS) (by omega) ⟨g.up, g.hi, fun i a hi => ?_⟩ ea)
    obtain ⟨x, y, e1, e2, e3⟩ := g.at_ i a hi
    exact ⟨x, y, e1, e2, up a _ (Nat.le_of_lt (g.hi a (List.mem_of_getElem? hi))) e3⟩
  | succ k ih =>
    intro j h tk c acc as hk hj x0 b1 b2 kp hS ea la g
    have hlt : j < min xs.size ys.size := by omega
    have ex : xs[j]? = some (xs[j]'(by omega)) := Array.getElem?_eq_getElem _
    have ey : ys[j]? = some (ys[j]'(by omega)) := Array.getElem?_eq_getElem _
    have sz : acc.size = j := by rw [← Array.length_toList, ea, List.length_map, la]
    refine codeAny_builtin PySem.F.entry_extend_loop ?_
    rw [Around.under_plainId PySem.F.plain_extend_loop _]
    show wpAny _ A.in1 (pyNext (.ref z) >>= fun _ => _) _ _ _
    refine wpAny_bind (zs_item (s := { s with heap := h, toks := tk }) D x0 (Heap.lt_size hS) b1 b2 ex ey fun hp x1 np k2 => ?_)
    have hSl : S < h.objs.size := Heap.lt_size hS
    have ge : ∀ b o, S ≤ b → h.get? b = some o → hp.get? b = some o := fun b o lb e => k2 b o (Nat.ne_of_gt (Nat.lt_of_lt_of_le n1 lb)) (Nat.ne_of_gt (Nat.lt_of_lt_of_le n3 lb)) (Nat.ne_of_gt (Nat.lt_of_lt_of_le n4 lb)) (Nat.ne_of_gt (Nat.lt_of_lt_of_le n5 lb)) e
    have hS' := ge S _ (Nat.le_refl _) hS
    replace np : IsPair hp h.objs.size _ _ := np
    have up : ∀ b o, b ≠ S → hp.get? b = some o → (hp.update S (Obj.mapSeq (·.push (Value.ref h.objs.size)))).get? b = some o := fun b o hb e => (Heap.get?_update_other _ _ (Ne.symm hb)).trans e
    have ut : ∀ {u : Addr} {vs : Array Value}, u < S → u ≠ z → u ≠ TO → u ≠ i1 → u ≠ i2 → h.IsTuple u vs → (hp.update S (Obj.mapSeq (·.push (Value.ref h.objs.size)))).IsTuple u vs := fun {u vs} lu m1 m2 m3 m4 ⟨o, e, r⟩ => ⟨o, up u o (Nat.ne_of_lt lu) (k2 u o m1 m2 m3 m4 e), r⟩
    show wpAny _ A.in1 (updateSeq S (·.push (Value.ref h.objs.size)) >>= fun _ => _) _ _ _
    refine wpAny_bind ?_
    refine wpAny_updateSeq hS' rfl (wpAny_pure ⟨plainId_quiet PySem.F.plain_extend_loop _, ih (j + 1) _ tk _ (acc.push (Value.ref h.objs.size)) (as ++ [h.objs.size]) (by omega) hlt (x1.keep up (Nat.ne_of_lt n1) (Nat.ne_of_lt n2) (Nat.ne_of_lt n3) (Nat.ne_of_lt n4) (Nat.ne_of_lt n5)) (ut n6 D.l1z D.l1TO D.l1i1 D.l1i2 b1) (ut n7 D.l2z D.l2TO D.l2i1 D.l2i2 b2)
      (fun b o m0 m1 m2 m3 m4 e => up b o m0 (k2 b o m1 m2 m3 m4 (kp b o m0 m1 m2 m3 m4 e))) (Heap.get?_update_self _ hS' rfl) (by rw [Array.toList_push, ea, List.map_append]; rfl) (by rw [List.length_append, la]; rfl) ⟨?_, ?_, ?_⟩⟩) (by rw [sz]; omega) (by show (acc.push (Value.ref h.objs.size)).size ≤ sizeLine + 1; rw [Array.size_push, sz]; omega)
    · refine List.pairwise_append.mpr ⟨g.up, List.pairwise_singleton _ _, fun a ha b hb => ?_⟩
      rw [List.mem_singleton.mp hb]; exact g.lt ha
    · intro a ha
      rcases List.mem_append.mp ha with y | y
      · exact g.hi a y
      · rw [List.mem_singleton.mp y]; exact hSl
    · intro i b hi
      by_cases e : i < as.length
      · rw [List.getElem?_append_left e] at hi
        obtain ⟨x, y, e1, e2, e3⟩ := g.at_ i b hi
        have lb := g.hi b (List.mem_of_getElem? hi)
        exact ⟨x, y, e1, e2, up b _ (Nat.ne_of_gt lb) (ge b _ (Nat.le_of_lt lb) e3)⟩
      · have hl := (List.getElem?_eq_some_iff.mp hi).1
        rw [List.length_append] at hl
        have ei : i = as.length := by
          have : [h.objs.size].length = 1 := rfl
          omega
        subst ei
        rw [List.getElem?_append_right (Nat.le_refl _), Nat.sub_self] at hi
        have eb : h.objs.size = b := Option.some.inj hi
        subst eb
        exact ⟨_, _, by rw [la]; exact ex, by rw [la]; exact ey, up _ _ (Nat.ne_of_gt hSl) np⟩
theorem zip_nolen : typeLookup (.type "zip") "__len__" = pure none := am_miss_of_fast (by decide +kernel)
theorem zip_nohint : typeLookup (.type "zip") "__length_hint__" = pure none := am_miss_of_fast (by decide +kernel)
theorem zs_extend {R : Result → Shared → Prop} {z TI TO i1 i2 u1 u2 S : Addr} {xs ys : Array Value} (hh : A.handled = none) (D : ZipApart z TI TO i1 i2 u1 u2) (x0 : ZSt s.heap z TI TO i1 i2 u1 u2 S 0) (hz : IsZip s.heap z TI TO .none) (b1 : s.heap.IsTuple u1 xs) (b2 : s.heap.IsTuple u2 ys) (n1 : z < S) (n2 : TI < S) (n3 : TO < S) (n4 : i1 < S) (n5 : i2 < S) (n6 : u1 < S) (n7 : u2 < S) (hn : min xs.size ys.size ≤ sizeLine) (res : Value) (c0 : Nat) (hS : s.heap.get? S = some { cls := .type "list", data := .seq #[] c0 })
    (q : ∀ h' tk acc c as, (∀ b o, b ≠ S → b ≠ z → b ≠ TO → b ≠ i1 → b ≠ i2 → s.heap.get? b = some o → h'.get? b = some o) → h'.get? S = some { cls := .type "list", dict := none, data := .seq acc c, slots := #[] } → as.length = min xs.size ys.size → ZG xs ys S h' as → acc.toList = as.map Value.ref → R (.ok (.ret res)) { s with heap := h', toks := tk }) :
    wpAny (model prog w) A.in1 (Builtin.List.listExtendWith (.ref S) (.ref z) res)
      (fun fin s' => match fin with | .done f => R (.ok f) s' | .again c' => c'.quiet = true ∧ codeAny (model prog w) A c' R s') (fun e s' => R (.error e) s') s := by
  have tz : s.TypeIs (.ref z) "zip" := ⟨_, hz, rfl⟩
  have key : ∀ (h : Heap) (c1 : Nat), (∀ b o, b ≠ S → s.heap.get? b = some o → h.get? b = some o) → h.get? S = some { cls := .type "list", data := .seq #[] c1 } → codeAny (model prog w) A (.builtin "list.extend.loop" ⟨[.ref S, .ref z, res], []⟩) R { s with heap := h, toks := s.toks } := fun h c1 k hS1 =>
    zs_loop (s := s) (h1 := s.heap) hh D n1 n2 n3 n4 n5 n6 n7 hn res q (min xs.size ys.size) 0 h s.toks c1 #[] [] (Nat.sub_zero _) (Nat.zero_le _) (x0.keep k (Nat.ne_of_lt n1) (Nat.ne_of_lt n2) (Nat.ne_of_lt n3) (Nat.ne_of_lt n4) (Nat.ne_of_lt n5))
      (let ⟨o, e, r⟩ := b1; ⟨o, k _ _ (Nat.ne_of_lt n6) e, r⟩) (let ⟨o, e, r⟩ := b2; ⟨o, k _ _ (Nat.ne_of_lt n7) e, r⟩) (fun b o m0 _ _ _ _ e => k b o m0 e) hS1 rfl rfl ⟨List.Pairwise.nil, (fun _ ha => nomatch ha), (fun j a hj => by simp at hj)⟩
  unfold Builtin.List.listExtendWith
  refine wpAny_bind (wpAny_typeOf (T := "zip") tz ?_)
  have e1 : Builtin.List.listSameRef (.ref S) (.ref z) = false := by simp [Builtin.List.listSameRef, Nat.ne_of_gt n1]
  have e2 : (Value.type "zip" == Value.type "list") = false := by decide
  have e3 : (Value.type "zip" == Value.type "tuple") = false := by decide
  simp only [e1, e2, e3, Bool.or_false, Bool.false_eq_true, if_false]
  refine wpAny_bind (wpAny_pyIter_zip hz (wpAny_bind (wpAny_holding ?_)))
  unfold Builtin.List.listLengthHint
  refine wpAny_bind (wpAny_specialOf tz zip_nolen ?_)
  show wpAny _ A.in1 (specialOf (Value.ref z) (Str.ofString "__length_hint__") >>= fun _ => _) _ _ _
  refine wpAny_bind (wpAny_specialOf tz zip_nohint (wpAny_pure ?_))
  show wpAny _ A.in1 (rule "list.extend.makes-room" >>= fun _ => Builtin.List.listTouch (.ref S) >>= fun _ => again (.builtin "list.extend.loop" ⟨[.ref S, .ref z, res], []⟩)) _ _ _
  refine wpAny_bind (wpAny_rule (wpAny_bind ?_))
  show wpAny _ _ (updateSeq S (·.push .none) >>= fun _ => updateSeq S (·.pop)) _ _ _
  refine wpAny_bind (wpAny_updateSeq hS rfl ?_)
  have g2 := Heap.get?_update_self (Obj.mapSeq (·.push Value.none)) hS rfl
  refine wpAny_updateSeq (hz := by seq_fits) g2 rfl ?_
  have g3 := Heap.get?_update_self (Obj.mapSeq (·.pop)) g2 rfl
  refine wpAny_pure ⟨plainId_quiet PySem.F.plain_extend_loop _, key _ _ (fun b o hb e => ?_) g3⟩
  exact (Heap.get?_update_other _ _ (Ne.symm hb)).trans ((Heap.get?_update_other _ _ (Ne.symm hb)).trans e)
theorem ZG.low {xs ys : Array Value} {lo lo' : Addr} {h : Heap} {as : List Addr} (g : ZG xs ys lo h as) (l : lo' ≤ lo) : ZG xs ys lo' h as := ⟨g.up, fun a ha => Nat.lt_of_le_of_lt l (g.hi a ha), g.at_⟩
theorem zs_call {z TI TO i1 i2 u1 u2 : Addr} {xs ys : Array Value} {Q : Value → Shared → Prop} (hh : A.handled = none) (D : ZipApart z TI TO i1 i2 u1 u2) (hz : IsZip s.heap z TI TO .none) (hP : IsPair s.heap TI (.ref i1) (.ref i2)) (hO : ∃ a b, IsPair s.heap TO a b) (a1 : s.heap.IsTupleIter i1 u1 0) (a2 : s.heap.IsTupleIter i2 u2 0) (b1 : s.heap.IsTuple u1 xs) (b2 : s.heap.IsTuple u2 ys) (hn : min xs.size ys.size ≤ sizeLine)
    (q : ∀ h' tk acc c as, (∀ b o, b ≠ z → b ≠ TO → b ≠ i1 → b ≠ i2 → s.heap.get? b = some o → h'.get? b = some o) → h'.get? s.heap.objs.size = some { cls := .type "list", dict := none, data := .seq acc c, slots := #[] } → as.length = min xs.size ys.size → ZG xs ys s.heap.objs.size h' as → acc.toList = as.map Value.ref → Q (.ref s.heap.objs.size) { s with heap := h', toks := tk }) :
    wpAny (model prog w) A (call (.type "list") [.ref z]) Q E s := by
  refine callType_codes (Q₁ := fun obj s₁ => obj = .ref s.heap.objs.size ∧ s₁ = { s with heap := s.heap.push { cls := .type "list", data := .seq #[] } }) PySem.F.called_list (PySem.F.typeCall_list_1 _) PySem.F.entry_list_init (code_list_new _ ⟨rfl, rfl⟩) fun obj s₁ h₁ => ?_
  obtain ⟨rfl, rfl⟩ := h₁
  have hS : (s.heap.push { cls := .type "list", data := .seq #[] }).get? s.heap.objs.size = some { cls := .type "list", data := .seq #[] } := Heap.get?_push_size _ rfl
  refine ⟨⟨_, hS, rfl⟩, PySem.F.args_list_init_2 _ _, ?_⟩
  show wpAny _ A.in1.in1 (do let old ← Builtin.List.listItems (.ref s.heap.objs.size); Builtin.List.listUpdate (.ref s.heap.objs.size) (fun _ => #[]); letGo old.toList.reverse; Builtin.List.listExtendWith (.ref s.heap.objs.size) (.ref z) .none) _ _ _
  refine wpAny_bind ?_
  unfold Builtin.List.listItems
  refine wpAny_bind (wpAny_seqItems hS rfl (wpAny_pure ?_))
  show wpAny _ _ (updateSeq s.heap.objs.size (fun _ => #[]) >>= fun _ => letGo (#[] : Array Value).toList.reverse >>= fun _ => Builtin.List.listExtendWith (.ref s.heap.objs.size) (.ref z) .none) _ _ _
  refine wpAny_bind (wpAny_updateSeq hS rfl ?_)
  have g2 := Heap.get?_update_self (Obj.mapSeq (fun _ => (#[] : Array Value))) hS rfl
  have oth : ∀ b o, s.heap.get? b = some o → ((s.heap.push { cls := .type "list", data := .seq #[] }).update s.heap.objs.size (Obj.mapSeq (fun _ => (#[] : Array Value)))).get? b = some o :=
    fun b o e => (Heap.get?_update_other _ _ (Nat.ne_of_gt (Heap.lt_size e))).trans (Heap.get?_push_of_some _ e)
  refine wpAny_bind (wpAny_letGo ?_)
  obtain ⟨oa, ob, hO⟩ := hO
  have l1 : i1 < s.heap.objs.size := by obtain ⟨_, e, _⟩ := a1; exact Heap.lt_size e
  have l2 : i2 < s.heap.objs.size := by obtain ⟨_, e, _⟩ := a2; exact Heap.lt_size e
  have l3 : u1 < s.heap.objs.size := by obtain ⟨_, e, _⟩ := b1; exact Heap.lt_size e
  have l4 : u2 < s.heap.objs.size := by obtain ⟨_, e, _⟩ := b2; exact Heap.lt_size e
  have key := zs_extend (prog := prog) (w := w) (A := A.in1) (s := { s with heap := (s.heap.push { cls := .type "list", data := .seq #[] }).update s.heap.objs.size (Obj.mapSeq (fun _ => (#[] : Array Value))) }) (R := wants (fun v s' => v = .none ∧ Q (.ref s.heap.objs.size) s') E) hh D
    ⟨oth _ _ hP, a1.at fun o e => oth _ _ e, a2.at fun o e => oth _ _ e, .inl ⟨rfl, oth _ _ hz, oa, ob, oth _ _ hO⟩⟩ (oth _ _ hz) (let ⟨o, e, r⟩ := b1; ⟨o, oth _ _ e, r⟩) (let ⟨o, e, r⟩ := b2; ⟨o, oth _ _ e, r⟩) (Heap.lt_size hz) (Heap.lt_size hP) (Heap.lt_size hO) l1 l2 l3 l4 hn .none _ g2
    (fun h' tk acc c as k hS' la g ea => ⟨rfl, q h' tk acc c as (fun b o m1 m2 m3 m4 e => k b o (Nat.ne_of_lt (Heap.lt_size e)) m1 m2 m3 m4 (oth b o e)) hS' la g ea⟩)
  exact key
end
theorem lookup_zip {β : Type} : ∀ {as : List Addr} {ps : List β}, as.Nodup → ∀ {j : Nat} {a : Addr} {p : β}, as[j]? = some a → ps[j]? = some p → (as.zip ps).lookup a = some p
  | [], _, _, j, a, p, h, _ => by simp at h
  | _ :: _, [], _, j, a, p, _, h => by simp at h
  | b :: as, r :: ps, nd, 0, a, p, h1, h2 => by
    have e1 : b = a := Option.some.inj h1
    have e2 : r = p := Option.some.inj h2
    subst e1 e2
    simp [List.lookup]
  | b :: as, r :: ps, nd, j + 1, a, p, h1, h2 => by
    have h1' : as[j]? = some a := h1
    have hn := List.nodup_cons.mp nd
    have ne : (a == b) = false := by
      rw [beq_eq_false_iff_ne]
      intro e
      exact hn.1 (e ▸ List.mem_of_getElem? h1')
    show ((b, r) :: as.zip ps).lookup a = some p
    rw [List.lookup_cons, ne]
    exact lookup_zip hn.2 h1' h2
theorem lookup_not {β : Type} : ∀ {as : List Addr} {ps : List β} {a : Addr}, a ∉ as → (as.zip ps).lookup a = none
  | [], _, _, _ => by simp
  | _ :: _, [], _, _ => by simp
  | b :: as, r :: ps, a, h => by
    have ne : (a == b) = false := by
      rw [beq_eq_false_iff_ne]
      intro e
      exact h (by rw [e]; exact List.mem_cons_self ..)
    show ((b, r) :: as.zip ps).lookup a = none
    rw [List.lookup_cons, ne]
    exact lookup_not fun z => h (List.mem_cons_of_mem _ z)
def putZ (H : Hp) (S : Addr) (as : List Addr) (ps : List (V × V)) : Hp := fun b => if b = S then some (.lst (as.map V.ref)) else match (as.zip ps).lookup b with
  | some p => some (.tup [p.1, p.2])
  | none => H b
def tListZip (K : PySem.W.Frag) (ta : TA) : TE := fun σ H Q => ta σ H fun vs H1 => ∃ a b xs ys, vs = [.ref a, .ref b] ∧ SqT K H1 a xs ∧ SqT K H1 b ys ∧
  ∀ (H' : Hp) (p : Addr) (ts : List Addr), Same H1 H' → H1 p = none → H' p = some (.lst (ts.map V.ref)) → ts.length = min xs.length ys.length → (∀ (j : Nat) (t : Addr), ts[j]? = some t → ∃ x y, xs[j]? = some x ∧ ys[j]? = some y ∧ H' t = some (.tup [x, y])) → Q (.ref p) H'
section
variable {X : Cx} {e e2 : Expr} {ta : TA} {p p2 pos pos2 : Pos}
/-- list(zip(s, t)) -/
theorem pe_listZip (hc : X.calm = true) (hg : Gl X "list") (hm : X.mg "list" = none) (hg2 : Gl X "zip") (hm2 : X.mg "zip" = none) (ha : PA X [e, e2] ta)
    (hs : starEach [.Call (.Name "zip" p2) [e, e2] [] pos2] X.env = (false, eval (.Call (.Name "zip" p2) [e, e2] [] pos2) X.env) :: starEach [] X.env := by rfl)
    (hs2 : starEach [e, e2] X.env = (false, eval e X.env) :: starEach [e2] X.env := by rfl) (hpl : (backTo pos2 (starEach [e2] X.env)).any (·.1) = false := by rfl) :
    PE X (.Call (.Name "list" p) [.Call (.Name "zip" p2) [e, e2] [] pos2] [] pos) (tListZip X.K ta) := by
  refine ⟨fun pins s σ H Q I hq => ?_⟩
  refine wpAny_Call_Name_kw (ld_blt I hg hm boot_list (PyProof.Rows.callWith_type1 ?_ hs rfl))
  rw [hs]
  refine Calls.spliced_cons (Call_ (ld_blt I hg2 hm2 PyProof.Rows.boot_zip (PyProof.Rows.callWith_type1 (thn (ha.run pos2 pins s σ H _ I hq) fun us s1 ⟨vs, H1, I1, r1, q1⟩ => ?_) hs2 hpl)))
  obtain ⟨a, b, xs, ys, ex, hx, hy, q⟩ := q1
  subst ex
  obtain ⟨v1, v2, rfl, r2, r3⟩ := vals2 r1
  cases r2
  cases r3
  obtain ⟨its, rv, t1, z1⟩ := I1.tuple hx
  obtain ⟨its2, rv2, t2, z2⟩ := I1.tuple hy
  obtain ⟨o1, ho1, _⟩ := id t1
  obtain ⟨o2, ho2, _⟩ := id t2
  have l1 := rv.length
  have l2 := rv2.length
  refine RZ.call_zipT (show s1.heap.IsTuple a its.toArray from t1) (show s1.heap.IsTuple b its2.toArray from t2) fun h1 hz hP hO i1 i2 hsz hk => Calls.spliced_nil ?_
  have D := PySem.W.ktu_apart s1.heap.objs.size a b (Heap.lt_size ho1) (Heap.lt_size ho2)
  refine zs_call (s := { s1 with heap := h1 }) (I1.ok.hd hc) D hz hP ⟨_, _, hO⟩ i1 i2 (let ⟨o, e, r⟩ := t1; ⟨o, hk _ _ e, r⟩) (let ⟨o, e, r⟩ := t2; ⟨o, hk _ _ e, r⟩) (by rw [List.size_toArray, List.size_toArray]; omega) fun h' tk acc c as k hS la g ea => ?_
  dsimp only at k hS g ⊢
  rw [List.size_toArray, List.size_toArray, ← l1, ← l2] at la
  have kp : ∀ b o, s1.heap.get? b = some o → h'.get? b = some o := fun b o e => by
    have lb := Heap.lt_size e
    exact k b o (Nat.ne_of_lt (Nat.lt_of_lt_of_le lb (Nat.le_add_right _ _))) (Nat.ne_of_lt (Nat.lt_of_lt_of_le lb (Nat.le_add_right _ _))) (Nat.ne_of_lt lb) (Nat.ne_of_lt (Nat.lt_succ_of_lt lb)) (hk b o e)
  have sz5 : s1.heap.objs.size ≤ h1.objs.size := by rw [hsz]; exact Nat.le_add_right _ _
  have ab : ∀ t ∈ as, s1.heap.objs.size ≤ t := fun t ht => Nat.le_of_lt (Nat.lt_of_le_of_lt sz5 (g.hi t ht))
  have nd : as.Nodup := List.Pairwise.imp (fun {a b} (h : a < b) => Nat.ne_of_lt h) g.up
  have new : ∀ t, s1.heap.objs.size ≤ t → H1 t = none := fun t ht => I1.hok.fresh ht
  have hSn : h1.objs.size ∉ as := fun z => Nat.lt_irrefl _ (g.hi _ z)
  have atH : ∀ (j : Nat) (t : Addr), as[j]? = some t → ∃ x y, xs[j]? = some x ∧ ys[j]? = some y ∧ putZ H1 h1.objs.size as (xs.zip ys) t = some (.tup [x, y]) ∧ ∃ u v, RelV x u ∧ RelV y v ∧ IsPair h' t u v := fun j t hj => by
    have hjl := (List.getElem?_eq_some_iff.mp hj).1
    obtain ⟨u, v, e1, e2, e3⟩ := g.at_ j t hj
    have ex : xs[j]? = some (xs[j]'(by omega)) := List.getElem?_eq_getElem _
    have ey : ys[j]? = some (ys[j]'(by omega)) := List.getElem?_eq_getElem _
    obtain ⟨u', hu', ru⟩ := rv.get ex
    obtain ⟨v', hv', rv'⟩ := rv2.get ey
    have eu : u' = u := by
      have z : its[j]? = some u := by simpa using e1
      rw [hu'] at z; exact Option.some.inj z
    have ev : v' = v := by
      have z : its2[j]? = some v := by simpa using e2
      rw [hv'] at z; exact Option.some.inj z
    subst eu ev
    refine ⟨_, _, ex, ey, ?_, u', v', ru, rv', e3⟩
    have ez : (xs.zip ys)[j]? = some (xs[j]'(by omega), ys[j]'(by omega)) := by
      rw [List.getElem?_zip_eq_some]; exact ⟨ex, ey⟩
    unfold putZ
    rw [if_neg (show ¬ t = h1.objs.size from fun z => hSn (by rw [← z]; exact List.mem_of_getElem? hj)), lookup_zip nd hj ez]
  have eS : putZ H1 h1.objs.size as (xs.zip ys) h1.objs.size = some (.lst (as.map V.ref)) := by unfold putZ; rw [if_pos rfl]
  have off : ∀ t, t ∉ as → t ≠ h1.objs.size → putZ H1 h1.objs.size as (xs.zip ys) t = H1 t := fun t n1 n2 => by
    unfold putZ
    rw [if_neg n2, lookup_not n1]
  have kpH : ∀ t o, H1 t = some o → putZ H1 h1.objs.size as (xs.zip ys) t = some o := fun t o e => by
    rw [off t (fun z => by rw [new t (ab t z)] at e; cases e) (fun z => by rw [z, new _ sz5] at e; cases e)]
    exact e
  refine ⟨.ref h1.objs.size, putZ H1 h1.objs.size as (xs.zip ys), ?_, rfl, q _ _ as kpH (new _ sz5) eS la fun j t hj => ?_⟩
  · have J := I1.call' (ch := []) (H' := putZ H1 h1.objs.size as (xs.zip ys)) (s' := { s1 with heap := h', toks := tk }) rfl ⟨fun b o q _ _ _ => kp b o q, fun b o q _ _ _ => ⟨o.slots, kp b o q⟩, fun b o q n _ => ?_, fun b o q _ => ⟨o, kp b o q⟩, fun b xs q => kpH b _ q, fun b o u q => kpH b _ q, fun b ps q => ⟨#[], by rw [kpH b _ q]; simp⟩⟩ (fun b u q => ?_) I1.bare fun b z => by simp at z
    · exact J
    · have lb := Heap.lt_size q
      rw [off b (fun z => absurd lb (Nat.not_lt.mpr (ab b z))) (fun z => absurd lb (Nat.not_lt.mpr (by rw [z]; exact sz5)))]
      exact n
    · by_cases hb : b ∈ as
      · obtain ⟨j, hj⟩ := List.mem_iff_getElem?.mp hb
        obtain ⟨x, y, _, _, e3, u1, v1, ru, rv', pr⟩ := atH j b hj
        rw [e3] at q
        cases q
        exact ⟨by show 2 ≤ sizeLine; decide, [u1, v1], .cons ru (.cons rv' .nil), ⟨_, pr, rfl, _, rfl⟩⟩
      · by_cases hb2 : b = h1.objs.size
        · subst hb2
          rw [eS] at q
          cases q
          refine ⟨by rw [List.length_map]; omega, acc.toList, c, by rw [ea]; exact LiI.vals_refs as, ?_⟩
          rw [Array.toArray_toList]
          exact hS
        · rw [off b hb hb2] at q
          exact (I1.hok b u q).stay (fun d v _ y => kp d v y) (fun d y => kpH d _ y) fun d xs y => kpH d _ y
  · obtain ⟨x, y, e1, e2, e3, _⟩ := atH j t hj
    exact ⟨x, y, e1, e2, e3⟩
end
end RV
set_option maxHeartbeats 4000000
namespace K6
open PySem PySem.Spec PyProof.Rows L2 RV
theorem cut_mid {xs : List V} {i j : Nat} (h : i ≤ j) (h2 : j ≤ xs.length) : cutV xs (some (i : Int)) (some (j : Int)) = (xs.drop i).take (j - i) := by
  unfold cutV
  rw [HT.sIx_nat, HT.sIx_nat, Nat.min_eq_left h2, Nat.min_eq_left (by omega)]
theorem rep_map (n : Nat) (w : List Int) : (List.replicate n (w.map V.int)).flatten = (rp n w).map V.int := by
  unfold rp
  rw [List.map_flatten, List.map_replicate]
section
variable {P : Program} {w : World} {K : PySem.W.Frag} {mg : Str → Option Value} {base : Heap}
/-! ### stretch -/
theorem scStretch : FnScope ["ring", "first", "many", "at", "inside", "found", "marks", "wanted", "start", "rounds"] ["ring", "first", "many"] (defScope sStretch) := ⟨rfl, rfl, rfl, by decide +kernel, rfl, by decide +kernel, by decide +kernel⟩
def spStretch (K : PySem.W.Frag) : Sp := fun vs H Q _ => ∃ (a : Addr) (q0 : Int) (n : Nat) (rs : List (Int × List Int)), vs = [.ref a, .int q0, .int (n : Int)] ∧ RingAt K H a rs ∧ Sz rs ∧ n ≤ 100000 ∧
  ∀ (H' : Hp) (T : Addr), Same H H' → H' T = some (.tup ((fst (mk rs) q0 n).map V.int)) → Q (.ref T) H'
def leftSt (n : Nat) (c : Addr) (H : Hp) : Nat := match H c with
  | some (.lst xs) => n - xs.length
  | _ => 0
theorem leftSt_eq {n : Nat} {c : Addr} {H : Hp} {xs : List V} (h : H c = some (.lst xs)) : leftSt n c H = n - xs.length := by unfold leftSt; rw [h]
theorem ok_stretch {f fR fP fS : Addr} {fd dR dP dS : FuncData} (F : Fun K "stretch" "stretch" sStretch f fd) (B : Bare mg) (DR : DefAt K mg "run_places" sRunPl ["run"] fR dR) (DP : DefAt K mg "places" sRPlaces ["ring"] fP dP) (DS : DefAt K mg "spot" sSpot ["ring", "place"] fS dS) :
    FnOk P w K mg base CX0 4 f fd ["ring", "first", "many"] (spStretch K) := by
  have GS : FnOk P w K mg base CX0 3 fS dS ["ring", "place"] (spSpot K) := ok_spot DS.fn B DR DP
  have GR : FnOk P w K mg base CX0 1 fR dR ["run"] (spRunPl K) := ok_runpl DR.fn B
  refine F.ok scStretch (fun vs H Q E h => ?_) (fun cdv A outer s H vs Q E hr h => ?_)
  · obtain ⟨a, q0, n, rs, rfl, _⟩ := h
    rfl
  · obtain ⟨a, q0, n, rs, rfl, hR, hz, hn, q⟩ := h
    have r1 := hr.mono (show 1 ≤ 3 by decide)
    refine ⟨_, pss_cons (ps_asg (pe_call GS hr (by rfl) DS.mg DS.fn.kp DS.bi .nil pass0 (pa_cons (pv 0) (pa_cons (pv 1) pa_nil))) (pg_tup (by rfl) (pgs_cons (pg_name (i := 3) scStretch.nd rfl (Or.inl rfl)) (pgs_cons (pg_name (i := 4) scStretch.nd rfl (Or.inl rfl)) pgs_nil))))
      (pss_cons (ps_set (i := 5) scStretch.nd rfl (Or.inl rfl) (pe_lst pa_nil))
      (pss_cons (ps_while PassesOwn.never (pt_cmpR op_lt (pe_callB call_len_seq (by rfl) B.len PySem.boot_len (pa_cons (pv 5) pa_nil)) (pv 2) (nomark _))
        (pss_cons (ps_set (i := 6) scStretch.nd rfl (Or.inl rfl) (pe_ix ix_tup (pe_ix ix_tup (pv 0) (pv 3) (fun _ _ => rfl)) pe_int (fun _ _ => rfl)))
        (pss_cons (ps_set (i := 7) scStretch.nd rfl (Or.inl rfl) (pe_callB (call_min2 rfl) (by rfl) B.min (by decide +kernel) (pa_cons (pe_op op_sub (pv 2) (pe_callB call_len_seq (by rfl) B.len PySem.boot_len (pa_cons (pv 5) pa_nil)))
            (pa_cons (pe_op op_sub (pe_call GR r1 (by rfl) DR.mg DR.fn.kp DR.bi .nil pass0 (pa_cons (pe_ix ix_tup (pv 0) (pv 3) (fun _ _ => rfl)) pa_nil)) (pv 4)) pa_nil))))
        (pss_cons (ps_set (i := 8) scStretch.nd rfl (Or.inl rfl) (pe_op op_mod (pv 4) (pe_callB call_len_seq (by rfl) B.len PySem.boot_len (pa_cons (pv 6) pa_nil))))
        (pss_cons (ps_set (i := 9) scStretch.nd rfl (Or.inl rfl) (pe_op op_add (pe_op op_fdiv (pe_op op_add (pv 8) (pv 7)) (pe_callB call_len_seq (by rfl) B.len PySem.boot_len (pa_cons (pv 6) pa_nil))) pe_int))
        (pss_cons (ps_expr (pe_bm PySem.F.plainAttrs_list PySem.F.slot_list_extend PySem.F.type_list_extend mt_extendT (pv 5) (pa_cons (pe_slice sl_tupW (pe_op op_repB (pv 6) (pv 9)) (po_some (pv 8)) (po_some (pe_op op_add (pv 8) (pv 7)))) pa_nil)))
        (pss_cons (ps_set (i := 3) scStretch.nd rfl (Or.inl rfl) (pe_op op_mod (pe_op op_add (pv 3) pe_int) (pe_callB call_len_seq (by rfl) B.len PySem.boot_len (pa_cons (pv 0) pa_nil))))
        (pss_one (ps_set (i := 4) scStretch.nd rfl (Or.inl rfl) pe_int)))))))))
      (pss_one (ps_ret (pe_tupleOf (by rfl) B.tuple (pv 5)))))), ?_⟩
    refine ⟨.ref a, rfl, .int q0, rfl, a, q0, rs, rfl, hR, hz, fun H1 T i x s1 eT hA => ?_⟩
    refine ⟨T, _, rfl, tupNew eT, rfl, _, _, rfl, _, _, rfl, rfl, ?_⟩
    refine ⟨Nat.zero_le _, fun c nc => ?_⟩
    have sc := same_upd (o := .lst []) nc
    have hp := hz.rn.pos hz.ne
    have ncH : H c = none := s1.free nc
    have hq0 : (q0 - (pl (rs.take i) + x)) % pl rs = 0 := by
      rw [← hA.eq, Int.sub_emod, Int.emod_emod_of_dvd q0 (Int.dvd_refl _), Int.sub_self, Int.zero_emod]
    refine while_by (fun σ H' => ∃ (m i : Nat) (x : Int) (y6 y7 y8 y9 : Option V), σ = [some (.ref a), some (.int q0), some (.int (n : Int)), some (.int (i : Int)), some (.int x), some (.ref c), y6, y7, y8, y9] ∧ Same H H' ∧ H' c = some (.lst ((fst (mk rs) q0 m).map V.int)) ∧ m ≤ n ∧
        (m = n ∨ (0 ≤ x ∧ (∃ r, rs[i]? = some r ∧ x < rl r) ∧ (q0 + (m : Int) - (pl (rs.take i) + x)) % pl rs = 0)))
      (fun _ H' => leftSt n c H') ?_ ?_ ?_
    · exact ⟨0, i, x, none, none, none, none, rfl, s1.trans sc, upd_same, Nat.zero_le _, .inr ⟨hA.nn, hA.run, by rw [show q0 + ((0 : Nat) : Int) - (pl (rs.take i) + x) = q0 - (pl (rs.take i) + x) by omega]; exact hq0⟩⟩
    · rintro σ H2 ⟨m, i, x, y6, y7, y8, y9, rfl, s2, ec, hm, hd⟩
      have lf := fst_len (mk rs) q0 m
      refine ⟨.ref c, rfl, c, _, rfl, .inl (lstNew ec), .int (n : Int), rfl, _, _, rfl, rfl, _, rfl, ite2 (fun hlt => ?_) (fun hge => ?_)⟩
      · have hlt := of_decide_eq_true hlt
        rw [List.length_map, lf] at hlt
        obtain ⟨x0, ⟨r, gr, hx⟩, hmod⟩ := hd.resolve_left (by omega)
        obtain ⟨ks, ek, hT, hk⟩ := hR.same s2
        obtain ⟨k, gk, ekk⟩ : ∃ k, ks[i]? = some k ∧ r = valR k := map_at (by rw [ek]; exact gr)
        have km := List.mem_of_getElem? gk
        have kt : (ks.map fun k => V.ref k.1)[i]? = some (.ref k.1) := by rw [List.getElem?_map, gk]; rfl
        have hw := (hk k km).2
        have wl : r.2.length ≤ 3000 := hz.wo r (List.mem_of_getElem? gr)
        have wp : 0 < r.2.length := List.length_pos_iff.mpr (hz.rn r (List.mem_of_getElem? gr)).2
        have e2 : k.2.2.2 = r.2 := by rw [ekk]; rfl
        rw [e2] at hw
        -- marks
        refine ⟨.ref a, rfl, .int (i : Int), rfl, a, _, _, .ref k.1, rfl, rfl, hT, atI_nat kt, k.1, _, 1, .ref k.2.1, rfl, rfl, (hk k km).1, rfl, ?_⟩
        -- wanted
        refine ⟨.int (n : Int), rfl, .ref c, rfl, c, _, rfl, .inl (lstNew ec), _, _, rfl, rfl, .ref a, rfl, .int (i : Int), rfl, a, _, _, .ref k.1, rfl, rfl, hT, atI_nat kt, k, rfl, hk k km, by rw [e2]; exact wl, .int x, rfl, _, _, rfl, rfl, _, _, rfl, ?_⟩
        rw [List.length_map, lf, ← ekk]
        obtain ⟨wn, ewn, hw1, hw2, hw3, hw4⟩ : ∃ wn : Nat, (if rl r - x < (n : Int) - (m : Int) then rl r - x else (n : Int) - (m : Int)) = (wn : Int) ∧ 0 < wn ∧ m + wn ≤ n ∧ x + (wn : Int) ≤ rl r ∧ (m + wn = n ∨ x + (wn : Int) = rl r) := by
          split
          · exact ⟨(rl r - x).toNat, by omega, by omega, by omega, by omega, .inr (by omega)⟩
          · exact ⟨((n : Int) - (m : Int)).toNat, by omega, by omega, by omega, by omega, .inl (by omega)⟩
        rw [ewn]
        -- start
        refine ⟨.int x, rfl, .ref k.2.1, rfl, k.2.1, _, rfl, .inr hw, _, _, rfl, rfl, by rw [List.length_map]; omega, ?_⟩
        rw [List.length_map]
        obtain ⟨st, est⟩ : ∃ st : Nat, x % (r.2.length : Int) = (st : Int) := ⟨(x % (r.2.length : Int)).toNat, by have := Int.emod_nonneg x (show (r.2.length : Int) ≠ 0 by omega); omega⟩
        have stl := Int.emod_lt_of_pos x (show (0 : Int) < (r.2.length : Int) by omega)
        have est' : (x % (r.2.length : Int)).toNat = st := by omega
        show gName 8 (.int (x % (r.2.length : Int))) _ _ _
        rw [est]
        -- rounds
        refine ⟨.int (st : Int), rfl, .int (wn : Int), rfl, _, _, rfl, rfl, .ref k.2.1, rfl, k.2.1, _, rfl, .inr hw, _, _, rfl, rfl, by rw [List.length_map]; exact ⟨by omega, by omega⟩, _, _, rfl, rfl, ?_⟩
        rw [List.length_map]
        have d1 := Nat.div_add_mod (st + wn) r.2.length
        have d2 := Nat.mod_lt (st + wn) wp
        have erd : ((st : Int) + (wn : Int)) / (r.2.length : Int) + 1 = (((st + wn) / r.2.length + 1 : Nat) : Int) := by
          rw [Int.natCast_add, Int.natCast_ediv, Int.natCast_add]; rfl
        generalize (st + wn) / r.2.length = dv at d1 erd
        have d3 : r.2.length * (dv + 1) = r.2.length * dv + r.2.length := by rw [Nat.mul_add, Nat.mul_one]
        have d4 : (dv + 1) * r.2.length = r.2.length * (dv + 1) := Nat.mul_comm _ _
        generalize dv + 1 = rd at erd d3 d4
        have rd1 : 1 ≤ rd := by
          rcases Nat.eq_zero_or_pos rd with z | z
          · subst z; omega
          · exact z
        show gName 9 (.int (((st : Int) + (wn : Int)) / (r.2.length : Int) + 1)) _ _ _
        rw [erd]
        -- extend
        refine ⟨.ref c, rfl, .inl ⟨rfl, _, lstNew ec⟩, .ref k.2.1, rfl, .int (rd : Int), rfl, k.2.1, _, _, rfl, rfl, hw, by omega, ?_, ?_, fun p3 H3 s3 h3 => ?_⟩
        · intro z; rw [List.map_eq_nil_iff] at z; rw [z] at wp; exact absurd wp (by decide)
        · rw [List.length_map, Int.toNat_natCast]; omega
        rw [Int.toNat_natCast, rep_map] at h3
        refine ⟨_, rfl, _, rfl, _, rfl, _, rfl, _, _, rfl, rfl, _, rfl, p3, _, rfl, h3, fun p4 H4 s4 h4 => ?_⟩
        rw [show (st : Int) + (wn : Int) = ((st + wn : Nat) : Int) by omega, cut_mid (by omega) (by rw [List.length_map, rp_len]; omega), show st + wn - st = wn by omega, ← List.map_drop, ← List.map_take, ← est', piece hz.rn gr (q := q0 + (m : Int)) x0 hw3 hmod (by omega)] at h4
        have ec4 := (s3.trans s4) _ _ ec
        refine ⟨c, p4, _, _, rfl, rfl, ec4, h4, ?_, ?_⟩
        · rw [List.length_map, List.length_map, lf, fst_len, sizeLine_eq]; omega
        rw [← List.map_append, ← fst_add]
        have s04 : Same H (upd H4 c (.lst ((fst (mk rs) q0 (m + wn)).map V.int))) := fun b o e => by
          rw [upd_ne (ne_of_none e ncH)]; exact ((s2.trans s3).trans s4) b o e
        have hT5 := (hR.same s04)
        obtain ⟨ks5, ek5, hT5, _⟩ := hT5
        have lk5 : ks5.length = rs.length := by rw [← ek5, List.length_map]
        have il : i < rs.length := (List.getElem?_eq_some_iff.mp gr).1
        refine ⟨.int (i : Int), rfl, _, _, rfl, rfl, .ref a, rfl, a, _, rfl, .inr hT5, _, _, rfl, rfl, by rw [List.length_map]; omega, ?_⟩
        rw [List.length_map, lk5]
        show gName 3 (.int (((i : Int) + 1) % (rs.length : Int))) _ _ _
        rw [show ((i : Int) + 1) % (rs.length : Int) = (((i + 1) % rs.length : Nat) : Int) by rw [Int.natCast_emod, Int.natCast_add]; rfl]
        refine ⟨⟨m + wn, (i + 1) % rs.length, 0, _, _, _, _, rfl, s04, upd_same, hw2, ?_⟩, ?_⟩
        · rcases hw4 with z | z
          · exact .inl z
          · have nx : (i + 1) % rs.length < rs.length := Nat.mod_lt _ (by omega)
            refine .inr ⟨Int.le_refl _, ⟨rs[(i + 1) % rs.length], List.getElem?_eq_getElem nx, rl_pos (hz.rn _ (List.getElem_mem _))⟩, next_run gr ?_⟩
            rw [show q0 + ((m + wn : Nat) : Int) - (pl (rs.take i) + rl r) = q0 + (m : Int) - (pl (rs.take i) + x) by omega]; exact hmod
        · rw [leftSt_eq ec, leftSt_eq (xs := (fst (mk rs) q0 (m + wn)).map V.int) upd_same, List.length_map, List.length_map, fst_len, fst_len]; omega
      · have hge := of_decide_eq_false (eq_false_of_ne_true hge)
        rw [List.length_map, lf] at hge
        have em : m = n := by omega
        subst em
        refine ⟨.ref c, rfl, .inl ⟨c, _, rfl, lstNew ec, fun u nu => ?_⟩⟩
        exact q _ u (s2.trans (same_upd nu)) upd_same
    · intro σ H1 Q1 Q2 hq h
      obtain ⟨v, e, z, y, e1, o, v2, e2, i1, i2, e3, e4, b, e5, h6⟩ := h
      exact ⟨v, e, z, y, e1, o, v2, e2, i1, i2, e3, e4, b, e5, hq _ _ h6⟩
/-! ### spelled, of few places -/
theorem scSpelled : FnScope ["ring", "many"] ["ring"] (defScope sSpelled) := ⟨rfl, rfl, rfl, by decide +kernel, rfl, by decide +kernel, by decide +kernel⟩
def spSpelled (K : PySem.W.Frag) : Sp := fun vs H Q _ => ∃ (a : Addr) (rs : List (Int × List Int)), vs = [.ref a] ∧ RingAt K H a rs ∧ Sz rs ∧ pl rs ≤ 6000 ∧
  ∀ (H' : Hp) (T : Addr), Same H H' → H' T = some (.tup ((mk rs).map V.int)) → Q (.ref T) H'
theorem ok_spelled {f fR fP fS fT : Addr} {fd dR dP dS dT : FuncData} {t : Tok} (F : Fun K "spelled" "spelled" sSpelled f fd) (B : Bare mg) (ms : mg "MOST_SPELLED" = some (.int 6000 t)) (DR : DefAt K mg "run_places" sRunPl ["run"] fR dR) (DP : DefAt K mg "places" sRPlaces ["ring"] fP dP) (DS : DefAt K mg "spot" sSpot ["ring", "place"] fS dS)
    (DT : DefAt K mg "stretch" sStretch ["ring", "first", "many"] fT dT) : FnOk P w K mg base CX0 5 f fd ["ring"] (spSpelled K) := by
  have GP : FnOk P w K mg base CX0 2 fP dP ["ring"] (spRPlaces K) := ok_rplaces DP.fn B DR
  have GT : FnOk P w K mg base CX0 4 fT dT ["ring", "first", "many"] (spStretch K) := ok_stretch DT.fn B DR DP DS
  refine F.ok scSpelled (fun vs H Q E h => ?_) (fun cdv A outer s H vs Q E hr h => ?_)
  · obtain ⟨a, rs, rfl, _⟩ := h
    rfl
  · obtain ⟨a, rs, rfl, hR, hz, hn, q⟩ := h
    have r2 := hr.mono (show 2 ≤ 4 by decide)
    refine ⟨_, pss_cons (ps_set (i := 1) scSpelled.nd rfl (Or.inl rfl) (pe_call GP r2 (by rfl) DP.mg DP.fn.kp DP.bi .nil pass0 (pa_cons (pv 0) pa_nil)))
      (pss_cons (ps_if (pt_cmpR op_gt (pv 1) (pe_glob (v := .int 6000) rfl ms ⟨_, rfl⟩) (nomark _)) (pss_one ps_never) pss_nil)
      (pss_one (ps_ret (pe_call GT hr (by rfl) DT.mg DT.fn.kp DT.bi .nil pass0 (pa_cons (pv 0) (pa_cons pe_int (pa_cons (pv 1) pa_nil))))))), ?_⟩
    have hf := hz.few
    refine ⟨.ref a, rfl, a, rs, rfl, hR, by omega, hz.wo, fun H1 s1 => ?_⟩
    refine ⟨.int (pl rs), rfl, _, _, rfl, rfl, _, rfl, ?_⟩
    rw [decide_eq_false (by omega)]
    refine iteF ?_
    have ml := mk_len hz.rn.nn
    refine ⟨.ref a, rfl, .int (pl rs), rfl, a, 0, (mk rs).length, rs, by rw [ml]; rfl, hR.same s1, hz, by omega, fun H2 T s2 eT => q H2 T (s1.trans s2) (by rw [fst_all] at eT; exact eT)⟩
end
end K6
set_option maxHeartbeats 4000000
namespace RV
open PySem PySem.Spec PyProof.Rows L2
theorem walk_revT {K : PySem.W.Frag} {a : Addr} {xs : List V} : Walk (RT.ItvT K a xs.length) xs.length (fun H => SqT K H a xs) (YAt xs.reverse) := by
  refine ⟨fun i H hi g => ⟨hi, xs, xs[xs.length - 1 - i], g, List.getElem?_eq_getElem (by omega)⟩, fun H _ => Nat.le_refl _, fun i H x H' hi g y => ⟨y.1, ?_⟩⟩
  rw [List.getElem?_reverse hi]
  exact y.2 xs g
/-- [h(x) for x in reversed(t)], t a tuple of ints -/
theorem lc_mapRev {K : PySem.W.Frag} {te : TE} {h : Int → Int} {σ : L2.St} {H1 : Hp} {a D : Addr} {v : Nat} {ns : List Int} {Qd : Hp → Prop} (hT : SqT K H1 a (ns.map V.int)) (hl : ns.length ≤ 1000) (nD : H1 D = none)
    (hte : ∀ x ∈ ns, ∀ (H' : Hp) (Q : VK), Same H1 H' → (∀ H2, Same H' H2 → Q (.int (h x)) H2) → te ((wipe σ [v]).set v (some (.int x))) H' Q)
    (hd : ∀ H', Same H1 H' → H' D = some (.lst ((ns.reverse.map h).map V.int)) → Qd H') :
    ∃ W : Nat → Nat → Hp → Prop, (∃ m, W 0 m (upd H1 D (.lst []))) ∧ ∀ i m H, W i m H →
      ((RT.ItvT K a (ns.map V.int).length).stop i H ∧ Qd H) ∨ ((RT.ItvT K a (ns.map V.int).length).go i H ∧ ∃ Nx : Hp → Prop, (∀ H', Nx H' → ∃ m', m' < m ∧ W (i + 1) m' H') ∧ ∀ x H', (RT.ItvT K a (ns.map V.int).length).yld i H x H' → gName v x (wipe σ [v]) H' fun σ2 H2 => wipe σ2 [v] = wipe σ [v] ∧ tYes σ2 H2 fun b H3 =>
        if b = true then te σ2 H3 fun y H4 => ∃ acc, H4 D = some (.lst acc) ∧ acc.length < sizeLine ∧ Nx (upd H4 D (.lst (acc ++ [y]))) else Nx H3) := by
  refine lc_it walk_revT (fun i H' => Same H1 H' ∧ H' D = some (.lst (((ns.reverse.take i).map h).map V.int))) ⟨same_upd nD, upd_same⟩ (fun i H' _ p => sqT_same p.1 hT) (fun i x Hx H' hx p y => ?_) fun H' p => ?_
  · obtain ⟨rfl, hx⟩ := y
    rw [← List.map_reverse] at hx
    obtain ⟨k, g, rfl⟩ := map_at hx
    refine ⟨by simp [wipe, List.set_set], tt_yes (hte k (List.mem_reverse.mp (List.mem_of_getElem? g)) H' _ p.1 fun H2 s2 => ⟨_, s2 _ _ p.2, ?_, fun b o z => ?_, ?_⟩)⟩
    · rw [List.length_map, List.length_map, List.length_take, List.length_reverse]; exact few1 (by omega)
    · rw [upd_ne (ne_of_none z nD)]; exact s2 _ _ (p.1 b o z)
    · rw [upd_same, List.take_add_one, g, List.map_append, List.map_append]; rfl
  · rw [List.length_map, List.take_of_length_le (by rw [List.length_reverse]; exact Nat.le_refl _)] at p
    exact hd H' p.1 p.2
/-- [c(x) for x in range(n)] of truths -/
theorem lc_blR {te : TE} {c : Int → Bool} {σ : L2.St} {H1 : Hp} {D : Addr} {v n : Nat} {Qd : Hp → Prop} (hl : n ≤ 1000) (nD : H1 D = none)
    (hte : ∀ x : Int, 0 ≤ x → x < (n : Int) → ∀ (H' : Hp) (Q : VK), Same H1 H' → (∀ H2, Same H' H2 → Q (.bl (c x)) H2) → te ((wipe σ [v]).set v (some (.int x))) H' Q)
    (hd : ∀ H', Same H1 H' → H' D = some (.lst (((upN n).map c).map V.bl)) → Qd H') :
    ∃ W : Nat → Nat → Hp → Prop, (∃ m, W 0 m (upd H1 D (.lst []))) ∧ ∀ i m H, W i m H →
      ((Itr 0 n).stop i H ∧ Qd H) ∨ ((Itr 0 n).go i H ∧ ∃ Nx : Hp → Prop, (∀ H', Nx H' → ∃ m', m' < m ∧ W (i + 1) m' H') ∧ ∀ x H', (Itr 0 n).yld i H x H' → gName v x (wipe σ [v]) H' fun σ2 H2 => wipe σ2 [v] = wipe σ [v] ∧ tYes σ2 H2 fun b H3 =>
        if b = true then te σ2 H3 fun y H4 => ∃ acc, H4 D = some (.lst acc) ∧ acc.length < sizeLine ∧ Nx (upd H4 D (.lst (acc ++ [y]))) else Nx H3) := by
  refine lc_range (lo := 0) (n := n) (fun i H' => Same H1 H' ∧ H' D = some (.lst ((((upN n).take i).map c).map V.bl))) ⟨same_upd nD, upd_same⟩ (fun i H' hi p => ?_) fun H' p => ?_
  · have g : (upN n)[i]? = some (i : Int) := upN_get hi
    rw [Int.zero_add]
    refine ⟨by simp [wipe, List.set_set], tt_yes (hte (i : Int) (by omega) (by omega) H' _ p.1 fun H2 s2 => ⟨_, s2 _ _ p.2, ?_, fun b o z => ?_, ?_⟩)⟩
    · rw [List.length_map, List.length_map, List.length_take, upN_len]; exact few1 (by omega)
    · rw [upd_ne (ne_of_none z nD)]; exact s2 _ _ (p.1 b o z)
    · rw [upd_same, List.take_add_one, g, List.map_append, List.map_append]; rfl
  · rw [List.take_of_length_le (by rw [upN_len]; exact Nat.le_refl _)] at p
    exact hd H' p.1 p.2
theorem decV (a b : Int) : decide (V.int a = V.int b) = decide (a = b) := by
  by_cases h : a = b
  · rw [h, decide_eq_true rfl, decide_eq_true rfl]
  · rw [decide_eq_false h, decide_eq_false fun z => h (V.int.inj z)]
end RV
set_option maxHeartbeats 4000000
namespace K6
open PySem PySem.Spec PyProof.Rows L2 RV
theorem flds_no (a b t : Addr) {m : Str} (h1 : ¬ m = "mirrors") (h2 : ¬ m = "steps") (h3 : ¬ m = "followers") : (flds a b t).lookup m = none := by
  unfold flds
  rw [lookup_putF, if_neg h3, lookup_putF, if_neg h2, lookup_putF, if_neg h1]
  all_goals rfl
theorem mem_behind {n : Int} {ps : List (List Int)} (hp : ∀ p ∈ ps, Pr n p) {m j : Int} : j ∈ behindOf ps m ↔ [m, j] ∈ ps := by
  unfold behindOf
  rw [List.mem_map]
  constructor
  · rintro ⟨p, h1, h2⟩
    obtain ⟨h3, h4⟩ := List.mem_filter.mp h1
    obtain ⟨x, y, rfl, _⟩ := hp p h3
    have e1 : x = m := of_decide_eq_true h4
    have e2 : y = j := h2
    subst e1 e2
    exact h3
  · intro h
    exact ⟨[m, j], List.mem_filter.mpr ⟨h, decide_eq_true rfl⟩, rfl⟩
theorem atI_m1 {xs : List V} {v : V} (h : xs[xs.length - 1]? = some v) : atI xs (-1) = some v := by
  obtain ⟨hl, e⟩ := List.getElem?_eq_some_iff.mp h
  have ne : xs ≠ [] := fun z => by rw [z] at hl; exact absurd hl (by decide)
  have z : xs = xs.dropLast ++ [v] := by rw [← e, ← List.getLast_eq_getElem ne, List.dropLast_concat_getLast]
  rw [z]
  exact atI_last _ _
/-! ### pairs of marks that stand beside one another -/
def zpW (w : List Int) : List (List Int) := (w.zip (w.drop 1)).map fun p => [p.1, p.2]
theorem zpW_len (w : List Int) : (zpW w).length = min w.length (w.length - 1) := by unfold zpW; rw [List.length_map, List.length_zip, List.length_drop]
theorem zpW_get {w : List Int} {j : Nat} {x y : Int} (h1 : w[j]? = some x) (h2 : w[j + 1]? = some y) : (zpW w)[j]? = some [x, y] := by
  unfold zpW
  rw [List.getElem?_map, show (w.zip (w.drop 1))[j]? = some (x, y) from List.getElem?_zip_eq_some.mpr ⟨h1, by rw [List.getElem?_drop, Nat.add_comm]; exact h2⟩]; rfl
def lsW (w : List Int) : Int := w.getD (w.length - 1) 0
def fsW (w : List Int) : Int := w.getD 0 0
def wdR (rs : List (Int × List Int)) (i : Nat) : List Int := (rs.getD i (0, [])).2
def nbR (rs : List (Int × List Int)) (i : Nat) : List (List Int) := zpW (wdR rs i) ++ (if 1 < (rs.getD i (0, [])).1 then [[lsW (wdR rs i), fsW (wdR rs i)]] else []) ++ [[lsW (wdR rs i), fsW (wdR rs ((i + 1) % rs.length))]]
def nbs (rs : List (Int × List Int)) (n : Nat) : List (List Int) := (List.range n).flatMap (nbR rs)
theorem nbs_next (rs : List (Int × List Int)) (n : Nat) : nbs rs (n + 1) = nbs rs n ++ nbR rs n := by
  unfold nbs; rw [List.range_succ, List.flatMap_append, List.flatMap_cons, List.flatMap_nil, List.append_nil]
theorem nbR_len {rs : List (Int × List Int)} {i k : Nat} (h : (wdR rs i).length ≤ k) : (nbR rs i).length ≤ k + 2 := by
  unfold nbR
  rw [List.length_append, List.length_append, zpW_len]
  have : (if 1 < (rs.getD i (0, [])).1 then [[lsW (wdR rs i), fsW (wdR rs i)]] else []).length ≤ 1 := by split <;> simp
  simp only [List.length_cons, List.length_nil]; omega
theorem nbs_len {rs : List (Int × List Int)} {k : Nat} (h : ∀ r ∈ rs, r.2.length ≤ k) : ∀ n, (nbs rs n).length ≤ n * (k + 2)
  | 0 => by unfold nbs; simp
  | n + 1 => by
    rw [nbs_next, List.length_append, Nat.succ_mul]
    have := nbs_len h n
    have z : (wdR rs n).length ≤ k := by
      unfold wdR
      rw [List.getD_eq_getElem?_getD]
      cases e : rs[n]? with
      | none => exact Nat.zero_le _
      | some r => exact h r (List.mem_of_getElem? e)
    have := nbR_len z
    omega
theorem getD_of {α : Type} {l : List α} {i : Nat} {x d : α} (h : l[i]? = some x) : l.getD i d = x := by rw [List.getD_eq_getElem?_getD, h]; rfl
theorem get_D {l : List Int} {i : Nat} (h : i < l.length) : l[i]? = some (l.getD i 0) := by rw [List.getD_eq_getElem?_getD, List.getElem?_eq_getElem h]; rfl
theorem nbR_at {rs : List (Int × List Int)} {i : Nat} {r r2 : Int × List Int} (h : rs[i]? = some r) (h2 : rs[(i + 1) % rs.length]? = some r2) : nbR rs i = zpW r.2 ++ (if 1 < r.1 then [[lsW r.2, fsW r.2]] else []) ++ [[lsW r.2, fsW r2.2]] := by
  unfold nbR wdR; rw [getD_of h, getD_of h2]
/-- of a ring that may go round all of them are steps -/
theorem nbs_in {rs : List (Int × List Int)} {ps : List (List Int)} (rn : Rn rs) (c : Cyc ps (mk rs)) : ∀ p ∈ nbs rs rs.length, p ∈ ps := by
  intro p hp
  unfold nbs at hp
  obtain ⟨i, hi, hp⟩ := List.mem_flatMap.mp hp
  have hi := List.mem_range.mp hi
  have g : rs[i]? = some rs[i] := List.getElem?_eq_getElem hi
  have nx : (i + 1) % rs.length < rs.length := Nat.mod_lt _ (by omega)
  have g2 : rs[(i + 1) % rs.length]? = some rs[(i + 1) % rs.length] := List.getElem?_eq_getElem nx
  rw [nbR_at g g2] at hp
  generalize rs[i] = r at g hp
  generalize rs[(i + 1) % rs.length] = r2 at g2 hp
  have hr := rn r (List.mem_of_getElem? g)
  have hr2 := rn r2 (List.mem_of_getElem? g2)
  have hw : 0 < r.2.length := List.length_pos_iff.mpr hr.2
  have hw2 : 0 < r2.2.length := List.length_pos_iff.mpr hr2.2
  -- the pair of two places beside one another in the run
  have pos : ∀ (j : Nat) (x y : Int), (j : Int) + 1 < rl r → r.2[j % r.2.length]? = some x → r.2[(j + 1) % r.2.length]? = some y → [x, y] ∈ ps := fun j x y hj e1 e2 => by
    have z1 := mP_run rn g (q := pl (rs.take i) + (j : Int)) (i := j) (by omega) (by rw [Int.sub_self, Int.zero_emod])
    have z2 := mP_run rn g (q := pl (rs.take i) + (j : Int) + 1) (i := j + 1) (by omega) (by rw [show pl (rs.take i) + (j : Int) + 1 - (pl (rs.take i) + ((j + 1 : Nat) : Int)) = 0 by omega, Int.zero_emod])
    have := c (pl (rs.take i) + (j : Int))
    rw [e1] at z1; rw [e2] at z2
    cases z1; cases z2
    exact this
  have rle : (r.2.length : Int) ≤ rl r := by
    unfold rl
    have := Int.mul_le_mul_of_nonneg_right (show (1 : Int) ≤ r.1 from hr.1) (show (0 : Int) ≤ (r.2.length : Int) by omega)
    omega
  rcases List.mem_append.mp hp with hp | hp
  · rcases List.mem_append.mp hp with hp | hp
    · obtain ⟨q, hq, rfl⟩ := List.mem_map.mp hp
      obtain ⟨j, hj⟩ := List.getElem?_of_mem hq
      obtain ⟨h1, h2⟩ := List.getElem?_zip_eq_some.mp hj
      rw [List.getElem?_drop, Nat.add_comm] at h2
      have b := (List.getElem?_eq_some_iff.mp h2).1
      exact pos j q.1 q.2 (by omega) (by rw [Nat.mod_eq_of_lt (by omega)]; exact h1) (by rw [Nat.mod_eq_of_lt b]; exact h2)
    · split at hp
      · rename_i ht
        rw [List.mem_singleton.mp hp]
        have rle2 : 2 * (r.2.length : Int) ≤ rl r := by
          unfold rl
          have := Int.mul_le_mul_of_nonneg_right (show (2 : Int) ≤ r.1 by omega) (show (0 : Int) ≤ (r.2.length : Int) by omega)
          omega
        exact pos (r.2.length - 1) _ _ (by omega) (by rw [Nat.mod_eq_of_lt (by omega)]; exact get_D (by omega)) (by rw [Nat.sub_add_cancel hw, Nat.mod_self]; exact get_D hw)
      · exact absurd hp (List.not_mem_nil)
  · rw [List.mem_singleton.mp hp]
    obtain ⟨e, he⟩ : ∃ e : Nat, rl r = (e : Int) := ⟨(rl r).toNat, by have := rl_pos hr; omega⟩
    have hrl := rl_pos hr
    have ee : e = r.1.toNat * r.2.length := by have := rl_nat (r := r) (by have := hr.1; omega); omega
    have z1 := mP_run rn g (q := pl (rs.take i) + (((e - 1 : Nat) : Int))) (i := e - 1) (by omega) (by rw [Int.sub_self, Int.zero_emod])
    have z2 := mP_run rn g2 (q := pl (rs.take i) + (((e - 1 : Nat) : Int)) + 1) (i := 0) (rl_pos hr2) (by
      refine next_run g ?_
      rw [show pl (rs.take i) + (((e - 1 : Nat) : Int)) + 1 - (pl (rs.take i) + rl r) = 0 by omega, Int.zero_emod])
    have := c (pl (rs.take i) + (((e - 1 : Nat) : Int)))
    have lm : (e - 1) % r.2.length = r.2.length - 1 := by
      have h1 : 1 ≤ r.1.toNat := by have := hr.1; omega
      obtain ⟨k, hk⟩ : ∃ k, r.1.toNat = k + 1 := ⟨r.1.toNat - 1, by omega⟩
      have : e - 1 = (r.2.length - 1) + r.2.length * k := by rw [ee, hk, Nat.succ_mul, Nat.mul_comm]; omega
      rw [this, Nat.add_mul_mod_self_left, Nat.mod_eq_of_lt (by omega)]
    rw [lm, get_D (by omega)] at z1
    rw [Nat.zero_mod, get_D hw2] at z2
    have a1 : lsW r.2 = mP (mk rs) (pl (rs.take i) + (((e - 1 : Nat) : Int))) := Option.some.inj z1
    have a2 : fsW r2.2 = mP (mk rs) (pl (rs.take i) + (((e - 1 : Nat) : Int)) + 1) := Option.some.inj z2
    rw [a1, a2]; exact this
/-- the list at l holds the pairs ks, over the heap H -/
structure Bag (l : Addr) (H H' : Hp) (ks : List (Addr × List Int)) : Prop where
  sm : Same H H'
  li : H' l = some (.lst (ks.map fun q => V.ref q.1))
  tu : ∀ q ∈ ks, H' q.1 = some (.tup (q.2.map V.int))
theorem Bag.new {l a : Addr} {H H' : Hp} {o : HO} {ks : List (Addr × List Int)} (c : Bag l H H' ks) (h : H' a = none) : Bag l H (upd H' a o) ks :=
  ⟨c.sm.trans (same_upd h), same_upd h _ _ c.li, fun q hq => same_upd h _ _ (c.tu q hq)⟩
theorem Bag.same {l : Addr} {H H' H2 : Hp} {ks : List (Addr × List Int)} (c : Bag l H H' ks) (s : Same H' H2) : Bag l H H2 ks := ⟨c.sm.trans s, s _ _ c.li, fun q hq => s _ _ (c.tu q hq)⟩
theorem Bag.more {l : Addr} {H H' : Hp} {ks js : List (Addr × List Int)} (c : Bag l H H' ks) (hl : H l = none) (hj : ∀ q ∈ js, H' q.1 = some (.tup (q.2.map V.int))) : Bag l H (upd H' l (.lst ((ks.map fun q => V.ref q.1) ++ js.map fun q => V.ref q.1))) (ks ++ js) := by
  refine ⟨fun b o e => ?_, by rw [upd_same, List.map_append], fun q hq => ?_⟩
  · rw [upd_ne (ne_of_none e hl)]; exact c.sm b o e
  · have e : H' q.1 = some (.tup (q.2.map V.int)) := by
      rcases List.mem_append.mp hq with w | w
      · exact c.tu q w
      · exact hj q w
    rw [upd_ne (ne_of e c.li (by intro z; cases z))]; exact e
section
variable {P : Program} {w : World} {K : PySem.W.Frag} {mg : Str → Option Value} {base : Heap}
/-! ### is_run -/
theorem scIsRun : FnScope ["rule", "thing", "times", "marks"] ["rule", "thing"] (defScope sIsRun) := ⟨rfl, rfl, rfl, by decide +kernel, rfl, by decide +kernel, by decide +kernel⟩
def spIsRun (K : PySem.W.Frag) (C : Addr) : Sp := fun vs H Q _ => ∃ (r : Addr) (k : Rk) (ns : List Int) (ps : List (List Int)), vs = [.ref r, .ref k.1] ∧ RuleAt K C H r ns ps ∧ RunOk K H k ∧ 1 ≤ k.2.2.1 ∧ k.2.2.2 ≠ [] ∧ k.2.2.2.length ≤ 1000 ∧ (∀ x ∈ k.2.2.2, 0 ≤ x ∧ x < (ns.length : Int)) ∧ ∀ H', Same H H' → Q (.bl true) H'
theorem ok_isrun {f C fM fA fK fW : Addr} {fd dM dA dK dW : FuncData} (F : Fun K "is_run" "is_run" sIsRun f fd) (T : Txt K mg C) (B : Bare mg)
    (FM : Fun K "marks" "Rule.marks" sMarksM fM dM) (bM : Binds K dM ["self"] []) (mM : Meth K C "marks" fM)
    (DA : DefAt K mg "are_marks" sMarks ["thing", "many"] fA dA) (DK : DefAt K mg "is_below" sMark ["thing", "many"] fK dK) (DW : DefAt K mg "is_whole" sWhole ["thing"] fW dW) : FnOk P w K mg base CX0 4 f fd ["rule", "thing"] (spIsRun K C) := by
  have GM : FnOk P w K mg base CX0 1 fM dM ["self"] (spMarksM K C) := ok_marksM FM T B
  have GA : FnOk P w K mg base CX0 3 fA dA ["thing", "many"] (spMarks K) := ok_marks DA.fn DK DW B
  have GW : FnOk P w K mg base CX0 1 fW dW ["thing"] spWhole := ok_whole DW.fn B
  refine F.ok scIsRun (fun vs H Q E h => ?_) (fun cdv A outer s H vs Q E hr h => ?_)
  · obtain ⟨r, k, ns, ps, rfl, _⟩ := h
    rfl
  · obtain ⟨r, k, ns, ps, rfl, R, hk, t1, w1, w2, hin, q⟩ := h
    have r1 := hr.mono (show 1 ≤ 3 by decide)
    refine ⟨_, pss_cons (ps_if (PW.pt (pw_or (pt_not (pt_val (pe_callB call_isi (by rfl) B.isinstance (by decide +kernel) (pa_cons (pv 1) (pa_cons (pe_bltn (v := .ty "tuple") (by rfl) B.tuple (by decide +kernel) rfl) pa_nil)))))
        (pw_or1 (pt_cmpR op_ne (pe_callB call_len_seq (by rfl) B.len PySem.boot_len (pa_cons (pv 1) pa_nil)) pe_int (nomark _))))) (pss_one (ps_ret pe_bl)) pss_nil)
      (pss_cons (ps_asg (pv 1) (pg_tup (by rfl) (pgs_cons (pg_name (i := 2) scIsRun.nd rfl (Or.inl rfl)) (pgs_cons (pg_name (i := 3) scIsRun.nd rfl (Or.inl rfl)) pgs_nil))))
      (pss_one (ps_ret (pe_and (pe_call GW r1 (by rfl) DW.mg DW.fn.kp DW.bi .nil pass0 (pa_cons (pv 2) pa_nil)) (pe_and (pe_cmpR op_ge (pv 2) pe_int (nomark _)) (pe_one (pe_call GA hr (by rfl) DA.mg DA.fn.kp DA.bi .nil pass0 (pa_cons (pv 3) (pa_cons (pe_meth0 (pv 0) T.cl mM GM r1 bM .nil pass0) pa_nil))))))))), ?_⟩
    refine ⟨.ref k.1, rfl, .ref k.1, .ty "tuple", _, _, true, rfl, .ty "tuple", tyT hk.1, kit_ty (by decide +kernel), true, rfl, iteF ?_⟩
    refine ⟨.ref k.1, rfl, k.1, _, rfl, .inr hk.1, rfl, _, rfl, ?_⟩
    refine iteF ?_
    refine ⟨.ref k.1, rfl, k.1, _, rfl, hk.1, rfl, _, _, rfl, _, _, rfl, rfl, ?_⟩
    refine ⟨.int k.2.2.1, rfl, k.2.2.1, rfl, true, rfl, iteT ?_⟩
    refine ⟨.int k.2.2.1, rfl, _, _, rfl, rfl, _, rfl, ?_⟩
    rw [decide_eq_true (show k.2.2.1 ≥ 1 from t1)]
    obtain ⟨dx, a0, b0, t0, g1, g2, g3, g4⟩ := R.ex
    have fno := flds_no a0 b0 t0 (m := "marks") (by decide +kernel) (by decide +kernel) (by decide +kernel)
    refine iteT ⟨.ref k.2.1, rfl, .ref r, rfl, r, dx, _, rfl, g1, fno, r, ns, ps, rfl, R, ?_⟩
    exact ⟨k.2.1, k.2.2.2, _, rfl, hk.2, List.length_pos_iff.mpr w1, w2, hin, q⟩
/-! ### neighbours -/
theorem scNeighb : FnScope ["ring", "pairs", "at", "times", "marks", "coming"] ["ring"] (defScope sNeighb) := ⟨rfl, rfl, rfl, by decide +kernel, rfl, by decide +kernel, by decide +kernel⟩
def spNeighb (K : PySem.W.Frag) : Sp := fun vs H Q _ => ∃ (a : Addr) (rs : List (Int × List Int)), vs = [.ref a] ∧ RingAt K H a rs ∧ Sz rs ∧
  ∀ (H' : Hp) (l : Addr) (ks : List (Addr × List Int)), Bag l H H' ks → ks.map (·.2) = nbs rs rs.length → Q (.ref l) H'
theorem ok_neighb {f : Addr} {fd : FuncData} (F : Fun K "neighbours" "neighbours" sNeighb f fd) (B : Bare mg) : FnOk P w K mg base CX0 1 f fd ["ring"] (spNeighb K) := by
  refine F.ok scNeighb (fun vs H Q E h => ?_) (fun cdv A outer s H vs Q E hr h => ?_)
  · obtain ⟨a, rs, rfl, _⟩ := h
    rfl
  · obtain ⟨a, rs, rfl, ⟨ks, rfl, hT, hk⟩, hz, q⟩ := h
    have hf := hz.few
    rw [List.length_map] at hf
    refine ⟨_, pss_cons (ps_set (i := 1) scNeighb.nd rfl (Or.inl rfl) (pe_lst pa_nil))
      (pss_cons (ps_for PassesOwn.never rfl (pi_enT (by rfl) B.enumerate (pa_cons (pv 0) pa_nil)) (pg_tup rfl (pgs_cons (pg_name (i := 2) scNeighb.nd rfl (Or.inl rfl)) (pgs_cons (pg_tup rfl (pgs_cons (pg_name (i := 3) scNeighb.nd rfl (Or.inl rfl)) (pgs_cons (pg_name (i := 4) scNeighb.nd rfl (Or.inl rfl)) pgs_nil))) pgs_nil)))
        (pss_cons (ps_expr (pe_bm PySem.F.plainAttrs_list PySem.F.slot_list_extend PySem.F.type_list_extend mt_extend (pv 1) (pa_cons (pe_listZip rfl (by rfl) B.list (by rfl) B.zip (pa_cons (pv 4) (pa_cons (pe_slice sl_tupW (pv 4) (po_some pe_int) po_none) pa_nil))) pa_nil)))
        (pss_cons (ps_if (pt_cmpR op_gt (pv 3) pe_int (nomark _))
          (pss_one (ps_expr (pe_bm PySem.F.plainAttrs_list PySem.F.slot_list_append PySem.F.type_list_append mt_append (pv 1) (pa_cons (pe_tup (pa_cons (pe_ix ix_tup (pv 4) (pe_un un_neg pe_int) (fun _ _ => rfl)) (pa_cons (pe_ix ix_tup (pv 4) pe_int (fun _ _ => rfl)) pa_nil))) pa_nil)))) pss_nil)
        (pss_cons (ps_set (i := 5) scNeighb.nd rfl (Or.inl rfl) (pe_ix ix_tup (pe_ix ix_tup (pv 0) (pe_op op_mod (pe_op op_add (pv 2) pe_int) (pe_callB call_len_seq (by rfl) B.len PySem.boot_len (pa_cons (pv 0) pa_nil))) (fun _ _ => rfl)) pe_int (fun _ _ => rfl)))
        (pss_one (ps_expr (pe_bm PySem.F.plainAttrs_list PySem.F.slot_list_append PySem.F.type_list_append mt_append (pv 1) (pa_cons (pe_tup (pa_cons (pe_ix ix_tup (pv 4) (pe_un un_neg pe_int) (fun _ _ => rfl)) (pa_cons (pe_ix ix_tup (pv 5) pe_int (fun _ _ => rfl)) pa_nil))) pa_nil))))))))
      (pss_one (ps_ret (pv 1)))), ?_⟩
    refine ⟨Nat.zero_le _, fun l nl => ?_⟩
    have sl := same_upd (o := .lst []) nl
    refine ⟨.ref a, rfl, a, _, rfl, sqT_same sl hT, ?_⟩
    refine for_it (walk_enT (K := K) (a := a) (xs := ks.map fun k => V.ref k.1)) (fun i σ H' => ∃ (qs : List (Addr × List Int)) (y2 y3 y4 y5 : Option V), σ = [some (.ref a), some (.ref l), y2, y3, y4, y5] ∧ Bag l H H' qs ∧ qs.map (·.2) = nbs (ks.map valR) i)
      ⟨[], none, none, none, none, rfl, ⟨sl, upd_same, fun _ z => nomatch z⟩, rfl⟩ (fun i σ H' _ h => ?_) (fun i x σ H2 H3 hi h y => ?_) (fun σ H' h => ?_)
    · obtain ⟨_, _, _, _, _, _, b, _⟩ := h
      exact sqT_same b.sm hT
    · obtain ⟨qs, y2, y3, y4, y5, rfl, b, eq⟩ := h
      obtain ⟨T0, x1, x2, rfl, nT, rfl, e1, e2⟩ := y
      have e1' : x1 = .int (i : Nat) := (Option.some.inj e1).symm
      subst e1'
      obtain ⟨k, g, rfl⟩ := map_at e2
      have km := List.mem_of_getElem? g
      have hik : i < ks.length := (List.getElem?_eq_some_iff.mp g).1
      have b2 := b.new (o := .tup [.int (i : Nat), .ref k.1]) nT
      have gr : (ks.map valR)[i]? = some (valR k) := by rw [List.getElem?_map, g]; rfl
      have nx : (i + 1) % ks.length < ks.length := Nat.mod_lt _ (by omega)
      obtain ⟨k2, gk2⟩ : ∃ k2, ks[(i + 1) % ks.length]? = some k2 := ⟨_, List.getElem?_eq_getElem nx⟩
      have gr2 : (ks.map valR)[(i + 1) % (ks.map valR).length]? = some (valR k2) := by rw [List.length_map, List.getElem?_map, gk2]; rfl
      have km2 := List.mem_of_getElem? gk2
      have nbe := nbR_at gr gr2
      have w1 : 0 < k.2.2.2.length := List.length_pos_iff.mpr (hz.rn _ (List.mem_of_getElem? gr)).2
      have w2 : 0 < k2.2.2.2.length := List.length_pos_iff.mpr (hz.rn _ (List.mem_of_getElem? gr2)).2
      have wl : k.2.2.2.length ≤ 3000 := hz.wo _ (List.mem_of_getElem? gr)
      have hk3 := (hk k km).same b2.sm
      have ql : qs.length ≤ 400000 := by
        have z := congrArg List.length eq
        rw [List.length_map] at z
        have n := nbs_len hz.wo i
        have : i * 3002 ≤ 100 * 3002 := Nat.mul_le_mul_right _ (by omega)
        omega
      refine ⟨T0, _, rfl, tupNew upd_same, rfl, _, _, rfl, _, _, rfl, ⟨k.1, _, rfl, hk3.1, rfl, _, _, rfl, _, _, rfl, rfl, rfl, ?_⟩⟩
      generalize upd H2 T0 (.tup [.int (i : Nat), .ref k.1]) = H4 at b2 hk3 ⊢
      -- extend by the pairs within the word
      refine ⟨.ref l, rfl, .inl ⟨rfl, _, lstNew b2.li⟩, .ref k.2.1, rfl, .ref k.2.1, rfl, 1, rfl, k.2.1, _, rfl, hk3.2, fun p5 H5 s5 h5 => ?_⟩
      rw [show (some (1 : Int)) = some ((1 : Nat) : Int) from rfl, cut_from, ← List.map_drop] at h5
      refine ⟨k.2.1, p5, _, _, rfl, sqT_same s5 hk3.2, h5, fun H6 p6 ts s6 np6 hp6 lt6 at6 => ?_⟩
      rw [List.length_map, List.length_map, List.length_drop] at lt6
      have b6 := b2.same (s5.trans s6)
      have zl := zpW_len k.2.2.2
      have tsl : ts.length = (zpW k.2.2.2).length := by rw [zl, lt6]
      have eJ1 : (ts.zip (zpW k.2.2.2)).map (fun q => V.ref q.1) = ts.map V.ref := by
        have z : (ts.zip (zpW k.2.2.2)).map Prod.fst = ts := List.map_fst_zip (by omega)
        conv => rhs; rw [← z]
        rw [List.map_map]; rfl
      have eJ2 : (ts.zip (zpW k.2.2.2)).map (·.2) = zpW k.2.2.2 := List.map_snd_zip (by omega)
      have b7 := b6.more nl (js := ts.zip (zpW k.2.2.2)) (fun u hu => by
        obtain ⟨j, hj⟩ := List.getElem?_of_mem hu
        obtain ⟨h1, h2⟩ := List.getElem?_zip_eq_some.mp hj
        obtain ⟨x, y, ex, ey, et⟩ := at6 j _ h1
        obtain ⟨x', gx, rfl⟩ := map_at ex
        obtain ⟨y', gy, rfl⟩ := map_at ey
        rw [List.getElem?_drop, Nat.add_comm] at gy
        rw [zpW_get gx gy] at h2
        rw [← Option.some.inj h2]; exact et)
      rw [eJ1] at b7
      refine ⟨l, p6, _, _, rfl, rfl, b6.li, hp6, ?_, ?_⟩
      · rw [List.length_map, List.length_map, tsl, zl, sizeLine_eq]; omega
      have eq7 : (qs ++ ts.zip (zpW k.2.2.2)).map (·.2) = nbs (ks.map valR) i ++ zpW k.2.2.2 := by rw [List.map_append, eq, eJ2]
      have ql7 : (qs ++ ts.zip (zpW k.2.2.2)).length ≤ 404000 := by rw [List.length_append, List.length_zip]; omega
      generalize upd H6 l (.lst ((qs.map fun q => V.ref q.1) ++ ts.map V.ref)) = H7 at b7 ⊢
      generalize qs ++ ts.zip (zpW k.2.2.2) = q7 at b7 eq7 ql7
      -- round again
      have gl : (k.2.2.2.map V.int)[(k.2.2.2.map V.int).length - 1]? = some (.int (lsW k.2.2.2)) := by
        rw [List.length_map, List.getElem?_map, get_D (by omega)]; rfl
      have g0 : (k.2.2.2.map V.int)[0]? = some (.int (fsW k.2.2.2)) := by rw [List.getElem?_map, get_D w1]; rfl
      have g02 : (k2.2.2.2.map V.int)[0]? = some (.int (fsW k2.2.2.2)) := by rw [List.getElem?_map, get_D w2]; rfl
      dsimp only
      refine seq_mid (fun σ H' => ∃ q8 : List (Addr × List Int), σ = [some (.ref a), some (.ref l), some (.int (i : Nat)), some (.int k.2.2.1), some (.ref k.2.1), y5] ∧ Bag l H H' q8 ∧ q8.length ≤ 404001 ∧ q8.map (·.2) = nbs (ks.map valR) i ++ zpW k.2.2.2 ++ (if 1 < k.2.2.1 then [[lsW k.2.2.2, fsW k.2.2.2]] else [])) ?_ fun tail => ?_
      · rintro σ H8 ⟨q8, rfl, b8, l8, e8⟩
        have hT8 := sqT_same b8.sm hT
        refine ⟨.ref a, rfl, .int (i : Nat), rfl, _, _, rfl, rfl, .ref a, rfl, a, _, rfl, .inr hT8, _, _, rfl, rfl, by rw [List.length_map]; omega, ?_⟩
        refine ⟨a, _, _, .ref k2.1, rfl, rfl, hT8, ?_, ?_⟩
        · rw [List.length_map, show ((i : Int) + 1) % (ks.length : Int) = (((i + 1) % ks.length : Nat) : Int) by rw [Int.natCast_emod, Int.natCast_add]; rfl]
          exact atI_nat (by rw [List.getElem?_map, gk2]; rfl)
        refine ⟨k2.1, _, 1, .ref k2.2.1, rfl, rfl, ((hk k2 km2).same b8.sm).1, rfl, ?_⟩
        refine ⟨.ref l, rfl, .inl ⟨rfl, _, lstNew b8.li⟩, .ref k.2.1, rfl, 1, rfl, k.2.1, _, _, .int (lsW k.2.2.2), rfl, rfl, sqT_same b8.sm (hk k km).2, atI_m1 gl, ?_⟩
        refine ⟨.ref k2.2.1, rfl, k2.2.1, _, 0, .int (fsW k2.2.2.2), rfl, rfl, sqT_same b8.sm (hk k2 km2).2, atI_nat (j := 0) g02, (by show 2 ≤ sizeLine; decide), fun T9 nT9 => ?_⟩
        have b9 := b8.new (o := .tup [.int (lsW k.2.2.2), .int (fsW k2.2.2.2)]) nT9
        have b10 := b9.more nl (js := [(T9, [lsW k.2.2.2, fsW k2.2.2.2])]) (fun u hu => by rw [List.mem_singleton.mp hu]; exact upd_same)
        refine ⟨l, _, _, rfl, rfl, b9.li, ?_, ?_⟩
        · rw [List.length_map, sizeLine_eq]; omega
        refine ⟨_, _, _, _, _, rfl, b10, ?_⟩
        rw [List.map_append, e8, nbs_next, nbe, List.append_assoc, List.append_assoc, List.append_assoc]
        rfl
      · refine ⟨.int k.2.2.1, rfl, _, _, rfl, rfl, _, rfl, ite2 (fun h1 => ?_) (fun h1 => ?_)⟩
        · have h1 : 1 < k.2.2.1 := of_decide_eq_true h1
          refine ⟨.ref l, rfl, .inl ⟨rfl, _, lstNew b7.li⟩, .ref k.2.1, rfl, 1, rfl, k.2.1, _, _, .int (lsW k.2.2.2), rfl, rfl, sqT_same b7.sm (hk k km).2, atI_m1 gl, ?_⟩
          refine ⟨.ref k.2.1, rfl, k.2.1, _, 0, .int (fsW k.2.2.2), rfl, rfl, sqT_same b7.sm (hk k km).2, atI_nat (j := 0) g0, (by show 2 ≤ sizeLine; decide), fun T9 nT9 => ?_⟩
          have b9 := b7.new (o := .tup [.int (lsW k.2.2.2), .int (fsW k.2.2.2)]) nT9
          have b10 := b9.more nl (js := [(T9, [lsW k.2.2.2, fsW k.2.2.2])]) (fun u hu => by rw [List.mem_singleton.mp hu]; exact upd_same)
          refine ⟨l, _, _, rfl, rfl, b9.li, ?_, ?_⟩
          · rw [List.length_map, sizeLine_eq]; omega
          refine tail _ _ ⟨_, rfl, b10, ?_, ?_⟩
          · rw [List.length_append]; simp only [List.length_cons, List.length_nil]; omega
          · rw [List.map_append, eq7, if_pos h1]; rfl
        · have h1 : ¬ 1 < k.2.2.1 := fun z => h1 (decide_eq_true z)
          exact tail _ _ ⟨_, rfl, b7, by omega, by rw [eq7, if_neg h1, List.append_nil]⟩
    · obtain ⟨qs, y2, y3, y4, y5, rfl, b, eq⟩ := h
      rw [List.length_map] at eq
      exact ⟨.ref l, rfl, q H' l qs b (by rw [eq, List.length_map])⟩
/-! ### is_ring -/
theorem scIsRing : FnScope ["rule", "thing", "run", "a", "b"] ["rule", "thing"] (defScope sIsRing) := ⟨rfl, rfl, rfl, by decide +kernel, rfl, by decide +kernel, by decide +kernel⟩
/-- a ring of small words whose marks are the rule's -/
structure Rg (ns : List Int) (rs : List (Int × List Int)) : Prop where
  sz : Sz rs
  wo : ∀ r ∈ rs, r.2.length ≤ 1000
  inn : ∀ r ∈ rs, ∀ x ∈ r.2, 0 ≤ x ∧ x < (ns.length : Int)
def spIsRing (K : PySem.W.Frag) (C : Addr) : Sp := fun vs H Q _ => ∃ (r a : Addr) (rs : List (Int × List Int)) (ns : List Int) (ps : List (List Int)), vs = [.ref r, .ref a] ∧ RuleAt K C H r ns ps ∧ Mir ns ∧ Stp ns ps ∧ RingAt K H a rs ∧ Rg ns rs ∧
  ∀ H', Same H H' → Q (.bl ((nbs rs rs.length).all fun p => decide (p ∈ ps))) H'
theorem nbs_marks {ns : List Int} {rs : List (Int × List Int)} (g : Rg ns rs) : ∀ p ∈ nbs rs rs.length, Pr (ns.length : Int) p := by
  intro p hp
  unfold nbs at hp
  obtain ⟨i, hi, hp⟩ := List.mem_flatMap.mp hp
  have hi := List.mem_range.mp hi
  have gi : rs[i]? = some rs[i] := List.getElem?_eq_getElem hi
  have nx : (i + 1) % rs.length < rs.length := Nat.mod_lt _ (by omega)
  have g2 : rs[(i + 1) % rs.length]? = some rs[(i + 1) % rs.length] := List.getElem?_eq_getElem nx
  rw [nbR_at gi g2] at hp
  generalize rs[i] = r at gi hp
  generalize rs[(i + 1) % rs.length] = r2 at g2 hp
  have m1 := g.inn r (List.mem_of_getElem? gi)
  have m2 := g.inn r2 (List.mem_of_getElem? g2)
  have w1 : 0 < r.2.length := List.length_pos_iff.mpr (g.sz.rn r (List.mem_of_getElem? gi)).2
  have w2 : 0 < r2.2.length := List.length_pos_iff.mpr (g.sz.rn r2 (List.mem_of_getElem? g2)).2
  have ml : lsW r.2 ∈ r.2 := List.mem_of_getElem? (get_D (show r.2.length - 1 < r.2.length by omega))
  have mf : fsW r.2 ∈ r.2 := List.mem_of_getElem? (get_D w1)
  have mf2 : fsW r2.2 ∈ r2.2 := List.mem_of_getElem? (get_D w2)
  rcases List.mem_append.mp hp with hp | hp
  · rcases List.mem_append.mp hp with hp | hp
    · obtain ⟨q, hq, rfl⟩ := List.mem_map.mp hp
      obtain ⟨h1, h2⟩ := List.of_mem_zip hq
      exact ⟨q.1, q.2, rfl, m1 _ h1, m1 _ (List.mem_of_mem_drop h2)⟩
    · split at hp
      · rw [List.mem_singleton.mp hp]; exact ⟨_, _, rfl, m1 _ ml, m1 _ mf⟩
      · exact absurd hp (List.not_mem_nil)
  · rw [List.mem_singleton.mp hp]; exact ⟨_, _, rfl, m1 _ ml, m2 _ mf2⟩
theorem ok_isring {f C fM fB fR fN fA fK fW : Addr} {fd dM dB dR dN dA dK dW : FuncData} (F : Fun K "is_ring" "is_ring" sIsRing f fd) (T : Txt K mg C) (B : Bare mg)
    (FM : Fun K "marks" "Rule.marks" sMarksM fM dM) (bM : Binds K dM ["self"] []) (mM : Meth K C "marks" fM) (FB : Fun K "behind" "Rule.behind" sBehindM fB dB) (bB : Binds K dB ["self", "mark"] []) (mB : Meth K C "behind" fB)
    (DR : DefAt K mg "is_run" sIsRun ["rule", "thing"] fR dR) (DN : DefAt K mg "neighbours" sNeighb ["ring"] fN dN)
    (DA : DefAt K mg "are_marks" sMarks ["thing", "many"] fA dA) (DK : DefAt K mg "is_below" sMark ["thing", "many"] fK dK) (DW : DefAt K mg "is_whole" sWhole ["thing"] fW dW) : FnOk P w K mg base CX0 5 f fd ["rule", "thing"] (spIsRing K C) := by
  have GR : FnOk P w K mg base CX0 4 fR dR ["rule", "thing"] (spIsRun K C) := ok_isrun DR.fn T B FM bM mM DA DK DW
  have GN : FnOk P w K mg base CX0 1 fN dN ["ring"] (spNeighb K) := ok_neighb DN.fn B
  have GB : FnOk P w K mg base CX0 1 fB dB ["self", "mark"] (spBehindM K C) := ok_behindM FB T
  refine F.ok scIsRing (fun vs H Q E h => ?_) (fun cdv A outer s H vs Q E hr h => ?_)
  · obtain ⟨r, a, rs, ns, ps, rfl, _⟩ := h
    rfl
  · obtain ⟨r, a, rs, ns, ps, rfl, R, M, S, hR, g, q⟩ := h
    have r1 := hr.mono (show 1 ≤ 4 by decide)
    have hu5 := un65 hr
    have nbp := nbs_marks g
    have nbl := nbs_len g.sz.wo rs.length
    obtain ⟨ks, rfl, hT, hk⟩ := hR
    have hf := g.sz.few
    rw [List.length_map] at hf
    have lne : 0 < ks.length := by
      have := List.length_pos_iff.mpr g.sz.ne
      rwa [List.length_map] at this
    have nbl2 : (nbs (ks.map valR) (ks.map valR).length).length ≤ 400000 := by
      rw [List.length_map] at nbl ⊢
      have : ks.length * 3002 ≤ 100 * 3002 := Nat.mul_le_mul_right _ hf
      omega
    obtain ⟨dx, a0, b0, t0, g1, g2, g3, g4⟩ := R.ex
    have fno := flds_no a0 b0 t0 (m := "behind") (by decide +kernel) (by decide +kernel) (by decide +kernel)
    refine ⟨_, pss_cons (ps_if (PW.pt (pw_or (pt_not (pt_val (pe_callB call_isi (by rfl) B.isinstance (by decide +kernel) (pa_cons (pv 1) (pa_cons (pe_bltn (v := .ty "tuple") (by rfl) B.tuple (by decide +kernel) rfl) pa_nil)))))
        (pw_or1 (pt_cmpR op_eq (pe_callB call_len_seq (by rfl) B.len PySem.boot_len (pa_cons (pv 1) pa_nil)) pe_int (nomark _))))) (pss_one (ps_ret pe_bl)) pss_nil)
      (pss_cons (ps_if (pt_not (pt_val (pe_callB (cr_all rfl) (by rfl) B.all (by decide +kernel) (pa_cons
          (pe_lc (own := [("run", 2)]) (g := gName 2) (tt := tYes) rfl scIsRing.nd (pi_tup (pv 1)) (blkOk_by (N := ["rule", "thing", "run", "a", "b"]) (sc := defScope sIsRing) (by decide +kernel))
            (fun _ _ _ _ _ => pg_name (i := 2) scIsRing.nd rfl (Or.inl rfl)) (fun _ _ _ _ _ => pts_nil) (fun _ _ _ _ _ => pe_call GR hr (by rfl) DR.mg DR.fn.kp DR.bi .nil pass0 (pa_cons (pv 0) (pa_cons (pv 2) pa_nil)))) pa_nil)))) (pss_one (ps_ret pe_bl)) pss_nil)
      (pss_one (ps_ret (pe_callB (cr_all rfl) (by rfl) B.all (by decide +kernel) (pa_cons
          (pe_lc (own := [("a", 3), ("b", 4)]) (g := gTup K 2 (gCons (gName 3) (gCons (gName 4) gNil))) (tt := tYes) rfl scIsRing.nd (pi_list (pe_call GN r1 (by rfl) DN.mg DN.fn.kp DN.bi .nil pass0 (pa_cons (pv 1) pa_nil))) (blkOk_by (N := ["rule", "thing", "run", "a", "b"]) (sc := defScope sIsRing) (by decide +kernel))
            (fun _ _ _ _ _ => pg_tupK rfl rfl (pgs_cons (pg_name (i := 3) scIsRing.nd rfl (Or.inl rfl)) (pgs_cons (pg_name (i := 4) scIsRing.nd rfl (Or.inl rfl)) pgs_nil))) (fun _ _ _ _ _ => pts_nil)
            (fun _ _ _ _ _ => pe_cmpR (op_inTIK (K := K) rfl hu5) (pv 4) (pe_meth (pv 0) T.cl mB GB r1 bB .nil pass0 (pa_cons (pv 3) pa_nil)) (by rfl))) pa_nil))))), ?_⟩
    refine ⟨.ref a, rfl, .ref a, .ty "tuple", _, _, true, rfl, .ty "tuple", tyT hT, kit_ty (by decide +kernel), true, rfl, iteF ?_⟩
    refine ⟨.ref a, rfl, a, _, rfl, .inr hT, rfl, _, rfl, ?_⟩
    rw [decV, List.length_map, decide_eq_false (show ¬ ((ks.length : Int) = 0) by omega)]
    refine iteF ?_
    refine ⟨.ref a, rfl, a, rfl, ⟨_, hT⟩, fun D nD => ?_⟩
    refine lc_tup (K := K) (a := a) (xs := ks.map fun k => V.ref k.1) (fun i H' => Same H H' ∧ H' D = some (.lst (List.replicate i (V.bl true)))) ⟨same_upd nD, upd_same⟩ (fun i H' _ p => sqT_same p.1 hT) (fun i x H' hx p => ?_) fun H1 p => ?_
    · obtain ⟨k, gk, rfl⟩ := map_at hx
      have km := List.mem_of_getElem? gk
      have il := (List.getElem?_eq_some_iff.mp gk).1
      have kr := List.mem_map_of_mem (f := valR) km
      refine ⟨rfl, tt_yes ⟨.ref r, rfl, .ref k.1, rfl, r, k, ns, ps, rfl, R.same p.1, (hk k km).same p.1, (g.sz.rn _ kr).1, (g.sz.rn _ kr).2, g.wo _ kr, g.inn _ kr, fun H2 s2 => ⟨_, s2 _ _ p.2, ?_, fun b o e => ?_, ?_⟩⟩⟩
      · rw [List.length_replicate]; exact few1 (by omega)
      · rw [upd_ne (ne_of_none e nD)]; exact s2 _ _ (p.1 b o e)
      · rw [upd_same, rep_next]
    · rw [rep_bl] at p
      refine ⟨D, _, rfl, lstNew p.2, true, by rw [all_true], iteF ?_⟩
      have s1 := p.1
      refine ⟨.ref a, rfl, a, _, rfl, ⟨ks, rfl, sqT_same s1 hT, fun k hx => (hk k hx).same s1⟩, g.sz, fun H2 l qs b2 eq => ?_⟩
      have s02 := s1.trans b2.sm
      refine ⟨l, rfl, ⟨_, lstNew b2.li⟩, fun D2 nD2 => ?_⟩
      refine lc_list (K := K) (a := l) (xs := qs.map fun k => V.ref k.1) (fun i H' => Same H2 H' ∧ H' D2 = some (.lst (((qs.take i).map fun k => decide (k.2 ∈ ps)).map V.bl))) ⟨same_upd nD2, upd_same⟩ (fun i H' _ p => lstNew (p.1 _ _ b2.li)) (fun i x H' hx p => ?_) fun H3 p => ?_
      · obtain ⟨k, gk, rfl⟩ := map_at hx
        have km := List.mem_of_getElem? gk
        obtain ⟨x, y, e, hx, hy⟩ := nbp k.2 (by rw [← eq]; exact List.mem_map_of_mem km)
        have tk := p.1 _ _ (b2.tu k km)
        rw [e] at tk
        have ql : qs.length ≤ 400000 := by
          have := congrArg List.length eq
          rw [List.length_map] at this; omega
        refine ⟨k.1, _, rfl, tupNew tk, rfl, _, _, rfl, _, _, rfl, rfl, rfl, tt_yes ⟨.int y, rfl, .ref r, rfl, r, dx, _, rfl, (s02.trans p.1) _ _ g1, fno, .int x, rfl, r, ns, ps, x.toNat, by rw [Int.toNat_of_nonneg hx.1]; rfl, R.same (s02.trans p.1), by omega, fun c hc => ?_⟩⟩
        rw [Int.toNat_of_nonneg hx.1] at hc
        refine ⟨c, y, _, rfl, rfl, hc, _, p.2, ?_, fun b o z => ?_, ?_⟩
        · rw [List.length_map, List.length_map, List.length_take, sizeLine_eq]; omega
        · rw [upd_ne (ne_of_none z nD2)]; exact p.1 b o z
        · have em : decide (y ∈ behindOf ps x) = decide (k.2 ∈ ps) := by
            rw [e]; exact decide_eq_decide.mpr (mem_behind (fun p hp => S.pair p hp))
          rw [upd_same, List.take_add_one, gk, List.map_append, List.map_append, em]; rfl
      · rw [List.length_map, List.take_of_length_le (Nat.le_refl _)] at p
        refine ⟨D2, _, rfl, lstNew p.2, ?_⟩
        have e2 : (qs.map fun k => decide (k.2 ∈ ps)).all id = (nbs (ks.map valR) (ks.map valR).length).all fun p => decide (p ∈ ps) := by
          rw [← eq, List.all_map, List.all_map]; rfl
        rw [e2]
        exact q H3 (s02.trans p.1)
end
end K6
namespace RV
theorem mk_filter : ∀ {rs : List (Int × List Int)}, (∀ r ∈ rs, 0 ≤ r.1) → mk (rs.filter fun r => decide (rl r > 0)) = mk rs
  | [], _ => rfl
  | r :: rs, h => by
    have ih := mk_filter (rs := rs) fun q hq => h q (List.mem_cons_of_mem _ hq)
    rw [List.filter_cons]
    by_cases z : rl r > 0
    · rw [if_pos (decide_eq_true z)]
      show rp r.1.toNat r.2 ++ mk _ = rp r.1.toNat r.2 ++ mk rs
      rw [ih]
    · rw [if_neg (by rw [decide_eq_true_eq]; exact z), ih]
      have e : rp r.1.toNat r.2 = [] := List.eq_nil_of_length_eq_zero (by
        rw [rp_len]
        have := rl_nat (r := r) (h r (List.mem_cons_self ..))
        omega)
      show mk rs = rp r.1.toNat r.2 ++ mk rs
      rw [e, List.nil_append]
/-- what a turned ring is -/
structure Trn (rs : List (Int × List Int)) (by_ : Int) (qs : List (Int × List Int)) : Prop where
  rn : Rn qs
  ne : qs ≠ []
  len : qs.length ≤ rs.length + 3
  wo : ∀ r ∈ qs, ∃ r0 ∈ rs, r.2.length ≤ r0.2.length ∧ ∀ x ∈ r.2, x ∈ r0.2
  rot : ∃ A B, mk rs = A ++ B ∧ mk qs = B ++ A ∧ (A.length : Int) = by_ % pl rs
def turnL (rs : List (Int × List Int)) (a : Nat) (r : Int × List Int) (rounds rest : Nat) : List (Int × List Int) :=
  [(1, r.2.drop rest), (r.1 - (rounds : Int) - 1, r.2)] ++ rs.drop (a + 1) ++ rs.take a ++ [((rounds : Int), r.2), (1, r.2.take rest)]
theorem turn_trn {rs : List (Int × List Int)} (rn : Rn rs) {a : Nat} {r : Int × List Int} (h : rs[a]? = some r) {by_ x : Int} {rounds rest : Nat} (x0 : 0 ≤ x) (x1 : x < rl r) (e : by_ % pl rs = pl (rs.take a) + x) (e1 : (rounds : Int) = x / (r.2.length : Int)) (e2 : (rest : Int) = x % (r.2.length : Int)) :
    Trn rs by_ ((turnL rs a r rounds rest).filter fun r => decide (rl r > 0)) := by
  have hr := rn r (List.mem_of_getElem? h)
  have hw : 0 < r.2.length := List.length_pos_iff.mpr hr.2
  have al := (List.getElem?_eq_some_iff.mp h).1
  have dm := Int.mul_ediv_add_emod x (r.2.length : Int)
  rw [← e1, ← e2] at dm
  have m1 := Int.emod_lt_of_pos x (show (0 : Int) < (r.2.length : Int) by omega)
  rw [← e2] at m1
  have rt : (rounds : Int) < r.1 := by
    rcases Int.lt_or_le (rounds : Int) r.1 with z | z
    · exact z
    · have : r.1 * (r.2.length : Int) ≤ (rounds : Int) * (r.2.length : Int) := Int.mul_le_mul_of_nonneg_right z (by omega)
      have e3 : (r.2.length : Int) * (rounds : Int) = (rounds : Int) * (r.2.length : Int) := Int.mul_comm _ _
      unfold rl at x1
      omega
  have nn : ∀ q ∈ turnL rs a r rounds rest, 0 ≤ q.1 := fun q hq => by
    unfold turnL at hq
    simp only [List.mem_append, List.mem_cons, List.not_mem_nil, or_false] at hq
    rcases hq with (((rfl | rfl) | z) | z) | (rfl | rfl)
    · show (0 : Int) ≤ 1; decide
    · show 0 ≤ r.1 - (rounds : Int) - 1; omega
    · exact rn.nn q (List.mem_of_mem_drop z)
    · exact rn.nn q (List.mem_of_mem_take z)
    · show 0 ≤ (rounds : Int); omega
    · show (0 : Int) ≤ 1; decide
  have em : mk ((turnL rs a r rounds rest).filter fun r => decide (rl r > 0)) = (r.2.drop rest ++ rp (r.1 - (rounds : Int) - 1).toNat r.2 ++ mk (rs.drop (a + 1))) ++ (mk (rs.take a) ++ rp rounds r.2 ++ r.2.take rest) := by
    rw [mk_filter nn]
    unfold turnL
    rw [mk_app, mk_app, mk_app]
    show rp (Int.toNat 1) (r.2.drop rest) ++ (rp (r.1 - (rounds : Int) - 1).toNat r.2 ++ []) ++ mk (rs.drop (a + 1)) ++ mk (rs.take a) ++ (rp ((rounds : Int)).toNat r.2 ++ (rp (Int.toNat 1) (r.2.take rest) ++ [])) = _
    rw [show Int.toNat 1 = 1 from rfl, rp_one, rp_one, Int.toNat_natCast, List.append_nil, List.append_nil]
    simp only [List.append_assoc]
  have eo : mk rs = (mk (rs.take a) ++ rp rounds r.2 ++ r.2.take rest) ++ (r.2.drop rest ++ rp (r.1 - (rounds : Int) - 1).toNat r.2 ++ mk (rs.drop (a + 1))) := by
    conv => lhs; rw [split_at h]
    rw [mk_app]
    show mk (rs.take a) ++ (rp r.1.toNat r.2 ++ mk (rs.drop (a + 1))) = _
    rw [show r.1.toNat = rounds + (1 + (r.1 - (rounds : Int) - 1).toNat) by omega, rp_add, rp_add, rp_one]
    simp only [List.append_assoc]
    rw [← List.append_assoc (r.2.take rest), List.take_append_drop]
  have la : (((mk (rs.take a) ++ rp rounds r.2 ++ r.2.take rest).length : Nat) : Int) = by_ % pl rs := by
    have l1 := mk_len (rs := rs.take a) fun q hq => rn.nn q (List.mem_of_mem_take hq)
    rw [List.length_append, List.length_append, rp_len, List.length_take, Nat.min_eq_left (by omega), Int.natCast_add, Int.natCast_add, l1, e, Int.natCast_mul, Int.mul_comm]
    omega
  have np := rn.pos (fun z => by rw [z] at h; cases h)
  refine ⟨fun q hq => ?_, fun z => ?_, ?_, fun q hq => ?_, _, _, eo, em, la⟩
  · obtain ⟨h1, h2⟩ := List.mem_filter.mp hq
    have h2 : 0 < rl q := of_decide_eq_true h2
    have q0 := nn q h1
    refine ⟨?_, fun z => ?_⟩
    · rcases Int.lt_or_le 0 q.1 with z | z
      · omega
      · have : q.1 = 0 := by omega
        unfold rl at h2
        rw [this, Int.zero_mul] at h2; omega
    · unfold rl at h2
      rw [z] at h2
      simp at h2
  · have l := mk_len rn.nn
    rw [z] at em
    have := congrArg List.length em
    have l2 := congrArg List.length eo
    simp only [List.length_append] at this l2
    have : (mk ([] : List (Int × List Int))).length = 0 := rfl
    omega
  · refine Nat.le_trans (List.length_filter_le _ _) ?_
    unfold turnL
    simp only [List.length_append, List.length_cons, List.length_nil, List.length_drop, List.length_take]
    omega
  · have h1 := (List.mem_filter.mp hq).1
    have rm := List.mem_of_getElem? h
    unfold turnL at h1
    simp only [List.mem_append, List.mem_cons, List.not_mem_nil, or_false] at h1
    rcases h1 with (((rfl | rfl) | z) | z) | (rfl | rfl)
    · exact ⟨r, rm, by rw [List.length_drop]; omega, fun x hx => List.mem_of_mem_drop hx⟩
    · exact ⟨r, rm, Nat.le_refl _, fun x hx => hx⟩
    · exact ⟨q, List.mem_of_mem_drop z, Nat.le_refl _, fun x hx => hx⟩
    · exact ⟨q, List.mem_of_mem_take z, Nat.le_refl _, fun x hx => hx⟩
    · exact ⟨r, rm, Nat.le_refl _, fun x hx => hx⟩
    · exact ⟨r, rm, by rw [List.length_take]; omega, fun x hx => List.mem_of_mem_take hx⟩
/-- the ring read from the other side -/
def mirL (f : Int → Int) (rs : List (Int × List Int)) : List (Int × List Int) := rs.reverse.map fun r => (r.1, r.2.reverse.map f)
theorem mk_mir (f : Int → Int) : ∀ rs : List (Int × List Int), mk (mirL f rs) = (mk rs).reverse.map f
  | [] => rfl
  | r :: rs => by
    have ih := mk_mir f rs
    unfold mirL at ih ⊢
    rw [List.reverse_cons, List.map_append, mk_app, ih]
    show _ ++ (rp r.1.toNat (r.2.reverse.map f) ++ []) = ((rp r.1.toNat r.2 ++ mk rs).reverse).map f
    rw [List.append_nil, List.reverse_append, List.map_append, rp_rev, rp_map]
theorem trn_mP {rs qs : List (Int × List Int)} {b : Int} (t : Trn rs b qs) (rn : Rn rs) (p : Int) : mP (mk qs) p = mP (mk rs) (p + b) := by
  obtain ⟨A, B, h1, h2, h3⟩ := t.rot
  have l := mk_len rn.nn
  have ne : A ++ B ≠ [] := fun z => t.ne (by
    cases e : qs with
    | nil => rfl
    | cons q qs' =>
      have z2 := mk_len t.rn.nn
      have z3 := t.rn.pos t.ne
      rw [h2] at z2
      rw [List.append_eq_nil_iff] at z
      rw [z.1, z.2] at z2
      simp at z2; omega)
  rw [h2, mP_rot ne, ← h1]
  apply mP_mod
  rw [h3, l, show p + b % pl rs - (p + b) = -(b - b % pl rs) by omega]
  refine Int.emod_eq_zero_of_dvd (Int.dvd_neg.mpr (Int.dvd_of_emod_eq_zero ?_))
  rw [Int.sub_emod, Int.emod_emod_of_dvd b (Int.dvd_refl _), Int.sub_self, Int.zero_emod]
theorem trn_pl {rs qs : List (Int × List Int)} {b : Int} (t : Trn rs b qs) (rn : Rn rs) : pl qs = pl rs := by
  obtain ⟨A, B, h1, h2, h3⟩ := t.rot
  rw [← mk_len rn.nn, ← mk_len t.rn.nn, h1, h2, List.length_append, List.length_append]; omega
theorem mk_ne {rs : List (Int × List Int)} (rn : Rn rs) (ne : rs ≠ []) : mk rs ≠ [] := fun z => by
  have := mk_len rn.nn
  have := rn.pos ne
  rw [z] at *; simp at *; omega
theorem trn_cyc {rs qs : List (Int × List Int)} {b : Int} (t : Trn rs b qs) (rn : Rn rs) (ne : rs ≠ []) {ps : List (List Int)} (c : Cyc ps (mk rs)) : Cyc ps (mk qs) := by
  obtain ⟨A, B, h1, h2, h3⟩ := t.rot
  rw [h2]
  rw [h1] at c
  exact c.rot (by rw [← h1]; exact mk_ne rn ne)
end RV
set_option maxHeartbeats 4000000
namespace K6
open PySem PySem.Spec PyProof.Rows L2 RV
section
variable {P : Program} {w : World} {K : PySem.W.Frag} {mg : Str → Option Value} {base : Heap}
/-! ### turned -/
theorem scTurned : FnScope ["ring", "by", "at", "inside", "times", "marks", "rounds", "rest", "begun", "left", "runs", "run"] ["ring", "by"] (defScope sTurned) := ⟨rfl, rfl, rfl, by decide +kernel, rfl, by decide +kernel, by decide +kernel⟩
def spTurned (K : PySem.W.Frag) : Sp := fun vs H Q _ => ∃ (a : Addr) (b : Int) (rs : List (Int × List Int)), vs = [.ref a, .int b] ∧ RingAt K H a rs ∧ Sz rs ∧
  ∀ (H' : Hp) (T : Addr) (qs : List (Int × List Int)), Same H H' → RingAt K H' T qs → Trn rs b qs → Q (.ref T) H'
theorem ok_turned {f fR fP fS : Addr} {fd dR dP dS : FuncData} (F : Fun K "turned" "turned" sTurned f fd) (B : Bare mg) (DR : DefAt K mg "run_places" sRunPl ["run"] fR dR) (DP : DefAt K mg "places" sRPlaces ["ring"] fP dP) (DS : DefAt K mg "spot" sSpot ["ring", "place"] fS dS) :
    FnOk P w K mg base CX0 4 f fd ["ring", "by"] (spTurned K) := by
  have GS : FnOk P w K mg base CX0 3 fS dS ["ring", "place"] (spSpot K) := ok_spot DS.fn B DR DP
  have GR : FnOk P w K mg base CX0 1 fR dR ["run"] (spRunPl K) := ok_runpl DR.fn B
  refine F.ok scTurned (fun vs H Q E h => ?_) (fun cdv A outer s H vs Q E hr h => ?_)
  · obtain ⟨a, b, rs, rfl, _⟩ := h
    rfl
  · obtain ⟨a, b, rs, rfl, hR, hz, q⟩ := h
    have r1 := hr.mono (show 1 ≤ 3 by decide)
    have two : (2 : Nat) ≤ sizeLine := by decide
    have hf := hz.few
    refine ⟨_, pss_cons (ps_asg (pe_call GS hr (by rfl) DS.mg DS.fn.kp DS.bi .nil pass0 (pa_cons (pv 0) (pa_cons (pv 1) pa_nil))) (pg_tup (by rfl) (pgs_cons (pg_name (i := 2) scTurned.nd rfl (Or.inl rfl)) (pgs_cons (pg_name (i := 3) scTurned.nd rfl (Or.inl rfl)) pgs_nil))))
      (pss_cons (ps_asg (pe_ix ix_tup (pv 0) (pv 2) (fun _ _ => rfl)) (pg_tup (by rfl) (pgs_cons (pg_name (i := 4) scTurned.nd rfl (Or.inl rfl)) (pgs_cons (pg_name (i := 5) scTurned.nd rfl (Or.inl rfl)) pgs_nil))))
      (pss_cons (ps_asg (pe_callB call_divmod (by rfl) B.divmod (by decide +kernel) (pa_cons (pv 3) (pa_cons (pe_callB call_len_seq (by rfl) B.len PySem.boot_len (pa_cons (pv 5) pa_nil)) pa_nil))) (pg_tup (by rfl) (pgs_cons (pg_name (i := 6) scTurned.nd rfl (Or.inl rfl)) (pgs_cons (pg_name (i := 7) scTurned.nd rfl (Or.inl rfl)) pgs_nil))))
      (pss_cons (ps_set (i := 8) scTurned.nd rfl (Or.inl rfl) (pe_tup (pa_cons (pe_tup (pa_cons pe_int (pa_cons (pe_slice sl_tupW (pv 5) (po_some (pv 7)) po_none) pa_nil))) (pa_cons (pe_tup (pa_cons (pe_op op_sub (pe_op op_sub (pv 4) (pv 6)) pe_int) (pa_cons (pv 5) pa_nil))) pa_nil))))
      (pss_cons (ps_set (i := 9) scTurned.nd rfl (Or.inl rfl) (pe_tup (pa_cons (pe_tup (pa_cons (pv 6) (pa_cons (pv 5) pa_nil))) (pa_cons (pe_tup (pa_cons pe_int (pa_cons (pe_slice sl_tupW (pv 5) po_none (po_some (pv 7))) pa_nil))) pa_nil))))
      (pss_cons (ps_set (i := 10) scTurned.nd rfl (Or.inl rfl) (pe_op op_catW (pe_op op_catW (pe_op op_catW (pv 8) (pe_slice sl_tupW (pv 0) (po_some (pe_op op_add (pv 2) pe_int)) po_none)) (pe_slice sl_tupW (pv 0) po_none (po_some (pv 2)))) (pv 9)))
      (pss_one (ps_ret (pe_tupleOf (by rfl) B.tuple
          (pe_lc (own := [("run", 11)]) (g := gName 11) rfl scTurned.nd (pi_tup (pv 10)) (blkOk_by (N := ["ring", "by", "at", "inside", "times", "marks", "rounds", "rest", "begun", "left", "runs", "run"]) (sc := defScope sTurned) (by decide +kernel))
            (fun _ _ _ _ _ => pg_name (i := 11) scTurned.nd rfl (Or.inl rfl)) (fun _ _ _ _ _ => pts_one (pt_cmpR op_gt (pe_call GR r1 (by rfl) DR.mg DR.fn.kp DR.bi .nil pass0 (pa_cons (pv 11) pa_nil)) pe_int (nomark _))) (fun _ _ _ _ _ => pv 11)))))))))), ?_⟩
    refine ⟨.ref a, rfl, .int b, rfl, a, b, rs, rfl, hR, hz, fun H1 T i x s1 eT hA => ?_⟩
    refine ⟨T, _, rfl, tupNew eT, rfl, _, _, rfl, _, _, rfl, rfl, ?_⟩
    obtain ⟨ks, rfl, hT, hk⟩ := hR.same s1
    rw [List.length_map] at hf
    obtain ⟨r, gr, hx⟩ := hA.run
    obtain ⟨k, gk, rfl⟩ := map_at gr
    have km := List.mem_of_getElem? gk
    have il := (List.getElem?_eq_some_iff.mp gk).1
    have wp : 0 < k.2.2.2.length := List.length_pos_iff.mpr (hz.rn _ (List.mem_of_getElem? gr)).2
    have wl : k.2.2.2.length ≤ 3000 := hz.wo _ (List.mem_of_getElem? gr)
    have hw := (hk k km).2
    refine ⟨.ref a, rfl, .int (i : Int), rfl, a, _, _, .ref k.1, rfl, rfl, hT, atI_nat (by rw [List.getElem?_map, gk]; rfl), k.1, _, rfl, (hk k km).1, rfl, _, _, rfl, _, _, rfl, rfl, ?_⟩
    refine ⟨.int x, rfl, .ref k.2.1, rfl, k.2.1, _, rfl, .inr hw, _, _, rfl, by rw [List.length_map]; exact ⟨by omega, by omega⟩, fun T0 nT0 => ?_⟩
    rw [List.length_map]
    have sA := same_upd (o := .tup [.int (x / (k.2.2.2.length : Int)), .int (x % (k.2.2.2.length : Int))]) nT0
    refine ⟨T0, _, rfl, tupNew upd_same, rfl, _, _, rfl, _, _, rfl, rfl, ?_⟩
    obtain ⟨rd, erd⟩ : ∃ rd : Nat, (rd : Int) = x / (k.2.2.2.length : Int) := ⟨(x / (k.2.2.2.length : Int)).toNat, by have := Int.ediv_nonneg hA.nn (show (0 : Int) ≤ (k.2.2.2.length : Int) by omega); omega⟩
    obtain ⟨re, ere⟩ : ∃ re : Nat, (re : Int) = x % (k.2.2.2.length : Int) := ⟨(x % (k.2.2.2.length : Int)).toNat, by have := Int.emod_nonneg x (show (k.2.2.2.length : Int) ≠ 0 by omega); omega⟩
    rw [← erd, ← ere] at sA ⊢
    have trn := turn_trn hz.rn gr hA.nn hx hA.eq erd ere
    generalize upd H1 T0 (.tup [.int (rd : Int), .int (re : Int)]) = H2 at sA ⊢
    -- begun
    refine ⟨.ref k.2.1, rfl, .int (re : Int), rfl, _, rfl, k.2.1, _, rfl, sqT_same sA hw, fun w3 H3 s3 h3 => ?_⟩
    rw [cut_from, ← List.map_drop] at h3
    refine ⟨two, fun T4 nT4 => ?_⟩
    have s4 := same_upd (o := .tup [.int 1, .ref w3]) nT4
    refine ⟨.int k.2.2.1, rfl, .int (rd : Int), rfl, _, _, rfl, rfl, _, _, rfl, rfl, .ref k.2.1, rfl, two, fun T5 nT5 => ?_⟩
    have s5 := same_upd (o := .tup [.int (k.2.2.1 - (rd : Int) - 1), .ref k.2.1]) nT5
    refine ⟨two, fun T6 nT6 => ?_⟩
    have s6 := same_upd (o := .tup [.ref T4, .ref T5]) nT6
    have k4 : RunOk K (upd (upd (upd H3 T4 (.tup [.int 1, .ref w3])) T5 (.tup [.int (k.2.2.1 - (rd : Int) - 1), .ref k.2.1])) T6 (.tup [.ref T4, .ref T5])) (T4, w3, 1, k.2.2.2.drop re) := ⟨tupNew ((s5.trans s6) _ _ upd_same), sqT_same ((s4.trans s5).trans s6) h3⟩
    have k5 : RunOk K (upd (upd (upd H3 T4 (.tup [.int 1, .ref w3])) T5 (.tup [.int (k.2.2.1 - (rd : Int) - 1), .ref k.2.1])) T6 (.tup [.ref T4, .ref T5])) (T5, k.2.1, k.2.2.1 - (rd : Int) - 1, k.2.2.2) := ⟨tupNew (s6 _ _ upd_same), sqT_same ((((sA.trans s3).trans s4).trans s5).trans s6) hw⟩
    have t6 : (upd (upd (upd H3 T4 (.tup [.int 1, .ref w3])) T5 (.tup [.int (k.2.2.1 - (rd : Int) - 1), .ref k.2.1])) T6 (.tup [.ref T4, .ref T5])) T6 = some (.tup [.ref T4, .ref T5]) := upd_same
    have s16 := ((((sA.trans s3).trans s4).trans s5).trans s6)
    generalize upd (upd (upd H3 T4 (.tup [.int 1, .ref w3])) T5 (.tup [.int (k.2.2.1 - (rd : Int) - 1), .ref k.2.1])) T6 (.tup [.ref T4, .ref T5]) = H6 at k4 k5 t6 s16 ⊢
    -- left
    refine ⟨.int (rd : Int), rfl, .ref k.2.1, rfl, two, fun T7 nT7 => ?_⟩
    have s7 := same_upd (o := .tup [.int (rd : Int), .ref k.2.1]) nT7
    refine ⟨.ref k.2.1, rfl, .int (re : Int), rfl, _, rfl, k.2.1, _, rfl, sqT_same (s16.trans s7) hw, fun w8 H8 s8 h8 => ?_⟩
    rw [cut_to, ← List.map_take] at h8
    refine ⟨two, fun T9 nT9 => ?_⟩
    have s9 := same_upd (o := .tup [.int 1, .ref w8]) nT9
    refine ⟨two, fun TA nTA => ?_⟩
    have sB := same_upd (o := .tup [.ref T7, .ref T9]) nTA
    have k7 : RunOk K (upd (upd H8 T9 (.tup [.int 1, .ref w8])) TA (.tup [.ref T7, .ref T9])) (T7, k.2.1, (rd : Int), k.2.2.2) := ⟨tupNew (((s8.trans s9).trans sB) _ _ upd_same), sqT_same ((((s16.trans s7).trans s8).trans s9).trans sB) hw⟩
    have k9 : RunOk K (upd (upd H8 T9 (.tup [.int 1, .ref w8])) TA (.tup [.ref T7, .ref T9])) (T9, w8, 1, k.2.2.2.take re) := ⟨tupNew (sB _ _ upd_same), sqT_same (s9.trans sB) h8⟩
    have tA : (upd (upd H8 T9 (.tup [.int 1, .ref w8])) TA (.tup [.ref T7, .ref T9])) TA = some (.tup [.ref T7, .ref T9]) := upd_same
    have s6A := ((s7.trans s8).trans s9).trans sB
    generalize upd (upd H8 T9 (.tup [.int 1, .ref w8])) TA (.tup [.ref T7, .ref T9]) = HA at k7 k9 tA s6A ⊢
    have k4' := k4.same s6A
    have k5' := k5.same s6A
    have t6' := s6A _ _ t6
    have s1A := s16.trans s6A
    -- runs
    refine ⟨.ref T6, rfl, .ref a, rfl, .int (i : Int), rfl, _, _, rfl, rfl, _, rfl, a, _, rfl, sqT_same s1A hT, fun pB HB sB' hB => ?_⟩
    rw [show (i : Int) + 1 = ((i + 1 : Nat) : Int) by omega, cut_from, ← List.map_drop] at hB
    have big : ∀ n : Nat, n ≤ 1000 → n ≤ sizeLine := fun n h => Nat.le_of_lt (few1 h)
    have ld : (ks.drop (i + 1)).length ≤ 100 := by rw [List.length_drop]; omega
    have lt : (ks.take i).length ≤ 100 := by rw [List.length_take]; omega
    refine ⟨T6, pB, _, _, rfl, rfl, sqT_same sB' (tupNew t6'), hB, big _ (by rw [List.length_map]; simp only [List.length_cons, List.length_nil]; omega), fun pC HC sC hC => ?_⟩
    refine ⟨.ref a, rfl, .int (i : Int), rfl, _, rfl, a, _, rfl, sqT_same ((s1A.trans sB').trans sC) hT, fun pD HD sD hD => ?_⟩
    rw [cut_to, ← List.map_take] at hD
    refine ⟨pC, pD, _, _, rfl, rfl, sqT_same sD hC, hD, big _ (by rw [List.length_append, List.length_map, List.length_map]; simp only [List.length_cons, List.length_nil]; omega), fun pE HE sE hE => ?_⟩
    have sAE := ((sB'.trans sC).trans sD).trans sE
    refine ⟨.ref TA, rfl, pE, TA, _, _, rfl, rfl, hE, sqT_same sAE (tupNew tA), big _ (by rw [List.length_append, List.length_append, List.length_map, List.length_map]; simp only [List.length_cons, List.length_nil]; omega), fun pF HF sF hF => ?_⟩
    have sAF := sAE.trans sF
    have s1F := s1A.trans sAF
    -- what the runs are
    have ej : ∃ js : List Rk, js.map valR = turnL (ks.map valR) i (valR k) rd re ∧ SqT K HF pF (js.map fun k => V.ref k.1) ∧ (∀ j ∈ js, RunOk K HF j) ∧ js.length ≤ 204 ∧ ∀ j ∈ js, j.2.2.2.length ≤ 3000 := by
      refine ⟨[(T4, w3, 1, k.2.2.2.drop re), (T5, k.2.1, k.2.2.1 - (rd : Int) - 1, k.2.2.2)] ++ ks.drop (i + 1) ++ ks.take i ++ [(T7, k.2.1, (rd : Int), k.2.2.2), (T9, w8, 1, k.2.2.2.take re)], ?_, ?_, fun j hj => ?_, ?_, fun j hj => ?_⟩
      · unfold turnL
        rw [List.map_append, List.map_append, List.map_append, List.map_drop, List.map_take]; rfl
      · rw [List.map_append, List.map_append, List.map_append]; exact hF
      · simp only [List.mem_append, List.mem_cons, List.not_mem_nil, or_false] at hj
        rcases hj with (((rfl | rfl) | z) | z) | (rfl | rfl)
        · exact k4'.same sAF
        · exact k5'.same sAF
        · exact (hk j (List.mem_of_mem_drop z)).same s1F
        · exact (hk j (List.mem_of_mem_take z)).same s1F
        · exact k7.same sAF
        · exact k9.same sAF
      · simp only [List.length_append, List.length_cons, List.length_nil]; omega
      · simp only [List.mem_append, List.mem_cons, List.not_mem_nil, or_false] at hj
        rcases hj with (((rfl | rfl) | z) | z) | (rfl | rfl)
        · show (k.2.2.2.drop re).length ≤ 3000; rw [List.length_drop]; omega
        · exact wl
        · exact hz.wo _ (List.mem_map_of_mem (List.mem_of_mem_drop z))
        · exact hz.wo _ (List.mem_map_of_mem (List.mem_of_mem_take z))
        · exact wl
        · show (k.2.2.2.take re).length ≤ 3000; rw [List.length_take]; omega
    obtain ⟨js, ej1, ej2, ej3, ej4, ej5⟩ := ej
    rw [← ej1] at trn
    refine ⟨.ref pF, rfl, pF, rfl, ⟨_, ej2⟩, fun D nD => ?_⟩
    refine lc_tup (K := K) (a := pF) (xs := js.map fun k => V.ref k.1) (fun i H' => Same HF H' ∧ H' D = some (.lst (((js.take i).filter fun k => decide (rl (valR k) > 0)).map fun k => V.ref k.1))) ⟨same_upd nD, upd_same⟩ (fun i H' _ p => sqT_same p.1 ej2) (fun i x H' hx p => ?_) fun H' p => ?_
    · obtain ⟨j, gj, rfl⟩ := map_at hx
      have jm := List.mem_of_getElem? gj
      have nx := take_filt (c := fun k => decide (rl (valR k) > 0)) gj
      refine ⟨rfl, .ref j.1, rfl, j, rfl, (ej3 j jm).same p.1, ej5 j jm, _, _, rfl, rfl, _, rfl, ?_⟩
      refine ite2 (fun hb => ?_) (fun hb => ?_)
      · rw [if_pos hb] at nx
        refine ⟨.ref j.1, rfl, _, p.2, ?_, fun b o z => ?_, ?_⟩
        · rw [List.length_map]
          have := List.length_filter_le (fun k => decide (rl (valR k) > 0)) (js.take i)
          rw [List.length_take] at this
          exact few1 (by omega)
        · rw [upd_ne (ne_of_none z nD)]; exact p.1 b o z
        · rw [upd_same, nx, List.map_append]; rfl
      · rw [if_neg hb, List.append_nil] at nx
        exact ⟨p.1, by rw [nx]; exact p.2⟩
    · rw [List.length_map, List.take_of_length_le (Nat.le_refl _)] at p
      refine .inl ⟨D, _, rfl, lstNew p.2, fun u nu => ?_⟩
      refine q _ u _ (((s1.trans s1F).trans p.1).trans (same_upd nu)) ⟨js.filter fun k => decide (rl (valR k) > 0), rfl, tupNew upd_same, fun j hj => ((ej3 j (List.mem_filter.mp hj).1).same p.1).same (same_upd nu)⟩ ?_
      have e3 : (js.filter fun k => decide (rl (valR k) > 0)).map valR = (js.map valR).filter fun r => decide (rl r > 0) := by rw [List.filter_map]; rfl
      rw [e3]; exact trn
end
end K6
set_option maxHeartbeats 4000000
/-! {elt for a in x for b in y}: ints, two clauses, no tests -/
namespace RV
open PySem PySem.Spec PyProof.Rows L2
/-- two clauses, no tests -/
abbrev sc2 (el ta ia tb ib : Expr) (sco : Scope) (p : Pos) : Expr := .SetComp el [⟨ta, ia, [], 0⟩, ⟨tb, ib, [], 0⟩] sco p
/-- the code of a comprehension's turn: store what comes, then body -/
def turnOf (p : Pos) (tg : Expr) (it : Value) (env : Env) (rest : Sem Fin) : Sem Fin := standAt p >>= fun _ => pyNext it >>= fun r => match r with
  | none => pure (.done .next)
  | some v => letOwnedTupleGo tg it v >>= fun _ => assign tg env v >>= fun _ => rest
/-- a loop of a comprehension's block whose turns are of that form -/
theorem walk {Y : Cx} {el ta ia t1 ib tg : Expr} {sco : Scope} {pp : Pos} {d : Nat} {it : Addr} {acc : Value} {p : Pos} {rest : Sem Fin} {fp : List Addr} {tn : Nat → Heap → Prop} {J : It} {pins : List (Addr × Obj)} {σ0 : L2.St} {H0 : Hp} {s0 : Shared} {g : TG} {tb : L2.St → Hp → (Hp → Prop) → Prop} {R : Result → Shared → Prop}
    (hc : Y.calm = true) (T : Turn Y.prog Y.w Y.K tg J fp it tn) (form : compTurn (sc2 el ta ia t1 ib sco pp) d (.ref it) acc Y.env = turnOf p tg (.ref it) Y.env rest)
    (fpok : ∀ {H s}, Inv Y pins σ0 H s → (∀ b ∈ fp, H b = none) → ∀ b ∈ fp, FpOk Y pins H b) (pg : PG Y tg g) (noerr : ∀ e s, Y.xe e s → False)
    (hb : ∀ (pins' : List (Addr × Obj)) (σ2 : L2.St) (H2 : Hp) (s2 : Shared) (Nx : Hp → Prop), Inv Y pins' σ2 H2 s2 → tb σ2 H2 Nx → wpAny (model Y.prog Y.w) Y.A rest (fun fin s3 => fin = .again (.compLoop (sc2 el ta ia t1 ib sco pp) d (.ref it) acc Y.env) ∧ ∃ H3, Inv Y pins' σ0 H3 s3 ∧ Nx H3) (fun _ _ => False) s2)
    (W : Nat → Nat → Hp → Prop) {m0 : Nat} (I0 : Inv Y pins σ0 H0 s0) (t0 : tn 0 s0.heap) (n0 : ∀ b ∈ fp, H0 b = none) (w0 : W 0 m0 H0)
    (turn : ∀ i m H, W i m H → (J.stop i H ∧ ∀ s, Inv Y pins σ0 H s → R (.ok .next) s) ∨ (J.go i H ∧ ∃ Nx : Hp → Prop, (∀ H', Nx H' → ∃ m', m' < m ∧ W (i + 1) m' H') ∧ ∀ x H', J.yld i H x H' → g x σ0 H' fun σ2 H2 => tb σ2 H2 Nx)) :
    codeAny (model Y.prog Y.w) Y.A (.compLoop (sc2 el ta ia t1 ib sco pp) d (.ref it) acc Y.env) R s0 := by
  refine codeAny_loop rfl (fun n s => ∃ i H, Inv Y pins σ0 H s ∧ tn i s.heap ∧ (∀ b ∈ fp, H b = none) ∧ W i n H) (fun n s h => ?_) m0 ⟨0, H0, I0, t0, n0, w0⟩
  obtain ⟨i, H, I, st, nf, hw⟩ := h
  show wpAny (model Y.prog Y.w) Y.A ((compTurn (sc2 el ta ia t1 ib sco pp) d (.ref it) acc Y.env).onRaise fun x => do noteFrame x Y.env; theTreesLotGoes x) _ _ s
  refine wpAny_noted ?_
  rw [form]
  refine wpAny_bind (wpAny_standAt (wpAny_bind ?_))
  rcases turn i n H hw with ⟨stop, fin⟩ | ⟨go, Nx, hNx, step⟩
  · refine thnF (T.done Y rfl rfl rfl hc i pins s σ0 H (fun _ _ => False) I (fpok I nf) st stop) fun r s1 ⟨hr, I1⟩ => ?_
    subst hr
    exact wpAny_pure (fin s1 I1)
  · refine thnF (T.item Y rfl rfl rfl hc i pins s σ0 H (fun _ _ => False) I (fpok I nf) st go) fun r s1 ⟨u, hr, h1⟩ => ?_
    subst hr
    refine wpAny_bind (thnF h1 fun _ s2 ⟨x, H2, I2, rx, yx, st2, nf2⟩ => ?_)
    have J2 := I2.pinned (fpok I2 nf2) (T.obj _ _ st2)
    refine wpAny_bind (wpAny_mono (pg.run _ s2 σ0 H2 x u _ J2 rx (step x H2 yx)) (fun _ s3 h3 => ?_) fun e s' z => (noerr e s' z).elim)
    obtain ⟨σ3, H3, I3, b3⟩ := h3
    refine thnF (hb _ σ3 H3 s3 Nx I3 b3) fun fin s4 ⟨ef, H4, I4, nx⟩ => ?_
    subst ef
    refine ⟨rfl, ?_⟩
    obtain ⟨m', lt, w'⟩ := hNx H4 nx
    have held : ∀ b ∈ fp, ∀ o, s2.heap.get? b = some o → s4.heap.get? b = some o ∧ H4 b = none := fun b hb' o e => by
      have z := I4.pin (b, o) (List.mem_append_right _ (List.mem_append_right _ (mem_pinsAt hb' e)))
      exact ⟨z.1, z.2.1⟩
    refine ⟨m', lt, i + 1, H4, I4.unpinned, T.keep _ _ _ st2 fun b hb' o e => (held b hb' o e).1, fun b hb' => ?_, w'⟩
    obtain ⟨o, e, _⟩ := T.obj _ _ st2 b hb'
    exact (held b hb' o e).2
/-- a clause's start goes to its loop -/
theorem start_of {P : Program} {w : World} {A : Around} {env : Env} {R : Result → Shared → Prop} {s : Shared} {el ta ia t1 ib : Expr} {sco : Scope} {pp : Pos} {d : Nat} {it acc : Value} (hd : d < 2) (self : ∀ (Q : Value → Shared → Prop) (E : Value → Shared → Prop), Q it s → wpAny (model P w) A (pyIter it) Q E s)
    (h : codeAny (model P w) A (.compLoop (sc2 el ta ia t1 ib sco pp) d it acc env) R s) : codeAny (model P w) A (.compStart (sc2 el ta ia t1 ib sco pp) d it acc env) R s := by
  refine codeAny_of_tree ?_
  show wpAny (model P w) A ((compStart (sc2 el ta ia t1 ib sco pp) d it acc env).onRaise fun x => do noteFrame x env; standAt theWindowsPlace) _ _ s
  refine wpAny_notedAt ?_
  have go : ∀ q : Pos, wpAny (model P w) A (standAt q >>= fun _ => pyIter it >>= fun j => again (.compLoop (sc2 el ta ia t1 ib sco pp) d j acc env)) (fun fin s' => match fin with | .done f => R (.ok f) s' | .again c' => c'.quiet = true ∧ codeAny (model P w) A c' R s') (notedBy (model P w) A env fun e s' => R (.error e) s') s := fun q =>
    wpAny_bind (wpAny_standAt (wpAny_bind (self _ _ (wpAny_pure ⟨rfl, h⟩))))
  have now : wpAny (model P w) A (again (.compLoop (sc2 el ta ia t1 ib sco pp) d it acc env)) (fun fin s' => match fin with | .done f => R (.ok f) s' | .again c' => c'.quiet = true ∧ codeAny (model P w) A c' R s') (notedBy (model P w) A env fun e s' => R (.error e) s') s := wpAny_pure ⟨rfl, h⟩
  obtain rfl | rfl : d = 0 ∨ d = 1 := by omega
  all_goals
    unfold compStart
    show wpAny (model P w) A (ask >>= _) _ _ s
    refine wpAny_bind (wpAny_askSetting (wpAny_ite ?_))
    split
    · exact wpAny_bind (wpAny_pure now)
    · exact wpAny_bind (wpAny_rule (go _))
section
variable {el ta ia t1 ib : Expr} {sco : Scope} {pp : Pos}
theorem form0 (it acc : Value) (env : Env) : compTurn (sc2 el ta ia t1 ib sco pp) 0 it acc env = turnOf ia.pos ta it env
    (eval ib env >>= fun x => standAt ib.pos >>= fun _ => foldedSetIterable ib env x >>= fun x => holding [x] (pyIter x) >>= fun j => runOwn (.compStart (sc2 el ta ia t1 ib sco pp) 1 j acc env) env >>= fun _ => again (.compLoop (sc2 el ta ia t1 ib sco pp) 0 it acc env)) := by rfl
theorem form1 (it acc : Value) (env : Env) : compTurn (sc2 el ta ia t1 ib sco pp) 1 it acc env = turnOf ib.pos t1 it env
    ((eval el env >>= fun v => standAt el.pos >>= fun _ => call (.builtin "set.add") [acc, v] >>= fun _ => pure ()) >>= fun _ => again (.compLoop (sc2 el ta ia t1 ib sco pp) 1 it acc env)) := by rfl
end
/-- what the inner loop must do, from what the outer one stored -/
def tInner (w : World) (D : Addr) (wi1 : TI) (g1 : TG) (te : TE) (vs1 : List Nat) : L2.St → Hp → (Hp → Prop) → Prop := fun σ2 H2 Nx => wi1 σ2 H2 fun J1 H4 => ∃ W1 : Nat → Nat → Hp → Prop, (∃ m, W1 0 m H4) ∧ ∀ j k H, W1 j k H →
  (J1.stop j H ∧ Nx H) ∨ (J1.go j H ∧ ∃ Nx1 : Hp → Prop, (∀ H', Nx1 H' → ∃ k', k' < k ∧ W1 (j + 1) k' H') ∧ ∀ x H', J1.yld j H x H' → g1 x (wipe σ2 vs1) H' fun σ3 H5 => wipe σ3 vs1 = wipe σ2 vs1 ∧
    te σ3 H5 fun y H7 => ∃ (c : Int) (S : Int → Bool) (n : Nat), y = .int c ∧ H7 D = some (SetO w D S n) ∧ n + 1 < scanBound ∧ Nx1 (upd H7 D (SetO w D (fun j => S j || decide (j = c)) (if S c = true then n else n + 1))))
/-- {el for ta in ia for t1 in ib}: D the new set, vs the block's names, vs1 those of the second target -/
def tS2 (w : World) (wi : TI) (g : TG) (wi1 : TI) (g1 : TG) (te : TE) (vs vs1 : List Nat) : TE := fun σ H Q => wi σ H fun J H1 => ∀ D, H1 D = none → ∃ W : Nat → Nat → Hp → Prop, (∃ m, W 0 m (upd H1 D (SetO w D (fun _ => false) 0))) ∧ ∀ i m H, W i m H →
  (J.stop i H ∧ Q (.ref D) H) ∨ (J.go i H ∧ ∃ Nx : Hp → Prop, (∀ H', Nx H' → ∃ m', m' < m ∧ W (i + 1) m' H') ∧ ∀ x H', J.yld i H x H' → g x (wipe σ vs) H' fun σ2 H2 => wipe σ2 vs = wipe σ vs ∧ tInner w D wi1 g1 te vs1 σ2 H2 Nx)
theorem wipe_keep {σ : L2.St} {j : Nat} : ∀ {vs : List Nat}, j ∉ vs → (wipe σ vs)[j]? = σ[j]?
  | [], _ => rfl
  | v :: vs, h => by
    have h1 := List.ne_of_not_mem_cons h
    show ((wipe σ vs).set v none)[j]? = _
    rw [List.getElem?_set_ne (Ne.symm h1), wipe_keep (List.not_mem_of_not_mem_cons h)]
section
variable {Y : Cx} {el ta ia t1 ib : Expr} {sco : Scope} {pp : Pos} {D : Addr} {wi1 : TI} {g1 : TG} {te : TE} {vs vs1 : List Nat} {σ0 : L2.St}
/-- the outer loop's body -/
theorem inner {o : Addr} (hc : Y.calm = true) (noerr : ∀ e s, Y.xe e s → False) (hv : ∀ i ∈ vs1, i ∈ vs) (hs : ∀ x, foldedSetIterable ib Y.env x = pure x) (p1 : PI Y t1 ib wi1) (pg1 : PG Y t1 g1) (pe : PE Y el te)
    (pins : List (Addr × Obj)) (σ2 : L2.St) (H2 : Hp) (s2 : Shared) (Nx : Hp → Prop) (I2 : Inv Y pins σ2 H2 s2) (h : wipe σ2 vs = σ0 ∧ tInner Y.w D wi1 g1 te vs1 σ2 H2 Nx) :
    wpAny (model Y.prog Y.w) Y.A (eval ib Y.env >>= fun x => standAt ib.pos >>= fun _ => foldedSetIterable ib Y.env x >>= fun x => holding [x] (pyIter x) >>= fun j => runOwn (.compStart (sc2 el ta ia t1 ib sco pp) 1 j (.ref D) Y.env) Y.env >>= fun _ => again (.compLoop (sc2 el ta ia t1 ib sco pp) 0 (.ref o) (.ref D) Y.env))
      (fun fin s3 => fin = .again (.compLoop (sc2 el ta ia t1 ib sco pp) 0 (.ref o) (.ref D) Y.env) ∧ ∃ H3, Inv Y pins σ0 H3 s3 ∧ Nx H3) (fun _ _ => False) s2 := by
  obtain ⟨hw, h⟩ := h
  refine wpAny_bind (wpAny_mono (p1.run pins s2 σ2 H2 _ I2 h) (fun x s3 hx => ?_) fun e s z => (noerr e s z).elim)
  refine wpAny_bind (wpAny_standAt (wpAny_bind (wpAny_of_eq (hs x) (wpAny_bind (wpAny_holding (wpAny_mono hx (fun j s4 h4 => ?_) fun e s z => (noerr e s z).elim))))))
  obtain ⟨it, fp, tn, J1, H4, e, I4, T, st4, f4, W1, ⟨m1, w1⟩, turn1⟩ := h4
  subst e
  have back : ∀ {H s}, Inv Y pins (wipe σ2 vs1) H s → Inv Y pins σ0 H s := fun I => by
    subst hw
    refine I.weak (by rw [wipe_length, wipe_length]) fun i v e => ?_
    obtain ⟨e1, e2⟩ := wipe_some e
    rw [wipe_keep fun z => e2 (hv i z)]; exact e1
  refine wpAny_bind (wpAny_runOwn ?_)
  rw [Around.mark_none]
  have loop := walk (tb := fun σ3 H5 Nx1 => wipe σ3 vs1 = wipe σ2 vs1 ∧ te σ3 H5 fun y H7 => ∃ (c : Int) (S : Int → Bool) (n : Nat), y = .int c ∧ H7 D = some (SetO Y.w D S n) ∧ n + 1 < scanBound ∧ Nx1 (upd H7 D (SetO Y.w D (fun j => S j || decide (j = c)) (if S c = true then n else n + 1))))
    (R := fun r s' => match r with | .ok _ => ∃ H3, Inv Y pins σ0 H3 s' ∧ Nx H3 | .error _ => False) hc T (form1 (el := el) (ta := ta) (ia := ia) (t1 := t1) (ib := ib) (sco := sco) (pp := pp) (.ref it) (.ref D) Y.env)
    (fun {H s} _ hn b hb => ⟨hn b hb, (f4 b hb).2⟩) pg1 noerr
    (fun pins' σ3 H5 s5 Nx1 I5 ⟨hw5, h5⟩ => by
      refine wpAny_bind (wpAny_bind (wpAny_mono (pe.run pins' s5 σ3 H5 _ I5 h5) (fun z s6 h6 => ?_) fun e s z => (noerr e s z).elim))
      obtain ⟨y, H7, I7, r7, c, S, n, ey, hD, room, nx⟩ := h6
      subst ey
      refine wpAny_bind (wpAny_standAt (wpAny_bind ?_))
      refine wpAny_mono (mt_sadd pins' s6 σ3 H7 (.ref D) [.int c] (.ref D) [z] (fun _ H' => Nx1 H') I7 rfl (.cons r7 .nil) ⟨D, c, S, n, rfl, rfl, hD, room, nx⟩) (fun _ s8 h8 => ?_) fun e s z => (noerr e s z).elim
      obtain ⟨y8, H8, I8, _, q8⟩ := h8
      exact wpAny_pure (wpAny_pure ⟨rfl, H8, I8.weak (by rw [← hw5, wipe_length]) fun i v e => by rw [← hw5] at e; exact (wipe_some e).1, q8⟩))
    W1 (I4.weak (wipe_length _ _) fun i v e => (wipe_some e).1) st4 (fun b hb => (f4 b hb).1) w1
    (fun j k H hW => by
      rcases turn1 j k H hW with ⟨stop, nx⟩ | ⟨go, Nx1, hN1, step⟩
      · exact .inl ⟨stop, fun s I => ⟨H, back I, nx⟩⟩
      · exact .inr ⟨go, Nx1, hN1, step⟩)
  refine codeAny_mono (start_of (by decide) (fun Q E q => T.self _ 0 _ _ _ st4 q) loop) fun r s' hr => ?_
  cases r with
  | ok f => exact wpAny_pure ⟨rfl, hr⟩
  | error e => exact hr.elim
end
section
variable {X : Cx}
abbrev blkEnv (X : Cx) (sco : Scope) (s : Shared) : Env := compEnvC sco (cellsFrom (s.heap.objs.size + 1) sco.names (cloFrom X.env.cells sco.names [])) s.heap.objs.size X.env
theorem block {el ta ia t1 ib : Expr} {sco : Scope} {own : List (PySem.Str × Nat)} {vs1 : List Nat} {pp : Pos} {wi1 : TI} {g g1 : TG} {te : TE} {pins : List (Addr × Obj)} {σ : L2.St} {H : Hp} {s : Shared} {it D : Addr} {fp : List Addr} {tn : Nat → Heap → Prop} {J : It} {Q : VK} {W : Nat → Nat → Hp → Prop} {m0 : Nat} {Z : Result → Shared → Prop}
    (hc : X.calm = true) (hN : X.N.Nodup) (ok : BlkOk X.N X.env.scope sco own) (hv : ∀ i ∈ vs1, i ∈ own.map (·.2)) (hs1 : ∀ env x, foldedSetIterable ib env x = pure x)
    (pg : PG (X.blk s H sco (blkEnv X sco s) fp) ta g) (p1 : PI (X.blk s H sco (blkEnv X sco s) fp) t1 ib wi1) (pg1 : PG (X.blk s H sco (blkEnv X sco s) fp) t1 g1) (pe : PE (X.blk s H sco (blkEnv X sco s) fp) el te)
    (I : Inv X pins σ H s) (T : Turn X.prog X.w X.K ta J fp it tn) (st : tn 0 s.heap) (hf : ∀ b ∈ fp, FpOk X pins H b ∧ b < s.heap.objs.size) (w0 : W 0 m0 H)
    (turn : ∀ i m H, W i m H → (J.stop i H ∧ Q (.ref D) H) ∨ (J.go i H ∧ ∃ Nx : Hp → Prop, (∀ H', Nx H' → ∃ m', m' < m ∧ W (i + 1) m' H') ∧ ∀ x H', J.yld i H x H' → g x (wipe σ (own.map (·.2))) H' fun σ2 H2 => wipe σ2 (own.map (·.2)) = wipe σ (own.map (·.2)) ∧ tInner X.w D wi1 g1 te vs1 σ2 H2 Nx))
    (fin : ∀ s' H' m, Inv X pins σ H' s' → Q (.ref D) H' → s'.heap.Ns s.heap.objs.size m → FpOk X pins H' s.heap.objs.size → Z (.ok .next) s') :
    codeAny (model X.prog X.w) X.A (.compStart (sc2 el ta ia t1 ib sco pp) 0 (.ref it) (.ref D) (blkEnv X sco s)) Z { s with heap := pushCells (s.heap.push { cls := .type "dict", data := .dict #[] }) sco.names } := by
  have I4 := block_start I ok hN hf
  have st4 : tn 0 (pushCells (s.heap.push { cls := .type "dict", data := .dict #[] }) sco.names) := T.keep _ _ _ st fun b _ o e => pushCells_keeps _ _ _ _ (Heap.get?_push_of_some _ e)
  refine start_of (by decide) (fun Q' E q => T.self _ 0 _ _ _ st4 q) ?_
  refine walk (Y := X.blk s H sco (blkEnv X sco s) fp) (tb := fun σ2 H2 Nx => wipe σ2 (own.map (·.2)) = wipe σ (own.map (·.2)) ∧ tInner X.w D wi1 g1 te vs1 σ2 H2 Nx) hc T (form0 (.ref it) (.ref D) (blkEnv X sco s))
    (fun {H' s'} I' hn b hb => ⟨hn b hb, (I'.ok.exf b hb).1, I'.ok.exfs b hb, .inl hb, fun x c e => (I'.ok.exf b hb).2 x c e, fun p hp => nomatch (show p ∈ ([] : List (Addr × Obj)) from hp)⟩) pg (fun _ _ z => z)
    (fun pins' σ2 H2 s2 Nx I2 h2 => inner (Y := X.blk s H sco (blkEnv X sco s) fp) (vs := own.map (·.2)) hc (fun _ _ z => z) hv (hs1 _) p1 pg1 pe pins' σ2 H2 s2 Nx I2 h2) W I4 st4 (fun b hb => (hf b hb).1.1) w0 (fun i m H' hW => ?_)
  rcases turn i m H' hW with ⟨stop, qq⟩ | z
  · refine .inl ⟨stop, fun s6 I6 => ?_⟩
    obtain ⟨m', hn, _⟩ := I6.loc
    exact fin s6 H' m' (I.call' (ch := fp) I6.os I6.base I6.hok I6.bare fun b hb => (hf b hb).1.2.2.2.1 |> fun z => ⟨z, (hf b hb).1.2.1, (hf b hb).1.2.2.2.2.1, (hf b hb).1.2.2.2.2.2⟩) qq hn (I.fpOk (Nat.le_refl _) I6.free)
  · exact .inr z
theorem pe_sc2 {el ta ia t1 ib : Expr} {sco : Scope} {own : List (PySem.Str × Nat)} {vs1 : List Nat} {pp : Pos} {wi wi1 : TI} {g g1 : TG} {te : TE} (hc : X.calm = true) (hN : X.N.Nodup) (hi : PI X ta ia wi) (ok : BlkOk X.N X.env.scope sco own) (hv : ∀ i ∈ vs1, i ∈ own.map (·.2))
    (hg : ∀ s H C cl fp, PG (X.blk s H sco (compEnvC sco cl C X.env) fp) ta g) (hi1 : ∀ s H C cl fp, PI (X.blk s H sco (compEnvC sco cl C X.env) fp) t1 ib wi1) (hg1 : ∀ s H C cl fp, PG (X.blk s H sco (compEnvC sco cl C X.env) fp) t1 g1)
    (he : ∀ s H C cl fp, PE (X.blk s H sco (compEnvC sco cl C X.env) fp) el te) (hs : ∀ x, foldedSetIterable ia X.env x = pure x := by intro _; rfl) (hs1 : ∀ env x, foldedSetIterable ib env x = pure x := by intro _ _; rfl) :
    PE X (.SetComp el [⟨ta, ia, [], 0⟩, ⟨t1, ib, [], 0⟩] sco pp) (tS2 X.w wi g wi1 g1 te (own.map (·.2)) vs1) := by
  refine ⟨fun pins s σ H Q I h => ?_⟩
  rw [PpSet.eval_SetComp]
  have known : ∀ y ∈ sco.names, y.2 = .free → ∃ c, X.env.cells.lookup y.1 = some c := fun y hy e => I.ok.has _ (ok.free y hy e)
  refine wpAny_comprehension_free (use := none) rfl hs (closure_ok known) ok.kind (fun y hy e => by rw [ok.uniq y hy, e]) (thn (hi.run pins s σ H _ I h) fun _ _ hx => thn hx fun iv s2 h2 => ?_)
  obtain ⟨it, fp, tn, J, H2, e, I2, T, st2, f2, q⟩ := h2
  subst e
  refine PpSet.newSet_ok (newEnv_comp ?_)
  have nD : H2 s2.heap.objs.size = none := I2.hok.fresh (Nat.le_refl _)
  obtain ⟨W, ⟨m0, w0⟩, turn⟩ := q _ nD
  have I3 := I2.laid (t' := s2.toks) (o := SetO X.w s2.heap.objs.size (fun _ => false) 0) (fun b o e => Heap.get?_push_of_some { cls := .type "set", dict := none, data := .set #[] 0 (.fresh 0 0 (!X.w.params.followText "set-order")) } e) (Nat.le_refl _) (setO_new (setR_fresh X.w))
  have young : ∀ b ∈ fp, b < s2.heap.objs.size := fun b hb => (T.obj _ _ st2 b hb).elim fun o e => Heap.lt_size e.1
  exact block hc hN ok hv hs1 (hg _ _ _ _ _) (hi1 _ _ _ _ _) (hg1 _ _ _ _ _) (he _ _ _ _ _) I3 T (T.keep _ _ _ st2 fun b _ o e => Heap.get?_push_of_some _ e)
    (fun b hb => ⟨⟨by rw [upd_ne (Nat.ne_of_lt (young b hb))]; exact (f2 b hb).1, (f2 b hb).2⟩, by show b < (Heap.push _ _).objs.size; rw [Heap.size_push]; exact Nat.lt_succ_of_lt (young b hb)⟩) w0 turn
    fun s' H' m I' qq hn ⟨f0, f1, _, f3, f4, f5⟩ => ⟨m, hn, fun h'' sb => ⟨.ref s2.heap.objs.size, H', I'.turned (t' := s'.toks) (fun b o hb e => (sb.2 b hb).trans e) f0 f1 f3 f4 f5, rfl, qq⟩⟩
end
end RV
set_option maxHeartbeats 4000000
/-! min of tuples of ints: of two, of a list of them -/
namespace RV
open PySem PySem.Spec PyProof.Rows L2
theorem lex_irr (xs : List Int) : HT.lexLt xs xs = false := by
  cases e : HT.lexLt xs xs with
  | false => rfl
  | true => have := NtL.lex_asym _ _ e; rw [e] at this; cases this
/-- the place of the first least -/
theorem best_least (l : Nat → List Int) : ∀ n : Nat, argBest (fun i j => HT.lexLt (l i) (l j)) n ≤ n ∧ ∀ j, j ≤ n → HT.lexLt (l j) (l (argBest (fun i j => HT.lexLt (l i) (l j)) n)) = false
  | 0 => ⟨Nat.le_refl _, fun j hj => by
    have : j = 0 := by omega
    subst this
    exact lex_irr _⟩
  | n + 1 => by
    obtain ⟨h1, h2⟩ := best_least l n
    have e0 : argBest (fun i j => HT.lexLt (l i) (l j)) (n + 1) = if HT.lexLt (l (n + 1)) (l (argBest (fun i j => HT.lexLt (l i) (l j)) n)) then n + 1 else argBest (fun i j => HT.lexLt (l i) (l j)) n := rfl
    rw [e0]
    generalize argBest (fun i j => HT.lexLt (l i) (l j)) n = b at h1 h2
    cases e : HT.lexLt (l (n + 1)) (l b) with
    | true =>
      rw [if_pos rfl]
      refine ⟨Nat.le_refl _, fun j hj => ?_⟩
      rcases Nat.lt_or_ge j (n + 1) with z | z
      · exact NtL.lex_tr _ _ _ (NtL.lex_asym _ _ e) (h2 j (by omega))
      · have : j = n + 1 := by omega
        subst this; exact lex_irr _
    | false =>
      rw [if_neg (by decide)]
      refine ⟨by omega, fun j hj => ?_⟩
      rcases Nat.lt_or_ge j (n + 1) with z | z
      · exact h2 j (by omega)
      · have : j = n + 1 := by omega
        subst this; exact e
section
variable {prog : Program} {w : World} {A : Around} {E : Value → Shared → Prop} {s : Shared}
/-- v is a tuple of the ints ns in h -/
def TupIn (h : Heap) (v : Value) (ns : List Int) : Prop := ∃ (a : Addr) (items : Array Value), v = .ref a ∧ IsTup h a items ∧ IntsAre items.toList ns
theorem TupIn.keep {h h' : Heap} {v : Value} {ns : List Int} (t : TupIn h v ns) (k : ∀ b o, h.get? b = some o → h'.get? b = some o) : TupIn h' v ns := by
  obtain ⟨a, items, e, ⟨o, h1, h2, h3⟩, hi⟩ := t
  exact ⟨a, items, e, ⟨o, k _ _ h1, h2, h3⟩, hi⟩
theorem cmp_tups {vs : Array Value} {l : Nat → List Int} (hu : A.units < cLine) (ht : ∀ i v, vs[i]? = some v → TupIn s.heap v (l i)) :
    CmpIn prog w A .Lt s.heap (fun i v => vs[i]? = some v) (fun i j => HT.lexLt (l i) (l j)) := fun i j vi vj s' Q E hk hi hj hq => by
  obtain ⟨a, it1, rfl, t1, i1⟩ := (ht i vi hi).keep hk
  obtain ⟨b, it2, rfl, t2, i2⟩ := (ht j vj hj).keep hk
  exact HT.lt_tupInts t1 t2 i1 i2 hu hq
/-- min(l) of a list of tuples of ints -/
theorem min_tups {a : Addr} {vs : Array Value} {l : Nat → List Int} {Q : Value → Shared → Prop} (hh : A.handled = none) (hl : s.heap.IsList a vs) (h0 : 0 < vs.size) (hu : A.units + 1 < cLine) (ht : ∀ i v, vs[i]? = some v → TupIn s.heap v (l i))
    (h : ∀ (i : Nat) v h' tk, vs[i]? = some v → (∀ j, j < vs.size → HT.lexLt (l j) (l i) = false) → (∀ b o, s.heap.get? b = some o → h'.get? b = some o) → Q v { s with heap := h', toks := tk }) :
    wpAny (model prog w) A (call (.builtin "min") [.ref a]) Q E s := by
  refine call_min_walkH (PySem.W.iter_listW (A := A.in1) hh hl fun s₂ e W st hfp hw hk => ?_)
  refine ⟨_, _, _, _, _, _, _, s.heap, _, rfl, W, st, hfp, h0, hw, hk, cmp_tups (A := A.in1) (show A.units + 1 < cLine from hu) ht, fun v s' hP m => ?_⟩
  obtain ⟨h', tk, rfl, hk'⟩ := PySem.W.moved_old e rfl m
  obtain ⟨b1, b2⟩ := best_least l (vs.size - 1)
  exact h _ v h' tk hP (fun j hj => b2 j (by omega)) hk'
/-- min(v, u) of two tuples of ints -/
theorem min_two_tups {v u : Value} {ns ms : List Int} {Q : Value → Shared → Prop} (hh : A.handled = none) (hu : A.units + 1 < cLine) (hv : TupIn s.heap v ns) (hw : TupIn s.heap u ms)
    (h : ∀ h' tk, (∀ b o, s.heap.get? b = some o → h'.get? b = some o) → Q (if HT.lexLt ms ns = true then u else v) { s with heap := h', toks := tk }) :
    wpAny (model prog w) A (call (.builtin "min") [v, u]) Q E s := by
  have hname : (toString "min" ++ toString ".loop" : String) = "min.loop" := by decide
  refine call_function_tree F.kind_min F.plain_min F.entry_min (F.args_min2 _ _) ?_
  show wpAny _ A.in1 (Builtin.Builtins.bindParams "min" ["key", "default"] 0 ⟨[], []⟩ >>= _) _ _ s
  refine wpAny_bind (wpAny_of_eq (show Builtin.Builtins.bindParams "min" ["key", "default"] 0 ⟨[], []⟩ = pure [none, none] from rfl) ?_)
  show wpAny _ A.in1 (newTuple [v, u] >>= _) _ _ s
  refine wpAny_bind (wpAny_newObj_type ?_)
  have hT : (s.heap.push { cls := .type "tuple", data := .seq #[v, u] }).IsTuple s.heap.objs.size #[v, u] := ⟨_, Heap.get?_push_size _ rfl, rfl, 0, rfl⟩
  have k0 : ∀ b o, s.heap.get? b = some o → (s.heap.push { cls := .type "tuple", data := .seq #[v, u] }).get? b = some o := fun b o e => Heap.get?_push_of_some _ e
  have ht : ∀ i x, (#[v, u] : Array Value)[i]? = some x → TupIn (s.heap.push { cls := .type "tuple", data := .seq #[v, u] }) x ((fun i : Nat => if i = 0 then ns else ms) i) := fun i x hx => by
    match i, hx with
    | 0, hx => cases hx; exact hv.keep k0
    | 1, hx => cases hx; exact hw.keep k0
    | i + 2, hx => simp at hx
  refine wpAny_bind (PySem.W.iter_tupleW (s := { s with heap := s.heap.push { cls := .type "tuple", data := .seq #[v, u] } }) (A := A.in1) hh hT fun s₂ e W st hfp hw' hk => ?_)
  refine wpAny_bind (wpAny_newObj_type ?_)
  have hSf : s₂.heap.objs.size ∉ [(s.heap.push { cls := .type "tuple", data := .seq #[v, u] }).objs.size, s.heap.objs.size] := fun hm => Nat.lt_irrefl _ (hfp _ hm)
  rw [hname]
  refine wpAny_pure ⟨plainId_quiet F.plain_min_loop _, codeAny_min_loop_firstH W _ hw' _ (cmp_tups (s := { s with heap := s.heap.push { cls := .type "tuple", data := .seq #[v, u] } }) (A := A.in1) (show A.units + 1 < cLine from hu) ht) s₂.heap.objs.size hSf (fresh_in hk) _ (by show 0 < 2; decide) (fun b o e => Heap.get?_push_of_some _ (hk b o e)) (W.frame 0 s₂ _ s₂.toks st (Nat.le_refl _) fun b _ o e => Heap.get?_push_of_some _ e) (Heap.get?_push_size _ rfl) fun x s' hP hm => ?_⟩
  have m := Moved.drop_new (tk := s₂.toks) hm (Nat.le_refl _)
  obtain ⟨h', tk, rfl, hk'⟩ := PySem.W.moved_old e rfl m
  have z := h h' tk fun b o eb => hk' b o (k0 b o eb)
  have ex : x = if HT.lexLt ms ns = true then u else v := by
    have hP1 : (#[v, u] : Array Value)[argBest (fun i j => HT.lexLt ((fun i : Nat => if i = 0 then ns else ms) i) ((fun i : Nat => if i = 0 then ns else ms) j)) 1]? = some x := hP
    cases el : HT.lexLt ms ns with
    | true =>
      have e1 : argBest (fun i j => HT.lexLt ((fun i : Nat => if i = 0 then ns else ms) i) ((fun i : Nat => if i = 0 then ns else ms) j)) 1 = 1 := by simp [argBest, el]
      rw [e1] at hP1
      rw [if_pos rfl]; cases hP1; rfl
    | false =>
      have e1 : argBest (fun i j => HT.lexLt ((fun i : Nat => if i = 0 then ns else ms) i) ((fun i : Nat => if i = 0 then ns else ms) j)) 1 = 0 := by simp [argBest, el]
      rw [e1] at hP1
      rw [if_neg (by decide)]; cases hP1; rfl
  rw [ex]; exact z
end
section
variable {X : Cx}
theorem tupIn_of {pins : List (Addr × Obj)} {s : Shared} {σ : L2.St} {H : Hp} (I : Inv X pins σ H s) {a : Addr} {ns : List Int} (h : SqT X.K H a (ns.map V.int)) : TupIn s.heap (.ref a) ns := by
  obtain ⟨its, r1, p1, _⟩ := I.tuple h
  exact ⟨a, _, rfl, p1, intsAre_of r1⟩
/-- min(t, u) of two tuples of ints -/
def rMin2T (K : PySem.W.Frag) : List V → Hp → VK → Prop := fun vs H Q => ∃ (a b : Addr) (ns ms : List Int), vs = [.ref a, .ref b] ∧ SqT K H a (ns.map V.int) ∧ SqT K H b (ms.map V.int) ∧ Q (.ref (if HT.lexLt ms ns = true then b else a)) H
theorem cr_min2T (hc : X.calm = true) (hu : X.A.units + 1 < cLine) : CallR X (.builtin "min") (rMin2T X.K) := by
  intro pins s σ H vs us Q I r h
  obtain ⟨a, b, ns, ms, rfl, ha, hb, q⟩ := h
  obtain ⟨u, w', rfl, e1, e2⟩ := vals2 r
  cases e1
  cases e2
  refine min_two_tups (I.ok.hd hc) hu (tupIn_of I ha) (tupIn_of I hb) fun h' tk k => ⟨_, H, I.kept k, ?_, q⟩
  cases HT.lexLt ms ns <;> rfl
/-! sorted of two tuples of ints of one length -/
theorem code_lex {B : Int} : ∀ {xs ys : List Int}, xs.length = ys.length → TS.Bd B xs → TS.Bd B ys → HT.lexLt xs ys = decide (TS.code B xs < TS.code B ys)
  | [], [], _, _, _ => by
    show false = decide (TS.code B [] < TS.code B [])
    rw [decide_eq_false (Int.lt_irrefl _)]
  | x :: xs, y :: ys, hl, h1, h2 => by
    have hl' : xs.length = ys.length := by simpa using hl
    have t1 : TS.Bd B xs := fun m hm => h1 m (List.mem_cons_of_mem _ hm)
    have t2 : TS.Bd B ys := fun m hm => h2 m (List.mem_cons_of_mem _ hm)
    rw [HT.lexLt_cons]
    by_cases e : x = y
    · rw [if_pos e, code_lex hl' t1 t2, e]
      refine decide_eq_decide.mpr ?_
      show TS.code B xs < TS.code B ys ↔ y * B ^ xs.length + TS.code B xs < y * B ^ ys.length + TS.code B ys
      rw [hl']
      omega
    · rw [if_neg e]
      refine decide_eq_decide.mpr ⟨fun z => TS.code_lt hl' t1 t2 z, fun z => ?_⟩
      rcases Int.lt_trichotomy x y with c | c | c
      · exact c
      · exact absurd c e
      · have := TS.code_lt hl'.symm t2 t1 c
        omega
theorem lex_tot : ∀ {xs ys : List Int}, HT.lexLt xs ys = false → HT.lexLt ys xs = false → xs = ys
  | [], [], _, _ => rfl
  | [], y :: ys, h, _ => by cases h
  | x :: xs, [], _, h => by cases h
  | x :: xs, y :: ys, h1, h2 => by
    rw [HT.lexLt_cons] at h1 h2
    by_cases e : x = y
    · rw [if_pos e] at h1
      rw [if_pos e.symm] at h2
      rw [e, lex_tot h1 h2]
    · rw [if_neg e] at h1
      rw [if_neg (fun z => e z.symm)] at h2
      have a1 := of_decide_eq_false h1
      have a2 := of_decide_eq_false h2
      omega
def rSort2T (K : PySem.W.Frag) : List V → Hp → VK → Prop := fun vs H Q => ∃ (l a b : Addr) (ns ms : List Int) (B : Int), vs = [.ref l] ∧ SqL K H l [.ref a, .ref b] ∧ SqT K H a (ns.map V.int) ∧ SqT K H b (ms.map V.int) ∧ ns.length = ms.length ∧ 1 ≤ ns.length ∧ TS.Bd B ns ∧ TS.Bd B ms ∧
  ∀ (c d p : Addr), SqT K H c ((if HT.lexLt ms ns = true then ms else ns).map V.int) → H p = none → Q (.ref p) (upd H p (.lst [.ref c, .ref d]))
theorem cr_sort2T : CallR X (.builtin "sorted") (rSort2T X.K) := by
  intro pins s σ H vs us Q I r h
  obtain ⟨l, a, b, ns, ms, B, rfl, hL, ha, hb, hlen, h1, B1, B2, q⟩ := h
  refine cr_sortT (d := ns.length) (B := B) h1 pins s σ H _ us Q I r ⟨l, _, rfl, hL, by show 2 < 64; decide, fun x hx => ?_, fun ys p pm pw np => ?_⟩
  · simp only [List.mem_cons, List.not_mem_nil, or_false] at hx
    rcases hx with rfl | rfl
    · exact ⟨ns, ⟨a, rfl, ha⟩, rfl, B1⟩
    · exact ⟨ms, ⟨b, rfl, hb⟩, hlen.symm, B2⟩
  · have hl2 : ys.length = 2 := pm.length_eq
    match ys, hl2, pm, pw with
    | [x, y], _, pm, pw =>
      have rel : ∀ n m, TupI X.K H x n → TupI X.K H y m → TS.code B n ≤ TS.code B m := by
        have z := pw
        rw [List.pairwise_cons] at z
        exact z.1 y (List.mem_singleton.mpr rfl)
      have ma : V.ref a = x ∨ V.ref a = y := by
        have z := pm.mem_iff.mpr (show V.ref a ∈ [V.ref a, V.ref b] by simp)
        simpa using z
      have mb : V.ref b = x ∨ V.ref b = y := by
        have z := pm.mem_iff.mpr (show V.ref b ∈ [V.ref a, V.ref b] by simp)
        simpa using z
      have my : y = V.ref a ∨ y = V.ref b := by
        have z := pm.mem_iff.mp (show y ∈ [x, y] by simp)
        simpa using z
      obtain ⟨d, ed⟩ : ∃ d, y = V.ref d := my.elim (fun e => ⟨_, e⟩) fun e => ⟨_, e⟩
      have fst : ∀ ty : TupI X.K H y ms, x = V.ref a → Q (.ref p) (upd H p (.lst [x, y])) := fun ty ex => by
        have le := rel ns ms ⟨a, ex, ha⟩ ty
        have z := code_lex hlen.symm B2 B1
        rw [decide_eq_false (by omega)] at z
        rw [ex, ed]
        refine q a d p ?_ np
        rw [z, if_neg (by decide)]; exact ha
      rcases ma with ea | ea
      · rcases mb with eb | eb
        · have eab : a = b := V.ref.inj (ea.trans eb.symm)
          refine fst ?_ ea.symm
          rcases my with e | e
          · exact ⟨a, e, by rw [eab]; exact hb⟩
          · exact ⟨b, e, hb⟩
        · exact fst ⟨b, eb.symm, hb⟩ ea.symm
      · rcases mb with eb | eb
        · have le := rel ms ns ⟨b, eb.symm, hb⟩ ⟨a, ea.symm, ha⟩
          rw [← eb, ed]
          refine q b d p ?_ np
          have z := code_lex hlen.symm B2 B1
          cases el : HT.lexLt ms ns with
          | true => rw [if_pos rfl]; exact hb
          | false =>
            rw [if_neg (by decide)]
            have z2 := code_lex hlen B1 B2
            rw [decide_eq_false (by omega)] at z2
            rw [lex_tot z2 el]; exact hb
        · have eab : a = b := V.ref.inj (ea.trans eb.symm)
          have mx : x = V.ref a ∨ x = V.ref b := by
            have z := pm.mem_iff.mp (show x ∈ [x, y] by simp)
            simpa using z
          refine fst ⟨b, eb.symm, hb⟩ ?_
          rcases mx with e | e
          · exact e
          · rw [e, eab]
end
end RV
set_option maxHeartbeats 4000000
/-! the least of all walks: mark by mark, and of all gone through -/
namespace RV
open PyProof.Rows
section
variable {bh : Int → List Int} {N : Nat} {E : List Int}
/-- from where so many steps lead to E -/
def beg (bh : Int → List Int) (N : Nat) (E : List Int) : Nat → List Int
  | 0 => E
  | n + 1 => (upN N).filter fun m => (bh m).any fun c => decide (c ∈ beg bh N E n)
theorem mem_beg {n : Nat} {m : Int} : m ∈ beg bh N E (n + 1) ↔ (0 ≤ m ∧ m < (N : Int)) ∧ ∃ c ∈ bh m, c ∈ beg bh N E n := by
  show m ∈ (upN N).filter _ ↔ _
  rw [List.mem_filter, mem_upN, List.any_eq_true]
  simp only [decide_eq_true_eq]
/-- mark by mark the least that still leads there -/
def Gr (bh : Int → List Int) (B : Nat → List Int) : Nat → Int → List Int → Prop
  | 0, m, w => w = [m]
  | n + 1, m, w => ∃ c w', w = m :: w' ∧ c ∈ bh m ∧ c ∈ B n ∧ (∀ y ∈ bh m, y ∈ B n → c ≤ y) ∧ Gr bh B n c w'
theorem Gr.uniq {B : Nat → List Int} : ∀ {n : Nat} {m : Int} {w v : List Int}, Gr bh B n m w → Gr bh B n m v → w = v
  | 0, m, w, v, h, h' => by rw [show w = [m] from h, show v = [m] from h']
  | n + 1, m, w, v, h, h' => by
    obtain ⟨c, w', rfl, a1, a2, a3, a4⟩ := h
    obtain ⟨d, v', rfl, b1, b2, b3, b4⟩ := h'
    have : c = d := Int.le_antisymm (a3 d b1 b2) (b3 c a1 a2)
    subst this
    rw [a4.uniq b4]
theorem Gr.len {B : Nat → List Int} : ∀ {n : Nat} {m : Int} {w : List Int}, Gr bh B n m w → w.length = n + 1
  | 0, m, w, h => by rw [show w = [m] from h]; rfl
  | n + 1, m, w, h => by
    obtain ⟨c, w', rfl, _, _, _, a4⟩ := h
    rw [List.length_cons, a4.len]
theorem Gr.congr {B B' : Nat → List Int} : ∀ {n : Nat} (_ : ∀ k, k < n → ∀ m, m ∈ B k ↔ m ∈ B' k) {m : Int} {w : List Int}, Gr bh B n m w → Gr bh B' n m w
  | 0, _, m, w, h => h
  | n + 1, e, m, w, h => by
    obtain ⟨c, w', rfl, a1, a2, a3, a4⟩ := h
    exact ⟨c, w', rfl, a1, (e n (by omega) c).mp a2, fun y y1 y2 => a3 y y1 ((e n (by omega) y).mpr y2), a4.congr fun k hk => e k (by omega)⟩
theorem Gr.inn {B : Nat → List Int} {P : Int → Prop} (hb : ∀ m, P m → ∀ c ∈ bh m, P c) : ∀ {n : Nat} {m : Int} {w : List Int}, Gr bh B n m w → P m → ∀ x ∈ w, P x
  | 0, m, w, h, hm, x, hx => by
    rw [show w = [m] from h, List.mem_singleton] at hx
    rw [hx]; exact hm
  | n + 1, m, w, h, hm, x, hx => by
    obtain ⟨c, w', rfl, a1, a2, a3, a4⟩ := h
    rcases List.mem_cons.mp hx with rfl | z
    · exact hm
    · exact a4.inn hb (hb m hm c a1) x z
/-- a walk of so many steps from m to o -/
def WkL (bh : Int → List Int) : Nat → Int → Int → List Int → Prop
  | 0, m, o, w => w = [m] ∧ m = o
  | n + 1, m, o, w => ∃ c w', w = m :: w' ∧ c ∈ bh m ∧ WkL bh n c o w'
theorem WkL.head : ∀ {n : Nat} {m o : Int} {w : List Int}, WkL bh n m o w → ∃ v, w = m :: v
  | 0, m, o, w, h => ⟨[], h.1⟩
  | n + 1, m, o, w, h => by
    obtain ⟨c, w', e, _⟩ := h
    exact ⟨w', e⟩
theorem Gr.head {B : Nat → List Int} : ∀ {n : Nat} {m : Int} {w : List Int}, Gr bh B n m w → ∃ v, w = m :: v
  | 0, m, w, h => ⟨[], h⟩
  | n + 1, m, w, h => by
    obtain ⟨c, w', e, _⟩ := h
    exact ⟨w', e⟩
theorem WkL.beg (hb : ∀ m, (0 ≤ m ∧ m < (N : Int)) → ∀ c ∈ bh m, 0 ≤ c ∧ c < (N : Int)) {o : Int} : ∀ {n : Nat} {m : Int} {w : List Int}, WkL bh n m o w → (0 ≤ m ∧ m < (N : Int)) → m ∈ RV.beg bh N [o] n
  | 0, m, w, h, _ => by rw [h.2]; exact List.mem_singleton.mpr rfl
  | n + 1, m, w, h, hm => by
    obtain ⟨c, w', _, h1, h2⟩ := h
    exact mem_beg.mpr ⟨hm, c, h1, h2.beg hb (hb m hm c h1)⟩
theorem Gr.wk {o : Int} : ∀ {n : Nat} {m : Int} {w : List Int}, Gr bh (RV.beg bh N [o]) n m w → m ∈ RV.beg bh N [o] n → WkL bh n m o w
  | 0, m, w, h, hm => ⟨h, List.mem_singleton.mp hm⟩
  | n + 1, m, w, h, hm => by
    obtain ⟨c, w', e, a1, a2, a3, a4⟩ := h
    exact ⟨c, w', e, a1, a4.wk a2⟩
theorem Gr.least (hb : ∀ m, (0 ≤ m ∧ m < (N : Int)) → ∀ c ∈ bh m, 0 ≤ c ∧ c < (N : Int)) {o : Int} : ∀ {n : Nat} {m : Int} {g w : List Int}, Gr bh (RV.beg bh N [o]) n m g → WkL bh n m o w → (0 ≤ m ∧ m < (N : Int)) → HT.lexLt w g = false
  | 0, m, g, w, h, h', _ => by rw [show g = [m] from h, h'.1]; exact lex_irr _
  | n + 1, m, g, w, h, h', hm => by
    obtain ⟨c, g', rfl, a1, a2, a3, a4⟩ := h
    obtain ⟨d, w', rfl, b1, b2⟩ := h'
    have hd := hb m hm d b1
    have le := a3 d b1 (b2.beg hb hd)
    rw [HT.lexLt_cons, if_pos rfl]
    by_cases e : d = c
    · subst e
      exact a4.least hb b2 hd
    · obtain ⟨x, rfl⟩ := a4.head
      obtain ⟨y, rfl⟩ := b2.head
      rw [HT.lexLt_cons, if_neg e, decide_eq_false (by omega)]
theorem ex_gr : ∀ {n : Nat} {m : Int}, m ∈ RV.beg bh N E n → ∃ w, Gr bh (RV.beg bh N E) n m w
  | 0, m, _ => ⟨[m], rfl⟩
  | n + 1, m, h => by
    obtain ⟨_, c, h1, h2⟩ := mem_beg.mp h
    have lst : ∀ (l : List Int), l ≠ [] → ∃ x ∈ l, ∀ y ∈ l, x ≤ y := by
      intro l
      induction l with
      | nil => intro z; exact absurd rfl z
      | cons a l ih =>
        intro _
        by_cases e : l = []
        · subst e
          exact ⟨a, List.mem_singleton.mpr rfl, fun y hy => by rw [List.mem_singleton.mp hy]; exact Int.le_refl _⟩
        · obtain ⟨x, x1, x2⟩ := ih e
          rcases Int.le_total a x with z | z
          · exact ⟨a, List.mem_cons_self, fun y hy => by
              rcases List.mem_cons.mp hy with rfl | y1
              · exact Int.le_refl _
              · exact Int.le_trans z (x2 y y1)⟩
          · exact ⟨x, List.mem_cons_of_mem _ x1, fun y hy => by
              rcases List.mem_cons.mp hy with rfl | y1
              · exact z
              · exact x2 y y1⟩
    obtain ⟨x, x1, x2⟩ := lst ((bh m).filter fun y => decide (y ∈ RV.beg bh N E n)) (fun z => by
      have : c ∈ (bh m).filter fun y => decide (y ∈ RV.beg bh N E n) := List.mem_filter.mpr ⟨h1, decide_eq_true h2⟩
      rw [z] at this; cases this)
    obtain ⟨x3, x4⟩ := List.mem_filter.mp x1
    have x4 := of_decide_eq_true x4
    obtain ⟨w, hw⟩ := ex_gr x4
    exact ⟨m :: w, x, w, rfl, x3, x4, fun y y1 y2 => x2 y (List.mem_filter.mpr ⟨y1, decide_eq_true y2⟩), hw⟩
/-- the last mark -/
def la (w : List Int) : Int := w.getLast?.getD 0
theorem la_add (w : List Int) (c : Int) : la (w ++ [c]) = c := by unfold la; simp
theorem WkL.snoc {o d : Int} : ∀ {n : Nat} {m : Int} {w : List Int}, WkL bh n m o w → d ∈ bh o → WkL bh (n + 1) m d (w ++ [d])
  | 0, m, w, h, hd => by
    obtain ⟨rfl, rfl⟩ := h
    exact ⟨d, [d], rfl, hd, rfl, rfl⟩
  | n + 1, m, w, h, hd => by
    obtain ⟨c, w', rfl, h1, h2⟩ := h
    exact ⟨c, w' ++ [d], rfl, h1, h2.snoc hd⟩
theorem WkL.unsnoc {d : Int} : ∀ {n : Nat} {m : Int} {w : List Int}, WkL bh (n + 1) m d w → ∃ o v, WkL bh n m o v ∧ d ∈ bh o ∧ w = v ++ [d]
  | 0, m, w, h => by
    obtain ⟨c, w', rfl, h1, h2, rfl⟩ := h
    exact ⟨m, [m], ⟨rfl, rfl⟩, h1, by rw [h2]; rfl⟩
  | n + 1, m, w, h => by
    obtain ⟨c, w', rfl, h1, h2⟩ := h
    obtain ⟨o, v, k1, k2, rfl⟩ := h2.unsnoc
    exact ⟨o, m :: v, ⟨c, v, rfl, h1, k1⟩, k2, rfl⟩
theorem WkL.la : ∀ {n : Nat} {m o : Int} {w : List Int}, WkL bh n m o w → RV.la w = o
  | 0, m, o, w, h => by rw [h.1, h.2]; rfl
  | n + 1, m, o, w, h => by
    obtain ⟨c, v, _, _, rfl⟩ := h.unsnoc
    exact la_add _ _
theorem WkL.len : ∀ {n : Nat} {m o : Int} {w : List Int}, WkL bh n m o w → w.length = n + 1
  | 0, m, o, w, h => by rw [h.1]; rfl
  | n + 1, m, o, w, h => by
    obtain ⟨c, v, rfl, _, h2⟩ := h
    rw [List.length_cons, h2.len]
/-- all walks of so many steps from m, gone through -/
def alw (bh : Int → List Int) (m : Int) : Nat → List (List Int)
  | 0 => [[m]]
  | n + 1 => (alw bh m n).flatMap fun w => (bh (la w)).map fun c => w ++ [c]
theorem mem_alw {m : Int} : ∀ {n : Nat} {w : List Int}, w ∈ alw bh m n ↔ ∃ o, WkL bh n m o w
  | 0, w => by
    show w ∈ [[m]] ↔ _
    rw [List.mem_singleton]
    exact ⟨fun h => ⟨m, h, rfl⟩, fun ⟨o, h, _⟩ => h⟩
  | n + 1, w => by
    show w ∈ (alw bh m n).flatMap _ ↔ _
    rw [List.mem_flatMap]
    constructor
    · rintro ⟨v, h1, h2⟩
      obtain ⟨o, ho⟩ := mem_alw.mp h1
      obtain ⟨c, c1, rfl⟩ := List.mem_map.mp h2
      rw [ho.la] at c1
      exact ⟨c, ho.snoc c1⟩
    · rintro ⟨d, hd⟩
      obtain ⟨o, v, k1, k2, rfl⟩ := hd.unsnoc
      refine ⟨v, mem_alw.mpr ⟨o, k1⟩, List.mem_map.mpr ⟨d, ?_, rfl⟩⟩
      rw [k1.la]; exact k2
theorem alw_len {m : Int} {b : Nat} (hb : ∀ x, (bh x).length ≤ b) : ∀ n, (alw bh m n).length ≤ b ^ n
  | 0 => Nat.le_refl _
  | n + 1 => by
    show ((alw bh m n).flatMap _).length ≤ _
    have h : ∀ L : List (List Int), (L.flatMap fun w => (bh (la w)).map fun c => w ++ [c]).length ≤ L.length * b := by
      intro L
      induction L with
      | nil => simp
      | cons w L ih =>
        rw [List.flatMap_cons, List.length_append, List.length_map, List.length_cons, Nat.succ_mul]
        have := hb (la w)
        omega
    exact Nat.le_trans (h _) (by rw [Nat.pow_succ]; exact Nat.mul_le_mul (alw_len hb n) (Nat.le_refl _))
end
end RV
namespace RV
open PySem PySem.Spec PyProof.Rows L2
/-! ### what repr asks of tuples of pairs -/
theorem small_log {i : Int} (h : i.natAbs < 10 ^ 12) : i.natAbs.log2 < 1920 := by
  rcases Nat.eq_zero_or_pos i.natAbs with e | e
  · rw [e]; decide
  · have h1 : i.natAbs < 2 ^ 64 := Nat.lt_of_lt_of_le h (by decide)
    have h2 : i.natAbs.log2 < 64 := (Nat.log2_lt (by omega)).mpr h1
    omega
theorem show_ints : ∀ ns : List Int, (∀ n ∈ ns, n.natAbs < 10 ^ 12) → PyData.showableAll (ns.map PyData.int) = true
  | [], _ => by simp [PyData.showableAll]
  | n :: r, h => by
    have h1 := small_log (h n (List.mem_cons_self ..))
    have h2 := show_ints r fun m hm => h m (List.mem_cons_of_mem _ hm)
    simp [PyData.showableAll, PyData.showable, h1, h2]
theorem show_dIs : ∀ ps : List (List Int), (∀ p ∈ ps, ∀ n ∈ p, n.natAbs < 10 ^ 12) → PyData.showableAll (ps.map dI) = true
  | [], _ => by simp [PyData.showableAll]
  | p :: r, h => by
    have h1 := show_ints p (h p (List.mem_cons_self ..))
    have h2 := show_dIs r fun m hm => h m (List.mem_cons_of_mem _ hm)
    have h3 : (dI p).showable = true := by simp only [dI, PyData.showable]; exact h1
    simp [PyData.showableAll, h3, h2]
theorem short_dIs : ∀ ps : List (List Int), (∀ p ∈ ps, ∀ n ∈ p, n.natAbs < 10 ^ 12) → PyData.intsShortAll 13 (ps.map dI) = true
  | [], _ => by simp [PyData.intsShortAll]
  | p :: r, h => by
    have h1 := PyData.intsShortAll_ints p (h p (List.mem_cons_self ..))
    have h2 := short_dIs r fun m hm => h m (List.mem_cons_of_mem _ hm)
    have h3 : (dI p).intsShort 13 = true := by simp only [dI, PyData.intsShort]; exact h1
    simp [PyData.intsShortAll, h3, h2]
theorem bulk_ints : ∀ ns : List Int, PyData.bulkAll (ns.map PyData.int) = ns.length
  | [] => by simp [PyData.bulkAll]
  | n :: r => by simp [PyData.bulkAll, PyData.bulk, bulk_ints r]; omega
theorem bulk_dIs : ∀ ps : List (List Int), (∀ p ∈ ps, p.length ≤ 2) → PyData.bulkAll (ps.map dI) ≤ 3 * ps.length
  | [], _ => by simp [PyData.bulkAll]
  | p :: r, h => by
    have h1 : (dI p).bulk = p.length := by simp only [dI, PyData.bulk, bulk_ints]
    have h2 := bulk_dIs r fun m hm => h m (List.mem_cons_of_mem _ hm)
    have h3 := h p (List.mem_cons_self ..)
    simp only [List.map_cons, PyData.bulkAll, h1, List.length_cons]
    omega
/-- (ps, os), two tuples of pairs -/
def d2 (ps os : List (List Int)) : PyData := .tuple [dTT ps, dTT os]
theorem pr_small {b : Int} (hb : b ≤ 64) {ps : List (List Int)} (h : ∀ p ∈ ps, Pr b p) : ∀ p ∈ ps, ∀ n ∈ p, n.natAbs < 10 ^ 12 := fun p hp n hn => by
  obtain ⟨x, y, rfl, hx, hy⟩ := h p hp
  simp only [List.mem_cons, List.not_mem_nil, or_false] at hn
  rcases hn with rfl | rfl <;> omega
theorem pr_len {b : Int} {ps : List (List Int)} (h : ∀ p ∈ ps, Pr b p) : ∀ p ∈ ps, p.length ≤ 2 := fun p hp => by
  obtain ⟨x, y, rfl, _⟩ := h p hp
  simp
structure Reprs (ps os : List (List Int)) : Prop where
  h1 : (d2 ps os).showable = true
  h2 : (d2 ps os).hasDict = false
  h3 : (d2 ps os).depth ≤ 64
  h4 : (d2 ps os).shown.length ≤ sizeLine
theorem reprs {b c : Int} (hb : b ≤ 64) (hc : c ≤ 64) {ps os : List (List Int)} (h : ∀ p ∈ ps, Pr b p) (h' : ∀ p ∈ os, Pr c p) (l1 : ps.length ≤ 1000) (l2 : os.length ≤ 1000) : Reprs ps os := by
  have lay : (d2 ps os).canLay0 = true := by
    simp only [d2, dTT, PyData.canLay0, PyData.canLayAll0, lay_dI, Bool.and_self]
  refine ⟨?_, PyData.hasDict_of_canLay _ lay, ?_, ?_⟩
  · simp only [d2, dTT, PyData.showable, PyData.showableAll, show_dIs ps (pr_small hb h), show_dIs os (pr_small hc h'), Bool.and_self]
  · have h1 := dep_dI ps
    have h2 := dep_dI os
    simp only [d2, dTT, PyData.depth, PyData.depthAll]
    omega
  · refine PyData.shown_fits_bulk (B := 13) (by decide) (by decide) (PyData.leavesShort_of_canLay0 13 _ lay ?_) ?_
    · simp only [d2, dTT, PyData.intsShort, PyData.intsShortAll, short_dIs ps (pr_small hb h), short_dIs os (pr_small hc h'), Bool.and_self]
    · have h1 := bulk_dIs ps (pr_len h)
      have h2 := bulk_dIs os (pr_len h')
      simp only [d2, dTT, PyData.bulk, PyData.bulkAll]
      omega
theorem d2_dp {K : PySem.W.Frag} {H : Hp} {T a b : Addr} {ps os : List (List Int)} (h : H T = some (.tup [.ref a, .ref b])) (h1 : Tups K H a ps) (h2 : Tups K H b os) : Dp K H (.ref T) (d2 ps os) :=
  .tup (.inl (.inl h)) (.cons h1.dp (.cons h2.dp .nil))
end RV
namespace RV
open PySem PySem.Spec PyProof.Rows L2
/-- (ns, ps): mirrors and steps -/
def d1 (ns : List Int) (ps : List (List Int)) : PyData := .tuple [dI ns, dTT ps]
structure Shows (d : PyData) : Prop where
  h1 : d.showable = true
  h2 : d.hasDict = false
  h3 : d.depth ≤ 64
  h4 : d.shown.length ≤ sizeLine
theorem shows_d1 {b : Int} (hb : b ≤ 64) {ns : List Int} {ps : List (List Int)} (hn : ∀ n ∈ ns, n.natAbs < 10 ^ 12) (ln : ns.length ≤ 1000) (h : ∀ p ∈ ps, Pr b p) (l1 : ps.length ≤ 1000) : Shows (d1 ns ps) := by
  have lay : (d1 ns ps).canLay0 = true := by
    simp only [d1, dTT, PyData.canLay0, PyData.canLayAll0, lay_dI, dI_lay, Bool.and_self]
  have i1 : (dI ns).showable = true := by simp only [dI, PyData.showable]; exact show_ints ns hn
  have i2 : (dI ns).intsShort 13 = true := by simp only [dI, PyData.intsShort]; exact PyData.intsShortAll_ints ns hn
  have i3 : (dI ns).bulk = ns.length := by simp only [dI, PyData.bulk, bulk_ints]
  refine ⟨?_, PyData.hasDict_of_canLay _ lay, ?_, ?_⟩
  · simp only [d1, dTT, PyData.showable, PyData.showableAll, i1, show_dIs ps (pr_small hb h), Bool.and_self]
  · have h1 := dep_dI ps
    simp only [d1, dTT, PyData.depth, PyData.depthAll, dI_dep]
    omega
  · refine PyData.shown_fits_bulk (B := 13) (by decide) (by decide) (PyData.leavesShort_of_canLay0 13 _ lay ?_) ?_
    · simp only [d1, dTT, PyData.intsShort, PyData.intsShortAll, i2, short_dIs ps (pr_small hb h), Bool.and_self]
    · have h1 := bulk_dIs ps (pr_len h)
      simp only [d1, dTT, PyData.bulk, PyData.bulkAll, i3]
      omega
theorem shows_dI {ns : List Int} (hn : ∀ n ∈ ns, n.natAbs < 10 ^ 12) (ln : ns.length ≤ 1000) : Shows (dI ns) := by
  have i3 : (dI ns).bulk = ns.length := by simp only [dI, PyData.bulk, bulk_ints]
  refine ⟨by simp only [dI, PyData.showable]; exact show_ints ns hn, PyData.hasDict_of_canLay _ (dI_lay ns), by rw [dI_dep]; decide, ?_⟩
  refine PyData.shown_fits_bulk (B := 13) (by decide) (by decide) (PyData.leavesShort_of_canLay0 13 _ (dI_lay ns) ?_) (by rw [i3]; omega)
  simp only [dI, PyData.intsShort]; exact PyData.intsShortAll_ints ns hn
theorem d1_dp {K : PySem.W.Frag} {H : Hp} {T a b : Addr} {ns : List Int} {ps : List (List Int)} (h : H T = some (.tup [.ref a, .ref b])) (h1 : SqT K H a (ns.map V.int)) (h2 : Tups K H b ps) : Dp K H (.ref T) (d1 ns ps) :=
  .tup (.inl (.inl h)) (.cons (dpT h1) (.cons h2.dp .nil))
theorem shaped_d1 (ns : List Int) (ps : List (List Int)) : SeqAt.shaped (d1 ns ps) = true := by
  have h1 := dep_dI ps
  have e : (d1 ns ps).depth ≤ 64 := by simp only [d1, dTT, PyData.depth, PyData.depthAll, dI_dep]; omega
  show ((d1 ns ps).canLay0 && decide ((d1 ns ps).depth ≤ 64)) = true
  rw [decide_eq_true e, Bool.and_true]
  simp only [d1, dTT, PyData.canLay0, PyData.canLayAll0, lay_dI, dI_lay, Bool.and_self]
theorem eqv_d1 (ns ms : List Int) (ps qs : List (List Int)) : PyData.eqv (d1 ns ps) (d1 ms qs) = (decide (ns = ms) && decide (ps = qs)) := by
  simp only [d1, PyData.eqv, PyData.eqvAll, eqvI, eqvTT, Bool.and_true]
end RV
set_option maxHeartbeats 4000000
namespace RV
open PySem PySem.Spec PyProof.Rows L2
section
variable {X : Cx}
/-- ts.index(t), tuples of ints in a tuple -/
def rIndexTs (K : PySem.W.Frag) : V → List V → Hp → VK → Prop := fun x xs H Q => ∃ (a b : Addr) (ps : List (List Int)) (p : List Int) (j : Nat), x = V.ref a ∧ xs = [V.ref b] ∧ Tups K H a ps ∧ SqT K H b (p.map V.int) ∧ ps[j]? = some p ∧ (∀ m, m < j → ps[m]? ≠ some p) ∧ Q (.int (j : Nat)) H
theorem mt_indexTs (hu : X.A.units + 65 < cLine) : MtR X "tuple.index" (rIndexTs X.K) := by
  intro pins s σ H x xs v us Q I rx rxs h
  obtain ⟨a, b, ps, p, j, rfl, rfl, hT, hb, hj, hno, q⟩ := h
  cases rx
  obtain ⟨u, rfl, ru⟩ := vals1 rxs
  cases ru
  obtain ⟨bs, r1⟩ := Dp.reads I (dI p) (.ref b) (.ref b) (dpT hb) rfl
  have lay := lay_dI ps
  have room : X.A.units + 1 + min (PyData.depthAll (ps.map dI)) (dI p).depth < cLine := by
    have := Nat.min_le_right (PyData.depthAll (ps.map dI)) (dI p).depth
    have e := dI_dep p
    omega
  obtain ⟨ks, rfl, hs, hks⟩ := hT
  obtain ⟨its, rv, ⟨⟨cls, dd, dat, sls⟩, ho, hc, n, hd⟩, hlen⟩ := I.tuple hs
  simp only at hc hd
  subst hc hd
  obtain ⟨as, rall⟩ := Dp.readsAll I ((ks.map (·.2)).map dI) _ its (dpTs ks hks) rv
  have ln : its.length = ((ks.map (·.2)).map dI).length := SeqAt.ReadsAll.length _ its as rall
  have mp : its.map (SeqAt.readOf s.heap) = (ks.map (·.2)).map dI := SeqAt.readsAll_map _ its as lay rall
  have jl : j < its.toArray.size := by
    have := (List.getElem?_eq_some_iff.mp hj).1
    rw [List.size_toArray, ln, List.length_map]; exact this
  have at_ : ∀ (m : Nat) (hm : m < its.toArray.size), ∃ z, (ks.map (·.2))[m]? = some z ∧ SeqAt.readOf s.heap its.toArray[m] = dI z := fun m hm => by
    have hm2 : m < (ks.map (·.2)).length := by rw [List.size_toArray, ln, List.length_map] at hm; exact hm
    refine ⟨_, List.getElem?_eq_getElem hm2, ?_⟩
    have e : (its.map (SeqAt.readOf s.heap))[m]? = some (dI (ks.map (·.2))[m]) := by rw [mp, List.getElem?_map, List.getElem?_eq_getElem hm2]; rfl
    have hml : m < its.length := by simpa using hm
    rw [List.getElem?_map, List.getElem?_eq_getElem hml] at e
    have e' := Option.some.inj e
    simpa using e'
  refine call_meets PySem.F.slot_tuple_index ⟨_, ho, rfl⟩ PySem.F.entry_tuple_index (PySem.F.args_tuple_index_2 _ _) (TI.tuple_indexAt a its.toArray n dd sls (.ref b) (fun y => PyData.eqv (SeqAt.readOf s.heap y) (dI p)) j jl ?_ ?_)
    ⟨ho, SeqAt.items_eqAt (vs := its.toArray) (show ReadsAll s.heap its.toArray.toList _ as from rall) r1 lay (dI_lay p) room, ⟨.int (j : Nat), H, I.tok _, ⟨_, rfl⟩, q⟩⟩
  · obtain ⟨z, e1, e2⟩ := at_ j jl
    rw [hj] at e1
    cases e1
    show PyData.eqv (SeqAt.readOf s.heap its.toArray[j]) (dI p) = true
    rw [e2, eqvI]
    exact decide_eq_true rfl
  · intro m hm hmj
    obtain ⟨z, e1, e2⟩ := at_ m hm
    show PyData.eqv (SeqAt.readOf s.heap its.toArray[m]) (dI p) = false
    rw [e2, eqvI]
    exact decide_eq_false fun e => hno m hmj (by rw [e1, e])
/-- repr(None), repr of a whole number -/
def rReprO : List V → Hp → VK → Prop := fun xs H Q => (∃ i : Int, xs = [.int i] ∧ i.natAbs.log2 < 1920 ∧ Q (.str (toString i)) H) ∨ (xs = [.non] ∧ Q (.str "None") H)
theorem call_reprO : CallR X (.builtin "repr") rReprO := by
  intro pins s σ H xs us Q I r h
  rcases h with h | ⟨rfl, q⟩
  · exact SkE.call_repr_int pins s σ H xs us Q I r h
  · obtain ⟨u, rfl, rx⟩ := vals1 r
    cases (show u = Value.none from rx)
    exact PySem.P.repr_of_none ⟨.str "None", H, I.tok _, ⟨_, rfl⟩, q⟩
theorem op_neDK {K : PySem.W.Frag} (h : X.K = K) (hu : X.A.units + 64 < cLine) : OpR X (compareOp .NotEq) (rNeD K) := h ▸ op_neD hu
end
theorem bulk_any : ∀ (ps : List (List Int)) (k : Nat), (∀ p ∈ ps, p.length ≤ k) → PyData.bulkAll (ps.map dI) ≤ (k + 1) * ps.length
  | [], k, _ => by simp [PyData.bulkAll]
  | p :: r, k, h => by
    have h1 : (dI p).bulk = p.length := by simp only [dI, PyData.bulk, bulk_ints]
    have h2 := bulk_any r k fun m hm => h m (List.mem_cons_of_mem _ hm)
    have h3 := h p (List.mem_cons_self ..)
    simp only [List.map_cons, PyData.bulkAll, h1, List.length_cons, Nat.mul_succ]
    omega
theorem shows_dTT {ps : List (List Int)} (hn : ∀ p ∈ ps, ∀ n ∈ p, n.natAbs < 10 ^ 12) (h1 : ∀ p ∈ ps, p.length ≤ 8) (h2 : ps.length ≤ 64) : Shows (dTT ps) := by
  have lay : (dTT ps).canLay0 = true := by simp only [dTT, PyData.canLay0]; exact lay_dI ps
  refine ⟨by simp only [dTT, PyData.showable]; exact show_dIs ps hn, PyData.hasDict_of_canLay _ lay, ?_, ?_⟩
  · have h := dep_dI ps
    simp only [dTT, PyData.depth]; omega
  · refine PyData.shown_fits_bulk (B := 13) (by decide) (by decide) (PyData.leavesShort_of_canLay0 13 _ lay ?_) ?_
    · simp only [dTT, PyData.intsShort]; exact short_dIs ps hn
    · have b := bulk_any ps 8 h1
      simp only [dTT, PyData.bulk]
      omega
/-! ### lots in order -/
end RV
set_option maxHeartbeats 4000000
namespace RV
open PySem PySem.Spec PyProof.Rows L2
theorem shows_dI7 {ns : List Int} (hn : ∀ n ∈ ns, n.natAbs < 10 ^ 12) (ln : ns.length ≤ 7000) : Shows (dI ns) := by
  have i3 : (dI ns).bulk = ns.length := by simp only [dI, PyData.bulk, bulk_ints]
  refine ⟨by simp only [dI, PyData.showable]; exact show_ints ns hn, PyData.hasDict_of_canLay _ (dI_lay ns), by rw [dI_dep]; decide, ?_⟩
  refine PyData.shown_fits_bulk (B := 13) (by decide) (by decide) (PyData.leavesShort_of_canLay0 13 _ (dI_lay ns) ?_) (by rw [i3]; omega)
  simp only [dI, PyData.intsShort]; exact PyData.intsShortAll_ints ns hn
section
variable {X : Cx}
/-- repr of a tuple or of None -/
def rReprT (K : PySem.W.Frag) : List V → Hp → VK → Prop := fun xs H Q => (∃ (a : Addr) (ns : List Int), xs = [.ref a] ∧ SqT K H a (ns.map V.int) ∧ Shows (dI ns) ∧ Q (.str (dI ns).shown) H) ∨ (xs = [.non] ∧ Q (.str "None") H)
theorem call_reprT (gd : X.A.guards = some []) (hu : X.A.units + 65 < cLine) : CallR X (.builtin "repr") (rReprT X.K) := by
  intro pins s σ H xs us Q I r h
  rcases h with ⟨a, ns, e, hT, sh, q⟩ | ⟨rfl, q⟩
  · exact call_reprD gd hu pins s σ H xs us Q I r ⟨a, dI ns, e, dpT hT, sh.h1, sh.h2, sh.h3, sh.h4, q⟩
  · obtain ⟨u, rfl, rx⟩ := vals1 r
    cases (show u = Value.none from rx)
    exact PySem.P.repr_of_none ⟨.str "None", H, I.tok _, ⟨_, rfl⟩, q⟩
end
/-- unlike numbers below n are at most n -/
theorem few_below : ∀ {n : Nat} {l : List Int}, l.Nodup → (∀ x ∈ l, 0 ≤ x ∧ x < (n : Int)) → l.length ≤ n
  | 0, l, _, h => by
    cases l with
    | nil => exact Nat.le_refl _
    | cons x l => have := h x List.mem_cons_self; omega
  | n + 1, l, nd, h => by
    have nd2 : (l.erase (n : Int)).Nodup := nd.erase _
    have h2 : ∀ x ∈ l.erase (n : Int), 0 ≤ x ∧ x < (n : Int) := fun x hx => by
      have h3 := (List.Nodup.mem_erase_iff nd).mp hx
      have h4 := h x h3.2
      have h5 := h3.1
      omega
    have z := few_below nd2 h2
    rw [List.length_erase] at z
    split at z
    · omega
    · rename_i hno
      omega
end RV
set_option maxHeartbeats 4000000
/-! walks of so many steps, and tables of where they end -/
namespace RV
open PySem PySem.Spec PyProof.Rows L2
section
variable {bh : Int → List Int} {N : Nat}
/-- so many steps lead from the one to the other -/
def lk (bh : Int → List Int) : Nat → Int → Int → Prop
  | 0, a, b => a = b
  | n + 1, a, b => ∃ c, c ∈ bh a ∧ lk bh n c b
theorem lk_add {n : Nat} {b : Int} : ∀ {m : Nat} {a : Int}, lk bh (m + n) a b ↔ ∃ c, lk bh m a c ∧ lk bh n c b
  | 0, a => by
    rw [Nat.zero_add]
    exact ⟨fun h => ⟨a, rfl, h⟩, fun ⟨c, h1, h2⟩ => by rw [show a = c from h1]; exact h2⟩
  | m + 1, a => by
    rw [show m + 1 + n = (m + n) + 1 by omega]
    constructor
    · rintro ⟨c, h1, h2⟩
      obtain ⟨d, h3, h4⟩ := lk_add.mp h2
      exact ⟨d, ⟨c, h1, h3⟩, h4⟩
    · rintro ⟨d, ⟨c, h1, h3⟩, h4⟩
      exact ⟨c, h1, lk_add.mpr ⟨d, h3, h4⟩⟩
theorem lk_one {a b : Int} : lk bh 1 a b ↔ b ∈ bh a :=
  ⟨fun ⟨c, h1, h2⟩ => by rw [← show c = b from h2]; exact h1, fun h => ⟨b, h, rfl⟩⟩
theorem lk_inn (hb : ∀ m, ∀ c ∈ bh m, 0 ≤ c ∧ c < (N : Int)) {b : Int} : ∀ {n : Nat} {a : Int}, lk bh n a b → (0 ≤ a ∧ a < (N : Int)) → 0 ≤ b ∧ b < (N : Int)
  | 0, a, h, ha => by rw [← show a = b from h]; exact ha
  | n + 1, a, ⟨c, h1, h2⟩, _ => lk_inn hb h2 (hb a c h1)
theorem beg_lk (hb : ∀ m, ∀ c ∈ bh m, 0 ≤ c ∧ c < (N : Int)) {b : Int} : ∀ {n : Nat} {a : Int}, (0 ≤ a ∧ a < (N : Int)) → (a ∈ beg bh N [b] n ↔ lk bh n a b)
  | 0, a, _ => by show a ∈ [b] ↔ a = b; rw [List.mem_singleton]
  | n + 1, a, ha => by
    rw [mem_beg]
    exact ⟨fun ⟨_, c, h1, h2⟩ => ⟨c, h1, (beg_lk hb (hb a c h1)).mp h2⟩, fun ⟨c, h1, h2⟩ => ⟨ha, c, h1, (beg_lk hb (hb a c h1)).mpr h2⟩⟩
end
/-- a tuple of rising tuples: x in the row of i just where f i x -/
def Tab (K : PySem.W.Frag) (H : Hp) (t : Addr) (N : Nat) (f : Int → Int → Prop) : Prop := ∃ as : List Addr, SqT K H t (as.map V.ref) ∧ as.length = N ∧
  ∀ (i : Nat) (a : Addr), as[i]? = some a → ∃ xs : List Int, SqT K H a (xs.map V.int) ∧ xs.Pairwise (· < ·) ∧ (∀ x ∈ xs, 0 ≤ x ∧ x < (N : Int)) ∧ ∀ x, x ∈ xs ↔ f (i : Int) x
theorem Tab.same {K : PySem.W.Frag} {H H' : Hp} {t : Addr} {N : Nat} {f : Int → Int → Prop} (h : Tab K H t N f) (s : Same H H') : Tab K H' t N f := by
  obtain ⟨as, h1, h2, h3⟩ := h
  exact ⟨as, sqT_same s h1, h2, fun i a e => (h3 i a e).imp fun xs q => ⟨sqT_same s q.1, q.2⟩⟩
theorem Tab.congr {K : PySem.W.Frag} {H : Hp} {t : Addr} {N : Nat} {f g : Int → Int → Prop} (h : Tab K H t N f) (e : ∀ i x : Int, 0 ≤ i → i < (N : Int) → (f i x ↔ g i x)) : Tab K H t N g := by
  obtain ⟨as, h1, h2, h3⟩ := h
  refine ⟨as, h1, h2, fun i a ea => ?_⟩
  obtain ⟨xs, q1, q2, q3, q4⟩ := h3 i a ea
  have hi := (List.getElem?_eq_some_iff.mp ea).1
  exact ⟨xs, q1, q2, q3, fun x => (q4 x).trans (e i x (by omega) (by omega))⟩
theorem Tab.at {K : PySem.W.Frag} {H : Hp} {t : Addr} {N : Nat} {f : Int → Int → Prop} (h : Tab K H t N f) {m : Int} (h0 : 0 ≤ m) (h1 : m < (N : Int)) : ∃ (vs : List V) (a : Addr) (xs : List Int), SqT K H t vs ∧ atI vs m = some (.ref a) ∧ SqT K H a (xs.map V.int) ∧ xs.Pairwise (· < ·) ∧ (∀ x ∈ xs, 0 ≤ x ∧ x < (N : Int)) ∧ ∀ x, x ∈ xs ↔ f m x := by
  obtain ⟨as, q1, q2, q3⟩ := h
  have hm : m.toNat < as.length := by omega
  have e : ((m.toNat : Nat) : Int) = m := Int.toNat_of_nonneg h0
  obtain ⟨xs, z1, z2, z3, z4⟩ := q3 m.toNat _ (List.getElem?_eq_getElem hm)
  rw [e] at z4
  refine ⟨_, as[m.toNat], xs, q1, ?_, z1, z2, z3, z4⟩
  have := atI_nat (xs := as.map V.ref) (j := m.toNat) (v := .ref as[m.toNat]) (by rw [List.getElem?_map, List.getElem?_eq_getElem hm]; rfl)
  rw [e] at this; exact this
theorem rise_nodup {xs : List Int} (h : xs.Pairwise (· < ·)) : xs.Nodup := h.imp fun {a b} z e => by omega
section
variable {X : Cx} {K : PySem.W.Frag} {w : World}
theorem pe_tupleOfK {a : Expr} {ta : TE} {p pos : Pos} (h : X.K = K) (hg : Gl X "tuple") (hm : X.mg "tuple" = none) (ha : PE X a ta) (na : starEach [a] X.env = (false, eval a X.env) :: starEach [] X.env := by rfl) :
    PE X (.Call (.Name "tuple" p) [a] [] pos) (tThen ta (kTup K)) := h ▸ pe_tupleOf hg hm ha na
theorem cr_sortedSetW (h : X.w = w) (hc : X.calm = true) : CallR X (.builtin "sorted") (rSortedSet w) := h ▸ cr_sortedSet hc
theorem pe_sc2W {el ta ia t1 ib : Expr} {sco : Scope} {own : List (PySem.Str × Nat)} {vs1 : List Nat} {pp : Pos} {wi wi1 : TI} {g g1 : TG} {te : TE} (h : X.w = w) (hc : X.calm = true) (hN : X.N.Nodup) (hi : PI X ta ia wi) (ok : BlkOk X.N X.env.scope sco own) (hv : ∀ i ∈ vs1, i ∈ own.map (·.2))
    (hg : ∀ s H C cl fp, PG (X.blk s H sco (compEnvC sco cl C X.env) fp) ta g) (hi1 : ∀ s H C cl fp, PI (X.blk s H sco (compEnvC sco cl C X.env) fp) t1 ib wi1) (hg1 : ∀ s H C cl fp, PG (X.blk s H sco (compEnvC sco cl C X.env) fp) t1 g1)
    (he : ∀ s H C cl fp, PE (X.blk s H sco (compEnvC sco cl C X.env) fp) el te) (hs : ∀ x, foldedSetIterable ia X.env x = pure x := by intro _; rfl) (hs1 : ∀ env x, foldedSetIterable ib env x = pure x := by intro _ _; rfl) :
    PE X (.SetComp el [⟨ta, ia, [], 0⟩, ⟨t1, ib, [], 0⟩] sco pp) (tS2 w wi g wi1 g1 te (own.map (·.2)) vs1) := h ▸ pe_sc2 hc hN hi ok hv hg hi1 hg1 he hs hs1
end
/-- a loop over a tuple that its turns leave as it is -/
theorem it_tup {K : PySem.W.Frag} {a : Addr} {xs : List V} {H0 : Hp} {Fin : Hp → Prop} {Bd : V → Hp → (Hp → Prop) → Prop} (Pv : Nat → Hp → Prop) (h0 : Pv 0 H0) (hl : ∀ i H, i ≤ xs.length → Pv i H → SqT K H a xs)
    (hs : ∀ i x H, xs[i]? = some x → Pv i H → Bd x H (Pv (i + 1))) (hd : ∀ H, Pv xs.length H → Fin H) :
    ∃ W : Nat → Nat → Hp → Prop, (∃ m, W 0 m H0) ∧ ∀ i m H, W i m H → ((Itt K a).stop i H ∧ Fin H) ∨ ((Itt K a).go i H ∧ ∃ Nx : Hp → Prop, (∀ H', Nx H' → ∃ m', m' < m ∧ W (i + 1) m' H') ∧ ∀ x H', (Itt K a).yld i H x H' → Bd x H' Nx) := by
  refine ⟨fun i m H => i ≤ xs.length ∧ m + i = xs.length ∧ Pv i H, ⟨xs.length, Nat.zero_le _, rfl, h0⟩, fun i m H ⟨hi, hm, hp⟩ => ?_⟩
  have hq := hl i H hi hp
  rcases Nat.lt_or_ge i xs.length with z | z
  · refine .inr ⟨⟨xs, xs[i], hq, List.getElem?_eq_getElem z⟩, Pv (i + 1), fun H' p' => ⟨m - 1, by omega, z, by omega, p'⟩, fun x H' y => ?_⟩
    obtain ⟨rfl, y⟩ := y
    exact hs i x _ (y xs hq) hp
  · obtain rfl : i = xs.length := by omega
    exact .inl ⟨⟨xs, hq, Nat.le_refl _⟩, hd H hp⟩
/-- a set that has just these -/
def SetL (w : World) (H : Hp) (D : Addr) (ls : List Int) : Prop := ∃ S : Int → Bool, H D = some (SetO w D S ls.length) ∧ ls.Nodup ∧ ∀ k, S k = true ↔ k ∈ ls
theorem SetL.nil {w : World} {H : Hp} {D : Addr} : SetL w (upd H D (SetO w D (fun _ => false) 0)) D [] := ⟨_, upd_same, List.nodup_nil, fun k => by simp⟩
theorem SetL.add {w : World} {H : Hp} {D : Addr} {ls : List Int} (h : SetL w H D ls) (c : Int) (room : ls.length ≤ 1000) : ∃ (S : Int → Bool) (n : Nat), H D = some (SetO w D S n) ∧ n + 1 < scanBound ∧ ∃ ls', SetL w (upd H D (SetO w D (fun j => S j || decide (j = c)) (if S c = true then n else n + 1))) D ls' ∧ ∀ k, k ∈ ls' ↔ k ∈ ls ∨ k = c := by
  obtain ⟨S, h1, h2, h3⟩ := h
  refine ⟨S, ls.length, h1, by show ls.length + 1 < 4096; omega, ?_⟩
  by_cases e : S c = true
  · refine ⟨ls, ⟨_, by rw [upd_same, if_pos e], h2, fun k => ?_⟩, fun k => ⟨.inl, fun z => z.elim id fun z => by rw [z]; exact (h3 c).mp e⟩⟩
    rw [Bool.or_eq_true, h3, decide_eq_true_iff]
    exact ⟨fun z => z.elim id fun z => by rw [z]; exact (h3 c).mp e, .inl⟩
  · refine ⟨c :: ls, ⟨_, by rw [upd_same, if_neg e]; rfl, List.nodup_cons.mpr ⟨fun z => e ((h3 c).mpr z), h2⟩, fun k => ?_⟩, fun k => by rw [List.mem_cons, or_comm]⟩
    rw [Bool.or_eq_true, h3, decide_eq_true_iff, List.mem_cons, or_comm]
theorem SetL.same {w : World} {H H' : Hp} {D : Addr} {ls : List Int} (h : SetL w H D ls) (s : Same H H') : SetL w H' D ls := by
  obtain ⟨S, h1, h2⟩ := h
  exact ⟨S, s _ _ h1, h2⟩
theorem sqT_set {w : World} {K : PySem.W.Frag} {H : Hp} {D D' : Addr} {S : Int → Bool} {n : Nat} {o' : HO} (e : H D = some (SetO w D' S n)) {a : Addr} {xs : List V} (h : SqT K H a xs) : SqT K (upd H D o') a xs := by
  rcases h with (h | ⟨o, h⟩) | h
  · exact .inl (.inl (by rw [upd_ne (fun z => by rw [z, e] at h; cases h)]; exact h))
  · exact .inl (.inr ⟨o, by rw [upd_ne (fun z => by rw [z, e] at h; cases h)]; exact h⟩)
  · exact .inr h
end RV
set_option maxHeartbeats 4000000
namespace K6
open PySem PySem.Spec PyProof.Rows L2 RV
theorem sqT_setL {K : PySem.W.Frag} {H : Hp} {D a : Addr} {xs ys : List V} {o : HO} (e : H D = some (.lst ys)) (h : SqT K H a xs) : SqT K (upd H D o) a xs := by
  rcases h with (h | ⟨u, h⟩) | h
  · exact .inl (.inl (by rw [upd_ne (ne_of h e (by intro z; cases z))]; exact h))
  · exact .inl (.inr ⟨u, by rw [upd_ne (ne_of h e (by intro z; cases z))]; exact h⟩)
  · exact .inr h
theorem RunOk.setL {K : PySem.W.Frag} {H : Hp} {D : Addr} {k : Rk} {ys : List V} {o : HO} (h : RunOk K H k) (e : H D = some (.lst ys)) : RunOk K (upd H D o) k := ⟨sqT_setL e h.1, sqT_setL e h.2⟩
/-- the list at D holds these runs -/
structure Lot (K : PySem.W.Frag) (H' : Hp) (D : Addr) (rs : List (Int × List Int)) : Prop where
  ex : ∃ js : List Rk, js.map valR = rs ∧ H' D = some (.lst (js.map fun k => V.ref k.1)) ∧ ∀ j ∈ js, RunOk K H' j
theorem Lot.add {K : PySem.W.Frag} {H' : Hp} {D : Addr} {rs : List (Int × List Int)} {j : Rk} {acc : List V} (h : Lot K H' D rs) (e : H' D = some (.lst acc)) (hj : RunOk K H' j) : Lot K (upd H' D (.lst (acc ++ [.ref j.1]))) D (rs ++ [valR j]) := by
  obtain ⟨js, h1, h2, h3⟩ := h.ex
  rw [h2] at e
  cases e
  refine ⟨js ++ [j], by rw [List.map_append, h1]; rfl, by rw [upd_same, List.map_append]; rfl, fun k hk => ?_⟩
  rcases List.mem_append.mp hk with z | z
  · exact (h3 k z).setL h2
  · rw [List.mem_singleton.mp z]; exact hj.setL h2
theorem Lot.same {K : PySem.W.Frag} {H H' : Hp} {D : Addr} {rs : List (Int × List Int)} (h : Lot K H D rs) (s : Same H H') : Lot K H' D rs :=
  let ⟨js, h1, h2, h3⟩ := h.ex; ⟨js, h1, s _ _ h2, fun k hk => (h3 k hk).same s⟩
theorem Lot.nil {K : PySem.W.Frag} {H : Hp} {D : Addr} : Lot K (upd H D (.lst [])) D [] := ⟨[], rfl, upd_same, fun _ h => nomatch h⟩
theorem Lot.list {K : PySem.W.Frag} {H : Hp} {D : Addr} {rs : List (Int × List Int)} (h : Lot K H D rs) : ∃ acc, H D = some (.lst acc) ∧ acc.length = rs.length := by
  obtain ⟨js, h1, h2, h3⟩ := h.ex
  exact ⟨_, h2, by rw [← h1, List.length_map, List.length_map]⟩
/-- tuple(l) of such a list -/
theorem Lot.ring {K : PySem.W.Frag} {H : Hp} {D u : Addr} {rs : List (Int × List Int)} {acc : List V} (h : Lot K H D rs) (e : H D = some (.lst acc)) (nu : H u = none) : RingAt K (upd H u (.tup acc)) u rs := by
  obtain ⟨js, h1, h2, h3⟩ := h.ex
  rw [h2] at e
  cases e
  exact ⟨js, h1, tupNew upd_same, fun k hk => (h3 k hk).same (same_upd nu)⟩
def mirF (ns : List Int) : Int → Int := fun x => ns.getD x.toNat 0
section
variable {P : Program} {w : World} {K : PySem.W.Frag} {mg : Str → Option Value} {base : Heap}
/-! ### mirrored -/
abbrev nMir : List Str := ["rule", "ring", "times", "marks", "mark"]
theorem scMirrored : FnScope nMir ["rule", "ring"] (defScope sMirrored) := ⟨rfl, rfl, rfl, by decide +kernel, rfl, by decide +kernel, by decide +kernel⟩
def spMirrored (K : PySem.W.Frag) (C : Addr) : Sp := fun vs H Q _ => ∃ (r a : Addr) (rs : List (Int × List Int)) (ns : List Int) (ps : List (List Int)), vs = [.ref r, .ref a] ∧ RuleAt K C H r ns ps ∧ RingAt K H a rs ∧ Rg ns rs ∧
  ∀ (H' : Hp) (T : Addr), Same H H' → RingAt K H' T (mirL (mirF ns) rs) → Q (.ref T) H'
theorem ok_mirrored {f C fR : Addr} {fd dR : FuncData} (F : Fun K "mirrored" "mirrored" sMirrored f fd) (T : Txt K mg C) (B : Bare mg)
    (FR : Fun K "mirror" "Rule.mirror" sMirrorM fR dR) (bR : Binds K dR ["self", "mark"] []) (mR : Meth K C "mirror" fR) : FnOk P w K mg base CX0 2 f fd ["rule", "ring"] (spMirrored K C) := by
  have GR : FnOk P w K mg base CX0 1 fR dR ["self", "mark"] (spMirrorM K C) := ok_mirrorM FR T
  refine F.ok scMirrored (fun vs H Q E h => ?_) (fun cdv A outer s H vs Q E hr h => ?_)
  · obtain ⟨r, a, rs, ns, ps, rfl, _⟩ := h
    rfl
  · obtain ⟨r, a, rs, ns, ps, rfl, R, hR, g, q⟩ := h
    obtain ⟨ks, rfl, hT, hk⟩ := hR
    have hf := g.sz.few
    rw [List.length_map] at hf
    obtain ⟨dx, a0, b0, t0, g1, g2, g3, g4⟩ := R.ex
    have fno := flds_no a0 b0 t0 (m := "mirror") (by decide +kernel) (by decide +kernel) (by decide +kernel)
    refine ⟨_, pss_one (ps_ret (pe_tupleOf (by rfl) B.tuple
      (pe_lc (own := [("times", 2), ("marks", 3)]) (g := gTup K 2 (gCons (gName 2) (gCons (gName 3) gNil))) (tt := tYes) rfl scMirrored.nd (pi_tup (pe_backT (pv 1))) (blkOk_by (N := nMir) (sc := defScope sMirrored) (by decide +kernel))
        (fun _ _ _ _ _ => pg_tupK rfl rfl (pgs_cons (pg_name (i := 2) scMirrored.nd rfl (Or.inl rfl)) (pgs_cons (pg_name (i := 3) scMirrored.nd rfl (Or.inl rfl)) pgs_nil))) (fun _ _ _ _ _ => pts_nil)
        (fun _ _ _ _ _ => pe_tup (pa_cons (pv 2) (pa_cons (pe_tupleOfK (K := K) rfl (by rfl) B.tuple
          (pe_lc (own := [("mark", 4)]) (g := gName 4) (tt := tYes) rfl scMirrored.nd (pi_tupK (K := K) rfl (pe_backTK (K := K) rfl (pv 3))) (blkOk_by (N := nMir) (by rfl))
            (fun _ _ _ _ _ => pg_name (i := 4) scMirrored.nd rfl (Or.inl rfl)) (fun _ _ _ _ _ => pts_nil)
            (fun _ _ _ _ _ => pe_meth (pv 0) T.cl mR GR hr bR .nil pass0 (pa_cons (pv 4) pa_nil)))) pa_nil)))))), ?_⟩
    refine ⟨.ref a, rfl, a, _, rfl, hT, fun b nb => ⟨b, rfl, ⟨_, tupNew upd_same⟩, fun D nD => ?_⟩⟩
    have sb := same_upd (o := .tup (ks.map fun k => V.ref k.1).reverse) nb
    have hb : (upd H b (.tup (ks.map fun k => V.ref k.1).reverse)) b = some (.tup (ks.reverse.map fun k => V.ref k.1)) := by rw [upd_same, List.map_reverse]
    generalize upd H b (.tup (ks.map fun k => V.ref k.1).reverse) = H1 at sb hb nD ⊢
    refine lc_tup (K := K) (a := b) (xs := ks.reverse.map fun k => V.ref k.1) (fun i H' => Same H1 H' ∧ Lot K H' D (((ks.reverse.take i).map valR).map fun r => (r.1, r.2.reverse.map (mirF ns)))) ⟨same_upd nD, Lot.nil⟩ (fun i H' _ p => tupNew (p.1 _ _ hb)) (fun i x H2 hx p => ?_) fun H' p => ?_
    · obtain ⟨k, gk, rfl⟩ := map_at hx
      have km := List.mem_reverse.mp (List.mem_of_getElem? gk)
      have kr := List.mem_map_of_mem (f := valR) km
      obtain ⟨s2, lot⟩ := p
      have s02 := sb.trans s2
      have hk2 := (hk k km).same s02
      refine ⟨k.1, _, rfl, hk2.1, rfl, _, _, rfl, _, _, rfl, rfl, rfl, tt_yes ⟨.int k.2.2.1, rfl, ?_⟩⟩
      refine ⟨.ref k.2.1, rfl, k.2.1, _, rfl, hk2.2, fun c nc => ⟨c, rfl, ⟨_, tupNew upd_same⟩, fun D2 nD2 => ?_⟩⟩
      have sc := same_upd (o := .tup (k.2.2.2.map V.int).reverse) nc
      have hc : SqT K (upd H2 c (.tup (k.2.2.2.map V.int).reverse)) c (k.2.2.2.reverse.map V.int) := tupNew (by rw [upd_same, List.map_reverse])
      generalize upd H2 c (.tup (k.2.2.2.map V.int).reverse) = H3 at sc hc nD2 ⊢
      have wl : k.2.2.2.length ≤ 1000 := g.wo _ kr
      refine lc_mapT (h := mirF ns) hc (by rw [List.length_reverse]; exact wl) nD2 (fun x hx H' Q' s' kq => ?_) fun H4 s4 e4 => ?_
      · have bx := g.inn _ kr x (List.mem_reverse.mp hx)
        refine ⟨.ref r, rfl, r, dx, _, rfl, ((s02.trans sc).trans s') _ _ g1, fno, .int x, rfl, r, ns, ps, x.toNat, mirF ns x, by rw [Int.toNat_of_nonneg bx.1]; rfl, R.same ((s02.trans sc).trans s'), get_D (by omega), kq H' (Same.refl H')⟩
      · refine .inl ⟨D2, _, rfl, lstNew e4, fun u nu => ⟨(by show 2 ≤ sizeLine; decide), fun T1 nT1 => ?_⟩⟩
        have su := same_upd (o := .tup ((k.2.2.2.reverse.map (mirF ns)).map V.int)) nu
        have sT := same_upd (o := .tup [.int k.2.2.1, .ref u]) nT1
        have s25 := ((sc.trans s4).trans su).trans sT
        have lot5 := lot.same s25
        obtain ⟨acc, eacc, lacc⟩ := lot5.list
        refine ⟨acc, eacc, ?_, fun b' o z => ?_, ?_⟩
        · rw [lacc, List.length_map, List.length_map, List.length_take, List.length_reverse]; exact few1 (by omega)
        · rw [upd_ne (ne_of_none z nD)]; exact s25 _ _ (s2 b' o z)
        · rw [List.take_add_one, gk, List.map_append, List.map_append]
          exact lot5.add (j := (T1, u, k.2.2.1, k.2.2.2.reverse.map (mirF ns))) eacc ⟨tupNew upd_same, tupNew (sT _ _ upd_same)⟩
    · rw [List.length_map, List.take_of_length_le (Nat.le_refl _)] at p
      obtain ⟨s2, lot⟩ := p
      obtain ⟨acc, eacc, lacc⟩ := lot.list
      refine .inl ⟨D, _, rfl, lstNew eacc, fun u nu => ?_⟩
      have rr := lot.ring eacc nu
      refine q _ u ((sb.trans s2).trans (same_upd nu)) ?_
      unfold mirL
      rw [List.map_reverse] at rr
      exact rr
end
end K6
namespace RV
open PySem L2
/-! ### walks by their steps -/
inductive Wk (ps : List (List Int)) : Nat → Int → Int → Prop where
  | nil (i : Int) : Wk ps 0 i i
  | more {n : Nat} {i j k : Int} : Wk ps n i j → [j, k] ∈ ps → Wk ps (n + 1) i k
theorem Wk.trans {ps : List (List Int)} {n m : Nat} {i j k : Int} (h : Wk ps n i j) (g : Wk ps m j k) : Wk ps (n + m) i k := by
  induction g with
  | nil _ => exact h
  | more _ e ih => exact .more (ih h) e
theorem Wk.one {ps : List (List Int)} {i j : Int} (h : [i, j] ∈ ps) : Wk ps 1 i j := .more (.nil i) h
theorem Wk.rch {ps : List (List Int)} {n : Nat} {i j : Int} (h : Wk ps n i j) : n = 0 ∧ i = j ∨ Rch ps i j := by
  induction h with
  | nil _ => exact .inl ⟨rfl, rfl⟩
  | more _ e ih =>
    rcases ih with ⟨_, rfl⟩ | ih
    · exact .inr (.one e)
    · exact .inr (.more ih e)
theorem Wk.lead {ps : List (List Int)} {n : Nat} {i j : Int} (h : Wk ps (n + 1) i j) : Rch ps i j := by
  rcases h.rch with ⟨z, _⟩ | z
  · omega
  · exact z
theorem rch_wk {ps : List (List Int)} {i j : Int} (h : Rch ps i j) : ∃ n, Wk ps (n + 1) i j := by
  induction h with
  | one e => exact ⟨0, .one e⟩
  | more _ e ih =>
    obtain ⟨n, w⟩ := ih
    exact ⟨n + 1, .more w e⟩
theorem Wk.zero {ps : List (List Int)} {i j : Int} (h : Wk ps 0 i j) : i = j := by
  cases h; rfl
theorem Wk.bound {ps : List (List Int)} {b : Int} (hb : ∀ p ∈ ps, Pr b p) {n : Nat} {i j : Int} (h : Wk ps n i j) (hi : 0 ≤ i ∧ i < b) : 0 ≤ j ∧ j < b := by
  rcases h.rch with ⟨_, rfl⟩ | z
  · exact hi
  · exact (Rch.bound hb z).2
/-- whatever is come to is come to by few steps -/
theorem wk_grow {ps : List (List Int)} (i : Int) : ∀ k : Nat, (∃ k', k' ≤ k ∧ ∀ x y : Int, (∃ m, m ≤ k' ∧ Wk ps m i x) → [x, y] ∈ ps → ∃ m, m ≤ k' ∧ Wk ps m i y) ∨ ∃ L : List Int, L.Nodup ∧ L.length = k + 1 ∧ ∀ x ∈ L, ∃ m, m ≤ k ∧ Wk ps m i x
  | 0 => .inr ⟨[i], by simp, rfl, fun x hx => ⟨0, Nat.le_refl _, by rw [List.mem_singleton.mp hx]; exact .nil i⟩⟩
  | k + 1 => by
    rcases wk_grow i k with ⟨k', h1, h2⟩ | ⟨L, nd, len, all⟩
    · exact .inl ⟨k', by omega, h2⟩
    · by_cases c : ∀ x y : Int, (∃ m, m ≤ k ∧ Wk ps m i x) → [x, y] ∈ ps → ∃ m, m ≤ k ∧ Wk ps m i y
      · exact .inl ⟨k, by omega, c⟩
      · refine .inr ?_
        obtain ⟨x, hx⟩ := Classical.not_forall.mp c
        obtain ⟨y, hy⟩ := Classical.not_forall.mp hx
        obtain ⟨h1, hy⟩ := Classical.not_imp.mp hy
        obtain ⟨h2, h3⟩ := Classical.not_imp.mp hy
        obtain ⟨m, hm, wm⟩ := h1
        refine ⟨y :: L, List.nodup_cons.mpr ⟨fun z => h3 (all y z), nd⟩, by rw [List.length_cons, len], fun z hz => ?_⟩
        rcases List.mem_cons.mp hz with rfl | hz
        · exact ⟨m + 1, by omega, .more wm h2⟩
        · obtain ⟨m', h4, h5⟩ := all z hz
          exact ⟨m', by omega, h5⟩
theorem wk_in {ps : List (List Int)} {i : Int} {k : Nat} : ∀ {m : Nat} {j : Int}, Wk ps m i j → (∀ x y : Int, (∃ m, m ≤ k ∧ Wk ps m i x) → [x, y] ∈ ps → ∃ m, m ≤ k ∧ Wk ps m i y) → ∃ m', m' ≤ k ∧ Wk ps m' i j
  | _, _, .nil _, _ => ⟨0, Nat.zero_le _, .nil _⟩
  | _, _, .more w e, h2 => h2 _ _ (wk_in w h2) e
theorem wk_short {ps : List (List Int)} {n : Nat} (hb : ∀ p ∈ ps, Pr (n : Int) p) {i j : Int} (hi : 0 ≤ i ∧ i < (n : Int)) {m : Nat} (h : Wk ps m i j) : ∃ m', m' ≤ n ∧ Wk ps m' i j := by
  rcases wk_grow (ps := ps) i n with ⟨k', h1, h2⟩ | ⟨L, nd, len, all⟩
  · obtain ⟨m', h3, h4⟩ := wk_in h h2
    exact ⟨m', by omega, h4⟩
  · have := nodup_le (us := upN n) nd fun x hx => by
      obtain ⟨m', _, w⟩ := all x hx
      exact mem_upN.mpr (w.bound hb hi)
    rw [upN_len] at this
    omega
/-! ### periods -/
structure Per (ps : List (List Int)) (x : Int) (g : Nat) : Prop where
  all : ∀ n, Wk ps n x x → g ∣ n
  most : ∀ d : Nat, (∀ n, n ≤ 24 → Wk ps n x x → d ∣ n) → d ∣ g
theorem Per.uniq {ps : List (List Int)} {x : Int} {g g' : Nat} (h : Per ps x g) (h' : Per ps x g') : g = g' :=
  Nat.dvd_antisymm (h'.most g fun n _ w => h.all n w) (h.most g' fun n _ w => h'.all n w)
open Classical in
noncomputable def perN (ps : List (List Int)) (x : Int) : Nat := if h : ∃ g, Per ps x g then Classical.choose h else 0
theorem Per.is {ps : List (List Int)} {x : Int} {g : Nat} (h : Per ps x g) : perN ps x = g := by
  have e : ∃ g, Per ps x g := ⟨g, h⟩
  unfold perN
  rw [dif_pos e]
  exact (Classical.choose_spec e).uniq h
open Classical in
noncomputable def clsN (ps : List (List Int)) (x : Int) (g : Nat) (m : Int) : Nat := if h : ∃ n, Wk ps n x m then Classical.choose h % g else 0
theorem mod_of_dvd {g a b r : Nat} (h1 : g ∣ a + r) (h2 : g ∣ b + r) : a % g = b % g := by
  have e : ((a : Int) - b) % g = 0 := by
    have z : (g : Int) ∣ ((a + r : Nat) : Int) - ((b + r : Nat) : Int) := Int.dvd_sub (Int.ofNat_dvd.mpr h1) (Int.ofNat_dvd.mpr h2)
    have e2 : ((a + r : Nat) : Int) - ((b + r : Nat) : Int) = (a : Int) - b := by omega
    rw [e2] at z
    exact Int.emod_eq_zero_of_dvd z
  have z := Int.emod_eq_emod_iff_emod_sub_eq_zero.mpr e
  omega
/-- any way to a mark that leads back tells its class -/
theorem Per.cls {ps : List (List Int)} {x m : Int} {g n : Nat} (h : Per ps x g) (w : Wk ps n x m) (back : ∃ r, Wk ps r m x) : n % g = clsN ps x g m := by
  have e : ∃ n, Wk ps n x m := ⟨n, w⟩
  unfold clsN
  rw [dif_pos e]
  obtain ⟨r, wr⟩ := back
  exact mod_of_dvd (h.all _ (w.trans wr)) (h.all _ ((Classical.choose_spec e).trans wr))
theorem Per.self {ps : List (List Int)} {x : Int} {g : Nat} (h : Per ps x g) : clsN ps x g x = 0 := by
  rw [← h.cls (.nil x) ⟨0, .nil x⟩]; exact Nat.zero_mod g
theorem Per.pos {ps : List (List Int)} {x : Int} {g : Nat} (h : Per ps x g) (r : Rch ps x x) : 0 < g := by
  obtain ⟨n, w⟩ := rch_wk r
  have z := h.all _ w
  rcases Nat.eq_zero_or_pos g with e | e
  · rw [e] at z
    have := Nat.eq_zero_of_zero_dvd z
    omega
  · exact e
theorem dvd_mid {g t n r : Nat} (h1 : g ∣ t + n + r) (h2 : g ∣ t + r) : g ∣ n := by
  have z : (t + n + r) - (t + r) = n := by omega
  rw [← z]
  exact Nat.dvd_sub h1 h2
end RV
set_option maxHeartbeats 4000000
namespace RV
open PySem PySem.Spec PyProof.Rows L2
/-! ### dicts of ints -/
def kO (u : Int × Nat) : L2.Key × V := (Sum.inl u.1, V.int (u.2 : Int))
theorem kO_keys (us : List (Int × Nat)) : (us.map kO).map (·.1) = (us.map (·.1)).map Sum.inl := by
  rw [List.map_map, List.map_map]; rfl
theorem inl_mem {m : Int} {l : List Int} : (Sum.inl m : L2.Key) ∈ l.map Sum.inl ↔ m ∈ l := by
  rw [List.mem_map]
  constructor
  · rintro ⟨x, hx, e⟩
    cases e; exact hx
  · exact fun h => ⟨m, h, rfl⟩
theorem valO_not {us : List (Int × Nat)} {m : Int} (h : valV (us.map kO) (Sum.inl m) = none) : m ∉ us.map (·.1) := fun z => valV_not h (by rw [kO_keys]; exact inl_mem.mpr z)
theorem valO_in {us : List (Int × Nat)} {m : Int} {v : V} (h : valV (us.map kO) (Sum.inl m) = some v) : m ∈ us.map (·.1) := by
  have z := valV_in h
  rw [kO_keys] at z
  exact inl_mem.mp z
theorem valO_at : ∀ {us : List (Int × Nat)} {u : Int × Nat}, (us.map (·.1)).Nodup → u ∈ us → valV (us.map kO) (Sum.inl u.1) = some (.int (u.2 : Int))
  | [], u, _, h => nomatch h
  | v :: us, u, nd, h => by
    rw [List.map_cons, List.nodup_cons] at nd
    rw [List.map_cons]
    rcases List.mem_cons.mp h with rfl | h
    · exact valV_pos rfl
    · rw [valV_neg]
      · exact valO_at nd.2 h
      · intro e
        have e' : v.1 = u.1 := Sum.inl.inj e
        exact nd.1 (by rw [e']; exact List.mem_map_of_mem h)
theorem putO_new {us : List (Int × Nat)} {m : Int} {n : Nat} (h : valV (us.map kO) (Sum.inl m) = none) : putK (us.map kO) (Sum.inl m) (.int (n : Int)) = (us ++ [(m, n)]).map kO := by
  rw [putK_new _ h, List.map_append]; rfl
/-! ### steps off the least mark -/
structure Offs (ps : List (List Int)) (p : List Int) (x : Int) (us : List (Int × Nat)) : Prop where
  nd : (us.map (·.1)).Nodup
  wk : ∀ u ∈ us, Wk ps u.2 x u.1 ∧ u.1 ∈ p ∧ u.2 ≤ 7
  all : ∀ m ∈ p, m ∈ us.map (·.1)
/-- as they are found -/
structure Bf (ps : List (List Int)) (p : List Int) (x : Int) (us : List (Int × Nat)) : Prop where
  nd : (us.map (·.1)).Nodup
  first : us[0]? = some (x, 0)
  wk : ∀ (i : Nat) (u : Int × Nat), us[i]? = some u → Wk ps u.2 x u.1 ∧ u.1 ∈ p ∧ u.2 ≤ i
theorem Bf.len {ps : List (List Int)} {p : List Int} {x : Int} {us : List (Int × Nat)} (h : Bf ps p x us) : us.length ≤ p.length := by
  have := nodup_le (us := p) h.nd fun m hm => by
    obtain ⟨u, hu, rfl⟩ := List.mem_map.mp hm
    obtain ⟨i, hi, e⟩ := List.getElem_of_mem hu
    exact (h.wk i u (by rw [List.getElem?_eq_getElem hi, e])).2.1
  rwa [List.length_map] at this
theorem Bf.start {ps : List (List Int)} {p : List Int} {x : Int} (hx : x ∈ p) : Bf ps p x [(x, 0)] := by
  refine ⟨by simp, rfl, fun i u h => ?_⟩
  cases i with
  | zero =>
    have e : (x, 0) = u := Option.some.inj h
    subst e
    exact ⟨.nil x, hx, Nat.le_refl _⟩
  | succ i => simp at h
theorem Bf.add {ps : List (List Int)} {p : List Int} {x : Int} {us : List (Int × Nat)} (h : Bf ps p x us) {a : Nat} {u : Int × Nat} {y : Int} (hu : us[a]? = some u) (e : [u.1, y] ∈ ps) (hy : y ∈ p) (ny : y ∉ us.map (·.1)) : Bf ps p x (us ++ [(y, u.2 + 1)]) := by
  have hl : 0 < us.length := by
    have := (List.getElem?_eq_some_iff.mp h.first).1
    exact this
  refine ⟨?_, by rw [List.getElem?_append_left hl]; exact h.first, fun i v hv => ?_⟩
  · rw [List.map_append, List.nodup_append]
    exact ⟨h.nd, by simp, fun b hb c hc e => ny (by
      have := List.mem_singleton.mp (show c ∈ [y] from hc)
      rw [← this, ← e]; exact hb)⟩
  · by_cases hi : i < us.length
    · rw [List.getElem?_append_left hi] at hv
      exact h.wk i v hv
    · have hi2 := (List.getElem?_eq_some_iff.mp hv).1
      rw [List.length_append] at hi2
      have ei : i = us.length := by
        have : [(y, u.2 + 1)].length = 1 := rfl
        omega
      subst ei
      rw [List.getElem?_append_right (Nat.le_refl _), Nat.sub_self] at hv
      have ev : (y, u.2 + 1) = v := Option.some.inj hv
      subst ev
      obtain ⟨w1, w2, w3⟩ := h.wk a u hu
      have := (List.getElem?_eq_some_iff.mp hu).1
      exact ⟨.more w1 e, hy, by show u.2 + 1 ≤ us.length; omega⟩
/-- a part: what lies between its marks is in it -/
structure Knot (ps : List (List Int)) (p : List Int) (x : Int) : Prop where
  x_in : x ∈ p
  out : ∀ m ∈ p, ∃ n, Wk ps n x m
  back : ∀ m ∈ p, ∃ n, Wk ps n m x
  mid : ∀ m, (∃ n, Wk ps n x m) → (∃ n, Wk ps n m x) → m ∈ p
theorem Knot.way {ps : List (List Int)} {p : List Int} {x : Int} (k : Knot ps p x) {n : Nat} {j m : Int} (h : Wk ps n x j) (e : [j, m] ∈ ps) (hm : m ∈ p) : j ∈ p := by
  obtain ⟨r, w⟩ := k.back m hm
  exact k.mid j ⟨n, h⟩ ⟨1 + r, (Wk.one e).trans w⟩
theorem Bf.offs {ps : List (List Int)} {p : List Int} {x : Int} {us : List (Int × Nat)} (h : Bf ps p x us) (k : Knot ps p x) (h8 : p.length ≤ 8) (done : ∀ (i : Nat) (u : Int × Nat), us[i]? = some u → ∀ y ∈ p, [u.1, y] ∈ ps → y ∈ us.map (·.1)) : Offs ps p x us := by
  refine ⟨h.nd, fun u hu => ?_, fun m hm => ?_⟩
  · obtain ⟨i, hi, e⟩ := List.getElem_of_mem hu
    obtain ⟨w1, w2, w3⟩ := h.wk i u (by rw [List.getElem?_eq_getElem hi, e])
    have := h.len
    exact ⟨w1, w2, by omega⟩
  · have : ∀ {n : Nat} {m : Int}, Wk ps n x m → m ∈ p → m ∈ us.map (·.1) := by
      intro n
      induction n with
      | zero =>
        intro m w _
        rw [← w.zero]
        exact List.mem_map_of_mem (List.mem_of_getElem? h.first)
      | succ n ih =>
        intro m w hm
        cases w with
        | more w e =>
          have hj := ih w (k.way w e hm)
          obtain ⟨u, hu, eu⟩ := List.mem_map.mp hj
          obtain ⟨i, hi, ei⟩ := List.getElem_of_mem hu
          exact done i u (by rw [List.getElem?_eq_getElem hi, ei]) m hm (by rw [eu]; exact e)
    obtain ⟨n, w⟩ := k.out m hm
    exact this w hm
/-! ### the period by these -/
theorem Offs.get {ps : List (List Int)} {p : List Int} {x : Int} {us : List (Int × Nat)} (h : Offs ps p x us) {m : Int} (hm : m ∈ p) : ∃ o : Nat, (m, o) ∈ us ∧ Wk ps o x m ∧ o ≤ 7 := by
  obtain ⟨u, hu, e⟩ := List.mem_map.mp (h.all m hm)
  obtain ⟨w1, _, w3⟩ := h.wk u hu
  refine ⟨u.2, ?_, by rw [← e]; exact w1, w3⟩
  rw [← e]; exact hu
theorem Offs.one {ps : List (List Int)} {p : List Int} {x : Int} {us : List (Int × Nat)} (h : Offs ps p x us) {m : Int} {a b : Nat} (h1 : (m, a) ∈ us) (h2 : (m, b) ∈ us) : a = b := by
  have e1 := valO_at h.nd h1
  have e2 := valO_at h.nd h2
  rw [e1] at e2
  have := Option.some.inj e2
  injection this with e
  omega
def gapO (a b : Nat) : Nat := ((a : Int) + 1 - (b : Int)).natAbs
/-- what period has found so far -/
structure Gf (ps : List (List Int)) (p : List Int) (us : List (Int × Nat)) (qs : List (List Int)) (g : Nat) : Prop where
  all : ∀ (x y : Int) (a b : Nat), [x, y] ∈ qs → x ∈ p → y ∈ p → (x, a) ∈ us → (y, b) ∈ us → g ∣ gapO a b
  most : ∀ d : Nat, (∀ (x y : Int) (a b : Nat), [x, y] ∈ qs → x ∈ p → y ∈ p → (x, a) ∈ us → (y, b) ∈ us → d ∣ gapO a b) → d ∣ g
theorem gap_dvd {g a b : Nat} (h : g ∣ gapO a b) : ((a : Int) + 1) % g = (b : Int) % g := by
  have z : (g : Int) ∣ (a : Int) + 1 - (b : Int) := Int.ofNat_dvd_left.mpr h
  exact Int.emod_eq_emod_iff_emod_sub_eq_zero.mpr (Int.emod_eq_zero_of_dvd z)
theorem dvd_gap {d a b r : Nat} (h1 : d ∣ a + 1 + r) (h2 : d ∣ b + r) : d ∣ gapO a b := by
  have z : (d : Int) ∣ ((a + 1 + r : Nat) : Int) - ((b + r : Nat) : Int) := Int.dvd_sub (Int.ofNat_dvd.mpr h1) (Int.ofNat_dvd.mpr h2)
  have e : ((a + 1 + r : Nat) : Int) - ((b + r : Nat) : Int) = (a : Int) + 1 - (b : Int) := by omega
  rw [e] at z
  exact Int.ofNat_dvd_left.mp z
theorem Gf.per {ps : List (List Int)} {p : List Int} {x : Int} {us : List (Int × Nat)} {g n : Nat} (G : Gf ps p us ps g) (O : Offs ps p x us) (k : Knot ps p x) (hb : ∀ q ∈ ps, Pr (n : Int) q) (h8 : n ≤ 8) (hp : ∀ m ∈ p, 0 ≤ m ∧ m < (n : Int)) : Per ps x g := by
  obtain ⟨o0, m0, w0, _⟩ := O.get k.x_in
  have key : ∀ {t : Nat} {m : Int}, Wk ps t x m → m ∈ p → ∀ a, (m, a) ∈ us → ((t : Int) + o0) % g = (a : Int) % g := by
    intro t
    induction t with
    | zero =>
      intro m w hm a ha
      rw [← w.zero] at ha
      rw [O.one ha m0]
      simp
    | succ t ih =>
      intro m w hm a ha
      cases w with
      | @more _ _ j _ w e =>
        have hj := k.way w e hm
        obtain ⟨b, hb', _, _⟩ := O.get hj
        have h1 := ih w hj b hb'
        have h2 := gap_dvd (G.all j m b a e hj hm hb' ha)
        have e3 : ((t + 1 : Nat) : Int) + o0 = ((t : Int) + o0) + 1 := by omega
        rw [e3, ← h2, Int.add_emod, h1, ← Int.add_emod]
  have o0z : (o0 : Int) % g = 0 := by
    have z := key w0 k.x_in o0 m0
    have e : ((o0 : Int) + o0 - o0) % g = 0 := Int.emod_eq_emod_iff_emod_sub_eq_zero.mp z
    have e2 : (o0 : Int) + o0 - o0 = o0 := by omega
    rwa [e2] at e
  refine ⟨fun t w => ?_, fun d hd => ?_⟩
  · have z := key w k.x_in o0 m0
    have e : ((t : Int) + o0 - o0) % g = 0 := Int.emod_eq_emod_iff_emod_sub_eq_zero.mp z
    have e2 : (t : Int) + o0 - o0 = t := by omega
    rw [e2] at e
    exact Int.ofNat_dvd.mp (Int.dvd_of_emod_eq_zero e)
  · refine G.most d fun y z a b hyz hy hz ha hb' => ?_
    obtain ⟨r0, wr0⟩ := k.back z hz
    obtain ⟨r, hr, wr⟩ := wk_short hb (hp z hz) wr0
    have wa := (O.wk _ ha)
    have wb := (O.wk _ hb')
    have a7 : a ≤ 7 := wa.2.2
    have b7 : b ≤ 7 := wb.2.2
    exact dvd_gap (hd (a + 1 + r) (by omega) ((Wk.more wa.1 hyz).trans wr)) (hd (b + r) (by omega) (Wk.trans wb.1 wr))
theorem Gf.nil {ps : List (List Int)} {p : List Int} {us : List (Int × Nat)} : Gf ps p us [] 0 := ⟨(fun _ _ _ _ h => nomatch h), fun d _ => Nat.dvd_zero d⟩
theorem Gf.skip {ps : List (List Int)} {p : List Int} {us : List (Int × Nat)} {qs : List (List Int)} {g : Nat} {x y : Int} (G : Gf ps p us qs g) (no : ¬ (x ∈ p ∧ y ∈ p)) : Gf ps p us (qs ++ [[x, y]]) g := by
  refine ⟨fun x' y' a b h hx hy ha hb => ?_, fun d hd => G.most d fun x' y' a b h => hd x' y' a b (List.mem_append_left _ h)⟩
  rcases List.mem_append.mp h with z | z
  · exact G.all x' y' a b z hx hy ha hb
  · have z := List.mem_singleton.mp z
    injection z with z1 z2
    injection z2 with z2 _
    subst z1 z2
    exact absurd ⟨hx, hy⟩ no
theorem Gf.add {ps : List (List Int)} {p : List Int} {us : List (Int × Nat)} {qs : List (List Int)} {g : Nat} {x y : Int} {a b : Nat} {z : Int} (O : Offs ps p z us) (G : Gf ps p us qs g) (hx : x ∈ p) (hy : y ∈ p) (ha : (x, a) ∈ us) (hb : (y, b) ∈ us) : Gf ps p us (qs ++ [[x, y]]) (Nat.gcd g (gapO a b)) := by
  refine ⟨fun x' y' a' b' h hx' hy' ha' hb' => ?_, fun d hd => Nat.dvd_gcd (G.most d fun x' y' a b h => hd x' y' a b (List.mem_append_left _ h)) (hd x y a b (List.mem_append_right _ (List.mem_singleton.mpr rfl)) hx hy ha hb)⟩
  rcases List.mem_append.mp h with e | e
  · exact Nat.dvd_trans (Nat.gcd_dvd_left _ _) (G.all x' y' a' b' e hx' hy' ha' hb')
  · have e := List.mem_singleton.mp e
    injection e with e1 e2
    injection e2 with e2 _
    subst e1 e2
    rw [O.one ha' ha, O.one hb' hb]
    exact Nat.gcd_dvd_right _ _
end RV
set_option maxHeartbeats 4000000
namespace K6
open PySem PySem.Spec PyProof.Rows L2 RV
/-- how many steps off the mark g the marks are, as found so far -/
structure Off (n : Int) (ps : List (List Int)) (g : Int) (us : List (Int × Nat)) : Prop where
  nd : (us.map (·.1)).Nodup
  inn : ∀ u ∈ us, 0 ≤ u.1 ∧ u.1 < n
  lev : ∀ u ∈ us, u.2 < us.length
  goal : (g, 0) ∈ us
  back : ∀ u ∈ us, (u.1 = g ∧ u.2 = 0) ∨ ∃ v ∈ us, u.2 = v.2 + 1 ∧ [u.1, v.1] ∈ ps
theorem Off.one {n : Int} {ps : List (List Int)} {g : Int} (h : 0 ≤ g ∧ g < n) : Off n ps g [(g, 0)] :=
  ⟨List.nodup_cons.mpr ⟨List.not_mem_nil, List.nodup_nil⟩, fun u hu => by rw [List.mem_singleton.mp hu]; exact h, fun u hu => by rw [List.mem_singleton.mp hu]; exact Nat.zero_lt_one, List.mem_singleton.mpr rfl, fun u hu => by rw [List.mem_singleton.mp hu]; exact .inl ⟨rfl, rfl⟩⟩
theorem Off.add {n : Int} {ps : List (List Int)} {g y : Int} {us : List (Int × Nat)} {u : Int × Nat} (h : Off n ps g us) (hu : u ∈ us) (e : [y, u.1] ∈ ps) (hy : 0 ≤ y ∧ y < n) (ny : y ∉ us.map (·.1)) : Off n ps g (us ++ [(y, u.2 + 1)]) := by
  refine ⟨?_, fun v hv => ?_, fun v hv => ?_, List.mem_append_left _ h.goal, fun v hv => ?_⟩
  · rw [List.map_append, List.nodup_append]
    exact ⟨h.nd, by simp, fun a ha b hb z => ny (by rw [show y = b from (List.mem_singleton.mp hb).symm, ← z]; exact ha)⟩
  · rcases List.mem_append.mp hv with z | z
    · exact h.inn v z
    · rw [List.mem_singleton.mp z]; exact hy
  · rw [List.length_append]
    rcases List.mem_append.mp hv with z | z
    · have := h.lev v z; simp only [List.length_cons, List.length_nil]; omega
    · rw [List.mem_singleton.mp z]
      have := h.lev u hu
      simp only [List.length_cons, List.length_nil]; omega
  · rcases List.mem_append.mp hv with z | z
    · rcases h.back v z with b | ⟨w, hw, b⟩
      · exact .inl b
      · exact .inr ⟨w, List.mem_append_left _ hw, b⟩
    · rw [List.mem_singleton.mp z]
      exact .inr ⟨u, List.mem_append_left _ hu, rfl, e⟩
theorem Off.len {n : Nat} {ps : List (List Int)} {g : Int} {us : List (Int × Nat)} (h : Off (n : Int) ps g us) : us.length ≤ n := by
  have := few_below h.nd fun x hx => by
    obtain ⟨u, hu, rfl⟩ := List.mem_map.mp hx
    exact h.inn u hu
  rwa [List.length_map] at this
theorem Off.val {n : Int} {ps : List (List Int)} {g : Int} {us : List (Int × Nat)} (h : Off n ps g us) {x : Int} (hx : x ∈ us.map (·.1)) : ∃ d : Nat, (x, d) ∈ us ∧ valV (us.map kO) (Sum.inl x) = some (.int (d : Int)) := by
  obtain ⟨u, hu, rfl⟩ := List.mem_map.mp hx
  exact ⟨u.2, hu, valO_at h.nd hu⟩
theorem Off.fn {n : Int} {ps : List (List Int)} {g : Int} {us : List (Int × Nat)} (h : Off n ps g us) {x : Int} {a b : Nat} (h1 : (x, a) ∈ us) (h2 : (x, b) ∈ us) : a = b := by
  have e1 := valO_at h.nd h1
  have e2 := valO_at h.nd h2
  rw [e1] at e2
  injection e2 with e2
  injection e2 with e2
  omega
/-- no mark that leads into them lacks -/
def Full (ps : List (List Int)) (us : List (Int × Nat)) : Prop := ∀ x y, [x, y] ∈ ps → y ∈ us.map (·.1) → x ∈ us.map (·.1)
/-- so it is, or one more has been found in this round -/
def Grow (ps : List (List Int)) (j : Nat) (us0 us : List (Int × Nat)) : Prop := (us = us0 ∧ ∀ x y, [x, y] ∈ ps.take j → y ∈ us0.map (·.1) → x ∈ us0.map (·.1)) ∨ (us0.length < us.length ∧ ¬ Full ps us0)
theorem Grow.skip {ps : List (List Int)} {j : Nat} {us0 us : List (Int × Nat)} {x y : Int} (h : Grow ps j us0 us) (g : ps[j]? = some [x, y]) (no : ¬ (y ∈ us.map (·.1) ∧ x ∉ us.map (·.1))) : Grow ps (j + 1) us0 us := by
  rcases h with ⟨rfl, h⟩ | h
  · refine .inl ⟨rfl, fun x' y' hp hy => ?_⟩
    rw [List.take_add_one, g] at hp
    rcases List.mem_append.mp hp with z | z
    · exact h x' y' z hy
    · have e : [x', y'] = [x, y] := List.mem_singleton.mp z
      injection e with e1 e2
      injection e2 with e2 _
      subst e1 e2
      exact Classical.byContradiction fun z => no ⟨hy, z⟩
  · exact .inr h
theorem Grow.put {ps : List (List Int)} {j : Nat} {us0 us : List (Int × Nat)} {x y : Int} {d : Nat} (h : Grow ps j us0 us) (g : [x, y] ∈ ps) (hy : y ∈ us.map (·.1)) (nx : x ∉ us.map (·.1)) : Grow ps (j + 1) us0 (us ++ [(x, d)]) := by
  rcases h with ⟨rfl, h⟩ | h
  · exact .inr ⟨by rw [List.length_append]; exact Nat.lt_succ_self _, fun f => nx (f x y g hy)⟩
  · exact .inr ⟨by rw [List.length_append]; exact Nat.lt_succ_of_lt h.1, h.2⟩
/-- who leads to g, it too -/
inductive Ld (ps : List (List Int)) : Int → Int → Prop
  | here (g : Int) : Ld ps g g
  | step {x y g : Int} : [x, y] ∈ ps → Ld ps y g → Ld ps x g
theorem Off.mem_of {n : Int} {ps : List (List Int)} {g : Int} {us : List (Int × Nat)} (h : Off n ps g us) (f : Full ps us) {x : Int} (l : Ld ps x g) : x ∈ us.map (·.1) := by
  induction l with
  | here g => exact List.mem_map_of_mem (f := (·.1)) h.goal
  | step e _ ih => exact f _ _ e (ih h)
theorem Off.leads {n : Int} {ps : List (List Int)} {g : Int} {us : List (Int × Nat)} (h : Off n ps g us) : ∀ (d : Nat) (x : Int), (x, d) ∈ us → Ld ps x g
  | 0, x, hx => by
    rcases h.back _ hx with ⟨e, _⟩ | ⟨v, _, e, _⟩
    · have e : x = g := e
      rw [e]; exact .here g
    · exact absurd e (Nat.succ_ne_zero _).symm
  | d + 1, x, hx => by
    rcases h.back _ hx with ⟨_, e⟩ | ⟨v, hv, e, st⟩
    · exact absurd e (Nat.succ_ne_zero _)
    · have e : d + 1 = v.2 + 1 := e
      exact .step st (Off.leads h d v.1 (by rw [show d = v.2 by omega]; exact hv))
theorem Off.mem {n : Int} {ps : List (List Int)} {g : Int} {us : List (Int × Nat)} (h : Off n ps g us) (f : Full ps us) {x : Int} : x ∈ us.map (·.1) ↔ Ld ps x g := by
  refine ⟨fun hx => ?_, h.mem_of f⟩
  obtain ⟨u, hu, rfl⟩ := List.mem_map.mp hx
  exact h.leads u.2 u.1 hu
section
variable {P : Program} {w : World} {K : PySem.W.Frag} {mg : Str → Option Value} {base : Heap}
/-! ### _law_off -/
abbrev nLOff : List Str := ["_law_steps_here", "_law_goal", "_law_found", "_law_turn", "_law_one", "_law_other"]
theorem scLOff : FnScope nLOff ["_law_steps_here", "_law_goal"] (defScope sLOff) := ⟨rfl, rfl, rfl, by decide +kernel, rfl, by decide +kernel, by decide +kernel⟩
def spLOff (K : PySem.W.Frag) : Sp := fun vs H Q _ => ∃ (a : Addr) (g : Int) (n : Nat) (ps : List (List Int)), vs = [.ref a, .int g] ∧ Tups K H a ps ∧ (∀ p ∈ ps, Pr (n : Int) p) ∧ n ≤ 8 ∧ (0 ≤ g ∧ g < (n : Int)) ∧
  ∀ (H' : Hp) (d : Addr) (us : List (Int × Nat)), Same H H' → H d = none → H' d = some (.dK (us.map kO)) → Off (n : Int) ps g us → Full ps us → Q (.ref d) H'
theorem ok_loff {f : Addr} {fd : FuncData} (F : Fun K "_law_off" "_law_off" sLOff f fd) (B : Bare mg) : FnOk P w K mg base CX0 1 f fd ["_law_steps_here", "_law_goal"] (spLOff K) := by
  refine F.ok scLOff (fun vs H Q E h => ?_) (fun cdv A outer s H vs Q E hr h => ?_)
  · obtain ⟨a, g, n, ps, rfl, _⟩ := h
    rfl
  · obtain ⟨a, g, n, ps, rfl, hTT, hP, n8, hg, q⟩ := h
    have hu := hu_of hr
    obtain ⟨ks, rfl, hT, hks⟩ := hTT
    refine ⟨_, pss_cons (ps_set (i := 2) scLOff.nd rfl (Or.inl rfl) (pe_disp (pps_cons (pv 1) pe_int pps_nil) rfl rfl (by simp) (by decide)))
      (pss_cons (ps_for PassesOwn.never rfl (pi_range1 (by rfl) B.range (pa_cons pe_int pa_nil)) (pg_name (i := 3) scLOff.nd rfl (Or.inl rfl))
        (pss_one (ps_for PassesOwn.never rfl (pi_tup (pv 0)) (pg_tup rfl (pgs_cons (pg_name (i := 4) scLOff.nd rfl (Or.inl rfl)) (pgs_cons (pg_name (i := 5) scLOff.nd rfl (Or.inl rfl)) pgs_nil)))
          (pss_one (ps_if (PW.pt (pw_and (pt_cmp (pc_din hu (pv 5) (pv 2))) (pw_and1 (pt_cmp (pc_dnotin hu (pv 4) (pv 2))))))
            (pss_one (ps_dput hu (pv 2) (pv 4) (pe_op op_add (pe_dget hu (pv 2) (pv 5) (fun _ _ => rfl)) pe_int) rfl)) pss_nil)))))
      (pss_one (ps_ret (pv 2)))), ?_⟩
    intro d nd
    refine ⟨.int g, rfl, upd_same, [(Sum.inl g, .int 0)], rfl, (by show 1 ≤ 15; decide), ?_⟩
    have s1 : Same H (upd (upd H d (.dK [])) d (.dK (mergeK [] [(Sum.inl g, .int 0)]))) := fun b o e => by
      rw [upd_ne (ne_of_none e nd), upd_ne (ne_of_none e nd)]; exact e
    have ed : (upd (upd H d (.dK [])) d (.dK (mergeK [] [(Sum.inl g, .int 0)]))) d = some (.dK ([(g, 0)].map kO)) := upd_same
    generalize upd (upd H d (.dK [])) d (.dK (mergeK [] [(Sum.inl g, .int 0)])) = H1 at s1 ed ⊢
    refine ⟨8, rfl, by decide, by decide, ?_⟩
    refine for_range (lo := 0) (n := (8 : Int).toNat) (fun i σ H' => ∃ (us : List (Int × Nat)) (y3 y4 y5 : Option V), σ = [some (.ref a), some (.int g), some (.ref d), y3, y4, y5] ∧ Same H H' ∧ H' d = some (.dK (us.map kO)) ∧ Off (n : Int) (ks.map (·.2)) g us ∧ (Full (ks.map (·.2)) us ∨ i + 1 ≤ us.length))
      ⟨[(g, 0)], none, none, none, rfl, s1, ed, Off.one hg, .inr (Nat.le_refl _)⟩ ?_ ?_
    · rintro i σ H2 hi ⟨us0, y3, y4, y5, rfl, s2, ed2, off, gr0⟩
      refine ⟨.ref a, rfl, a, rfl, ⟨_, sqT_same s2 hT⟩, ?_⟩
      refine for_tup (K := K) (a := a) (xs := ks.map fun k => V.ref k.1) (fun j σ H' => ∃ (us : List (Int × Nat)) (y4 y5 : Option V), σ = [some (.ref a), some (.int g), some (.ref d), some (.int (0 + (i : Nat))), y4, y5] ∧ Same H H' ∧ H' d = some (.dK (us.map kO)) ∧ Off (n : Int) (ks.map (·.2)) g us ∧ Grow (ks.map (·.2)) j us0 us)
        ⟨us0, y4, y5, rfl, s2, ed2, off, .inl ⟨rfl, fun _ _ z => by simp at z⟩⟩ (fun j σ H' _ h => ?_) (fun j x σ H3 hx h => ?_) (fun σ H' h => ?_)
      · obtain ⟨_, _, _, _, s', _⟩ := h
        exact sqT_same s' hT
      · obtain ⟨us, y4, y5, rfl, s3, ed3, off3, gr⟩ := h
        obtain ⟨k, gk, rfl⟩ := map_at hx
        have km := List.mem_of_getElem? gk
        obtain ⟨x, y, e, hx, hy⟩ := hP k.2 (List.mem_map_of_mem km)
        have hkT : SqT K H3 k.1 ([x, y].map V.int) := by rw [← e]; exact sqT_same s3 (hks k km)
        have gxy : (ks.map (·.2))[j]? = some [x, y] := by rw [List.getElem?_map, gk, ← e]; rfl
        have exy : [x, y] ∈ ks.map (·.2) := by rw [← e]; exact List.mem_map_of_mem km
        refine ⟨k.1, _, rfl, hkT, rfl, _, _, rfl, _, _, rfl, rfl, ?_⟩
        refine ⟨.int y, rfl, .ref d, rfl, d, _, rfl, DGet.k (k := Sum.inl y) ed3, _, rfl, ?_⟩
        cases ev : valV (us.map kO) (Sum.inl y) with
        | none =>
          refine iteF (iteF ?_)
          exact ⟨us, _, _, rfl, s3, ed3, off3, gr.skip gxy fun z => valO_not ev z.1⟩
        | some v =>
          refine iteT ⟨.int x, rfl, .ref d, rfl, d, _, rfl, DGet.k (k := Sum.inl x) ed3, _, rfl, ?_⟩
          cases ex : valV (us.map kO) (Sum.inl x) with
          | some v' =>
            refine iteF ?_
            exact ⟨us, _, _, rfl, s3, ed3, off3, gr.skip gxy fun z => z.2 (valO_in ex)⟩
          | none =>
            refine iteT ?_
            obtain ⟨dd, hdd, ed⟩ := off3.val (valO_in ev)
            have l3 := off3.len
            have dput : DPut H3 d (kV (Sum.inl x)) (.int ((dd : Int) + 1)) (upd H3 d (.dK ((us ++ [(x, dd + 1)]).map kO))) := by
              rw [← putO_new ex]
              exact DPut.k ed3 (by rw [List.length_map]; exact few1 (by omega))
            refine ⟨.ref d, rfl, .int y, rfl, d, _, rfl, (by rw [← ed]; exact DGet.k (k := Sum.inl y) ed3), _, _, rfl, rfl, .ref d, rfl, .int x, rfl, d, upd H3 d (.dK ((us ++ [(x, dd + 1)]).map kO)), rfl, dput, ?_⟩
            exact ⟨us ++ [(x, dd + 1)], _, _, rfl, fun b o z => by rw [upd_ne (ne_of_none z nd)]; exact s3 b o z, upd_same, off3.add hdd exy hx (valO_not ex), gr.put exy (valO_in ev) (valO_not ex)⟩
      · obtain ⟨us, y4, y5, rfl, s3, ed3, off3, gr⟩ := h
        refine ⟨us, _, _, _, rfl, s3, ed3, off3, ?_⟩
        rcases gr with ⟨rfl, h⟩ | ⟨h1, h2⟩
        · rw [List.length_map, List.take_of_length_le (by rw [List.length_map]; exact Nat.le_refl _)] at h
          exact .inl h
        · have := gr0.resolve_left h2
          exact .inr (by omega)
    · rintro σ H2 ⟨us, y3, y4, y5, rfl, s2, ed2, off, gr⟩
      refine ⟨.ref d, rfl, q H2 d us s2 nd ed2 off (gr.resolve_right fun z => ?_)⟩
      have := off.len
      have : (8 : Int).toNat = 8 := rfl
      omega
/-! ### _law_behind -/
theorem scLBeh : FnScope ["_law_steps_here", "_law_mark", "_law_one", "_law_other"] ["_law_steps_here", "_law_mark"] (defScope sLBehind) := ⟨rfl, rfl, rfl, by decide +kernel, rfl, by decide +kernel, by decide +kernel⟩
def spLBeh (K : PySem.W.Frag) : Sp := fun vs H Q _ => ∃ (a : Addr) (m n : Int) (ps : List (List Int)), vs = [.ref a, .int m] ∧ Tups K H a ps ∧ ps.length ≤ 1000 ∧ (∀ p ∈ ps, Pr n p) ∧ ∀ (H' : Hp) (D : Addr), Same H H' → H D = none → H' D = some (.lst ((behindOf ps m).map V.int)) → Q (.ref D) H'
theorem ok_lbeh {f : Addr} {fd : FuncData} (F : Fun K "_law_behind" "_law_behind" sLBehind f fd) (B : Bare mg) : FnOk P w K mg base CX0 1 f fd ["_law_steps_here", "_law_mark"] (spLBeh K) := by
  refine F.ok scLBeh (fun vs H Q E h => ?_) (fun cdv A outer s H vs Q E hr h => ?_)
  · obtain ⟨a, m, n, ps, rfl, _⟩ := h
    rfl
  · obtain ⟨a, m, n, ps, rfl, hTT, hl, hp, q⟩ := h
    obtain ⟨ks, rfl, hT, hks⟩ := hTT
    refine ⟨_, pss_one (ps_ret (pe_lc (own := [("_law_one", 2), ("_law_other", 3)]) (g := gTup K 2 (gCons (gName 2) (gCons (gName 3) gNil))) rfl scLBeh.nd (pi_tup (pv 0)) (blkOk_by (N := ["_law_steps_here", "_law_mark", "_law_one", "_law_other"]) (sc := defScope sLBehind) (by decide +kernel))
          (fun _ _ _ _ _ => pg_tupK rfl rfl (pgs_cons (pg_name (i := 2) scLBeh.nd rfl (Or.inl rfl)) (pgs_cons (pg_name (i := 3) scLBeh.nd rfl (Or.inl rfl)) pgs_nil))) (fun _ _ _ _ _ => pts_one (pt_cmpR op_eq (pv 2) (pv 1) (nomark _))) (fun _ _ _ _ _ => pv 3))), ?_⟩
    refine ⟨.ref a, rfl, a, rfl, ⟨_, hT⟩, fun D nD => ?_⟩
    refine lc_tup (K := K) (a := a) (xs := ks.map fun p => V.ref p.1) (fun i H' => Same H H' ∧ H' D = some (.lst ((behindOf ((ks.map (·.2)).take i) m).map V.int))) ⟨same_upd nD, by rw [upd_same]; rfl⟩ (fun i H' _ p => sqT_same p.1 hT) (fun i x H' hx p => ?_) fun H' p => ?_
    · obtain ⟨k, g, rfl⟩ := map_at hx
      have hk : k ∈ ks := List.mem_of_getElem? g
      obtain ⟨x, y, e, _⟩ := hp k.2 (List.mem_map_of_mem hk)
      have hkT : SqT K H' k.1 ([x, y].map V.int) := by rw [← e]; exact sqT_same p.1 (hks k hk)
      have gi : (ks.map (·.2))[i]? = some [x, y] := by rw [List.getElem?_map, g, ← e]; rfl
      refine ⟨k.1, _, rfl, hkT, rfl, _, _, rfl, _, _, rfl, rfl, rfl, .int x, rfl, .int m, rfl, rfl, _, rfl, ?_⟩
      have hle := behind_len ((ks.map (·.2)).take i) m
      rw [List.length_take] at hle
      rw [decV]
      refine ite2 (fun hb => ?_) (fun hb => ?_)
      · have hb := of_decide_eq_true hb
        refine ⟨.int y, rfl, _, p.2, ?_, fun b o z => by rw [upd_ne (ne_of_none z nD)]; exact p.1 b o z, by rw [upd_same, behind_next gi, if_pos hb, List.map_append]; rfl⟩
        rw [List.length_map]; exact few1 (by omega)
      · exact ⟨p.1, by rw [p.2, behind_next gi, if_neg (fun z => hb (decide_eq_true z)), List.append_nil]⟩
    · rw [List.length_map, List.take_of_length_le (by rw [List.length_map]; exact Nat.le_refl _)] at p
      exact q _ D p.1 nD p.2
/-! ### _law_starts -/
/-- where closed walks may begin -/
def Beg (n : Nat) (ps : List (List Int)) (x : Int) : Prop := (0 ≤ x ∧ x < (n : Int)) ∧ ∃ y, [x, y] ∈ ps ∧ Ld ps y x
theorem any_key {n : Int} {ps : List (List Int)} {g : Int} {us : List (Int × Nat)} (h : Off n ps g us) (x : Int) : (valV (us.map kO) (Sum.inl x)).isSome = decide (x ∈ us.map (·.1)) := by
  cases e : valV (us.map kO) (Sum.inl x) with
  | none => rw [decide_eq_false (valO_not e)]; rfl
  | some v => rw [decide_eq_true (valO_in e)]; rfl
abbrev nStarts : List Str := ["_law_steps_here", "_law_many", "_law_found", "_law_mark", "_law_off_here", "_law_other"]
theorem scStarts : FnScope nStarts ["_law_steps_here", "_law_many"] (defScope sLStarts) := ⟨rfl, rfl, rfl, by decide +kernel, rfl, by decide +kernel, by decide +kernel⟩
def spStarts (K : PySem.W.Frag) : Sp := fun vs H Q _ => ∃ (a : Addr) (n : Nat) (ps : List (List Int)), vs = [.ref a, .int (n : Int)] ∧ Tups K H a ps ∧ (∀ p ∈ ps, Pr (n : Int) p) ∧ n ≤ 8 ∧ ps.length ≤ 64 ∧
  ∀ (H' : Hp) (D : Addr) (xs : List Int), Same H H' → H D = none → H' D = some (.lst (xs.map V.int)) → xs.length ≤ 8 → (∀ x ∈ xs, Beg n ps x) → Q (.ref D) H'
theorem ok_starts {f fO fB : Addr} {fd dO dB : FuncData} (F : Fun K "_law_starts" "_law_starts" sLStarts f fd) (B : Bare mg) (DO : DefAt K mg "_law_off" sLOff ["_law_steps_here", "_law_goal"] fO dO) (DB : DefAt K mg "_law_behind" sLBehind ["_law_steps_here", "_law_mark"] fB dB) :
    FnOk P w K mg base CX0 2 f fd ["_law_steps_here", "_law_many"] (spStarts K) := by
  have GO : FnOk P w K mg base CX0 1 fO dO ["_law_steps_here", "_law_goal"] (spLOff K) := ok_loff DO.fn B
  have GB : FnOk P w K mg base CX0 1 fB dB ["_law_steps_here", "_law_mark"] (spLBeh K) := ok_lbeh DB.fn B
  refine F.ok scStarts (fun vs H Q E h => ?_) (fun cdv A outer s H vs Q E hr h => ?_)
  · obtain ⟨a, n, ps, rfl, _⟩ := h
    rfl
  · obtain ⟨a, n, ps, rfl, hTT, hP, n8, hl, q⟩ := h
    have hu := hu_of hr
    refine ⟨_, pss_cons (ps_set (i := 2) scStarts.nd rfl (Or.inl rfl) (pe_lst pa_nil))
      (pss_cons (ps_for PassesOwn.never rfl (pi_range1 (by rfl) B.range (pa_cons (pv 1) pa_nil)) (pg_name (i := 3) scStarts.nd rfl (Or.inl rfl))
        (pss_cons (ps_set (i := 4) scStarts.nd rfl (Or.inr rfl) (pe_call GO hr (by rfl) DO.mg DO.fn.kp DO.bi .nil pass0 (pa_cons (pv 0) (pa_cons (pv 3) pa_nil))))
        (pss_one (ps_if (pt_cmpR (op_neD hr.units)
            (pe_lc (own := [("_law_other", 5)]) (g := gName 5) rfl scStarts.nd (pi_list (pe_call GB hr (by rfl) DB.mg DB.fn.kp DB.bi .nil pass0 (pa_cons (pv 0) (pa_cons (pv 3) pa_nil)))) (blkOk_by (N := nStarts) (sc := defScope sLStarts) (by decide +kernel))
              (fun _ _ _ _ _ => pg_name (i := 5) scStarts.nd rfl (Or.inl rfl)) (fun _ _ _ _ _ => pts_one (pt_cmp (pc_din hu (pv 5) (pv 4)))) (fun _ _ _ _ _ => pv 5)) (pe_lst pa_nil) (nomark _))
          (pss_one (ps_expr (pe_bm PySem.F.plainAttrs_list PySem.F.slot_list_append PySem.F.type_list_append mt_append (pv 2) (pa_cons (pv 3) pa_nil)))) pss_nil))))
      (pss_one (ps_ret (pv 2)))), ?_⟩
    refine ⟨Nat.zero_le _, fun l nl => ?_⟩
    refine ⟨.int (n : Int), rfl, (n : Int), rfl, by omega, by omega, ?_⟩
    refine for_range (lo := 0) (n := (n : Int).toNat) (fun i σ H' => ∃ (xs : List Int) (y3 y4 y5 : Option V), σ = [some (.ref a), some (.int (n : Int)), some (.ref l), y3, y4, y5] ∧ Same H H' ∧ H' l = some (.lst (xs.map V.int)) ∧ xs.length ≤ i ∧ (∀ x ∈ xs, Beg n ps x))
      ⟨[], none, none, none, rfl, same_upd nl, upd_same, Nat.le_refl _, fun _ z => nomatch z⟩ ?_ ?_
    · rintro i σ H1 hi ⟨xs, y3, y4, y5, rfl, s1, e1, lx, bx⟩
      have ei : (0 + ((i : Nat) : Int)) = (i : Int) := by omega
      rw [ei]
      refine ⟨.ref a, rfl, .int (i : Int), rfl, a, (i : Int), n, ps, rfl, hTT.same s1, hP, n8, ⟨by omega, by omega⟩, fun H2 d us s2 nd ed off full => ?_⟩
      refine ⟨.ref a, rfl, .int (i : Int), rfl, a, (i : Int), (n : Int), ps, rfl, hTT.same (s1.trans s2), by omega, hP, fun H3 D s3 nD eD => ?_⟩
      have bl := behind_len ps (i : Int)
      refine ⟨D, rfl, ⟨_, lstNew eD⟩, fun D2 nD2 => ?_⟩
      refine lc_filtL (f := fun y => decide (y ∈ us.map (·.1))) (lstNew eD) (by omega) nD2 (fun y hy H' s' A B h => ?_) (fun y H' Q h => ⟨.int y, rfl, h⟩) fun H4 s4 eD4 => ?_
      · refine ⟨.int y, rfl, .ref d, rfl, d, _, rfl, DGet.k (k := Sum.inl y) ((s3.trans s') _ _ ed), _, rfl, ?_⟩
        rw [any_key off]; exact h H' (Same.refl H')
      · refine ⟨Nat.zero_le _, fun c nc => ?_⟩
        have sc := same_upd (o := .lst []) nc
        refine ⟨.list _, .list (([] : List Int).map PyData.int), .lst (lstNew (sc _ _ eD4)) (dpInts _), .lst (lstNew upd_same) .nil, shapedL _, shapedL [], _, rfl, ?_⟩
        rw [eqvL]
        have s14 := ((s2.trans s3).trans s4).trans sc
        have el := s14 _ _ e1
        have s04 := s1.trans s14
        generalize upd H4 c (.lst []) = H5 at el s04 ⊢
        cases ef : (behindOf ps (i : Int)).filter fun y => decide (y ∈ us.map (·.1)) with
        | nil =>
          rw [decide_eq_true rfl]
          refine iteF ?_
          exact ⟨xs, _, _, _, rfl, s04, el, by omega, bx⟩
        | cons y ys =>
          rw [decide_eq_false (by simp)]
          refine iteT ⟨.ref l, rfl, .inl ⟨rfl, _, lstNew el⟩, .int (i : Int), rfl, l, _, _, rfl, rfl, el, by rw [List.length_map]; exact few1 (by omega), ?_⟩
          have hy : y ∈ (behindOf ps (i : Int)).filter fun y => decide (y ∈ us.map (·.1)) := by rw [ef]; exact List.mem_cons_self ..
          obtain ⟨h1, h2⟩ := List.mem_filter.mp hy
          refine ⟨xs ++ [(i : Int)], _, _, _, rfl, fun b o z => by rw [upd_ne (ne_of_none z nl)]; exact s04 b o z, by rw [upd_same, List.map_append]; rfl, by rw [List.length_append]; exact Nat.succ_le_succ lx, fun x hx => ?_⟩
          rcases List.mem_append.mp hx with z | z
          · exact bx x z
          · rw [List.mem_singleton.mp z]
            exact ⟨⟨by omega, by omega⟩, y, (mem_behind hP).mp h1, (off.mem full).mp (of_decide_eq_true h2)⟩
    · rintro σ H1 ⟨xs, y3, y4, y5, rfl, s1, e1, lx, bx⟩
      exact ⟨.ref l, rfl, q H1 l xs s1 nl e1 (by omega) bx⟩
end
end K6
set_option maxHeartbeats 4000000
namespace K6
open PySem PySem.Spec PyProof.Rows L2 RV
theorem cut_end (xs : List V) (v : V) : cutV (xs ++ [v]) none (some (-1)) = xs := by
  have h : HT.sIx (xs ++ [v]).length (xs ++ [v]).length (some (-1)) = xs.length := by
    show (if (-1 : Int) < 0 then ((-1 : Int) + ((xs ++ [v]).length : Int)).toNat else min (-1 : Int).toNat (xs ++ [v]).length) = _
    rw [if_pos (by decide), List.length_append]
    simp; omega
  unfold cutV
  rw [h, HT.sIx_none, List.drop_zero, Nat.sub_zero, List.take_left]
/-- the word so far, its last mark z -/
structure Wd (n : Int) (ps : List (List Int)) (x : Int) (us : List (Int × Nat)) (ws : List Int) (z : Int) : Prop where
  beg : ∀ y, (ws ++ [z])[0]? = some y → y = x
  ste : ∀ i a b, (ws ++ [z])[i]? = some a → (ws ++ [z])[i + 1]? = some b → [a, b] ∈ ps
  key : z ∈ us.map (·.1)
  inn : ∀ y ∈ ws, 0 ≤ y ∧ y < n
theorem Wd.one {n : Int} {ps : List (List Int)} {x : Int} {us : List (Int × Nat)} (h : x ∈ us.map (·.1)) : Wd n ps x us [] x :=
  ⟨fun y e => (Option.some.inj e).symm, (fun i a b _ e => absurd e (by simp)), h, fun _ z => nomatch z⟩
theorem Wd.add {n : Int} {ps : List (List Int)} {x : Int} {us : List (Int × Nat)} {ws : List Int} {z y : Int} (h : Wd n ps x us ws z) (hz : 0 ≤ z ∧ z < n) (e : [z, y] ∈ ps) (hy : y ∈ us.map (·.1)) : Wd n ps x us (ws ++ [z]) y := by
  refine ⟨fun v e => ?_, fun i a b ha hb => ?_, hy, fun v hv => ?_⟩
  · rw [List.getElem?_append_left (by simp)] at e
    exact h.beg v e
  · rcases Nat.lt_or_ge (i + 1) (ws ++ [z]).length with q | q
    · rw [List.getElem?_append_left (by omega)] at ha
      rw [List.getElem?_append_left q] at hb
      exact h.ste i a b ha hb
    · have il : i < (ws ++ [z]).length := by
        have := (List.getElem?_eq_some_iff.mp hb).1
        rw [List.length_append] at this
        simp only [List.length_cons, List.length_nil] at this
        omega
      rw [List.getElem?_append_left il] at ha
      rw [List.getElem?_append_right q] at hb
      rw [List.length_append] at il q hb
      simp only [List.length_cons, List.length_nil] at il q hb
      have ei : i = ws.length := by omega
      subst ei
      rw [List.getElem?_append_right (Nat.le_refl _), Nat.sub_self] at ha
      rw [Nat.sub_self] at hb
      cases ha
      cases hb
      exact e
  · rcases List.mem_append.mp hv with q | q
    · exact h.inn v q
    · rw [List.mem_singleton.mp q]; exact hz
theorem Wd.loop {n : Int} {ps : List (List Int)} {x : Int} {us : List (Int × Nat)} {ws : List Int} (h : Wd n ps x us ws x) : Loop ps x ws := by
  refine ⟨fun y e => h.beg y ?_, fun i a b ha hb => h.ste i a b ?_ hb⟩
  · rw [List.getElem?_append_left (List.getElem?_eq_some_iff.mp e).1]; exact e
  · rw [List.getElem?_append_left (List.getElem?_eq_some_iff.mp ha).1]; exact ha
section
variable {P : Program} {w : World} {K : PySem.W.Frag} {mg : Str → Option Value} {base : Heap}
/-! ### _law_closed -/
abbrev nClosed : List Str := ["_law_pail_here", "_law_steps_here", "_law_start", "_law_most", "_law_off_here", "_law_word", "_law_turn", "_law_mark"]
theorem scClosed : FnScope nClosed ["_law_pail_here", "_law_steps_here", "_law_start", "_law_most"] (defScope sClosed) := ⟨rfl, rfl, rfl, by decide +kernel, rfl, by decide +kernel, by decide +kernel⟩
def spClosed (K : PySem.W.Frag) : Sp := fun vs H Q _ => ∃ (p a : Addr) (t m n : Nat) (x : Int) (ps : List (List Int)), vs = [.ref p, .ref a, .int x, .int (m : Int)] ∧ PailAt H p t ∧ t ≤ 1500 ∧ Tups K H a ps ∧ (∀ p ∈ ps, Pr (n : Int) p) ∧ n ≤ 8 ∧ ps.length ≤ 64 ∧ Beg n ps x ∧ 1 ≤ m ∧ m ≤ 20 ∧
  ∀ (H' : Hp) (T : Addr) (ws : List Int) (t' : Nat), t' ≤ t + 21 → PailAt H' p t' → But p H H' → SqT K H' T (ws.map V.int) → Loop ps x ws → ws ≠ [] → ws.length ≤ m + 8 → (∀ y ∈ ws, 0 ≤ y ∧ y < (n : Int)) → Q (.ref T) H'
theorem ok_closed {f fO fB fD fF : Addr} {fd dO dB dD dF : FuncData} (F : Fun K "_law_closed" "_law_closed" sClosed f fd) (B : Bare mg) (DO : DefAt K mg "_law_off" sLOff ["_law_steps_here", "_law_goal"] fO dO) (DB : DefAt K mg "_law_behind" sLBehind ["_law_steps_here", "_law_mark"] fB dB)
    (DD : DefAt K mg "_law_draw" sDraw ["_law_pail_here", "_law_many"] fD dD) (DF : DefAt K mg "_law_of" sOf ["_law_pail_here", "_law_some"] fF dF) :
    FnOk P w K mg base CX0 3 f fd ["_law_pail_here", "_law_steps_here", "_law_start", "_law_most"] (spClosed K) := by
  have GO : FnOk P w K mg base CX0 1 fO dO ["_law_steps_here", "_law_goal"] (spLOff K) := ok_loff DO.fn B
  have GB : FnOk P w K mg base CX0 1 fB dB ["_law_steps_here", "_law_mark"] (spLBeh K) := ok_lbeh DB.fn B
  have GD : FnOk P w K mg base CX0 1 fD dD ["_law_pail_here", "_law_many"] spDraw := ok_draw DD.fn
  have GF : FnOk P w K mg base CX0 2 fF dF ["_law_pail_here", "_law_some"] (spOf K) := ok_of DF.fn DD B
  refine F.ok scClosed (fun vs H Q E h => ?_) (fun cdv A outer s H vs Q E hr h => ?_)
  · obtain ⟨p, a, t, m, n, x, ps, rfl, _⟩ := h
    rfl
  · obtain ⟨p, a, t, m, n, x, ps, rfl, hp, ht, hTT, hP, n8, hl, ⟨hx, y1, hxy, hy1⟩, m1, m20, q⟩ := h
    have hu := hu_of hr
    have r1 := hr.mono (show 1 ≤ 2 by decide)
    have two : (2 : Nat) ≤ sizeLine := by decide
    refine ⟨_, pss_cons (ps_asg (pe_tup (pa_cons (pe_call GO r1 (by rfl) DO.mg DO.fn.kp DO.bi .nil pass0 (pa_cons (pv 1) (pa_cons (pv 2) pa_nil))) (pa_cons (pe_lst (pa_cons (pv 2) pa_nil)) pa_nil))) (pg_tup rfl (pgs_cons (pg_name (i := 4) scClosed.nd rfl (Or.inr rfl)) (pgs_cons (pg_name (i := 5) scClosed.nd rfl (Or.inr rfl)) pgs_nil))))
      (pss_cons (ps_for PassesOwn.never rfl (pi_range1 (by rfl) B.range (pa_cons (pe_op op_add pe_int (pe_call GD r1 (by rfl) DD.mg DD.fn.kp DD.bi .nil pass0 (pa_cons (pv 0) (pa_cons (pv 3) pa_nil)))) pa_nil)) (pg_name (i := 6) scClosed.nd rfl (Or.inl rfl))
        (pss_one (ps_expr (pe_bm PySem.F.plainAttrs_list PySem.F.slot_list_append PySem.F.type_list_append mt_append (pv 5) (pa_cons (pe_call GF hr (by rfl) DF.mg DF.fn.kp DF.bi .nil pass0 (pa_cons (pv 0) (pa_cons
          (pe_lc (own := [("_law_mark", 7)]) (g := gName 7) rfl scClosed.nd (pi_list (pe_call GB r1 (by rfl) DB.mg DB.fn.kp DB.bi .nil pass0 (pa_cons (pv 1) (pa_cons (pe_ix ix_list (pv 5) (pe_un un_neg pe_int) (fun _ _ => rfl)) pa_nil)))) (blkOk_by (N := nClosed) (sc := defScope sClosed) (by decide +kernel))
            (fun _ _ _ _ _ => pg_name (i := 7) scClosed.nd rfl (Or.inl rfl)) (fun _ _ _ _ _ => pts_one (pt_cmp (pc_din hu (pv 7) (pv 4)))) (fun _ _ _ _ _ => pv 7)) pa_nil))) pa_nil)))))
      (pss_cons (ps_while PassesOwn.never (pt_cmpR op_ne (pe_ix ix_list (pv 5) (pe_un un_neg pe_int) (fun _ _ => rfl)) (pv 2) (nomark _))
        (pss_one (ps_expr (pe_bm PySem.F.plainAttrs_list PySem.F.slot_list_append PySem.F.type_list_append mt_append (pv 5) (pa_cons (pe_ix ix_list
          (pe_lc (own := [("_law_mark", 7)]) (g := gName 7) rfl scClosed.nd (pi_list (pe_call GB r1 (by rfl) DB.mg DB.fn.kp DB.bi .nil pass0 (pa_cons (pv 1) (pa_cons (pe_ix ix_list (pv 5) (pe_un un_neg pe_int) (fun _ _ => rfl)) pa_nil)))) (blkOk_by (N := nClosed) (sc := defScope sClosed) (by decide +kernel))
            (fun _ _ _ _ _ => pg_name (i := 7) scClosed.nd rfl (Or.inl rfl))
            (fun _ _ _ _ _ => pts_one (pt_cmpR op_eq (pe_dget2 hu (pv 4) (pv 7) pe_int ⟨by rfl, by rfl, by rfl, by rfl⟩) (pe_op op_sub (pe_dget hu (pv 4) (pe_ix (ix_listK (K := K) rfl) (pv 5) (pe_un un_neg pe_int) (fun _ _ => rfl)) (fun _ _ => rfl)) pe_int) (nomark _)))
            (fun _ _ _ _ _ => pv 7)) pe_int (fun _ _ => rfl)) pa_nil)))))
      (pss_one (ps_ret (pe_tupleOf (by rfl) B.tuple (pe_slice sl_list (pv 5) po_none (po_some (pe_un un_neg pe_int)))))))), ?_⟩
    refine ⟨.ref a, rfl, .int x, rfl, a, x, n, ps, rfl, hTT, hP, n8, hx, fun H1 d us s1 nd ed off full => ?_⟩
    refine ⟨.int x, rfl, (by show 1 ≤ sizeLine; decide), fun W nW => ⟨two, fun T0 nT0 => ?_⟩⟩
    have sW := same_upd (o := .lst [.int x]) nW
    have sT := same_upd (o := .tup [.ref d, .ref W]) nT0
    have nWH : H W = none := s1.free nW
    have s03 := (s1.trans sW).trans sT
    have ed3 := (sW.trans sT) _ _ ed
    have eW3 := sT _ _ (upd_same (H := H1) (a := W) (o := .lst [.int x]))
    have hWp : W ≠ p := pail_ne (pail_same hp s1) nW
    have hdp : d ≠ p := pail_ne hp nd
    have hp3 := pail_same hp s03
    have b03 : But p H (upd (upd H1 W (.lst [.int x])) T0 (.tup [.ref d, .ref W])) := But.of s03
    refine ⟨T0, _, rfl, tupNew upd_same, rfl, _, _, rfl, _, _, rfl, rfl, ?_⟩
    generalize upd (upd H1 W (.lst [.int x])) T0 (.tup [.ref d, .ref W]) = H3 at ed3 eW3 hp3 b03 ⊢
    have x_in : x ∈ us.map (·.1) := (off.mem full).mpr (.here x)
    have kin : ∀ z ∈ us.map (·.1), 0 ≤ z ∧ z < (n : Int) := fun z hz => by
      obtain ⟨u, hu, rfl⟩ := List.mem_map.mp hz
      exact off.inn u hu
    -- from a mark that leads on, on
    have onto : ∀ z ∈ us.map (·.1), ∃ y, [z, y] ∈ ps ∧ y ∈ us.map (·.1) := fun z hz => by
      obtain ⟨dd, hdd, _⟩ := off.val hz
      rcases off.back _ hdd with ⟨e, _⟩ | ⟨v, hv, _, e⟩
      · have e : z = x := e
        rw [e]
        exact ⟨y1, hxy, (off.mem full).mpr hy1⟩
      · exact ⟨v.1, e, List.mem_map_of_mem hv⟩
    refine ⟨.ref p, rfl, .int (m : Int), rfl, p, t, (m : Int), rfl, hp3, by omega, by omega, by omega, fun r t4 H4 r0 r1' ht4 hp4 b4 => ?_⟩
    refine ⟨_, _, rfl, rfl, (1 + r), rfl, by omega, by omega, ?_⟩
    have ed4 := b4 _ _ ed3 hdp
    have eW4 := b4 _ _ eW3 hWp
    have b04 := b03.trans b4
    refine for_range (lo := 0) (n := (1 + r).toNat) (fun i σ H' => ∃ (ws : List Int) (z : Int) (t' : Nat) (y6 y7 : Option V), σ = [some (.ref p), some (.ref a), some (.int x), some (.int (m : Int)), some (.ref d), some (.ref W), y6, y7] ∧ But p H H' ∧ PailAt H' p t' ∧ t' ≤ t4 + i ∧ H' d = some (.dK (us.map kO)) ∧ H' W = some (.lst ((ws ++ [z]).map V.int)) ∧ Wd (n : Int) ps x us ws z ∧ ws.length = i)
      ⟨[], x, t4, none, none, rfl, b04, hp4, Nat.le_refl _, ed4, eW4, Wd.one x_in, rfl⟩ ?_ ?_
    · rintro i σ H5 hi ⟨ws, z, t5, y6, y7, rfl, b5, hp5, ht5, ed5, eW5, wd, lw⟩
      have hz := kin z wd.key
      have hTT5 := tups_pail hp b5 hTT
      refine ⟨.ref W, rfl, .inl ⟨rfl, _, lstNew eW5⟩, .ref p, rfl, .ref a, rfl, .ref W, rfl, 1, rfl, W, _, _, .int z, rfl, rfl, lstNew eW5, (by rw [List.map_append]; exact atI_last _ _), a, z, (n : Int), ps, rfl, hTT5, by omega, hP, fun H6 D s6 nD eD => ?_⟩
      have bl := behind_len ps z
      refine ⟨D, rfl, ⟨_, lstNew eD⟩, fun D2 nD2 => ?_⟩
      refine lc_filtL (f := fun y => decide (y ∈ us.map (·.1))) (lstNew eD) (by omega) nD2 (fun y hy H' s' A B h => ?_) (fun y H' Q h => ⟨.int y, rfl, h⟩) fun H7 s7 eD7 => ?_
      · refine ⟨.int y, rfl, .ref d, rfl, d, _, rfl, DGet.k (k := Sum.inl y) ((s6.trans s') _ _ ed5), _, rfl, ?_⟩
        rw [any_key off]; exact h H' (Same.refl H')
      · have s57 := s6.trans s7
        have hp7 := pail_same hp5 s57
        have fl := List.length_filter_le (fun y => decide (y ∈ us.map (·.1))) (behindOf ps z)
        have hD2p : D2 ≠ p := pail_ne (pail_same hp5 s6) nD2
        obtain ⟨y2, hy2, ky2⟩ := onto z wd.key
        have pos : 0 < ((behindOf ps z).filter fun y => decide (y ∈ us.map (·.1))).length := List.length_pos_of_mem (List.mem_filter.mpr ⟨(mem_behind hP).mpr hy2, decide_eq_true ky2⟩)
        refine ⟨p, D2, t5, _, rfl, hp7, by omega, lstNew eD7, hD2p, by rw [List.length_map]; exact pos, by rw [List.length_map]; omega, fun j v t8 H8 gv ht8 hp8 b8 => ?_⟩
        obtain ⟨y, gy, rfl⟩ := map_at gv
        obtain ⟨h1, h2⟩ := List.mem_filter.mp (List.mem_of_getElem? gy)
        have e1 := (mem_behind hP).mp h1
        have e2 : y ∈ us.map (·.1) := of_decide_eq_true h2
        have eW8 := b8 _ _ (s57 _ _ eW5) hWp
        have ed8 := b8 _ _ (s57 _ _ ed5) hdp
        have b08 := (b5.trans (But.of s57)).trans b8
        refine ⟨W, _, _, rfl, rfl, eW8, by rw [List.length_map, List.length_append, lw]; exact few1 (by simp only [List.length_cons, List.length_nil]; omega), ?_⟩
        refine ⟨ws ++ [z], y, t8, _, _, rfl, fun b o e ne => by rw [upd_ne (ne_of_none e nWH)]; exact b08 b o e ne, pail_set hp8 hWp, by omega, ?_, ?_, wd.add hz e1 e2, by rw [List.length_append, lw]; rfl⟩
        · rw [upd_ne (ne_of ed8 eW8 (by intro z; cases z))]; exact ed8
        · rw [upd_same]; simp
    · rintro σ H5 ⟨ws, z, t5, y6, y7, rfl, b5, hp5, ht5, ed5, eW5, wd, lw⟩
      have lw1 : ws ≠ [] := fun e => by rw [e] at lw; have : (0 : Nat) = (1 + r).toNat := lw; omega
      have lw2 : ws.length ≤ m := by omega
      obtain ⟨dz, hdz, vz⟩ := off.val wd.key
      have ldz := off.lev _ hdz
      have lus := off.len
      refine ⟨fun k σ H' => ∃ (ws : List Int) (z : Int) (y6 y7 : Option V), σ = [some (.ref p), some (.ref a), some (.int x), some (.int (m : Int)), some (.ref d), some (.ref W), y6, y7] ∧ But p H H' ∧ PailAt H' p t5 ∧ H' d = some (.dK (us.map kO)) ∧ H' W = some (.lst ((ws ++ [z]).map V.int)) ∧ Wd (n : Int) ps x us ws z ∧ ws ≠ [] ∧ (z, k) ∈ us ∧ ws.length + k ≤ m + 8,
        ⟨dz, ws, z, y6, y7, rfl, b5, hp5, ed5, eW5, wd, lw1, hdz, by have : dz < us.length := ldz; omega⟩, ?_⟩
      rintro k σ H6 ⟨ws, z, y6, y7, rfl, b6, hp6, ed6, eW6, wd, lw1, hk, lwk⟩
      have hz := kin z wd.key
      have vz := valO_at off.nd hk
      have atz : atI ((ws ++ [z]).map V.int) (-1) = some (.int z) := by rw [List.map_append]; exact atI_last _ _
      refine ⟨.ref W, rfl, 1, rfl, W, _, _, .int z, rfl, rfl, lstNew eW6, atz, .int x, rfl, rfl, _, rfl, ?_⟩
      rw [decV]
      by_cases hzx : z = x
      · rw [decide_eq_true hzx]
        refine iteF ?_
        subst hzx
        refine ⟨.ref W, rfl, 1, rfl, _, rfl, W, _, rfl, lstNew eW6, fun S nS => ?_⟩
        rw [show (ws ++ [z]).map V.int = ws.map V.int ++ [.int z] by rw [List.map_append]; rfl, cut_end]
        have sS := same_upd (o := .lst (ws.map V.int)) nS
        refine .inl ⟨S, _, rfl, lstNew upd_same, fun u nu => ?_⟩
        have su := same_upd (o := .tup (ws.map V.int)) nu
        exact q _ u ws t5 (by omega) (pail_same hp6 (sS.trans su)) (b6.trans (But.of (sS.trans su))) (tupNew upd_same) wd.loop lw1 (by omega) wd.inn
      · rw [decide_eq_false hzx]
        refine iteT ?_
        -- one step nearer
        obtain ⟨v, hv, ek, ev⟩ : ∃ v ∈ us, k = v.2 + 1 ∧ [z, v.1] ∈ ps := by
          rcases off.back _ hk with ⟨e, _⟩ | z'
          · exact absurd e hzx
          · exact z'
        have hTT6 := tups_pail hp b6 hTT
        refine ⟨fun σ H' => ∃ (ws : List Int) (z : Int) (y6 y7 : Option V), σ = [some (.ref p), some (.ref a), some (.int x), some (.int (m : Int)), some (.ref d), some (.ref W), y6, y7] ∧ But p H H' ∧ PailAt H' p t5 ∧ H' d = some (.dK (us.map kO)) ∧ H' W = some (.lst ((ws ++ [z]).map V.int)) ∧ Wd (n : Int) ps x us ws z ∧ ws ≠ [] ∧ (z, v.2) ∈ us ∧ ws.length + v.2 ≤ m + 8, fun σ' H' z => ⟨v.2, by omega, z⟩, ?_⟩
        refine ⟨.ref W, rfl, .inl ⟨rfl, _, lstNew eW6⟩, .ref a, rfl, .ref W, rfl, 1, rfl, W, _, _, .int z, rfl, rfl, lstNew eW6, atz, a, z, (n : Int), ps, rfl, hTT6, by omega, hP, fun H7 D s7 nD eD => ?_⟩
        have bl := behind_len ps z
        refine ⟨D, rfl, ⟨_, lstNew eD⟩, fun D2 nD2 => ?_⟩
        refine lc_filtL (f := fun y => decide ((y, v.2) ∈ us)) (lstNew eD) (by omega) nD2 (fun y hy H' s' A B h => ?_) (fun y H' Q h => ⟨.int y, rfl, h⟩) fun H8 s8 eD8 => ?_
        · have ed' := (s7.trans s') _ _ ed6
          have eW' := (s7.trans s') _ _ eW6
          have gz : DGet H' d (kV (Sum.inl z)) (some (.int ((k : Nat) : Int))) := by rw [← vz]; exact DGet.k (k := Sum.inl z) ed'
          refine ⟨.ref d, rfl, d, rfl, .inl ⟨_, .inl ed'⟩, .int y, rfl, _, DGet.k (k := Sum.inl y) ed', ?_⟩
          cases ey : valV (us.map kO) (Sum.inl y) with
          | none =>
            refine ⟨.ref d, rfl, .ref W, rfl, 1, rfl, W, _, _, .int z, rfl, rfl, lstNew eW', atz, d, _, rfl, gz, _, _, rfl, rfl, rfl, _, rfl, ?_⟩
            have h := h H' (Same.refl H')
            rw [if_neg (fun z => valO_not ey (List.mem_map_of_mem (f := (·.1)) (of_decide_eq_true z)))] at h
            show if decide (V.int 99 = V.int ((k : Int) - 1)) = true then _ else _
            rw [decV, decide_eq_false (by omega)]
            exact h
          | some vy =>
            obtain ⟨dy, hdy, vy'⟩ := off.val (valO_in ey)
            rw [ey] at vy'
            cases vy'
            refine ⟨.ref d, rfl, .ref W, rfl, 1, rfl, W, _, _, .int z, rfl, rfl, lstNew eW', atz, d, _, rfl, gz, _, _, rfl, rfl, rfl, _, rfl, ?_⟩
            have h := h H' (Same.refl H')
            show if decide (V.int (dy : Int) = V.int ((k : Int) - 1)) = true then _ else _
            rw [decV]
            have e2 : decide ((dy : Int) = (k : Int) - 1) = decide ((y, v.2) ∈ us) := by
              refine decide_eq_decide.mpr ⟨fun e => ?_, fun e => ?_⟩
              · rw [show v.2 = dy by omega]; exact hdy
              · have := off.fn hdy e; omega
            rw [e2]; exact h
        · have s68 := s7.trans s8
          have vm : v.1 ∈ (behindOf ps z).filter fun y => decide ((y, v.2) ∈ us) := List.mem_filter.mpr ⟨(mem_behind hP).mpr ev, decide_eq_true hv⟩
          have fl := List.length_filter_le (fun y => decide ((y, v.2) ∈ us)) (behindOf ps z)
          generalize ef : ((behindOf ps z).filter fun y => decide ((y, v.2) ∈ us)) = fs at vm fl eD8
          cases fs with
          | nil => exact absurd vm List.not_mem_nil
          | cons y ys =>
            have hy : y ∈ (behindOf ps z).filter fun y => decide ((y, v.2) ∈ us) := by rw [ef]; exact List.mem_cons_self ..
            obtain ⟨h1, h2⟩ := List.mem_filter.mp hy
            have e1 := (mem_behind hP).mp h1
            have e2 : (y, v.2) ∈ us := of_decide_eq_true h2
            have eW8 := s68 _ _ eW6
            have ed8 := s68 _ _ ed6
            refine ⟨D2, _, 0, .int y, rfl, rfl, lstNew eD8, atI_nat (j := 0) rfl, W, _, _, rfl, rfl, eW8, by rw [List.length_map, List.length_append]; exact few1 (by simp only [List.length_cons, List.length_nil]; omega), ?_⟩
            refine ⟨ws ++ [z], y, _, _, rfl, fun b o e ne => by rw [upd_ne (ne_of_none e nWH)]; exact b6.trans (But.of s68) b o e ne, pail_set (pail_same hp6 s68) hWp, ?_, ?_, wd.add hz e1 (List.mem_map_of_mem (f := (·.1)) e2), by simp, e2, by rw [List.length_append]; simp only [List.length_cons, List.length_nil]; omega⟩
            · rw [upd_ne (ne_of ed8 eW8 (by intro z; cases z))]; exact ed8
            · rw [upd_same]; simp
end
end K6
set_option maxHeartbeats 4000000
namespace K6
open PySem PySem.Spec PyProof.Rows L2 RV
theorem Lot.but {K : PySem.W.Frag} {H H' : Hp} {p D : Addr} {t : Nat} {rs : List (Int × List Int)} (h : Lot K H D rs) (hp : PailAt H p t) (b : But p H H') (n : D ≠ p) : Lot K H' D rs :=
  let ⟨js, h1, h2, h3⟩ := h.ex; ⟨js, h1, b _ _ h2 n, fun k hk => ⟨sqT_pail hp b (h3 k hk).1, sqT_pail hp b (h3 k hk).2⟩⟩
theorem Lot.more {K : PySem.W.Frag} {H' : Hp} {D : Addr} {rs : List (Int × List Int)} {js : List Rk} {acc : List V} (h : Lot K H' D rs) (e : H' D = some (.lst acc)) (hj : ∀ j ∈ js, RunOk K H' j) : Lot K (upd H' D (.lst (acc ++ js.map fun k => V.ref k.1))) D (rs ++ js.map valR) := by
  obtain ⟨ks, h1, h2, h3⟩ := h.ex
  rw [h2] at e
  cases e
  refine ⟨ks ++ js, by rw [List.map_append, h1], by rw [upd_same, List.map_append], fun k hk => ?_⟩
  rcases List.mem_append.mp hk with z | z
  · exact (h3 k z).setL h2
  · exact (hj k z).setL h2
/-- runs that go round by steps from the mark x -/
structure Lr (n : Int) (ps : List (List Int)) (x : Int) (rs : List (Int × List Int)) : Prop where
  rn : Rn rs
  wo : ∀ r ∈ rs, r.2.length ≤ 14
  ti : ∀ r ∈ rs, r.1 ≤ 10 ^ 27
  inn : ∀ r ∈ rs, ∀ y ∈ r.2, 0 ≤ y ∧ y < n
  loop : Loop ps x (mk rs)
theorem Lr.nil (n : Int) (ps : List (List Int)) (x : Int) : Lr n ps x [] := ⟨(fun _ h => nomatch h), (fun _ h => nomatch h), (fun _ h => nomatch h), (fun _ h => nomatch h), Loop.nil ps x⟩
theorem Lr.add {n : Int} {ps : List (List Int)} {x : Int} {rs qs : List (Int × List Int)} (h : Lr n ps x rs) (rn : Rn qs) (wo : ∀ r ∈ qs, r.2.length ≤ 14) (ti : ∀ r ∈ qs, r.1 ≤ 10 ^ 27) (inn : ∀ r ∈ qs, ∀ y ∈ r.2, 0 ≤ y ∧ y < n) (lo : Loop ps x (RV.mk qs)) : Lr n ps x (rs ++ qs) := by
  have both : ∀ {P : Int × List Int → Prop}, (∀ r ∈ rs, P r) → (∀ r ∈ qs, P r) → ∀ r ∈ rs ++ qs, P r := fun h1 h2 r hr => (List.mem_append.mp hr).elim (h1 r) (h2 r)
  exact ⟨both h.rn rn, both h.wo wo, both h.ti ti, both h.inn inn, by rw [mk_app]; exact h.loop.app lo⟩
section
variable {P : Program} {w : World} {K : PySem.W.Frag} {mg : Str → Option Value} {base : Heap}
/-! ### _law_runs -/
abbrev nRuns : List Str := ["_law_pail_here", "_law_steps_here", "_law_start", "_law_few", "_law_found", "_law_turn", "_law_word", "_law_far", "_law_times", "_law_cut"]
theorem scRuns : FnScope nRuns ["_law_pail_here", "_law_steps_here", "_law_start", "_law_few"] (defScope sRuns) := ⟨rfl, rfl, rfl, by decide +kernel, rfl, by decide +kernel, by decide +kernel⟩
def spRuns (K : PySem.W.Frag) : Sp := fun vs H Q _ => ∃ (p a : Addr) (t f n : Nat) (x : Int) (ps : List (List Int)), vs = [.ref p, .ref a, .int x, .int (f : Int)] ∧ PailAt H p t ∧ t ≤ 1200 ∧ Tups K H a ps ∧ (∀ p ∈ ps, Pr (n : Int) p) ∧ n ≤ 8 ∧ ps.length ≤ 64 ∧ Beg n ps x ∧ 1 ≤ f ∧ f ≤ 4 ∧
  ∀ (H' : Hp) (T : Addr) (rs : List (Int × List Int)) (t' : Nat), t' ≤ t + 150 → PailAt H' p t' → But p H H' → RingAt K H' T rs → Lr (n : Int) ps x rs → rs ≠ [] → rs.length ≤ 12 → Q (.ref T) H'
theorem ok_runs {f fC fO fB fD fF : Addr} {fd dC dO dB dD dF : FuncData} (F : Fun K "_law_runs" "_law_runs" sRuns f fd) (B : Bare mg) (DC : DefAt K mg "_law_closed" sClosed ["_law_pail_here", "_law_steps_here", "_law_start", "_law_most"] fC dC)
    (DO : DefAt K mg "_law_off" sLOff ["_law_steps_here", "_law_goal"] fO dO) (DB : DefAt K mg "_law_behind" sLBehind ["_law_steps_here", "_law_mark"] fB dB)
    (DD : DefAt K mg "_law_draw" sDraw ["_law_pail_here", "_law_many"] fD dD) (DF : DefAt K mg "_law_of" sOf ["_law_pail_here", "_law_some"] fF dF) :
    FnOk P w K mg base CX0 4 f fd ["_law_pail_here", "_law_steps_here", "_law_start", "_law_few"] (spRuns K) := by
  have GC : FnOk P w K mg base CX0 3 fC dC ["_law_pail_here", "_law_steps_here", "_law_start", "_law_most"] (spClosed K) := ok_closed DC.fn B DO DB DD DF
  have GD : FnOk P w K mg base CX0 1 fD dD ["_law_pail_here", "_law_many"] spDraw := ok_draw DD.fn
  refine F.ok scRuns (fun vs H Q E h => ?_) (fun cdv A outer s H vs Q E hr h => ?_)
  · obtain ⟨p, a, t, f, n, x, ps, rfl, _⟩ := h
    rfl
  · obtain ⟨p, a, t, f, n, x, ps, rfl, hp, ht, hTT, hP, n8, hl, hB, f1, f4, q⟩ := h
    have r1 := hr.mono (show 1 ≤ 3 by decide)
    have two : (2 : Nat) ≤ sizeLine := by decide
    have three : (3 : Nat) ≤ sizeLine := by decide
    refine ⟨_, pss_cons (ps_set (i := 4) scRuns.nd rfl (Or.inl rfl) (pe_lst pa_nil))
      (pss_cons (ps_for PassesOwn.never rfl (pi_range1 (by rfl) B.range (pa_cons (pe_op op_add pe_int (pe_call GD r1 (by rfl) DD.mg DD.fn.kp DD.bi .nil pass0 (pa_cons (pv 0) (pa_cons (pv 3) pa_nil)))) pa_nil)) (pg_name (i := 5) scRuns.nd rfl (Or.inl rfl))
        (pss_cons (ps_set (i := 6) scRuns.nd rfl (Or.inl rfl) (pe_call GC hr (by rfl) DC.mg DC.fn.kp DC.bi .nil pass0 (pa_cons (pv 0) (pa_cons (pv 1) (pa_cons (pv 2) (pa_cons pe_int pa_nil))))))
        (pss_cons (ps_par (i := 3) (j := 7) (by rfl) scRuns.nd rfl rfl (by decide) rfl rfl (pa_cons (pe_op op_add pe_int (pe_call GD r1 (by rfl) DD.mg DD.fn.kp DD.bi .nil pass0 (pa_cons (pv 0) (pa_cons pe_int pa_nil))))
            (pa_cons (pe_op op_add (pe_op op_mul (pe_call GD r1 (by rfl) DD.mg DD.fn.kp DD.bi .nil pass0 (pa_cons (pv 0) (pa_cons (pe_op op_pow pe_int pe_int) pa_nil))) (pe_op op_pow pe_int pe_int)) (pe_call GD r1 (by rfl) DD.mg DD.fn.kp DD.bi .nil pass0 (pa_cons (pv 0) (pa_cons (pe_op op_pow pe_int pe_int) pa_nil)))) pa_nil)) (by rfl))
        (pss_cons (ps_set (i := 8) scRuns.nd rfl (Or.inl rfl) (pe_ix ix_list (pe_lst (pa_cons pe_int (pa_cons (pv 3) (pa_cons (pe_op op_add pe_int (pv 7)) pa_nil)))) (pe_call GD r1 (by rfl) DD.mg DD.fn.kp DD.bi .nil pass0 (pa_cons (pv 0) (pa_cons pe_int pa_nil))) (fun _ _ => rfl)))
        (pss_cons (ps_set (i := 9) scRuns.nd rfl (Or.inl rfl) (pe_call GD r1 (by rfl) DD.mg DD.fn.kp DD.bi .nil pass0 (pa_cons (pv 0) (pa_cons (pe_op op_mul pe_int (pe_callB call_len_seq (by rfl) B.len PySem.boot_len (pa_cons (pv 6) pa_nil))) pa_nil))))
        (pss_one (ps_if (PW.pt (pw_and (pt_chain op_lt op_lt pe_int (pv 9) (pe_callB call_len_seq (by rfl) B.len PySem.boot_len (pa_cons (pv 6) pa_nil))) (pw_and1 (pt_cmpR op_gt (pv 8) pe_int (nomark _)))))
          (pss_one (ps_expr (pe_bm PySem.F.plainAttrs_list PySem.F.slot_list_extend PySem.F.type_list_extend mt_extend (pv 4) (pa_cons (pe_lst (pa_cons (pe_tup (pa_cons (pe_op op_sub (pv 8) pe_int) (pa_cons (pv 6) pa_nil)))
            (pa_cons (pe_tup (pa_cons pe_int (pa_cons (pe_slice sl_tupW (pv 6) po_none (po_some (pv 9))) pa_nil))) (pa_cons (pe_tup (pa_cons pe_int (pa_cons (pe_slice sl_tupW (pv 6) (po_some (pv 9)) po_none) pa_nil))) pa_nil)))) pa_nil))))
          (pss_one (ps_expr (pe_bm PySem.F.plainAttrs_list PySem.F.slot_list_append PySem.F.type_list_append mt_append (pv 4) (pa_cons (pe_tup (pa_cons (pv 8) (pa_cons (pv 6) pa_nil))) pa_nil)))))))))))
      (pss_one (ps_ret (pe_tupleOf (by rfl) B.tuple (pv 4))))), ?_⟩
    refine ⟨Nat.zero_le _, fun D nD => ?_⟩
    have hDp : D ≠ p := pail_ne hp nD
    have hp1 : PailAt (upd H D (.lst [])) p t := pail_new hp nD
    refine ⟨.ref p, rfl, .int (f : Int), rfl, p, t, (f : Int), rfl, hp1, by omega, by omega, by omega, fun r t2 H2 r0 r1' ht2 hp2 b2 => ?_⟩
    refine ⟨_, _, rfl, rfl, (1 + r), rfl, by omega, by omega, ?_⟩
    have b02 : But p H H2 := (But.of (same_upd nD)).trans b2
    have lot2 : Lot K H2 D [] := Lot.nil.but hp1 b2 hDp
    refine for_range (lo := 0) (n := (1 + r).toNat) (fun i σ H' => ∃ (rs : List (Int × List Int)) (t' : Nat) (y3 y5 y6 y7 y8 y9 : Option V), σ = [some (.ref p), some (.ref a), some (.int x), y3, some (.ref D), y5, y6, y7, y8, y9] ∧ But p H H' ∧ PailAt H' p t' ∧ t' ≤ t2 + 30 * i ∧ Lot K H' D rs ∧ Lr (n : Int) ps x rs ∧ i ≤ rs.length ∧ rs.length ≤ 3 * i)
      ⟨[], t2, _, none, none, none, none, none, rfl, b02, hp2, Nat.le_refl _, lot2, Lr.nil _ _ _, Nat.le_refl _, Nat.le_refl _⟩ ?_ ?_
    · rintro i σ H3 hi ⟨rs, t3, y3, y5, y6, y7, y8, y9, rfl, b3, hp3, ht3, lot3, lr, l1, l3⟩
      have hi4 : i < 4 := by omega
      -- word
      refine ⟨.ref p, rfl, .ref a, rfl, .int x, rfl, p, a, t3, 6, n, x, ps, rfl, hp3, by omega, tups_pail hp b3 hTT, hP, n8, hl, hB, by decide, by decide, fun H4 T ws t4 ht4 hp4 b4 hT4 lo ne lw inn => ?_⟩
      have lot4 := lot3.but hp3 b4 hDp
      have b04 := b3.trans b4
      have wpos : 0 < ws.length := List.length_pos_iff.mpr ne
      clear b3 hp3 lot3 b4
      -- few, far
      refine ⟨.ref p, rfl, p, t4, 9, rfl, hp4, by omega, by decide, by decide, fun a5 t5 H5 a50 a51 ht5 hp5 b5 => ⟨_, _, rfl, rfl, ?_⟩⟩
      have lot5 := lot4.but hp4 b5 hDp
      have hT5 := sqT_pail hp4 b5 hT4
      have b05 := b04.trans b5
      clear lot4 hT4 b04 b5 hp4
      refine ⟨.ref p, rfl, 10, 6, rfl, rfl, ⟨by decide, by decide, by decide⟩, p, t5, _, rfl, hp5, by omega, by decide, by decide, fun a6 t6 H6 a60 a61 ht6 hp6 b6 => ?_⟩
      have lot6 := lot5.but hp5 b6 hDp
      have hT6 := sqT_pail hp5 b6 hT5
      have b06 := b05.trans b6
      clear lot5 hT5 b05 b6 hp5
      have a61' : a6 < 1000000 := a61
      refine ⟨10, 20, rfl, rfl, ⟨by decide, by decide, by decide⟩, _, _, rfl, rfl, .inl ⟨by omega, by omega⟩, ?_⟩
      refine ⟨.ref p, rfl, 10, 6, rfl, rfl, ⟨by decide, by decide, by decide⟩, p, t6, _, rfl, hp6, by omega, by decide, by decide, fun a7 t7 H7 a70 a71 ht7 hp7 b7 => ?_⟩
      have lot7 := lot6.but hp6 b7 hDp
      have hT7 := sqT_pail hp6 b7 hT6
      have b07 := b06.trans b7
      clear lot6 hT6 b06 b7 hp6
      have a71' : a7 < 1000000 := a71
      refine ⟨_, _, rfl, rfl, _, _, rfl, ?_⟩
      -- times
      have far0 : 0 ≤ a6 * (10 : Int) ^ (20 : Int).toNat + a7 := by
        have : 0 ≤ a6 * (10 : Int) ^ (20 : Int).toNat := Int.mul_nonneg a60 (by decide)
        omega
      have far1 : 1 + (a6 * (10 : Int) ^ (20 : Int).toNat + a7) ≤ 10 ^ 27 := by
        have : a6 * (10 : Int) ^ (20 : Int).toNat ≤ 1000000 * (10 : Int) ^ (20 : Int).toNat := Int.mul_le_mul_of_nonneg_right (by omega) (by decide)
        have e : 1000000 * (10 : Int) ^ (20 : Int).toNat + 1000001 ≤ 10 ^ 27 := by decide
        omega
      dsimp only
      generalize a6 * (10 : Int) ^ (20 : Int).toNat + a7 = far at far0 far1
      refine ⟨.int (1 + a5), rfl, .int far, rfl, _, _, rfl, rfl, three, fun L nL => ?_⟩
      have sL := same_upd (o := .lst [.int 1, .int (1 + a5), .int (1 + far)]) nL
      have hLp : L ≠ p := pail_ne hp7 nL
      have eL := upd_same (H := H7) (a := L) (o := .lst [.int 1, .int (1 + a5), .int (1 + far)])
      have hp8 := pail_same hp7 sL
      have lot8 := lot7.same sL
      have hT8 := sqT_same sL hT7
      have b08 := b07.trans (But.of (p := p) sL)
      generalize upd H7 L (.lst [.int 1, .int (1 + a5), .int (1 + far)]) = H8 at eL hp8 lot8 hT8 b08 ⊢
      clear lot7 hT7 b07 hp7 sL nL
      refine ⟨.ref p, rfl, p, t7, 3, rfl, hp8, by omega, by decide, by decide, fun a9 t9 H9 a90 a91 ht9 hp9 b9 => ?_⟩
      have eL9 := b9 _ _ eL hLp
      have lot9 := lot8.but hp8 b9 hDp
      have hT9 := sqT_pail hp8 b9 hT8
      have b09 := b08.trans b9
      obtain ⟨tm, etm, tm1, tm2⟩ : ∃ tm : Int, atI [V.int 1, .int (1 + a5), .int (1 + far)] a9 = some (.int tm) ∧ 1 ≤ tm ∧ tm ≤ 10 ^ 27 := by
        rcases (show a9 = 0 ∨ a9 = 1 ∨ a9 = 2 by omega) with rfl | rfl | rfl
        · exact ⟨1, rfl, by decide, by decide⟩
        · exact ⟨1 + a5, rfl, by omega, by omega⟩
        · exact ⟨1 + far, rfl, by omega, far1⟩
      refine ⟨L, _, a9, .int tm, rfl, rfl, lstNew eL9, etm, ?_⟩
      -- cut
      refine ⟨.ref p, rfl, .ref T, rfl, T, _, rfl, .inr hT9, _, _, rfl, rfl, .inl ⟨by decide, by decide⟩, p, t9, _, rfl, hp9, by omega, by rw [List.length_map]; omega, by rw [List.length_map]; omega, fun c tA HA c0 c1 htA hpA bA => ?_⟩
      have lotA := lot9.but hp9 bA hDp
      have hTA := sqT_pail hp9 bA hT9
      have b0A := b09.trans bA
      clear eL9 eL lot8 lot9 hT8 hT9 b08 b09 hp8 hp9
      obtain ⟨acc, ea, la⟩ := lotA.list
      have nDH : ∀ (o : HO) (H' : Hp), But p H H' → But p H (upd H' D o) := fun o H' b k u e ne => by rw [upd_ne (ne_of_none e nD)]; exact b k u e ne
      have one : ∀ H', Same HA H' → ∀ Tx : Addr, H' Tx = some (.tup [.int tm, .ref T]) → RunOk K H' (Tx, T, tm, ws) := fun H' s' Tx e => ⟨tupNew e, sqT_same s' hTA⟩
      have app1 : Lr (n : Int) ps x (rs ++ [(tm, ws)]) := lr.add (fun r hr => by rw [List.mem_singleton.mp hr]; exact ⟨tm1, ne⟩) (fun r hr => by rw [List.mem_singleton.mp hr]; exact lw) (fun r hr => by rw [List.mem_singleton.mp hr]; exact tm2) (fun r hr => by rw [List.mem_singleton.mp hr]; exact inn) (by rw [mk_one]; exact lo.rp _)
      have fin1 : ∀ Tx, HA Tx = none → ∃ (rs' : List (Int × List Int)) (t' : Nat) (z3 z5 z6 z7 z8 z9 : Option V), [some (.ref p), some (.ref a), some (.int x), some (.int (1 + a5)), some (.ref D), some (V.int (0 + (i : Nat))), some (.ref T), some (.int far), some (.int tm), some (.int c)] = [some (.ref p), some (.ref a), some (.int x), z3, some (.ref D), z5, z6, z7, z8, z9] ∧
          But p H (upd (upd HA Tx (.tup [.int tm, .ref T])) D (.lst (acc ++ [.ref Tx]))) ∧ PailAt (upd (upd HA Tx (.tup [.int tm, .ref T])) D (.lst (acc ++ [.ref Tx]))) p t' ∧ t' ≤ t2 + 30 * (i + 1) ∧ Lot K (upd (upd HA Tx (.tup [.int tm, .ref T])) D (.lst (acc ++ [.ref Tx]))) D rs' ∧ Lr (n : Int) ps x rs' ∧ i + 1 ≤ rs'.length ∧ rs'.length ≤ 3 * (i + 1) := fun Tx nTx => by
        have s' := same_upd (o := .tup [.int tm, .ref T]) nTx
        refine ⟨rs ++ [(tm, ws)], tA, _, _, _, _, _, _, rfl, nDH _ _ (b0A.trans (But.of s')), pail_set (pail_same hpA s') hDp, by omega, (lotA.same s').add (j := (Tx, T, tm, ws)) (s' _ _ ea) (one _ s' Tx upd_same), app1, ?_, ?_⟩
        · rw [List.length_append]; simp only [List.length_cons, List.length_nil]; omega
        · rw [List.length_append]; simp only [List.length_cons, List.length_nil]; omega
      refine ⟨.int c, rfl, 0, c, rfl, rfl, _, rfl, ite2 (fun hc0 => ?_) (fun _ => ?_)⟩
      · refine ⟨.ref T, rfl, T, _, rfl, .inr hTA, _, _, rfl, rfl, _, rfl, ite2 (fun hc1 => ?_) (fun _ => ?_)⟩
        · refine ⟨.int tm, rfl, _, _, rfl, rfl, _, rfl, ite2 (fun ht1 => ?_) (fun _ => ?_)⟩
          · have hc0 : 0 < c := of_decide_eq_true hc0
            have hc1 := of_decide_eq_true hc1
            have ht1 : tm > 1 := of_decide_eq_true ht1
            rw [List.length_map] at hc1
            obtain ⟨cn, rfl⟩ : ∃ cn : Nat, c = (cn : Int) := ⟨c.toNat, by omega⟩
            refine ⟨.ref D, rfl, .inl ⟨rfl, _, lstNew ea⟩, .int tm, rfl, _, _, rfl, rfl, .ref T, rfl, two, fun T1 nT1 => ?_⟩
            have s1 := same_upd (o := .tup [.int (tm - 1), .ref T]) nT1
            refine ⟨.ref T, rfl, .int (cn : Int), rfl, _, rfl, T, _, rfl, sqT_same s1 hTA, fun w2 H2' s2 h2 => ?_⟩
            rw [cut_to, ← List.map_take] at h2
            refine ⟨two, fun T3 nT3 => ?_⟩
            have s3 := same_upd (o := .tup [.int 1, .ref w2]) nT3
            refine ⟨.ref T, rfl, .int (cn : Int), rfl, _, rfl, T, _, rfl, sqT_same ((s1.trans s2).trans s3) hTA, fun w4 H4' s4 h4 => ?_⟩
            rw [cut_from, ← List.map_drop] at h4
            refine ⟨two, fun T5 nT5 => ⟨three, fun M nM => ?_⟩⟩
            have s5 := same_upd (o := .tup [.int 1, .ref w4]) nT5
            have s6 := same_upd (o := .lst [.ref T1, .ref T3, .ref T5]) nM
            have k1 : RunOk K (upd (upd H4' T5 (.tup [.int 1, .ref w4])) M (.lst [.ref T1, .ref T3, .ref T5])) (T1, T, tm - 1, ws) := ⟨tupNew (((((s2.trans s3).trans s4).trans s5).trans s6) _ _ upd_same), sqT_same (((((s1.trans s2).trans s3).trans s4).trans s5).trans s6) hTA⟩
            have k3 : RunOk K (upd (upd H4' T5 (.tup [.int 1, .ref w4])) M (.lst [.ref T1, .ref T3, .ref T5])) (T3, w2, 1, ws.take cn) := ⟨tupNew (((s4.trans s5).trans s6) _ _ upd_same), sqT_same (((s3.trans s4).trans s5).trans s6) h2⟩
            have k5 : RunOk K (upd (upd H4' T5 (.tup [.int 1, .ref w4])) M (.lst [.ref T1, .ref T3, .ref T5])) (T5, w4, 1, ws.drop cn) := ⟨tupNew (s6 _ _ upd_same), sqT_same (s5.trans s6) h4⟩
            have eM : (upd (upd H4' T5 (.tup [.int 1, .ref w4])) M (.lst [.ref T1, .ref T3, .ref T5])) M = some (.lst [.ref T1, .ref T3, .ref T5]) := upd_same
            have sAM := ((((s1.trans s2).trans s3).trans s4).trans s5).trans s6
            generalize upd (upd H4' T5 (.tup [.int 1, .ref w4])) M (.lst [.ref T1, .ref T3, .ref T5]) = HM at k1 k3 k5 eM sAM ⊢
            have eaM := sAM _ _ ea
            refine ⟨D, M, _, _, rfl, rfl, eaM, eM, by rw [la]; exact Nat.le_of_lt (few1 (by simp only [List.length_cons, List.length_nil]; omega)), ?_⟩
            have lotM := (lotA.same sAM).more (js := [(T1, T, tm - 1, ws), (T3, w2, 1, ws.take cn), (T5, w4, 1, ws.drop cn)]) eaM (fun j hj => by
              simp only [List.mem_cons, List.not_mem_nil, or_false] at hj
              rcases hj with rfl | rfl | rfl
              · exact k1
              · exact k3
              · exact k5)
            have t0 : 0 < (ws.take cn).length := by rw [List.length_take]; omega
            have d0 : 0 < (ws.drop cn).length := by rw [List.length_drop]; omega
            refine ⟨rs ++ [(tm - 1, ws), (1, ws.take cn), (1, ws.drop cn)], tA, _, _, _, _, _, _, rfl, nDH _ _ (b0A.trans (But.of sAM)), pail_set (pail_same hpA sAM) hDp, by omega, lotM, lr.add (fun r hr => ?_) (fun r hr => ?_) (fun r hr => ?_) (fun r hr => ?_) ?_, ?_, ?_⟩
            · simp only [List.mem_cons, List.not_mem_nil, or_false] at hr
              rcases hr with rfl | rfl | rfl
              · exact ⟨by show 1 ≤ tm - 1; omega, ne⟩
              · exact ⟨Int.le_refl _, List.length_pos_iff.mp t0⟩
              · exact ⟨Int.le_refl _, List.length_pos_iff.mp d0⟩
            · simp only [List.mem_cons, List.not_mem_nil, or_false] at hr
              rcases hr with rfl | rfl | rfl
              · exact lw
              · show (ws.take cn).length ≤ 14; rw [List.length_take]; omega
              · show (ws.drop cn).length ≤ 14; rw [List.length_drop]; omega
            · simp only [List.mem_cons, List.not_mem_nil, or_false] at hr
              rcases hr with rfl | rfl | rfl
              · show tm - 1 ≤ 10 ^ 27; omega
              · show (1 : Int) ≤ 10 ^ 27; decide
              · show (1 : Int) ≤ 10 ^ 27; decide
            · simp only [List.mem_cons, List.not_mem_nil, or_false] at hr
              rcases hr with rfl | rfl | rfl
              · exact inn
              · exact fun y hy => inn y (List.mem_of_mem_take hy)
              · exact fun y hy => inn y (List.mem_of_mem_drop hy)
            · have e : mk [(tm - 1, ws), (1, ws.take cn), (1, ws.drop cn)] = rp (tm - 1).toNat ws ++ ws := by
                show rp (tm - 1).toNat ws ++ (rp (Int.toNat 1) (ws.take cn) ++ (rp (Int.toNat 1) (ws.drop cn) ++ [])) = _
                rw [show Int.toNat 1 = 1 from rfl, rp_one, rp_one, List.append_nil, List.take_append_drop]
              rw [e]
              exact (lo.rp _).app lo
            · rw [List.length_append]; simp only [List.length_cons, List.length_nil]; omega
            · rw [List.length_append]; simp only [List.length_cons, List.length_nil]; omega
          · exact ⟨.ref D, rfl, .inl ⟨rfl, _, lstNew ea⟩, .int tm, rfl, .ref T, rfl, two, fun Tx nTx => ⟨D, _, _, rfl, rfl, same_upd nTx _ _ ea, by rw [la]; exact few1 (by omega), fin1 Tx nTx⟩⟩
        · exact ⟨.ref D, rfl, .inl ⟨rfl, _, lstNew ea⟩, .int tm, rfl, .ref T, rfl, two, fun Tx nTx => ⟨D, _, _, rfl, rfl, same_upd nTx _ _ ea, by rw [la]; exact few1 (by omega), fin1 Tx nTx⟩⟩
      · exact ⟨_, rfl, iteF ⟨.ref D, rfl, .inl ⟨rfl, _, lstNew ea⟩, .int tm, rfl, .ref T, rfl, two, fun Tx nTx => ⟨D, _, _, rfl, rfl, same_upd nTx _ _ ea, by rw [la]; exact few1 (by omega), fin1 Tx nTx⟩⟩⟩
    · rintro σ H3 ⟨rs, t3, y3, y5, y6, y7, y8, y9, rfl, b3, hp3, ht3, lot3, lr, l1, l3⟩
      obtain ⟨acc, ea, la⟩ := lot3.list
      refine ⟨.ref D, rfl, .inl ⟨D, _, rfl, lstNew ea, fun u nu => ?_⟩⟩
      exact q _ u rs t3 (by omega) (pail_new hp3 nu) (b3.trans (But.of (same_upd nu))) (lot3.ring ea nu) lr (fun z => by rw [z] at l1; have : (1 + r).toNat ≤ 0 := l1; omega) (by omega)
end
end K6
namespace RV
open PySem PySem.Spec PyProof.Rows L2
/-! ### what repr asks of rings: runs of marks, times to forty figures -/
theorem log_big {i : Int} (h : i.natAbs < 10 ^ 40) : i.natAbs.log2 < 1920 := by
  rcases Nat.eq_zero_or_pos i.natAbs with e | e
  · rw [e]; decide
  · have h1 : i.natAbs < 2 ^ 133 := Nat.lt_of_lt_of_le h (by decide)
    have h2 : i.natAbs.log2 < 133 := (Nat.log2_lt (by omega)).mpr h1
    omega
theorem len_big {i : Int} (h : i.natAbs < 10 ^ 40) : (PyData.shown (.int i)).length ≤ 41 := by
  have e := int_text_length_le10 (k := 40) (by decide) h
  show (Str.ofString (toString i)).length ≤ 41
  rw [PySem.ofString_length]
  exact e
theorem shows_of {d : PyData} (lay : d.canLay0 = true) (sh : d.showable = true) (si : d.intsShort 41 = true) (dep : d.depth ≤ 64) (bk : d.bulk ≤ 200000) : Shows d := by
  refine ⟨sh, PyData.hasDict_of_canLay _ lay, dep, ?_⟩
  have z := PyData.shown_le_bulk 41 (by decide) d (PyData.leavesShort_of_canLay0 41 _ lay si)
  have z2 : (41 + 2) * d.bulk ≤ 43 * 200000 := Nat.mul_le_mul_left 43 bk
  rw [sizeLine_eq]; omega
theorem show_bigs : ∀ ns : List Int, (∀ n ∈ ns, n.natAbs < 10 ^ 40) → PyData.showableAll (ns.map PyData.int) = true ∧ PyData.intsShortAll 41 (ns.map PyData.int) = true
  | [], _ => ⟨by simp [PyData.showableAll], by simp [PyData.intsShortAll]⟩
  | n :: r, h => by
    have h1 := h n (List.mem_cons_self ..)
    have h2 := show_bigs r fun m hm => h m (List.mem_cons_of_mem _ hm)
    exact ⟨by simp [PyData.showableAll, PyData.showable, log_big h1, h2.1], by simp [PyData.intsShortAll, PyData.intsShort, len_big h1, h2.2]⟩
def dRun (r : Int × List Int) : PyData := .tuple [.int r.1, dI r.2]
def dRg (rs : List (Int × List Int)) : PyData := .tuple (rs.map dRun)
theorem lay_runs : ∀ rs : List (Int × List Int), PyData.canLayAll0 (rs.map dRun) = true
  | [] => by simp [PyData.canLayAll0]
  | r :: rs => by simp [PyData.canLayAll0, dRun, PyData.canLay0, dI_lay, lay_runs rs]
theorem dep_runs : ∀ rs : List (Int × List Int), PyData.depthAll (rs.map dRun) ≤ 2
  | [] => by simp [PyData.depthAll]
  | r :: rs => by
    have h := dep_runs rs
    have h1 : (dRun r).depth = 2 := by simp [dRun, PyData.depth, PyData.depthAll, dI_dep]
    simp only [List.map_cons, PyData.depthAll, h1]; omega
theorem show_runs : ∀ rs : List (Int × List Int), (∀ r ∈ rs, r.1.natAbs < 10 ^ 40 ∧ ∀ n ∈ r.2, n.natAbs < 10 ^ 40) → PyData.showableAll (rs.map dRun) = true ∧ PyData.intsShortAll 41 (rs.map dRun) = true
  | [], _ => ⟨by simp [PyData.showableAll], by simp [PyData.intsShortAll]⟩
  | r :: rs, h => by
    obtain ⟨h1, h2⟩ := h r (List.mem_cons_self ..)
    have h3 := show_runs rs fun q hq => h q (List.mem_cons_of_mem _ hq)
    have h4 := show_bigs r.2 h2
    have a1 : (dI r.2).showable = true := by simp only [dI, PyData.showable]; exact h4.1
    have a2 : (dI r.2).intsShort 41 = true := by simp only [dI, PyData.intsShort]; exact h4.2
    exact ⟨by simp [PyData.showableAll, dRun, PyData.showable, log_big h1, a1, h3.1], by simp [PyData.intsShortAll, dRun, PyData.intsShort, len_big h1, a2, h3.2]⟩
theorem bulk_runs : ∀ (rs : List (Int × List Int)) (k : Nat), (∀ r ∈ rs, r.2.length ≤ k) → PyData.bulkAll (rs.map dRun) ≤ (k + 3) * rs.length
  | [], _, _ => by simp [PyData.bulkAll]
  | r :: rs, k, h => by
    have h1 : (dI r.2).bulk = r.2.length := by simp only [dI, PyData.bulk, bulk_ints]
    have h2 := bulk_runs rs k fun q hq => h q (List.mem_cons_of_mem _ hq)
    have h3 := h r (List.mem_cons_self ..)
    have h4 : (dRun r).bulk ≤ r.2.length + 2 := by simp only [dRun, PyData.bulk, PyData.bulkAll, h1]; omega
    simp only [List.map_cons, PyData.bulkAll, List.length_cons, Nat.mul_succ]; omega
theorem shows_dRg {rs : List (Int × List Int)} (h : ∀ r ∈ rs, r.1.natAbs < 10 ^ 40 ∧ ∀ n ∈ r.2, n.natAbs < 10 ^ 40) (hw : ∀ r ∈ rs, r.2.length ≤ 1000) (hl : rs.length ≤ 100) : Shows (dRg rs) := by
  have h1 := show_runs rs h
  have h2 := dep_runs rs
  have h3 := bulk_runs rs 1000 hw
  have h4 : (1000 + 3) * rs.length ≤ 1003 * 100 := Nat.mul_le_mul_left _ hl
  refine shows_of ?_ ?_ ?_ ?_ ?_
  · simp only [dRg, PyData.canLay0]; exact lay_runs rs
  · simp only [dRg, PyData.showable]; exact h1.1
  · simp only [dRg, PyData.intsShort]; exact h1.2
  · simp only [dRg, PyData.depth]; omega
  · simp only [dRg, PyData.bulk]; omega
end RV
set_option maxHeartbeats 4000000
namespace RV
open PySem PySem.Spec PyProof.Rows L2
/-- [h(x) for x in l], l a list of ints -/
theorem lc_mapL {K : PySem.W.Frag} {te : TE} {h : Int → Int} {σ : L2.St} {H1 : Hp} {a D : Addr} {v : Nat} {ns : List Int} {Qd : Hp → Prop} (hT : SqL K H1 a (ns.map V.int)) (hl : ns.length ≤ 100000) (nD : H1 D = none)
    (hte : ∀ x ∈ ns, ∀ (H' : Hp) (Q : VK), Same H1 H' → (∀ H2, Same H' H2 → Q (.int (h x)) H2) → te ((wipe σ [v]).set v (some (.int x))) H' Q)
    (hd : ∀ H', Same H1 H' → H' D = some (.lst ((ns.map h).map V.int)) → Qd H') :
    ∃ W : Nat → Nat → Hp → Prop, (∃ m, W 0 m (upd H1 D (.lst []))) ∧ ∀ i m H, W i m H →
      ((Itl K a).stop i H ∧ Qd H) ∨ ((Itl K a).go i H ∧ ∃ Nx : Hp → Prop, (∀ H', Nx H' → ∃ m', m' < m ∧ W (i + 1) m' H') ∧ ∀ x H', (Itl K a).yld i H x H' → gName v x (wipe σ [v]) H' fun σ2 H2 => wipe σ2 [v] = wipe σ [v] ∧ tYes σ2 H2 fun b H3 =>
        if b = true then te σ2 H3 fun y H4 => ∃ acc, H4 D = some (.lst acc) ∧ acc.length < sizeLine ∧ Nx (upd H4 D (.lst (acc ++ [y]))) else Nx H3) := by
  refine lc_list (K := K) (a := a) (xs := ns.map V.int) (fun i H' => Same H1 H' ∧ H' D = some (.lst (((ns.take i).map h).map V.int))) ⟨same_upd nD, upd_same⟩ (fun i H' _ p => sqL_same p.1 hT) (fun i x H' hx p => ?_) fun H' p => ?_
  · obtain ⟨k, g, rfl⟩ := map_at hx
    refine ⟨by simp [wipe, List.set_set], tt_yes (hte k (List.mem_of_getElem? g) H' _ p.1 fun H2 s2 => ⟨_, s2 _ _ p.2, ?_, fun b o z => ?_, ?_⟩)⟩
    · rw [List.length_map, List.length_map, List.length_take, sizeLine_eq]; omega
    · rw [upd_ne (ne_of_none z nD)]; exact s2 _ _ (p.1 b o z)
    · rw [upd_same, List.take_add_one, g, List.map_append, List.map_append]; rfl
  · rw [List.length_map, List.take_of_length_le (Nat.le_refl _)] at p
    exact hd H' p.1 p.2
/-- [h(i) for i in range(lo, lo + n)] -/
theorem lc_mapG {te : TE} {h : Int → Int} {σ : L2.St} {H1 : Hp} {D : Addr} {v n : Nat} {lo : Int} {Qd : Hp → Prop} (hl : n ≤ 100000) (nD : H1 D = none)
    (hte : ∀ i, i < n → ∀ (H' : Hp) (Q : VK), Same H1 H' → (∀ H2, Same H' H2 → Q (.int (h (lo + (i : Int)))) H2) → te ((wipe σ [v]).set v (some (.int (lo + (i : Int))))) H' Q)
    (hd : ∀ H', Same H1 H' → H' D = some (.lst (((List.range n).map fun (i : Nat) => h (lo + (i : Int))).map V.int)) → Qd H') :
    ∃ W : Nat → Nat → Hp → Prop, (∃ m, W 0 m (upd H1 D (.lst []))) ∧ ∀ i m H, W i m H →
      ((Itr lo n).stop i H ∧ Qd H) ∨ ((Itr lo n).go i H ∧ ∃ Nx : Hp → Prop, (∀ H', Nx H' → ∃ m', m' < m ∧ W (i + 1) m' H') ∧ ∀ x H', (Itr lo n).yld i H x H' → gName v x (wipe σ [v]) H' fun σ2 H2 => wipe σ2 [v] = wipe σ [v] ∧ tYes σ2 H2 fun b H3 =>
        if b = true then te σ2 H3 fun y H4 => ∃ acc, H4 D = some (.lst acc) ∧ acc.length < sizeLine ∧ Nx (upd H4 D (.lst (acc ++ [y]))) else Nx H3) := by
  refine lc_range (lo := lo) (n := n) (fun i H' => Same H1 H' ∧ H' D = some (.lst (((List.range i).map fun (i : Nat) => h (lo + (i : Int))).map V.int))) ⟨same_upd nD, upd_same⟩ (fun i H' hi p => ?_) fun H' p => hd H' p.1 p.2
  refine ⟨by simp [wipe, List.set_set], tt_yes (hte i hi H' _ p.1 fun H2 s2 => ⟨_, s2 _ _ p.2, ?_, fun b o z => ?_, ?_⟩)⟩
  · rw [List.length_map, List.length_map, List.length_range, sizeLine_eq]; omega
  · rw [upd_ne (ne_of_none z nD)]; exact s2 _ _ (p.1 b o z)
  · rw [upd_same, List.range_succ, List.map_append, List.map_append]; rfl
end RV
set_option maxHeartbeats 4000000
namespace K6
open PySem PySem.Spec PyProof.Rows L2 RV
theorem RingAt.dp {K : PySem.W.Frag} {H : Hp} {a : Addr} {rs : List (Int × List Int)} (h : RingAt K H a rs) : Dp K H (.ref a) (dRg rs) := by
  obtain ⟨ks, rfl, hT, hk⟩ := h
  have z : ∀ ks : List Rk, (∀ k ∈ ks, RunOk K H k) → DpAll K H (ks.map fun k => V.ref k.1) ((ks.map valR).map dRun) := fun ks => by
    induction ks with
    | nil => exact fun _ => .nil
    | cons k ks ih =>
      intro hk
      have h1 := hk k (List.mem_cons_self ..)
      exact .cons (.tup h1.1 (.cons (.int _) (.cons (dpT h1.2) .nil))) (ih fun q hq => hk q (List.mem_cons_of_mem _ hq))
  exact .tup hT (z ks hk)
theorem Rg.shows {ns : List Int} {rs : List (Int × List Int)} (g : Rg ns rs) (h8 : ns.length ≤ 8) (ti : ∀ r ∈ rs, r.1 ≤ 10 ^ 27) : Shows (dRg rs) :=
  shows_dRg (fun r hr => ⟨by have h1 := (g.sz.rn r hr).1; have h2 := ti r hr; omega, fun n hn => by have := g.inn r hr n hn; omega⟩) g.wo g.sz.few
theorem marks_in {ns : List Int} {rs : List (Int × List Int)} (g : Rg ns rs) : ∀ x ∈ mk rs, 0 ≤ x ∧ x < (ns.length : Int) := by
  have z : ∀ rs : List (Int × List Int), (∀ r ∈ rs, ∀ x ∈ r.2, 0 ≤ x ∧ x < (ns.length : Int)) → ∀ x ∈ mk rs, 0 ≤ x ∧ x < (ns.length : Int) := fun rs => by
    induction rs with
    | nil => exact fun _ x hx => nomatch hx
    | cons r rs ih =>
      intro h x hx
      have hx : x ∈ rp r.1.toNat r.2 ++ mk rs := hx
      rcases List.mem_append.mp hx with q | q
      · unfold rp at q
        obtain ⟨l, hl, q⟩ := List.mem_flatten.mp q
        have := List.eq_of_mem_replicate hl
        subst this
        exact h r (List.mem_cons_self ..) x q
      · exact ih (fun q hq => h q (List.mem_cons_of_mem _ hq)) x q
  exact z rs g.inn
/-- a turned ring is one of the kind -/
theorem Rg.trn {ns : List Int} {rs qs : List (Int × List Int)} {b : Int} (g : Rg ns rs) (hl : rs.length ≤ 97) (t : Trn rs b qs) : Rg ns qs := by
  refine ⟨⟨by have := t.len; omega, t.ne, t.rn, fun r hr => ?_⟩, fun r hr => ?_, fun r hr x hx => ?_⟩
  · obtain ⟨r0, h0, h1, _⟩ := t.wo r hr
    exact Nat.le_trans h1 (g.sz.wo r0 h0)
  · obtain ⟨r0, h0, h1, _⟩ := t.wo r hr
    exact Nat.le_trans h1 (g.wo r0 h0)
  · obtain ⟨r0, h0, _, h1⟩ := t.wo r hr
    exact g.inn r0 h0 x (h1 x hx)
theorem mirF_at {ns : List Int} (M : Mir ns) {x : Int} (h : 0 ≤ x ∧ x < (ns.length : Int)) : (0 ≤ mirF ns x ∧ mirF ns x < (ns.length : Int)) ∧ mirF ns (mirF ns x) = x := by
  have g : ns[x.toNat]? = some (mirF ns x) := get_D (by omega)
  have i := M.inn _ (List.mem_of_getElem? g)
  refine ⟨i, ?_⟩
  have b := M.back _ _ g
  show ns.getD (mirF ns x).toNat 0 = x
  rw [getD_of b]; omega
theorem mem_mirL {f : Int → Int} {rs : List (Int × List Int)} {r : Int × List Int} (h : r ∈ mirL f rs) : ∃ r0 ∈ rs, r = (r0.1, r0.2.reverse.map f) := by
  unfold mirL at h
  obtain ⟨r0, h0, e⟩ := List.mem_map.mp h
  exact ⟨r0, List.mem_reverse.mp h0, e.symm⟩
theorem Rg.mir {ns : List Int} {rs : List (Int × List Int)} (g : Rg ns rs) (M : Mir ns) : Rg ns (mirL (mirF ns) rs) := by
  refine ⟨⟨?_, fun z => ?_, fun r hr => ?_, fun r hr => ?_⟩, fun r hr => ?_, fun r hr x hx => ?_⟩
  · unfold mirL; rw [List.length_map, List.length_reverse]; exact g.sz.few
  · unfold mirL at z
    rw [List.map_eq_nil_iff, List.reverse_eq_nil_iff] at z
    exact g.sz.ne z
  · obtain ⟨r0, h0, rfl⟩ := mem_mirL hr
    refine ⟨(g.sz.rn r0 h0).1, fun z => (g.sz.rn r0 h0).2 ?_⟩
    have z : r0.2.reverse.map (mirF ns) = [] := z
    rwa [List.map_eq_nil_iff, List.reverse_eq_nil_iff] at z
  · obtain ⟨r0, h0, rfl⟩ := mem_mirL hr
    show (r0.2.reverse.map (mirF ns)).length ≤ 3000
    rw [List.length_map, List.length_reverse]; exact g.sz.wo r0 h0
  · obtain ⟨r0, h0, rfl⟩ := mem_mirL hr
    show (r0.2.reverse.map (mirF ns)).length ≤ 1000
    rw [List.length_map, List.length_reverse]; exact g.wo r0 h0
  · obtain ⟨r0, h0, rfl⟩ := mem_mirL hr
    obtain ⟨y, hy, rfl⟩ := List.mem_map.mp hx
    exact (mirF_at M (g.inn r0 h0 y (List.mem_reverse.mp hy))).1
theorem pl_mir {ns : List Int} {rs : List (Int × List Int)} (g : Rg ns rs) (M : Mir ns) : pl (mirL (mirF ns) rs) = pl rs := by
  rw [← mk_len (g.mir M).sz.rn.nn, ← mk_len g.sz.rn.nn, mk_mir, List.length_map, List.length_reverse]
theorem mP_mir {ns : List Int} {rs : List (Int × List Int)} (g : Rg ns rs) (p : Int) : mP (mk (mirL (mirF ns) rs)) p = mirF ns (mP (mk rs) (pl rs - 1 - p)) := by
  rw [mk_mir, mP_back (mk_ne g.sz.rn g.sz.ne), mk_len g.sz.rn.nn]
theorem rg_mark {ns : List Int} {rs : List (Int × List Int)} (g : Rg ns rs) (p : Int) : 0 ≤ mP (mk rs) p ∧ mP (mk rs) p < (ns.length : Int) := marks_in g _ (mP_mem (mk_ne g.sz.rn g.sz.ne) p)
theorem cyc_mir {ns : List Int} {ps : List (List Int)} {rs : List (Int × List Int)} (g : Rg ns rs) (M : Mir ns) (S : Stp ns ps) (c : Cyc ps (mk rs)) : Cyc ps (mk (mirL (mirF ns) rs)) := by
  rw [mk_mir]
  refine c.back (mk_ne g.sz.rn g.sz.ne) (fun a b ha hb h => ?_) (mP_mem (mk_ne g.sz.rn g.sz.ne))
  have ia := marks_in g a ha
  have ib := marks_in g b hb
  exact S.mirr a b _ _ h (get_D (by omega)) (get_D (by omega))
theorem all_in {ps : List (List Int)} {rs : List (Int × List Int)} (rn : Rn rs) (c : Cyc ps (mk rs)) : ((nbs rs rs.length).all fun p => decide (p ∈ ps)) = true :=
  List.all_eq_true.mpr fun p hp => decide_eq_true (nbs_in rn c p hp)
section
variable {P : Program} {w : World} {K : PySem.W.Frag} {mg : Str → Option Value} {base : Heap}
/-! ### _law_alike -/
abbrev nAlike : List Str := ["_law_one", "_law_other", "_law_spots_here", "_law_place"]
theorem scAlike : FnScope nAlike ["_law_one", "_law_other", "_law_spots_here"] (defScope sAlike) := ⟨rfl, rfl, rfl, by decide +kernel, rfl, by decide +kernel, by decide +kernel⟩
def spAlike (K : PySem.W.Frag) : Sp := fun vs H Q _ => ∃ (a b l : Addr) (rs qs : List (Int × List Int)) (xs : List Int), vs = [.ref a, .ref b, .ref l] ∧ RingAt K H a rs ∧ RingAt K H b qs ∧ Sz rs ∧ Sz qs ∧ SqL K H l (xs.map V.int) ∧ xs.length ≤ 100 ∧ pl rs = pl qs ∧ (∀ p, mP (mk rs) p = mP (mk qs) p) ∧
  ∀ H', Same H H' → Q (.bl true) H'
/-- the defs of rings -/
structure RDefs (K : PySem.W.Frag) (mg : Str → Option Value) (fR fP fS fM : Addr) (dR dP dS dM : FuncData) : Prop where
  R : DefAt K mg "run_places" sRunPl ["run"] fR dR
  P : DefAt K mg "places" sRPlaces ["ring"] fP dP
  S : DefAt K mg "spot" sSpot ["ring", "place"] fS dS
  M : DefAt K mg "mark_at" sMarkAt ["ring", "place"] fM dM
variable {fR fP fS fM : Addr} {dR dP dS dM : FuncData}
theorem ok_alike {f : Addr} {fd : FuncData} (F : Fun K "_law_alike" "_law_alike" sAlike f fd) (B : Bare mg) (D : RDefs K mg fR fP fS fM dR dP dS dM) : FnOk P w K mg base CX0 5 f fd ["_law_one", "_law_other", "_law_spots_here"] (spAlike K) := by
  have GP : FnOk P w K mg base CX0 2 fP dP ["ring"] (spRPlaces K) := ok_rplaces D.P.fn B D.R
  have GM : FnOk P w K mg base CX0 4 fM dM ["ring", "place"] (spMarkAt K) := ok_markat D.M.fn B D.R D.P D.S
  refine F.ok scAlike (fun vs H Q E h => ?_) (fun cdv A outer s H vs Q E hr h => ?_)
  · obtain ⟨a, b, l, rs, qs, xs, rfl, _⟩ := h
    rfl
  · obtain ⟨a, b, l, rs, qs, xs, rfl, ha, hb, za, zb, hl, lx, epl, eq, q⟩ := h
    have r2 := hr.mono (show 2 ≤ 4 by decide)
    have fa := za.few
    have fb := zb.few
    refine ⟨_, pss_cons (ps_if (pt_cmpR op_ne (pe_call GP r2 (by rfl) D.P.mg D.P.fn.kp D.P.bi .nil pass0 (pa_cons (pv 0) pa_nil)) (pe_call GP r2 (by rfl) D.P.mg D.P.fn.kp D.P.bi .nil pass0 (pa_cons (pv 1) pa_nil)) (nomark _)) (pss_one (ps_ret pe_bl)) pss_nil)
      (pss_one (ps_ret (pe_cmpR (op_eqD hr.units)
        (pe_lc (own := [("_law_place", 3)]) (g := gName 3) (tt := tYes) rfl scAlike.nd (pi_list (pv 2)) (blkOk_by (N := nAlike) (sc := defScope sAlike) (by decide +kernel)) (fun _ _ _ _ _ => pg_name (i := 3) scAlike.nd rfl (Or.inl rfl)) (fun _ _ _ _ _ => pts_nil)
          (fun _ _ _ _ _ => pe_call GM hr (by rfl) D.M.mg D.M.fn.kp D.M.bi .nil pass0 (pa_cons (pv 0) (pa_cons (pv 3) pa_nil))))
        (pe_lc (own := [("_law_place", 3)]) (g := gName 3) (tt := tYes) rfl scAlike.nd (pi_list (pv 2)) (blkOk_by (N := nAlike) (sc := defScope sAlike) (by decide +kernel)) (fun _ _ _ _ _ => pg_name (i := 3) scAlike.nd rfl (Or.inl rfl)) (fun _ _ _ _ _ => pts_nil)
          (fun _ _ _ _ _ => pe_call GM hr (by rfl) D.M.mg D.M.fn.kp D.M.bi .nil pass0 (pa_cons (pv 1) (pa_cons (pv 3) pa_nil)))) (nomark _)))), ?_⟩
    refine ⟨.ref a, rfl, a, rs, rfl, ha, by omega, za.wo, fun H1 s1 => ⟨.ref b, rfl, b, qs, rfl, hb.same s1, by omega, zb.wo, fun H2 s2 => ⟨rfl, _, rfl, ?_⟩⟩⟩
    rw [epl, decV, decide_eq_true rfl]
    refine iteF ?_
    have ha2 := ha.same (s1.trans s2)
    have hb2 := hb.same (s1.trans s2)
    have hl2 := sqL_same (s1.trans s2) hl
    refine ⟨.ref l, rfl, l, rfl, ⟨_, hl2⟩, fun D1 nD1 => ?_⟩
    refine lc_mapL (h := mP (mk rs)) hl2 (by omega) nD1 (fun x _ H' Q' s' kq => ⟨.ref a, rfl, .int x, rfl, a, x, rs, rfl, ha2.same s', za, fun H2 s2 => kq H2 s2⟩) fun H3 s3 e3 => ?_
    refine ⟨.ref l, rfl, l, rfl, ⟨_, sqL_same s3 hl2⟩, fun D2 nD2 => ?_⟩
    refine lc_mapL (h := mP (mk qs)) (sqL_same s3 hl2) (by omega) nD2 (fun x _ H' Q' s' kq => ⟨.ref b, rfl, .int x, rfl, b, x, qs, rfl, (hb2.same s3).same s', zb, fun H2 s2 => kq H2 s2⟩) fun H4 s4 e4 => ?_
    refine ⟨.list _, .list _, dpL (lstNew (s4 _ _ e3)), dpL (lstNew e4), shapedL _, shapedL _, ?_⟩
    rw [eqvL, decide_eq_true (List.map_congr_left fun x _ => eq x)]
    exact q H4 (((s1.trans s2).trans s3).trans s4)
end
end K6
set_option maxHeartbeats 4000000
namespace K6
open PySem PySem.Spec PyProof.Rows L2 RV
section
variable {P : Program} {w : World} {K : PySem.W.Frag} {mg : Str → Option Value} {base : Heap}
/-- the rule's own methods, and is_ring's defs -/
structure KDefs (K : PySem.W.Frag) (mg : Str → Option Value) (C fMm fBm fRm fI fIr fN fA fK fW : Addr) (dMm dBm dRm dI dIr dN dA dK dW : FuncData) : Prop where
  FM : Fun K "marks" "Rule.marks" sMarksM fMm dMm
  bM : Binds K dMm ["self"] []
  mM : Meth K C "marks" fMm
  FB : Fun K "behind" "Rule.behind" sBehindM fBm dBm
  bB : Binds K dBm ["self", "mark"] []
  mB : Meth K C "behind" fBm
  FR : Fun K "mirror" "Rule.mirror" sMirrorM fRm dRm
  bR : Binds K dRm ["self", "mark"] []
  mR : Meth K C "mirror" fRm
  I : DefAt K mg "is_ring" sIsRing ["rule", "thing"] fI dI
  R : DefAt K mg "is_run" sIsRun ["rule", "thing"] fIr dIr
  N : DefAt K mg "neighbours" sNeighb ["ring"] fN dN
  A : DefAt K mg "are_marks" sMarks ["thing", "many"] fA dA
  L : DefAt K mg "is_below" sMark ["thing", "many"] fK dK
  W : DefAt K mg "is_whole" sWhole ["thing"] fW dW
variable {fR fP fS fM C fMm fBm fRm fI fIr fN fA fK fW fT fV fX : Addr} {dR dP dS dM dMm dBm dRm dI dIr dN dA dK dW dT dV dX : FuncData}
/-! ### _law_turned_right -/
abbrev nTR : List Str := ["_law_rule", "_law_ring", "_law_by", "_law_spots_here", "_law_found", "_law_many", "_law_place"]
theorem scTR : FnScope nTR ["_law_rule", "_law_ring", "_law_by", "_law_spots_here"] (defScope sTurnedR) := ⟨rfl, rfl, rfl, by decide +kernel, rfl, by decide +kernel, by decide +kernel⟩
def spTR (K : PySem.W.Frag) (C : Addr) : Sp := fun vs H Q _ => ∃ (r a l : Addr) (b : Int) (rs : List (Int × List Int)) (ns xs : List Int) (ps : List (List Int)), vs = [.ref r, .ref a, .int b, .ref l] ∧ RuleAt K C H r ns ps ∧ Mir ns ∧ Stp ns ps ∧ RingAt K H a rs ∧ Rg ns rs ∧ rs.length ≤ 90 ∧ Cyc ps (mk rs) ∧ SqL K H l (xs.map V.int) ∧ xs.length ≤ 100 ∧
  ∀ H', Same H H' → Q (.bl true) H'
theorem ok_tr {f : Addr} {fd : FuncData} (F : Fun K "_law_turned_right" "_law_turned_right" sTurnedR f fd) (T : Txt K mg C) (B : Bare mg) (D : RDefs K mg fR fP fS fM dR dP dS dM) (E : KDefs K mg C fMm fBm fRm fI fIr fN fA fK fW dMm dBm dRm dI dIr dN dA dK dW)
    (DT : DefAt K mg "turned" sTurned ["ring", "by"] fT dT) (DX : DefAt K mg "_law_alike" sAlike ["_law_one", "_law_other", "_law_spots_here"] fX dX) : FnOk P w K mg base CX0 6 f fd ["_law_rule", "_law_ring", "_law_by", "_law_spots_here"] (spTR K C) := by
  have GP : FnOk P w K mg base CX0 2 fP dP ["ring"] (spRPlaces K) := ok_rplaces D.P.fn B D.R
  have GM : FnOk P w K mg base CX0 4 fM dM ["ring", "place"] (spMarkAt K) := ok_markat D.M.fn B D.R D.P D.S
  have GT : FnOk P w K mg base CX0 4 fT dT ["ring", "by"] (spTurned K) := ok_turned DT.fn B D.R D.P D.S
  have GI : FnOk P w K mg base CX0 5 fI dI ["rule", "thing"] (spIsRing K C) := ok_isring E.I.fn T B E.FM E.bM E.mM E.FB E.bB E.mB E.R E.N E.A E.L E.W
  have GX : FnOk P w K mg base CX0 5 fX dX ["_law_one", "_law_other", "_law_spots_here"] (spAlike K) := ok_alike DX.fn B D
  refine F.ok scTR (fun vs H Q E h => ?_) (fun cdv A outer s H vs Q E' hr h => ?_)
  · obtain ⟨r, a, l, b, rs, ns, xs, ps, rfl, _⟩ := h
    rfl
  · obtain ⟨r, a, l, b, rs, ns, xs, ps, rfl, R, M, S, ha, g, hl90, cy, hl, lx, q⟩ := h
    have r2 := hr.mono (show 2 ≤ 5 by decide)
    have r4 := hr.mono (show 4 ≤ 5 by decide)
    have two : (2 : Nat) ≤ sizeLine := by decide
    have mrk : PE (cxOf CX0 P w K mg base nTR "_law_turned_right" (defScope sTurnedR) f cdv A outer s H E').nox (.Constant .none 0 ⟨0, 0, 0, 0⟩) (tC .non) := pe_non
    refine ⟨_, pss_cons (ps_asg (pe_tup (pa_cons (pe_call GT r4 (by rfl) DT.mg DT.fn.kp DT.bi .nil pass0 (pa_cons (pv 1) (pa_cons (pv 2) pa_nil))) (pa_cons (pe_call GP r2 (by rfl) D.P.mg D.P.fn.kp D.P.bi .nil pass0 (pa_cons (pv 1) pa_nil)) pa_nil)))
        (pg_tup rfl (pgs_cons (pg_name (i := 4) scTR.nd rfl (Or.inr rfl)) (pgs_cons (pg_name (i := 5) scTR.nd rfl (Or.inl rfl)) pgs_nil))))
      (pss_cons (ps_if (PW.pt (pw_or (pt_cmpR op_notBl (pe_call GI hr (by rfl) E.I.mg E.I.fn.kp E.I.bi .nil pass0 (pa_cons (pv 0) (pa_cons (pv 4) pa_nil))) pe_bl (nomark _))
          (pw_or1 (pt_cmpR op_ne (pe_call GP r2 (by rfl) D.P.mg D.P.fn.kp D.P.bi .nil pass0 (pa_cons (pv 4) pa_nil)) (pv 5) (nomark _))))) (pss_one (ps_ret pe_bl)) pss_nil)
      (pss_cons (ps_if (pt_cmpR (op_neD hr.units)
          (pe_lc (own := [("_law_place", 6)]) (g := gName 6) (tt := tYes) rfl scTR.nd (pi_list (pv 3)) (blkOk_by (N := nTR) (sc := defScope sTurnedR) (by decide +kernel)) (fun _ _ _ _ _ => pg_name (i := 6) scTR.nd rfl (Or.inl rfl)) (fun _ _ _ _ _ => pts_nil)
            (fun _ _ _ _ _ => pe_call GM r4 (by rfl) D.M.mg D.M.fn.kp D.M.bi .nil pass0 (pa_cons (pv 4) (pa_cons (pv 6) pa_nil))))
          (pe_lc (own := [("_law_place", 6)]) (g := gName 6) (tt := tYes) rfl scTR.nd (pi_list (pv 3)) (blkOk_by (N := nTR) (sc := defScope sTurnedR) (by decide +kernel)) (fun _ _ _ _ _ => pg_name (i := 6) scTR.nd rfl (Or.inl rfl)) (fun _ _ _ _ _ => pts_nil)
            (fun _ _ _ _ _ => pe_call GM r4 (by rfl) D.M.mg D.M.fn.kp D.M.bi .nil pass0 (pa_cons (pv 1) (pa_cons (pe_op op_add (pv 6) (pv 2)) pa_nil)))) (nomark _)) (pss_one (ps_ret pe_bl)) pss_nil)
      (pss_one (ps_ret (pe_and (pe_call GX hr (by rfl) DX.mg DX.fn.kp DX.bi .nil pass0 (pa_cons (pe_call GT r4 (by rfl) DT.mg DT.fn.kp DT.bi .nil pass0 (pa_cons (pv 4) (pa_cons (pe_op op_sub pe_int (pv 2)) pa_nil))) (pa_cons (pv 1) (pa_cons (pv 3) pa_nil))))
          (pe_one (pe_call GX hr (by rfl) DX.mg DX.fn.kp DX.bi .nil pass0 (pa_cons (pe_call GT r4 (by rfl) DT.mg DT.fn.kp DT.bi .nil pass0 (pa_cons (pv 4) (pa_cons (pv 5) pa_nil))) (pa_cons (pv 4) (pa_cons (pv 3) pa_nil)))))))))), ?_⟩
    -- turned, places
    refine ⟨.ref a, rfl, .int b, rfl, a, b, rs, rfl, ha, g.sz, fun H1 t qs s1 ht trn => ?_⟩
    refine ⟨.ref a, rfl, a, rs, rfl, ha.same s1, by have := g.sz.few; omega, g.sz.wo, fun H2 s2 => ⟨two, fun T0 nT0 => ?_⟩⟩
    have sT := same_upd (o := .tup [.ref t, .int (pl rs)]) nT0
    refine ⟨T0, _, rfl, tupNew upd_same, rfl, _, _, rfl, _, _, rfl, rfl, ?_⟩
    have s03 := (s1.trans s2).trans sT
    have ht3 := ht.same (s2.trans sT)
    generalize upd H2 T0 (.tup [.ref t, .int (pl rs)]) = H3 at s03 ht3 ⊢
    have gt := g.trn (by omega) trn
    have ql := trn.len
    have cyt := trn_cyc trn g.sz.rn g.sz.ne cy
    have ept := trn_pl trn g.sz.rn
    -- is_ring
    refine ⟨.ref r, rfl, .ref t, rfl, r, t, qs, ns, ps, rfl, R.same s03, M, S, ht3, gt, fun H4 s4 => ?_⟩
    rw [all_in gt.sz.rn cyt]
    refine ⟨true, true, rfl, rfl, _, rfl, iteF ?_⟩
    refine ⟨.ref t, rfl, t, qs, rfl, ht3.same s4, by omega, gt.sz.wo, fun H5 s5 => ⟨.int (pl rs), rfl, rfl, _, rfl, ?_⟩⟩
    rw [ept, decV, decide_eq_true rfl]
    refine iteF ?_
    -- the marks
    have s05 := (s03.trans s4).trans s5
    have ht5 := ht3.same (s4.trans s5)
    have ha5 := ha.same s05
    have hl5 := sqL_same s05 hl
    refine ⟨.ref l, rfl, l, rfl, ⟨_, hl5⟩, fun D1 nD1 => ?_⟩
    refine lc_mapL (h := mP (mk qs)) hl5 (by omega) nD1 (fun x _ H' Q' s' kq => ⟨.ref t, rfl, .int x, rfl, t, x, qs, rfl, ht5.same s', gt.sz, fun H2 s2 => kq H2 s2⟩) fun H6 s6 e6 => ?_
    refine ⟨.ref l, rfl, l, rfl, ⟨_, sqL_same s6 hl5⟩, fun D2 nD2 => ?_⟩
    refine lc_mapL (h := fun x => mP (mk rs) (x + b)) (sqL_same s6 hl5) (by omega) nD2 (fun x _ H' Q' s' kq => ⟨.ref a, rfl, .int x, rfl, .int b, rfl, _, _, rfl, rfl, a, x + b, rs, rfl, (ha5.same s6).same s', g.sz, fun H2 s2 => kq H2 s2⟩) fun H7 s7 e7 => ?_
    refine ⟨.list _, .list _, dpL (lstNew (s7 _ _ e6)), dpL (lstNew e7), shapedL _, shapedL _, _, rfl, ?_⟩
    rw [eqvL, decide_eq_true (List.map_congr_left fun x _ => trn_mP trn g.sz.rn x)]
    refine iteF ?_
    have s57 := s6.trans s7
    have ht7 := ht5.same s57
    have ha7 := ha5.same s57
    have hl7 := sqL_same s57 hl5
    -- back again
    refine ⟨.ref t, rfl, .int b, rfl, _, _, rfl, rfl, t, 0 - b, qs, rfl, ht7, gt.sz, fun H8 u us s8 hu tu => ?_⟩
    have gu := gt.trn (by omega) tu
    refine ⟨.ref a, rfl, .ref l, rfl, u, a, l, us, rs, xs, rfl, hu, ha7.same s8, gu.sz, g.sz, sqL_same s8 hl7, lx, by rw [trn_pl tu gt.sz.rn, ept], fun p => by rw [trn_mP tu gt.sz.rn, trn_mP trn g.sz.rn, show p + (0 - b) + b = p by omega], fun H9 s9 => ⟨true, rfl, iteT ?_⟩⟩
    have s79 := s8.trans s9
    refine ⟨.ref t, rfl, .int (pl rs), rfl, t, pl rs, qs, rfl, ht7.same s79, gt.sz, fun H10 v vs s10 hv tv => ?_⟩
    have gv := gt.trn (by omega) tv
    refine ⟨.ref t, rfl, .ref l, rfl, v, t, l, vs, qs, xs, rfl, hv, (ht7.same s79).same s10, gv.sz, gt.sz, sqL_same (s79.trans s10) hl7, lx, by rw [trn_pl tv gt.sz.rn], fun p => ?_, fun H11 s11 => q H11 ((((s05.trans s57).trans s79).trans s10).trans s11)⟩
    rw [trn_mP tv gt.sz.rn, ← ept, ← mk_len gt.sz.rn.nn]
    have z := mP_add (mk qs) p 1
    rwa [Int.mul_one] at z
end
end K6
set_option maxHeartbeats 4000000
namespace K6
open PySem PySem.Spec PyProof.Rows L2 RV
theorem rg_mP_mir2 {ns : List Int} {rs : List (Int × List Int)} (g : Rg ns rs) (M : Mir ns) (p : Int) : mP (mk (mirL (mirF ns) (mirL (mirF ns) rs))) p = mP (mk rs) p := by
  rw [mP_mir (g.mir M), mP_mir g, pl_mir g M, (mirF_at M (rg_mark g _)).2, show pl rs - 1 - (pl rs - 1 - p) = p by omega]
section
variable {P : Program} {w : World} {K : PySem.W.Frag} {mg : Str → Option Value} {base : Heap}
variable {fR fP fS fM C fMm fBm fRm fI fIr fN fA fK fW fT fV fX fY : Addr} {dR dP dS dM dMm dBm dRm dI dIr dN dA dK dW dT dV dX dY : FuncData}
/-! ### _law_mirrored_right -/
abbrev nMR : List Str := ["_law_rule", "_law_ring", "_law_by", "_law_spots_here", "_law_found", "_law_many", "_law_due", "_law_place"]
theorem scMR : FnScope nMR ["_law_rule", "_law_ring", "_law_by", "_law_spots_here"] (defScope sMirroredR) := ⟨rfl, rfl, rfl, by decide +kernel, rfl, by decide +kernel, by decide +kernel⟩
theorem ok_mr {f : Addr} {fd : FuncData} (F : Fun K "_law_mirrored_right" "_law_mirrored_right" sMirroredR f fd) (T : Txt K mg C) (B : Bare mg) (D : RDefs K mg fR fP fS fM dR dP dS dM) (E : KDefs K mg C fMm fBm fRm fI fIr fN fA fK fW dMm dBm dRm dI dIr dN dA dK dW)
    (DT : DefAt K mg "turned" sTurned ["ring", "by"] fT dT) (DV : DefAt K mg "mirrored" sMirrored ["rule", "ring"] fV dV) (DX : DefAt K mg "_law_alike" sAlike ["_law_one", "_law_other", "_law_spots_here"] fX dX) : FnOk P w K mg base CX0 6 f fd ["_law_rule", "_law_ring", "_law_by", "_law_spots_here"] (spTR K C) := by
  have GP : FnOk P w K mg base CX0 2 fP dP ["ring"] (spRPlaces K) := ok_rplaces D.P.fn B D.R
  have GM : FnOk P w K mg base CX0 4 fM dM ["ring", "place"] (spMarkAt K) := ok_markat D.M.fn B D.R D.P D.S
  have GT : FnOk P w K mg base CX0 4 fT dT ["ring", "by"] (spTurned K) := ok_turned DT.fn B D.R D.P D.S
  have GV : FnOk P w K mg base CX0 2 fV dV ["rule", "ring"] (spMirrored K C) := ok_mirrored DV.fn T B E.FR E.bR E.mR
  have GI : FnOk P w K mg base CX0 5 fI dI ["rule", "thing"] (spIsRing K C) := ok_isring E.I.fn T B E.FM E.bM E.mM E.FB E.bB E.mB E.R E.N E.A E.L E.W
  have GX : FnOk P w K mg base CX0 5 fX dX ["_law_one", "_law_other", "_law_spots_here"] (spAlike K) := ok_alike DX.fn B D
  have GF : FnOk P w K mg base CX0 1 fRm dRm ["self", "mark"] (spMirrorM K C) := ok_mirrorM E.FR T
  refine F.ok scMR (fun vs H Q E h => ?_) (fun cdv A outer s H vs Q E' hr h => ?_)
  · obtain ⟨r, a, l, b, rs, ns, xs, ps, rfl, _⟩ := h
    rfl
  · obtain ⟨r, a, l, b, rs, ns, xs, ps, rfl, R, M, S, ha, g, hl90, cy, hl, lx, q⟩ := h
    have r1 := hr.mono (show 1 ≤ 5 by decide)
    have r2 := hr.mono (show 2 ≤ 5 by decide)
    have r4 := hr.mono (show 4 ≤ 5 by decide)
    have two : (2 : Nat) ≤ sizeLine := by decide
    obtain ⟨dx, a0, b0, t0, g1, g2, g3, g4⟩ := R.ex
    have fno := flds_no a0 b0 t0 (m := "mirror") (by decide +kernel) (by decide +kernel) (by decide +kernel)
    refine ⟨_, pss_cons (ps_asg (pe_tup (pa_cons (pe_call GV r2 (by rfl) DV.mg DV.fn.kp DV.bi .nil pass0 (pa_cons (pv 0) (pa_cons (pv 1) pa_nil))) (pa_cons (pe_call GP r2 (by rfl) D.P.mg D.P.fn.kp D.P.bi .nil pass0 (pa_cons (pv 1) pa_nil)) pa_nil)))
        (pg_tup rfl (pgs_cons (pg_name (i := 4) scMR.nd rfl (Or.inr rfl)) (pgs_cons (pg_name (i := 5) scMR.nd rfl (Or.inr rfl)) pgs_nil))))
      (pss_cons (ps_if (PW.pt (pw_or (pt_cmpR op_notBl (pe_call GI hr (by rfl) E.I.mg E.I.fn.kp E.I.bi .nil pass0 (pa_cons (pv 0) (pa_cons (pv 4) pa_nil))) pe_bl (nomark _))
          (pw_or1 (pt_cmpR op_ne (pe_call GP r2 (by rfl) D.P.mg D.P.fn.kp D.P.bi .nil pass0 (pa_cons (pv 4) pa_nil)) (pv 5) (nomark _))))) (pss_one (ps_ret pe_bl)) pss_nil)
      (pss_cons (ps_setLc (i := 6) (own := [("_law_place", 7)]) (g := gName 7) (tt := tYes) rfl scMR.nd rfl rfl (by rfl) (pi_list (pv 3)) (blkOk_by (N := nMR) (sc := defScope sMirroredR) (by decide +kernel)) (fun _ _ _ _ _ => pg_name (i := 7) scMR.nd rfl (Or.inl rfl)) (fun _ _ _ _ _ => pts_nil)
            (fun _ _ _ _ _ => pe_meth (pv 0) T.cl E.mR GF r1 E.bR .nil pass0 (pa_cons (pe_call GM r4 (by rfl) D.M.mg D.M.fn.kp D.M.bi .nil pass0 (pa_cons (pv 1) (pa_cons (pe_op op_sub (pe_op op_sub (pv 5) pe_int) (pv 7)) pa_nil))) pa_nil)))
      (pss_cons (ps_if (PW.pt (pw_or (pt_cmpR (op_neD hr.units)
          (pe_lc (own := [("_law_place", 7)]) (g := gName 7) (tt := tYes) rfl scMR.nd (pi_list (pv 3)) (blkOk_by (N := nMR) (sc := defScope sMirroredR) (by decide +kernel)) (fun _ _ _ _ _ => pg_name (i := 7) scMR.nd rfl (Or.inl rfl)) (fun _ _ _ _ _ => pts_nil)
            (fun _ _ _ _ _ => pe_call GM r4 (by rfl) D.M.mg D.M.fn.kp D.M.bi .nil pass0 (pa_cons (pv 4) (pa_cons (pv 7) pa_nil)))) (pv 6) (nomark _))
          (pw_or1 (pt_not (pt_val (pe_call GX hr (by rfl) DX.mg DX.fn.kp DX.bi .nil pass0 (pa_cons (pe_call GV r2 (by rfl) DV.mg DV.fn.kp DV.bi .nil pass0 (pa_cons (pv 0) (pa_cons (pv 4) pa_nil))) (pa_cons (pv 1) (pa_cons (pv 3) pa_nil)))))))))
          (pss_one (ps_ret pe_bl)) pss_nil)
      (pss_one (ps_ret (pe_call GX hr (by rfl) DX.mg DX.fn.kp DX.bi .nil pass0 (pa_cons (pe_call GV r2 (by rfl) DV.mg DV.fn.kp DV.bi .nil pass0 (pa_cons (pv 0) (pa_cons (pe_call GT r4 (by rfl) DT.mg DT.fn.kp DT.bi .nil pass0 (pa_cons (pv 1) (pa_cons (pv 2) pa_nil))) pa_nil)))
          (pa_cons (pe_call GT r4 (by rfl) DT.mg DT.fn.kp DT.bi .nil pass0 (pa_cons (pv 4) (pa_cons (pe_op op_sub pe_int (pv 2)) pa_nil))) (pa_cons (pv 3) pa_nil))))))))), ?_⟩
    -- mirrored, places
    refine ⟨.ref r, rfl, .ref a, rfl, r, a, rs, ns, ps, rfl, R, ha, g, fun H1 t s1 ht => ?_⟩
    refine ⟨.ref a, rfl, a, rs, rfl, ha.same s1, by have := g.sz.few; omega, g.sz.wo, fun H2 s2 => ⟨two, fun T0 nT0 => ?_⟩⟩
    have sT := same_upd (o := .tup [.ref t, .int (pl rs)]) nT0
    refine ⟨T0, _, rfl, tupNew upd_same, rfl, _, _, rfl, _, _, rfl, rfl, ?_⟩
    have s03 := (s1.trans s2).trans sT
    have ht3 := ht.same (s2.trans sT)
    generalize upd H2 T0 (.tup [.ref t, .int (pl rs)]) = H3 at s03 ht3 ⊢
    have gt := g.mir M
    have cyt := cyc_mir g M S cy
    have ept := pl_mir g M
    have ql : (mirL (mirF ns) rs).length ≤ 90 := by unfold mirL; rw [List.length_map, List.length_reverse]; exact hl90
    -- is_ring
    refine ⟨.ref r, rfl, .ref t, rfl, r, t, _, ns, ps, rfl, R.same s03, M, S, ht3, gt, fun H4 s4 => ?_⟩
    rw [all_in gt.sz.rn cyt]
    refine ⟨true, true, rfl, rfl, _, rfl, iteF ?_⟩
    refine ⟨.ref t, rfl, t, _, rfl, ht3.same s4, by omega, gt.sz.wo, fun H5 s5 => ⟨.int (pl rs), rfl, rfl, _, rfl, ?_⟩⟩
    rw [ept, decV, decide_eq_true rfl]
    refine iteF ?_
    have s05 := (s03.trans s4).trans s5
    have ht5 := ht3.same (s4.trans s5)
    have ha5 := ha.same s05
    have hl5 := sqL_same s05 hl
    -- due
    refine ⟨.ref l, rfl, l, rfl, ⟨_, hl5⟩, fun D1 nD1 => ?_⟩
    refine lc_mapL (h := fun x => mirF ns (mP (mk rs) (pl rs - 1 - x))) hl5 (by omega) nD1 (fun x _ H' Q' s' kq => ?_) fun H6 s6 e6 => ?_
    · have bm := rg_mark g (pl rs - 1 - x)
      refine ⟨.ref r, rfl, r, dx, _, rfl, (s05.trans s') _ _ g1, fno, .ref a, rfl, .int (pl rs), rfl, _, _, rfl, rfl, .int x, rfl, _, _, rfl, rfl, a, _, rs, rfl, ha5.same s', g.sz, fun H2 s2 => ?_⟩
      exact ⟨r, ns, ps, (mP (mk rs) (pl rs - 1 - x)).toNat, _, by rw [Int.toNat_of_nonneg bm.1]; rfl, R.same ((s05.trans s').trans s2), get_D (by omega), kq H2 s2⟩
    -- the marks
    refine ⟨.ref l, rfl, l, rfl, ⟨_, sqL_same s6 hl5⟩, fun D2 nD2 => ?_⟩
    refine lc_mapL (h := mP (mk (mirL (mirF ns) rs))) (sqL_same s6 hl5) (by omega) nD2 (fun x _ H' Q' s' kq => ⟨.ref t, rfl, .int x, rfl, t, x, _, rfl, (ht5.same s6).same s', gt.sz, fun H2 s2 => kq H2 s2⟩) fun H7 s7 e7 => ?_
    refine ⟨.ref D1, rfl, .list _, .list _, dpL (lstNew e7), dpL (lstNew (s7 _ _ e6)), shapedL _, shapedL _, _, rfl, ?_⟩
    rw [eqvL, decide_eq_true (List.map_congr_left fun x _ => mP_mir g x)]
    refine iteF ?_
    have s57 := s6.trans s7
    have ht7 := ht5.same s57
    have ha7 := ha5.same s57
    have hl7 := sqL_same s57 hl5
    have s07 := s05.trans s57
    -- mirrored again
    refine ⟨.ref r, rfl, .ref t, rfl, r, t, _, ns, ps, rfl, R.same s07, ht7, gt, fun H8 u s8 hu => ?_⟩
    have gu := gt.mir M
    refine ⟨.ref a, rfl, .ref l, rfl, u, a, l, _, rs, xs, rfl, hu, ha7.same s8, gu.sz, g.sz, sqL_same s8 hl7, lx, by rw [pl_mir gt M, ept], fun p => rg_mP_mir2 g M p, fun H9 s9 => ⟨true, rfl, iteF ?_⟩⟩
    have s79 := s8.trans s9
    have s09 := s07.trans s79
    -- turned, mirrored
    refine ⟨.ref r, rfl, .ref a, rfl, .int b, rfl, a, b, rs, rfl, ha.same s09, g.sz, fun H10 v vs s10 hv tv => ?_⟩
    have gv := g.trn (by omega) tv
    refine ⟨r, v, vs, ns, ps, rfl, R.same (s09.trans s10), hv, gv, fun H11 y s11 hy => ?_⟩
    have gy := gv.mir M
    have s911 := s10.trans s11
    refine ⟨.ref t, rfl, .int b, rfl, _, _, rfl, rfl, t, 0 - b, _, rfl, (ht7.same s79).same s911, gt.sz, fun H12 z zs s12 hz tz => ?_⟩
    have gz := gt.trn (by omega) tz
    refine ⟨.ref l, rfl, y, z, l, _, zs, xs, rfl, hy.same s12, hz, gy.sz, gz.sz, sqL_same ((s79.trans s911).trans s12) hl7, lx, by rw [pl_mir gv M, trn_pl tv g.sz.rn, trn_pl tz gt.sz.rn, ept], fun p => ?_, fun H13 s13 => q H13 (((s09.trans s911).trans s12).trans s13)⟩
    rw [mP_mir gv, trn_pl tv g.sz.rn, trn_mP tv g.sz.rn, trn_mP tz gt.sz.rn, mP_mir g, show pl rs - 1 - p + b = pl rs - 1 - (p + (0 - b)) by omega]
/-! ### _law_small_right -/
abbrev nSR : List Str := ["_law_rule", "_law_ring", "_law_by", "_law_marks", "_law_at", "_law_mark"]
theorem scSR : FnScope nSR ["_law_rule", "_law_ring", "_law_by"] (defScope sSmallR) := ⟨rfl, rfl, rfl, by decide +kernel, rfl, by decide +kernel, by decide +kernel⟩
def spSR (K : PySem.W.Frag) (C : Addr) : Sp := fun vs H Q _ => ∃ (r a : Addr) (b : Int) (rs : List (Int × List Int)) (ns : List Int) (ps : List (List Int)), vs = [.ref r, .ref a, .int b] ∧ RuleAt K C H r ns ps ∧ Mir ns ∧ RingAt K H a rs ∧ Rg ns rs ∧ rs.length ≤ 90 ∧ pl rs ≤ 900 ∧
  ∀ H', Same H H' → Q (.bl true) H'
theorem mk_all {l : List Int} {n : Nat} (h : l.length = n) : l = (List.range n).map fun (i : Nat) => mP l ((0 : Int) + (i : Int)) := by
  subst h
  have z := fst_all (l := l)
  unfold fst at z
  exact z.symm
theorem ok_sr {f fL : Addr} {fd dL : FuncData} {tk : Tok} (F : Fun K "_law_small_right" "_law_small_right" sSmallR f fd) (T : Txt K mg C) (B : Bare mg) (ms : mg "MOST_SPELLED" = some (.int 6000 tk)) (D : RDefs K mg fR fP fS fM dR dP dS dM) (E : KDefs K mg C fMm fBm fRm fI fIr fN fA fK fW dMm dBm dRm dI dIr dN dA dK dW)
    (DT : DefAt K mg "turned" sTurned ["ring", "by"] fT dT) (DV : DefAt K mg "mirrored" sMirrored ["rule", "ring"] fV dV) (DX : DefAt K mg "stretch" sStretch ["ring", "first", "many"] fX dX) (DL : DefAt K mg "spelled" sSpelled ["ring"] fL dL) : FnOk P w K mg base CX0 6 f fd ["_law_rule", "_law_ring", "_law_by"] (spSR K C) := by
  have GT : FnOk P w K mg base CX0 4 fT dT ["ring", "by"] (spTurned K) := ok_turned DT.fn B D.R D.P D.S
  have GV : FnOk P w K mg base CX0 2 fV dV ["rule", "ring"] (spMirrored K C) := ok_mirrored DV.fn T B E.FR E.bR E.mR
  have GL : FnOk P w K mg base CX0 5 fL dL ["ring"] (spSpelled K) := ok_spelled DL.fn B ms D.R D.P D.S DX
  have GF : FnOk P w K mg base CX0 1 fRm dRm ["self", "mark"] (spMirrorM K C) := ok_mirrorM E.FR T
  refine F.ok scSR (fun vs H Q E h => ?_) (fun cdv A outer s H vs Q E' hr h => ?_)
  · obtain ⟨r, a, b, rs, ns, ps, rfl, _⟩ := h
    rfl
  · obtain ⟨r, a, b, rs, ns, ps, rfl, R, M, ha, g, hl90, h900, q⟩ := h
    have r1 := hr.mono (show 1 ≤ 5 by decide)
    have r2 := hr.mono (show 2 ≤ 5 by decide)
    have r4 := hr.mono (show 4 ≤ 5 by decide)
    obtain ⟨dx, a0, b0, t0, g1, g2, g3, g4⟩ := R.ex
    have fno := flds_no a0 b0 t0 (m := "mirror") (by decide +kernel) (by decide +kernel) (by decide +kernel)
    refine ⟨_, pss_cons (ps_set (i := 3) scSR.nd rfl (Or.inr rfl) (pe_call GL hr (by rfl) DL.mg DL.fn.kp DL.bi .nil pass0 (pa_cons (pv 1) pa_nil)))
      (pss_cons (ps_if (pt_cmpR (op_neD hr.units) (pe_call GL hr (by rfl) DL.mg DL.fn.kp DL.bi .nil pass0 (pa_cons (pe_call GT r4 (by rfl) DT.mg DT.fn.kp DT.bi .nil pass0 (pa_cons (pv 1) (pa_cons (pv 2) pa_nil))) pa_nil))
          (pe_tupleOf (by rfl) B.tuple (pe_lc (own := [("_law_at", 4)]) (g := gName 4) (tt := tYes) rfl scSR.nd (pi_range1 (by rfl) B.range (pa_cons (pe_callB call_len_seq (by rfl) B.len PySem.boot_len (pa_cons (pv 3) pa_nil)) pa_nil)) (blkOk_by (N := nSR) (sc := defScope sSmallR) (by decide +kernel)) (fun _ _ _ _ _ => pg_name (i := 4) scSR.nd rfl (Or.inl rfl)) (fun _ _ _ _ _ => pts_nil)
            (fun _ _ _ _ _ => pe_ix (ix_tupK (K := K) rfl) (pv 3) (pe_op op_mod (pe_op op_add (pv 4) (pv 2)) (pe_callB (call_lenK (K := K) rfl) (by rfl) B.len PySem.boot_len (pa_cons (pv 3) pa_nil))) (fun _ _ => rfl)))) (nomark _)) (pss_one (ps_ret pe_bl)) pss_nil)
      (pss_one (ps_ret (pe_cmpR (op_eqD hr.units) (pe_call GL hr (by rfl) DL.mg DL.fn.kp DL.bi .nil pass0 (pa_cons (pe_call GV r2 (by rfl) DV.mg DV.fn.kp DV.bi .nil pass0 (pa_cons (pv 0) (pa_cons (pv 1) pa_nil))) pa_nil))
          (pe_tupleOf (by rfl) B.tuple (pe_lc (own := [("_law_mark", 5)]) (g := gName 5) (tt := tYes) rfl scSR.nd (pi_tup (pe_backT (pv 3))) (blkOk_by (N := nSR) (sc := defScope sSmallR) (by decide +kernel)) (fun _ _ _ _ _ => pg_name (i := 5) scSR.nd rfl (Or.inl rfl)) (fun _ _ _ _ _ => pts_nil)
            (fun _ _ _ _ _ => pe_meth (pv 0) T.cl E.mR GF r1 E.bR .nil pass0 (pa_cons (pv 5) pa_nil)))) (nomark _))))), ?_⟩
    refine ⟨.ref a, rfl, a, rs, rfl, ha, g.sz, by omega, fun H1 t s1 et => ?_⟩
    have ml := mk_len g.sz.rn.nn
    have mne := mk_ne g.sz.rn g.sz.ne
    have mpos := List.length_pos_iff.mpr mne
    refine ⟨.ref a, rfl, .int b, rfl, a, b, rs, rfl, ha.same s1, g.sz, fun H2 u us s2 hu tu => ?_⟩
    have gu := g.trn (by omega) tu
    refine ⟨u, us, rfl, hu, gu.sz, by rw [trn_pl tu g.sz.rn]; omega, fun H3 v s3 ev => ?_⟩
    have et3 := (s2.trans s3) _ _ et
    have s13 := (s1.trans s2).trans s3
    refine ⟨.ref t, rfl, t, _, rfl, .inr (tupNew et3), (((mk rs).map V.int).length : Int), rfl, by rw [List.length_map]; omega, by rw [List.length_map]; omega, fun D1 nD1 => ?_⟩
    rw [Int.toNat_natCast, List.length_map]
    refine lc_mapG (h := fun x => mP (mk rs) (x + b)) (by omega) nD1 (fun i hi H' Q' s' kq => ?_) fun H4 s4 e4 => ?_
    · have et' := tupNew (K := K) (s' _ _ et3)
      refine ⟨.ref t, rfl, .int (0 + (i : Int)), rfl, .int b, rfl, _, _, rfl, rfl, .ref t, rfl, t, _, rfl, .inr et', _, _, rfl, rfl, by rw [List.length_map]; omega, t, _, _, .int (mP (mk rs) (0 + (i : Int) + b)), rfl, rfl, et', ?_, kq H' (Same.refl H')⟩
      rw [List.length_map]
      have bb := rest_in mne (0 + (i : Int) + b)
      rw [show (0 + (i : Int) + b) % ((mk rs).length : Int) = ((((0 + (i : Int) + b) % ((mk rs).length : Int)).toNat : Nat) : Int) by omega]
      refine atI_nat ?_
      rw [List.getElem?_map, get_D (by omega)]; rfl
    · refine .inl ⟨D1, _, rfl, lstNew e4, fun y ny => ?_⟩
      have sy := same_upd (o := .tup (((List.range (mk rs).length).map fun (i : Nat) => mP (mk rs) ((0 : Int) + (i : Int) + b)).map V.int)) ny
      refine ⟨RV.dI _, RV.dI _, dpT (tupNew (sy _ _ (s4 _ _ ev))), dpT (tupNew upd_same), shapedI _, shapedI _, _, rfl, ?_⟩
      have lu : (mk us).length = (mk rs).length := by
        have z := mk_len gu.sz.rn.nn
        rw [trn_pl tu g.sz.rn] at z; omega
      have eu : mk us = (List.range (mk rs).length).map fun (i : Nat) => mP (mk rs) ((0 : Int) + (i : Int) + b) := by
        rw [mk_all lu]
        exact List.map_congr_left fun i _ => trn_mP tu g.sz.rn _
      rw [eqvI, decide_eq_true eu]
      refine iteF ?_
      have s1y := (s13.trans s4).trans sy
      have ety := (s4.trans sy) _ _ et3
      -- mirrored
      refine ⟨.ref r, rfl, .ref a, rfl, r, a, rs, ns, ps, rfl, R.same s1y, ha.same s1y, g, fun H6 z s6 hz => ?_⟩
      have gz := g.mir M
      refine ⟨z, _, rfl, hz, gz.sz, by rw [pl_mir g M]; omega, fun H7 z2 s7 ez => ?_⟩
      have s17 := (s1y.trans s6).trans s7
      have et7 := (s6.trans s7) _ _ ety
      refine ⟨.ref t, rfl, t, _, rfl, tupNew et7, fun c nc => ⟨c, rfl, ⟨_, tupNew upd_same⟩, fun D2 nD2 => ?_⟩⟩
      have sc := same_upd (o := .tup ((mk rs).map V.int).reverse) nc
      have hc : SqT K (upd H7 c (.tup ((mk rs).map V.int).reverse)) c ((mk rs).reverse.map V.int) := tupNew (by rw [upd_same, List.map_reverse])
      generalize upd H7 c (.tup ((mk rs).map V.int).reverse) = H8 at sc hc nD2 ⊢
      refine lc_mapT (h := mirF ns) hc (by rw [List.length_reverse]; omega) nD2 (fun x hx H' Q' s' kq => ?_) fun H9 s9 e9 => ?_
      · have bx := marks_in g x (List.mem_reverse.mp hx)
        exact ⟨.ref r, rfl, r, dx, _, rfl, ((s17.trans sc).trans s') _ _ g1, fno, .int x, rfl, r, ns, ps, x.toNat, mirF ns x, by rw [Int.toNat_of_nonneg bx.1]; rfl, R.same ((s17.trans sc).trans s'), get_D (by omega), kq H' (Same.refl H')⟩
      · refine .inl ⟨D2, _, rfl, lstNew e9, fun d nd => ?_⟩
        have sd := same_upd (o := .tup (((mk rs).reverse.map (mirF ns)).map V.int)) nd
        refine ⟨RV.dI _, RV.dI _, dpT (tupNew (((sc.trans s9).trans sd) _ _ ez)), dpT (tupNew upd_same), shapedI _, shapedI _, ?_⟩
        rw [eqvI, decide_eq_true (mk_mir (mirF ns) rs)]
        exact q _ (((s17.trans sc).trans s9).trans sd)
end
end K6
set_option maxHeartbeats 4000000
namespace K6
open PySem PySem.Spec PyProof.Rows L2 RV
section
variable {P : Program} {w : World} {K : PySem.W.Frag} {mg : Str → Option Value} {base : Heap}
/-! ### _law_spots -/
abbrev nSpots : List Str := ["_law_pail_here", "_law_ring", "_law_found", "_law_at", "_law_times", "_law_word", "_law_turn"]
theorem scSpots : FnScope nSpots ["_law_pail_here", "_law_ring"] (defScope sSpots) := ⟨rfl, rfl, rfl, by decide +kernel, rfl, by decide +kernel, by decide +kernel⟩
def spSpots (K : PySem.W.Frag) : Sp := fun vs H Q _ => ∃ (p a : Addr) (t : Nat) (rs : List (Int × List Int)), vs = [.ref p, .ref a] ∧ PailAt H p t ∧ t ≤ 1500 ∧ RingAt K H a rs ∧ rs.length ≤ 30 ∧ (∀ r ∈ rs, r.2.length ≤ 3000) ∧
  ∀ (H' : Hp) (l : Addr) (xs : List Int) (t' : Nat), t' ≤ t + 6 → PailAt H' p t' → But p H H' → l ≠ p → H' l = some (.lst (xs.map V.int)) → xs.length ≤ 100 → Q (.ref l) H'
theorem ok_spots {f fD : Addr} {fd dD : FuncData} (F : Fun K "_law_spots" "_law_spots" sSpots f fd) (B : Bare mg) (DD : DefAt K mg "_law_draw" sDraw ["_law_pail_here", "_law_many"] fD dD) : FnOk P w K mg base CX0 2 f fd ["_law_pail_here", "_law_ring"] (spSpots K) := by
  have GD : FnOk P w K mg base CX0 1 fD dD ["_law_pail_here", "_law_many"] spDraw := ok_draw DD.fn
  refine F.ok scSpots (fun vs H Q E h => ?_) (fun cdv A outer s H vs Q E hr h => ?_)
  · obtain ⟨p, a, t, rs, rfl, _⟩ := h
    rfl
  · obtain ⟨p, a, t, rs, rfl, hp, ht, hR, l30, wl, q⟩ := h
    have two : (2 : Nat) ≤ sizeLine := by decide
    refine ⟨_, pss_cons (ps_par (i := 2) (j := 3) (by rfl) scSpots.nd rfl rfl (by decide) rfl rfl (pa_cons (pe_lst (pa_cons pe_int (pa_cons (pe_un un_neg pe_int) pa_nil))) (pa_cons pe_int pa_nil)) (by rfl))
      (pss_cons (ps_for PassesOwn.never rfl (pi_tup (pv 1)) (pg_tup rfl (pgs_cons (pg_name (i := 4) scSpots.nd rfl (Or.inl rfl)) (pgs_cons (pg_name (i := 5) scSpots.nd rfl (Or.inl rfl)) pgs_nil)))
        (pss_cons (ps_set (i := 3) scSpots.nd rfl (Or.inl rfl) (pe_op op_add (pv 3) (pe_op op_mul (pv 4) (pe_callB call_len_seq (by rfl) B.len PySem.boot_len (pa_cons (pv 5) pa_nil)))))
        (pss_one (ps_expr (pe_bm PySem.F.plainAttrs_list PySem.F.slot_list_extend PySem.F.type_list_extend mt_extend (pv 2) (pa_cons (pe_lst (pa_cons (pe_op op_sub (pv 3) pe_int) (pa_cons (pv 3) pa_nil))) pa_nil))))))
      (pss_one (ps_ret (pe_op op_cat (pv 2)
        (pe_lc (own := [("_law_turn", 6)]) (g := gName 6) (tt := tYes) rfl scSpots.nd (pi_range1 (by rfl) B.range (pa_cons pe_int pa_nil)) (blkOk_by (N := nSpots) (sc := defScope sSpots) (by decide +kernel)) (fun _ _ _ _ _ => pg_name (i := 6) scSpots.nd rfl (Or.inl rfl)) (fun _ _ _ _ _ => pts_nil)
          (fun _ _ _ _ _ => pe_op op_add (pe_op op_mul (pe_call GD hr (by rfl) DD.mg DD.fn.kp DD.bi .nil pass0 (pa_cons (pv 0) (pa_cons (pe_op op_pow pe_int pe_int) pa_nil))) (pe_op op_pow pe_int pe_int)) (pe_call GD hr (by rfl) DD.mg DD.fn.kp DD.bi .nil pass0 (pa_cons (pv 0) (pa_cons (pe_op op_pow pe_int pe_int) pa_nil))))))))), ?_⟩
    refine ⟨1, rfl, two, fun L nL => ⟨.ref L, .int 0, rfl, ?_⟩⟩
    have sL := same_upd (o := .lst [.int 0, .int (-1)]) nL
    have hLp : L ≠ p := pail_ne hp nL
    have hR0 := hR
    obtain ⟨ks, rfl, hT, hk⟩ := hR
    rw [List.length_map] at l30
    refine ⟨.ref a, rfl, a, rfl, ⟨_, sqT_same sL hT⟩, ?_⟩
    refine for_tup (K := K) (a := a) (xs := ks.map fun k => V.ref k.1) (fun i σ H' => ∃ (xs : List Int) (at_ : Int) (y4 y5 y6 : Option V), σ = [some (.ref p), some (.ref a), some (.ref L), some (.int at_), y4, y5, y6] ∧ Same H H' ∧ H' L = some (.lst (xs.map V.int)) ∧ xs.length = 2 + 2 * i)
      ⟨[0, -1], 0, none, none, none, rfl, sL, upd_same, rfl⟩ (fun i σ H' _ h => ?_) (fun i x σ H1 hx h => ?_) (fun σ H1 h => ?_)
    · obtain ⟨_, _, _, _, _, _, s', _⟩ := h
      exact sqT_same s' hT
    · obtain ⟨xs, at_, y4, y5, y6, rfl, s1, e1, l1⟩ := h
      obtain ⟨k, gk, rfl⟩ := map_at hx
      have km := List.mem_of_getElem? gk
      have il := (List.getElem?_eq_some_iff.mp gk).1
      have hk1 := (hk k km).same s1
      have kw : k.2.2.2.length ≤ 3000 := wl _ (List.mem_map_of_mem km)
      refine ⟨k.1, _, rfl, hk1.1, rfl, _, _, rfl, _, _, rfl, rfl, ?_⟩
      refine ⟨.int at_, rfl, .int k.2.2.1, rfl, .ref k.2.1, rfl, k.2.1, _, rfl, .inr hk1.2, _, _, rfl, rfl, .inr (by rw [List.length_map]; exact ⟨by omega, by omega⟩), _, _, rfl, rfl, ?_⟩
      refine ⟨.ref L, rfl, .inl ⟨rfl, _, lstNew e1⟩, _, rfl, _, _, rfl, rfl, _, rfl, two, fun M nM => ?_⟩
      have sM := same_upd (o := .lst [.int (at_ + k.2.2.1 * (((k.2.2.2.map V.int).length : Nat) : Int) - 1), .int (at_ + k.2.2.1 * (((k.2.2.2.map V.int).length : Nat) : Int))]) nM
      refine ⟨L, M, _, _, rfl, rfl, sM _ _ e1, upd_same, by rw [List.length_map, l1]; exact Nat.le_of_lt (few1 (by simp only [List.length_cons, List.length_nil]; omega)), ?_⟩
      refine ⟨xs ++ [at_ + k.2.2.1 * (((k.2.2.2.map V.int).length : Nat) : Int) - 1, at_ + k.2.2.1 * (((k.2.2.2.map V.int).length : Nat) : Int)], _, _, _, _, rfl, fun b o e => ?_, ?_, ?_⟩
      · rw [upd_ne (ne_of_none e nL)]; exact (s1.trans sM) b o e
      · rw [upd_same, List.map_append]; rfl
      · rw [List.length_append, l1]; simp only [List.length_cons, List.length_nil]; omega
    · obtain ⟨xs, at_, y4, y5, y6, rfl, s1, e1, l1⟩ := h
      rw [List.length_map] at l1
      have hp1 := pail_same hp s1
      refine ⟨.ref L, rfl, 3, rfl, by decide, by decide, fun D nD => ?_⟩
      have hDp : D ≠ p := pail_ne hp1 nD
      refine lc_range (lo := 0) (n := (3 : Int).toNat) (fun i H' => ∃ (ys : List Int) (t' : Nat), But p H1 H' ∧ PailAt H' p t' ∧ t' ≤ t + 2 * i ∧ H' D = some (.lst (ys.map V.int)) ∧ ys.length = i)
        ⟨[], t, But.of (same_upd nD), pail_new hp1 nD, Nat.le_refl _, upd_same, rfl⟩ (fun i H2 hi p => ?_) fun H2 p => ?_
      · obtain ⟨ys, t2, b2, hp2, ht2, e2, l2⟩ := p
        have hi3 : i < 3 := hi
        refine ⟨by simp [wipe, List.set_set], tt_yes ?_⟩
        refine ⟨.ref p, rfl, 10, 6, rfl, rfl, ⟨by decide, by decide, by decide⟩, p, t2, _, rfl, hp2, by omega, by decide, by decide, fun a6 t6 H6 a60 a61 ht6 hp6 b6 => ?_⟩
        have a61' : a6 < 1000000 := a61
        refine ⟨10, 23, rfl, rfl, ⟨by decide, by decide, by decide⟩, _, _, rfl, rfl, .inl ⟨by omega, by omega⟩, ?_⟩
        refine ⟨.ref p, rfl, 10, 6, rfl, rfl, ⟨by decide, by decide, by decide⟩, p, t6, _, rfl, hp6, by omega, by decide, by decide, fun a7 t7 H7 a70 a71 ht7 hp7 b7 => ?_⟩
        refine ⟨_, _, rfl, rfl, _, b7 _ _ (b6 _ _ e2 hDp) hDp, by rw [List.length_map, l2]; exact few1 (by omega), ?_⟩
        refine ⟨ys ++ [a6 * (10 : Int) ^ (23 : Int).toNat + a7], t7, fun b o e ne => ?_, pail_set hp7 hDp, by omega, by rw [upd_same, List.map_append]; rfl, by rw [List.length_append, l2]; rfl⟩
        rw [upd_ne (ne_of_none e nD)]; exact ((b2.trans b6).trans b7) b o e ne
      · obtain ⟨ys, t2, b2, hp2, ht2, e2, l2⟩ := p
        have l2 : ys.length = 3 := l2
        have ht2 : t2 ≤ t + 2 * 3 := ht2
        have eL2 := b2 _ _ e1 hLp
        refine ⟨L, D, _, _, rfl, rfl, eL2, e2, by rw [List.length_map, List.length_map, l1, l2]; exact Nat.le_of_lt (few1 (by omega)), fun Z nZ => ?_⟩
        rw [← List.map_append]
        exact q _ Z (xs ++ ys) t2 (by omega) (pail_new hp2 nZ) (((But.of s1).trans b2).trans (But.of (same_upd nZ))) (pail_ne hp2 nZ) upd_same (by rw [List.length_append]; omega)
end
end K6
set_option maxHeartbeats 4000000
namespace K6
open PySem PySem.Spec PyProof.Rows L2 RV
theorem RuleAt.pail {K : PySem.W.Frag} {C : Addr} {H H' : Hp} {p r : Addr} {t : Nat} {ns : List Int} {ps : List (List Int)} (h : RuleAt K C H r ns ps) (hp : PailAt H p t) (b : But p H H') : RuleAt K C H' r ns ps := by
  obtain ⟨dx, a, b0, t0, h1, h2, h3, h4⟩ := h.ex
  refine ⟨dx, a, b0, t0, b _ _ h1 fun z => ?_, sqT_pail hp b h2, tups_pail hp b h3, tups_pail hp b h4⟩
  obtain ⟨x, y, e, _⟩ := hp
  rw [z, e] at h1; cases h1
theorem lst_but {H H' : Hp} {p L : Addr} {xs : List V} (h : H L = some (.lst xs)) (b : But p H H') (n : L ≠ p) : H' L = some (.lst xs) := b _ _ h n
theorem beg_two : ∀ x ∈ ([0, 1] : List Int), Beg 2 (plainSteps 2 [[0, 1]]) x := by
  have e1 : [(0 : Int), 1] ∈ plainSteps 2 [[0, 1]] := mem_plain.mpr ⟨⟨by decide, by decide⟩, ⟨by decide, by decide⟩, .inl (List.mem_singleton.mpr rfl)⟩
  have e2 : [(1 : Int), 0] ∈ plainSteps 2 [[0, 1]] := mem_plain.mpr ⟨⟨by decide, by decide⟩, ⟨by decide, by decide⟩, .inr (List.mem_singleton.mpr rfl)⟩
  intro x hx
  simp only [List.mem_cons, List.not_mem_nil, or_false] at hx
  rcases hx with rfl | rfl
  · exact ⟨⟨by decide, by decide⟩, 1, e1, .step e2 (.here 0)⟩
  · exact ⟨⟨by decide, by decide⟩, 0, e2, .step e1 (.here 1)⟩
theorem drw_two : Drw 2 [[0, 1]] := ⟨fun p hp => by rw [List.mem_singleton.mp hp]; exact ⟨0, 1, rfl, ⟨by decide, by decide⟩, ⟨by decide, by decide⟩⟩, by decide, [[0, 1]], by decide, fun p hp => .inl hp⟩
theorem pe_fldK {X : Cx} {K : PySem.W.Frag} {e : Expr} {f : Str} {pos : Pos} {ta : TE} (h : X.K = K) (he : PE X e ta) (hb : attributeBase e f X.env (eval e X.env) = eval e X.env) : PE X (.Attribute e f pos) (tFld K ta f) := h ▸ pe_fld he hb
/-- such runs are a ring of the law's kind -/
theorem Lr.rg {ns : List Int} {ps : List (List Int)} {x : Int} {rs : List (Int × List Int)} (h : Lr (ns.length : Int) ps x rs) (ne : rs ≠ []) (l : rs.length ≤ 12) : Rg ns rs :=
  ⟨⟨by omega, ne, h.rn, fun r hr => Nat.le_trans (h.wo r hr) (by decide)⟩, fun r hr => Nat.le_trans (h.wo r hr) (by decide), h.inn⟩
section
variable {P : Program} {w : World} {K : PySem.W.Frag} {mg : Str → Option Value} {base : Heap}
/-! ### law -/
abbrev nLaw : List Str := ["_law_script", "_law_k", "_law_pail_here", "_law_mirrors_here", "_law_steps_here", "_law_rule", "_law_starts_here", "_law_start", "_law_ring", "_law_words", "_law_small", "_law_turn", "_law_some", "_law_many", "_law_kept", "_law_spots_here", "_law_far", "_law_by"]
theorem scLaw : FnScope nLaw ["_law_script"] (defScope sLaw) := ⟨rfl, rfl, rfl, by decide +kernel, rfl, by decide +kernel, by decide +kernel⟩
def spLaw (K : PySem.W.Frag) : Sp := fun vs H Q _ => ∃ (a : Addr) (ns : List Int), vs = [.ref a] ∧ SqL K H a (ns.map V.int) ∧ ns.length ≤ 63 ∧ ∀ H', Q (.bl true) H'
structure LDefs (K : PySem.W.Frag) (mg : Str → Option Value) (fPl fPa fD fO fDM fDS fLO fLB fLS fC fRu fSp fTR fMR fSR : Addr) (dPl dPa dD dO dDM dDS dLO dLB dLS dC dRu dSp dTR dMR dSR : FuncData) : Prop where
  plain : DefAt K mg "plain_rule" sPlain ["many", "pairs"] fPl dPl
  pail : DefAt K mg "_law_pail" sPail ["_law_script", "_law_at"] fPa dPa
  draw : DefAt K mg "_law_draw" sDraw ["_law_pail_here", "_law_many"] fD dD
  of : DefAt K mg "_law_of" sOf ["_law_pail_here", "_law_some"] fO dO
  mirrors : DefAt K mg "_law_mirrors" sDMirrors ["_law_pail_here", "_law_many"] fDM dDM
  steps : DefAt K mg "_law_steps" sDSteps ["_law_pail_here", "_law_mirrors_here"] fDS dDS
  off : DefAt K mg "_law_off" sLOff ["_law_steps_here", "_law_goal"] fLO dLO
  behind : DefAt K mg "_law_behind" sLBehind ["_law_steps_here", "_law_mark"] fLB dLB
  starts : DefAt K mg "_law_starts" sLStarts ["_law_steps_here", "_law_many"] fLS dLS
  closed : DefAt K mg "_law_closed" sClosed ["_law_pail_here", "_law_steps_here", "_law_start", "_law_most"] fC dC
  runs : DefAt K mg "_law_runs" sRuns ["_law_pail_here", "_law_steps_here", "_law_start", "_law_few"] fRu dRu
  spots : DefAt K mg "_law_spots" sSpots ["_law_pail_here", "_law_ring"] fSp dSp
  tr : DefAt K mg "_law_turned_right" sTurnedR ["_law_rule", "_law_ring", "_law_by", "_law_spots_here"] fTR dTR
  mr : DefAt K mg "_law_mirrored_right" sMirroredR ["_law_rule", "_law_ring", "_law_by", "_law_spots_here"] fMR dMR
  sr : DefAt K mg "_law_small_right" sSmallR ["_law_rule", "_law_ring", "_law_by"] fSR dSR
variable {C fIn fR fP fS fM fPl fPa fD fO fDM fDS fLO fLB fLS fC fRu fSp fTR fMR fSR : Addr} {dIn dR dP dS dM dPl dPa dD dO dDM dDS dLO dLB dLS dC dRu dSp dTR dMR dSR : FuncData}
theorem ok_law {f : Addr} {fd : FuncData} (F : Fun K "law" "law" sLaw f fd) (T : Txt K mg C) (B : Bare mg) (MK : Mk K C fIn) (bI : Binds K dIn ["self", "mirrors", "steps"] []) (GI : FnOk P w K mg base CX0 6 fIn dIn ["self", "mirrors", "steps"] (spInit K C))
    (D : RDefs K mg fR fP fS fM dR dP dS dM) (L : LDefs K mg fPl fPa fD fO fDM fDS fLO fLB fLS fC fRu fSp fTR fMR fSR dPl dPa dD dO dDM dDS dLO dLB dLS dC dRu dSp dTR dMR dSR)
    (GTR : FnOk P w K mg base CX0 6 fTR dTR ["_law_rule", "_law_ring", "_law_by", "_law_spots_here"] (spTR K C)) (GMR : FnOk P w K mg base CX0 6 fMR dMR ["_law_rule", "_law_ring", "_law_by", "_law_spots_here"] (spTR K C)) (GSR : FnOk P w K mg base CX0 6 fSR dSR ["_law_rule", "_law_ring", "_law_by"] (spSR K C)) :
    FnG P w K mg base CX0 9 f fd ["_law_script"] (spLaw K) := by
  have GPl : FnOk P w K mg base CX0 8 fPl dPl ["many", "pairs"] (spPlain K C) := ok_plain L.plain.fn T MK bI GI B
  have GPa : FnOk P w K mg base CX0 1 fPa dPa ["_law_script", "_law_at"] (spPail K) := ok_pail L.pail.fn B
  have GD : FnOk P w K mg base CX0 1 fD dD ["_law_pail_here", "_law_many"] spDraw := ok_draw L.draw.fn
  have GO : FnOk P w K mg base CX0 2 fO dO ["_law_pail_here", "_law_some"] (spOf K) := ok_of L.of.fn L.draw B
  have GDM : FnOk P w K mg base CX0 2 fDM dDM ["_law_pail_here", "_law_many"] (spDMirrors K) := ok_dmirrors L.mirrors.fn L.draw B
  have GDS : FnOk P w K mg base CX0 3 fDS dDS ["_law_pail_here", "_law_mirrors_here"] (spDSteps K) := ok_dsteps L.steps.fn L.draw L.of B
  have GLS : FnOk P w K mg base CX0 2 fLS dLS ["_law_steps_here", "_law_many"] (spStarts K) := ok_starts L.starts.fn B L.off L.behind
  have GC : FnOk P w K mg base CX0 3 fC dC ["_law_pail_here", "_law_steps_here", "_law_start", "_law_most"] (spClosed K) := ok_closed L.closed.fn B L.off L.behind L.draw L.of
  have GRu : FnOk P w K mg base CX0 4 fRu dRu ["_law_pail_here", "_law_steps_here", "_law_start", "_law_few"] (spRuns K) := ok_runs L.runs.fn B L.closed L.off L.behind L.draw L.of
  have GSp : FnOk P w K mg base CX0 2 fSp dSp ["_law_pail_here", "_law_ring"] (spSpots K) := ok_spots L.spots.fn B L.draw
  have GP : FnOk P w K mg base CX0 2 fP dP ["ring"] (spRPlaces K) := ok_rplaces D.P.fn B D.R
  refine okG F scLaw (fun vs H Q E h => ?_) (fun cdv A outer s H vs Q E gd hr h => ?_)
  · obtain ⟨a, ns, rfl, _⟩ := h
    rfl
  · obtain ⟨a, cs, rfl, hS, hlen, q⟩ := h
    have r1 := hr.mono (show 1 ≤ 8 by decide)
    have r2 := hr.mono (show 2 ≤ 8 by decide)
    have r3 := hr.mono (show 3 ≤ 8 by decide)
    have r4 := hr.mono (show 4 ≤ 8 by decide)
    have r6 := hr.mono (show 6 ≤ 8 by decide)
    have r7 := hr.mono (show 7 ≤ 8 by decide)
    have hu := un65 hr
    have one : (1 : Nat) ≤ sizeLine := by decide
    have two : (2 : Nat) ≤ sizeLine := by decide
    have three : (3 : Nat) ≤ sizeLine := by decide
    refine ⟨_, pss_cons (ps_for PassesOwn.never rfl (pi_range1 (by rfl) B.range (pa_cons (pe_callB (call_max2 rfl) (by rfl) B.max (by decide +kernel) (pa_cons pe_int (pa_cons (pe_callB (call_min2 rfl) (by rfl) B.min (by decide +kernel) (pa_cons pe_int (pa_cons (pe_callB call_len_seq (by rfl) B.len PySem.boot_len (pa_cons (pv 0) pa_nil)) pa_nil))) pa_nil))) pa_nil)) (pg_name (i := 1) scLaw.nd rfl (Or.inl rfl))
        (pss_cons (ps_set (i := 2) scLaw.nd rfl (Or.inr rfl) (pe_call GPa r1 (by rfl) L.pail.mg L.pail.fn.kp L.pail.bi .nil pass0 (pa_cons (pv 0) (pa_cons (pv 1) pa_nil))))
        (pss_cons (ps_set (i := 3) scLaw.nd rfl (Or.inl rfl) (pe_call GDM r2 (by rfl) L.mirrors.mg L.mirrors.fn.kp L.mirrors.bi .nil pass0 (pa_cons (pv 2) (pa_cons (pe_op op_add pe_int (pe_call GD r1 (by rfl) L.draw.mg L.draw.fn.kp L.draw.bi .nil pass0 (pa_cons (pv 2) (pa_cons pe_int pa_nil)))) pa_nil))))
        (pss_cons (ps_set (i := 4) scLaw.nd rfl (Or.inl rfl) (pe_call GDS r3 (by rfl) L.steps.mg L.steps.fn.kp L.steps.bi .nil pass0 (pa_cons (pv 2) (pa_cons (pv 3) pa_nil))))
        (pss_cons (ps_asg (pe_tup (pa_cons (pe_make MK GI r7 (by rfl) T.mgC bI .nil pass0 (pa_cons (pv 3) (pa_cons (pv 4) pa_nil))) (pa_cons (pe_call GLS r2 (by rfl) L.starts.mg L.starts.fn.kp L.starts.bi .nil pass0 (pa_cons (pv 4) (pa_cons (pe_callB call_len_seq (by rfl) B.len PySem.boot_len (pa_cons (pv 3) pa_nil)) pa_nil))) pa_nil)))
          (pg_tup rfl (pgs_cons (pg_name (i := 5) scLaw.nd rfl (Or.inr rfl)) (pgs_cons (pg_name (i := 6) scLaw.nd rfl (Or.inl rfl)) pgs_nil))))
        (pss_cons (ps_if (pt_cmpR (op_eqD hr.units) (pv 6) (pe_lst pa_nil) (nomark _))
          (pss_one (ps_asg (pe_tup (pa_cons (pe_call GPl hr (by rfl) L.plain.mg L.plain.fn.kp L.plain.bi .nil pass0 (pa_cons pe_int (pa_cons (pe_tup (pa_cons (pe_tup (pa_cons pe_int (pa_cons pe_int pa_nil))) pa_nil)) pa_nil))) (pa_cons (pe_lst (pa_cons pe_int (pa_cons pe_int pa_nil))) pa_nil)))
            (pg_tup rfl (pgs_cons (pg_name (i := 5) scLaw.nd rfl (Or.inr rfl)) (pgs_cons (pg_name (i := 6) scLaw.nd rfl (Or.inl rfl)) pgs_nil))))) pss_nil)
        (pss_cons (ps_set (i := 7) scLaw.nd rfl (Or.inr rfl) (pe_call GO r2 (by rfl) L.of.mg L.of.fn.kp L.of.bi .nil pass0 (pa_cons (pv 2) (pa_cons (pv 6) pa_nil))))
        (pss_cons (ps_par (i := 8) (j := 9) (by rfl) scLaw.nd rfl rfl (by decide) rfl rfl (pa_cons (pe_call GRu r4 (by rfl) L.runs.mg L.runs.fn.kp L.runs.bi .nil pass0 (pa_cons (pv 2) (pa_cons (pe_fld (pv 5) rfl) (pa_cons (pv 7) (pa_cons pe_int pa_nil)))))
            (pa_cons (pe_op op_add pe_int (pe_call GD r1 (by rfl) L.draw.mg L.draw.fn.kp L.draw.bi .nil pass0 (pa_cons (pv 2) (pa_cons pe_int pa_nil)))) pa_nil)) (by rfl))
        (pss_cons (ps_set (i := 10) scLaw.nd rfl (Or.inl rfl) (pe_tupleOf (by rfl) B.tuple
            (pe_lc (own := [("_law_turn", 11)]) (g := gName 11) (tt := tYes) rfl scLaw.nd (pi_range1 (by rfl) B.range (pa_cons (pv 9) pa_nil)) (blkOk_by (N := nLaw) (sc := defScope sLaw) (by decide +kernel)) (fun _ _ _ _ _ => pg_name (i := 11) scLaw.nd rfl (Or.inl rfl)) (fun _ _ _ _ _ => pts_nil)
              (fun _ _ _ _ _ => pe_tup (pa_cons (pe_op op_add pe_int (pe_call GD r1 (by rfl) L.draw.mg L.draw.fn.kp L.draw.bi .nil pass0 (pa_cons (pv 2) (pa_cons pe_int pa_nil))))
                (pa_cons (pe_call GC r3 (by rfl) L.closed.mg L.closed.fn.kp L.closed.bi .nil pass0 (pa_cons (pv 2) (pa_cons (pe_fldK (K := K) rfl (pv 5) rfl) (pa_cons (pv 7) (pa_cons pe_int pa_nil))))) pa_nil))))))
        (pss_one (ps_for PassesOwn.never rfl (pi_tup (pe_tup (pa_cons (pv 8) (pa_cons (pv 10) pa_nil)))) (pg_name (i := 12) scLaw.nd rfl (Or.inl rfl))
          (pss_cons (ps_par3 (i := 13) (j := 14) (l := 15) rfl scLaw.nd rfl rfl rfl (by decide) (by decide) (by decide) rfl rfl rfl (pa_cons (pe_call GP r2 (by rfl) D.P.mg D.P.fn.kp D.P.bi .nil pass0 (pa_cons (pv 12) pa_nil)) (pa_cons (pe_callB (call_reprD gd hu) (by rfl) B.repr (by decide +kernel) (pa_cons (pv 12) pa_nil)) (pa_cons (pe_call GSp r2 (by rfl) L.spots.mg L.spots.fn.kp L.spots.bi .nil pass0 (pa_cons (pv 2) (pa_cons (pv 12) pa_nil))) pa_nil))) (by rfl))
          (pss_cons (ps_set (i := 16) scLaw.nd rfl (Or.inl rfl) (pe_op op_sub (pe_op op_mul (pe_call GD r1 (by rfl) L.draw.mg L.draw.fn.kp L.draw.bi .nil pass0 (pa_cons (pv 2) (pa_cons (pe_op op_pow pe_int pe_int) pa_nil))) (pe_op op_pow pe_int pe_int)) (pe_op op_pow pe_int pe_int)))
          (pss_cons (ps_for PassesOwn.never rfl (pi_tup (pe_tup (pa_cons pe_int (pa_cons pe_int (pa_cons (pe_un un_neg pe_int) (pa_cons (pe_op op_mul (pe_ix ix_tup (pe_ix ix_tup (pv 12) pe_int (fun _ _ => rfl)) pe_int (fun _ _ => rfl)) (pe_callB call_len_seq (by rfl) B.len PySem.boot_len (pa_cons (pe_ix ix_tup (pe_ix ix_tup (pv 12) pe_int (fun _ _ => rfl)) pe_int (fun _ _ => rfl)) pa_nil)))
                (pa_cons (pv 13) (pa_cons (pe_op op_sub (pv 13) pe_int) (pa_cons (pe_call GD r1 (by rfl) L.draw.mg L.draw.fn.kp L.draw.bi .nil pass0 (pa_cons (pv 2) (pa_cons pe_int pa_nil))) (pa_cons (pv 16) pa_nil)))))))))) (pg_name (i := 17) scLaw.nd rfl (Or.inl rfl))
              (pss_cons (ps_if (PW.pt (pw_or (pt_not (pt_val (pe_call GTR r6 (by rfl) L.tr.mg L.tr.fn.kp L.tr.bi .nil pass0 (pa_cons (pv 5) (pa_cons (pv 12) (pa_cons (pv 17) (pa_cons (pv 15) pa_nil)))))))
                  (pw_or1 (pt_not (pt_val (pe_call GMR r6 (by rfl) L.mr.mg L.mr.fn.kp L.mr.bi .nil pass0 (pa_cons (pv 5) (pa_cons (pv 12) (pa_cons (pv 17) (pa_cons (pv 15) pa_nil)))))))))) (pss_one (ps_ret pe_bl)) pss_nil)
              (pss_one (ps_if (PW.pt (pw_and (pt_cmpR op_lt (pv 13) pe_int (nomark _)) (pw_and1 (pt_not (pt_val (pe_call GSR r6 (by rfl) L.sr.mg L.sr.fn.kp L.sr.bi .nil pass0 (pa_cons (pv 5) (pa_cons (pv 12) (pa_cons (pv 17) pa_nil))))))))) (pss_one (ps_ret pe_bl)) pss_nil))))
          (pss_one (ps_if (pt_cmpR op_ne (pe_callB (call_reprD gd hu) (by rfl) B.repr (by decide +kernel) (pa_cons (pv 12) pa_nil)) (pv 14) (nomark _)) (pss_one (ps_ret pe_bl)) pss_nil))))))))))))))))
      (pss_one (ps_ret pe_bl)), ?_⟩
    refine ⟨.ref a, rfl, a, _, rfl, .inl hS, 3, _, rfl, 1, _, rfl, ?_⟩
    have vb : ∀ n : Int, 0 ≤ n → n ≤ 63 → 1 ≤ (if (if n < 3 then n else 3) > 1 then (if n < 3 then n else 3) else 1) ∧ (if (if n < 3 then n else 3) > 1 then (if n < 3 then n else 3) else 1) ≤ 3 := fun n _ _ => by
      split <;> split <;> omega
    have vb1 := vb ((cs.map V.int).length : Int) (by omega) (by rw [List.length_map]; omega)
    refine ⟨_, rfl, by omega, by omega, ?_⟩
    refine for_range (lo := 0) (n := _) (fun i σ H' => (∃ ys : List (Option V), ys.length = 17 ∧ σ = some (.ref a) :: ys) ∧ Same H H')
      ⟨⟨List.replicate 17 none, rfl, rfl⟩, Same.refl H⟩ ?_ ?_
    · rintro i σ H1 hi ⟨⟨ys, ly, rfl⟩, s1⟩
      have hi3 : i < 64 := by omega
      obtain ⟨y1, y2, y3, y4, y5, y6, y7, y8, y9, y10, y11, y12, y13, y14, y15, y16, y17, rfl⟩ : ∃ y1 y2 y3 y4 y5 y6 y7 y8 y9 y10 y11 y12 y13 y14 y15 y16 y17, ys = [y1, y2, y3, y4, y5, y6, y7, y8, y9, y10, y11, y12, y13, y14, y15, y16, y17] := by
        match ys, ly with
        | [y1, y2, y3, y4, y5, y6, y7, y8, y9, y10, y11, y12, y13, y14, y15, y16, y17], _ => exact ⟨_, _, _, _, _, _, _, _, _, _, _, _, _, _, _, _, _, rfl⟩
      refine ⟨.ref a, rfl, .int (0 + (i : Nat)), rfl, a, cs, i, by rw [Int.zero_add]; rfl, s1.seq hS, hi3, fun H2 p s2 np hp2 => ?_⟩
      have b02 : Same H1 H2 := s2
      -- mirrors
      refine ⟨.ref p, rfl, .ref p, rfl, p, 0, 8, rfl, hp2, by omega, by decide, by decide, fun m0 t3 H3 m00 m01 ht3 hp3 b3 => ⟨1, m0, rfl, rfl, ?_⟩⟩
      obtain ⟨m, em⟩ : ∃ m : Nat, 1 + m0 = (m : Int) := ⟨(1 + m0).toNat, by omega⟩
      refine ⟨p, t3, m, by rw [← em]; rfl, hp3, by omega, by omega, by omega, fun H4 u t4 ns hp4 ht4 b4 hT4 M => ?_⟩
      have b04 := same_but s2 np (b3.trans b4)
      -- steps
      refine ⟨.ref p, rfl, .ref u, rfl, p, u, t4, ns, rfl, hp4, by omega, hT4, M, fun H5 c t5 ps hp5 ht5 b5 hC5 S => ?_⟩
      have hT5 := sqT_pail hp4 b5 hT4
      have b05 := same_but b04 np b5
      -- Rule
      refine ⟨.ref u, rfl, .ref c, rfl, fun r dx nr ndr ner => make_rule (ns := ns) (ps := ps) hT5 hC5.tups M S nr ndr ner fun H6 s6 R6 => ?_⟩
      have hC6 := (hC5.tups (K := K)).same s6
      have hT6 := sqT_same s6 hT5
      have h8 := M.few
      have hP : ∀ p ∈ ps, Pr (ns.length : Int) p := fun p hp => S.pair p hp
      refine ⟨.ref c, rfl, .ref u, rfl, u, _, rfl, .inr hT6, c, ns.length, ps, by rw [List.length_map]; rfl, hC6, hP, h8, S.few, fun H7 l0 xs0 s7 nl0 el0 lx0 bx0 => ⟨two, fun T0 nT0 => ?_⟩⟩
      have sT := same_upd (o := .tup [.ref r, .ref l0]) nT0
      refine ⟨T0, _, rfl, tupNew upd_same, rfl, _, _, rfl, _, _, rfl, rfl, ?_⟩
      have s58 := (s6.trans s7).trans sT
      have hp8 := pail_same hp5 s58
      have R8 := R6.same (s7.trans sT)
      have el8 := sT _ _ el0
      have b08 := b05.trans s58
      have hl0p : l0 ≠ p := pail_ne (pail_same hp5 s6) nl0
      generalize upd H7 T0 (.tup [.ref r, .ref l0]) = H8 at hp8 R8 el8 b08 ⊢
      clear s58 sT nT0 R6 hC6 hT6 hC5 hT5 hp4 hT4 hp3 b3 b4 b04 b05 b5 hp2
      dsimp only
      refine seq_mid (fun σ H' => ∃ (r l : Addr) (ns xs : List Int) (ps : List (List Int)), σ = [some (.ref a), some (.int (0 + (i : Nat))), some (.ref p), some (.ref u), some (.ref c), some (.ref r), some (.ref l), y7, y8, y9, y10, y11, y12, y13, y14, y15, y16, y17] ∧ Same H1 H' ∧ PailAt H' p t5 ∧ RuleAt K C H' r ns ps ∧ Mir ns ∧ Stp ns ps ∧ l ≠ p ∧ H' l = some (.lst (xs.map V.int)) ∧ xs ≠ [] ∧ xs.length ≤ 8 ∧ ∀ x ∈ xs, Beg ns.length ps x) ?_ fun tail => ?_
      · rintro σ H9 ⟨r, l, ns, xs, ps, rfl, b9, hp9, R, M, S, hlp, el, hx, lx, bx⟩
        have h8 := M.few
        have hP : ∀ p ∈ ps, Pr (ns.length : Int) p := fun p hp => S.pair p hp
        -- start
        refine ⟨.ref p, rfl, .ref l, rfl, p, l, t5, _, rfl, hp9, by omega, lstNew el, hlp, by rw [List.length_map]; exact List.length_pos_iff.mpr hx, by rw [List.length_map]; omega, fun j v tA HA gv htA hpA bA => ?_⟩
        obtain ⟨x, gx, rfl⟩ := map_at gv
        have hb := bx x (List.mem_of_getElem? gx)
        have RA := R.pail hp9 bA
        have b1A := same_but b9 np bA
        obtain ⟨dx, a0, b0, t0, g1, g2, g3, g4⟩ := RA.ex
        -- runs
        refine ⟨.ref p, rfl, .ref r, rfl, r, C, dx, _, _, rfl, g1, T.cl, T.nS, flds_s _ _ _, .int x, rfl, p, b0, tA, 4, ns.length, x, ps, rfl, hpA, by omega, g3, hP, h8, S.few, hb, by decide, by decide, fun HB Tr rs tB htB hpB bB hRB lr ne l12 => ?_⟩
        have RB := RA.pail hpA bB
        have b1B := same_but b1A np bB
        refine ⟨.ref p, rfl, p, tB, 3, rfl, hpB, by omega, by decide, by decide, fun w0 tC HC w00 w01 htC hpC bC => ⟨_, _, rfl, rfl, _, _, rfl, ?_⟩⟩
        have RC := RB.pail hpB bC
        have b1C := same_but b1B np bC
        have hRC := hRB.pail hpB bC
        -- small
        refine ⟨.int (1 + w0), rfl, (1 + w0), rfl, by omega, by omega, fun Dl nDl => ?_⟩
        have hDp : Dl ≠ p := pail_ne hpC nDl
        refine lc_range (lo := 0) (n := (1 + w0).toNat) (fun i H' => ∃ (qs : List (Int × List Int)) (t' : Nat), But p HC H' ∧ PailAt H' p t' ∧ t' ≤ tC + 25 * i ∧ Lot K H' Dl qs ∧ Lr (ns.length : Int) ps x qs ∧ qs.length = i)
          ⟨[], tC, But.of (same_upd nDl), pail_new hpC nDl, Nat.le_refl _, Lot.nil, Lr.nil _ _ _, rfl⟩ (fun i H' hi pv => ?_) fun HD pv => ?_
        · obtain ⟨qs, t2, b2, hp2, ht2, lot2, lr2, l2⟩ := pv
          have hi3 : i < 3 := by omega
          refine ⟨by simp [wipe, List.set_set], tt_yes ?_⟩
          refine ⟨.ref p, rfl, p, t2, 3, rfl, hp2, by omega, by decide, by decide, fun a3 t3 H3 a30 a31 ht3 hp3 b3 => ⟨_, _, rfl, rfl, ?_⟩⟩
          have R3 := (RC.pail hpC b2).pail hp2 b3
          have lot3 := lot2.but hp2 b3 hDp
          obtain ⟨dx, a0, b0, t0, g1, g2, g3, g4⟩ := R3.ex
          refine ⟨.ref p, rfl, .ref r, rfl, r, C, dx, _, _, rfl, g1, T.cl, T.nS, flds_s _ _ _, .int x, rfl, p, b0, t3, 4, ns.length, x, ps, rfl, hp3, by omega, g3, hP, h8, S.few, hb, by decide, by decide, fun H4 Tw ws t4 ht4 hp4 b4 hT4 lo ne4 lw inn => ⟨two, fun T1 nT1 => ?_⟩⟩
          have s1' := same_upd (o := .tup [.int (1 + a3), .ref Tw]) nT1
          have lot5 := (lot3.but hp3 b4 hDp).same s1'
          obtain ⟨acc, ea, la⟩ := lot5.list
          refine ⟨acc, ea, by rw [la]; exact few1 (by omega), ?_⟩
          refine ⟨qs ++ [(1 + a3, ws)], t4, fun b o e ne => by rw [upd_ne (ne_of_none e nDl)]; exact (((b2.trans b3).trans b4).trans (But.of s1')) b o e ne, pail_set (pail_same hp4 s1') hDp, by omega, lot5.add (j := (T1, Tw, 1 + a3, ws)) ea ⟨tupNew upd_same, sqT_same s1' hT4⟩, ?_, by rw [List.length_append, l2]; rfl⟩
          exact lr2.add (fun r hr => by rw [List.mem_singleton.mp hr]; exact ⟨by show 1 ≤ 1 + a3; omega, ne4⟩) (fun r hr => by rw [List.mem_singleton.mp hr]; show ws.length ≤ 14; omega) (fun r hr => by rw [List.mem_singleton.mp hr]; show 1 + a3 ≤ 10 ^ 27; omega) (fun r hr => by rw [List.mem_singleton.mp hr]; exact inn) (by rw [mk_one]; exact lo.rp _)
        · obtain ⟨qs, tD, bD, hpD, htD, lotD, lrD, lD⟩ := pv
          obtain ⟨acc, ea, la⟩ := lotD.list
          refine .inl ⟨Dl, _, rfl, lstNew ea, fun sm nsm => ?_⟩
          have ssm := same_upd (o := .tup acc) nsm
          have hsm := lotD.ring ea nsm
          refine ⟨.ref Tr, rfl, .ref sm, rfl, two, fun T2 nT2 => ⟨T2, rfl, ⟨_, tupNew upd_same⟩, ?_⟩⟩
          have sT2 := same_upd (o := .tup [.ref Tr, .ref sm]) nT2
          have sE := ssm.trans sT2
          have hpE := pail_same hpD sE
          have RE := (RC.pail hpC bD).same sE
          have hRE := (hRC.pail hpC bD).same sE
          have hsE := hsm.same sT2
          have eT2 := upd_same (H := upd HD sm (.tup acc)) (a := T2) (o := .tup [.ref Tr, .ref sm])
          have b1E := (same_but b1C np bD).trans sE
          have htE : tD ≤ 500 := by omega
          generalize upd (upd HD sm (.tup acc)) T2 (.tup [.ref Tr, .ref sm]) = HE at hpE RE hRE hsE eT2 b1E ⊢
          have lq : qs ≠ [] := fun z => by rw [z] at lD; have : (0 : Nat) = (1 + w0).toNat := lD; omega
          have lq3 : qs.length ≤ 12 := by omega
          have both : ∀ q ∈ [Tr, sm], ∃ ks, RingAt K HE q ks ∧ Rg ns ks ∧ Cyc ps (mk ks) ∧ ks.length ≤ 12 ∧ ∀ r ∈ ks, r.1 ≤ 10 ^ 27 := fun q hq => by
            simp only [List.mem_cons, List.not_mem_nil, or_false] at hq
            rcases hq with rfl | rfl
            · exact ⟨rs, hRE, lr.rg ne l12, lr.loop.cyc (mk_ne lr.rn ne), l12, lr.ti⟩
            · exact ⟨qs, hsE, lrD.rg lq lq3, lrD.loop.cyc (mk_ne lrD.rn lq), lq3, lrD.ti⟩
          refine for_tup (K := K) (a := T2) (xs := [Tr, sm].map V.ref) (fun j σ H' => ∃ (t' : Nat) (z11 z12 z13 z14 z15 z16 z17 : Option V), σ = [some (.ref a), some (.int (0 + (i : Nat))), some (.ref p), some (.ref u), some (.ref c), some (.ref r), some (.ref l), some (.int x), some (.ref Tr), some (.int (1 + w0)), some (.ref sm), z11, z12, z13, z14, z15, z16, z17] ∧ But p HE H' ∧ PailAt H' p t' ∧ t' ≤ tD + 10 * j)
            ⟨tD, _, _, _, _, _, _, _, rfl, But.refl _ _, hpE, Nat.le_refl _⟩ (fun j σ H' _ h => ?_) (fun j v σ HF hv h => ?_) (fun σ H' h => ?_)
          · obtain ⟨_, _, _, _, _, _, _, _, _, b', _⟩ := h
            exact sqT_pail hpE b' (tupNew eT2)
          · obtain ⟨tF, z11, z12, z13, z14, z15, z16, z17, rfl, bF, hpF, htF⟩ := h
            obtain ⟨qa, gq, rfl⟩ := map_at hv
            have j2 : j < 2 := (List.getElem?_eq_some_iff.mp gq).1
            obtain ⟨ks, hK, rg, cy, l12', ti⟩ := both qa (List.mem_of_getElem? gq)
            have hKF := hK.pail hpE bF
            have RF := RE.pail hpE bF
            have sh := rg.shows h8 ti
            -- many, kept, spots
            refine ⟨.ref qa, rfl, qa, ks, rfl, hKF, by omega, rg.sz.wo, fun HG sG => ?_⟩
            have hKG := hKF.same sG
            refine ⟨.ref qa, rfl, qa, dRg ks, rfl, hKG.dp, sh.h1, sh.h2, sh.h3, sh.h4, ?_⟩
            have hpG := pail_same hpF sG
            refine ⟨.ref p, rfl, .ref qa, rfl, p, qa, tF, ks, rfl, hpG, by omega, hKG, by omega, rg.sz.wo, fun HH sl sx tH htH hpH bH hslp esl lsx => ⟨_, _, _, rfl, ?_⟩⟩
            -- far
            refine ⟨.ref p, rfl, 10, 6, rfl, rfl, ⟨by decide, by decide, by decide⟩, p, tH, _, rfl, hpH, by omega, by decide, by decide, fun a6 tI HI a60 a61 htI hpI bI' => ?_⟩
            have a61' : a6 < 1000000 := a61
            refine ⟨10, 23, rfl, rfl, ⟨by decide, by decide, by decide⟩, _, _, rfl, rfl, .inl ⟨by omega, by omega⟩, 10, 29, rfl, rfl, ⟨by decide, by decide, by decide⟩, _, _, rfl, rfl, ?_⟩
            have hKI := (hKG.pail hpG bH).pail hpH bI'
            have RI := ((RF.same sG).pail hpG bH).pail hpH bI'
            have eslI := bI' _ _ esl hslp
            have bEI := ((bF.trans (But.of sG)).trans bH).trans bI'
            have hKI0 := hKI
            obtain ⟨js, ejs, hT, hjs⟩ := hKI
            obtain ⟨k0, gk0⟩ : ∃ k0, js[0]? = some k0 := by
              cases js with
              | nil => exact absurd ejs.symm (by intro z; exact rg.sz.ne z)
              | cons k js => exact ⟨k, rfl⟩
            have km0 := List.mem_of_getElem? gk0
            have kj0 := hjs k0 km0
            have kw0 : k0.2.2.2.length ≤ 3000 := rg.sz.wo (valR k0) (by rw [← ejs]; exact List.mem_map_of_mem km0)
            have g0 : (js.map fun k => V.ref k.1)[0]? = some (.ref k0.1) := by rw [List.getElem?_map, gk0]; rfl
            refine ⟨1, rfl, .ref qa, rfl, qa, _, 0, .ref k0.1, rfl, rfl, hT, atI_nat (j := 0) g0, k0.1, _, 0, .int k0.2.2.1, rfl, rfl, kj0.1, rfl, ?_⟩
            refine ⟨.ref qa, rfl, qa, _, 0, .ref k0.1, rfl, rfl, hT, atI_nat (j := 0) g0, k0.1, _, 1, .ref k0.2.1, rfl, rfl, kj0.1, rfl, k0.2.1, _, rfl, .inr kj0.2, _, _, rfl, rfl, .inr (by rw [List.length_map]; exact ⟨by omega, by omega⟩), ?_⟩
            refine ⟨.int (pl ks), rfl, .int (pl ks), rfl, _, _, rfl, rfl, .ref p, rfl, p, tI, 99, rfl, hpI, by omega, by decide, by decide, fun a7 tJ HJ a70 a71 htJ hpJ bJ => ⟨_, rfl, (by show 8 ≤ sizeLine; decide), fun T8 nT8 => ?_⟩⟩
            have s8' := same_upd (o := .tup [.int 0, .int 1, .int (-1), .int (k0.2.2.1 * ((k0.2.2.2.map V.int).length : Int)), .int (pl ks), .int (pl ks - 1), .int a7, .int (a6 * (10 : Int) ^ (23 : Int).toNat - (10 : Int) ^ (29 : Int).toNat)]) nT8
            have hKK := (hKI0.pail hpI bJ).same s8'
            have RK := (RI.pail hpI bJ).same s8'
            have eslK := s8' _ _ (bJ _ _ eslI hslp)
            have bEK := (bEI.trans bJ).trans (But.of s8')
            have hpK := pail_same hpJ s8'
            have eT8 := upd_same (H := HJ) (a := T8) (o := .tup [.int 0, .int 1, .int (-1), .int (k0.2.2.1 * ((k0.2.2.2.map V.int).length : Int)), .int (pl ks), .int (pl ks - 1), .int a7, .int (a6 * (10 : Int) ^ (23 : Int).toNat - (10 : Int) ^ (29 : Int).toNat)])
            refine ⟨T8, rfl, ⟨_, tupNew upd_same⟩, ?_⟩
            generalize upd HJ T8 (.tup [.int 0, .int 1, .int (-1), .int (k0.2.2.1 * ((k0.2.2.2.map V.int).length : Int)), .int (pl ks), .int (pl ks - 1), .int a7, .int (a6 * (10 : Int) ^ (23 : Int).toNat - (10 : Int) ^ (29 : Int).toNat)]) = HK at hKK RK eslK bEK hpK eT8 ⊢
            refine for_tup (K := K) (a := T8) (xs := [0, 1, -1, k0.2.2.1 * ((k0.2.2.2.map V.int).length : Int), pl ks, pl ks - 1, a7, a6 * (10 : Int) ^ (23 : Int).toNat - (10 : Int) ^ (29 : Int).toNat].map V.int) (fun j σ H' => ∃ (z17 : Option V), σ = [some (.ref a), some (.int (0 + (i : Nat))), some (.ref p), some (.ref u), some (.ref c), some (.ref r), some (.ref l), some (.int x), some (.ref Tr), some (.int (1 + w0)), some (.ref sm), z11, some (.ref qa), some (.int (pl ks)), some (.str (dRg ks).shown), some (.ref sl), some (.int (a6 * (10 : Int) ^ (23 : Int).toNat - (10 : Int) ^ (29 : Int).toNat)), z17] ∧ Same HK H')
              ⟨_, rfl, Same.refl _⟩ (fun j σ H' _ h => ?_) (fun j v σ H' hv h => ?_) (fun σ H' h => ?_)
            · obtain ⟨_, _, s'⟩ := h
              exact tupNew (s' _ _ eT8)
            · obtain ⟨z17, rfl, s'⟩ := h
              obtain ⟨b, gb, rfl⟩ := map_at hv
              refine ⟨.ref r, rfl, .ref qa, rfl, .int b, rfl, .ref sl, rfl, r, qa, sl, b, ks, ns, sx, ps, rfl, RK.same s', M, S, hKK.same s', rg, by omega, cy, lstNew (s' _ _ eslK), lsx, fun H2 s2' => ⟨true, rfl, iteF ?_⟩⟩
              have s'2 := s'.trans s2'
              refine ⟨.ref r, rfl, .ref qa, rfl, .int b, rfl, .ref sl, rfl, r, qa, sl, b, ks, ns, sx, ps, rfl, RK.same s'2, M, S, hKK.same s'2, rg, by omega, cy, lstNew (s'2 _ _ eslK), lsx, fun H3 s3' => ⟨true, rfl, iteF ?_⟩⟩
              have s'3 := s'2.trans s3'
              refine ⟨.int (pl ks), rfl, _, _, rfl, rfl, _, rfl, ite2 (fun hlt => ?_) (fun hge => ?_)⟩
              · have hlt : pl ks < 200 := of_decide_eq_true hlt
                refine ⟨.ref r, rfl, .ref qa, rfl, .int b, rfl, r, qa, b, ks, ns, ps, rfl, RK.same s'3, M, hKK.same s'3, rg, by omega, by omega, fun H4 s4' => ⟨true, rfl, iteF ?_⟩⟩
                exact ⟨_, rfl, s'3.trans s4'⟩
              · exact ⟨_, rfl, s'3⟩
            · obtain ⟨z17, rfl, s'⟩ := h
              refine ⟨.ref qa, rfl, qa, dRg ks, rfl, (hKK.same s').dp, sh.h1, sh.h2, sh.h3, sh.h4, .str _, rfl, rfl, _, rfl, ?_⟩
              rw [decide_eq_true rfl]
              refine iteF ?_
              exact ⟨tJ, _, _, _, _, _, _, _, rfl, bEK.trans (But.of s'), pail_same hpK s', by omega⟩
          · obtain ⟨tF, z11, z12, z13, z14, z15, z16, z17, rfl, bF, hpF, htF⟩ := h
            exact ⟨⟨_, rfl, rfl⟩, s1.trans (same_but b1E np bF)⟩
      · refine ⟨.ref l0, rfl, Nat.zero_le _, fun e0 ne0 => ?_⟩
        have se := same_upd (o := .lst []) ne0
        refine ⟨.list _, .list (([] : List Int).map PyData.int), .lst (lstNew (se _ _ el8)) (dpInts _), .lst (lstNew upd_same) .nil, shapedL _, shapedL [], _, rfl, ?_⟩
        rw [eqvL]
        have hp9 := pail_same hp8 se
        have R9 := R8.same se
        have el9 := se _ _ el8
        have b09 := b08.trans se
        generalize upd H8 e0 (.lst []) = H9 at hp9 R9 el9 b09 ⊢
        by_cases hx : xs0 = []
        · rw [decide_eq_true hx]
          refine iteT ?_
          refine ⟨two, fun Ta nTa => ⟨one, fun Tb nTb => ?_⟩⟩
          have sa := same_upd (o := .tup [.int 0, .int 1]) nTa
          have sb := same_upd (o := .tup [.ref Ta]) nTb
          refine ⟨2, Tb, [[0, 1]], rfl, by decide, by decide, ⟨[(Ta, [0, 1])], rfl, tupNew upd_same, fun k hk => by rw [List.mem_singleton.mp hk]; exact tupNew (sb _ _ upd_same)⟩, drw_two, fun Ha r' sr R' => ?_⟩
          refine ⟨two, fun l' nl' => ⟨two, fun Tc nTc => ?_⟩⟩
          have sl := same_upd (o := .lst [.int 0, .int 1]) nl'
          have sc := same_upd (o := .tup [.ref r', .ref l']) nTc
          have s9 := (((sa.trans sb).trans sr).trans sl).trans sc
          refine ⟨Tc, _, rfl, tupNew upd_same, rfl, _, _, rfl, _, _, rfl, rfl, ?_⟩
          exact tail _ _ ⟨r', l', idM 2, [0, 1], plainSteps 2 [[0, 1]], rfl, b09.trans s9, pail_same hp9 s9, R'.same (sl.trans sc), mir_id (by decide) (by decide), stp_plain (by decide) (by decide) _, pail_ne (pail_same hp9 ((sa.trans sb).trans sr)) nl', sc _ _ upd_same, by simp, by decide, by rw [idM_len]; exact beg_two⟩
        · rw [decide_eq_false hx]
          refine iteF ?_
          exact tail _ _ ⟨r, l0, ns, xs0, ps, rfl, b09, hp9, R9, M, S, hl0p, el9, hx, lx0, bx0⟩
    · rintro σ H1 ⟨⟨ys, ly, rfl⟩, s1⟩
      exact q H1
end
end K6
set_option maxHeartbeats 4000000
namespace K6
open PySem PySem.Spec PyProof.Rows L2 RV
theorem def_mk {K : PySem.W.Frag} {h : Heap} {mg : Str → Option Value} {x : Str} {st : Stmt} {ps : List Str} {f : Addr} {oc : Value} {od an : Option Addr} {sl : Array (Option Value)} {kV dc pm cd ct : Value} (X : K.In h) (G : h.Ns mainGlobals mg)
    (a : PySem.W.nsIn K mainGlobals x = some (some (.ref f))) (l : K.lookup f = some ⟨oc, od, .func (PySem.W.fnOf x x (defArgs st) (defBody st) (defScope st) .none kV dc pm an cd ct), sl⟩) (c : PySem.W.codeIn K cd x = true) (k : PySem.W.keepIn K (.ref f) = true)
    (hb : ∀ (kV doc pm : Value) (an : Option Addr) (cdv ct : Value) (us : List Value), us.length = ps.length → bindArgs (PySem.W.fnOf x x (defArgs st) (defBody st) (defScope st) .none kV doc pm an cdv ct) ⟨us, []⟩ = pure (ps.zip us)) :
    DefAt K mg x st ps f (PySem.W.fnOf x x (defArgs st) (defBody st) (defScope st) .none kV dc pm an cd ct) :=
  let F := fun_mk (st := st) l c k
  ⟨F, F.binds hb, PySem.W.mg_of X G a⟩
theorem all_mk {l : PySem.W.OpenLaw} {w : World} {K : PySem.W.Frag} {h : Heap} {mg : Str → Option Value} {fa C f1 f2 f3 f4 f5 f6 f7 f8 f9 f10 f11 f12 f13 f14 f15 f16 f17 f18 f19 f20 f21 f22 f23 f24 f25 f26 f27 f28 f29 f30 f31 f32 f33 f34 f35 f36 f37 f38 f39 f40 : Addr} {tk tk2 : Tok} (X : K.In h) (G : h.Ns mainGlobals mg) (hfa : mg "law" = some (.ref fa))
    {od1 an1 od2 an2 od3 an3 od4 an4 od5 an5 od6 an6 od7 an7 od8 an8 od9 an9 od10 an10 od11 an11 od12 an12 od13 an13 od14 an14 od15 an15 od16 an16 od17 an17 od18 an18 od19 an19 od20 an20 od21 an21 od22 an22 od23 an23 od24 an24 od25 an25 od26 an26 od27 an27 od28 an28 od29 an29 od30 an30 od31 an31 od32 an32 od33 an33 od34 an34 od35 an35 od36 an36 od37 an37 od38 an38 od39 an39 od40 an40 : Option Addr} {sl1 sl2 sl3 sl4 sl5 sl6 sl7 sl8 sl9 sl10 sl11 sl12 sl13 sl14 sl15 sl16 sl17 sl18 sl19 sl20 sl21 sl22 sl23 sl24 sl25 sl26 sl27 sl28 sl29 sl30 sl31 sl32 sl33 sl34 sl35 sl36 sl37 sl38 sl39 sl40 : Array (Option Value)}
    {oc1 kV1 dc1 pm1 cd1 ct1 oc2 kV2 dc2 pm2 cd2 ct2 oc3 kV3 dc3 pm3 cd3 ct3 oc4 kV4 dc4 pm4 cd4 ct4 oc5 kV5 dc5 pm5 cd5 ct5 oc6 kV6 dc6 pm6 cd6 ct6 oc7 kV7 dc7 pm7 cd7 ct7 oc8 kV8 dc8 pm8 cd8 ct8 oc9 kV9 dc9 pm9 cd9 ct9 oc10 kV10 dc10 pm10 cd10 ct10 oc11 kV11 dc11 pm11 cd11 ct11 oc12 kV12 dc12 pm12 cd12 ct12 oc13 kV13 dc13 pm13 cd13 ct13 oc14 kV14 dc14 pm14 cd14 ct14 oc15 kV15 dc15 pm15 cd15 ct15 oc16 kV16 dc16 pm16 cd16 ct16 oc17 kV17 dc17 pm17 cd17 ct17 oc18 kV18 dc18 pm18 cd18 ct18 oc19 kV19 dc19 pm19 cd19 ct19 oc20 kV20 dc20 pm20 cd20 ct20 oc21 kV21 dc21 pm21 cd21 ct21 oc22 kV22 dc22 pm22 cd22 ct22 oc23 kV23 dc23 pm23 cd23 ct23 oc24 kV24 dc24 pm24 cd24 ct24 oc25 kV25 dc25 pm25 cd25 ct25 oc26 kV26 dc26 pm26 cd26 ct26 oc27 kV27 dc27 pm27 cd27 ct27 oc28 kV28 dc28 pm28 cd28 ct28 oc29 kV29 dc29 pm29 cd29 ct29 oc30 kV30 dc30 pm30 cd30 ct30 oc31 kV31 dc31 pm31 cd31 ct31 oc32 kV32 dc32 pm32 cd32 ct32 oc33 kV33 dc33 pm33 cd33 ct33 oc34 kV34 dc34 pm34 cd34 ct34 oc35 kV35 dc35 pm35 cd35 ct35 oc36 kV36 dc36 pm36 cd36 ct36 oc37 kV37 dc37 pm37 cd37 ct37 oc38 kV38 dc38 pm38 cd38 ct38 oc39 kV39 dc39 pm39 cd39 ct39 oc40 kV40 dc40 pm40 cd40 ct40 : Value}
    (a1 : PySem.W.nsIn K mainGlobals "is_whole" = some (some (.ref f1)))
    (l1 : K.lookup f1 = some ⟨oc1, od1, .func (PySem.W.fnOf "is_whole" "is_whole" (defArgs sWhole) (defBody sWhole) (defScope sWhole) .none kV1 dc1 pm1 an1 cd1 ct1), sl1⟩)
    (c1 : PySem.W.codeIn K cd1 "is_whole" = true)
    (k1 : PySem.W.keepIn K (.ref f1) = true)
    (a2 : PySem.W.nsIn K mainGlobals "is_below" = some (some (.ref f2)))
    (l2 : K.lookup f2 = some ⟨oc2, od2, .func (PySem.W.fnOf "is_below" "is_below" (defArgs sMark) (defBody sMark) (defScope sMark) .none kV2 dc2 pm2 an2 cd2 ct2), sl2⟩)
    (c2 : PySem.W.codeIn K cd2 "is_below" = true)
    (k2 : PySem.W.keepIn K (.ref f2) = true)
    (a3 : PySem.W.nsIn K mainGlobals "are_marks" = some (some (.ref f3)))
    (l3 : K.lookup f3 = some ⟨oc3, od3, .func (PySem.W.fnOf "are_marks" "are_marks" (defArgs sMarks) (defBody sMarks) (defScope sMarks) .none kV3 dc3 pm3 an3 cd3 ct3), sl3⟩)
    (c3 : PySem.W.codeIn K cd3 "are_marks" = true)
    (k3 : PySem.W.keepIn K (.ref f3) = true)
    (a4 : PySem.W.nsIn K mainGlobals "are_mirrors" = some (some (.ref f4)))
    (l4 : K.lookup f4 = some ⟨oc4, od4, .func (PySem.W.fnOf "are_mirrors" "are_mirrors" (defArgs sMirrors) (defBody sMirrors) (defScope sMirrors) .none kV4 dc4 pm4 an4 cd4 ct4), sl4⟩)
    (c4 : PySem.W.codeIn K cd4 "are_mirrors" = true)
    (k4 : PySem.W.keepIn K (.ref f4) = true)
    (a5 : PySem.W.nsIn K mainGlobals "are_steps" = some (some (.ref f5)))
    (l5 : K.lookup f5 = some ⟨oc5, od5, .func (PySem.W.fnOf "are_steps" "are_steps" (defArgs sSteps) (defBody sSteps) (defScope sSteps) .none kV5 dc5 pm5 an5 cd5 ct5), sl5⟩)
    (c5 : PySem.W.codeIn K cd5 "are_steps" = true)
    (k5 : PySem.W.keepIn K (.ref f5) = true)
    (a6 : PySem.W.nsIn K mainGlobals "is_step" = some (some (.ref f6)))
    (l6 : K.lookup f6 = some ⟨oc6, od6, .func (PySem.W.fnOf "is_step" "is_step" (defArgs sStep) (defBody sStep) (defScope sStep) .none kV6 dc6 pm6 an6 cd6 ct6), sl6⟩)
    (c6 : PySem.W.codeIn K cd6 "is_step" = true)
    (k6 : PySem.W.keepIn K (.ref f6) = true)
    (a7 : PySem.W.nsIn K mainGlobals "is_rising" = some (some (.ref f7)))
    (l7 : K.lookup f7 = some ⟨oc7, od7, .func (PySem.W.fnOf "is_rising" "is_rising" (defArgs sRising) (defBody sRising) (defScope sRising) .none kV7 dc7 pm7 an7 cd7 ct7), sl7⟩)
    (c7 : PySem.W.codeIn K cd7 "is_rising" = true)
    (k7 : PySem.W.keepIn K (.ref f7) = true)
    (a8 : PySem.W.nsIn K mainGlobals "marks_behind" = some (some (.ref f8)))
    (l8 : K.lookup f8 = some ⟨oc8, od8, .func (PySem.W.fnOf "marks_behind" "marks_behind" (defArgs sBehind) (defBody sBehind) (defScope sBehind) .none kV8 dc8 pm8 an8 cd8 ct8), sl8⟩)
    (c8 : PySem.W.codeIn K cd8 "marks_behind" = true)
    (k8 : PySem.W.keepIn K (.ref f8) = true)
    (a9 : PySem.W.nsIn K mainGlobals "plain_rule" = some (some (.ref f9)))
    (l9 : K.lookup f9 = some ⟨oc9, od9, .func (PySem.W.fnOf "plain_rule" "plain_rule" (defArgs sPlain) (defBody sPlain) (defScope sPlain) .none kV9 dc9 pm9 an9 cd9 ct9), sl9⟩)
    (c9 : PySem.W.codeIn K cd9 "plain_rule" = true)
    (k9 : PySem.W.keepIn K (.ref f9) = true)
    (a10 : PySem.W.nsIn K mainGlobals "is_ring" = some (some (.ref f10)))
    (l10 : K.lookup f10 = some ⟨oc10, od10, .func (PySem.W.fnOf "is_ring" "is_ring" (defArgs sIsRing) (defBody sIsRing) (defScope sIsRing) .none kV10 dc10 pm10 an10 cd10 ct10), sl10⟩)
    (c10 : PySem.W.codeIn K cd10 "is_ring" = true)
    (k10 : PySem.W.keepIn K (.ref f10) = true)
    (a11 : PySem.W.nsIn K mainGlobals "is_run" = some (some (.ref f11)))
    (l11 : K.lookup f11 = some ⟨oc11, od11, .func (PySem.W.fnOf "is_run" "is_run" (defArgs sIsRun) (defBody sIsRun) (defScope sIsRun) .none kV11 dc11 pm11 an11 cd11 ct11), sl11⟩)
    (c11 : PySem.W.codeIn K cd11 "is_run" = true)
    (k11 : PySem.W.keepIn K (.ref f11) = true)
    (a12 : PySem.W.nsIn K mainGlobals "neighbours" = some (some (.ref f12)))
    (l12 : K.lookup f12 = some ⟨oc12, od12, .func (PySem.W.fnOf "neighbours" "neighbours" (defArgs sNeighb) (defBody sNeighb) (defScope sNeighb) .none kV12 dc12 pm12 an12 cd12 ct12), sl12⟩)
    (c12 : PySem.W.codeIn K cd12 "neighbours" = true)
    (k12 : PySem.W.keepIn K (.ref f12) = true)
    (a13 : PySem.W.nsIn K mainGlobals "run_places" = some (some (.ref f13)))
    (l13 : K.lookup f13 = some ⟨oc13, od13, .func (PySem.W.fnOf "run_places" "run_places" (defArgs sRunPl) (defBody sRunPl) (defScope sRunPl) .none kV13 dc13 pm13 an13 cd13 ct13), sl13⟩)
    (c13 : PySem.W.codeIn K cd13 "run_places" = true)
    (k13 : PySem.W.keepIn K (.ref f13) = true)
    (a14 : PySem.W.nsIn K mainGlobals "places" = some (some (.ref f14)))
    (l14 : K.lookup f14 = some ⟨oc14, od14, .func (PySem.W.fnOf "places" "places" (defArgs sRPlaces) (defBody sRPlaces) (defScope sRPlaces) .none kV14 dc14 pm14 an14 cd14 ct14), sl14⟩)
    (c14 : PySem.W.codeIn K cd14 "places" = true)
    (k14 : PySem.W.keepIn K (.ref f14) = true)
    (a15 : PySem.W.nsIn K mainGlobals "spot" = some (some (.ref f15)))
    (l15 : K.lookup f15 = some ⟨oc15, od15, .func (PySem.W.fnOf "spot" "spot" (defArgs sSpot) (defBody sSpot) (defScope sSpot) .none kV15 dc15 pm15 an15 cd15 ct15), sl15⟩)
    (c15 : PySem.W.codeIn K cd15 "spot" = true)
    (k15 : PySem.W.keepIn K (.ref f15) = true)
    (a16 : PySem.W.nsIn K mainGlobals "mark_at" = some (some (.ref f16)))
    (l16 : K.lookup f16 = some ⟨oc16, od16, .func (PySem.W.fnOf "mark_at" "mark_at" (defArgs sMarkAt) (defBody sMarkAt) (defScope sMarkAt) .none kV16 dc16 pm16 an16 cd16 ct16), sl16⟩)
    (c16 : PySem.W.codeIn K cd16 "mark_at" = true)
    (k16 : PySem.W.keepIn K (.ref f16) = true)
    (a17 : PySem.W.nsIn K mainGlobals "stretch" = some (some (.ref f17)))
    (l17 : K.lookup f17 = some ⟨oc17, od17, .func (PySem.W.fnOf "stretch" "stretch" (defArgs sStretch) (defBody sStretch) (defScope sStretch) .none kV17 dc17 pm17 an17 cd17 ct17), sl17⟩)
    (c17 : PySem.W.codeIn K cd17 "stretch" = true)
    (k17 : PySem.W.keepIn K (.ref f17) = true)
    (a18 : PySem.W.nsIn K mainGlobals "turned" = some (some (.ref f18)))
    (l18 : K.lookup f18 = some ⟨oc18, od18, .func (PySem.W.fnOf "turned" "turned" (defArgs sTurned) (defBody sTurned) (defScope sTurned) .none kV18 dc18 pm18 an18 cd18 ct18), sl18⟩)
    (c18 : PySem.W.codeIn K cd18 "turned" = true)
    (k18 : PySem.W.keepIn K (.ref f18) = true)
    (a19 : PySem.W.nsIn K mainGlobals "mirrored" = some (some (.ref f19)))
    (l19 : K.lookup f19 = some ⟨oc19, od19, .func (PySem.W.fnOf "mirrored" "mirrored" (defArgs sMirrored) (defBody sMirrored) (defScope sMirrored) .none kV19 dc19 pm19 an19 cd19 ct19), sl19⟩)
    (c19 : PySem.W.codeIn K cd19 "mirrored" = true)
    (k19 : PySem.W.keepIn K (.ref f19) = true)
    (a20 : PySem.W.nsIn K mainGlobals "spelled" = some (some (.ref f20)))
    (l20 : K.lookup f20 = some ⟨oc20, od20, .func (PySem.W.fnOf "spelled" "spelled" (defArgs sSpelled) (defBody sSpelled) (defScope sSpelled) .none kV20 dc20 pm20 an20 cd20 ct20), sl20⟩)
    (c20 : PySem.W.codeIn K cd20 "spelled" = true)
    (k20 : PySem.W.keepIn K (.ref f20) = true)
    (a21 : PySem.W.nsIn K mainGlobals "_law_pail" = some (some (.ref f21)))
    (l21 : K.lookup f21 = some ⟨oc21, od21, .func (PySem.W.fnOf "_law_pail" "_law_pail" (defArgs sPail) (defBody sPail) (defScope sPail) .none kV21 dc21 pm21 an21 cd21 ct21), sl21⟩)
    (c21 : PySem.W.codeIn K cd21 "_law_pail" = true)
    (k21 : PySem.W.keepIn K (.ref f21) = true)
    (a22 : PySem.W.nsIn K mainGlobals "_law_draw" = some (some (.ref f22)))
    (l22 : K.lookup f22 = some ⟨oc22, od22, .func (PySem.W.fnOf "_law_draw" "_law_draw" (defArgs sDraw) (defBody sDraw) (defScope sDraw) .none kV22 dc22 pm22 an22 cd22 ct22), sl22⟩)
    (c22 : PySem.W.codeIn K cd22 "_law_draw" = true)
    (k22 : PySem.W.keepIn K (.ref f22) = true)
    (a23 : PySem.W.nsIn K mainGlobals "_law_of" = some (some (.ref f23)))
    (l23 : K.lookup f23 = some ⟨oc23, od23, .func (PySem.W.fnOf "_law_of" "_law_of" (defArgs sOf) (defBody sOf) (defScope sOf) .none kV23 dc23 pm23 an23 cd23 ct23), sl23⟩)
    (c23 : PySem.W.codeIn K cd23 "_law_of" = true)
    (k23 : PySem.W.keepIn K (.ref f23) = true)
    (a24 : PySem.W.nsIn K mainGlobals "_law_mirrors" = some (some (.ref f24)))
    (l24 : K.lookup f24 = some ⟨oc24, od24, .func (PySem.W.fnOf "_law_mirrors" "_law_mirrors" (defArgs sDMirrors) (defBody sDMirrors) (defScope sDMirrors) .none kV24 dc24 pm24 an24 cd24 ct24), sl24⟩)
    (c24 : PySem.W.codeIn K cd24 "_law_mirrors" = true)
    (k24 : PySem.W.keepIn K (.ref f24) = true)
    (a25 : PySem.W.nsIn K mainGlobals "_law_steps" = some (some (.ref f25)))
    (l25 : K.lookup f25 = some ⟨oc25, od25, .func (PySem.W.fnOf "_law_steps" "_law_steps" (defArgs sDSteps) (defBody sDSteps) (defScope sDSteps) .none kV25 dc25 pm25 an25 cd25 ct25), sl25⟩)
    (c25 : PySem.W.codeIn K cd25 "_law_steps" = true)
    (k25 : PySem.W.keepIn K (.ref f25) = true)
    (a26 : PySem.W.nsIn K mainGlobals "_law_off" = some (some (.ref f26)))
    (l26 : K.lookup f26 = some ⟨oc26, od26, .func (PySem.W.fnOf "_law_off" "_law_off" (defArgs sLOff) (defBody sLOff) (defScope sLOff) .none kV26 dc26 pm26 an26 cd26 ct26), sl26⟩)
    (c26 : PySem.W.codeIn K cd26 "_law_off" = true)
    (k26 : PySem.W.keepIn K (.ref f26) = true)
    (a27 : PySem.W.nsIn K mainGlobals "_law_behind" = some (some (.ref f27)))
    (l27 : K.lookup f27 = some ⟨oc27, od27, .func (PySem.W.fnOf "_law_behind" "_law_behind" (defArgs sLBehind) (defBody sLBehind) (defScope sLBehind) .none kV27 dc27 pm27 an27 cd27 ct27), sl27⟩)
    (c27 : PySem.W.codeIn K cd27 "_law_behind" = true)
    (k27 : PySem.W.keepIn K (.ref f27) = true)
    (a28 : PySem.W.nsIn K mainGlobals "_law_starts" = some (some (.ref f28)))
    (l28 : K.lookup f28 = some ⟨oc28, od28, .func (PySem.W.fnOf "_law_starts" "_law_starts" (defArgs sLStarts) (defBody sLStarts) (defScope sLStarts) .none kV28 dc28 pm28 an28 cd28 ct28), sl28⟩)
    (c28 : PySem.W.codeIn K cd28 "_law_starts" = true)
    (k28 : PySem.W.keepIn K (.ref f28) = true)
    (a29 : PySem.W.nsIn K mainGlobals "_law_closed" = some (some (.ref f29)))
    (l29 : K.lookup f29 = some ⟨oc29, od29, .func (PySem.W.fnOf "_law_closed" "_law_closed" (defArgs sClosed) (defBody sClosed) (defScope sClosed) .none kV29 dc29 pm29 an29 cd29 ct29), sl29⟩)
    (c29 : PySem.W.codeIn K cd29 "_law_closed" = true)
    (k29 : PySem.W.keepIn K (.ref f29) = true)
    (a30 : PySem.W.nsIn K mainGlobals "_law_runs" = some (some (.ref f30)))
    (l30 : K.lookup f30 = some ⟨oc30, od30, .func (PySem.W.fnOf "_law_runs" "_law_runs" (defArgs sRuns) (defBody sRuns) (defScope sRuns) .none kV30 dc30 pm30 an30 cd30 ct30), sl30⟩)
    (c30 : PySem.W.codeIn K cd30 "_law_runs" = true)
    (k30 : PySem.W.keepIn K (.ref f30) = true)
    (a31 : PySem.W.nsIn K mainGlobals "_law_spots" = some (some (.ref f31)))
    (l31 : K.lookup f31 = some ⟨oc31, od31, .func (PySem.W.fnOf "_law_spots" "_law_spots" (defArgs sSpots) (defBody sSpots) (defScope sSpots) .none kV31 dc31 pm31 an31 cd31 ct31), sl31⟩)
    (c31 : PySem.W.codeIn K cd31 "_law_spots" = true)
    (k31 : PySem.W.keepIn K (.ref f31) = true)
    (a32 : PySem.W.nsIn K mainGlobals "_law_alike" = some (some (.ref f32)))
    (l32 : K.lookup f32 = some ⟨oc32, od32, .func (PySem.W.fnOf "_law_alike" "_law_alike" (defArgs sAlike) (defBody sAlike) (defScope sAlike) .none kV32 dc32 pm32 an32 cd32 ct32), sl32⟩)
    (c32 : PySem.W.codeIn K cd32 "_law_alike" = true)
    (k32 : PySem.W.keepIn K (.ref f32) = true)
    (a33 : PySem.W.nsIn K mainGlobals "_law_turned_right" = some (some (.ref f33)))
    (l33 : K.lookup f33 = some ⟨oc33, od33, .func (PySem.W.fnOf "_law_turned_right" "_law_turned_right" (defArgs sTurnedR) (defBody sTurnedR) (defScope sTurnedR) .none kV33 dc33 pm33 an33 cd33 ct33), sl33⟩)
    (c33 : PySem.W.codeIn K cd33 "_law_turned_right" = true)
    (k33 : PySem.W.keepIn K (.ref f33) = true)
    (a34 : PySem.W.nsIn K mainGlobals "_law_mirrored_right" = some (some (.ref f34)))
    (l34 : K.lookup f34 = some ⟨oc34, od34, .func (PySem.W.fnOf "_law_mirrored_right" "_law_mirrored_right" (defArgs sMirroredR) (defBody sMirroredR) (defScope sMirroredR) .none kV34 dc34 pm34 an34 cd34 ct34), sl34⟩)
    (c34 : PySem.W.codeIn K cd34 "_law_mirrored_right" = true)
    (k34 : PySem.W.keepIn K (.ref f34) = true)
    (a35 : PySem.W.nsIn K mainGlobals "_law_small_right" = some (some (.ref f35)))
    (l35 : K.lookup f35 = some ⟨oc35, od35, .func (PySem.W.fnOf "_law_small_right" "_law_small_right" (defArgs sSmallR) (defBody sSmallR) (defScope sSmallR) .none kV35 dc35 pm35 an35 cd35 ct35), sl35⟩)
    (c35 : PySem.W.codeIn K cd35 "_law_small_right" = true)
    (k35 : PySem.W.keepIn K (.ref f35) = true)
    (a36 : PySem.W.nsIn K mainGlobals "law" = some (some (.ref f36)))
    (l36 : K.lookup f36 = some ⟨oc36, od36, .func (PySem.W.fnOf "law" "law" (defArgs sLaw) (defBody sLaw) (defScope sLaw) .none kV36 dc36 pm36 an36 cd36 ct36), sl36⟩)
    (c36 : PySem.W.codeIn K cd36 "law" = true)
    (k36 : PySem.W.keepIn K (.ref f36) = true)
    (aC : PySem.W.nsIn K mainGlobals "Rule" = some (some (.ref C)))
    (a37 : PySem.W.findIn K (.ref C) "__init__" = some (some (.ref f37)))
    (i37 : PySem.W.isFn K (.ref f37) = true)
    (l37 : K.lookup f37 = some ⟨oc37, od37, .func (PySem.W.fnOf "__init__" "Rule.__init__" (defArgs sInit) (defBody sInit) (defScope sInit) .none kV37 dc37 pm37 an37 cd37 ct37), sl37⟩)
    (c37 : PySem.W.codeIn K cd37 "Rule.__init__" = true)
    (k37 : PySem.W.keepIn K (.ref f37) = true)
    (a38 : PySem.W.findIn K (.ref C) "marks" = some (some (.ref f38)))
    (i38 : PySem.W.isFn K (.ref f38) = true)
    (l38 : K.lookup f38 = some ⟨oc38, od38, .func (PySem.W.fnOf "marks" "Rule.marks" (defArgs sMarksM) (defBody sMarksM) (defScope sMarksM) .none kV38 dc38 pm38 an38 cd38 ct38), sl38⟩)
    (c38 : PySem.W.codeIn K cd38 "Rule.marks" = true)
    (k38 : PySem.W.keepIn K (.ref f38) = true)
    (a39 : PySem.W.findIn K (.ref C) "mirror" = some (some (.ref f39)))
    (i39 : PySem.W.isFn K (.ref f39) = true)
    (l39 : K.lookup f39 = some ⟨oc39, od39, .func (PySem.W.fnOf "mirror" "Rule.mirror" (defArgs sMirrorM) (defBody sMirrorM) (defScope sMirrorM) .none kV39 dc39 pm39 an39 cd39 ct39), sl39⟩)
    (c39 : PySem.W.codeIn K cd39 "Rule.mirror" = true)
    (k39 : PySem.W.keepIn K (.ref f39) = true)
    (a40 : PySem.W.findIn K (.ref C) "behind" = some (some (.ref f40)))
    (i40 : PySem.W.isFn K (.ref f40) = true)
    (l40 : K.lookup f40 = some ⟨oc40, od40, .func (PySem.W.fnOf "behind" "Rule.behind" (defArgs sBehindM) (defBody sBehindM) (defScope sBehindM) .none kV40 dc40 pm40 an40 cd40 ct40), sl40⟩)
    (c40 : PySem.W.codeIn K cd40 "Rule.behind" = true)
    (k40 : PySem.W.keepIn K (.ref f40) = true)
    (pg : PySem.W.plainGet K C Str.empty = true)
    (hd : PySem.W.hasDictIn K C = true)
    (po : PySem.W.plainOver K C = true)
    (sa : PySem.W.findIn K (.ref C) "__setattr__" = some (some (.builtin "object.__setattr__")))
    (mk : PySem.W.makesIn K C = true)
    (kc : PySem.W.keepIn K (.ref C) = true)
    (nM : PySem.W.findIn K (.ref C) "mirrors" = some none)
    (nS : PySem.W.findIn K (.ref C) "steps" = some none)
    (nF : PySem.W.findIn K (.ref C) "followers" = some none)
    (t1 : PySem.W.findIn K (.ref C) "__class__" = some (some (.builtin "object.__class__")))
    (t2 : PySem.W.specialIn K (.builtin "object.__class__") "__get__" = some (some (.builtin "getset_descriptor.__get__")))
    (t3 : PySem.W.takesIn K (.builtin "object.__class__") = some true)
    (t4 : PySem.W.mroIn K C (.type "object") = some true)
    (mM : PySem.W.nsIn K mainGlobals "MOST_MARKS" = some (some (.int 8 tk)))
    (mS : PySem.W.nsIn K mainGlobals "MOST_SPELLED" = some (some (.int 6000 tk2)))
    (z0 : PySem.W.nsIn K mainGlobals "len" = some none)
    (z1 : PySem.W.nsIn K mainGlobals "isinstance" = some none)
    (z2 : PySem.W.nsIn K mainGlobals "int" = some none)
    (z3 : PySem.W.nsIn K mainGlobals "bool" = some none)
    (z4 : PySem.W.nsIn K mainGlobals "tuple" = some none)
    (z5 : PySem.W.nsIn K mainGlobals "all" = some none)
    (z6 : PySem.W.nsIn K mainGlobals "enumerate" = some none)
    (z7 : PySem.W.nsIn K mainGlobals "zip" = some none)
    (z8 : PySem.W.nsIn K mainGlobals "range" = some none)
    (z9 : PySem.W.nsIn K mainGlobals "list" = some none)
    (z10 : PySem.W.nsIn K mainGlobals "set" = some none)
    (z11 : PySem.W.nsIn K mainGlobals "sorted" = some none)
    (z12 : PySem.W.nsIn K mainGlobals "abs" = some none)
    (z13 : PySem.W.nsIn K mainGlobals "max" = some none)
    (z14 : PySem.W.nsIn K mainGlobals "min" = some none)
    (z15 : PySem.W.nsIn K mainGlobals "repr" = some none)
    (z16 : PySem.W.nsIn K mainGlobals "dict" = some none)
    (z17 : PySem.W.nsIn K mainGlobals "sum" = some none)
    (z18 : PySem.W.nsIn K mainGlobals "divmod" = some none) :
    ∃ fd : FuncData, (∀ (s : Shared) (v : Value), BindsTo s fd ⟨[v], []⟩ [("_law_script", v)]) ∧ ∀ base : Heap, K.In base → base.Ns mainGlobals mg → FnG l.prog w K mg base CX0 9 fa fd ["_law_script"] (spLaw K) := by
  have e := hfa.symm.trans (PySem.W.mg_of X G a36)
  cases e
  have B : Bare mg := ⟨PySem.W.mg_none_of X G z0, PySem.W.mg_none_of X G z1, PySem.W.mg_none_of X G z2, PySem.W.mg_none_of X G z3, PySem.W.mg_none_of X G z4, PySem.W.mg_none_of X G z5, PySem.W.mg_none_of X G z6, PySem.W.mg_none_of X G z7, PySem.W.mg_none_of X G z8, PySem.W.mg_none_of X G z9, PySem.W.mg_none_of X G z10, PySem.W.mg_none_of X G z11, PySem.W.mg_none_of X G z12, PySem.W.mg_none_of X G z13, PySem.W.mg_none_of X G z14, PySem.W.mg_none_of X G z15, PySem.W.mg_none_of X G z16, PySem.W.mg_none_of X G z17, PySem.W.mg_none_of X G z18⟩
  have D1 := def_mk (st := sWhole) (ps := ["thing"]) X G a1 l1 c1 k1 fun _ _ _ _ _ _ us hl => match us, hl with | [_], _ => rfl
  have D2 := def_mk (st := sMark) (ps := ["thing", "many"]) X G a2 l2 c2 k2 fun _ _ _ _ _ _ us hl => match us, hl with | [_, _], _ => rfl
  have D3 := def_mk (st := sMarks) (ps := ["thing", "many"]) X G a3 l3 c3 k3 fun _ _ _ _ _ _ us hl => match us, hl with | [_, _], _ => rfl
  have D4 := def_mk (st := sMirrors) (ps := ["thing"]) X G a4 l4 c4 k4 fun _ _ _ _ _ _ us hl => match us, hl with | [_], _ => rfl
  have D5 := def_mk (st := sSteps) (ps := ["mirrors", "thing"]) X G a5 l5 c5 k5 fun _ _ _ _ _ _ us hl => match us, hl with | [_, _], _ => rfl
  have D6 := def_mk (st := sStep) (ps := ["thing", "many"]) X G a6 l6 c6 k6 fun _ _ _ _ _ _ us hl => match us, hl with | [_, _], _ => rfl
  have D7 := def_mk (st := sRising) (ps := ["pairs"]) X G a7 l7 c7 k7 fun _ _ _ _ _ _ us hl => match us, hl with | [_], _ => rfl
  have D8 := def_mk (st := sBehind) (ps := ["steps", "mark"]) X G a8 l8 c8 k8 fun _ _ _ _ _ _ us hl => match us, hl with | [_, _], _ => rfl
  have D9 := def_mk (st := sPlain) (ps := ["many", "pairs"]) X G a9 l9 c9 k9 fun _ _ _ _ _ _ us hl => match us, hl with | [_, _], _ => rfl
  have D10 := def_mk (st := sIsRing) (ps := ["rule", "thing"]) X G a10 l10 c10 k10 fun _ _ _ _ _ _ us hl => match us, hl with | [_, _], _ => rfl
  have D11 := def_mk (st := sIsRun) (ps := ["rule", "thing"]) X G a11 l11 c11 k11 fun _ _ _ _ _ _ us hl => match us, hl with | [_, _], _ => rfl
  have D12 := def_mk (st := sNeighb) (ps := ["ring"]) X G a12 l12 c12 k12 fun _ _ _ _ _ _ us hl => match us, hl with | [_], _ => rfl
  have D13 := def_mk (st := sRunPl) (ps := ["run"]) X G a13 l13 c13 k13 fun _ _ _ _ _ _ us hl => match us, hl with | [_], _ => rfl
  have D14 := def_mk (st := sRPlaces) (ps := ["ring"]) X G a14 l14 c14 k14 fun _ _ _ _ _ _ us hl => match us, hl with | [_], _ => rfl
  have D15 := def_mk (st := sSpot) (ps := ["ring", "place"]) X G a15 l15 c15 k15 fun _ _ _ _ _ _ us hl => match us, hl with | [_, _], _ => rfl
  have D16 := def_mk (st := sMarkAt) (ps := ["ring", "place"]) X G a16 l16 c16 k16 fun _ _ _ _ _ _ us hl => match us, hl with | [_, _], _ => rfl
  have D17 := def_mk (st := sStretch) (ps := ["ring", "first", "many"]) X G a17 l17 c17 k17 fun _ _ _ _ _ _ us hl => match us, hl with | [_, _, _], _ => rfl
  have D18 := def_mk (st := sTurned) (ps := ["ring", "by"]) X G a18 l18 c18 k18 fun _ _ _ _ _ _ us hl => match us, hl with | [_, _], _ => rfl
  have D19 := def_mk (st := sMirrored) (ps := ["rule", "ring"]) X G a19 l19 c19 k19 fun _ _ _ _ _ _ us hl => match us, hl with | [_, _], _ => rfl
  have D20 := def_mk (st := sSpelled) (ps := ["ring"]) X G a20 l20 c20 k20 fun _ _ _ _ _ _ us hl => match us, hl with | [_], _ => rfl
  have D21 := def_mk (st := sPail) (ps := ["_law_script", "_law_at"]) X G a21 l21 c21 k21 fun _ _ _ _ _ _ us hl => match us, hl with | [_, _], _ => rfl
  have D22 := def_mk (st := sDraw) (ps := ["_law_pail_here", "_law_many"]) X G a22 l22 c22 k22 fun _ _ _ _ _ _ us hl => match us, hl with | [_, _], _ => rfl
  have D23 := def_mk (st := sOf) (ps := ["_law_pail_here", "_law_some"]) X G a23 l23 c23 k23 fun _ _ _ _ _ _ us hl => match us, hl with | [_, _], _ => rfl
  have D24 := def_mk (st := sDMirrors) (ps := ["_law_pail_here", "_law_many"]) X G a24 l24 c24 k24 fun _ _ _ _ _ _ us hl => match us, hl with | [_, _], _ => rfl
  have D25 := def_mk (st := sDSteps) (ps := ["_law_pail_here", "_law_mirrors_here"]) X G a25 l25 c25 k25 fun _ _ _ _ _ _ us hl => match us, hl with | [_, _], _ => rfl
  have D26 := def_mk (st := sLOff) (ps := ["_law_steps_here", "_law_goal"]) X G a26 l26 c26 k26 fun _ _ _ _ _ _ us hl => match us, hl with | [_, _], _ => rfl
  have D27 := def_mk (st := sLBehind) (ps := ["_law_steps_here", "_law_mark"]) X G a27 l27 c27 k27 fun _ _ _ _ _ _ us hl => match us, hl with | [_, _], _ => rfl
  have D28 := def_mk (st := sLStarts) (ps := ["_law_steps_here", "_law_many"]) X G a28 l28 c28 k28 fun _ _ _ _ _ _ us hl => match us, hl with | [_, _], _ => rfl
  have D29 := def_mk (st := sClosed) (ps := ["_law_pail_here", "_law_steps_here", "_law_start", "_law_most"]) X G a29 l29 c29 k29 fun _ _ _ _ _ _ us hl => match us, hl with | [_, _, _, _], _ => rfl
  have D30 := def_mk (st := sRuns) (ps := ["_law_pail_here", "_law_steps_here", "_law_start", "_law_few"]) X G a30 l30 c30 k30 fun _ _ _ _ _ _ us hl => match us, hl with | [_, _, _, _], _ => rfl
  have D31 := def_mk (st := sSpots) (ps := ["_law_pail_here", "_law_ring"]) X G a31 l31 c31 k31 fun _ _ _ _ _ _ us hl => match us, hl with | [_, _], _ => rfl
  have D32 := def_mk (st := sAlike) (ps := ["_law_one", "_law_other", "_law_spots_here"]) X G a32 l32 c32 k32 fun _ _ _ _ _ _ us hl => match us, hl with | [_, _, _], _ => rfl
  have D33 := def_mk (st := sTurnedR) (ps := ["_law_rule", "_law_ring", "_law_by", "_law_spots_here"]) X G a33 l33 c33 k33 fun _ _ _ _ _ _ us hl => match us, hl with | [_, _, _, _], _ => rfl
  have D34 := def_mk (st := sMirroredR) (ps := ["_law_rule", "_law_ring", "_law_by", "_law_spots_here"]) X G a34 l34 c34 k34 fun _ _ _ _ _ _ us hl => match us, hl with | [_, _, _, _], _ => rfl
  have D35 := def_mk (st := sSmallR) (ps := ["_law_rule", "_law_ring", "_law_by"]) X G a35 l35 c35 k35 fun _ _ _ _ _ _ us hl => match us, hl with | [_, _, _], _ => rfl
  have F36 := fun_mk (st := sLaw) l36 c36 k36
  have F37 := fun_mk (st := sInit) l37 c37 k37
  have b37 := F37.binds (ps := ["self", "mirrors", "steps"]) fun _ _ _ _ _ _ us hl => match us, hl with | [_, _, _], _ => rfl
  have F38 := fun_mk (st := sMarksM) l38 c38 k38
  have b38 := F38.binds (ps := ["self"]) fun _ _ _ _ _ _ us hl => match us, hl with | [_], _ => rfl
  have F39 := fun_mk (st := sMirrorM) l39 c39 k39
  have b39 := F39.binds (ps := ["self", "mark"]) fun _ _ _ _ _ _ us hl => match us, hl with | [_, _], _ => rfl
  have F40 := fun_mk (st := sBehindM) l40 c40 k40
  have b40 := F40.binds (ps := ["self", "mark"]) fun _ _ _ _ _ _ us hl => match us, hl with | [_, _], _ => rfl
  have T : Txt K mg C := ⟨⟨pg, hd, po, sa⟩, nM, nS, nF, PySem.W.mg_of X G aC, t1, t2, t3, t4, kit_self⟩
  have mm := PySem.W.mg_of X G mM
  refine ⟨PySem.W.fnOf "law" "law" (defArgs sLaw) (defBody sLaw) (defScope sLaw) .none kV36 dc36 pm36 an36 cd36 ct36, fun s v => .of_eq rfl, fun base _ _ => ?_⟩
  have G3 : FnOk l.prog w K mg base CX0 3 f3 _ ["thing", "many"] (spMarks K) := ok_marks D3.fn D2 D1 B
  have G4 : FnOk l.prog w K mg base CX0 4 f4 _ ["thing"] (spMirrors K) := ok_mirrors D4.fn D3 G3 B mm
  have G6 : FnOk l.prog w K mg base CX0 4 f6 _ ["thing", "many"] (spStep K) := ok_step D6.fn D3 G3 B
  have G5 : FnOk l.prog w K mg base CX0 5 f5 _ ["mirrors", "thing"] (spSteps K) := ok_steps D5.fn D6 G6 D7 B
  have GI : FnOk l.prog w K mg base CX0 6 f37 _ ["self", "mirrors", "steps"] (spInit K C) := ok_init F37 T D4 G4 D5 G5 D8 B
  have ms := PySem.W.mg_of X G mS
  have DR : RDefs K mg f13 f14 f15 f16 _ _ _ _ := ⟨D13, D14, D15, D16⟩
  have DK : KDefs K mg C f38 f40 f39 f10 f11 f12 f3 f2 f1 _ _ _ _ _ _ _ _ _ := ⟨F38, b38, ⟨a38, i38, k38⟩, F40, b40, ⟨a40, i40, k40⟩, F39, b39, ⟨a39, i39, k39⟩, D10, D11, D12, D3, D2, D1⟩
  have GTR : FnOk l.prog w K mg base CX0 6 f33 _ ["_law_rule", "_law_ring", "_law_by", "_law_spots_here"] (spTR K C) := ok_tr D33.fn T B DR DK D18 D32
  have GMR : FnOk l.prog w K mg base CX0 6 f34 _ ["_law_rule", "_law_ring", "_law_by", "_law_spots_here"] (spTR K C) := ok_mr D34.fn T B DR DK D18 D19 D32
  have GSR : FnOk l.prog w K mg base CX0 6 f35 _ ["_law_rule", "_law_ring", "_law_by"] (spSR K C) := ok_sr D35.fn T B ms DR DK D18 D19 D17 D20
  exact ok_law F36 T B ⟨mk, a37, i37, kc⟩ b37 GI DR ⟨D9, D21, D22, D23, D24, D25, D26, D27, D28, D29, D30, D31, D33, D34, D35⟩ GTR GMR GSR
end K6
open PySem PySem.W PyProof.Rows
set_option maxRecDepth 100000 in
set_option maxHeartbeats 0 in
theorem PySem.Challenge.cw_ringvouch_k06_turned_and_mirrored_holds : PySem.Challenge.rw_ringvouch_k06_turned_and_mirrored.Holds := by
  w_on; o_law; k_head; (case hw => w_witness2)
  k_fill
  refine RV.walk_G (l := PySem.Challenge.rw_ringvouch_k06_turned_and_mirrored) (n := 63) (k := 9) (x := "_law_script") (sp := fun w => K6.spLaw _) rfl (by decide) rfl ⟨rfl, by decide, by decide⟩ (fun w h Y => PySem.W.kIn_of Y) ?F (fun _ _ a ns hl _ hS => ⟨a, ns, rfl, hS, hl, fun _ => rfl⟩)
  case F =>
    intro w mg fa h KX G hmg
    refine' K6.all_mk KX G hmg ?a1 ?l1 ?c1 ?k1 ?a2 ?l2 ?c2 ?k2 ?a3 ?l3 ?c3 ?k3 ?a4 ?l4 ?c4 ?k4 ?a5 ?l5 ?c5 ?k5 ?a6 ?l6 ?c6 ?k6 ?a7 ?l7 ?c7 ?k7 ?a8 ?l8 ?c8 ?k8 ?a9 ?l9 ?c9 ?k9 ?a10 ?l10 ?c10 ?k10 ?a11 ?l11 ?c11 ?k11 ?a12 ?l12 ?c12 ?k12 ?a13 ?l13 ?c13 ?k13 ?a14 ?l14 ?c14 ?k14 ?a15 ?l15 ?c15 ?k15 ?a16 ?l16 ?c16 ?k16 ?a17 ?l17 ?c17 ?k17 ?a18 ?l18 ?c18 ?k18 ?a19 ?l19 ?c19 ?k19 ?a20 ?l20 ?c20 ?k20 ?a21 ?l21 ?c21 ?k21 ?a22 ?l22 ?c22 ?k22 ?a23 ?l23 ?c23 ?k23 ?a24 ?l24 ?c24 ?k24 ?a25 ?l25 ?c25 ?k25 ?a26 ?l26 ?c26 ?k26 ?a27 ?l27 ?c27 ?k27 ?a28 ?l28 ?c28 ?k28 ?a29 ?l29 ?c29 ?k29 ?a30 ?l30 ?c30 ?k30 ?a31 ?l31 ?c31 ?k31 ?a32 ?l32 ?c32 ?k32 ?a33 ?l33 ?c33 ?k33 ?a34 ?l34 ?c34 ?k34 ?a35 ?l35 ?c35 ?k35 ?a36 ?l36 ?c36 ?k36 ?aC ?a37 ?i37 ?l37 ?c37 ?k37 ?a38 ?i38 ?l38 ?c38 ?k38 ?a39 ?i39 ?l39 ?c39 ?k39 ?a40 ?i40 ?l40 ?c40 ?k40 ?pg ?hd ?po ?sa ?mk ?kc ?nM ?nS ?nF ?t1 ?t2 ?t3 ?t4 ?mM ?mS ?z0 ?z1 ?z2 ?z3 ?z4 ?z5 ?z6 ?z7 ?z8 ?z9 ?z10 ?z11 ?z12 ?z13 ?z14 ?z15 ?z16 ?z17 ?z18
    (case a1 => k_is)
    (case l1 => k_is)
    (case c1 => k_is)
    (case k1 => k_is)
    (case a2 => k_is)
    (case l2 => k_is)
    (case c2 => k_is)
    (case k2 => k_is)
    (case a3 => k_is)
    (case l3 => k_is)
    (case c3 => k_is)
    (case k3 => k_is)
    (case a4 => k_is)
    (case l4 => k_is)
    (case c4 => k_is)
    (case k4 => k_is)
    (case a5 => k_is)
    (case l5 => k_is)
    (case c5 => k_is)
    (case k5 => k_is)
    (case a6 => k_is)
    (case l6 => k_is)
    (case c6 => k_is)
    (case k6 => k_is)
    (case a7 => k_is)
    (case l7 => k_is)
    (case c7 => k_is)
    (case k7 => k_is)
    (case a8 => k_is)
    (case l8 => k_is)
    (case c8 => k_is)
    (case k8 => k_is)
    (case a9 => k_is)
    (case l9 => k_is)
    (case c9 => k_is)
    (case k9 => k_is)
    (case a10 => k_is)
    (case l10 => k_is)
    (case c10 => k_is)
    (case k10 => k_is)
    (case a11 => k_is)
    (case l11 => k_is)
    (case c11 => k_is)
    (case k11 => k_is)
    (case a12 => k_is)
    (case l12 => k_is)
    (case c12 => k_is)
    (case k12 => k_is)
    (case a13 => k_is)
    (case l13 => k_is)
    (case c13 => k_is)
    (case k13 => k_is)
    (case a14 => k_is)
    (case l14 => k_is)
    (case c14 => k_is)
    (case k14 => k_is)
    (case a15 => k_is)
    (case l15 => k_is)
    (case c15 => k_is)
    (case k15 => k_is)
    (case a16 => k_is)
    (case l16 => k_is)
    (case c16 => k_is)
    (case k16 => k_is)
    (case a17 => k_is)
    (case l17 => k_is)
    (case c17 => k_is)
    (case k17 => k_is)
    (case a18 => k_is)
    (case l18 => k_is)
    (case c18 => k_is)
    (case k18 => k_is)
    (case a19 => k_is)
    (case l19 => k_is)
    (case c19 => k_is)
    (case k19 => k_is)
    (case a20 => k_is)
    (case l20 => k_is)
    (case c20 => k_is)
    (case k20 => k_is)
    (case a21 => k_is)
    (case l21 => k_is)
    (case c21 => k_is)
    (case k21 => k_is)
    (case a22 => k_is)
    (case l22 => k_is)
    (case c22 => k_is)
    (case k22 => k_is)
    (case a23 => k_is)
    (case l23 => k_is)
    (case c23 => k_is)
    (case k23 => k_is)
    (case a24 => k_is)
    (case l24 => k_is)
    (case c24 => k_is)
    (case k24 => k_is)
    (case a25 => k_is)
    (case l25 => k_is)
    (case c25 => k_is)
    (case k25 => k_is)
    (case a26 => k_is)
    (case l26 => k_is)
    (case c26 => k_is)
    (case k26 => k_is)
    (case a27 => k_is)
    (case l27 => k_is)
    (case c27 => k_is)
    (case k27 => k_is)
    (case a28 => k_is)
    (case l28 => k_is)
    (case c28 => k_is)
    (case k28 => k_is)
    (case a29 => k_is)
    (case l29 => k_is)
    (case c29 => k_is)
    (case k29 => k_is)
    (case a30 => k_is)
    (case l30 => k_is)
    (case c30 => k_is)
    (case k30 => k_is)
    (case a31 => k_is)
    (case l31 => k_is)
    (case c31 => k_is)
    (case k31 => k_is)
    (case a32 => k_is)
    (case l32 => k_is)
    (case c32 => k_is)
    (case k32 => k_is)
    (case a33 => k_is)
    (case l33 => k_is)
    (case c33 => k_is)
    (case k33 => k_is)
    (case a34 => k_is)
    (case l34 => k_is)
    (case c34 => k_is)
    (case k34 => k_is)
    (case a35 => k_is)
    (case l35 => k_is)
    (case c35 => k_is)
    (case k35 => k_is)
    (case a36 => k_is)
    (case l36 => k_is)
    (case c36 => k_is)
    (case k36 => k_is)
    (case aC => k_is)
    (case a37 => k_is)
    (case i37 => k_is)
    (case l37 => k_is)
    (case c37 => k_is)
    (case k37 => k_is)
    (case a38 => k_is)
    (case i38 => k_is)
    (case l38 => k_is)
    (case c38 => k_is)
    (case k38 => k_is)
    (case a39 => k_is)
    (case i39 => k_is)
    (case l39 => k_is)
    (case c39 => k_is)
    (case k39 => k_is)
    (case a40 => k_is)
    (case i40 => k_is)
    (case l40 => k_is)
    (case c40 => k_is)
    (case k40 => k_is)
    (case pg => k_is)
    (case hd => k_is)
    (case po => k_is)
    (case sa => k_is)
    (case mk => k_is)
    (case kc => k_is)
    (case nM => k_is)
    (case nS => k_is)
    (case nF => k_is)
    (case t1 => k_is)
    (case t2 => k_is)
    (case t3 => k_is)
    (case t4 => k_is)
    (case mM => k_is)
    (case mS => k_is)
    (case z0 => k_is)
    (case z1 => k_is)
    (case z2 => k_is)
    (case z3 => k_is)
    (case z4 => k_is)
    (case z5 => k_is)
    (case z6 => k_is)
    (case z7 => k_is)
    (case z8 => k_is)
    (case z9 => k_is)
    (case z10 => k_is)
    (case z11 => k_is)
    (case z12 => k_is)
    (case z13 => k_is)
    (case z14 => k_is)
    (case z15 => k_is)
    (case z16 => k_is)
    (case z17 => k_is)
    (case z18 => k_is)
