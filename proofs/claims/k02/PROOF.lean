import PyProof.Rows.All
import Wide.All
import OpenK.AllK
import Wide.FinOn
import HandS.ForMost
import KE.GoesEnum
import HandS.Style
import KE.KRevSl
import PyProof.ReprRoads
import HandS.OwnEq
import PyProof.InstNe
import HandS.TupSets
import HandS.IsInst
import HandS.Walk
import HandS.Zip
import HandS.TupAny
import HandS.Deep
import HandS.Conv
import HandS.More
import HandS.Wide
import HandS.SortRule
import HandS.SortOrd
import KE.KDictSum
import PyProof.ReprBulk
import HandS.Strs
import HandS.RaiseMore
import HandS.Text
import KE.KExcSuper
import KE.KSuper
import HandS.ClsMeth
import HandS.ExcInit
import HandS.Nested
import HandS.FStr
import HandS.HeadHook1
import HandS.Head2
import HandS.ExcField
import KE.DataMinMax
import HandS.NamedTupSort
import HandS.ForExc
import HandS.ExcIs
import HandS.WordsExc
import HandS.TupMul
import HandS.SetFor
import PyProof.AutoSeq1
import HandS.SetBool
import PySem.Challenge.RW_ringvouch_k02_rules_refused
set_option Elab.async false
set_option linter.all false
set_option maxRecDepth 100000
namespace RV
open PySem PySem.Spec PyProof.Rows L2
set_option maxHeartbeats 4000000 in
theorem meets_en1 {val : Value} {ob : Obj} {HH : Heap → Prop} (B : Begins val ob HH) :
    Meets (Builtin.«enumerate.__new__» ⟨[.type "enumerate", val], []⟩) (fun _ R st => HH st.heap ∧
      R (.ok (.ret (.ref (st.heap.push ob).objs.size)))
        { st with heap := (st.heap.push ob).push { cls := .type "enumerate", data := .fields #[.none, .bool false, .ref st.heap.objs.size, rawInt 0, .none, .none] } }) :=
  .of_wp fun prog w A R st hyp => by
    obtain ⟨hp, gs, dr, tk, os⟩ := st
    obtain ⟨hyp1, hyp2⟩ := hyp
    have hsub := sub_enumerate
    have it1 : ∀ {A' : Around} {E : Value → Shared → Prop} {Q : Value → Shared → Prop}, Q (.ref hp.objs.size) ⟨hp.push ob, gs, dr, tk, os⟩ →
        wpAny (model prog w) A' (pyIter val) Q E ⟨hp, gs, dr, tk, os⟩ := fun q => B.iter prog w _ _ ⟨hp, gs, dr, tk, os⟩ _ hyp1 q
    wp_walk using it1
    refine wpAny_stack_any fun sk => wpAny_pure ?_
    split
    · rename_i cc _ _ _ _ _
      cases (cc == Value.type "enumerate") <;> (wp_walk using it1; exact ⟨_, rfl, hyp2⟩)
    · wp_walk using it1
      exact ⟨_, rfl, hyp2⟩
section
variable {prog : Program} {w : World} {A : Around} {E : Value → Shared → Prop} {s : Shared}
theorem call_en1 {val : Value} {ob : Obj} {HH : Heap → Prop} {Q : Value → Shared → Prop} (B : Begins val ob HH) (hh : HH s.heap)
    (k : ∀ h', IsEnum h' (s.heap.objs.size + 1) s.heap.objs.size 0 .none → h'.get? s.heap.objs.size = some ob → h'.objs.size = s.heap.objs.size + 2 →
      (∀ b o, s.heap.get? b = some o → h'.get? b = some o) → Q (.ref (s.heap.objs.size + 1)) { s with heap := h' }) :
    wpAny (model prog w) A (call (.type "enumerate") [val]) Q E s := by
  refine callType_new F.called_enumerate (by decide) (F.typeCall_enumerate_1 _) (F.newCall_enumerate_1 _) (fun oo => F.args_object_init_2 oo _) F.entry_enumerate_new (meets_en1 B) ⟨hh, ?_⟩
  have z1 : (s.heap.push ob).objs.size = s.heap.objs.size + 1 := Heap.size_push ..
  show _ ∧ _
  rw [z1]
  have z2 : IsEnum ((s.heap.push ob).push { cls := .type "enumerate", data := .fields #[.none, .bool false, .ref s.heap.objs.size, rawInt 0, .none, .none] }) (s.heap.objs.size + 1) s.heap.objs.size 0 .none := by
    have z3 := Heap.get?_push_size (s.heap.push ob) (o := { cls := .type "enumerate", data := .fields #[.none, .bool false, .ref s.heap.objs.size, rawInt 0, .none, .none] }) rfl
    rw [z1] at z3; exact z3
  refine ⟨⟨_, z2, rfl⟩, k _ z2 (Heap.get?_push_of_some _ (Heap.get?_push_size _ B.free)) (by rw [Heap.size_push, z1]) fun b o x => ?_⟩
  exact Heap.get?_push_of_some _ (Heap.get?_push_of_some _ x)
end
/-- enumerate of a tuple: the items in new pairs -/
def IteT (K : PySem.W.Frag) (a : Addr) : It where
  go i H := ∃ (xs : List V) (x : V), SqT K H a xs ∧ xs[i]? = some x
  yld i H v H' := ∃ T x, v = .ref T ∧ H T = none ∧ H' = upd H T (.tup [.int (i : Nat), x]) ∧ ∀ xs, SqT K H a xs → xs[i]? = some x
  stop i H := ∃ xs : List V, SqT K H a xs ∧ xs.length ≤ i
theorem turn_enT {P : Program} {w : World} {K : PySem.W.Frag} {elts : List Expr} {kk : Nat} {tpos : Pos} (a e it : Addr) :
    Turn P w K (.Tuple elts kk tpos) (IteT K a) [e, it] e (fun i h => (∃ old, IsEnum h e it ((i : Nat) : Int) old) ∧ h.IsTupleIter it a i ∧ e ≠ it ∧ a ≠ it ∧ a ≠ e) where
  mem := by simp
  obj := fun i h st b hb => by
    obtain ⟨⟨old, he⟩, ⟨o, ho, hc, hd⟩, _, _⟩ := st
    have eb : b = e ∨ b = it := by simpa using hb
    rcases eb with rfl | rfl
    · exact ⟨_, he, fun v q => nomatch q⟩
    · exact ⟨o, ho, fun v q => by rw [hd] at q; cases q⟩
  keep := fun i h h' st k => let ⟨⟨old, he⟩, hi, hne⟩ := st; ⟨⟨old, k e (by simp) _ he⟩, hi.at fun o q => k it (by simp) o q, hne⟩
  item := by
    intro X hP hw hK hc i pins s σ H E I hf st hg
    subst hP hw hK
    obtain ⟨⟨old, he⟩, hit, hne, hai, hae⟩ := st
    obtain ⟨xs, x, hq, hx⟩ := hg
    obtain ⟨its, rv, p, hz⟩ := I.tuple hq
    obtain ⟨u, hu, ru⟩ := rv.get hx
    have hel : e < s.heap.objs.size := Heap.lt_size he
    have hil : it < s.heap.objs.size := by obtain ⟨_, q, _⟩ := hit; exact Heap.lt_size q
    have hi : i < its.toArray.size := by
      have := (List.getElem?_eq_some_iff.mp hu).1
      simpa using this
    refine wpAny_pyNext_enum_itemD (A := X.A) (Draws.tuple (A := X.A.in1) (show X.A.in1.handled = none from I.ok.hd hc) it a hai its.toArray) he ⟨hit, p⟩ hi hne (by simp [hne, Ne.symm hae]) fun y h' tk hy ho hst hT hsz hk => ?_
    have hyu : y = u := by
      have e1 : its[i]? = some y := by simpa using hy
      rw [hu] at e1
      exact (Option.some.inj e1).symm
    subst hyu
    refine ⟨_, rfl, wpAny_letOwnedTupleGo_enum (s := { s with heap := h', toks := tk + 1 }) ho fun h'' he' sb => ?_⟩
    have hT2 : h''.get? s.heap.objs.size = some { cls := .type "tuple", data := .seq #[.int i tk, y] } := (sb.2 _ (Nat.ne_of_gt hel)).trans hT
    have new : ObjOk X.prog X.w (upd H s.heap.objs.size (.tup [.int (i : Nat), x])) h'' s.heap.objs.size (.tup [.int (i : Nat), x]) :=
      ⟨by show 2 ≤ sizeLine; decide, [.int i tk, y], .cons ⟨_, rfl⟩ (.cons ru .nil), ⟨_, hT2, rfl, _, rfl⟩⟩
    have I1 : Inv X pins σ (upd H s.heap.objs.size (.tup [.int (i : Nat), x])) { s with heap := h'', toks := tk + 1 } := by
      refine I.turnedNew (ch := [e, it]) (fun b ob hb q => ?_) hf (Nat.le_refl _) new
      exact (sb.2 b (fun z => hb (by simp [z]))).trans (hk b ob (fun z => hb (by simp [z])) (fun z => hb (by simp [z])) q)
    refine ⟨.ref s.heap.objs.size, _, I1, rfl, ⟨_, x, rfl, I.hok.fresh (Nat.le_refl _), rfl, fun ys hy => ?_⟩, ⟨⟨y, ?_⟩, hst.1.at fun o q => (sb.2 it (Ne.symm hne)).trans q, hne, hai, hae⟩, fun b hb => ?_⟩
    · rw [I.tuple_inj hy hq]; exact hx
    · rw [show ((i + 1 : Nat) : Int) = (i : Int) + 1 by omega]; exact he'
    · have eb : b = e ∨ b = it := by simpa using hb
      have hb' : b < s.heap.objs.size := by
        rcases eb with z | z <;> rw [z] <;> assumption
      rw [upd_ne (Nat.ne_of_lt hb')]
      exact (hf b hb).1
  done := by
    intro X hP hw hK hc i pins s σ H E I hf st hg
    subst hP hw hK
    obtain ⟨⟨old, he⟩, hit, hne, hai, hae⟩ := st
    obtain ⟨xs, hq, hx⟩ := hg
    obtain ⟨its, rv, p, hz⟩ := I.tuple hq
    obtain ⟨f0, f1, f2, f3, f4, f5⟩ := hf it (by simp)
    have hl := rv.length
    have hT : s.TypeIs (.ref e) "enumerate" := ⟨_, he, rfl⟩
    unfold pyNext
    refine wpAny_bind (wpAny_attempt (wpAny_callSpecial?_slot (name := Str.ofString "__next__") hT F.slot_enumerate_next (wpAny_call_entry F.slot_enumerate_next hT F.entry_enumerate_next ?_ (F.args_enumerate_next_1 _))))
    show wpAny _ _ (field (.ref e) 2 >>= _) _ _ _
    refine wpAny_bind (wpAny_field he rfl (x := .ref it) rfl ?_)
    refine wpAny_bind (wpAny_nextOf_tuple_end (I.ok.hd hc) hit p (by simp; omega) fun h' x he' hx' => ?_)
    obtain ⟨o, ho, hco⟩ := hx'
    refine wpAny_bind (wpAny_isInstance (T := "StopIteration") (b := true) ⟨o, ho, hco⟩ isSubtype_stop ?_)
    exact wpAny_pure ⟨rfl, I.turned (t' := s.toks) (fun b o hb q => he' b o hb q) f0 f1 f3 f4 f5⟩
  self := fun A i s Q E st h => let ⟨⟨_, he⟩, _⟩ := st; wpAny_pyIter_enum he h
def iEnT (K : PySem.W.Frag) (ta : TA) : TI := fun σ H R => ta σ H fun vs H1 => ∃ a xs, vs = [.ref a] ∧ SqT K H1 a xs ∧ R (IteT K a) H1
theorem pi_enT {X : Cx} {e : Expr} {ta : TA} {p pos tpos : Pos} {elts : List Expr} {kk : Nat} (hg : Gl X "enumerate") (hm : X.mg "enumerate" = none) (ha : PA X [e] ta)
    (hs : starEach [e] X.env = [(false, eval e X.env)] := by rfl) : PI X (.Tuple elts kk tpos) (.Call (.Name "enumerate" p) [e] [] pos) (iEnT X.K ta) := by
  refine ⟨fun pins s σ H R I h => Call_ (ld_blt I hg hm boot_enumerate (PyProof.Rows.callWith_type1 (thn (ha.run pos pins s σ H _ I h) fun us s1 ⟨vs, H1, I1, r1, q1⟩ => ?_) hs rfl))⟩
  obtain ⟨a, xs, ex, hq, q⟩ := q1
  subst ex
  cases r1 with
  | cons r rr =>
    cases rr
    cases r
    obtain ⟨its, rv, p', hz⟩ := I1.tuple hq
    have ha0 : a < s1.heap.objs.size := by
      obtain ⟨o, ho, _⟩ := p'
      exact Heap.lt_size ho
    refine call_en1 (begins_tuple a its.toArray) p' fun h' he hit hsz hk => wpAny_pyIter_enum he ?_
    have I2 : Inv X pins σ H1 { s1 with heap := h' } := I1.kept (t' := s1.toks) hk
    refine ⟨s1.heap.objs.size + 1, [s1.heap.objs.size + 1, s1.heap.objs.size], _, _, H1, rfl, I2, turn_enT a (s1.heap.objs.size + 1) s1.heap.objs.size,
      ⟨⟨.none, he⟩, ⟨_, hit, rfl, rfl⟩, Nat.succ_ne_self _, Nat.ne_of_lt ha0, Nat.ne_of_lt (Nat.lt_succ_of_lt ha0)⟩, fun b hb => ?_, q⟩
    have eb : b = s1.heap.objs.size + 1 ∨ b = s1.heap.objs.size := by simpa using hb
    have hle : s1.heap.objs.size ≤ b := by
      rcases eb with z | z
      · rw [z]; exact Nat.le_add_right _ _
      · rw [z]; exact Nat.le_refl _
    exact I1.fpOk hle (I1.hok.fresh hle)
end RV
set_option maxHeartbeats 4000000
namespace RV
open PySem PySem.Spec PyProof.Rows L2 HT
theorem back_places (n : Nat) : Builtin.Slice.slicePlaces ((n : Int) - 1) (-1) (-1) = n := by
  unfold Builtin.Slice.slicePlaces
  rw [if_neg (show ¬ ((-1 : Int) > 0) by decide)]
  by_cases hn : (n : Int) - 1 > -1
  · rw [if_pos hn, show (- -1 : Int) = 1 from rfl, Int.ediv_one]; omega
  · rw [if_neg hn]; omega
theorem back_pick (xs : Array Value) : ((List.range xs.size).filterMap fun (m : Nat) => xs[((xs.size : Int) - 1 + (m : Int) * (-1)).toNat]?).toArray = xs.toList.reverse.toArray := by
  have e0 : ∀ (l : List Nat), (∀ m ∈ l, m < xs.size) → l.filterMap (fun (m : Nat) => xs[((xs.size : Int) - 1 + (m : Int) * (-1)).toNat]?) = (l.map fun k => xs.size - 1 - k).filterMap (xs[·]?) := by
    intro l
    induction l with
    | nil => intro _; rfl
    | cons m r ih =>
      intro hm
      have h1 := hm m (List.mem_cons_self ..)
      have h2 := ih fun z hz => hm z (List.mem_cons_of_mem _ hz)
      rw [List.map_cons, List.filterMap_cons, List.filterMap_cons, h2, show ((xs.size : Int) - 1 + (m : Int) * (-1)).toNat = xs.size - 1 - m by omega]
  have e1 := e0 (List.range xs.size) fun m hm => List.mem_range.mp hm
  rw [e1, PySem.W.krv_range, List.filterMap_reverse, PySem.W.krv_all]
section
variable {prog : Program} {w : World} {A : Around} {E : Value → Shared → Prop} {s : Shared}
theorem applied_back {sl : Addr} {vl vu vs : Value} {n : Nat} {Q : Int × Int × Nat → Shared → Prop} (hs : s.heap.IsSliceOf sl vl vu vs) (pl : IsPart vl none) (pu : IsPart vu none) (ps : IsPart vs (some (-1)))
    (k : Q ((n : Int) - 1, -1, n) s) : wpAny (model prog w) A (Builtin.Slice.sliceApplied (.ref sl) (pure (n : Int))) Q E s := by
  obtain ⟨os, o1, o2, o3⟩ := id hs
  unfold Builtin.Slice.sliceApplied Builtin.Slice.sliceFields
  refine wpAny_bind (wpAny_bind (wpAny_field o1 o3 (x := vl) rfl (wpAny_bind (wpAny_field o1 o3 (x := vu) rfl (wpAny_bind (wpAny_field o1 o3 (x := vs) rfl (wpAny_pure ?_)))))))
  refine wpAny_bind (slicePart_ ps ?_)
  show wpAny _ _ (if ((-1 : Int) == 0) = true then _ else _) _ _ s
  rw [if_neg (by decide)]
  refine wpAny_bind (slicePart_ pl (wpAny_bind (slicePart_ pu (wpAny_bind (wpAny_pure ?_)))))
  show wpAny _ _ (pure ((n : Int) - 1, (-1 : Int), Builtin.Slice.slicePlaces ((n : Int) - 1) (-1) (-1))) _ _ s
  rw [back_places]
  exact wpAny_pure k
theorem item_back {t sl : Addr} {items : Array Value} {vl vu vs : Value} {Q : Value → Shared → Prop} (ht : IsTup s.heap t items) (hs : s.heap.IsSliceOf sl vl vu vs) (pl : IsPart vl none) (pu : IsPart vu none) (ps : IsPart vs (some (-1)))
    (k : Q (.ref s.heap.objs.size) { s with heap := s.heap.push { cls := .type "tuple", data := .seq items.toList.reverse.toArray } })
    (hsz : items.size ≤ sizeLine) : wpAny (model prog w) A (getItem (.ref t) (.ref sl)) Q E s := by
  have hok : sizeOk (.seq items.toList.reverse.toArray) := by
    show items.toList.reverse.toArray.size ≤ sizeLine
    simpa using hsz
  obtain ⟨os, o1, o2, o3⟩ := id hs
  have hTs : s.TypeIs (.ref sl) "slice" := ⟨os, o1, o2⟩
  unfold getItem
  try with_reducible refine wpAny_holding ?_
  first | refine wpAny_bind (wpAny_pure ?_) | skip
  refine wpAny_bind (wpAny_sequenceKey ht.typeIs (by decide) ?_)
  refine wpAny_bind (wpAny_callSpecial?_slot (name := Str.ofString "__getitem__") ht.typeIs PyProof.Rows.slot_tuple_getitem (wpAny_call_entry PyProof.Rows.slot_tuple_getitem ht.typeIs entry_tuple_getitem ?_ (args_tuple_getitem _ _)))
  show wpAny _ _ (Builtin.Tuple.tupleItemsOf (.ref t) >>= _) _ _ s
  refine wpAny_bind (tupleItemsOf_ ht (wpAny_bind (wpAny_typeOf hTs ?_)))
  rw [if_pos (by decide)]
  refine wpAny_bind (applied_back hs pl pu ps ?_)
  show wpAny _ _ (if (((items.size : Int) - 1) == 0 && (-1 : Int) == 1 && items.size == items.size) = true then _ else _) _ _ s
  rw [if_neg (by simp), back_pick]
  first
    | exact wpAny_bind (m := Builtin.Tuple.tupleExact _) (wpAny_newObj_type (wpAny_pure ⟨_, rfl, wpAny_pure k⟩) hok)
    | exact wpAny_bind (wpAny_bind (m := Builtin.Tuple.tupleExact _) (wpAny_newObj_type (wpAny_pure (wpAny_pure ⟨_, rfl, wpAny_pure k⟩)) hok))
    | exact wpAny_bind (wpAny_bind (m := Builtin.Tuple.tupleExact _) (wpAny_newObj_type (wpAny_pure ⟨_, rfl, wpAny_pure k⟩) hok))
    | exact wpAny_bind (m := Builtin.Tuple.tupleExact _) (wpAny_newObj_type (wpAny_bind (wpAny_pure (wpAny_pure ⟨_, rfl, wpAny_pure k⟩))) hok)
end
section
variable {X : Cx}
/-- t[::-1] of a tuple -/
def tBackT (K : PySem.W.Frag) (te : TE) : TE := fun σ H Q => te σ H fun x H1 => ∃ a xs, x = .ref a ∧ SqT K H1 a xs ∧ ∀ p, H1 p = none → Q (.ref p) (upd H1 p (.tup xs.reverse))
theorem pe_backT {e : Expr} {te : TE} {k : Nat} {p1 p2 p3 pos : Pos} (he : PE X e te) : PE X (.Subscript e (.Slice none none (some (.UnaryOp .USub (.Constant (.int 1) k p1) p2)) p3) pos) (tBackT X.K te) := by
  refine ⟨fun pins s σ H Q I h => Subscript_ (thn (he.run pins s σ H _ I h) fun v s1 ⟨x, H1, I1, r1, q1⟩ => ?_)⟩
  obtain ⟨a, xs, ex, hx, q⟩ := q1
  subst ex
  cases r1
  have hst : PO X (some (.UnaryOp .USub (.Constant (.int 1) k p1) p2)) (tPart (tUn (rU fun i => .int (-i)) (tC (.int 1)))) := po_some (pe_un un_neg pe_int)
  refine wpAny_Slice (thn (po_none.run pins s1 σ H1 (fun o H2 => o = none ∧ H2 = H1) I1 ⟨rfl, rfl⟩) fun vl s2 ⟨l, H2, I2, pl, el, e2⟩ => ?_)
  subst el e2
  refine thn (po_none.run pins s2 σ H2 (fun o H3 => o = none ∧ H3 = H2) I2 ⟨rfl, rfl⟩) fun vu s3 ⟨u, H3, I3, pu, eu, e3⟩ => ?_
  subst eu e3
  refine thn (hst.run pins s3 σ H3 (fun o H4 => o = some (-1) ∧ H4 = H3) I3 ⟨1, rfl, -1, rfl, rfl, rfl⟩) fun vs s4 ⟨o, H4, I4, ps, eo, e4⟩ => ?_
  subst eo e4
  have I5 : Inv X pins σ H4 { s4 with heap := s4.heap.push { cls := .type "slice", data := .fields #[vl, vu, vs] } } := I4.kept (t' := s4.toks) fun b ob q => Heap.get?_push_of_some _ q
  obtain ⟨its, r, ht, hz⟩ := I5.tuple hx
  have hlen := r.length
  show wpAny (model X.prog X.w) X.A (subscriptTail e _ (.ref a) (.ref s4.heap.objs.size)) (EP X pins σ Q) X.xe { s4 with heap := s4.heap.push { cls := .type "slice", data := .fields #[vl, vu, vs] } }
  refine tail_any (ops := [.ref a, .ref s4.heap.objs.size]) ht.typeIs (PyProof.Rows.slot_tuple_getitem.lookup) ?_ (by with_unfolding_all rfl)
  refine item_back ht (Heap.IsSliceOf.new _ vl vu vs) pl pu ps ?_ (by rw [List.size_toArray]; omega)
  refine ⟨.ref _, _, I5.laid (t' := s4.toks) (o := .tup xs.reverse) (fun b ob q => Heap.get?_push_of_some _ q) (Nat.le_refl _) ?_, rfl, q _ (I5.hok.fresh (Nat.le_refl _))⟩
  exact ⟨by rw [List.length_reverse]; exact hz, its.reverse, r.reverse, IsTup.new _ _⟩
end
end RV
set_option maxHeartbeats 4000000
namespace RV
open PySem PySem.Spec PyProof.Rows L2
/-- as the layer's promise of a def, where no repr runs around -/
structure FnG (P : Program) (w : World) (K : PySem.W.Frag) (mg : Str → Option Value) (base : Heap) (CX : CXT) (k : Nat) (f : Addr) (fd : FuncData) (ps : List Str) (sp : Sp) : Prop where
  many : ∀ vs H Q E, sp vs H Q E → vs.length = ps.length
  goes : ∀ (A : Around) (outer : List Env) (s : Shared) (H : Hp) (args : Args) (us : List Value) (vs : List V) (Q : VK) (E : XK), A.guards = some [] → Room k A → Env0 P w K mg base A outer s H →
    BindsTo s fd args (ps.zip us) → Vals vs us → sp vs H Q E → codeAny (model P w) A (.call (.ref f) args) (CR CX outer P w H s Q E) s
section
variable {P : Program} {w : World} {K : PySem.W.Frag} {mg : Str → Option Value} {base : Heap} {CX : CXT} {k : Nat} {f : Addr} {fd : FuncData} {N ps : List Str} {sp : Sp} {x qual : Str} {st : Stmt}
theorem okG (F : Fun K x qual st f fd) (S : FnScope N ps (defScope st)) (len : ∀ vs H Q E, sp vs H Q E → vs.length = ps.length)
    (body : ∀ (cdv : Value) (A : Around) (outer : List Env) (s : Shared) (H : Hp) (vs : List V) (Q : VK) (E : XK), A.guards = some [] → Room k (A.deeper (envOfC qual (defScope st) s.heap.objs.size f cdv)) → sp vs H Q E →
      ∃ t, PSs (cxOf CX0 P w K mg base N qual (defScope st) f cdv A outer s H E).nox (defBody st) t ∧ t { nx := fun _ H' => Q .non H', rt := Q } (start N vs) H) : FnG P w K mg base CX0 (k + 1) f fd ps sp := by
  obtain ⟨oc, od, kV, doc, pm, an, cdv, ct, osl, rfl, lk, hcd⟩ := F.ex
  refine ⟨len, fun A outer s H args us vs Q E gd hr e0 hb r hsp => ?_⟩
  have KX : K.In s.heap := e0.mod.kin.keeps fun b o z => (e0.bs b o z).1
  have lim : s.heap.NoLimit := e0.mod.nolimit.keeps fun b o z => (e0.bs b o z).1
  have kinds : ∀ y ∈ ps.zip us, (defScope st).names.lookup y.1 = some .local ∨ ((defScope st).names.lookup y.1 = some .cell ∧ ((cellsFrom (s.heap.objs.size + 1) (defScope st).names []).lookup y.1).isSome = true) := by
    rintro ⟨n, v⟩ hy
    exact (S.par n (List.of_mem_zip hy).1).imp id fun q => ⟨q, PySem.W.cellsFrom_some _ _ _ (.inl q)⟩
  refine codeAny_call_function hr.depth (KX _ _ lk) rfl S.co S.gen rfl (PySem.W.codeRec_of KX hcd) (hb _ _ _ _ (wpAny_newFunctionEnv_cells S.kind kinds fun env he s1 z => ?_))
  subst he
  refine ⟨lim.keeps z.toInCall.keep, codeAny_func ?_⟩
  obtain ⟨t, ht, hq⟩ := body cdv A outer s H vs Q E gd (hr.deeper _) hsp
  have I : Inv (cxOf CX0 P w K mg base N qual (defScope st) f cdv A outer s H E) [] (start N vs) H s1 := inv_start S hr.hd e0 (len _ _ _ _ hsp) r z
  refine wpAny_mono (ht.nox.run [] s1 (start N vs) H _ I hq) (fun fl s' hs => ?_) fun e s' hs => hs
  cases fl with
  | ret u =>
    obtain ⟨v, σ', H', J, rv, q⟩ := hs
    exact ⟨v, H', J.os, J.bare, J.base, J.hok, rv, q⟩
  | next =>
    obtain ⟨σ', H', J, q⟩ := hs
    exact ⟨V.non, H', J.os, J.bare, J.base, J.hok, rfl, q⟩
  | brk => exact hs.elim fun _ z => z.elim fun _ y => False.elim y.2
  | cont => exact hs.elim fun _ z => z.elim fun _ y => False.elim y.2
end
section
variable {X : Cx} {CX : CXT} {k : Nat} {f : Addr} {fd : FuncData} {ps : List Str} {sp : Sp} {dvs : List V} {ds : List Value} {E : XK} {x : Str} {p pos : Pos} {e : Expr} {es : List Expr} {t : TA}
/-- f(e, ..) of such a def -/
theorem pe_callG (F : FnG X.prog X.w X.K X.mg X.base CX k f fd ps sp) (gd : X.A.guards = some []) (hr : Room k X.A) (hg : Gl X x) (hm : X.mg x = some (.ref f)) (hk : PySem.W.keepIn X.K (.ref f) = true) (hb : Binds X.K fd ps ds) (hd : Vals dvs ds) (hx : Passes CX X E)
    (ha : PA X (e :: es) t) (hdb : (x == ("__debug__" : Str)) = false := by decide) (he : starEach (e :: es) X.env = (false, eval e X.env) :: starEach es X.env := by rfl) (hpl : (backTo pos (starEach es X.env)).any (·.1) = false := by rfl) :
    PE X (.Call (.Name x p) (e :: es) [] pos) (tCall sp dvs E t) := by
  refine ⟨fun pins s σ H Q I h => wpAny_Call_Name_kw (ld_glob I hg hm ?_ hdb)⟩
  refine PySem.W.callWith_K (h₀ := X.base) I.ok.mod.kin hk (thn (ha.run pos pins s σ H _ I h) fun us s1 ⟨vs, H1, I1, r, q⟩ => ⟨I1.kIn, ?_⟩) he hpl
  have r2 : Vals (vs ++ dvs) (us ++ ds) := r.append hd
  have hl : (us ++ ds).length = ps.length := r2.length ▸ F.many _ _ _ _ q
  refine wpAny_call (codeAny_mono (F.goes X.A X.stack s1 H1 ⟨us, []⟩ (us ++ ds) (vs ++ dvs) Q E gd hr I1.env0 (hb s1 us I1.kIn hl) r2 q) fun rr s' hq => ?_)
  cases rr with
  | error ee => exact hx pins σ H1 s1 ee s' I1 hq
  | ok fl => cases fl <;> first | exact I1.after hq | exact False.elim hq
/-- repr(x), x an object read as data -/
theorem call_reprD (gd : X.A.guards = some []) (hu : X.A.units + 65 < cLine) : CallR X (.builtin "repr") (fun xs H Q => ∃ (a : Addr) (d : PyData), xs = [.ref a] ∧ Dp X.K H (.ref a) d ∧ d.showable = true ∧ d.hasDict = false ∧ d.depth ≤ 64 ∧ d.shown.length ≤ sizeLine ∧ Q (.str d.shown) H) := by
  intro pins s σ H xs us Q I r h
  obtain ⟨a, d, rfl, hd, h1, h2, h3, h4, q⟩ := h
  obtain ⟨u, rfl, ru⟩ := vals1 r
  cases ru
  obtain ⟨as, rd⟩ := Dp.reads I d (.ref a) (.ref a) hd rfl
  refine repr_of_reads' rd h1 (fun z => by rw [h2] at z; cases z) gd (by omega) (fun _ _ z => z) (fun h' uu tk k => ?_) h4
  exact ⟨.str d.shown, H, I.kept k, ⟨uu, rfl⟩, q⟩
end
section
/-- the law's call, from such a promise -/
theorem law_callG {P : Program} {w : World} {K : PySem.W.Frag} {mg mb : Str → Option Value} {k : Nat} {fa a : Addr} {fd : FuncData} {x : Str} {sp : Sp} {st : Shared} {vs : List Value} {ns : List Int}
    (KX : K.In st.heap) (n1 : st.heap.Ns mainGlobals mg) (n2 : st.heap.Ns builtinsNs mb) (n3 : ∀ x : Str, x ≠ "__name__" → mb x = bootBuiltins x) (n4 : st.heap.NoLimit) (n5 : st.gens = #[])
    (ha : st.heap.get? a = some { cls := .type "list", data := .seq vs.toArray }) (hi : IntsAre vs ns) (hl : ns.length ≤ sizeLine) (hr : Room k callerA)
    (F : ∀ base : Heap, K.In base → base.Ns mainGlobals mg → FnG P w K mg base CX0 k fa fd [x] sp) (bnd : ∀ (s : Shared) (u : Value), BindsTo s fd ⟨[u], []⟩ [(x, u)])
    (hsp : ∀ H : Hp, Only H → SqL K H a (ns.map V.int) → sp [.ref a] H (fun v _ => v = .bl true) fun _ _ _ => False) :
    codeAny (model P w) callerA (.call (.ref fa) ⟨[.ref a], []⟩) (fun r s' => r = .ok (.ret (.bool true)) ∧ OldK st.heap s'.heap ∧ s'.os = st.os ∧ AllBare s'.gens) st := by
  have rv := vals_ints hi
  have lv := hi.length
  have key : ∀ H : Hp, Only H → SqL K H a (ns.map V.int) → HOk P w H st.heap → (∀ b, H b ≠ none → b = a) → (H a ≠ none → K.lookup a = none) →
      codeAny (model P w) callerA (.call (.ref fa) ⟨[.ref a], []⟩) (fun r s' => r = .ok (.ret (.bool true)) ∧ OldK st.heap s'.heap ∧ s'.os = st.os ∧ AllBare s'.gens) st := by
    intro H hO hS hok hA hK
    have noA : ∀ {b : Addr} {o : Obj} {es : Array DictEntry} {ep : Nat}, st.heap.get? b = some o → o.data = .dict es ep → H b = none := by
      intro b o es ep e d
      cases q : H b with
      | none => rfl
      | some u =>
        obtain rfl : b = a := hA b (by rw [q]; simp)
        rw [ha] at e
        cases e
        cases (show Data.seq vs.toArray _ = Data.dict es ep from d)
    have nsK : ∀ {b : Addr} {m : Str → Option Value}, st.heap.Ns b m → (hidT st.heap H).Ns b m := fun {b m} ⟨o, es, ep, e, d, r⟩ => ⟨o, es, ep, hidT_get e (noA e d), d, r⟩
    have kb : K.In (hidT st.heap H) := fun b o e => hidT_get (KX b o e) (by
      cases q : H b with
      | none => rfl
      | some u =>
        obtain rfl : b = a := hA b (by rw [q]; simp)
        rw [hK (by rw [q]; simp)] at e
        cases e)
    obtain ⟨mc, l1, l2⟩ := n4
    have e0 : Env0 P w K mg (hidT st.heap H) callerA [] st H :=
      ⟨rfl, ⟨kb, nsK n1, ⟨mb, nsK n2, n3⟩, ⟨mc, nsK l1, l2⟩⟩, fun b o e => of_hidT e, Nat.le_of_eq (hidT_size _ _), trivial, fun b hb => absurd (show b ∈ ([] : List Addr) from hb) (by simp), hok, .of_eq n5⟩
    refine codeAny_mono ((F _ kb (nsK n1)).goes callerA [] st H ⟨[.ref a], []⟩ [.ref a] [.ref a] _ _ rfl hr e0 (bnd st (.ref a)) (.cons rfl .nil) (hsp H hO hS)) fun r s' h => ?_
    cases r with
    | error e => exact False.elim h
    | ok fl =>
      cases fl with
      | next => exact False.elim h
      | brk => exact False.elim h
      | cont => exact False.elim h
      | ret u =>
        obtain ⟨v, H', os, bare, un, hok', r', q⟩ := h
        obtain rfl : v = .bl true := q
        obtain rfl : u = Value.bool true := r'
        refine ⟨rfl, OldK.of_keep fun b o e => ?_, os, bare⟩
        rcases hO b with z | ⟨ob, xs, z⟩
        · exact un.keep b o e z (fun y => absurd (show b ∈ ([] : List Addr) from y) (by simp)) (by simp)
        · have z2 := un.frzs b ob _ z
          obtain ⟨e1, _⟩ := hok b _ z
          obtain ⟨e2, _⟩ := hok' b _ z2
          rw [e] at e1
          cases e1
          exact e2
  cases hk : K.lookup a with
  | some o =>
    have e := KX a o hk
    rw [ha] at e
    cases e
    exact key (fun _ => none) (fun _ => .inl rfl) (.inr ⟨_, vs.toArray, _, hk, rfl, rfl, rfl, by rw [List.size_toArray, lv]; exact hl, by simpa using rv⟩)
      (fun b u z => by cases (show (none : Option HO) = some u from z)) (fun b z => absurd rfl z) fun z => absurd rfl z
  | none =>
    refine key (fun b => if b = a then some (.frz { cls := .type "list", data := .seq vs.toArray } (.lst (ns.map V.int))) else none) (fun b => ?_) (.inl (.inr ⟨{ cls := .type "list", data := .seq vs.toArray }, if_pos rfl⟩)) (fun b u z => ?_) (fun b z => ?_) fun _ => hk
    · by_cases hb : b = a
      · exact .inr ⟨_, _, if_pos hb⟩
      · exact .inl (if_neg hb)
    · by_cases hb : b = a
      · cases (if_pos hb).symm.trans z
        subst hb
        exact ⟨ha, by rw [List.length_map]; exact hl, vs, _, rv, ha⟩
      · cases (if_neg hb).symm.trans z
    · exact Classical.byContradiction fun hb => z (if_neg hb)
theorem walk_G {l : PySem.W.OpenLaw} {n k : Nat} {q : Program} {loose : List Str} {XP : (Str → Option Value) → Heap → Prop} {YP : World → Heap → Prop} {d : DefRec} {K : Params → PySem.W.Frag} {sp : World → Sp} {x : Str}
    (hn : l.most = some n) (hn2 : n ≤ sizeLine) (hdf : d.params.defaults = []) (hr : Room k callerA) (hY : ∀ (w : World) (h : Heap), YP w h → (K w.params).In h)
    (F : ∀ (w : World) (mg : Str → Option Value) (fa : Addr) (h : Heap), (K w.params).In h → h.Ns mainGlobals mg → mg d.name = some (.ref fa) →
      ∃ fd : FuncData, (∀ (s : Shared) (u : Value), BindsTo s fd ⟨[u], []⟩ [(x, u)]) ∧ ∀ base : Heap, (K w.params).In base → base.Ns mainGlobals mg → FnG l.prog w (K w.params) mg base CX0 k fa fd [x] (sp w))
    (hsp : ∀ (w : World) (H : Hp) (a : Addr) (ns : List Int), ns.length ≤ n → Only H → SqL (K w.params) H a (ns.map V.int) → sp w [.ref a] H (fun v _ => v = .bl true) fun _ _ _ => False) :
    PySem.W.WalkO q loose XP YP l.row.toRowW d [] (fun f vs => PySem.call f vs) := by
  refine Att.attach_call hn hdf fun w s₀ st mg mb fa o pm cd doc a vs ns G Y ho hd hcd hmg hobj hints hlen hg => ?_
  obtain ⟨fd, hb, hF⟩ := F w mg fa _ (hY w _ Y) G.T.g hmg
  exact law_callG (hY w _ Y) G.T.g G.T.b G.T.builtins G.T.nolimit hg hobj hints (Nat.le_trans hlen hn2) hr hF hb fun H hO hS => hsp w H a ns hlen hO hS
end
end RV
set_option maxHeartbeats 4000000
namespace RV
open PySem PySem.Spec PyProof.Rows L2 PySem.W
section
variable {prog : Program} {w : World} {A : Around} {E : Value → Shared → Prop} {s : Shared} {K : Frag} {x C L f : Addr} {h₀ : Heap} {m : Str → Option Value} {ox : Obj} {od : Option Obj} {b tb : Value}
theorem ne_bound {Q : Option Value → Shared → Prop} (X : K.In s.heap) (I : InstAt s.heap x ox C od) (hs : findIn K (.ref C) "__ne__" = some (some (.builtin "object.__ne__")))
    (h : wpAny (model prog w) A (call (.builtin "object.__ne__") [.ref x, b]) (fun v => Q (some v)) E s) : wpAny (model prog w) A (callSpecialIfBound? (.ref x) "__ne__" [b]) Q E s := by
  simp only [callSpecialIfBound?, bindSpecialIfBound?]
  refine wpAny_holding (wpAny_bind (wpAny_bind (wpAny_bind (I.type.here ((looks_findIn X hs).here ?_)))))
  refine wpAny_bind (wpAny_askSetting (wpAny_ite ?_))
  have fin : wpAny (model prog w) A (call (.builtin "object.__ne__") ([.ref x] ++ [b]) >>= fun v => pure (some v)) Q E s :=
    wpAny_bind (wpAny_mono h (fun v s' z => wpAny_pure z) fun _ _ z => z)
  split
  · rw [F.cmp_object.ne.bind]
    exact wpAny_bind (wpAny_pure (wpAny_pure fin))
  · rw [F.cmp_object.ne.bind]
    exact wpAny_tryCatch (wpAny_bind (wpAny_pure (wpAny_pure fin)))
theorem obj_ne {Q : Fin → Shared → Prop} (X : K.In s.heap) (hu : A.units < cLine) (I : InstAt s.heap x ox C od) (hs : findIn K (.ref C) "__eq__" = some (some (.ref f))) (hf : isFn K (.ref f) = true)
    (h : wpAny (model prog w) A (call (.ref f) [.ref x, b]) (fun v s' => ∃ c, v = .bool c ∧ Q (.done (.ret (.bool (!c)))) s') E s) :
    wpAny (model prog w) A (Builtin.«object.__ne__» ⟨[.ref x, b], []⟩) Q E s := by
  unfold Builtin.«object.__ne__»
  repeat (first
    | with_reducible refine wpAny_cRoomFor hu ?_
    | (refine wpAny_bind (m := callSpecialIfBound? (.ref x) (Str.ofString "__eq__") [b])
        (ifBound_K X I hs hf (wpAny_mono h (fun r s' hr => by
          obtain ⟨c, rfl, hq⟩ := hr
          repeat (first | exact hq | exact wpAny_pure hq | exact wpAny_truthy_bool hq | (refine wpAny_bind (m := truthy (.bool _)) (wpAny_truthy_bool ?_)) | wp_step)) fun _ _ z => z)))
    | wp_step)
theorem cmp_ne {Q : Value → Shared → Prop} (hu : A.units + 1 < cLine) (F0 : Fr h₀ L s.heap m) (X₀ : K.In h₀) (I : InstAt s.heap x ox C od) (hb : Looks (model prog w) s.heap (typeOf b) (.ref C))
    (hn : findIn K (.ref C) "__ne__" = some (some (.builtin "object.__ne__"))) (hm : mroIn K C (.type "object") = some true)
    (hs : findIn K (.ref C) "__eq__" = some (some (.ref f))) (hf : isFn K (.ref f) = true)
    (h : wpAny (model prog w) A.in1 (call (.ref f) [.ref x, b]) (fun v s' => ∃ c, v = .bool c ∧ Q (.bool (!c)) s') E s) : wpAny (model prog w) A (richCompare .NotEq (.ref x) b) Q E s := by
  have X := X₀.keeps F0.keep
  have one : wpAny (model prog w) A (tryCompare (.ref x) "__ne__" b) (fun r s' => ∃ v, r = some v ∧ Q v s') E s := by
    unfold tryCompare
    refine wpAny_bind (ne_bound X I hn (wpAny_call (codeAny_call_builtin F.cmp_object.ne.plain F.cmpEntry_ne ?_)))
    refine check_slot F.cmpKind_ne F.cmpSplit_ne ?_ (F.cmpArgs_ne _ _) ?_
    · exact I.type.andThen (looks_mroIn X hm)
    · refine obj_ne (A := A.in1) X hu I hs hf (wpAny_mono h (fun v s' hv => ?_) fun _ _ z => z)
      obtain ⟨c, rfl, hq⟩ := hv
      exact ⟨c, rfl, wpAny_pure ⟨_, rfl, hq⟩⟩
  unfold richCompare
  simp only [oneThing_ref]
  refine wpAny_holding (wpAny_bind (wpAny_cRoomFor (Nat.lt_of_succ_lt hu) ?_))
  rw [cmpInfo_NotEq]
  dsimp only
  refine wpAny_bind (I.type.here (wpAny_bind (hb.here ?_)))
  rw [show (Value.ref C != Value.ref C) = false from by simp]
  simp only [Bool.false_eq_true, if_false]
  refine wpAny_bind (wpAny_pure ?_)
  simp only [Bool.false_eq_true, if_false]
  refine wpAny_bind (wpAny_mono one (fun r s' z => ?_) fun _ _ z => z)
  obtain ⟨v, rfl, hq⟩ := z
  exact wpAny_pure hq
end
section
variable {X : Cx} {CX : CXT} {n : Nat} {C f : Addr} {fd : FuncData} {ps : List Str} {sp : Sp} {E : XK}
/-- x != y, instances of the class at C, by the text's own == -/
def rNeI (C : Addr) (sp : Sp) (E : XK) : R2 := fun x y H Q => ∃ a b dx dy fs gs, x = .ref a ∧ y = .ref b ∧ H a = some (.ins C dx fs) ∧ H b = some (.ins C dy gs) ∧ sp [.ref a, .ref b] H (fun v H' => ∃ c, v = .bl c ∧ Q (.bl (!c)) H') E
def rEqI (C : Addr) (sp : Sp) (E : XK) : R2 := fun x y H Q => ∃ a b dx dy fs gs, x = .ref a ∧ y = .ref b ∧ H a = some (.ins C dx fs) ∧ H b = some (.ins C dy gs) ∧ sp [.ref a, .ref b] H (fun v H' => ∃ c, v = .bl c ∧ Q (.bl c) H') E
theorem op_neI (G : FnOk X.prog X.w X.K X.mg X.base CX n f fd ps sp) (hr : Room (n + 1) X.A) (hn : findIn X.K (.ref C) "__ne__" = some (some (.builtin "object.__ne__"))) (hm : mroIn X.K C (.type "object") = some true)
    (hs : findIn X.K (.ref C) "__eq__" = some (some (.ref f))) (hf : isFn X.K (.ref f) = true) (hb : Binds X.K fd ps []) (hx : Passes CX X E) : OpR X (compareOp .NotEq) (rNeI C sp E) := by
  intro pins s σ H x y v u Q I rx ry hq
  obtain ⟨a, b, dx, dy, fs, gs, rfl, rfl, ha, hb', q⟩ := hq
  cases rx
  cases ry
  obtain ⟨mA, J, _⟩ := ins_get I.hok ha
  obtain ⟨mB, J', _⟩ := ins_get I.hok hb'
  obtain ⟨od, J, _⟩ := J.look
  obtain ⟨od', J', _⟩ := J'.look
  obtain ⟨m, hF⟩ := I.fr
  show wpAny (model X.prog X.w) X.A (richCompare .NotEq (.ref a) (.ref b)) (EP X pins σ Q) X.xe s
  refine cmp_ne (by have := hr.un; omega) hF I.ok.mod.kin J J'.type hn hm hs hf ?_
  have hl := G.len _ _ _ _ q
  have r2 : Vals [V.ref a, V.ref b] [Value.ref a, Value.ref b] := .cons rfl (.cons rfl .nil)
  refine wpAny_call (codeAny_mono (G.run X.A.in1 X.stack s H ⟨[.ref a, .ref b], []⟩ [.ref a, .ref b] [.ref a, .ref b] _ E hr.in1 I.env0.in1 (by simpa using hb s [.ref a, .ref b] I.kIn (by simpa using hl)) r2 q) fun r s' hq => ?_)
  cases r with
  | error e => exact hx pins σ H s e s' I hq
  | ok fl =>
    cases fl with
    | ret w =>
      obtain ⟨z, H', I', rz, c, ez, ex⟩ := I.after hq
      subst ez
      cases rz
      exact ⟨c, rfl, .bl (!c), H', I', rfl, ex⟩
    | next => exact False.elim hq
    | brk => exact False.elim hq
    | cont => exact False.elim hq
theorem op_eqI (G : FnOk X.prog X.w X.K X.mg X.base CX n f fd ps sp) (hr : Room n X.A)
    (hs : findIn X.K (.ref C) "__eq__" = some (some (.ref f))) (hf : isFn X.K (.ref f) = true) (hb : Binds X.K fd ps []) (hx : Passes CX X E) : OpR X (compareOp .Eq) (rEqI C sp E) := by
  intro pins s σ H x y v u Q I rx ry hq
  obtain ⟨a, b, dx, dy, fs, gs, rfl, rfl, ha, hb', q⟩ := hq
  cases rx
  cases ry
  obtain ⟨mA, J, _⟩ := ins_get I.hok ha
  obtain ⟨mB, J', _⟩ := ins_get I.hok hb'
  obtain ⟨od, J, _⟩ := J.look
  obtain ⟨od', J', _⟩ := J'.look
  obtain ⟨m, hF⟩ := I.fr
  show wpAny (model X.prog X.w) X.A (richCompare .Eq (.ref a) (.ref b)) (EP X pins σ Q) X.xe s
  refine PySem.W.cmp_K (op := .Eq) (tb := .ref C) hr.units0 hF I.ok.mod.kin J J'.type (by simp [PySem.W.notFirst]) hs hf ?_
  have hl := G.len _ _ _ _ q
  have r2 : Vals [V.ref a, V.ref b] [Value.ref a, Value.ref b] := .cons rfl (.cons rfl .nil)
  refine wpAny_call (codeAny_mono (G.run X.A X.stack s H ⟨[.ref a, .ref b], []⟩ [.ref a, .ref b] [.ref a, .ref b] _ E hr I.env0 (by simpa using hb s [.ref a, .ref b] I.kIn (by simpa using hl)) r2 q) fun r s' hq => ?_)
  cases r with
  | error e => exact hx pins σ H s e s' I hq
  | ok fl =>
    cases fl with
    | ret w =>
      obtain ⟨z, H', I', rz, c, ez, ex⟩ := I.after hq
      subst ez
      cases rz
      exact ⟨.bl c, H', I', rfl, ex⟩
    | next => exact False.elim hq
    | brk => exact False.elim hq
    | cont => exact False.elim hq
end
end RV
set_option maxHeartbeats 4000000
/-! set(xs) of tuples of ints, xs of any length, where few of them are unlike -/
namespace RV
open PySem PySem.Spec PyProof.Rows L2
/-- fewer than 63 unlike ones -/
def FewUnlike (ks : List (Addr × List Int)) : Prop := ∀ L : List (Addr × List Int), (L.map (·.2)).Nodup → (∀ p ∈ L, p ∈ ks) → L.length + 1 < 64
abbrev noneYet (w : World) : Obj := { cls := .type "set", dict := none, data := .set #[] 0 (.fresh 0 0 (!w.params.followText "set-order")) }
section
variable {P : Program} {w : World} {A : Around} {E : Value → Shared → Prop} {s : Shared}
theorem setN_loop {R : Result → Shared → Prop} (hh : A.in1.handled = none) (S l it : Addr) (hSl : S ≠ l) (hSi : S ≠ it) (hli : l ≠ it) (items : Array Value) (ks : List (Addr × List Int)) (few : FewUnlike ks)
    (refs : ∀ (i : Nat) (p : Addr × List Int), ks[i]? = some p → items[i]? = some (Value.ref p.1)) (size : items.size = ks.length) (old : Heap) (tups : ∀ p ∈ ks, IsT P w old p.2 p.1) (o1 : old.get? S = none) (o2 : old.get? it = none) (hu : A.in1.units < cLine) :
    ∀ (k i : Nat) (s : Shared), ks.length - i = k → i ≤ ks.length → s.heap.IsListIter it l i → s.heap.IsList l items → (∀ b o, old.get? b = some o → s.heap.get? b = some o) → (∃ L es ep t, SetTR P w s.heap S L es ep t ∧ Got ks i L) →
      (∀ h' tk L es ep t, SetTR P w h' S L es ep t → Got ks ks.length L → (∀ b o, old.get? b = some o → h'.get? b = some o) → R (.ok (.ret .none)) { s with heap := h', toks := tk }) →
      codeAny (model P w) A (.builtin "set.update.loop" ⟨[.ref S, .ref it], []⟩) R s
  | 0, i, s, hk, hi, hit, hl, keep, ⟨L, es, ep, t, hS, got⟩, fin => by
    obtain rfl : i = ks.length := by omega
    refine codeAny_builtin F.entry_set_update_loop ?_
    rw [Around.under_plainId F.plain_set_update_loop _]
    show wpAny _ A.in1 (pyNext (.ref it) >>= _) _ _ s
    refine wpAny_bind (wpAny_pyNext_list_end hh hit hl (by simp [size]) fun h' ext => ?_)
    have keep' : ∀ b o, old.get? b = some o → h'.get? b = some o := fun b o e => ext b o (fun z => by rw [z, o2] at e; cases e) (keep b o e)
    exact wpAny_pure (fin h' s.toks L es ep t (hS.keep (fun o e => ext S o hSi e) fun p hp => isT_keep (tups p (List.mem_of_mem_take (got.sub p hp))) keep') got keep')
  | k + 1, i, s, hk, hi, hit, hl, keep, ⟨L, es, ep, t, hS, got⟩, fin => by
    obtain ⟨p, hp⟩ : ∃ p, ks[i]? = some p := ⟨_, List.getElem?_eq_getElem (by omega)⟩
    refine codeAny_builtin F.entry_set_update_loop ?_
    rw [Around.under_plainId F.plain_set_update_loop _]
    show wpAny _ A.in1 (pyNext (.ref it) >>= _) _ _ s
    refine wpAny_bind (wpAny_pyNext_list_item hit hl (refs i p hp) fun h1 hit1 sb1 => ?_)
    have keep1 : ∀ b o, old.get? b = some o → h1.get? b = some o := fun b o e => (sb1.2 b fun z => by rw [z, o2] at e; cases e).trans (keep b o e)
    have inKs : ∀ q ∈ L, q ∈ ks := fun q hq => List.mem_of_mem_take (got.sub q hq)
    have hS1 : SetTR P w h1 S L es ep t := hS.keep (fun o e => (sb1.2 S hSi).trans e) fun q hq => isT_keep (tups q (inKs q hq)) keep1
    have hT : IsT P w h1 p.2 p.1 := isT_keep (tups p (List.mem_of_getElem? hp)) keep1
    show wpAny _ A.in1 (holding [Value.ref p.1] (setAdd S (.ref p.1)) >>= _) _ _ _
    refine wpAny_bind (wpAny_holding ?_)
    unfold setAdd
    refine wpAny_holding (wpAny_bind (wpAny_pyHash_tuple hu hT ?_))
    refine add_at (s := { s with heap := h1, toks := s.toks + (p.2.length + 1) }) hS1 hT hu (few L hS1.nd inKs) fun b h2 L2 es2 ep2 t2 sb2 hS2 yes no => ?_
    have got2 : Got ks (i + 1) L2 := by
      by_cases c : p.2 ∈ L.map (·.2)
      · rw [yes c]; exact got.same hp c
      · exact got.more hp (no c)
    have keep2 : ∀ b o, old.get? b = some o → h2.get? b = some o := fun b o e => (sb2.2 b fun z => by rw [z, o1] at e; cases e).trans (keep1 b o e)
    refine wpAny_pure ⟨plainId_quiet F.plain_set_update_loop _, setN_loop hh S l it hSl hSi hli items ks few refs size old tups o1 o2 hu k (i + 1) _ (by omega) (by omega)
      (hit1.at fun o e => (sb2.2 it (Ne.symm hSi)).trans e) ((hl.at fun o e => (sb1.2 l hli).trans e).at fun o e => (sb2.2 l (Ne.symm hSl)).trans e) keep2 ⟨L2, es2, ep2, t2, hS2, got2⟩ fun h' tk L' es' ep' t' z1 z2 z3 => ?_⟩
    exact fin h' tk L' es' ep' t' z1 z2 z3
set_option maxHeartbeats 8000000 in
theorem call_setN {l : Addr} {items : Array Value} (ks : List (Addr × List Int)) {Q : Value → Shared → Prop} (hh : A.handled = none) (hl : s.heap.IsList l items) (refs : items.toList = ks.map fun p => Value.ref p.1)
    (tups : ∀ p ∈ ks, IsT P w s.heap p.2 p.1) (few : FewUnlike ks) (hu : A.units + 3 < cLine)
    (k : ∀ (h' : Heap) (tk : Nat) L es ep t, SetTR P w h' s.heap.objs.size L es ep t → Got ks ks.length L → (∀ b o, s.heap.get? b = some o → h'.get? b = some o) → Q (.ref s.heap.objs.size) { s with heap := h', toks := tk }) :
    wpAny (model P w) A (call (.type "set") [.ref l]) Q E s := by
  have size : items.size = ks.length := by simpa using congrArg List.length refs
  have refs' : ∀ (i : Nat) (p : Addr × List Int), ks[i]? = some p → items[i]? = some (Value.ref p.1) := fun i p e => by
    rw [← Array.getElem?_toList, refs, List.getElem?_map, e]; rfl
  obtain ⟨c, tl, hm⟩ := F.called_set.mro
  have a1 := F.called_set.made
  have a2 := F.called_set.sub
  have a3 := F.called_set.notType
  have a4 := F.called_set.canCreate
  have a5 := F.typeCall_set_1 (.ref l)
  refine wpAny_call (codeAny_of_tree ?_)
  show wpAny _ _ (callAny (.type "set") _) _ _ _
  refine wpAny_pure ⟨Code.quiet_builtin _ (by decide +kernel), codeAny_builtin F.entry_type_call ?_⟩
  rw [Around.under_plain (weight_type_call_type "set" [.ref l] []) rfl]
  repeat (any_goals (first | assumption | wp_step))
  refine codeAny_mono (code_set_led1 (.ref l) (E := E) (Q₁ := fun obj s₁ => obj = .ref s.heap.objs.size ∧ s₁ = { s with heap := s.heap.push (noneYet w) }) ⟨rfl, rfl⟩) fun r s₁ hr => ?_
  match r, hr with
  | .error e, hr => exact hr
  | .ok .next, hr => exact hr.elim
  | .ok .brk, hr => exact hr.elim
  | .ok .cont, hr => exact hr.elim
  | .ok (.ret obj), hr =>
    obtain ⟨rfl, rfl⟩ := hr
    have hS : (s.heap.push (noneYet w)).get? s.heap.objs.size = some (noneYet w) := Heap.get?_push_size _ rfl
    have hT : Shared.TypeIs { s with heap := s.heap.push (noneYet w) } (.ref s.heap.objs.size) "set" := ⟨_, hS, rfl⟩
    have b1 := F.called_set.init.lookup
    have b2 := F.called_set.init.bind (.ref s.heap.objs.size)
    repeat (any_goals (first | assumption | wp_step))
    refine codeAny_mono (codeAny_call_builtin (R := wants (fun r s₂ => r = .none ∧ ∃ h' tk L es ep t, s₂ = { s with heap := h', toks := tk } ∧ SetTR P w h' s.heap.objs.size L es ep t ∧ Got ks ks.length L ∧
        (∀ b o, s.heap.get? b = some o → h'.get? b = some o)) E) F.called_set.init.plain F.entry_set_init (check_set_init_1 hT ?_)) fun r₂ s₂ hr₂ => ?_
    · obtain ⟨⟨oc, od, dt, os⟩, g1, g2, nl, g3⟩ := hl
      simp only at g2 g3
      subst g2 g3
      have g4 : (s.heap.push (noneYet w)).get? l = some { cls := .type "list", dict := od, data := .seq items nl, slots := os } := Heap.get?_push_of_some _ g1
      have c1 := F.sub_list_set
      have c2 := F.sub_list_frozenset
      have c3 : (Value.type "list" == Value.type "dict") = false := by decide
      have isl : (s.heap.push (noneYet w)).IsList l items := ⟨_, g4, rfl, nl, rfl⟩
      unfold Builtin.«set.__init__» noKeywords Builtin.Frozenset.updateFrom
      generalize hpi : pyIter = pI
      wp_walk
      subst hpi
      refine wpAny_pyIter_list isl (wpAny_bind (wpAny_runValue ?_))
      have lt : l < s.heap.objs.size := Heap.lt_size g1
      have z1 : (s.heap.push (noneYet w)).objs.size = s.heap.objs.size + 1 := Heap.size_push ..
      have none1 : ∀ b, s.heap.objs.size ≤ b → s.heap.get? b = none := fun b hb => by
        cases q : s.heap.get? b with
        | none => rfl
        | some o => exact absurd (Nat.lt_of_lt_of_le (Heap.lt_size q) hb) (Nat.lt_irrefl _)
      refine setN_loop (A := A.in1.in1) (by simp [hh]) s.heap.objs.size l (s.heap.push (noneYet w)).objs.size (Nat.ne_of_gt lt) (by rw [z1]; exact Nat.ne_of_lt (Nat.lt_succ_self _)) (by rw [z1]; exact Nat.ne_of_lt (Nat.lt_succ_of_lt lt)) items ks few refs' size s.heap tups (none1 _ (Nat.le_refl _)) (none1 _ (by rw [z1]; exact Nat.le_succ _)) hu (ks.length - 0) 0 _ rfl (Nat.zero_le _)
        ⟨_, Heap.get?_push_size _ rfl, rfl, rfl⟩ (isl.push _) (fun b o e => Heap.get?_push_of_some _ (Heap.get?_push_of_some _ e)) ⟨[], #[], 0, _, setTR_fresh (Heap.get?_push_of_some _ hS), Got.zero ks⟩ fun h' tk L es ep t q1 q2 q3 => ?_
      show wpAny _ _ _ _ _ _
      refine wpAny_pure ?_
      show wpAny _ _ (ret Value.none) _ _ _
      exact wpAny_pure ⟨rfl, h', tk, L, es, ep, t, rfl, q1, q2, q3⟩
    · match r₂, hr₂ with
      | .error e, hr₂ => exact hr₂
      | .ok .next, hr₂ => exact hr₂.elim
      | .ok .brk, hr₂ => exact hr₂.elim
      | .ok .cont, hr₂ => exact hr₂.elim
      | .ok (.ret r), hr₂ =>
        obtain ⟨rfl, h', tk, L, es, ep, t, rfl, q1, q2, q3⟩ := hr₂
        repeat (any_goals (first | assumption | wp_step))
        exact k _ _ _ _ _ _ q1 q2 q3
end
section
variable {X : Cx}
def rSetN (K : PySem.W.Frag) (P : Program) (w : World) : List V → Hp → VK → Prop := fun xs H Q => ∃ (l : Addr) (ks : List (Addr × List Int)), xs = [V.ref l] ∧ SqL K H l (ks.map fun p => V.ref p.1) ∧ (∀ p ∈ ks, SqT K H p.1 (p.2.map V.int)) ∧ FewUnlike ks ∧
  ∀ a L, H a = none → (∀ p ∈ L, p ∈ ks) → (∀ p ∈ ks, p.2 ∈ L.map (·.2)) → Q (.ref a) (upd H a (SetTO P w a L))
theorem cr_setN (hc : X.calm = true) (hu : X.A.units + 64 < cLine) : CallR X (.type "set") (rSetN X.K X.prog X.w) := by
  intro pins s σ H xs us Q I r h
  obtain ⟨l, ks, rfl, hl, hk, few, q⟩ := h
  rw [Vals.ref1 r]
  obtain ⟨its, rv, pl, hz⟩ := I.list hl
  refine call_setN ks (I.ok.hd hc) pl.isList (by simpa using refs_of_vals rv) (fun p hp => I.isT (hk p hp)) few (by omega) fun h' tk L es ep t R g kp => ?_
  refine ⟨.ref s.heap.objs.size, upd H s.heap.objs.size (SetTO X.prog X.w s.heap.objs.size L), I.laid (t' := tk) kp (Nat.le_refl _) (setTO_new R.t0), rfl, ?_⟩
  exact q _ L (I.hok.fresh (Nat.le_refl _)) (fun p hp => List.mem_of_mem_take (g.sub p hp)) fun p hp => g.all p (by rw [List.take_length]; exact hp)
end
end RV
set_option maxHeartbeats 4000000
namespace RV
open PySem PySem.Spec PyProof.Rows L2
/-! ### heaps -/
theorem same_upd {H : Hp} {p : Addr} {o : HO} (h : H p = none) : Same H (upd H p o) := fun b x e => by
  rw [upd_ne (ne_of_none e h)]
  exact e
theorem sqT_same {K : PySem.W.Frag} {H H' : Hp} {a : Addr} {xs : List V} (e : Same H H') (h : SqT K H a xs) : SqT K H' a xs := SqT.ext h e
theorem sqL_same {K : PySem.W.Frag} {H H' : Hp} {a : Addr} {xs : List V} (e : Same H H') (h : SqL K H a xs) : SqL K H' a xs := SqL.ext h e
theorem tyT {K : PySem.W.Frag} {H : Hp} {a : Addr} {xs : List V} (h : SqT K H a xs) : TyX K H (.ref a) (.type "tuple") := by
  rcases h with (h | ⟨o, h⟩) | ⟨o, its, n, h1, h2, _⟩
  · exact .base (.tup h)
  · exact .fTuple h
  · exact .kTuple h1 h2
theorem tupNew {K : PySem.W.Frag} {H : Hp} {a : Addr} {xs : List V} (h : H a = some (.tup xs)) : SqT K H a xs := .inl (.inl h)
theorem lstNew {K : PySem.W.Frag} {H : Hp} {a : Addr} {xs : List V} (h : H a = some (.lst xs)) : SqL K H a xs := .inl (.inl h)
theorem walk_enT {K : PySem.W.Frag} {a : Addr} {xs : List V} : Walk (IteT K a) xs.length (fun H => SqT K H a xs) (YPair (fun i => some (.int (i : Nat))) (fun i => xs[i]?)) := by
  refine ⟨fun i _ hi q => ⟨xs, xs[i], q, by simp [hi]⟩, fun _ q => ⟨xs, q, Nat.le_refl _⟩, fun i H v H' _ q y => ?_⟩
  obtain ⟨T, x, h1, h2, h3, h4⟩ := y
  exact ⟨T, .int (i : Nat), x, h1, h2, h3, rfl, h4 xs q⟩
theorem walk_zipT {K : PySem.W.Frag} {a b : Addr} {xs ys : List V} {n : Nat} (hn : n = min xs.length ys.length) : Walk (RZ.ItzT K a b) n (fun H => SqT K H a xs ∧ SqT K H b ys) (YPair (fun i => xs[i]?) (fun i => ys[i]?)) := by
  subst hn
  refine ⟨fun i _ hi q => ⟨xs, ys, xs[i]'(by omega), ys[i]'(by omega), q.1, q.2, List.getElem?_eq_getElem _, List.getElem?_eq_getElem _⟩, fun _ q => ⟨xs, ys, q.1, q.2, by omega⟩, fun i H v H' _ q y => ?_⟩
  obtain ⟨T, x, z, h1, h2, h3, h4, h5⟩ := y
  exact ⟨T, x, z, h1, h2, h3, h4 xs q.1, h5 ys q.2⟩
/-- a tuple of tuples of ints -/
def Tups (K : PySem.W.Frag) (H : Hp) (a : Addr) (ps : List (List Int)) : Prop := ∃ ks : List (Addr × List Int), ks.map (·.2) = ps ∧ SqT K H a (ks.map fun p => V.ref p.1) ∧ ∀ p ∈ ks, SqT K H p.1 (p.2.map V.int)
/-- a list of tuples of ints -/
def Lots (K : PySem.W.Frag) (H : Hp) (a : Addr) (ps : List (List Int)) : Prop := ∃ ks : List (Addr × List Int), ks.map (·.2) = ps ∧ SqL K H a (ks.map fun p => V.ref p.1) ∧ ∀ p ∈ ks, SqT K H p.1 (p.2.map V.int)
theorem Tups.same {K : PySem.W.Frag} {H H' : Hp} {a : Addr} {ps : List (List Int)} (h : Tups K H a ps) (e : Same H H') : Tups K H' a ps :=
  let ⟨ks, h1, h2, h3⟩ := h; ⟨ks, h1, sqT_same e h2, fun p hp => sqT_same e (h3 p hp)⟩
theorem Lots.same {K : PySem.W.Frag} {H H' : Hp} {a : Addr} {ps : List (List Int)} (h : Lots K H a ps) (e : Same H H') : Lots K H' a ps :=
  let ⟨ks, h1, h2, h3⟩ := h; ⟨ks, h1, sqL_same e h2, fun p hp => sqT_same e (h3 p hp)⟩
theorem dpInts {K : PySem.W.Frag} {H : Hp} : ∀ ns : List Int, DpAll K H (ns.map V.int) (ns.map PyData.int)
  | [] => .nil
  | n :: r => .cons (.int n) (dpInts r)
def dI (ns : List Int) : PyData := .tuple (ns.map PyData.int)
def dTT (ps : List (List Int)) : PyData := .tuple (ps.map dI)
theorem dpT {K : PySem.W.Frag} {H : Hp} {a : Addr} {ns : List Int} (h : SqT K H a (ns.map V.int)) : Dp K H (.ref a) (dI ns) := .tup h (dpInts ns)
theorem dpTs {K : PySem.W.Frag} {H : Hp} : ∀ ks : List (Addr × List Int), (∀ p ∈ ks, SqT K H p.1 (p.2.map V.int)) → DpAll K H (ks.map fun p => V.ref p.1) ((ks.map (·.2)).map dI)
  | [], _ => .nil
  | p :: r, h => .cons (dpT (h p (List.mem_cons_self ..))) (dpTs r fun q hq => h q (List.mem_cons_of_mem _ hq))
theorem Tups.dp {K : PySem.W.Frag} {H : Hp} {a : Addr} {ps : List (List Int)} (h : Tups K H a ps) : Dp K H (.ref a) (dTT ps) := by
  obtain ⟨ks, rfl, h2, h3⟩ := h
  exact .tup h2 (dpTs ks h3)
theorem map_at {α β : Type} {f : α → β} {l : List α} {i : Nat} {y : β} (h : (l.map f)[i]? = some y) : ∃ x, l[i]? = some x ∧ y = f x := by
  rw [List.getElem?_map] at h
  cases e : l[i]? with
  | none => rw [e] at h; cases h
  | some x => rw [e] at h; exact ⟨x, rfl, (Option.some.inj h).symm⟩
theorem all_true : ∀ n : Nat, (List.replicate n true).all id = true
  | 0 => rfl
  | n + 1 => by rw [List.replicate_succ, List.all_cons, all_true n]; rfl
theorem rep_bl (n : Nat) : List.replicate n (V.bl true) = (List.replicate n true).map V.bl := by rw [List.map_replicate]
theorem rep_next {α : Type} (n : Nat) (x : α) : List.replicate n x ++ [x] = List.replicate (n + 1) x := by rw [List.replicate_succ', ]
theorem tt_yes {σ : L2.St} {H : Hp} {A B : Hp → Prop} (h : A H) : tYes σ H (fun b H3 => if b = true then A H3 else B H3) := iteT (A := A H) (B := B H) h
theorem un65 {k : Nat} {A : Around} (r : Room k A) : A.units + 65 < cLine := by have := r.un; omega
theorem few1 {n : Nat} (h : n ≤ 1000) : n < sizeLine := small1000 h
/-! ### data of ints, tuples of these -/
theorem lay_ints : ∀ ns : List Int, PyData.canLayAll0 (ns.map PyData.int) = true
  | [] => by simp [PyData.canLayAll0]
  | n :: r => by simp [PyData.canLayAll0, PyData.canLay0, lay_ints r]
theorem dep_ints : ∀ ns : List Int, PyData.depthAll (ns.map PyData.int) = 0
  | [] => by simp [PyData.depthAll]
  | n :: r => by simp [PyData.depthAll, PyData.depth, dep_ints r]
theorem dI_lay (ns : List Int) : (dI ns).canLay0 = true := by simp only [dI, PyData.canLay0]; exact lay_ints ns
theorem dI_dep (ns : List Int) : (dI ns).depth = 1 := by simp only [dI, PyData.depth, dep_ints]
theorem lay_dI : ∀ ps : List (List Int), PyData.canLayAll0 (ps.map dI) = true
  | [] => by simp [PyData.canLayAll0]
  | n :: r => by simp [PyData.canLayAll0, dI_lay, lay_dI r]
theorem dep_dI : ∀ ps : List (List Int), PyData.depthAll (ps.map dI) ≤ 1
  | [] => by simp [PyData.depthAll]
  | n :: r => by
    have h := dep_dI r
    simp only [List.map_cons, PyData.depthAll, dI_dep]
    omega
theorem shapedI (ns : List Int) : SeqAt.shaped (dI ns) = true := by
  show ((dI ns).canLay0 && decide ((dI ns).depth ≤ 64)) = true
  rw [dI_lay, dI_dep]; rfl
theorem shapedTT (ps : List (List Int)) : SeqAt.shaped (dTT ps) = true := by
  have h := dep_dI ps
  have e : (dTT ps).depth ≤ 64 := by simp only [dTT, PyData.depth]; omega
  show ((dTT ps).canLay0 && decide ((dTT ps).depth ≤ 64)) = true
  rw [decide_eq_true e, Bool.and_true]
  simp only [dTT, PyData.canLay0]; exact lay_dI ps
theorem eqv_ints : ∀ ns ms : List Int, PyData.eqvAll (ns.map PyData.int) (ms.map PyData.int) = decide (ns = ms)
  | [], [] => by simp [PyData.eqvAll]
  | [], m :: r => by simp [PyData.eqvAll]
  | n :: r, [] => by simp [PyData.eqvAll]
  | n :: r, m :: q => by
    have h := eqv_ints r q
    simp only [List.map_cons, PyData.eqvAll, PyData.eqv, h]
    by_cases e : n = m
    · subst e; by_cases e2 : r = q <;> simp [e2]
    · simp [e]
theorem eqvI (ns ms : List Int) : PyData.eqv (dI ns) (dI ms) = decide (ns = ms) := by simp only [dI, PyData.eqv, eqv_ints]
theorem eqv_dIs : ∀ ns ms : List (List Int), PyData.eqvAll (ns.map dI) (ms.map dI) = decide (ns = ms)
  | [], [] => by simp [PyData.eqvAll]
  | [], m :: r => by simp [PyData.eqvAll]
  | n :: r, [] => by simp [PyData.eqvAll]
  | n :: r, m :: q => by
    have h := eqv_dIs r q
    simp only [List.map_cons, PyData.eqvAll, eqvI, h]
    by_cases e : n = m
    · subst e; by_cases e2 : r = q <;> simp [e2]
    · simp [e]
theorem eqvTT (ns ms : List (List Int)) : PyData.eqv (dTT ns) (dTT ms) = decide (ns = ms) := by simp only [dTT, PyData.eqv, eqv_dIs]
theorem any_dI (p : List Int) : ∀ ps : List (List Int), (ps.map dI).any (fun y => PyData.eqv y (dI p)) = decide (p ∈ ps)
  | [] => rfl
  | q :: r => by
    rw [List.map_cons, List.any_cons, any_dI p r, eqvI]
    by_cases e : q = p
    · subst e; simp
    · have e' : ¬ p = q := fun z => e z.symm
      by_cases e2 : p ∈ r <;> simp [e, e', e2]
section
variable {X : Cx}
/-- t in ts, of tuples of ints -/
def rInTs (K : PySem.W.Frag) : R2 := fun x y H Q => ∃ (a b : Addr) (p : List Int) (ps : List (List Int)), x = .ref a ∧ y = .ref b ∧ SqT K H a (p.map V.int) ∧ Tups K H b ps ∧ Q (.bl (decide (p ∈ ps))) H
theorem op_inTs (hu : X.A.units + 65 < cLine) : OpR X (compareOp .In) (rInTs X.K) := by
  intro pins s σ H x y v u Q I rx ry h
  obtain ⟨a, b, p, ps, rfl, rfl, h1, h2, q⟩ := h
  obtain ⟨as, r1⟩ := Dp.reads I (dI p) (.ref a) v (dpT h1) rx
  obtain ⟨bs, r2⟩ := Dp.reads I (dTT ps) (.ref b) u h2.dp ry
  refine SeqAt.in_tuple_reads (xs := ps.map dI) r2 r1 (lay_dI ps) (dI_lay p) ?_ ⟨.bl _, H, I, rfl, ?_⟩
  · have := Nat.min_le_right (PyData.depthAll (ps.map dI)) (dI p).depth
    have e := dI_dep p
    omega
  · rw [any_dI]; exact q
/-- two tuples of ints, two tuples of tuples of ints compared -/
def rEqI1 (K : PySem.W.Frag) : R2 := fun x y H Q => ∃ (a b : Addr) (p q : List Int), x = .ref a ∧ y = .ref b ∧ SqT K H a (p.map V.int) ∧ SqT K H b (q.map V.int) ∧ Q (.bl (decide (p = q))) H
def rEqTs (K : PySem.W.Frag) : R2 := fun x y H Q => ∃ (a b : Addr) (p q : List (List Int)), x = .ref a ∧ y = .ref b ∧ Tups K H a p ∧ Tups K H b q ∧ Q (.bl (decide (p = q))) H
theorem op_eqI1 (hu : X.A.units + 64 < cLine) : OpR X (compareOp .Eq) (rEqI1 X.K) := by
  intro pins s σ H x y v u Q I rx ry h
  obtain ⟨a, b, p, ps, rfl, rfl, h1, h2, q⟩ := h
  refine op_eqD hu pins s σ H _ _ v u Q I rx ry ⟨dI p, dI ps, dpT h1, dpT h2, shapedI p, shapedI ps, ?_⟩
  rw [eqvI]; exact q
theorem op_eqTs (hu : X.A.units + 64 < cLine) : OpR X (compareOp .Eq) (rEqTs X.K) := by
  intro pins s σ H x y v u Q I rx ry h
  obtain ⟨a, b, p, ps, rfl, rfl, h1, h2, q⟩ := h
  refine op_eqD hu pins s σ H _ _ v u Q I rx ry ⟨dTT p, dTT ps, h1.dp, h2.dp, shapedTT p, shapedTT ps, ?_⟩
  rw [eqvTT]; exact q
end
section
variable {X : Cx} {K : PySem.W.Frag}
/-! the rules whose reading names the written part, for a comprehension's block -/
theorem ix_tupK (h : X.K = K) : IxR X (rIxT K) := h ▸ ix_tup
theorem pg_tupK {es : List Expr} {k : Nat} {t : TGs} {n : Nat} {pos : Pos} (h : X.K = K) (hc : X.calm = true) (hg : PGs X es t)
    (hn : (assignEach es X.env).length = n := by rfl) (hst : (assignEach es X.env).findIdx? (·.1) = none := by rfl) : PG X (.Tuple es k pos) (gTup K n t) := h ▸ pg_tup hc hg hn hst
theorem op_inTsK (h : X.K = K) (hu : X.A.units + 65 < cLine) : OpR X (compareOp .In) (rInTs K) := h ▸ op_inTs hu
theorem op_ltTK (h : X.K = K) (hu : X.A.units < cLine) : OpR X (compareOp .Lt) (rLtT K) := h ▸ op_ltT hu
def rLenS (K : PySem.W.Frag) : List V → Hp → VK → Prop := fun xs H Q => ∃ p ys, xs = [.ref p] ∧ (SqL K H p ys ∨ SqT K H p ys) ∧ Q (.int ys.length) H
theorem call_lenK (h : X.K = K) : CallR X (.builtin "len") (rLenS K) := h ▸ call_len_seq
end
end RV
set_option maxHeartbeats 4000000
namespace K2
open PySem PySem.Spec PyProof.Rows L2 RV
/-! ### the text by places -/
def topS (i : Nat) : Stmt := PySem.Challenge.pw_ringvouch_k02_rules_refused.main.body.getD i (.Pass ⟨0, 0, 0, 0⟩)
abbrev sWhole : Stmt := topS 5
abbrev sMark : Stmt := topS 6
abbrev sMarks : Stmt := topS 7
abbrev sMirrors : Stmt := topS 11
abbrev sSteps : Stmt := topS 12
abbrev sStep : Stmt := topS 13
abbrev sRising : Stmt := topS 14
abbrev sBehind : Stmt := topS 15
abbrev sPail : Stmt := topS 17
abbrev sDraw : Stmt := topS 18
abbrev sOf : Stmt := topS 19
abbrev sDMirrors : Stmt := topS 20
abbrev sDSteps : Stmt := topS 21
abbrev sLIsMark : Stmt := topS 22
abbrev sMirR : Stmt := topS 23
abbrev sStpR : Stmt := topS 24
abbrev sDue : Stmt := topS 25
abbrev sFound : Stmt := topS 26
abbrev sOdd : Stmt := topS 27
abbrev sBent : Stmt := topS 28
abbrev sLaw : Stmt := topS 29
abbrev sInit : Stmt := inClass (topS 10) 0
abbrev sEq : Stmt := inClass (topS 10) 4
abbrev sMarksM : Stmt := inClass (topS 10) 1
abbrev sMirrorM : Stmt := inClass (topS 10) 2
abbrev sBehindM : Stmt := inClass (topS 10) 3
/-- a def of the text as the top has left it -/
structure DefAt (K : PySem.W.Frag) (mg : Str → Option Value) (x : Str) (st : Stmt) (ps : List Str) (f : Addr) (fd : FuncData) : Prop where
  fn : Fun K x x st f fd
  bi : Binds K fd ps []
  mg : mg x = some (.ref f)
/-- the names that are the interpreter's own -/
structure Bare (mg : Str → Option Value) : Prop where
  len : mg "len" = none
  isinstance : mg "isinstance" = none
  int : mg "int" = none
  bool : mg "bool" = none
  tuple : mg "tuple" = none
  all : mg "all" = none
  enumerate : mg "enumerate" = none
  zip : mg "zip" = none
  range : mg "range" = none
  list : mg "list" = none
  set : mg "set" = none
  sorted : mg "sorted" = none
  abs : mg "abs" = none
  max : mg "max" = none
  min : mg "min" = none
  repr : mg "repr" = none
  dict : mg "dict" = none
  str : mg "str" = none
section
variable {P : Program} {w : World} {K : PySem.W.Frag} {mg : Str → Option Value} {base : Heap}
/-! ### is_whole -/
theorem scWhole : FnScope ["thing"] ["thing"] (defScope sWhole) := ⟨rfl, rfl, rfl, by decide +kernel, rfl, by decide +kernel, by decide +kernel⟩
def spWhole : Sp := fun vs H Q _ => ∃ i : Int, vs = [.int i] ∧ Q (.bl true) H
theorem ok_whole {f : Addr} {fd : FuncData} (F : Fun K "is_whole" "is_whole" sWhole f fd) (B : Bare mg) : FnOk P w K mg base CX0 1 f fd ["thing"] spWhole := by
  refine F.ok scWhole (fun vs H Q E h => ?_) (fun cdv A outer s H vs Q E hr h => ?_)
  · obtain ⟨i, rfl, _⟩ := h
    rfl
  · obtain ⟨i, rfl, q⟩ := h
    refine ⟨_, pss_one (ps_ret (pe_and (pe_callB call_isi (by rfl) B.isinstance (by decide +kernel) (pa_cons (pv 0) (pa_cons (pe_bltn (v := .ty "int") (by rfl) B.int boot_int rfl) pa_nil)))
      (pe_one (pe_not (pe_callB call_isi (by rfl) B.isinstance (by decide +kernel) (pa_cons (pv 0) (pa_cons (pe_bltn (v := .ty "bool") (by rfl) B.bool (by decide +kernel) rfl) pa_nil))))))), ?_⟩
    refine ⟨.int i, rfl, .int i, .ty "int", _, _, true, rfl, .ty "int", .base (.int i), kit_ty (by decide +kernel), true, rfl, iteT ?_⟩
    exact ⟨.int i, rfl, .int i, .ty "bool", _, _, false, rfl, .ty "bool", .base (.int i), kit_ty (by decide +kernel), false, rfl, q⟩
/-! ### is_below -/
theorem scMark : FnScope ["thing", "many"] ["thing", "many"] (defScope sMark) := ⟨rfl, rfl, rfl, by decide +kernel, rfl, by decide +kernel, by decide +kernel⟩
def spMark : Sp := fun vs H Q _ => ∃ i n : Int, vs = [.int i, .int n] ∧ 0 ≤ i ∧ i < n ∧ Q (.bl true) H
theorem ok_mark {f fW : Addr} {fd fdW : FuncData} (F : Fun K "is_below" "is_below" sMark f fd) (D : DefAt K mg "is_whole" sWhole ["thing"] fW fdW) (B : Bare mg) : FnOk P w K mg base CX0 2 f fd ["thing", "many"] spMark := by
  have GW : FnOk P w K mg base CX0 1 fW fdW ["thing"] spWhole := ok_whole D.fn B
  refine F.ok scMark (fun vs H Q E h => ?_) (fun cdv A outer s H vs Q E hr h => ?_)
  · obtain ⟨i, n, rfl, _⟩ := h
    rfl
  · obtain ⟨i, n, rfl, h1, h2, q⟩ := h
    refine ⟨_, pss_one (ps_ret (pe_and (pe_call GW hr (by rfl) D.mg D.fn.kp D.bi .nil pass0 (pa_cons (pv 0) pa_nil)) (pe_one (pe_chain op_le op_lt pe_int (pv 0) (pv 1))))), ?_⟩
    refine ⟨.int i, rfl, i, rfl, true, rfl, iteT ?_⟩
    refine ⟨.int i, rfl, 0, i, rfl, rfl, _, rfl, ?_⟩
    rw [decide_eq_true h1]
    refine iteT ⟨.int n, rfl, i, n, rfl, rfl, ?_⟩
    show Q (.bl (decide (i < n))) H
    rw [decide_eq_true h2]
    exact q
/-! ### are_marks -/
theorem scMarks : FnScope ["thing", "many", "mark"] ["thing", "many"] (defScope sMarks) := ⟨rfl, rfl, rfl, by decide +kernel, rfl, by decide +kernel, by decide +kernel⟩
def spMarks (K : PySem.W.Frag) : Sp := fun vs H Q _ => ∃ (a : Addr) (ns : List Int) (n : Int), vs = [.ref a, .int n] ∧ SqT K H a (ns.map V.int) ∧ 0 < ns.length ∧ ns.length ≤ 1000 ∧ (∀ i ∈ ns, 0 ≤ i ∧ i < n) ∧ ∀ H', Same H H' → Q (.bl true) H'
theorem ok_marks {f fM fW : Addr} {fd fdM fdW : FuncData} (F : Fun K "are_marks" "are_marks" sMarks f fd) (DM : DefAt K mg "is_below" sMark ["thing", "many"] fM fdM) (DW : DefAt K mg "is_whole" sWhole ["thing"] fW fdW) (B : Bare mg) :
    FnOk P w K mg base CX0 3 f fd ["thing", "many"] (spMarks K) := by
  have GM : FnOk P w K mg base CX0 2 fM fdM ["thing", "many"] spMark := ok_mark DM.fn DW B
  refine F.ok scMarks (fun vs H Q E h => ?_) (fun cdv A outer s H vs Q E hr h => ?_)
  · obtain ⟨a, ns, n, rfl, _⟩ := h
    rfl
  · obtain ⟨a, ns, n, rfl, hT, h0, hm, hin, q⟩ := h
    refine ⟨_, pss_one (ps_ret (pe_and (pe_callB call_isi (by rfl) B.isinstance (by decide +kernel) (pa_cons (pv 0) (pa_cons (pe_bltn (v := .ty "tuple") (by rfl) B.tuple (by decide +kernel) rfl) pa_nil)))
      (pe_and (pe_cmpR op_gt (pe_callB call_len_seq (by rfl) B.len PySem.boot_len (pa_cons (pv 0) pa_nil)) pe_int (nomark _))
      (pe_one (pe_callB (cr_all rfl) (by rfl) B.all (by decide +kernel) (pa_cons
        (pe_lc (own := [("mark", 2)]) (g := gName 2) (tt := tYes) rfl scMarks.nd (pi_tup (pv 0)) (blkOk_by (N := ["thing", "many", "mark"]) (sc := defScope sMarks) (by decide +kernel)) (fun _ _ _ _ _ => pg_name (i := 2) scMarks.nd rfl (Or.inl rfl)) (fun _ _ _ _ _ => pts_nil)
          (fun _ _ _ _ _ => pe_call GM hr (by rfl) DM.mg DM.fn.kp DM.bi .nil pass0 (pa_cons (pv 2) (pa_cons (pv 1) pa_nil)))) pa_nil)))))), ?_⟩
    refine ⟨.ref a, rfl, .ref a, .ty "tuple", _, _, true, rfl, .ty "tuple", tyT hT, kit_ty (by decide +kernel), true, rfl, iteT ?_⟩
    refine ⟨.ref a, rfl, a, _, rfl, .inr hT, _, _, rfl, rfl, decide (((ns.map V.int).length : Int) > 0), rfl, ?_⟩
    rw [decide_eq_true (show ((ns.map V.int).length : Int) > 0 by rw [List.length_map]; omega)]
    refine iteT ⟨.ref a, rfl, a, rfl, ⟨_, hT⟩, fun D nD => ?_⟩
    refine lc_tup (K := K) (a := a) (xs := ns.map V.int) (fun i H' => Same H H' ∧ H' D = some (.lst (List.replicate i (V.bl true)))) ⟨same_upd nD, upd_same⟩ (fun i H' _ p => sqT_same p.1 hT) (fun i x H' hx p => ?_) fun H' p => ?_
    · obtain ⟨m, hm', rfl⟩ := map_at hx
      have hi : i < ns.length := (List.getElem?_eq_some_iff.mp hm').1
      have hr' := hin m (List.mem_of_getElem? hm')
      refine ⟨rfl, tt_yes ⟨.int m, rfl, .int n, rfl, m, n, rfl, hr'.1, hr'.2, _, p.2, ?_, ?_, ?_⟩⟩
      · rw [List.length_replicate]; exact few1 (by omega)
      · exact fun b o e => by rw [upd_ne (ne_of_none e nD)]; exact p.1 b o e
      · rw [upd_same, rep_next]
    · rw [List.length_map, rep_bl] at p
      refine ⟨D, _, rfl, lstNew p.2, ?_⟩
      rw [all_true]
      exact q H' p.1
end
end K2
set_option maxHeartbeats 4000000
namespace K2
open PySem PySem.Spec PyProof.Rows L2 RV
/-- mirrors of one to eight marks -/
structure Mir (ns : List Int) : Prop where
  pos : 0 < ns.length
  few : ns.length ≤ 8
  inn : ∀ i ∈ ns, 0 ≤ i ∧ i < (ns.length : Int)
  back : ∀ (k : Nat) (m : Int), ns[k]? = some m → ns[m.toNat]? = some (k : Int)
/-- a rising tuple of steps, with their mirror steps -/
structure Stp (ns : List Int) (ps : List (List Int)) : Prop where
  few : ps.length ≤ 64
  pair : ∀ p ∈ ps, ∃ x y : Int, p = [x, y] ∧ (0 ≤ x ∧ x < (ns.length : Int)) ∧ (0 ≤ y ∧ y < (ns.length : Int))
  rise : ∀ (i : Nat) (p q : List Int), ps[i]? = some p → ps[i + 1]? = some q → HT.lexLt p q = true
  mirr : ∀ x y mx my : Int, [x, y] ∈ ps → ns[x.toNat]? = some mx → ns[y.toNat]? = some my → [my, mx] ∈ ps
  nd : ps.Nodup
section
variable {P : Program} {w : World} {K : PySem.W.Frag} {mg : Str → Option Value} {base : Heap}
/-! ### are_mirrors -/
theorem scMirrors : FnScope ["thing", "mark", "mirror"] ["thing"] (defScope sMirrors) := ⟨rfl, rfl, rfl, by decide +kernel, rfl, by decide +kernel, by decide +kernel⟩
def spMirrors (K : PySem.W.Frag) : Sp := fun vs H Q _ => ∃ (a : Addr) (ns : List Int), vs = [.ref a] ∧ SqT K H a (ns.map V.int) ∧ Mir ns ∧ ∀ H', Same H H' → Q (.bl true) H'
theorem ok_mirrors {f fA : Addr} {fd fdA : FuncData} {t : Tok} (F : Fun K "are_mirrors" "are_mirrors" sMirrors f fd) (DA : DefAt K mg "are_marks" sMarks ["thing", "many"] fA fdA) (GA : FnOk P w K mg base CX0 3 fA fdA ["thing", "many"] (spMarks K)) (B : Bare mg)
    (mM : mg "MOST_MARKS" = some (.int 8 t)) : FnOk P w K mg base CX0 4 f fd ["thing"] (spMirrors K) := by
  refine F.ok scMirrors (fun vs H Q E h => ?_) (fun cdv A outer s H vs Q E hr h => ?_)
  · obtain ⟨a, ns, rfl, _⟩ := h
    rfl
  · obtain ⟨a, ns, rfl, hT, hM, q⟩ := h
    refine ⟨_, pss_cons (ps_if (PW.pt (pw_or (pt_not (pt_val (pe_callB call_isi (by rfl) B.isinstance (by decide +kernel) (pa_cons (pv 0) (pa_cons (pe_bltn (v := .ty "tuple") (by rfl) B.tuple (by decide +kernel) rfl) pa_nil)))))
        (pw_or1 (pt_cmpR op_gt (pe_callB call_len_seq (by rfl) B.len PySem.boot_len (pa_cons (pv 0) pa_nil)) (pe_glob (v := .int 8) rfl mM ⟨_, rfl⟩) (nomark _))))) (pss_one (ps_ret pe_bl)) pss_nil)
      (pss_cons (ps_if (pt_not (pt_val (pe_call GA hr (by rfl) DA.mg DA.fn.kp DA.bi .nil pass0 (pa_cons (pv 0) (pa_cons (pe_callB call_len_seq (by rfl) B.len PySem.boot_len (pa_cons (pv 0) pa_nil)) pa_nil))))) (pss_one (ps_ret pe_bl)) pss_nil)
      (pss_one (ps_ret (pe_callB (cr_all rfl) (by rfl) B.all (by decide +kernel) (pa_cons
        (pe_lc (own := [("mark", 1), ("mirror", 2)]) (g := gTup K 2 (gCons (gName 1) (gCons (gName 2) gNil))) (tt := tYes) rfl scMirrors.nd (pi_enT (by rfl) B.enumerate (pa_cons (pv 0) pa_nil)) (blkOk_by (N := ["thing", "mark", "mirror"]) (sc := defScope sMirrors) (by decide +kernel))
          (fun _ _ _ _ _ => pg_tupK rfl rfl (pgs_cons (pg_name (i := 1) scMirrors.nd rfl (Or.inl rfl)) (pgs_cons (pg_name (i := 2) scMirrors.nd rfl (Or.inl rfl)) pgs_nil))) (fun _ _ _ _ _ => pts_nil)
          (fun _ _ _ _ _ => pe_cmpR op_eq (pe_ix (ix_tupK (K := K) rfl) (pv 0) (pv 2) (fun _ _ => rfl)) (pv 1) (nomark _))) pa_nil))))), ?_⟩
    refine ⟨.ref a, rfl, .ref a, .ty "tuple", _, _, true, rfl, .ty "tuple", tyT hT, kit_ty (by decide +kernel), true, rfl, iteF ?_⟩
    refine ⟨.ref a, rfl, a, _, rfl, .inr hT, _, _, rfl, rfl, decide (((ns.map V.int).length : Int) > 8), rfl, ?_⟩
    have h8 := hM.few
    rw [decide_eq_false (show ¬ ((ns.map V.int).length : Int) > 8 by rw [List.length_map]; omega)]
    refine iteF ?_
    refine ⟨.ref a, rfl, .ref a, rfl, a, _, rfl, .inr hT, a, ns, _, rfl, hT, hM.pos, by omega, fun i hi => ?_, fun H1 s1 => ⟨true, rfl, iteF ?_⟩⟩
    · rw [List.length_map]; exact hM.inn i hi
    · refine ⟨.ref a, rfl, a, _, rfl, sqT_same s1 hT, fun D nD => ?_⟩
      refine lc_it (walk_enT (K := K) (a := a) (xs := ns.map V.int)) (fun i H' => Same H1 H' ∧ H' D = some (.lst (List.replicate i (V.bl true)))) ⟨same_upd nD, upd_same⟩ (fun i H' _ p => sqT_same p.1 (sqT_same s1 hT)) (fun i x H2 H3 hi p y => ?_) fun H' p => ?_
      · obtain ⟨T, x1, x2, rfl, nT, rfl, e1, e2⟩ := y
        have e1' : x1 = .int (i : Nat) := (Option.some.inj e1).symm
        subst e1'
        obtain ⟨m, hm, rfl⟩ := map_at e2
        have hin := hM.inn m (List.mem_of_getElem? hm)
        have hil : i < ns.length := (List.getElem?_eq_some_iff.mp hm).1
        have hDT : D ≠ T := ne_of_none p.2 nT
        have sT : Same H2 (upd H2 T (.tup [.int (i : Nat), .int m])) := same_upd nT
        have hA : SqT K (upd H2 T (.tup [.int (i : Nat), .int m])) a (ns.map V.int) := sqT_same sT (sqT_same p.1 (sqT_same s1 hT))
        have gm : (ns.map V.int)[m.toNat]? = some (.int (i : Nat)) := by
          rw [List.getElem?_map, hM.back i m hm]; rfl
        refine ⟨T, _, rfl, tupNew upd_same, rfl, _, _, rfl, _, _, rfl, rfl, rfl, tt_yes ⟨.ref a, rfl, .int m, rfl, a, _, m, .int (i : Nat), rfl, rfl, hA, ?_, .int (i : Nat), rfl, rfl, _, (sT _ _ p.2), ?_, ?_, ?_⟩⟩
        · have e : m = ((m.toNat : Nat) : Int) := by omega
          rw [e]; exact atI_nat gm
        · rw [List.length_replicate]; exact few1 (by omega)
        · exact fun b o e => by rw [upd_ne (ne_of_none e nD)]; exact sT b o (p.1 b o e)
        · rw [upd_same, decide_eq_true rfl, rep_next]
      · rw [List.length_map, rep_bl] at p
        refine ⟨D, _, rfl, lstNew p.2, ?_⟩
        rw [all_true]
        exact q H' (s1.trans p.1)
end
end K2
set_option maxHeartbeats 4000000
namespace K2
open PySem PySem.Spec PyProof.Rows L2 RV
section
variable {P : Program} {w : World} {K : PySem.W.Frag} {mg : Str → Option Value} {base : Heap}
/-! ### is_step -/
theorem scStep : FnScope ["thing", "many"] ["thing", "many"] (defScope sStep) := ⟨rfl, rfl, rfl, by decide +kernel, rfl, by decide +kernel, by decide +kernel⟩
def spStep (K : PySem.W.Frag) : Sp := fun vs H Q _ => ∃ (a : Addr) (x y n : Int), vs = [.ref a, .int n] ∧ SqT K H a ([x, y].map V.int) ∧ (0 ≤ x ∧ x < n) ∧ (0 ≤ y ∧ y < n) ∧ ∀ H', Same H H' → Q (.bl true) H'
theorem ok_step {f fA : Addr} {fd fdA : FuncData} (F : Fun K "is_step" "is_step" sStep f fd) (DA : DefAt K mg "are_marks" sMarks ["thing", "many"] fA fdA) (GA : FnOk P w K mg base CX0 3 fA fdA ["thing", "many"] (spMarks K)) (B : Bare mg) :
    FnOk P w K mg base CX0 4 f fd ["thing", "many"] (spStep K) := by
  refine F.ok scStep (fun vs H Q E h => ?_) (fun cdv A outer s H vs Q E hr h => ?_)
  · obtain ⟨a, x, y, n, rfl, _⟩ := h
    rfl
  · obtain ⟨a, x, y, n, rfl, hT, hx, hy, q⟩ := h
    refine ⟨_, pss_one (ps_ret (pe_and (pe_call GA hr (by rfl) DA.mg DA.fn.kp DA.bi .nil pass0 (pa_cons (pv 0) (pa_cons (pv 1) pa_nil))) (pe_one (pe_cmpR op_eq (pe_callB call_len_seq (by rfl) B.len PySem.boot_len (pa_cons (pv 0) pa_nil)) pe_int (nomark _))))), ?_⟩
    refine ⟨.ref a, rfl, .int n, rfl, a, [x, y], n, rfl, hT, by simp, by simp, fun i hi => ?_, fun H1 s1 => ⟨true, rfl, iteT ?_⟩⟩
    · simp only [List.mem_cons, List.mem_nil_iff, or_false, List.not_mem_nil] at hi
      rcases hi with rfl | rfl
      · exact hx
      · exact hy
    · refine ⟨.ref a, rfl, a, _, rfl, .inr (sqT_same s1 hT), rfl, ?_⟩
      exact q H1 s1
/-! ### is_rising -/
theorem scRising : FnScope ["pairs", "one", "other"] ["pairs"] (defScope sRising) := ⟨rfl, rfl, rfl, by decide +kernel, rfl, by decide +kernel, by decide +kernel⟩
def spRising (K : PySem.W.Frag) : Sp := fun vs H Q _ => ∃ (a : Addr) (ps : List (List Int)), vs = [.ref a] ∧ Tups K H a ps ∧ ps.length ≤ 1000 ∧ (∀ (i : Nat) (p q : List Int), ps[i]? = some p → ps[i + 1]? = some q → HT.lexLt p q = true) ∧ ∀ H', Same H H' → Q (.bl true) H'
theorem cut1 (xs : List V) : cutV xs (some 1) none = xs.drop 1 := by
  unfold cutV
  rw [show HT.sIx xs.length 0 (some 1) = min 1 xs.length from HT.sIx_nat xs.length 0 1, HT.sIx_none]
  cases xs with
  | nil => rfl
  | cons x r =>
    rw [show min 1 (x :: r).length = 1 by rw [List.length_cons]; omega]
    show (List.take ((x :: r).length - 1) r) = r
    rw [List.length_cons, Nat.add_sub_cancel]
    exact List.take_length
theorem ok_rising {f : Addr} {fd : FuncData} (F : Fun K "is_rising" "is_rising" sRising f fd) (B : Bare mg) : FnOk P w K mg base CX0 1 f fd ["pairs"] (spRising K) := by
  refine F.ok scRising (fun vs H Q E h => ?_) (fun cdv A outer s H vs Q E hr h => ?_)
  · obtain ⟨a, ps, rfl, _⟩ := h
    rfl
  · obtain ⟨a, ps, rfl, hTT, hl, hrise, q⟩ := h
    obtain ⟨ks, rfl, hT, hks⟩ := hTT
    refine ⟨_, pss_one (ps_ret (pe_callB (cr_all rfl) (by rfl) B.all (by decide +kernel) (pa_cons
        (pe_lc (own := [("one", 1), ("other", 2)]) (g := gTup K 2 (gCons (gName 1) (gCons (gName 2) gNil))) (tt := tYes) rfl scRising.nd (RZ.pi_zipA (by rfl) B.zip (pa_cons (pv 0) (pa_cons (pe_slice sl_tupA (pv 0) (po_some pe_int) po_none) pa_nil))) (blkOk_by (N := ["pairs", "one", "other"]) (sc := defScope sRising) (by decide +kernel))
          (fun _ _ _ _ _ => pg_tupK rfl rfl (pgs_cons (pg_name (i := 1) scRising.nd rfl (Or.inl rfl)) (pgs_cons (pg_name (i := 2) scRising.nd rfl (Or.inl rfl)) pgs_nil))) (fun _ _ _ _ _ => pts_nil)
          (fun _ _ _ _ _ => pe_cmpR (op_ltTK (K := K) rfl hr.units0) (pv 1) (pv 2) (nomark _))) pa_nil))), ?_⟩
    have go : ∀ (b : Addr) (H1 : Hp) (Qc : VK), Same H H1 → SqT K H1 b ((ks.map fun p => V.ref p.1).drop 1) → (∀ D H', Same H1 H' → H' D = some (.lst (List.replicate (ks.length - 1) (V.bl true))) → Qc (.ref D) H') →
        tLc (fun _ H2 R => R (RZ.ItzT K a b) H2) (gTup K 2 (gCons (gName 1) (gCons (gName 2) gNil))) tYes (tOp (rLtT K) (tVar 1) (tVar 2)) [1, 2] (start ["pairs", "one", "other"] [.ref a]) H1 Qc := by
      intro b H1 Qc s1 hb fin D nD
      refine lc_it (walk_zipT (K := K) (a := a) (b := b) (xs := ks.map fun p => V.ref p.1) (ys := (ks.map fun p => V.ref p.1).drop 1) (n := ks.length - 1) (by rw [List.length_drop, List.length_map]; omega))
        (fun i H' => Same H1 H' ∧ H' D = some (.lst (List.replicate i (V.bl true)))) ⟨same_upd nD, upd_same⟩ (fun i H' _ p => ⟨sqT_same p.1 (sqT_same s1 hT), sqT_same p.1 hb⟩) (fun i x H2 H3 hi p y => ?_) fun H' p => fin D H' p.1 p.2
      obtain ⟨T, x1, x2, rfl, nT, rfl, e1, e2⟩ := y
      have e3 : ((ks.map fun p => V.ref p.1).drop 1)[i]? = some x2 := e2
      rw [List.getElem?_drop] at e3
      obtain ⟨k1, g1, rfl⟩ := map_at e1
      obtain ⟨k2, g2, rfl⟩ := map_at e3
      have sT : Same H2 (upd H2 T (.tup [V.ref k1.1, V.ref k2.1])) := same_upd nT
      have sA : Same H (upd H2 T (.tup [V.ref k1.1, V.ref k2.1])) := (s1.trans p.1).trans sT
      have lt : HT.lexLt k1.2 k2.2 = true := by
        refine hrise i k1.2 k2.2 ?_ ?_
        · rw [List.getElem?_map, g1]; rfl
        · rw [Nat.add_comm, List.getElem?_map, g2]; rfl
      refine ⟨T, _, rfl, tupNew upd_same, rfl, _, _, rfl, _, _, rfl, rfl, rfl, tt_yes ⟨.ref k1.1, rfl, .ref k2.1, rfl, k1.1, k2.1, k1.2, k2.2, rfl, rfl, sqT_same sA (hks k1 (List.mem_of_getElem? g1)), sqT_same sA (hks k2 (List.mem_of_getElem? g2)), _, sT _ _ p.2, ?_, ?_, ?_⟩⟩
      · rw [List.length_replicate]; rw [List.length_map] at hl; exact few1 (by omega)
      · exact fun b o e => by rw [upd_ne (ne_of_none e nD)]; exact sT b o (p.1 b o e)
      · rw [upd_same, lt, rep_next]
    have fin : ∀ (H1 : Hp), Same H H1 → ∀ D H', Same H1 H' → H' D = some (.lst (List.replicate (ks.length - 1) (V.bl true))) → ∃ (a : Addr) (bs : List Bool), [V.ref D] = [V.ref a] ∧ SqL K H' a (bs.map V.bl) ∧ Q (.bl (bs.all id)) H' := by
      intro H1 s1 D H' s2 e
      refine ⟨D, List.replicate (ks.length - 1) true, rfl, lstNew (by rw [e, rep_bl]), ?_⟩
      rw [all_true]
      exact q H' (s1.trans s2)
    refine ⟨.ref a, rfl, .ref a, rfl, 1, rfl, a, _, rfl, hT, fun hw => ?_, fun hw c nc => ?_⟩
    · have e0 : ks.map (fun p => V.ref p.1) = [] := by
        cases hk : ks.map (fun p => V.ref p.1) with
        | nil => rfl
        | cons x r =>
          rw [hk] at hw
          have h1 := hw.1
          rw [show HT.sIx (x :: r).length 0 (some 1) = min 1 (x :: r).length from HT.sIx_nat _ 0 1, List.length_cons] at h1
          omega
      refine ⟨a, a, _, _, rfl, .inr ⟨hT, hT, ?_⟩⟩
      refine go a H (fun v H2 => ∃ (a : Addr) (bs : List Bool), [v] = [V.ref a] ∧ SqL K H2 a (bs.map V.bl) ∧ Q (.bl (bs.all id)) H2) (Same.refl H) ?_ ?_
      · rw [e0]; rw [e0] at hT; exact hT
      · exact fin H (Same.refl H)
    · have s1 : Same H (upd H c (.tup (cutV (ks.map fun p => V.ref p.1) (some 1) none))) := same_upd nc
      refine ⟨a, c, _, _, rfl, .inr ⟨sqT_same s1 hT, tupNew upd_same, ?_⟩⟩
      refine go c _ (fun v H2 => ∃ (a : Addr) (bs : List Bool), [v] = [V.ref a] ∧ SqL K H2 a (bs.map V.bl) ∧ Q (.bl (bs.all id)) H2) s1 ?_ ?_
      · exact tupNew (by rw [upd_same, cut1])
      · exact fin _ s1
end
end K2
set_option maxHeartbeats 4000000
namespace K2
open PySem PySem.Spec PyProof.Rows L2 RV
/-- the marks behind m by the steps ps -/
def behindOf (ps : List (List Int)) (m : Int) : List Int := (ps.filter fun p => decide (p.getD 0 0 = m)).map fun p => p.getD 1 0
section
variable {P : Program} {w : World} {K : PySem.W.Frag} {mg : Str → Option Value} {base : Heap}
/-! ### marks_behind -/
theorem scBehind : FnScope ["steps", "mark", "a", "b"] ["steps", "mark"] (defScope sBehind) := ⟨rfl, rfl, rfl, by decide +kernel, rfl, by decide +kernel, by decide +kernel⟩
def spBehind (K : PySem.W.Frag) : Sp := fun vs H Q _ => ∃ (a : Addr) (ps : List (List Int)) (m : Int), vs = [.ref a, .int m] ∧ Tups K H a ps ∧ ps.length ≤ 1000 ∧ (∀ p ∈ ps, ∃ x y : Int, p = [x, y]) ∧
  ∀ H' t, Same H H' → H t = none → H' t = some (.tup ((behindOf ps m).map V.int)) → Q (.ref t) H'
theorem behind_next {ps : List (List Int)} {m : Int} {i : Nat} {x y : Int} (h : ps[i]? = some [x, y]) : behindOf (ps.take (i + 1)) m = behindOf (ps.take i) m ++ (if x = m then [y] else []) := by
  unfold behindOf
  rw [List.take_add_one, h]
  show List.map _ (List.filter _ (ps.take i ++ [[x, y]])) = _
  rw [List.filter_append, List.map_append]
  by_cases e : x = m
  · simp [e]
  · simp [e]
theorem behind_len (ps : List (List Int)) (m : Int) : (behindOf ps m).length ≤ ps.length := by
  unfold behindOf
  rw [List.length_map]
  exact List.length_filter_le _ _
theorem ok_behind {f : Addr} {fd : FuncData} (F : Fun K "marks_behind" "marks_behind" sBehind f fd) (B : Bare mg) : FnOk P w K mg base CX0 1 f fd ["steps", "mark"] (spBehind K) := by
  refine F.ok scBehind (fun vs H Q E h => ?_) (fun cdv A outer s H vs Q E hr h => ?_)
  · obtain ⟨a, ps, m, rfl, _⟩ := h
    rfl
  · obtain ⟨a, ps, m, rfl, hTT, hl, hp, q⟩ := h
    obtain ⟨ks, rfl, hT, hks⟩ := hTT
    refine ⟨_, pss_one (ps_ret (pe_tupleOf (by rfl) B.tuple
        (pe_lc (own := [("a", 2), ("b", 3)]) (g := gTup K 2 (gCons (gName 2) (gCons (gName 3) gNil))) rfl scBehind.nd (pi_tup (pv 0)) (blkOk_by (N := ["steps", "mark", "a", "b"]) (sc := defScope sBehind) (by decide +kernel))
          (fun _ _ _ _ _ => pg_tupK rfl rfl (pgs_cons (pg_name (i := 2) scBehind.nd rfl (Or.inl rfl)) (pgs_cons (pg_name (i := 3) scBehind.nd rfl (Or.inl rfl)) pgs_nil))) (fun _ _ _ _ _ => pts_one (pt_cmpR op_eq (pv 2) (pv 1) (nomark _)))
          (fun _ _ _ _ _ => pv 3)))), ?_⟩
    refine ⟨.ref a, rfl, a, rfl, ⟨_, hT⟩, fun D nD => ?_⟩
    refine lc_tup (K := K) (a := a) (xs := ks.map fun p => V.ref p.1) (fun i H' => Same H H' ∧ H' D = some (.lst ((behindOf ((ks.map (·.2)).take i) m).map V.int))) ⟨same_upd nD, by rw [upd_same]; rfl⟩ (fun i H' _ p => sqT_same p.1 hT) (fun i x H' hx p => ?_) fun H' p => ?_
    · obtain ⟨k, g, rfl⟩ := map_at hx
      have hk : k ∈ ks := List.mem_of_getElem? g
      obtain ⟨x, y, e⟩ := hp k.2 (List.mem_map_of_mem hk)
      have hkT : SqT K H' k.1 ([x, y].map V.int) := by rw [← e]; exact sqT_same p.1 (hks k hk)
      have gi : (ks.map (·.2))[i]? = some [x, y] := by rw [List.getElem?_map, g, ← e]; rfl
      refine ⟨k.1, _, rfl, hkT, rfl, _, _, rfl, _, _, rfl, rfl, rfl, .int x, rfl, .int m, rfl, rfl, _, rfl, ?_⟩
      have hle := behind_len ((ks.map (·.2)).take i) m
      rw [List.length_take] at hle
      by_cases e : x = m
      · subst e
        rw [decide_eq_true rfl]
        refine iteT ⟨.int y, rfl, _, p.2, ?_, ?_, ?_⟩
        · rw [List.length_map]; exact few1 (by omega)
        · exact fun b o z => by rw [upd_ne (ne_of_none z nD)]; exact p.1 b o z
        · rw [upd_same, behind_next gi, if_pos rfl, List.map_append]; rfl
      · rw [decide_eq_false (fun z => e (V.int.inj z))]
        refine iteF ⟨p.1, ?_⟩
        rw [p.2, behind_next gi, if_neg e, List.append_nil]
    · rw [List.length_map] at p
      have e : (ks.map (·.2)).take ks.length = ks.map (·.2) := List.take_of_length_le (by rw [List.length_map]; exact Nat.le_refl _)
      rw [e] at p
      refine .inl ⟨D, _, rfl, lstNew p.2, fun t nt => ?_⟩
      exact q _ t (p.1.trans (same_upd nt)) (p.1.free nt) upd_same
/-! ### are_steps -/
theorem scSteps : FnScope ["mirrors", "thing", "pair", "a", "b"] ["mirrors", "thing"] (defScope sSteps) := ⟨rfl, rfl, rfl, by decide +kernel, rfl, by decide +kernel, by decide +kernel⟩
def spSteps (K : PySem.W.Frag) : Sp := fun vs H Q _ => ∃ (a b : Addr) (ns : List Int) (ps : List (List Int)), vs = [.ref a, .ref b] ∧ SqT K H a (ns.map V.int) ∧ Tups K H b ps ∧ Mir ns ∧ Stp ns ps ∧ ∀ H', Same H H' → Q (.bl true) H'
theorem ok_steps {f fS fR : Addr} {fd fdS fdR : FuncData} (F : Fun K "are_steps" "are_steps" sSteps f fd) (DS : DefAt K mg "is_step" sStep ["thing", "many"] fS fdS) (GS : FnOk P w K mg base CX0 4 fS fdS ["thing", "many"] (spStep K))
    (DR : DefAt K mg "is_rising" sRising ["pairs"] fR fdR) (B : Bare mg) : FnOk P w K mg base CX0 5 f fd ["mirrors", "thing"] (spSteps K) := by
  have GR : FnOk P w K mg base CX0 1 fR fdR ["pairs"] (spRising K) := ok_rising DR.fn B
  refine F.ok scSteps (fun vs H Q E h => ?_) (fun cdv A outer s H vs Q E hr h => ?_)
  · obtain ⟨a, b, ns, ps, rfl, _⟩ := h
    rfl
  · obtain ⟨a, b, ns, ps, rfl, hA, hTT, hM, hS, q⟩ := h
    have hTT0 := hTT
    obtain ⟨ks, rfl, hT, hks⟩ := hTT
    have h64 := hS.few
    rw [List.length_map] at h64
    refine ⟨_, pss_cons (ps_if (pt_not (pt_val (pe_callB call_isi (by rfl) B.isinstance (by decide +kernel) (pa_cons (pv 1) (pa_cons (pe_bltn (v := .ty "tuple") (by rfl) B.tuple (by decide +kernel) rfl) pa_nil))))) (pss_one (ps_ret pe_bl)) pss_nil)
      (pss_cons (ps_if (pt_not (pt_val (pe_callB (cr_all rfl) (by rfl) B.all (by decide +kernel) (pa_cons
        (pe_lc (own := [("pair", 2)]) (g := gName 2) (tt := tYes) rfl scSteps.nd (pi_tup (pv 1)) (blkOk_by (N := ["mirrors", "thing", "pair", "a", "b"]) (sc := defScope sSteps) (by decide +kernel)) (fun _ _ _ _ _ => pg_name (i := 2) scSteps.nd rfl (Or.inl rfl)) (fun _ _ _ _ _ => pts_nil)
          (fun _ _ _ _ _ => pe_call GS hr (by rfl) DS.mg DS.fn.kp DS.bi .nil pass0 (pa_cons (pv 2) (pa_cons (pe_callB (call_lenK (K := K) rfl) (by rfl) B.len PySem.boot_len (pa_cons (pv 0) pa_nil)) pa_nil)))) pa_nil)))) (pss_one (ps_ret pe_bl)) pss_nil)
      (pss_cons (ps_if (pt_not (pt_val (pe_call GR (hr.mono (by decide)) (by rfl) DR.mg DR.fn.kp DR.bi .nil pass0 (pa_cons (pv 1) pa_nil)))) (pss_one (ps_ret pe_bl)) pss_nil)
      (pss_one (ps_ret (pe_callB (cr_all rfl) (by rfl) B.all (by decide +kernel) (pa_cons
        (pe_lc (own := [("a", 3), ("b", 4)]) (g := gTup K 2 (gCons (gName 3) (gCons (gName 4) gNil))) (tt := tYes) rfl scSteps.nd (pi_tup (pv 1)) (blkOk_by (N := ["mirrors", "thing", "pair", "a", "b"]) (sc := defScope sSteps) (by decide +kernel))
          (fun _ _ _ _ _ => pg_tupK rfl rfl (pgs_cons (pg_name (i := 3) scSteps.nd rfl (Or.inl rfl)) (pgs_cons (pg_name (i := 4) scSteps.nd rfl (Or.inl rfl)) pgs_nil))) (fun _ _ _ _ _ => pts_nil)
          (fun _ _ _ _ _ => pe_cmpR (op_inTsK (K := K) rfl (un65 hr)) (pe_tup (pa_cons (pe_ix (ix_tupK (K := K) rfl) (pv 0) (pv 4) (fun _ _ => rfl)) (pa_cons (pe_ix (ix_tupK (K := K) rfl) (pv 0) (pv 3) (fun _ _ => rfl)) pa_nil))) (pv 1) (by rfl))) pa_nil)))))), ?_⟩
    -- isinstance(thing, tuple)
    refine ⟨.ref b, rfl, .ref b, .ty "tuple", _, _, true, rfl, .ty "tuple", tyT hT, kit_ty (by decide +kernel), true, rfl, iteF ?_⟩
    -- all of them are steps
    refine ⟨.ref b, rfl, b, rfl, ⟨_, hT⟩, fun D nD => ?_⟩
    refine lc_tup (K := K) (a := b) (xs := ks.map fun p => V.ref p.1) (fun i H' => Same H H' ∧ H' D = some (.lst (List.replicate i (V.bl true)))) ⟨same_upd nD, upd_same⟩ (fun i H' _ p => sqT_same p.1 hT) (fun i x H' hx p => ?_) fun H1 p => ?_
    · obtain ⟨k, g, rfl⟩ := map_at hx
      have hk : k ∈ ks := List.mem_of_getElem? g
      have hi : i < ks.length := (List.getElem?_eq_some_iff.mp g).1
      obtain ⟨x, y, e, hx1, hy1⟩ := hS.pair k.2 (List.mem_map_of_mem hk)
      have hkT : SqT K H' k.1 ([x, y].map V.int) := by rw [← e]; exact sqT_same p.1 (hks k hk)
      refine ⟨rfl, tt_yes ⟨.ref k.1, rfl, .ref a, rfl, a, _, rfl, .inr (sqT_same p.1 hA), k.1, x, y, _, rfl, hkT, ?_, ?_, fun H2 s2 => ⟨_, s2 _ _ p.2, ?_, ?_, ?_⟩⟩⟩
      · rw [List.length_map]; exact hx1
      · rw [List.length_map]; exact hy1
      · rw [List.length_replicate]; exact few1 (by omega)
      · exact fun c o z => by rw [upd_ne (ne_of_none z nD)]; exact s2 c o (p.1 c o z)
      · rw [upd_same, rep_next]
    · rw [rep_bl] at p
      refine ⟨D, _, rfl, lstNew p.2, ?_⟩
      rw [all_true]
      refine ⟨true, rfl, iteF ?_⟩
      -- they rise
      refine ⟨.ref b, rfl, b, _, rfl, hTT0.same p.1, by rw [List.length_map]; omega, hS.rise, fun H2 s2 => ⟨true, rfl, iteF ?_⟩⟩
      have s02 : Same H H2 := p.1.trans s2
      -- their mirror steps
      refine ⟨.ref b, rfl, b, rfl, ⟨_, sqT_same s02 hT⟩, fun D2 nD2 => ?_⟩
      refine lc_tup (K := K) (a := b) (xs := ks.map fun p => V.ref p.1) (fun i H' => Same H2 H' ∧ H' D2 = some (.lst (List.replicate i (V.bl true)))) ⟨same_upd nD2, upd_same⟩ (fun i H' _ p => sqT_same p.1 (sqT_same s02 hT)) (fun i x H' hx p => ?_) fun H3 p => ?_
      · obtain ⟨k, g, rfl⟩ := map_at hx
        have hk : k ∈ ks := List.mem_of_getElem? g
        have hi : i < ks.length := (List.getElem?_eq_some_iff.mp g).1
        obtain ⟨x, y, e, hx1, hy1⟩ := hS.pair k.2 (List.mem_map_of_mem hk)
        have s0' : Same H H' := s02.trans p.1
        have hkT : SqT K H' k.1 ([x, y].map V.int) := by rw [← e]; exact sqT_same s0' (hks k hk)
        obtain ⟨mx, gx⟩ : ∃ mx, ns[x.toNat]? = some mx := ⟨_, List.getElem?_eq_getElem (by omega)⟩
        obtain ⟨my, gy⟩ : ∃ my, ns[y.toNat]? = some my := ⟨_, List.getElem?_eq_getElem (by omega)⟩
        have hin : [my, mx] ∈ ks.map (·.2) := hS.mirr x y mx my (by rw [← e]; exact List.mem_map_of_mem hk) gx gy
        have ax : atI (ns.map V.int) x = some (.int mx) := by
          rw [show x = ((x.toNat : Nat) : Int) by omega]; exact atI_nat (by rw [List.getElem?_map, gx]; rfl)
        have ay : atI (ns.map V.int) y = some (.int my) := by
          rw [show y = ((y.toNat : Nat) : Int) by omega]; exact atI_nat (by rw [List.getElem?_map, gy]; rfl)
        refine ⟨k.1, _, rfl, hkT, rfl, _, _, rfl, _, _, rfl, rfl, rfl, tt_yes ⟨.ref a, rfl, .int y, rfl, a, _, y, _, rfl, rfl, sqT_same s0' hA, ay, .ref a, rfl, .int x, rfl, a, _, x, _, rfl, rfl, sqT_same s0' hA, ax, (by show 2 ≤ sizeLine; decide), fun T nT => ?_⟩⟩
        have sT : Same H' (upd H' T (.tup [.int my, .int mx])) := same_upd nT
        refine ⟨.ref b, rfl, T, b, [my, mx], _, rfl, rfl, tupNew upd_same, (hTT0.same s0').same sT, _, sT _ _ p.2, ?_, ?_, ?_⟩
        · rw [List.length_replicate]; exact few1 (by omega)
        · exact fun c o z => by rw [upd_ne (ne_of_none z nD2)]; exact sT c o (p.1 c o z)
        · rw [upd_same, decide_eq_true hin, rep_next]
      · rw [rep_bl] at p
        refine ⟨D2, _, rfl, lstNew p.2, ?_⟩
        rw [all_true]
        exact q H3 (s02.trans p.1)
end
end K2
set_option maxHeartbeats 4000000
namespace K2
open PySem PySem.Spec PyProof.Rows L2 RV
/-! ### a Rule's fields -/
theorem n1 : ¬ (("mirrors" : Str) = "steps") := by decide +kernel
theorem n2 : ¬ (("mirrors" : Str) = "followers") := by decide +kernel
theorem n3 : ¬ (("steps" : Str) = "followers") := by decide +kernel
def flds (a b t : Addr) : List (Str × V) := putF "followers" (.ref t) (putF "steps" (.ref b) (putF "mirrors" (.ref a) []))
theorem flds_m (a b t : Addr) : (flds a b t).lookup ("mirrors" : Str) = some (.ref a) := by
  unfold flds
  rw [lookup_putF, if_neg n2, lookup_putF, if_neg n1, lookup_putF, if_pos rfl]
theorem flds_s (a b t : Addr) : (flds a b t).lookup ("steps" : Str) = some (.ref b) := by
  unfold flds
  rw [lookup_putF, if_neg n3, lookup_putF, if_pos rfl]
/-- all that a mark is followed by, mark by mark -/
def follow (n : Nat) (ps : List (List Int)) : List (List Int) := (List.range n).map fun (i : Nat) => behindOf ps (i : Int)
/-- a Rule stands at p -/
structure RuleAt (K : PySem.W.Frag) (C : Addr) (H : Hp) (p : Addr) (ns : List Int) (ps : List (List Int)) : Prop where
  ex : ∃ dx a b t, H p = some (.ins C dx (flds a b t)) ∧ SqT K H a (ns.map V.int) ∧ Tups K H b ps ∧ Tups K H t (follow ns.length ps)
theorem RuleAt.same {K : PySem.W.Frag} {C : Addr} {H H' : Hp} {p : Addr} {ns : List Int} {ps : List (List Int)} (r : RuleAt K C H p ns ps) (s : Same H H') : RuleAt K C H' p ns ps := by
  obtain ⟨dx, a, b, t, h1, h2, h3, h4⟩ := r.ex
  exact ⟨dx, a, b, t, s _ _ h1, sqT_same s h2, h3.same s, h4.same s⟩
/-- what the class is, behind the top -/
structure Txt (K : PySem.W.Frag) (mg : Str → Option Value) (C : Addr) : Prop where
  cl : Cls K C
  nM : NoAttr K C "mirrors"
  nS : NoAttr K C "steps"
  nF : NoAttr K C "followers"
  mgC : mg "Rule" = some (.ref C)
  c1 : PySem.W.findIn K (.ref C) "__class__" = some (some (.builtin "object.__class__"))
  c2 : PySem.W.specialIn K (.builtin "object.__class__") "__get__" = some (some (.builtin "getset_descriptor.__get__"))
  c3 : PySem.W.takesIn K (.builtin "object.__class__") = some true
  c4 : PySem.W.mroIn K C (.type "object") = some true
  c5 : PySem.W.kitOne K (.ref C) (.ref C) = some true
section
variable {P : Program} {w : World} {K : PySem.W.Frag} {mg : Str → Option Value} {base : Heap}
/-! ### __init__ -/
theorem scInit : FnScope ["self", "mirrors", "steps", "mark"] ["self", "mirrors", "steps"] (defScope sInit) := ⟨rfl, rfl, rfl, by decide +kernel, rfl, by decide +kernel, by decide +kernel⟩
def spInit (K : PySem.W.Frag) (C : Addr) : Sp := fun vs H Q _ => ∃ (p dx a b : Addr) (ns : List Int) (ps : List (List Int)), vs = [.ref p, .ref a, .ref b] ∧ H p = some (.ins C dx []) ∧ SqT K H a (ns.map V.int) ∧ Tups K H b ps ∧ Mir ns ∧ Stp ns ps ∧
  ∀ H' t, (∀ c o, H c = some o → c ≠ p → H' c = some o) → H' p = some (.ins C dx (flds a b t)) → Tups K H' t (follow ns.length ps) → Q .non H'
theorem sqT_but {H H' : Hp} {p C dx : Addr} {fs : List (Str × V)} (hp : H p = some (.ins C dx fs)) (k : ∀ c o, H c = some o → c ≠ p → H' c = some o) {a : Addr} {xs : List V} (h : SqT K H a xs) : SqT K H' a xs := by
  rcases h with (h | ⟨o, h⟩) | h
  · exact .inl (.inl (k _ _ h fun z => by rw [z, hp] at h; cases h))
  · exact .inl (.inr ⟨o, k _ _ h fun z => by rw [z, hp] at h; cases h⟩)
  · exact .inr h
theorem tups_but {H H' : Hp} {p C dx : Addr} {fs : List (Str × V)} (hp : H p = some (.ins C dx fs)) (k : ∀ c o, H c = some o → c ≠ p → H' c = some o) {a : Addr} {ps : List (List Int)} (h : Tups K H a ps) : Tups K H' a ps := by
  obtain ⟨ks, h1, h2, h3⟩ := h
  exact ⟨ks, h1, sqT_but hp k h2, fun q hq => sqT_but hp k (h3 q hq)⟩
theorem follow_next (i : Nat) (ps : List (List Int)) : follow (i + 1) ps = follow i ps ++ [behindOf ps (i : Int)] := by
  unfold follow
  rw [List.range_succ, List.map_append]; rfl
theorem ok_init {f fM fS fB C : Addr} {fd fdM fdS fdB : FuncData} (F : Fun K "__init__" "Rule.__init__" sInit f fd) (T : Txt K mg C)
    (DM : DefAt K mg "are_mirrors" sMirrors ["thing"] fM fdM) (GM : FnOk P w K mg base CX0 4 fM fdM ["thing"] (spMirrors K)) (DS : DefAt K mg "are_steps" sSteps ["mirrors", "thing"] fS fdS) (GS : FnOk P w K mg base CX0 5 fS fdS ["mirrors", "thing"] (spSteps K))
    (DB : DefAt K mg "marks_behind" sBehind ["steps", "mark"] fB fdB) (B : Bare mg) : FnOk P w K mg base CX0 6 f fd ["self", "mirrors", "steps"] (spInit K C) := by
  have GB : FnOk P w K mg base CX0 1 fB fdB ["steps", "mark"] (spBehind K) := ok_behind DB.fn B
  refine F.ok scInit (fun vs H Q E h => ?_) (fun cdv A outer s H vs Q E hr h => ?_)
  · obtain ⟨p, dx, a, b, ns, ps, rfl, _⟩ := h
    rfl
  · obtain ⟨p, dx, a, b, ns, ps, rfl, hp, hA, hB, hM, hS, q⟩ := h
    refine ⟨_, pss_cons (ps_if (pt_not (pt_val (pe_call GM (hr.mono (by decide)) (by rfl) DM.mg DM.fn.kp DM.bi .nil pass0 (pa_cons (pv 1) pa_nil)))) (pss_one ps_never) pss_nil)
      (pss_cons (ps_if (pt_not (pt_val (pe_call GS hr (by rfl) DS.mg DS.fn.kp DS.bi .nil pass0 (pa_cons (pv 1) (pa_cons (pv 2) pa_nil))))) (pss_one ps_never) pss_nil)
      (pss_cons (ps_fld (pv 0) (pv 1) rfl)
      (pss_cons (ps_fld (pv 0) (pv 2) rfl)
      (pss_one (ps_fld (pv 0) (pe_tupleOf (by rfl) B.tuple
        (pe_lc (own := [("mark", 3)]) (g := gName 3) (tt := tYes) rfl scInit.nd (pi_range1 (by rfl) B.range (pa_cons (pe_callB call_len_seq (by rfl) B.len PySem.boot_len (pa_cons (pv 1) pa_nil)) pa_nil)) (blkOk_by (N := ["self", "mirrors", "steps", "mark"]) (sc := defScope sInit) (by decide +kernel))
          (fun _ _ _ _ _ => pg_name (i := 3) scInit.nd rfl (Or.inl rfl)) (fun _ _ _ _ _ => pts_nil)
          (fun _ _ _ _ _ => pe_call GB (hr.mono (by decide)) (by rfl) DB.mg DB.fn.kp DB.bi .nil pass0 (pa_cons (pv 2) (pa_cons (pv 3) pa_nil))))) rfl))))), ?_⟩
    refine ⟨.ref a, rfl, a, ns, rfl, hA, hM, fun H1 s1 => ⟨true, rfl, iteF ?_⟩⟩
    refine ⟨.ref a, rfl, .ref b, rfl, a, b, ns, ps, rfl, sqT_same s1 hA, hB.same s1, hM, hS, fun H2 s2 => ⟨true, rfl, iteF ?_⟩⟩
    have s02 : Same H H2 := s1.trans s2
    have hp2 := s02 _ _ hp
    refine ⟨.ref a, rfl, .ref p, rfl, p, C, dx, [], rfl, hp2, T.cl, T.nM, (by show 0 < 1000; decide), ?_⟩
    refine ⟨.ref b, rfl, .ref p, rfl, p, C, dx, _, rfl, upd_same, T.cl, T.nS, (by show 1 < 1000; decide), ?_⟩
    -- the heap behind both stores
    have k4 : ∀ c o, H2 c = some o → c ≠ p → (upd (upd H2 p (.ins C dx (putF "mirrors" (.ref a) []))) p (.ins C dx (putF "steps" (.ref b) (putF "mirrors" (.ref a) [])))) c = some o := fun c o e z => by
      rw [upd_ne z, upd_ne z]; exact e
    generalize e4 : upd (upd H2 p (.ins C dx (putF "mirrors" (.ref a) []))) p (.ins C dx (putF "steps" (.ref b) (putF "mirrors" (.ref a) []))) = H4 at k4 ⊢
    have hp4 : H4 p = some (.ins C dx (putF "steps" (.ref b) (putF "mirrors" (.ref a) []))) := by rw [← e4, upd_same]
    have hA4 : SqT K H4 a (ns.map V.int) := sqT_but hp2 k4 (sqT_same s02 hA)
    have hB4 : Tups K H4 b ps := tups_but hp2 k4 (hB.same s02)
    have h8 := hM.few
    refine ⟨.ref a, rfl, a, _, rfl, .inr hA4, _, rfl, ?_, ?_, fun D nD => ?_⟩
    · rw [List.length_map]; omega
    · rw [List.length_map]; omega
    rw [List.length_map, Int.toNat_natCast]
    refine lc_range (lo := 0) (n := ns.length) (fun i H' => Same H4 H' ∧ ∃ ks : List (Addr × List Int), ks.map (·.2) = follow i ps ∧ H' D = some (.lst (ks.map fun p => V.ref p.1)) ∧ ∀ q ∈ ks, SqT K H' q.1 (q.2.map V.int)) ⟨same_upd nD, [], rfl, upd_same, fun _ z => nomatch z⟩ (fun i H' hi z => ?_) fun H' z => ?_
    · obtain ⟨s5, ks, e1, e2, e3⟩ := z
      have hkl : ks.length = i := by
        have := congrArg List.length e1
        rw [List.length_map] at this
        rw [this]; unfold follow; rw [List.length_map, List.length_range]
      refine ⟨rfl, tt_yes ⟨.ref b, rfl, .int (0 + (i : Nat)), rfl, b, ps, _, rfl, hB4.same s5, by have := hS.few; omega, fun q hq => ?_, fun H6 t s6 nt et => ⟨_, s6 _ _ e2, ?_, ?_, ?_⟩⟩⟩
      · obtain ⟨x, y, e, _⟩ := hS.pair q hq
        exact ⟨x, y, e⟩
      · rw [List.length_map]; exact few1 (by omega)
      · exact fun c o e => by rw [upd_ne (ne_of_none e nD)]; exact s6 c o (s5 c o e)
      · have hk6 : ∀ c o, H6 c = some o → c ≠ D → (upd H6 D (.lst ((ks.map fun p => V.ref p.1) ++ [V.ref t]))) c = some o := fun c o e z => by rw [upd_ne z]; exact e
        have tk : ∀ {c : Addr} {xs : List V}, SqT K H6 c xs → SqT K (upd H6 D (.lst ((ks.map fun p => V.ref p.1) ++ [V.ref t]))) c xs := by
          intro c xs h
          have eD := s6 _ _ e2
          rcases h with (h | ⟨o, h⟩) | h
          · exact .inl (.inl (hk6 _ _ h fun z => by rw [z, eD] at h; cases h))
          · exact .inl (.inr ⟨o, hk6 _ _ h fun z => by rw [z, eD] at h; cases h⟩)
          · exact .inr h
        refine ⟨ks ++ [(t, behindOf ps (i : Int))], ?_, ?_, fun q hq => ?_⟩
        · rw [List.map_append, e1, follow_next]; rfl
        · rw [upd_same, List.map_append]; rfl
        · rcases List.mem_append.mp hq with z | z
          · exact tk (sqT_same s6 (e3 q z))
          · rw [List.mem_singleton.mp z]
            refine tk (tupNew ?_)
            rw [et, show (0 + ((i : Nat) : Int)) = (i : Int) by omega]
    · obtain ⟨s5, ks, e1, e2, e3⟩ := z
      refine .inl ⟨D, _, rfl, lstNew e2, fun t nt => ?_⟩
      have sT : Same H' (upd H' t (.tup (ks.map fun p => V.ref p.1))) := same_upd nt
      have hpT := sT _ _ (s5 _ _ hp4)
      refine ⟨.ref p, rfl, p, C, dx, _, rfl, hpT, T.cl, T.nF, (by
        show (putF "steps" (V.ref b) (putF "mirrors" (V.ref a) [])).length < 1000
        show (if ("mirrors" : Str) = "steps" then [(("mirrors" : Str), V.ref b)] else (("mirrors" : Str), V.ref a) :: putF "steps" (V.ref b) []).length < 1000
        rw [if_neg n1]; show 2 < 1000; decide), ?_⟩
      refine q _ t (fun c o e z => ?_) upd_same ?_
      · rw [upd_ne z]
        exact sT _ _ (s5 _ _ (k4 _ _ (s02 _ _ e) z))
      · have tt : Tups K (upd H' t (.tup (ks.map fun p => V.ref p.1))) t (follow ns.length ps) := ⟨ks, e1, tupNew upd_same, fun q hq => sqT_same sT (e3 q hq)⟩
        exact tups_but hpT (fun c o e z => by rw [upd_ne z]; exact e) tt
end
end K2
namespace RV
open PySem L2
/-! ### lists that rise -/
theorem sorted_eq {α : Type} {f : α → Int} : ∀ {l l' : List α}, l.Pairwise (fun a b => f a < f b) → l'.Pairwise (fun a b => f a < f b) → (∀ x, x ∈ l ↔ x ∈ l') → l = l'
  | [], [], _, _, _ => rfl
  | [], y :: r, _, _, h => nomatch (h y).mpr (List.mem_cons_self ..)
  | x :: r, [], _, _, h => nomatch (h x).mp (List.mem_cons_self ..)
  | x :: l, y :: l', h1, h2, h => by
    rw [List.pairwise_cons] at h1 h2
    have exy : x = y := by
      rcases List.mem_cons.mp ((h x).mp (List.mem_cons_self ..)) with e | e
      · exact e
      · rcases List.mem_cons.mp ((h y).mpr (List.mem_cons_self ..)) with e' | e'
        · exact e'.symm
        · have := h2.1 x e
          have := h1.1 y e'
          omega
    subst exy
    rw [sorted_eq h1.2 h2.2 fun z => ⟨fun hz => ?_, fun hz => ?_⟩]
    · rcases List.mem_cons.mp ((h z).mp (List.mem_cons_of_mem _ hz)) with e | e
      · have := h1.1 z hz
        rw [e] at this; omega
      · exact e
    · rcases List.mem_cons.mp ((h z).mpr (List.mem_cons_of_mem _ hz)) with e | e
      · have := h2.1 z hz
        rw [e] at this; omega
      · exact e
theorem nodup_le {α : Type} [DecidableEq α] : ∀ {l us : List α}, l.Nodup → (∀ x ∈ l, x ∈ us) → l.length ≤ us.length
  | [], _, _, _ => Nat.zero_le _
  | x :: l, us, h, hs => by
    rw [List.nodup_cons] at h
    have hx := hs x (List.mem_cons_self ..)
    have ih : l.length ≤ (us.erase x).length := nodup_le h.2 fun z hz => by
      refine (List.mem_erase_of_ne fun e => ?_).mpr (hs z (List.mem_cons_of_mem _ hz))
      subst e; exact h.1 hz
    have hl := List.length_erase_of_mem hx
    have hp : 0 < us.length := List.length_pos_of_mem hx
    rw [List.length_cons]; omega
/-! ### pairs -/
/-- a pair of marks below b -/
def Pr (b : Int) (p : List Int) : Prop := ∃ x y : Int, p = [x, y] ∧ (0 ≤ x ∧ x < b) ∧ (0 ≤ y ∧ y < b)
abbrev cd (p : List Int) : Int := TS.code 64 p
theorem cd_pair (x y : Int) : cd [x, y] = x * 64 + y := code_pair x y
theorem lt_lex {p q : List Int} (hp : Pr 64 p) (hq : Pr 64 q) (h : cd p < cd q) : HT.lexLt p q = true := by
  obtain ⟨x, y, rfl, hx, hy⟩ := hp
  obtain ⟨x', y', rfl, hx', hy'⟩ := hq
  rw [cd_pair, cd_pair] at h
  rw [HT.lexLt_cons, HT.lexLt_cons, HT.lexLt_nil_nil]
  by_cases e : x = x'
  · rw [if_pos e]
    have : y < y' := by omega
    rw [if_neg (by omega)]; exact decide_eq_true this
  · rw [if_neg e]; exact decide_eq_true (by omega)
theorem lt_of {p q : List Int} (hp : Pr 64 p) (hq : Pr 64 q) (h : cd p ≤ cd q) (ne : p ≠ q) : cd p < cd q := by
  obtain ⟨x, y, rfl, hx, hy⟩ := hp
  obtain ⟨x', y', rfl, hx', hy'⟩ := hq
  have z := pair_lt h ne hx hy hx' hy'
  rw [cd_pair, cd_pair]
  omega
theorem Pr.mono {b c : Int} {p : List Int} (h : Pr b p) (hbc : b ≤ c) : Pr c p := by
  obtain ⟨x, y, e, hx, hy⟩ := h
  exact ⟨x, y, e, by omega, by omega⟩
theorem sorted_lt {l : List (List Int)} (hb : ∀ p ∈ l, Pr 64 p) (nd : l.Nodup) (h : l.Pairwise fun p q => cd p ≤ cd q) : l.Pairwise fun p q => cd p < cd q := by
  have h2 := List.Pairwise.and h nd
  exact List.Pairwise.imp_of_mem (fun {p q} hp hq z => lt_of (hb p hp) (hb q hq) z.1 z.2) h2
theorem adj_rise {l : List (List Int)} (hb : ∀ p ∈ l, Pr 64 p) (h : l.Pairwise fun p q => cd p < cd q) (i : Nat) (p q : List Int) (h1 : l[i]? = some p) (h2 : l[i + 1]? = some q) : HT.lexLt p q = true := by
  obtain ⟨l1, e1⟩ := List.getElem?_eq_some_iff.mp h1
  obtain ⟨l2, e2⟩ := List.getElem?_eq_some_iff.mp h2
  have := List.pairwise_iff_getElem.mp h i (i + 1) l1 l2 (Nat.lt_succ_self _)
  rw [e1, e2] at this
  exact lt_lex (hb p (List.mem_of_getElem? h1)) (hb q (List.mem_of_getElem? h2)) this
/-! ### all pairs, row by row -/
def rowOf (d : Int) (Pd : Int → Int → Bool) (i n : Nat) : List (List Int) := ((List.range n).filter fun (j : Nat) => Pd (i : Int) (j : Int)).map fun (j : Nat) => [d + (i : Int), d + (j : Int)]
def gridOf (d : Int) (Pd : Int → Int → Bool) (m n : Nat) : List (List Int) := (List.range n).flatMap fun (i : Nat) => rowOf d Pd i m
theorem row_next (d : Int) (Pd : Int → Int → Bool) (i n : Nat) : rowOf d Pd i (n + 1) = rowOf d Pd i n ++ (if Pd (i : Int) (n : Int) = true then [[d + (i : Int), d + (n : Int)]] else []) := by
  unfold rowOf
  rw [List.range_succ, List.filter_append, List.map_append]
  by_cases h : Pd (i : Int) (n : Int) = true <;> simp [h]
theorem grid_next (d : Int) (Pd : Int → Int → Bool) (m n : Nat) : gridOf d Pd m (n + 1) = gridOf d Pd m n ++ rowOf d Pd n m := by
  unfold gridOf
  rw [List.range_succ, List.flatMap_append]; simp
theorem row_len (d : Int) (Pd : Int → Int → Bool) (i n : Nat) : (rowOf d Pd i n).length ≤ n := by
  unfold rowOf
  rw [List.length_map]
  exact Nat.le_trans (List.length_filter_le _ _) (by rw [List.length_range]; exact Nat.le_refl _)
theorem grid_len (d : Int) (Pd : Int → Int → Bool) (m : Nat) : ∀ n, (gridOf d Pd m n).length ≤ n * m
  | 0 => by simp [gridOf]
  | n + 1 => by
    have h := grid_len d Pd m n
    have h2 := row_len d Pd n m
    rw [grid_next, List.length_append, Nat.succ_mul]; omega
theorem mem_row {d : Int} {Pd : Int → Int → Bool} {i n : Nat} {p : List Int} : p ∈ rowOf d Pd i n ↔ ∃ j : Nat, j < n ∧ Pd (i : Int) (j : Int) = true ∧ p = [d + (i : Int), d + (j : Int)] := by
  unfold rowOf
  rw [List.mem_map]
  constructor
  · rintro ⟨j, hj, e⟩
    rw [List.mem_filter, List.mem_range] at hj
    exact ⟨j, hj.1, hj.2, e.symm⟩
  · rintro ⟨j, h1, h2, e⟩
    exact ⟨j, List.mem_filter.mpr ⟨List.mem_range.mpr h1, h2⟩, e.symm⟩
theorem mem_grid {d : Int} {Pd : Int → Int → Bool} {m n : Nat} {p : List Int} : p ∈ gridOf d Pd m n ↔ ∃ i j : Nat, i < n ∧ j < m ∧ Pd (i : Int) (j : Int) = true ∧ p = [d + (i : Int), d + (j : Int)] := by
  unfold gridOf
  rw [List.mem_flatMap]
  constructor
  · rintro ⟨i, hi, hp⟩
    obtain ⟨j, h1, h2, h3⟩ := mem_row.mp hp
    exact ⟨i, j, List.mem_range.mp hi, h1, h2, h3⟩
  · rintro ⟨i, j, h1, h2, h3, h4⟩
    exact ⟨i, List.mem_range.mpr h1, mem_row.mpr ⟨j, h2, h3, h4⟩⟩
theorem grid_rise {d : Int} {Pd : Int → Int → Bool} {m n : Nat} (hd : 0 ≤ d) (hm : d + (m : Int) ≤ 64) : (gridOf d Pd m n).Pairwise fun p q => cd p < cd q := by
  unfold gridOf
  rw [List.pairwise_flatMap]
  refine ⟨fun i _ => ?_, ?_⟩
  · unfold rowOf
    rw [List.pairwise_map]
    refine List.Pairwise.imp (fun {a b} (h : a < b) => ?_) (List.Pairwise.filter _ List.pairwise_lt_range)
    rw [cd_pair, cd_pair]; omega
  · refine List.Pairwise.imp (fun {a b} (h : a < b) x hx y hy => ?_) List.pairwise_lt_range
    obtain ⟨j, h1, _, rfl⟩ := mem_row.mp hx
    obtain ⟨k, h2, _, rfl⟩ := mem_row.mp hy
    rw [cd_pair, cd_pair]; omega
theorem grid_pr {d : Int} {Pd : Int → Int → Bool} {m n : Nat} {b : Int} (hd : 0 ≤ d) (hm : d + (m : Int) ≤ b) (hn : d + (n : Int) ≤ b) : ∀ p ∈ gridOf d Pd m n, Pr b p := by
  intro p hp
  obtain ⟨i, j, h1, h2, _, rfl⟩ := mem_grid.mp hp
  exact ⟨_, _, rfl, by omega, by omega⟩
end RV
namespace K2
open PySem PySem.Spec PyProof.Rows L2 RV
def rgI (a b : Int) : List Int := (List.range (b - a).toNat).map fun (i : Nat) => a + (i : Int)
theorem rgV_rgI (a b : Int) : rgV a b = (rgI a b).map V.int := by
  unfold rgV rgI
  rw [List.map_map]; rfl
theorem rgI_len (a b : Int) : (rgI a b).length = (b - a).toNat := by unfold rgI; rw [List.length_map, List.length_range]
theorem rgI_get {a b : Int} {k : Nat} {m : Int} : (rgI a b)[k]? = some m ↔ k < (b - a).toNat ∧ m = a + (k : Int) := by
  unfold rgI
  rw [List.getElem?_map]
  by_cases h : k < (b - a).toNat
  · rw [List.getElem?_range h]
    simp [h, eq_comm]
  · rw [List.getElem?_eq_none (by rw [List.length_range]; omega)]
    simp [h]
/-! ### mirrors drawn: fs so far, ls the marks left -/
structure Half (m : Nat) (fs ls : List Int) : Prop where
  len : fs.length = m
  inn : ∀ (k : Nat) (x : Int), fs[k]? = some x → 0 ≤ x ∧ x < (m : Int)
  back : ∀ (k : Nat) (x : Int), fs[k]? = some x → fs[x.toNat]? = some (k : Int)
  nd : ls.Nodup
  lin : ∀ x ∈ ls, 0 ≤ x ∧ x < (m : Int)
  self : ∀ x ∈ ls, fs[x.toNat]? = some x
theorem half_start (m : Nat) : Half m (rgI 0 (m : Int)) (rgI 0 (m : Int)) := by
  have mem : ∀ x ∈ rgI 0 (m : Int), 0 ≤ x ∧ x < (m : Int) := fun x hx => by
    obtain ⟨k, hk, e⟩ := List.getElem_of_mem hx
    have z : (rgI 0 (m : Int))[k]? = some x := by rw [List.getElem?_eq_getElem hk, e]
    rw [rgI_get] at z; omega
  refine ⟨by rw [rgI_len]; omega, fun k x h => ?_, fun k x h => ?_, ?_, mem, fun x hx => ?_⟩
  · rw [rgI_get] at h; omega
  · rw [rgI_get] at h ⊢; omega
  · unfold rgI
    refine List.Pairwise.map _ (fun a b (h : a < b) => ?_) List.pairwise_lt_range
    omega
  · have := mem x hx
    rw [rgI_get]; omega
theorem half_drop {m : Nat} {fs ls : List Int} {x : Int} (h : Half m fs (x :: ls)) : Half m fs ls :=
  ⟨h.len, h.inn, h.back, (List.nodup_cons.mp h.nd).2, fun y hy => h.lin y (List.mem_cons_of_mem _ hy), fun y hy => h.self y (List.mem_cons_of_mem _ hy)⟩
theorem not_in_erase : ∀ {ls : List Int} {r : Nat} {z : Int}, ls.Nodup → ls[r]? = some z → z ∉ ls.eraseIdx r
  | [], _, _, _, h => by simp at h
  | a :: l, 0, z, nd, h => by
    have e : a = z := Option.some.inj h
    subst e
    exact (List.nodup_cons.mp nd).1
  | a :: l, r + 1, z, nd, h => by
    have h' : l[r]? = some z := h
    intro hz
    rcases List.mem_cons.mp (show z ∈ a :: l.eraseIdx r from hz) with e | e
    · exact (List.nodup_cons.mp nd).1 (e ▸ List.mem_of_getElem? h')
    · exact not_in_erase (List.nodup_cons.mp nd).2 h' e
theorem half_pair {m : Nat} {fs ls : List Int} {x y : Int} {r : Nat} (h : Half m fs (x :: ls)) (hy : ls[r]? = some y) : Half m ((fs.set x.toNat y).set y.toNat x) (ls.eraseIdx r) := by
  have hx := h.lin x (List.mem_cons_self ..)
  have hyl : y ∈ ls := List.mem_of_getElem? hy
  have hy1 := h.lin y (List.mem_cons_of_mem _ hyl)
  have hxy : x ≠ y := fun e => (List.nodup_cons.mp h.nd).1 (e ▸ hyl)
  have sx := h.self x (List.mem_cons_self ..)
  have sy := h.self y (List.mem_cons_of_mem _ hyl)
  have hl := h.len
  have nxy : x.toNat ≠ y.toNat := by omega
  have get : ∀ k : Nat, ((fs.set x.toNat y).set y.toNat x)[k]? = if y.toNat = k then (if k < m then some x else none) else if x.toNat = k then (if k < m then some y else none) else fs[k]? := fun k => by
    rw [List.getElem?_set, List.getElem?_set, List.length_set, hl]
    by_cases e1 : y.toNat = k
    · simp [e1]
    · by_cases e2 : x.toNat = k
      · simp [e1, e2]
      · simp [e1, e2]
  have sub : ∀ z ∈ ls.eraseIdx r, z ∈ ls := fun z hz => List.mem_of_mem_eraseIdx hz
  refine ⟨by rw [List.length_set, List.length_set]; exact hl, fun k z hz => ?_, fun k z hz => ?_, ?_, fun z hz => h.lin z (List.mem_cons_of_mem _ (sub z hz)), fun z hz => ?_⟩
  · rw [get] at hz
    split at hz
    · split at hz
      · cases hz; exact hx
      · cases hz
    · split at hz
      · split at hz
        · cases hz; exact hy1
        · cases hz
      · exact h.inn k z hz
  · rw [get] at hz
    split at hz
    · rename_i e1
      split at hz
      · cases hz
        rw [get, if_neg (by omega), if_pos rfl, if_pos (by omega)]
        congr 1; omega
      · cases hz
    · rename_i e1
      split at hz
      · rename_i e2
        split at hz
        · cases hz
          rw [get, if_pos rfl, if_pos (by omega)]
          congr 1; omega
        · cases hz
      · rename_i e2
        have b1 := h.back k z hz
        have i1 := h.inn k z hz
        have n1 : y.toNat ≠ z.toNat := fun e => by
          have : z = y := by omega
          subst this
          rw [sy] at b1
          have := Option.some.inj b1
          omega
        have n2 : x.toNat ≠ z.toNat := fun e => by
          have : z = x := by omega
          subst this
          rw [sx] at b1
          have := Option.some.inj b1
          omega
        rw [get, if_neg n1, if_neg n2]; exact b1
  · exact List.Nodup.sublist (List.eraseIdx_sublist ls r) (List.nodup_cons.mp h.nd).2
  · have hzl := sub z hz
    have z1 := h.lin z (List.mem_cons_of_mem _ hzl)
    have zx : z ≠ x := fun e => (List.nodup_cons.mp h.nd).1 (e ▸ hzl)
    have zy : z ≠ y := fun e => by
      subst e
      exact not_in_erase (List.nodup_cons.mp h.nd).2 hy hz
    rw [get, if_neg (by omega), if_neg (by omega)]
    exact h.self z (List.mem_cons_of_mem _ hzl)
theorem half_mir {m : Nat} {fs : List Int} (h : Half m fs []) (h1 : 1 ≤ m) (h8 : m ≤ 8) : Mir fs := by
  have hl := h.len
  refine ⟨by omega, by omega, fun x hx => ?_, h.back⟩
  obtain ⟨k, hk, e⟩ := List.getElem_of_mem hx
  have := h.inn k x (by rw [List.getElem?_eq_getElem hk, e])
  omega
end K2
set_option maxHeartbeats 4000000
namespace K2
open PySem PySem.Spec PyProof.Rows L2 RV
/-- a pail of numbers stands at p, t have been mixed -/
def PailAt (H : Hp) (p : Addr) (t : Nat) : Prop := ∃ x y : Int, H p = some (.lst [.int x, .int y, .int (t : Int)]) ∧ 0 ≤ x ∧ 0 ≤ y ∧ y < 2147483629
/-- all stands but what is at p -/
def But (p : Addr) (H H' : Hp) : Prop := ∀ c o, H c = some o → c ≠ p → H' c = some o
theorem But.refl (p : Addr) (H : Hp) : But p H H := fun _ _ e _ => e
theorem But.trans {p : Addr} {H H1 H2 : Hp} (a : But p H H1) (b : But p H1 H2) : But p H H2 := fun c o e z => b c o (a c o e z) z
theorem But.of {p : Addr} {H H' : Hp} (s : Same H H') : But p H H' := fun c o e _ => s c o e
section
variable {P : Program} {w : World} {K : PySem.W.Frag} {mg : Str → Option Value} {base : Heap}
/-! ### _law_pail -/
theorem scPail : FnScope ["_law_script", "_law_at", "_law_cell", "_law_own"] ["_law_script", "_law_at"] (defScope sPail) := ⟨rfl, rfl, rfl, by decide +kernel, rfl, by decide +kernel, by decide +kernel⟩
def spPail (K : PySem.W.Frag) : Sp := fun vs H Q _ => ∃ (a : Addr) (ns : List Int) (k : Nat), vs = [.ref a, .int (k : Int)] ∧ SqL K H a (ns.map V.int) ∧ k < 64 ∧ ∀ H' p, Same H H' → H p = none → PailAt H' p 0 → Q (.ref p) H'
theorem flag01 (b : Bool) : -(2 ^ 64) < (if b = true then (1 : Int) else 0) ∧ (if b = true then (1 : Int) else 0) < 2 ^ 64 := by cases b <;> decide
theorem mul_flag {x : Int} (h : 0 ≤ x) (b : Bool) : 0 ≤ x * (if b = true then (1 : Int) else 0) := by
  cases b
  · show 0 ≤ x * 0
    rw [Int.mul_zero]; exact Int.le_refl _
  · show 0 ≤ x * 1
    rw [Int.mul_one]; exact h
theorem pow60 : ((10 : Int) ^ (60 : Int).toNat).natAbs < 2 ^ 200 := by decide +kernel
theorem pow120 : ((10 : Int) ^ (60 : Int).toNat * (10 : Int) ^ (60 : Int).toNat).natAbs < 2 ^ 400 := by decide +kernel
theorem pow180 : (0 : Int) < (10 : Int) ^ (60 : Int).toNat * (10 : Int) ^ (60 : Int).toNat * (10 : Int) ^ (60 : Int).toNat := by decide +kernel
theorem ok_pail {f : Addr} {fd : FuncData} (F : Fun K "_law_pail" "_law_pail" sPail f fd) (B : Bare mg) : FnOk P w K mg base CX0 1 f fd ["_law_script", "_law_at"] (spPail K) := by
  refine F.ok scPail (fun vs H Q E h => ?_) (fun cdv A outer s H vs Q E hr h => ?_)
  · obtain ⟨a, ns, k, rfl, _⟩ := h
    rfl
  · obtain ⟨a, ns, k, rfl, hS, hk, q⟩ := h
    refine ⟨_, pss_cons (ps_set (i := 2) scPail.nd rfl (Or.inl rfl) (pe_ifExp (pt_cmpR op_lt (pv 1) (pe_callB call_len_seq (by rfl) B.len PySem.boot_len (pa_cons (pv 0) pa_nil)) (nomark _)) (pe_ix ix_list (pv 0) (pv 1) (fun _ _ => rfl)) (pe_op op_add (pe_op op_mul pe_int (pv 1)) pe_int)))
      (pss_cons (ps_set (i := 3) scPail.nd rfl (Or.inl rfl) (pe_op op_mod (pe_callB call_abs (by rfl) B.abs (by decide +kernel) (pa_cons (pv 2) pa_nil)) (pe_op op_mulW (pe_op op_mulW (pe_op op_pow pe_int pe_int) (pe_op op_pow pe_int pe_int)) (pe_op op_pow pe_int pe_int))))
      (pss_one (ps_ret (pe_lst (pa_cons (pe_op op_mul (pv 3) (pe_callTy call_int1 (by rfl) B.int boot_int (pa_cons (pe_cmpR op_ge (pe_callB call_abs (by rfl) B.abs (by decide +kernel) (pa_cons (pv 2) pa_nil)) (pe_op op_pow pe_int pe_int) (nomark _)) pa_nil)))
        (pa_cons (pe_op op_mod (pe_op op_mul (pe_op op_add (pe_op op_add (pe_op op_mod (pv 2) pe_int) (pe_op op_mul pe_int (pv 1))) pe_int) pe_int) pe_int) (pa_cons pe_int pa_nil))))))), ?_⟩
    refine ⟨.int (k : Int), rfl, .ref a, rfl, a, _, rfl, .inl hS, (k : Int), _, rfl, rfl, _, rfl, ?_⟩
    refine ite2 (fun hlt => ?_) (fun _ => ?_)
    · have hkl : k < ns.length := by
        have z := of_decide_eq_true hlt
        rw [List.length_map] at z; omega
      refine ⟨.ref a, rfl, .int (k : Int), rfl, a, _, (k : Int), .int ns[k], rfl, rfl, hS, atI_nat (by rw [List.getElem?_map, List.getElem?_eq_getElem hkl]; rfl), ?_⟩
      refine ⟨_, rfl, ns[k], rfl, 10, 60, rfl, rfl, ⟨by decide, by decide, by decide⟩, 10, 60, rfl, rfl, ⟨by decide, by decide, by decide⟩, _, _, rfl, rfl, wide_mul pow60 pow60 (by decide) (by decide) (by decide), 10, 60, rfl, rfl, ⟨by decide, by decide, by decide⟩, _, _, rfl, rfl, wide_mul pow120 pow60 (by decide) (by decide) (by decide), _, _, rfl, rfl, pow180, ?_⟩
      have own0 := Int.emod_nonneg (if ns[k] < 0 then -ns[k] else ns[k]) (Int.ne_of_gt pow180)
      refine ⟨_, rfl, _, rfl, ns[k], rfl, 10, 18, rfl, rfl, ⟨by decide, by decide, by decide⟩, _, _, rfl, rfl, .inr ⟨_, rfl, _, _, rfl, rfl, .inr ?_, _, rfl, ns[k], 2305843009213693951, rfl, rfl, (show (0 : Int) < 2305843009213693951 by decide), .int (k : Int), rfl, 7877, (k : Int), rfl, rfl, .inl ⟨by decide, by decide⟩, _, _, rfl, rfl, _, 29, rfl, rfl, _, 39373, rfl, rfl, .inr ⟨by decide, by decide⟩, _, 2147483629, rfl, rfl, (show (0 : Int) < 2147483629 by decide), ?_, fun p np => ?_⟩⟩
      · exact flag01 _
      · show 3 ≤ sizeLine; decide
      · refine q _ p (same_upd np) np ⟨_, _, upd_same, ?_, Int.emod_nonneg _ (by decide), Int.emod_lt_of_pos _ (by decide)⟩
        exact mul_flag own0 _
    · refine ⟨.int (k : Int), rfl, 11, (k : Int), rfl, rfl, .inl ⟨by decide, by decide⟩, _, 5, rfl, rfl, ?_⟩
      refine ⟨_, rfl, (11 * (k : Int) + 5), rfl, 10, 60, rfl, rfl, ⟨by decide, by decide, by decide⟩, 10, 60, rfl, rfl, ⟨by decide, by decide, by decide⟩, _, _, rfl, rfl, wide_mul pow60 pow60 (by decide) (by decide) (by decide), 10, 60, rfl, rfl, ⟨by decide, by decide, by decide⟩, _, _, rfl, rfl, wide_mul pow120 pow60 (by decide) (by decide) (by decide), _, _, rfl, rfl, pow180, ?_⟩
      have own0 := Int.emod_nonneg (if (11 * (k : Int) + 5) < 0 then -(11 * (k : Int) + 5) else (11 * (k : Int) + 5)) (Int.ne_of_gt pow180)
      refine ⟨_, rfl, _, rfl, (11 * (k : Int) + 5), rfl, 10, 18, rfl, rfl, ⟨by decide, by decide, by decide⟩, _, _, rfl, rfl, .inr ⟨_, rfl, _, _, rfl, rfl, .inr ?_, _, rfl, (11 * (k : Int) + 5), 2305843009213693951, rfl, rfl, (show (0 : Int) < 2305843009213693951 by decide), .int (k : Int), rfl, 7877, (k : Int), rfl, rfl, .inl ⟨by decide, by decide⟩, _, _, rfl, rfl, _, 29, rfl, rfl, _, 39373, rfl, rfl, .inr ⟨by decide, by decide⟩, _, 2147483629, rfl, rfl, (show (0 : Int) < 2147483629 by decide), ?_, fun p np => ?_⟩⟩
      · exact flag01 _
      · show 3 ≤ sizeLine; decide
      · refine q _ p (same_upd np) np ⟨_, _, upd_same, ?_, Int.emod_nonneg _ (by decide), Int.emod_lt_of_pos _ (by decide)⟩
        exact mul_flag own0 _
end
end K2
set_option maxHeartbeats 4000000
namespace K2
open PySem PySem.Spec PyProof.Rows L2 RV
section
variable {P : Program} {w : World} {K : PySem.W.Frag} {mg : Str → Option Value} {base : Heap}
/-! ### _law_draw -/
theorem scDraw : FnScope ["_law_pail_here", "_law_many", "_law_told", "_law_turn", "_law_prime", "_law_mixed"] ["_law_pail_here", "_law_many"] (defScope sDraw) := ⟨rfl, rfl, rfl, by decide +kernel, rfl, by decide +kernel, by decide +kernel⟩
def spDraw : Sp := fun vs H Q _ => ∃ (p : Addr) (t : Nat) (m : Int), vs = [.ref p, .int m] ∧ PailAt H p t ∧ t ≤ 2000 ∧ 1 ≤ m ∧ m ≤ 1000000 ∧
  ∀ (r : Int) (t' : Nat) (H' : Hp), 0 ≤ r → r < m → t' ≤ t + 1 → PailAt H' p t' → But p H H' → Q (.int r) H'
theorem primes_at (t : Int) (h : 0 ≤ t) : ∃ v : Int, atI [V.int 2147483587, V.int 2147483579, V.int 2147483563, V.int 2147483549, V.int 2147483543] (t % 5) = some (.int v) ∧ 0 < v ∧ v < 2147483648 := by
  have h5 : t % 5 = 0 ∨ t % 5 = 1 ∨ t % 5 = 2 ∨ t % 5 = 3 ∨ t % 5 = 4 := by omega
  rcases h5 with e | e | e | e | e <;> rw [e] <;> exact ⟨_, rfl, by decide, by decide⟩
theorem ix3 (j : Nat) (h : j < 3) : ixN 3 (j : Int) = some j := by
  rcases (show j = 0 ∨ j = 1 ∨ j = 2 by omega) with e | e | e <;> subst e <;> rfl
theorem ok_draw {f : Addr} {fd : FuncData} (F : Fun K "_law_draw" "_law_draw" sDraw f fd) : FnOk P w K mg base CX0 1 f fd ["_law_pail_here", "_law_many"] spDraw := by
  refine F.ok scDraw (fun vs H Q E h => ?_) (fun cdv A outer s H vs Q E hr h => ?_)
  · obtain ⟨p, t, m, rfl, _⟩ := h
    rfl
  · obtain ⟨p, t, m, rfl, ⟨x, y, hp, hx, hy0, hy1⟩, ht, hm1, hm2, q⟩ := h
    refine ⟨_, pss_cons (ps_if (pt_cmpR op_gt (pe_ix ix_list (pv 0) pe_int (fun _ _ => rfl)) pe_int (nomark _))
        (pss_cons (ps_set (i := 2) scDraw.nd rfl (Or.inl rfl) (pe_op op_mod (pe_ix ix_list (pv 0) pe_int (fun _ _ => rfl)) (pv 1)))
        (pss_cons (ps_asg (pe_op op_fdiv (pe_ix ix_list (pv 0) pe_int (fun _ _ => rfl)) (pv 1)) (pg_sub (pv 0) pe_int set_list))
        (pss_one (ps_ret (pv 2))))) pss_nil)
      (pss_cons (ps_asg (pe_op op_add (pe_ix ix_list (pv 0) pe_int (fun _ _ => rfl)) pe_int) (pg_sub (pv 0) pe_int set_list))
      (pss_cons (ps_set (i := 3) scDraw.nd rfl (Or.inl rfl) (pe_ix ix_list (pv 0) pe_int (fun _ _ => rfl)))
      (pss_cons (ps_set (i := 4) scDraw.nd rfl (Or.inl rfl) (pe_ix ix_list (pe_lst (pa_cons pe_int (pa_cons pe_int (pa_cons pe_int (pa_cons pe_int (pa_cons pe_int pa_nil)))))) (pe_op op_mod (pv 3) pe_int) (fun _ _ => rfl)))
      (pss_cons (ps_set (i := 5) scDraw.nd rfl (Or.inl rfl) (pe_op op_mod (pe_op op_pow (pe_op op_add (pe_op op_add (pe_ix ix_list (pv 0) pe_int (fun _ _ => rfl)) (pe_op op_mul (pe_op op_mul pe_int (pv 3)) (pv 3))) (pe_op op_mul pe_int (pv 3))) pe_int) (pv 4)))
      (pss_one (ps_ret (pe_op op_mod (pe_op op_fdiv (pe_op op_mod (pe_op op_mul (pv 5) (pe_op op_add (pe_op op_add (pe_op op_mod (pv 5) pe_int) (pv 3)) pe_int)) (pv 4)) pe_int) (pv 1)))))))), ?_⟩
    refine ⟨.ref p, rfl, p, _, 0, .int x, rfl, rfl, lstNew hp, rfl, x, 0, rfl, rfl, _, rfl, ite2 (fun hx0 => ?_) (fun _ => ?_)⟩
    · refine ⟨.ref p, rfl, p, _, 0, .int x, rfl, rfl, lstNew hp, rfl, .int m, rfl, x, m, rfl, rfl, (show 0 < m by omega), ?_⟩
      refine ⟨.ref p, rfl, p, _, 0, .int x, rfl, rfl, lstNew hp, rfl, .int m, rfl, x, m, rfl, rfl, ⟨by omega, by omega⟩, .ref p, rfl, p, _, 0, 0, rfl, rfl, hp, rfl, ?_⟩
      refine ⟨_, rfl, ?_⟩
      exact q (x % m) t _ (Int.emod_nonneg _ (by omega)) (Int.emod_lt_of_pos _ (by omega)) (by omega) ⟨x / m, y, upd_same, Int.ediv_nonneg hx (by omega), hy0, hy1⟩ fun c o e z => by rw [upd_ne z]; exact e
    · refine ⟨.ref p, rfl, p, _, 2, .int (t : Int), rfl, rfl, lstNew hp, rfl, (t : Int), 1, rfl, rfl, .ref p, rfl, p, _, 2, 2, rfl, rfl, hp, rfl, ?_⟩
      have hp1 : (upd H p (.lst [.int x, .int y, .int ((t : Int) + 1)])) p = some (.lst [.int x, .int y, .int ((t : Int) + 1)]) := upd_same
      have b1 : But p H (upd H p (.lst [.int x, .int y, .int ((t : Int) + 1)])) := fun c o e z => by rw [upd_ne z]; exact e
      refine ⟨.ref p, rfl, p, _, 2, .int ((t : Int) + 1), rfl, rfl, lstNew upd_same, rfl, ?_⟩
      obtain ⟨v, hv, v0, v1⟩ := primes_at ((t : Int) + 1) (by omega)
      refine ⟨(by show 5 ≤ sizeLine; decide), fun l nl => ⟨.int ((t : Int) + 1), rfl, (t : Int) + 1, 5, rfl, rfl, (show (0 : Int) < 5 by decide), l, _, _, .int v, rfl, rfl, lstNew upd_same, hv, ?_⟩⟩
      have s2 := same_upd (H := upd H p (.lst [.int x, .int y, .int ((t : Int) + 1)])) (o := .lst [.int 2147483587, .int 2147483579, .int 2147483563, .int 2147483549, .int 2147483543]) nl
      have hp2 := s2 _ _ hp1
      have tt : 0 ≤ ((t : Int) + 1) ∧ ((t : Int) + 1) ≤ 2001 := by omega
      have sq : 6151 * ((t : Int) + 1) * ((t : Int) + 1) ≤ 6151 * 2001 * 2001 := by
        have h1 : 6151 * ((t : Int) + 1) ≤ 6151 * 2001 := by omega
        exact Int.mul_le_mul h1 tt.2 tt.1 (by decide)
      have sq0 : 0 ≤ 6151 * ((t : Int) + 1) * ((t : Int) + 1) := Int.mul_nonneg (by omega) tt.1
      refine ⟨.ref p, rfl, p, _, 1, .int y, rfl, rfl, lstNew hp2, rfl, .int ((t : Int) + 1), rfl, 6151, _, rfl, rfl, .inl ⟨by decide, by decide⟩, .int ((t : Int) + 1), rfl, _, _, rfl, rfl, .inl ⟨by omega, by omega⟩, y, _, rfl, rfl, .int ((t : Int) + 1), rfl, 17, _, rfl, rfl, .inl ⟨by decide, by decide⟩, _, _, rfl, rfl, _, 3, rfl, rfl, ⟨by decide, by decide, ?_⟩, .int v, rfl, _, v, rfl, rfl, v0, ?_⟩
      · show (y + 6151 * ((t : Int) + 1) * ((t : Int) + 1) + 17 * ((t : Int) + 1)).natAbs < 2 ^ 64
        omega
      have z0 := Int.emod_nonneg ((y + 6151 * ((t : Int) + 1) * ((t : Int) + 1) + 17 * ((t : Int) + 1)) ^ (3 : Int).toNat) (show v ≠ 0 by omega)
      have z1 := Int.emod_lt_of_pos ((y + 6151 * ((t : Int) + 1) * ((t : Int) + 1) + 17 * ((t : Int) + 1)) ^ (3 : Int).toNat) v0
      refine ⟨_, rfl, _, rfl, _, 1009, rfl, rfl, (show (0 : Int) < 1009 by decide), .int ((t : Int) + 1), rfl, _, _, rfl, rfl, _, 1, rfl, rfl, _, _, rfl, rfl, .inl ?_, .int v, rfl, _, v, rfl, rfl, v0, _, 19, rfl, rfl, ⟨by decide, by decide⟩, .int m, rfl, _, m, rfl, rfl, (show 0 < m by omega), ?_⟩
      · exact ⟨by omega, by omega⟩
      · exact q _ (t + 1) _ (Int.emod_nonneg _ (by omega)) (Int.emod_lt_of_pos _ (by omega)) (Nat.le_refl _) ⟨x, y, hp2, hx, hy0, hy1⟩ (b1.trans (But.of s2))
end
end K2
set_option maxHeartbeats 4000000
namespace K2
open PySem PySem.Spec PyProof.Rows L2 RV
/-! ### what a draw leaves -/
theorem sqT_pail {K : PySem.W.Frag} {H H' : Hp} {p : Addr} {t : Nat} (hp : PailAt H p t) (b : But p H H') {a : Addr} {xs : List V} (h : SqT K H a xs) : SqT K H' a xs := by
  obtain ⟨x, y, e, _⟩ := hp
  rcases h with (h | ⟨o, h⟩) | h
  · exact .inl (.inl (b _ _ h fun z => by rw [z, e] at h; cases h))
  · exact .inl (.inr ⟨o, b _ _ h fun z => by rw [z, e] at h; cases h⟩)
  · exact .inr h
theorem sqL_but {K : PySem.W.Frag} {H H' : Hp} {p a : Addr} (b : But p H H') (n : a ≠ p) {xs : List V} (h : SqL K H a xs) : SqL K H' a xs := by
  rcases h with (h | ⟨o, h⟩) | h
  · exact .inl (.inl (b _ _ h n))
  · exact .inl (.inr ⟨o, b _ _ h n⟩)
  · exact .inr h
theorem tups_pail {K : PySem.W.Frag} {H H' : Hp} {p : Addr} {t : Nat} (hp : PailAt H p t) (b : But p H H') {a : Addr} {ps : List (List Int)} (h : Tups K H a ps) : Tups K H' a ps := by
  obtain ⟨ks, h1, h2, h3⟩ := h
  exact ⟨ks, h1, sqT_pail hp b h2, fun q hq => sqT_pail hp b (h3 q hq)⟩
theorem same_but {p : Addr} {H H1 H2 : Hp} (s : Same H H1) (n : H p = none) (b : But p H1 H2) : Same H H2 := fun c o e => b c o (s c o e) (ne_of_none e n)
theorem pail_same {p : Addr} {H H' : Hp} {t : Nat} (h : PailAt H p t) (s : Same H H') : PailAt H' p t := by
  obtain ⟨x, y, e, r⟩ := h
  exact ⟨x, y, s _ _ e, r⟩
theorem pail_new {p a : Addr} {H : Hp} {o : HO} {t : Nat} (h : PailAt H p t) (n : H a = none) : PailAt (upd H a o) p t := pail_same h (same_upd n)
theorem pail_set {p l : Addr} {H : Hp} {o : HO} {t : Nat} (h : PailAt H p t) (n : l ≠ p) : PailAt (upd H l o) p t := by
  obtain ⟨x, y, e, r⟩ := h
  exact ⟨x, y, by rw [upd_ne n.symm]; exact e, r⟩
theorem pail_ne {p a : Addr} {H : Hp} {t : Nat} (h : PailAt H p t) (n : H a = none) : a ≠ p := by
  obtain ⟨x, y, e, r⟩ := h
  exact (ne_of_none e n).symm
section
variable {P : Program} {w : World} {K : PySem.W.Frag} {mg : Str → Option Value} {base : Heap}
/-! ### _law_of -/
theorem scOf : FnScope ["_law_pail_here", "_law_some"] ["_law_pail_here", "_law_some"] (defScope sOf) := ⟨rfl, rfl, rfl, by decide +kernel, rfl, by decide +kernel, by decide +kernel⟩
def spOf (K : PySem.W.Frag) : Sp := fun vs H Q _ => ∃ (p a : Addr) (t : Nat) (xs : List V), vs = [.ref p, .ref a] ∧ PailAt H p t ∧ t ≤ 2000 ∧ SqL K H a xs ∧ a ≠ p ∧ 0 < xs.length ∧ xs.length ≤ 1000 ∧
  ∀ (j : Nat) (v : V) (t' : Nat) (H' : Hp), xs[j]? = some v → t' ≤ t + 1 → PailAt H' p t' → But p H H' → Q v H'
theorem ok_of {f fD : Addr} {fd fdD : FuncData} (F : Fun K "_law_of" "_law_of" sOf f fd) (DD : DefAt K mg "_law_draw" sDraw ["_law_pail_here", "_law_many"] fD fdD) (B : Bare mg) : FnOk P w K mg base CX0 2 f fd ["_law_pail_here", "_law_some"] (spOf K) := by
  have GD : FnOk P w K mg base CX0 1 fD fdD ["_law_pail_here", "_law_many"] spDraw := ok_draw DD.fn
  refine F.ok scOf (fun vs H Q E h => ?_) (fun cdv A outer s H vs Q E hr h => ?_)
  · obtain ⟨p, a, t, xs, rfl, _⟩ := h
    rfl
  · obtain ⟨p, a, t, xs, rfl, hp, ht, hS, hne, h0, h1, q⟩ := h
    refine ⟨_, pss_one (ps_ret (pe_ix ix_list (pv 1) (pe_call GD hr (by rfl) DD.mg DD.fn.kp DD.bi .nil pass0 (pa_cons (pv 0) (pa_cons (pe_callB call_len_seq (by rfl) B.len PySem.boot_len (pa_cons (pv 1) pa_nil)) pa_nil))) (fun _ _ => rfl))), ?_⟩
    refine ⟨.ref a, rfl, .ref p, rfl, .ref a, rfl, a, xs, rfl, .inl hS, p, t, (xs.length : Int), rfl, hp, ht, by omega, by omega, fun r t1 H1 r0 r1 ht1 hp1 b1 => ?_⟩
    obtain ⟨v, hv⟩ : ∃ v, xs[r.toNat]? = some v := ⟨_, List.getElem?_eq_getElem (by omega)⟩
    refine ⟨a, xs, r, v, rfl, rfl, sqL_but b1 hne hS, ?_, q r.toNat v t1 H1 hv ht1 hp1 b1⟩
    rw [show r = ((r.toNat : Nat) : Int) by omega]
    exact atI_nat hv
theorem erase_map {α β : Type} (f : α → β) : ∀ (l : List α) (i : Nat), (l.map f).eraseIdx i = (l.eraseIdx i).map f
  | [], _ => rfl
  | a :: l, 0 => rfl
  | a :: l, i + 1 => by
    show f a :: (l.map f).eraseIdx i = f a :: (l.eraseIdx i).map f
    rw [erase_map f l i]
theorem ix_at {n : Nat} {i : Int} (h1 : i < (n : Int)) (h0 : 0 ≤ i) : ixN n i = some i.toNat := by
  unfold ixN
  rw [if_pos h0, if_pos h1]
/-! ### _law_mirrors -/
theorem scDMirrors : FnScope ["_law_pail_here", "_law_many", "_law_left", "_law_found_here", "_law_mark", "_law_other"] ["_law_pail_here", "_law_many"] (defScope sDMirrors) := ⟨rfl, rfl, rfl, by decide +kernel, rfl, by decide +kernel, by decide +kernel⟩
def spDMirrors (K : PySem.W.Frag) : Sp := fun vs H Q _ => ∃ (p : Addr) (t m : Nat), vs = [.ref p, .int (m : Int)] ∧ PailAt H p t ∧ t ≤ 1500 ∧ 1 ≤ m ∧ m ≤ 8 ∧
  ∀ (H' : Hp) (u : Addr) (t' : Nat) (ns : List Int), PailAt H' p t' → t' ≤ t + 20 → But p H H' → SqT K H' u (ns.map V.int) → Mir ns → Q (.ref u) H'
def lenAt (H : Hp) (a : Addr) : Nat := match H a with
  | some (.lst xs) => xs.length
  | _ => 0
theorem lenAt_eq {H : Hp} {a : Addr} {xs : List V} (h : H a = some (.lst xs)) : lenAt H a = xs.length := by unfold lenAt; rw [h]
theorem shapedL (ns : List Int) : SeqAt.shaped (.list (ns.map PyData.int)) = true := by
  have h1 : (PyData.list (ns.map PyData.int)).canLay0 = true := by simp only [PyData.canLay0]; exact lay_ints ns
  have h2 : (PyData.list (ns.map PyData.int)).depth ≤ 64 := by simp only [PyData.depth, dep_ints]; omega
  show ((PyData.list (ns.map PyData.int)).canLay0 && decide ((PyData.list (ns.map PyData.int)).depth ≤ 64)) = true
  rw [h1, decide_eq_true h2]; rfl
theorem eqvL (ns ms : List Int) : PyData.eqv (.list (ns.map PyData.int)) (.list (ms.map PyData.int)) = decide (ns = ms) := by simp only [PyData.eqv, eqv_ints]
theorem ok_dmirrors {f fD : Addr} {fd fdD : FuncData} (F : Fun K "_law_mirrors" "_law_mirrors" sDMirrors f fd) (DD : DefAt K mg "_law_draw" sDraw ["_law_pail_here", "_law_many"] fD fdD) (B : Bare mg) : FnOk P w K mg base CX0 2 f fd ["_law_pail_here", "_law_many"] (spDMirrors K) := by
  have GD : FnOk P w K mg base CX0 1 fD fdD ["_law_pail_here", "_law_many"] spDraw := ok_draw DD.fn
  refine F.ok scDMirrors (fun vs H Q E h => ?_) (fun cdv A outer s H vs Q E hr h => ?_)
  · obtain ⟨p, t, m, rfl, _⟩ := h
    rfl
  · obtain ⟨p, t, m, rfl, hp, ht, m1, m8, q⟩ := h
    refine ⟨_, pss_cons (ps_par (i := 2) (j := 3) (by rfl) scDMirrors.nd rfl rfl (by decide) rfl rfl (pa_cons (pe_listRg rfl (by rfl) B.list (prg_1 (by rfl) B.range (pv 1))) (pa_cons (pe_listRg rfl (by rfl) B.list (prg_1 (by rfl) B.range (pv 1))) pa_nil)) (by rfl))
      (pss_cons (ps_while PassesOwn.never (pt_cmpR (op_neD hr.units) (pv 2) (pe_lst pa_nil) (nomark _))
        (pss_cons (ps_set (i := 4) scDMirrors.nd rfl (Or.inl rfl) (pe_bm PySem.F.plainAttrs_list PySem.F.slot_list_pop PySem.F.type_list_pop mt_popAt (pv 2) (pa_cons pe_int pa_nil)))
        (pss_one (ps_if (PW.pt (pw_and (pt_cmpR (op_neD hr.units) (pv 2) (pe_lst pa_nil) (nomark _)) (pw_and1 (pt_cmpR op_eq (pe_call GD hr (by rfl) DD.mg DD.fn.kp DD.bi .nil pass0 (pa_cons (pv 0) (pa_cons pe_int pa_nil))) pe_int (nomark _)))))
          (pss_cons (ps_set (i := 5) scDMirrors.nd rfl (Or.inl rfl) (pe_bm PySem.F.plainAttrs_list PySem.F.slot_list_pop PySem.F.type_list_pop mt_popAt (pv 2) (pa_cons (pe_call GD hr (by rfl) DD.mg DD.fn.kp DD.bi .nil pass0 (pa_cons (pv 0) (pa_cons (pe_callB call_len_seq (by rfl) B.len PySem.boot_len (pa_cons (pv 2) pa_nil)) pa_nil))) pa_nil)))
          (pss_cons (ps_asg (pv 5) (pg_sub (pv 3) (pv 4) set_list))
          (pss_one (ps_asg (pv 4) (pg_sub (pv 3) (pv 5) set_list))))) pss_nil))))
      (pss_one (ps_ret (pe_tupleOf (by rfl) B.tuple (pv 3))))), ?_⟩
    refine ⟨.int (m : Int), rfl, (m : Int), rfl, RgOk.of_le (by omega) (by omega) (by omega) (by omega), fun a na => ?_⟩
    refine ⟨.int (m : Int), rfl, (m : Int), rfl, RgOk.of_le (by omega) (by omega) (by omega) (by omega), fun b nb => ⟨.ref a, .ref b, rfl, ?_⟩⟩
    have hab : a ≠ b := ne_of_none upd_same nb
    have hap : a ≠ p := pail_ne hp na
    have hbp : b ≠ p := pail_ne (pail_new hp na) nb
    have nbH : H b = none := (same_upd na).free nb
    have s0 := (same_upd (o := .lst (rgV 0 (m : Int))) na).trans (same_upd (o := .lst (rgV 0 (m : Int))) nb)
    refine while_by (fun σ H' => ∃ (y4 y5 : Option V) (t' : Nat) (fs ls : List Int), σ = [some (.ref p), some (.int (m : Int)), some (.ref a), some (.ref b), y4, y5] ∧ But p H H' ∧ PailAt H' p t' ∧ t' + 2 * ls.length ≤ t + 16 ∧ H' a = some (.lst (ls.map V.int)) ∧ H' b = some (.lst (fs.map V.int)) ∧ Half m fs ls)
      (fun σ H' => lenAt H' a) ?_ ?_ ?_
    · refine ⟨none, none, t, rgI 0 (m : Int), rgI 0 (m : Int), rfl, But.of s0, pail_same hp s0, by rw [rgI_len]; omega, ?_, ?_, half_start m⟩
      · rw [upd_ne hab, upd_same, rgV_rgI]
      · rw [upd_same, rgV_rgI]
    · rintro σ H1 ⟨y4, y5, t1, fs, ls, rfl, b1, hp1, ht1, ea, eb, hh⟩
      refine ⟨.ref a, rfl, Nat.zero_le _, fun c nc => ?_⟩
      have sc := same_upd (o := .lst []) nc
      have ea2 := sc _ _ ea
      have eb2 := sc _ _ eb
      have hp2 := pail_same hp1 sc
      have b2 := b1.trans (But.of (p := p) sc)
      have ec : (upd H1 c (.lst [])) c = some (.lst []) := upd_same
      refine ⟨.list (ls.map PyData.int), .list (([] : List Int).map PyData.int), .lst (lstNew ea2) (dpInts ls), .lst (lstNew ec) .nil, shapedL ls, shapedL [], _, rfl, ?_⟩
      rw [eqvL]
      have lt1 : lenAt H1 a = ls.length := by rw [lenAt_eq ea, List.length_map]
      generalize upd H1 c (.lst []) = H2 at ea2 eb2 hp2 b2 ⊢
      clear ea eb sc nc ec
      cases ls with
      | nil =>
        rw [decide_eq_true rfl]
        refine iteF ?_
        refine ⟨.ref b, rfl, .inl ⟨b, _, rfl, lstNew eb2, fun u nu => ?_⟩⟩
        exact q _ u t1 fs (pail_new hp2 nu) (by omega) (b2.trans (But.of (same_upd nu))) (tupNew upd_same) (half_mir hh m1 m8)
      | cons x l =>
        rw [decide_eq_false (by simp)]
        refine iteT ?_
        -- mark = left.pop(0)
        refine ⟨.ref a, rfl, .inl ⟨rfl, _, lstNew ea2⟩, a, _, 0, 0, .int x, rfl, rfl, ea2, by decide, by decide, by simp [seqIndex?], rfl, ?_⟩
        have ea3 : (upd H2 a (.lst (((x :: l).map V.int).eraseIdx 0))) a = some (.lst (l.map V.int)) := upd_same
        have eb3 : (upd H2 a (.lst (((x :: l).map V.int).eraseIdx 0))) b = some (.lst (fs.map V.int)) := by rw [upd_ne hab.symm]; exact eb2
        have hp3 := pail_set (o := .lst (((x :: l).map V.int).eraseIdx 0)) hp2 hap
        have b3 : But p H (upd H2 a (.lst (((x :: l).map V.int).eraseIdx 0))) := fun k o e z => by rw [upd_ne (ne_of_none e na)]; exact b2 k o e z
        generalize upd H2 a (.lst (((x :: l).map V.int).eraseIdx 0)) = H3 at ea3 eb3 hp3 b3 ⊢
        -- left != []
        refine ⟨.ref a, rfl, Nat.zero_le _, fun c2 nc2 => ?_⟩
        have sc2 := same_upd (o := .lst []) nc2
        have ea4 := sc2 _ _ ea3
        have eb4 := sc2 _ _ eb3
        have hp4 := pail_same hp3 sc2
        have b4 := b3.trans (But.of (p := p) sc2)
        have ec2 : (upd H3 c2 (.lst [])) c2 = some (.lst []) := upd_same
        refine ⟨.list (l.map PyData.int), .list (([] : List Int).map PyData.int), .lst (lstNew ea4) (dpInts l), .lst (lstNew ec2) .nil, shapedL l, shapedL [], _, rfl, ?_⟩
        rw [eqvL]
        generalize upd H3 c2 (.lst []) = H4 at ea4 eb4 hp4 b4 ⊢
        clear ea3 eb3 hp3 b3 sc2 nc2 ec2 ea2 eb2 hp2 b2 b1 hp1
        rw [List.length_cons] at lt1 ht1
        have hxl := hh.lin x (List.mem_cons_self ..)
        cases l with
        | nil =>
          rw [decide_eq_true rfl]
          refine iteF (iteF ?_)
          refine ⟨⟨_, _, t1, fs, [], rfl, b4, hp4, by simp only [List.length_nil]; omega, ea4, eb4, half_drop hh⟩, ?_⟩
          rw [lenAt_eq ea4, lt1]; simp
        | cons y0 l =>
          rw [decide_eq_false (by simp)]
          refine iteT ?_
          rw [List.length_cons] at lt1 ht1
          have hl8 : (y0 :: l).length ≤ 8 := by
            have := nodup_le (us := rgI 0 (m : Int)) (half_drop hh).nd fun z hz => by
              have h1 := (half_drop hh).lin z hz
              exact List.mem_of_getElem? (i := z.toNat) (rgI_get.mpr ⟨by omega, by omega⟩)
            rw [rgI_len] at this; omega
          rw [List.length_cons] at hl8
          refine ⟨.ref p, rfl, p, t1, 2, rfl, hp4, by omega, by decide, by decide, fun r t5 H5 r0 r1 ht5 hp5 b5 => ⟨rfl, _, rfl, ite2 (fun _ => ?_) (fun _ => ?_)⟩⟩
          · have ea5 := b5 _ _ ea4 hap
            have eb5 := b5 _ _ eb4 hbp
            refine ⟨.ref a, rfl, .inl ⟨rfl, _, lstNew ea5⟩, .ref p, rfl, .ref a, rfl, a, _, rfl, .inl (lstNew ea5), p, t5, _, rfl, hp5, by omega, by simp; omega, by simp; omega, fun r2 t6 H6 r20 r21 ht6 hp6 b6 => ?_⟩
            have ea6 := b6 _ _ ea5 hap
            have eb6 := b6 _ _ eb5 hbp
            rw [List.length_map, List.length_cons] at r21
            obtain ⟨y, hy⟩ : ∃ y, (y0 :: l)[r2.toNat]? = some y := ⟨_, List.getElem?_eq_getElem (by rw [List.length_cons]; omega)⟩
            refine ⟨a, _, r2, r2.toNat, .int y, rfl, rfl, ea6, by omega, by omega, ?_, by rw [List.getElem?_map, hy]; rfl, ?_⟩
            · rw [List.length_map]
              unfold seqIndex?
              simp only [if_neg (show ¬ r2 < 0 by omega)]
              rw [if_pos]
              simp only [Bool.and_eq_true, decide_eq_true_eq]
              exact ⟨r20, by rw [List.length_cons]; omega⟩
            have hyl := (half_drop hh).lin y (List.mem_of_getElem? hy)
            have hfl := hh.len
            have b06 : But p H H6 := (b4.trans b5).trans b6
            have ea7 : (upd H6 a (.lst (((y0 :: l).map V.int).eraseIdx r2.toNat))) a = some (.lst (((y0 :: l).eraseIdx r2.toNat).map V.int)) := by rw [upd_same, erase_map]
            have eb7 : (upd H6 a (.lst (((y0 :: l).map V.int).eraseIdx r2.toNat))) b = some (.lst (fs.map V.int)) := by rw [upd_ne hab.symm]; exact eb6
            have hp7 := pail_set (o := .lst (((y0 :: l).map V.int).eraseIdx r2.toNat)) hp6 hap
            have b7 : But p H (upd H6 a (.lst (((y0 :: l).map V.int).eraseIdx r2.toNat))) := fun k o e z => by rw [upd_ne (ne_of_none e na)]; exact b06 k o e z
            generalize upd H6 a (.lst (((y0 :: l).map V.int).eraseIdx r2.toNat)) = H7 at ea7 eb7 hp7 b7 ⊢
            -- found[mark] = other; found[other] = mark
            refine ⟨.int y, rfl, .ref b, rfl, .int x, rfl, b, _, x, x.toNat, rfl, rfl, eb7, ix_at (by rw [List.length_map]; omega) hxl.1, ?_⟩
            refine ⟨.int x, rfl, .ref b, rfl, .int y, rfl, b, _, y, y.toNat, rfl, rfl, upd_same, ix_at (by rw [List.length_set, List.length_map]; omega) hyl.1, ?_⟩
            have hlen : ((y0 :: l).eraseIdx r2.toNat).length = l.length := by rw [List.length_eraseIdx_of_lt (by rw [List.length_cons]; omega)]; rfl
            refine ⟨⟨_, _, t6, (fs.set x.toNat y).set y.toNat x, (y0 :: l).eraseIdx r2.toNat, rfl, fun k o e z => ?_, pail_set (pail_set hp7 hbp) hbp, by rw [hlen]; omega, ?_, ?_, half_pair hh hy⟩, ?_⟩
            · rw [upd_ne (ne_of_none e nbH), upd_ne (ne_of_none e nbH)]; exact b7 k o e z
            · rw [upd_ne hab, upd_ne hab]; exact ea7
            · rw [upd_same, List.map_set, List.map_set]
            · rw [lenAt_eq (xs := ((y0 :: l).eraseIdx r2.toNat).map V.int) (by rw [upd_ne hab, upd_ne hab]; exact ea7), lt1, List.length_map, hlen]; omega
          · refine ⟨⟨_, _, t5, fs, y0 :: l, rfl, b4.trans b5, hp5, by rw [List.length_cons]; omega, b5 _ _ ea4 hap, b5 _ _ eb4 hbp, half_drop hh⟩, ?_⟩
            rw [lenAt_eq (b5 _ _ ea4 hap), lt1, List.length_map, List.length_cons]; omega
    · intro σ H1 Q1 Q2 hq h
      obtain ⟨v, e, z, h⟩ := h
      refine ⟨v, e, z, fun c nc => ?_⟩
      obtain ⟨d, e', h1, h2, h3, h4, k, h5, h6⟩ := h c nc
      exact ⟨d, e', h1, h2, h3, h4, k, h5, hq _ _ h6⟩
end
end K2
set_option maxHeartbeats 4000000
/-! sorted(d), d a dict whose keys are pairs of ints -/
namespace RV
open PySem PySem.Spec PyProof.Rows L2
/-- a pair of ints as a key, and back -/
def keyP (p : List Int) : List L2.Key := p.map Sum.inl
def pairOf (k : List L2.Key) : List Int := k.map fun x => match x with | .inl i => i | .inr _ => 0
theorem pairOf_keyP (p : List Int) : pairOf (keyP p) = p := by
  unfold pairOf keyP
  rw [List.map_map]
  exact List.map_id p
theorem kV_keyP (p : List Int) : (keyP p).map kV = p.map V.int := by
  unfold keyP
  rw [List.map_map]; rfl
abbrev two (p : List Int) : Int × Int := (p.getD 0 0, p.getD 1 0)
open Classical in
noncomputable def readP (h : Heap) (v : Value) : Int × Int := if e : ∃ p : Int × Int, Srt.IsPair h v p.1 p.2 then Classical.choose e else (0, 0)
theorem readP_eq {h : Heap} {v : Value} {x y : Int} (e : Srt.IsPair h v x y) : readP h v = (x, y) := by
  have ex : ∃ p : Int × Int, Srt.IsPair h v p.1 p.2 := ⟨(x, y), e⟩
  unfold readP
  rw [dif_pos ex]
  have c := Classical.choose_spec ex
  generalize Classical.choose ex = p at c
  obtain ⟨a, o, t, u, n, e1, e2, e3, e4⟩ := c
  obtain ⟨a', o', t', u', n', f1, f2, f3, f4⟩ := e
  rw [e1] at f1
  cases f1
  rw [e2] at f2
  cases f2
  rw [e4] at f4
  injection f4 with g1 g2
  have g3 : [Value.int p.1 t, Value.int p.2 u] = [Value.int x t', Value.int y u'] := by
    have := congrArg Array.toList g1
    simpa using this
  injection g3 with g4 g5
  injection g5 with g5 _
  injection g4 with g4 _
  injection g5 with g5 _
  obtain ⟨p1, p2⟩ := p
  simp only at g4 g5
  rw [g4, g5]
theorem paired_mem {α β : Type} {F : α → β → Prop} : ∀ {l : List α} {m : List β}, Paired F l m → ∀ y ∈ m, ∃ x ∈ l, F x y
  | _, _, .nil, y, h => nomatch h
  | _, _, .cons f t, y, h => by
    rcases List.mem_cons.mp h with e | e
    · rw [e]; exact ⟨_, List.mem_cons_self .., f⟩
    · obtain ⟨x, hx, fx⟩ := paired_mem t y e
      exact ⟨x, List.mem_cons_of_mem _ hx, fx⟩
theorem paired_map {α β γ : Type} {F : α → β → Prop} {f : α → γ} {g : β → γ} (h : ∀ a b, F a b → f a = g b) : ∀ {l : List α} {m : List β}, Paired F l m → l.map f = m.map g
  | _, _, .nil => rfl
  | _, _, .cons e t => by rw [List.map_cons, List.map_cons, h _ _ e, paired_map h t]
section
variable {X : Cx}
/-- sorted(d) -/
def rSortDT : List V → Hp → VK → Prop := fun xs H Q => ∃ (d : Addr) (kvs : List (List L2.Key × V)) (ps : List (List Int)), xs = [.ref d] ∧ Rd H d (.dT kvs) ∧ kvs.map (·.1) = ps.map keyP ∧ (∀ p ∈ ps, ∃ x y : Int, p = [x, y]) ∧ kvs.length ≤ 1000 ∧
  ∀ (L : List (Addr × List Int)) (q : Addr), H q = none → (L.map (·.2)).Perm ps → L.Pairwise (fun a b => SrtO.lexB (two b.2) (two a.2) = false) → (∀ a ∈ L, H a.1 = some (.tup (a.2.map V.int))) → Q (.ref q) (upd H q (.lst (L.map fun a => V.ref a.1)))
theorem cr_sortedDT (hc : X.calm = true) : CallR X (.builtin "sorted") rSortDT := by
  intro pins s σ H xs us Q I r h
  obtain ⟨d, kvs, ps, rfl, hd, hks, hpr, h1000, q⟩ := h
  obtain ⟨u, rfl, rx⟩ := vals1 r
  cases rx
  obtain ⟨z, hs, ks, pr, o, es, ep, ho, hx, hdt, he, hn⟩ := (show ObjOk X.prog X.w H s.heap d (.dT kvs) from hd.ok I.hok)
  have l1 : es.size = ks.length := size_of_entries he
  have l2 : kvs.length = ks.length := Paired.length pr
  refine Calls.call_function_entry kind_sorted plain_sorted entry_sorted (args_sorted1 _) ?_
  unfold Builtin.«sorted»
  refine wpAny_bind (m := checkCount "sorted" 1 1 _) (wpAny_pure ?_)
  refine wpAny_bind (PySem.W.kdu_collect (A := X.A.in1) (kdl_raw hs hx hdt) (I.ok.hd hc) ho (by rw [l1, ← l2]; exact Nat.le_of_lt (small1000 h1000)) fun h' tk acc kp it => ?_)
  -- what was collected
  have ea : acc.toList = ks.map fun x => Value.ref x.2.1 := by
    have hl : acc.toList.length = ks.length := by rw [Array.length_toList, it.1, l1]
    refine List.ext_getElem (by rw [hl, List.length_map]) fun j j1 j2 => ?_
    have ja : acc.toList[j]? = some acc.toList[j] := List.getElem?_eq_getElem j1
    obtain ⟨en, hen, hv⟩ := it.2 j _ (by rw [← Array.getElem?_toList]; exact ja)
    have qe := entry_at he j
    have jk : j < ks.length := by rw [List.length_map] at j2; exact j2
    rw [hen, List.getElem?_eq_getElem jk] at qe
    have e2 : en = entryOfKey (tupleKind (mixKind X.prog X.w)) ks[j] := Option.some.inj qe
    rw [hv, e2, List.getElem_map]; rfl
  have I1 : Inv X pins σ H { s with heap := h', toks := tk } := I.kept kp
  have hal : acc.toList.length = ks.length := by rw [ea, List.length_map]
  refine wpAny_bind (wpAny_newList ?_ (by rw [hal, ← l2]; exact Nat.le_of_lt (small1000 h1000)))
  have hoL : (h'.push (seqObj "list" acc.toList.toArray 0)).get? h'.objs.size = some (seqObj "list" acc.toList.toArray 0) := Heap.get?_push_size _ rfl
  show wpAny _ _ _ _ _ { s with heap := h'.push (seqObj "list" acc.toList.toArray 0), toks := tk }
  -- each is a pair
  have ent : ∀ v ∈ acc.toList, ∃ (b : Addr) (p : List Int), v = .ref b ∧ p ∈ ps ∧ H b = some (.tup (p.map V.int)) ∧ ∃ x y : Int, p = [x, y] ∧ Srt.IsPair h' v x y := by
    intro v hv
    rw [ea] at hv
    obtain ⟨x, hx1, rfl⟩ := List.mem_map.mp hv
    obtain ⟨kv, hkv, q1, q2, _⟩ := paired_mem pr x hx1
    have hk2 : kv.1 ∈ ps.map keyP := by rw [← hks]; exact List.mem_map_of_mem hkv
    obtain ⟨p, hp, ep⟩ := List.mem_map.mp hk2
    have hb : H x.2.1 = some (.tup (p.map V.int)) := by rw [q2, ← ep, kV_keyP]
    obtain ⟨x', y', e'⟩ := hpr p hp
    refine ⟨x.2.1, p, rfl, hp, hb, x', y', e', ?_⟩
    obtain ⟨_, its2, r2, oo, ho2, hc2, n2, hd2⟩ := (show ObjOk X.prog X.w H s.heap x.2.1 (.tup (p.map V.int)) from I.hok _ _ hb)
    rw [e'] at r2
    obtain ⟨u1, u2, rfl, ri, rj⟩ := vals2 r2
    obtain ⟨t1, rfl⟩ := ri
    obtain ⟨t2, rfl⟩ := rj
    exact ⟨x.2.1, oo, t1, t2, n2, rfl, kp _ _ ho2, hc2, hd2⟩
  have isp : ∀ v ∈ acc.toList, Srt.IsPair h' v (readP h' v).1 (readP h' v).2 := fun v hv => by
    obtain ⟨b, p, _, _, _, x, y, _, e⟩ := ent v hv
    rw [readP_eq e]; exact e
  refine wpAny_bind (wpAny_holding (wpAny_call_entry slot_list_sort ⟨_, hoL, rfl⟩ entry_list_sort (SrtO.list_sort_ord (s := { s with heap := h'.push (seqObj "list" acc.toList.toArray 0), toks := tk }) (ltv := fun v u => SrtO.lexB (readP h' v) (readP h' u)) (SrtO.swo_lex (readP h')) hoL
    (by rw [hal, ← l2]; exact Nat.le_of_lt (small1000 h1000)) (fun h2 => ?_) fun out g1 g2 => ⟨_, rfl, ?_⟩) (args_list_sort _)))
  · refine SrtO.pairs_sortableO (k := readP h') (s := { s with heap := h'.push (seqObj "list" acc.toList.toArray 0), toks := tk }) (by omega) (fun v hm => (isp v hm).keeps fun b o e _ => Heap.get?_push_of_some _ e) fun o e => ?_
    have e' : some o = some (seqObj "list" acc.toList.toArray 0) := e.symm.trans hoL
    cases e'
    intro c
    exact absurd (Value.type.inj c) (by decide)
  · obtain ⟨e', he'⟩ := sortedHeap_at (vs := acc.toList) (out := out.toArray) hoL
    -- as addresses with their ints
    have inV : ∀ v ∈ out, v ∈ acc.toList := fun v hv => g2.perm.mem_iff.mp hv
    let ad : Value → Addr := fun v => match v with | .ref b => b | _ => 0
    let L : List (Addr × List Int) := out.map fun v => (ad v, [(readP h' v).1, (readP h' v).2])
    have tell : ∀ v ∈ out, v = .ref (ad v) ∧ [(readP h' v).1, (readP h' v).2] ∈ ps ∧ H (ad v) = some (.tup (([(readP h' v).1, (readP h' v).2] : List Int).map V.int)) := fun v hv => by
      obtain ⟨b, p, rfl, hp, hb, x, y, rfl, e⟩ := ent v (inV v hv)
      rw [readP_eq e]
      exact ⟨rfl, hp, hb⟩
    have eo : out = L.map fun a => Value.ref a.1 := by
      show out = (out.map _).map _
      rw [List.map_map]
      conv => lhs; rw [← List.map_id out]
      exact List.map_congr_left fun v hv => (tell v hv).1
    have eks : ∀ v ∈ acc.toList, True := fun _ _ => trivial
    have hLlen : (L.map fun a => V.ref a.1).length ≤ sizeLine := by
      rw [List.length_map, List.length_map, g2.len, hal, ← l2]; exact Nat.le_of_lt (small1000 h1000)
    have rv : Vals (L.map fun a => V.ref a.1) out := by
      rw [eo]
      have : ∀ M : List (Addr × List Int), Vals (M.map fun a => V.ref a.1) (M.map fun a => Value.ref a.1) := fun M => by
        induction M with
        | nil => exact .nil
        | cons m r ih => exact .cons rfl ih
      exact this L
    have e2 : L.map (·.2) = out.map fun v => [(readP h' v).1, (readP h' v).2] := by
      show (out.map _).map _ = _
      rw [List.map_map]; rfl
    have e3 : (acc.toList.map fun v => [(readP h' v).1, (readP h' v).2]) = ps := by
      have w1 : ks.map (fun x => pairOf x.1) = ps := by
        rw [← paired_map (f := fun (a : List L2.Key × V) => pairOf a.1) (g := fun (b : List L2.Key × Addr × Value) => pairOf b.1) (fun a b f => by rw [f.1]) pr]
        have w2 : kvs.map (fun a => pairOf a.1) = (kvs.map (·.1)).map pairOf := by rw [List.map_map]; rfl
        rw [w2, hks, List.map_map]
        conv => rhs; rw [← List.map_id ps]
        exact List.map_congr_left fun p _ => pairOf_keyP p
      rw [← w1, ea, List.map_map]
      refine List.map_congr_left fun x hx1 => ?_
      obtain ⟨kv, hkv, q1, q2, _⟩ := paired_mem pr x hx1
      obtain ⟨b, p, eb, hp, hb, x', y', e', isP⟩ := ent (.ref x.2.1) (by rw [ea]; exact List.mem_map.mpr ⟨x, hx1, rfl⟩)
      cases eb
      show [(readP h' (.ref x.2.1)).1, (readP h' (.ref x.2.1)).2] = pairOf x.1
      rw [readP_eq isP, ← q1]
      have hk2 : kv.1 ∈ ps.map keyP := by rw [← hks]; exact List.mem_map_of_mem hkv
      obtain ⟨p2, hp2, ep2⟩ := List.mem_map.mp hk2
      rw [← ep2, pairOf_keyP]
      rw [hb, ← ep2, kV_keyP] at q2
      have q3 : p.map V.int = p2.map V.int := by
        injection q2 with q2
        injection q2
      have q4 : p = p2 := by
        have inj : ∀ l m : List Int, l.map V.int = m.map V.int → l = m := fun l => by
          induction l with
          | nil => intro m e; cases m with | nil => rfl | cons => cases e
          | cons a r ih =>
            intro m e
            cases m with
            | nil => cases e
            | cons b t =>
              rw [List.map_cons, List.map_cons] at e
              injection e with e1 e2
              injection e1 with e1
              rw [e1, ih t e2]
        exact inj p p2 q3
      rw [← q4, e']
    refine wpAny_pure ⟨_, rfl, .ref h'.objs.size, upd H h'.objs.size (.lst (L.map fun a => V.ref a.1)), I1.laid (t' := tk) (fun b u e => ?_) (Nat.le_refl _)
      (show ObjOk X.prog X.w _ _ _ (.lst (L.map fun a => V.ref a.1)) from ⟨hLlen, out, e', rv, he'⟩), rfl, q L _ (I1.hok.fresh (Nat.le_refl _)) ?_ ?_ fun a ha => ?_⟩
    · have hb : b < h'.objs.size := Heap.lt_size e
      rw [sortedHeap_old (Nat.ne_of_lt hb) (by rw [size_push']; exact Nat.lt_succ_of_lt hb)]
      exact Heap.get?_push_of_some _ e
    · rw [e2, ← e3]
      exact g2.perm.map _
    · show (out.map _).Pairwise _
      rw [List.pairwise_map]
      exact g1
    · obtain ⟨v, hv, rfl⟩ := List.mem_map.mp ha
      exact (tell v hv).2.2
end
end RV
set_option maxHeartbeats 4000000
namespace K2
open PySem PySem.Spec PyProof.Rows L2 RV
/-! ### a dict of pairs, by its keys -/
def addP (ps : List (List Int)) (p : List Int) : List (List Int) := if p ∈ ps then ps else ps ++ [p]
theorem keyP_inj {p q : List Int} (h : keyP p = keyP q) : p = q := by
  have := congrArg pairOf h
  rwa [pairOf_keyP, pairOf_keyP] at this
theorem key_mem {p : List Int} {ps : List (List Int)} : keyP p ∈ ps.map keyP ↔ p ∈ ps := by
  constructor
  · intro h
    obtain ⟨q, hq, e⟩ := List.mem_map.mp h
    rw [← keyP_inj e]; exact hq
  · exact fun h => List.mem_map_of_mem h
theorem put_keys {kvs : List (List L2.Key × V)} {ps : List (List Int)} {p : List Int} {v : V} (h : kvs.map (·.1) = ps.map keyP) : (putK kvs (keyP p) v).map (·.1) = (addP ps p).map keyP := by
  unfold addP
  cases e : valV kvs (keyP p) with
  | none =>
    have n : p ∉ ps := fun z => valV_not e (by rw [h]; exact key_mem.mpr z)
    rw [putK_new v e, if_neg n, List.map_append, List.map_append, h]; rfl
  | some x =>
    have y : p ∈ ps := key_mem.mp (by rw [← h]; exact valV_in e)
    rw [if_pos y, ← h]
    unfold putK
    rw [valV_any, e]
    show (kvs.map fun kv => if kv.1 = keyP p then (kv.1, v) else kv).map (·.1) = kvs.map (·.1)
    rw [List.map_map]
    refine List.map_congr_left fun kv _ => ?_
    show (if kv.1 = keyP p then (kv.1, v) else kv).1 = kv.1
    split <;> rfl
theorem mem_addP {ps : List (List Int)} {p q : List Int} : q ∈ addP ps p ↔ q ∈ ps ∨ q = p := by
  unfold addP
  split
  · rename_i h
    constructor
    · exact .inl
    · rintro (z | rfl)
      · exact z
      · exact h
  · rw [List.mem_append, List.mem_singleton]
theorem nd_addP {ps : List (List Int)} {p : List Int} (h : ps.Nodup) : (addP ps p).Nodup := by
  unfold addP
  split
  · exact h
  · rename_i n
    rw [List.nodup_append]
    exact ⟨h, by simp, fun a ha b hb e => n (by rw [← List.mem_singleton.mp hb, ← e]; exact ha)⟩
/-- a tuple of tuples of ints, all of them seen -/
def TupsH (H : Hp) (a : Addr) (ps : List (List Int)) : Prop := ∃ ks : List (Addr × List Int), ks.map (·.2) = ps ∧ H a = some (.tup (ks.map fun p => V.ref p.1)) ∧ ∀ p ∈ ks, H p.1 = some (.tup (p.2.map V.int))
theorem TupsH.tups {K : PySem.W.Frag} {H : Hp} {a : Addr} {ps : List (List Int)} (h : TupsH H a ps) : Tups K H a ps :=
  let ⟨ks, h1, h2, h3⟩ := h; ⟨ks, h1, tupNew h2, fun p hp => tupNew (h3 p hp)⟩
theorem TupsH.same {H H' : Hp} {a : Addr} {ps : List (List Int)} (h : TupsH H a ps) (e : Same H H') : TupsH H' a ps :=
  let ⟨ks, h1, h2, h3⟩ := h; ⟨ks, h1, e _ _ h2, fun p hp => e _ _ (h3 p hp)⟩
theorem TupsH.but {H H' : Hp} {p a : Addr} {t : Nat} {ps : List (List Int)} (h : TupsH H a ps) (hp : PailAt H p t) (b : But p H H') : TupsH H' a ps := by
  obtain ⟨ks, h1, h2, h3⟩ := h
  obtain ⟨x, y, e, _⟩ := hp
  exact ⟨ks, h1, b _ _ h2 fun z => (by rw [z, e] at h2; cases h2), fun q hq => b _ _ (h3 q hq) fun z => (by have h := h3 q hq; rw [z, e] at h; cases h)⟩
/-- steps drawn so far -/
structure Part (ns : List Int) (ps : List (List Int)) : Prop where
  nd : ps.Nodup
  pr : ∀ p ∈ ps, Pr (ns.length : Int) p
  mi : ∀ x y mx my : Int, [x, y] ∈ ps → ns[x.toNat]? = some mx → ns[y.toNat]? = some my → [my, mx] ∈ ps
theorem Part.nil (ns : List Int) : Part ns [] := ⟨List.nodup_nil, (fun _ h => nomatch h), fun _ _ _ _ h => nomatch h⟩
theorem Part.add {ns : List Int} {ps : List (List Int)} {x y mx my : Int} (M : Mir ns) (h : Part ns ps) (hx : 0 ≤ x ∧ x < (ns.length : Int)) (hy : 0 ≤ y ∧ y < (ns.length : Int)) (ex : ns[x.toNat]? = some mx) (ey : ns[y.toNat]? = some my) :
    Part ns (addP (addP ps [x, y]) [my, mx]) := by
  have bx := M.back _ _ ex
  have bY := M.back _ _ ey
  have ix := M.inn mx (List.mem_of_getElem? ex)
  have iy := M.inn my (List.mem_of_getElem? ey)
  refine ⟨nd_addP (nd_addP h.nd), fun p hp => ?_, fun a b ma mb hab ha hb => ?_⟩
  · rcases mem_addP.mp hp with z | rfl
    · rcases mem_addP.mp z with z | rfl
      · exact h.pr p z
      · exact ⟨x, y, rfl, hx, hy⟩
    · exact ⟨my, mx, rfl, iy, ix⟩
  · rw [mem_addP, mem_addP] at hab ⊢
    rcases hab with (z | z) | z
    · exact .inl (.inl (h.mi a b ma mb z ha hb))
    · injection z with z1 z2
      injection z2 with z2 _
      subst z1 z2
      rw [ex] at ha
      rw [ey] at hb
      cases ha
      cases hb
      exact .inr rfl
    · injection z with z1 z2
      injection z2 with z2 _
      subst z1 z2
      rw [bY] at ha
      rw [bx] at hb
      cases ha
      cases hb
      refine .inl (.inr ?_)
      rw [show ((x.toNat : Nat) : Int) = x by omega, show ((y.toNat : Nat) : Int) = y by omega]
theorem Part.len {ns : List Int} {ps : List (List Int)} (h : Part ns ps) (M : Mir ns) : ps.length ≤ 64 := by
  have := nodup_le (us := gridOf 0 (fun _ _ => true) ns.length ns.length) h.nd fun p hp => by
    obtain ⟨x, y, rfl, hx, hy⟩ := h.pr p hp
    refine mem_grid.mpr ⟨x.toNat, y.toNat, by omega, by omega, rfl, ?_⟩
    rw [show (0 + ((x.toNat : Nat) : Int)) = x by omega, show (0 + ((y.toNat : Nat) : Int)) = y by omega]
  have g := grid_len 0 (fun _ _ => true) ns.length ns.length
  have m8 : ns.length * ns.length ≤ 8 * 8 := Nat.mul_le_mul M.few M.few
  omega
theorem le_of_two {p q : List Int} (hp : Pr 64 p) (hq : Pr 64 q) (h : SrtO.lexB (two q) (two p) = false) : cd p ≤ cd q := by
  obtain ⟨x, y, rfl, hx, hy⟩ := hp
  obtain ⟨x', y', rfl, hx', hy'⟩ := hq
  have z := SrtO.lexB_no.mp h
  have z' : ¬ (x' < x ∨ (x' = x ∧ y' < y)) := z
  rw [cd_pair, cd_pair]; omega
/-- sorted, they are a rule's steps -/
theorem Part.stp {ns : List Int} {ps : List (List Int)} {L : List (Addr × List Int)} (M : Mir ns) (h : Part ns ps) (pm : (L.map (·.2)).Perm ps) (pw : L.Pairwise fun a b => SrtO.lexB (two b.2) (two a.2) = false) : Stp ns (L.map (·.2)) := by
  have h8 := M.few
  have pr : ∀ p ∈ L.map (·.2), Pr (ns.length : Int) p := fun p hp => h.pr p (pm.mem_iff.mp hp)
  have pr64 : ∀ p ∈ L.map (·.2), Pr 64 p := fun p hp => (pr p hp).mono (by omega)
  have le : (L.map (·.2)).Pairwise fun p q => cd p ≤ cd q := by
    rw [List.pairwise_map]
    exact List.Pairwise.imp_of_mem (fun {a b} ha hb z => le_of_two (pr64 _ (List.mem_map_of_mem ha)) (pr64 _ (List.mem_map_of_mem hb)) z) pw
  refine ⟨by rw [pm.length_eq]; exact h.len M, fun p hp => pr p hp, adj_rise pr64 (sorted_lt pr64 (pm.nodup_iff.mpr h.nd) le), fun x y mx my hxy hx hy => ?_, pm.nodup_iff.mpr h.nd⟩
  exact pm.mem_iff.mpr (h.mi x y mx my (pm.mem_iff.mp hxy) hx hy)
section
variable {P : Program} {w : World} {K : PySem.W.Frag} {mg : Str → Option Value} {base : Heap}
/-! ### _law_steps -/
theorem scDSteps : FnScope ["_law_pail_here", "_law_mirrors_here", "_law_found_here", "_law_share", "_law_one", "_law_other"] ["_law_pail_here", "_law_mirrors_here"] (defScope sDSteps) := ⟨rfl, rfl, rfl, by decide +kernel, rfl, by decide +kernel, by decide +kernel⟩
def spDSteps (K : PySem.W.Frag) : Sp := fun vs H Q _ => ∃ (p u : Addr) (t : Nat) (ns : List Int), vs = [.ref p, .ref u] ∧ PailAt H p t ∧ t ≤ 1500 ∧ SqT K H u (ns.map V.int) ∧ Mir ns ∧
  ∀ (H' : Hp) (c : Addr) (t' : Nat) (ps : List (List Int)), PailAt H' p t' → t' ≤ t + 70 → But p H H' → TupsH H' c ps → Stp ns ps → Q (.ref c) H'
theorem ok_dsteps {f fD fO : Addr} {fd fdD fdO : FuncData} (F : Fun K "_law_steps" "_law_steps" sDSteps f fd) (DD : DefAt K mg "_law_draw" sDraw ["_law_pail_here", "_law_many"] fD fdD) (DO : DefAt K mg "_law_of" sOf ["_law_pail_here", "_law_some"] fO fdO) (B : Bare mg) : FnOk P w K mg base CX0 3 f fd ["_law_pail_here", "_law_mirrors_here"] (spDSteps K) := by
  have GD : FnOk P w K mg base CX0 1 fD fdD ["_law_pail_here", "_law_many"] spDraw := ok_draw DD.fn
  have GO : FnOk P w K mg base CX0 2 fO fdO ["_law_pail_here", "_law_some"] (spOf K) := ok_of DO.fn DD B
  refine F.ok scDSteps (fun vs H Q E h => ?_) (fun cdv A outer s H vs Q E hr h => ?_)
  · obtain ⟨p, u, t, ns, rfl, _⟩ := h
    rfl
  · obtain ⟨p, u, t, ns, rfl, hp, ht, hT, M, q⟩ := h
    have hu := hu_of hr
    have hr1 := hr.mono (show 1 ≤ 2 by decide)
    refine ⟨_, pss_cons (ps_par (i := 2) (j := 3) (by rfl) scDSteps.nd rfl rfl (by decide) rfl rfl (pa_cons pe_dnewT (pa_cons (pe_call GO hr (by rfl) DO.mg DO.fn.kp DO.bi .nil pass0 (pa_cons (pv 0) (pa_cons (pe_lst (pa_cons pe_int (pa_cons pe_int (pa_cons pe_int (pa_cons pe_int pa_nil))))) pa_nil))) pa_nil)) (by rfl))
      (pss_cons (ps_for PassesOwn.never rfl (pi_range1 (by rfl) B.range (pa_cons (pe_callB call_len_seq (by rfl) B.len PySem.boot_len (pa_cons (pv 1) pa_nil)) pa_nil)) (pg_name (i := 4) scDSteps.nd rfl (Or.inl rfl))
        (pss_one (ps_for PassesOwn.never rfl (pi_range1 (by rfl) B.range (pa_cons (pe_callB call_len_seq (by rfl) B.len PySem.boot_len (pa_cons (pv 1) pa_nil)) pa_nil)) (pg_name (i := 5) scDSteps.nd rfl (Or.inl rfl))
          (pss_one (ps_if (PW.pt (pw_and (pt_cmp (pc_dnotin hu (pe_tup (pa_cons (pv 4) (pa_cons (pv 5) pa_nil))) (pv 2))) (pw_and1 (pt_cmpR op_eq (pe_call GD hr1 (by rfl) DD.mg DD.fn.kp DD.bi .nil pass0 (pa_cons (pv 0) (pa_cons (pv 3) pa_nil))) pe_int (nomark _)))))
            (pss_cons (ps_dput hu (pv 2) (pe_tup (pa_cons (pv 4) (pa_cons (pv 5) pa_nil))) pe_bl rfl)
            (pss_one (ps_dput hu (pv 2) (pe_tup (pa_cons (pe_ix ix_tup (pv 1) (pv 5) (fun _ _ => rfl)) (pa_cons (pe_ix ix_tup (pv 1) (pv 4) (fun _ _ => rfl)) pa_nil))) pe_bl rfl))) pss_nil)))))
      (pss_one (ps_ret (pe_tupleOf (by rfl) B.tuple (pe_callB (cr_sortedDT rfl) (by rfl) B.sorted (by decide +kernel) (pa_cons (pv 2) pa_nil)))))), ?_⟩
    intro d nd
    have hdp : d ≠ p := pail_ne hp nd
    refine ⟨.ref p, rfl, (by show 4 ≤ sizeLine; decide), fun l nl => ⟨p, l, t, [.int 2, .int 3, .int 4, .int 6], rfl, pail_new (pail_new hp nd) nl, by omega, lstNew upd_same, pail_ne (pail_new hp nd) nl, by decide, by decide, fun j v t1 H1 hv ht1 hp1 b1 => ⟨.ref d, v, rfl, ?_⟩⟩⟩
    obtain ⟨sh, rfl, sh1, sh6⟩ : ∃ sh : Int, v = .int sh ∧ 1 ≤ sh ∧ sh ≤ 6 := by
      have hj : j < 4 := (List.getElem?_eq_some_iff.mp hv).1
      rcases (show j = 0 ∨ j = 1 ∨ j = 2 ∨ j = 3 by omega) with e | e | e | e <;> subst e <;> cases hv <;> exact ⟨_, rfl, by decide, by decide⟩
    have s0 := (same_upd (o := .dT []) nd).trans (same_upd (o := .lst [.int 2, .int 3, .int 4, .int 6]) nl)
    have ed1 : H1 d = some (.dT []) := b1 _ _ (same_upd nl _ _ upd_same) hdp
    have b01 : But p H H1 := (But.of s0).trans b1
    have hT1 : SqT K H1 u (ns.map V.int) := sqT_pail hp b01 hT
    have hn8 := M.few
    refine ⟨.ref u, rfl, u, _, rfl, .inr hT1, _, rfl, by rw [List.length_map]; omega, by rw [List.length_map]; omega, ?_⟩
    refine for_range (lo := 0) (n := _) (fun i σ H' => ∃ (kvs : List (List L2.Key × V)) (ps : List (List Int)) (t' : Nat) (y4 y5 : Option V), σ = [some (.ref p), some (.ref u), some (.ref d), some (.int sh), y4, y5] ∧ But p H H' ∧ PailAt H' p t' ∧ t' ≤ t + 1 + i * 8 ∧ H' d = some (.dT kvs) ∧ kvs.map (·.1) = ps.map keyP ∧ Part ns ps)
      ⟨[], [], t1, none, none, rfl, b01, hp1, by omega, ed1, rfl, Part.nil ns⟩ ?_ ?_
    · rintro i σ H2 hi ⟨kvs, ps, t2, y4, y5, rfl, b2, hp2, ht2, ed2, ek2, P2⟩
      rw [List.length_map, Int.toNat_natCast] at hi
      have hT2 : SqT K H2 u (ns.map V.int) := sqT_pail hp b2 hT
      refine ⟨.ref u, rfl, u, _, rfl, .inr hT2, _, rfl, by rw [List.length_map]; omega, by rw [List.length_map]; omega, ?_⟩
      refine for_range (lo := 0) (n := _) (fun j σ H' => ∃ (kvs : List (List L2.Key × V)) (ps : List (List Int)) (t' : Nat) (y5 : Option V), σ = [some (.ref p), some (.ref u), some (.ref d), some (.int sh), some (.int (0 + (i : Nat))), y5] ∧ But p H H' ∧ PailAt H' p t' ∧ t' ≤ t + 1 + i * 8 + j ∧ H' d = some (.dT kvs) ∧ kvs.map (·.1) = ps.map keyP ∧ Part ns ps)
        ⟨kvs, ps, t2, y5, rfl, b2, hp2, by omega, ed2, ek2, P2⟩ ?_ ?_
      · rintro j σ H3 hj ⟨kvs, ps, t3, y5, rfl, b3, hp3, ht3, ed3, ek3, P3⟩
        rw [List.length_map, Int.toNat_natCast] at hj
        have ei : (0 + ((i : Nat) : Int)) = (i : Int) := by omega
        have ej : (0 + ((j : Nat) : Int)) = (j : Int) := by omega
        have hl3 := P3.len M
        have hkl : kvs.length ≤ 64 := by
          have z := congrArg List.length ek3
          rw [List.length_map, List.length_map] at z; omega
        -- (one, other) not in found
        refine ⟨.int (0 + (i : Nat)), rfl, .int (0 + (j : Nat)), rfl, (by show 2 ≤ sizeLine; decide), fun T nT => ?_⟩
        have sT := same_upd (o := .tup [.int (0 + (i : Nat)), .int (0 + (j : Nat))]) nT
        have eT : (upd H3 T (.tup [.int (0 + (i : Nat)), .int (0 + (j : Nat))])) T = some (.tup ((keyP [0 + (i : Nat), 0 + (j : Nat)]).map kV)) := upd_same
        have ed4 := sT _ _ ed3
        have b4 := b3.trans (But.of (p := p) sT)
        have hp4 := pail_same hp3 sT
        generalize upd H3 T (.tup [.int (0 + (i : Nat)), .int (0 + (j : Nat))]) = H4 at eT ed4 b4 hp4 ⊢
        refine ⟨.ref d, rfl, d, _, rfl, DGet.t ed4 eT, _, rfl, ?_⟩
        cases ev : valV kvs (keyP [0 + (i : Nat), 0 + (j : Nat)]) with
        | some x =>
          refine iteF (iteF ?_)
          exact ⟨kvs, ps, t3, _, rfl, b4, hp4, by omega, ed4, ek3, P3⟩
        | none =>
          refine iteT ?_
          refine ⟨.ref p, rfl, .int sh, rfl, p, t3, sh, rfl, hp4, by omega, sh1, by omega, fun r t5 H5 r0 r1 ht5 hp5 b5 => ⟨rfl, _, rfl, ite2 (fun _ => ?_) (fun _ => ?_)⟩⟩
          · have ed5 := b5 _ _ ed4 hdp
            have b05 := b4.trans b5
            have hT5 : SqT K H5 u (ns.map V.int) := sqT_pail hp b05 hT
            -- found[one, other] = True
            refine ⟨.ref d, rfl, .int (0 + (i : Nat)), rfl, .int (0 + (j : Nat)), rfl, (by show 2 ≤ sizeLine; decide), fun T2 nT2 => ?_⟩
            have sT2 := same_upd (o := .tup [.int (0 + (i : Nat)), .int (0 + (j : Nat))]) nT2
            have eT2 : (upd H5 T2 (.tup [.int (0 + (i : Nat)), .int (0 + (j : Nat))])) T2 = some (.tup ((keyP [0 + (i : Nat), 0 + (j : Nat)]).map kV)) := upd_same
            refine ⟨d, _, rfl, DPut.t (sT2 _ _ ed5) eT2 (few1 (by omega)), ?_⟩
            have ed6 : (upd (upd H5 T2 (.tup [.int (0 + (i : Nat)), .int (0 + (j : Nat))])) d (.dT (putK kvs (keyP [0 + (i : Nat), 0 + (j : Nat)]) (.bl true)))) d = some (.dT (putK kvs (keyP [0 + (i : Nat), 0 + (j : Nat)]) (.bl true))) := upd_same
            have b6 : But p H (upd (upd H5 T2 (.tup [.int (0 + (i : Nat)), .int (0 + (j : Nat))])) d (.dT (putK kvs (keyP [0 + (i : Nat), 0 + (j : Nat)]) (.bl true)))) := fun k o e z => by rw [upd_ne (ne_of_none e nd)]; exact sT2 _ _ (b05 k o e z)
            have hp6 := pail_set (o := .dT (putK kvs (keyP [0 + (i : Nat), 0 + (j : Nat)]) (.bl true))) (pail_same hp5 sT2) hdp
            have ek6 := put_keys (p := [0 + ((i : Nat) : Int), 0 + ((j : Nat) : Int)]) (v := .bl true) ek3
            have l6 : (putK kvs (keyP [0 + (i : Nat), 0 + (j : Nat)]) (.bl true)).length ≤ 65 := by
              rw [putK_new _ ev, List.length_append]
              show kvs.length + 1 ≤ 65
              omega
            generalize upd (upd H5 T2 (.tup [.int (0 + (i : Nat)), .int (0 + (j : Nat))])) d (.dT (putK kvs (keyP [0 + (i : Nat), 0 + (j : Nat)]) (.bl true))) = H6 at ed6 b6 hp6 ⊢
            generalize putK kvs (keyP [0 + (i : Nat), 0 + (j : Nat)]) (.bl true) = kvs6 at ed6 ek6 l6
            have hT6 : SqT K H6 u (ns.map V.int) := sqT_pail hp b6 hT
            -- found[mirrors[other], mirrors[one]] = True
            obtain ⟨mi, gi⟩ : ∃ mi, ns[i]? = some mi := ⟨_, List.getElem?_eq_getElem hi⟩
            obtain ⟨mj, gj⟩ : ∃ mj, ns[j]? = some mj := ⟨_, List.getElem?_eq_getElem hj⟩
            have ai : atI (ns.map V.int) (0 + (i : Nat)) = some (.int mi) := by rw [ei]; exact atI_nat (by rw [List.getElem?_map, gi]; rfl)
            have aj : atI (ns.map V.int) (0 + (j : Nat)) = some (.int mj) := by rw [ej]; exact atI_nat (by rw [List.getElem?_map, gj]; rfl)
            refine ⟨.ref d, rfl, .ref u, rfl, .int (0 + (j : Nat)), rfl, u, _, _, _, rfl, rfl, hT6, aj, .ref u, rfl, .int (0 + (i : Nat)), rfl, u, _, _, _, rfl, rfl, hT6, ai, (by show 2 ≤ sizeLine; decide), fun T3 nT3 => ?_⟩
            have sT3 := same_upd (o := .tup [.int mj, .int mi]) nT3
            have eT3 : (upd H6 T3 (.tup [.int mj, .int mi])) T3 = some (.tup ((keyP [mj, mi]).map kV)) := upd_same
            refine ⟨d, _, rfl, DPut.t (sT3 _ _ ed6) eT3 (few1 (by omega)), ?_⟩
            have P7 := Part.add (x := (i : Int)) (y := (j : Int)) M P3 (by omega) (by omega) (by rw [Int.toNat_natCast]; exact gi) (by rw [Int.toNat_natCast]; exact gj)
            refine ⟨_, addP (addP ps [0 + ((i : Nat) : Int), 0 + ((j : Nat) : Int)]) [mj, mi], t5, _, rfl, fun k o e z => ?_, pail_set (pail_same hp6 sT3) hdp, by omega, upd_same, put_keys ek6, by rw [ei, ej]; exact P7⟩
            rw [upd_ne (ne_of_none e nd)]; exact sT3 _ _ (b6 k o e z)
          · exact ⟨kvs, ps, t5, _, rfl, b4.trans b5, hp5, by omega, b5 _ _ ed4 hdp, ek3, P3⟩
      · rintro σ H3 ⟨kvs, ps, t3, y5, rfl, b3, hp3, ht3, ed3, ek3, P3⟩
        rw [List.length_map, Int.toNat_natCast] at ht3
        exact ⟨kvs, ps, t3, _, _, rfl, b3, hp3, by omega, ed3, ek3, P3⟩
    · rintro σ H2 ⟨kvs, ps, t2, y4, y5, rfl, b2, hp2, ht2, ed2, ek2, P2⟩
      rw [List.length_map, Int.toNat_natCast] at ht2
      have hl2 := P2.len M
      have hkl : kvs.length ≤ 64 := by
        have z := congrArg List.length ek2
        rw [List.length_map, List.length_map] at z; omega
      refine ⟨.ref d, rfl, d, kvs, ps, rfl, .inl ed2, ek2, fun z hz => ?_, by omega, fun L c nc pm pw tu => .inl ⟨c, _, rfl, lstNew upd_same, fun e ne => ?_⟩⟩
      · obtain ⟨x, y, e, _⟩ := P2.pr z hz
        exact ⟨x, y, e⟩
      · have s3 := (same_upd (o := .lst (L.map fun a => V.ref a.1)) nc).trans (same_upd (o := .tup (L.map fun a => V.ref a.1)) ne)
        exact q _ e t2 (L.map (·.2)) (pail_same hp2 s3) (by omega) (b2.trans (But.of s3)) ⟨L, rfl, upd_same, fun k hk => s3 _ _ (tu k hk)⟩ (P2.stp M pm pw)
end
end K2
set_option maxHeartbeats 4000000
namespace K2
open PySem PySem.Spec PyProof.Rows L2 RV
theorem mro_tuple : PySem.fastBuiltinMro "tuple" = some [.type "tuple", .type "object"] := by decide +kernel
theorem mro_none : PySem.fastBuiltinMro "NoneType" = some [.type "NoneType", .type "object"] := by decide +kernel
theorem mro_str : PySem.fastBuiltinMro "str" = some [.type "str", .type "object"] := by decide +kernel
theorem mro_int : PySem.fastBuiltinMro "int" = some [.type "int", .type "object"] := by decide +kernel
theorem kit_other {K : PySem.W.Frag} {C : Addr} {T : String} (h1 : (PySem.W.clsIn K C).isSome = true) (h2 : PySem.W.typeIn K (.ref C) = some (.type "type")) (h3 : PySem.fastBuiltinMro T = some [.type T, .type "object"]) : PySem.W.kitOne K (.type T) (.ref C) = some false := by
  unfold PySem.W.kitOne PySem.W.kitCls
  rw [if_neg (by simp)]
  show (if ((PySem.W.clsIn K C).isSome && PySem.W.typeIn K (.ref C) == some (.type "type")) = true then PySem.W.subIn K (.type T) (.ref C) else none) = some false
  rw [h1, h2, if_pos (by simp)]
  show (PySem.fastBuiltinMro T).map (·.contains (.ref C)) = some false
  rw [h3]
  simp
theorem kit_self {K : PySem.W.Frag} {C : Addr} : PySem.W.kitOne K (.ref C) (.ref C) = some true := by
  unfold PySem.W.kitOne
  simp
section
variable {P : Program} {w : World} {K : PySem.W.Frag} {mg : Str → Option Value} {base : Heap}
/-- what a call Rule(a, b) comes to -/
theorem make_rule {C a b x dx : Addr} {H : Hp} {Qh : Hp → Prop} {E : XK} {ns : List Int} {ps : List (List Int)} (hA : SqT K H a (ns.map V.int)) (hB : Tups K H b ps) (hM : Mir ns) (hS : Stp ns ps) (nx : H x = none) (nd : H dx = none) (ne : dx ≠ x)
    (k : ∀ H', Same H H' → RuleAt K C H' x ns ps → Qh H') :
    spInit K C (.ref x :: ([.ref a, .ref b] ++ [])) (upd (upd H dx (.own x)) x (.ins C dx [])) (fun v H2 => v = .non ∧ Qh H2) E := by
  have s0 : Same H (upd (upd H dx (.own x)) x (.ins C dx [])) := fun c o e => by
    rw [upd_ne (ne_of_none e nx), upd_ne (ne_of_none e nd)]; exact e
  refine ⟨x, dx, a, b, ns, ps, rfl, upd_same, sqT_same s0 hA, hB.same s0, hM, hS, fun H' t k1 k2 k3 => ⟨rfl, ?_⟩⟩
  have s1 : Same H H' := fun c o e => k1 c o (s0 c o e) (ne_of_none e nx)
  exact k H' s1 ⟨dx, a, b, t, k2, sqT_same s1 hA, hB.same s1, k3⟩
end
end K2
namespace RV
open PySem PySem.Spec PyProof.Rows L2
/-! ### what repr asks of tuples of pairs -/
theorem small_log {i : Int} (h : i.natAbs < 10 ^ 12) : i.natAbs.log2 < 1920 := by
  rcases Nat.eq_zero_or_pos i.natAbs with e | e
  · rw [e]; decide
  · have h1 : i.natAbs < 2 ^ 64 := Nat.lt_of_lt_of_le h (by decide)
    have h2 : i.natAbs.log2 < 64 := (Nat.log2_lt (by omega)).mpr h1
    omega
theorem show_ints : ∀ ns : List Int, (∀ n ∈ ns, n.natAbs < 10 ^ 12) → PyData.showableAll (ns.map PyData.int) = true
  | [], _ => by simp [PyData.showableAll]
  | n :: r, h => by
    have h1 := small_log (h n (List.mem_cons_self ..))
    have h2 := show_ints r fun m hm => h m (List.mem_cons_of_mem _ hm)
    simp [PyData.showableAll, PyData.showable, h1, h2]
theorem show_dIs : ∀ ps : List (List Int), (∀ p ∈ ps, ∀ n ∈ p, n.natAbs < 10 ^ 12) → PyData.showableAll (ps.map dI) = true
  | [], _ => by simp [PyData.showableAll]
  | p :: r, h => by
    have h1 := show_ints p (h p (List.mem_cons_self ..))
    have h2 := show_dIs r fun m hm => h m (List.mem_cons_of_mem _ hm)
    have h3 : (dI p).showable = true := by simp only [dI, PyData.showable]; exact h1
    simp [PyData.showableAll, h3, h2]
theorem short_dIs : ∀ ps : List (List Int), (∀ p ∈ ps, ∀ n ∈ p, n.natAbs < 10 ^ 12) → PyData.intsShortAll 13 (ps.map dI) = true
  | [], _ => by simp [PyData.intsShortAll]
  | p :: r, h => by
    have h1 := PyData.intsShortAll_ints p (h p (List.mem_cons_self ..))
    have h2 := short_dIs r fun m hm => h m (List.mem_cons_of_mem _ hm)
    have h3 : (dI p).intsShort 13 = true := by simp only [dI, PyData.intsShort]; exact h1
    simp [PyData.intsShortAll, h3, h2]
theorem bulk_ints : ∀ ns : List Int, PyData.bulkAll (ns.map PyData.int) = ns.length
  | [] => by simp [PyData.bulkAll]
  | n :: r => by simp [PyData.bulkAll, PyData.bulk, bulk_ints r]; omega
theorem bulk_dIs : ∀ ps : List (List Int), (∀ p ∈ ps, p.length ≤ 2) → PyData.bulkAll (ps.map dI) ≤ 3 * ps.length
  | [], _ => by simp [PyData.bulkAll]
  | p :: r, h => by
    have h1 : (dI p).bulk = p.length := by simp only [dI, PyData.bulk, bulk_ints]
    have h2 := bulk_dIs r fun m hm => h m (List.mem_cons_of_mem _ hm)
    have h3 := h p (List.mem_cons_self ..)
    simp only [List.map_cons, PyData.bulkAll, h1, List.length_cons]
    omega
/-- (ps, os), two tuples of pairs -/
def d2 (ps os : List (List Int)) : PyData := .tuple [dTT ps, dTT os]
theorem pr_small {b : Int} (hb : b ≤ 64) {ps : List (List Int)} (h : ∀ p ∈ ps, Pr b p) : ∀ p ∈ ps, ∀ n ∈ p, n.natAbs < 10 ^ 12 := fun p hp n hn => by
  obtain ⟨x, y, rfl, hx, hy⟩ := h p hp
  simp only [List.mem_cons, List.not_mem_nil, or_false] at hn
  rcases hn with rfl | rfl <;> omega
theorem pr_len {b : Int} {ps : List (List Int)} (h : ∀ p ∈ ps, Pr b p) : ∀ p ∈ ps, p.length ≤ 2 := fun p hp => by
  obtain ⟨x, y, rfl, _⟩ := h p hp
  simp
structure Reprs (ps os : List (List Int)) : Prop where
  h1 : (d2 ps os).showable = true
  h2 : (d2 ps os).hasDict = false
  h3 : (d2 ps os).depth ≤ 64
  h4 : (d2 ps os).shown.length ≤ sizeLine
theorem reprs {b c : Int} (hb : b ≤ 64) (hc : c ≤ 64) {ps os : List (List Int)} (h : ∀ p ∈ ps, Pr b p) (h' : ∀ p ∈ os, Pr c p) (l1 : ps.length ≤ 1000) (l2 : os.length ≤ 1000) : Reprs ps os := by
  have lay : (d2 ps os).canLay0 = true := by
    simp only [d2, dTT, PyData.canLay0, PyData.canLayAll0, lay_dI, Bool.and_self]
  refine ⟨?_, PyData.hasDict_of_canLay _ lay, ?_, ?_⟩
  · simp only [d2, dTT, PyData.showable, PyData.showableAll, show_dIs ps (pr_small hb h), show_dIs os (pr_small hc h'), Bool.and_self]
  · have h1 := dep_dI ps
    have h2 := dep_dI os
    simp only [d2, dTT, PyData.depth, PyData.depthAll]
    omega
  · refine PyData.shown_fits_bulk (B := 13) (by decide) (by decide) (PyData.leavesShort_of_canLay0 13 _ lay ?_) ?_
    · simp only [d2, dTT, PyData.intsShort, PyData.intsShortAll, short_dIs ps (pr_small hb h), short_dIs os (pr_small hc h'), Bool.and_self]
    · have h1 := bulk_dIs ps (pr_len h)
      have h2 := bulk_dIs os (pr_len h')
      simp only [d2, dTT, PyData.bulk, PyData.bulkAll]
      omega
theorem d2_dp {K : PySem.W.Frag} {H : Hp} {T a b : Addr} {ps os : List (List Int)} (h : H T = some (.tup [.ref a, .ref b])) (h1 : Tups K H a ps) (h2 : Tups K H b os) : Dp K H (.ref T) (d2 ps os) :=
  .tup (.inl (.inl h)) (.cons h1.dp (.cons h2.dp .nil))
end RV
namespace RV
open PySem PySem.Spec PyProof.Rows L2
/-- (ns, ps): mirrors and steps -/
def d1 (ns : List Int) (ps : List (List Int)) : PyData := .tuple [dI ns, dTT ps]
structure Shows (d : PyData) : Prop where
  h1 : d.showable = true
  h2 : d.hasDict = false
  h3 : d.depth ≤ 64
  h4 : d.shown.length ≤ sizeLine
theorem shows_d1 {b : Int} (hb : b ≤ 64) {ns : List Int} {ps : List (List Int)} (hn : ∀ n ∈ ns, n.natAbs < 10 ^ 12) (ln : ns.length ≤ 1000) (h : ∀ p ∈ ps, Pr b p) (l1 : ps.length ≤ 1000) : Shows (d1 ns ps) := by
  have lay : (d1 ns ps).canLay0 = true := by
    simp only [d1, dTT, PyData.canLay0, PyData.canLayAll0, lay_dI, dI_lay, Bool.and_self]
  have i1 : (dI ns).showable = true := by simp only [dI, PyData.showable]; exact show_ints ns hn
  have i2 : (dI ns).intsShort 13 = true := by simp only [dI, PyData.intsShort]; exact PyData.intsShortAll_ints ns hn
  have i3 : (dI ns).bulk = ns.length := by simp only [dI, PyData.bulk, bulk_ints]
  refine ⟨?_, PyData.hasDict_of_canLay _ lay, ?_, ?_⟩
  · simp only [d1, dTT, PyData.showable, PyData.showableAll, i1, show_dIs ps (pr_small hb h), Bool.and_self]
  · have h1 := dep_dI ps
    simp only [d1, dTT, PyData.depth, PyData.depthAll, dI_dep]
    omega
  · refine PyData.shown_fits_bulk (B := 13) (by decide) (by decide) (PyData.leavesShort_of_canLay0 13 _ lay ?_) ?_
    · simp only [d1, dTT, PyData.intsShort, PyData.intsShortAll, i2, short_dIs ps (pr_small hb h), Bool.and_self]
    · have h1 := bulk_dIs ps (pr_len h)
      simp only [d1, dTT, PyData.bulk, PyData.bulkAll, i3]
      omega
theorem shows_dI {ns : List Int} (hn : ∀ n ∈ ns, n.natAbs < 10 ^ 12) (ln : ns.length ≤ 1000) : Shows (dI ns) := by
  have i3 : (dI ns).bulk = ns.length := by simp only [dI, PyData.bulk, bulk_ints]
  refine ⟨by simp only [dI, PyData.showable]; exact show_ints ns hn, PyData.hasDict_of_canLay _ (dI_lay ns), by rw [dI_dep]; decide, ?_⟩
  refine PyData.shown_fits_bulk (B := 13) (by decide) (by decide) (PyData.leavesShort_of_canLay0 13 _ (dI_lay ns) ?_) (by rw [i3]; omega)
  simp only [dI, PyData.intsShort]; exact PyData.intsShortAll_ints ns hn
theorem d1_dp {K : PySem.W.Frag} {H : Hp} {T a b : Addr} {ns : List Int} {ps : List (List Int)} (h : H T = some (.tup [.ref a, .ref b])) (h1 : SqT K H a (ns.map V.int)) (h2 : Tups K H b ps) : Dp K H (.ref T) (d1 ns ps) :=
  .tup (.inl (.inl h)) (.cons (dpT h1) (.cons h2.dp .nil))
theorem shaped_d1 (ns : List Int) (ps : List (List Int)) : SeqAt.shaped (d1 ns ps) = true := by
  have h1 := dep_dI ps
  have e : (d1 ns ps).depth ≤ 64 := by simp only [d1, dTT, PyData.depth, PyData.depthAll, dI_dep]; omega
  show ((d1 ns ps).canLay0 && decide ((d1 ns ps).depth ≤ 64)) = true
  rw [decide_eq_true e, Bool.and_true]
  simp only [d1, dTT, PyData.canLay0, PyData.canLayAll0, lay_dI, dI_lay, Bool.and_self]
theorem eqv_d1 (ns ms : List Int) (ps qs : List (List Int)) : PyData.eqv (d1 ns ps) (d1 ms qs) = (decide (ns = ms) && decide (ps = qs)) := by
  simp only [d1, PyData.eqv, PyData.eqvAll, eqvI, eqvTT, Bool.and_true]
end RV
namespace RV
/-! ### rings: runs of marks, by the list of all their marks -/
/-- so many times the word -/
def rp (n : Nat) (w : List Int) : List Int := (List.replicate n w).flatten
theorem rp_zero (w : List Int) : rp 0 w = [] := rfl
theorem rp_succ (n : Nat) (w : List Int) : rp (n + 1) w = w ++ rp n w := by unfold rp; rw [List.replicate_succ, List.flatten_cons]
theorem rp_one (w : List Int) : rp 1 w = w := by rw [rp_succ, rp_zero, List.append_nil]
theorem rp_add (a b : Nat) (w : List Int) : rp (a + b) w = rp a w ++ rp b w := by unfold rp; rw [← List.replicate_append_replicate, List.flatten_append]
theorem rp_len : ∀ (n : Nat) (w : List Int), (rp n w).length = n * w.length
  | 0, w => by rw [rp_zero, Nat.zero_mul]; rfl
  | n + 1, w => by rw [rp_succ, List.length_append, rp_len n w, Nat.succ_mul, Nat.add_comm]
theorem rp_get : ∀ (n : Nat) (w : List Int) (i : Nat), i < n * w.length → (rp n w)[i]? = w[i % w.length]?
  | 0, w, i, h => by rw [Nat.zero_mul] at h; omega
  | n + 1, w, i, h => by
    rw [rp_succ]
    rcases Nat.lt_or_ge i w.length with z | z
    · rw [List.getElem?_append_left z, Nat.mod_eq_of_lt z]
    · rw [List.getElem?_append_right z, rp_get n w _ (by rw [Nat.succ_mul] at h; omega), Nat.mod_eq_sub_mod z]
theorem rp_rev : ∀ (n : Nat) (w : List Int), (rp n w).reverse = rp n w.reverse
  | 0, w => rfl
  | n + 1, w => by rw [rp_succ, List.reverse_append, rp_rev n w, show n + 1 = n + 1 from rfl, rp_add, rp_one]
theorem rp_map (f : Int → Int) : ∀ (n : Nat) (w : List Int), (rp n w).map f = rp n (w.map f)
  | 0, w => rfl
  | n + 1, w => by rw [rp_succ, List.map_append, rp_map f n w, rp_succ]
/-- all marks of the runs -/
def mk : List (Int × List Int) → List Int
  | [] => []
  | r :: rs => rp r.1.toNat r.2 ++ mk rs
theorem mk_app : ∀ (a b : List (Int × List Int)), mk (a ++ b) = mk a ++ mk b
  | [], b => rfl
  | r :: a, b => by show rp r.1.toNat r.2 ++ mk (a ++ b) = rp r.1.toNat r.2 ++ mk a ++ mk b; rw [mk_app a b, List.append_assoc]
theorem mk_one (t : Int) (w : List Int) : mk [(t, w)] = rp t.toNat w := by show rp t.toNat w ++ [] = _; rw [List.append_nil]
/-- how many places a run takes -/
def rl (r : Int × List Int) : Int := r.1 * (r.2.length : Int)
def pl (rs : List (Int × List Int)) : Int := (rs.map rl).sum
theorem pl_cons (r : Int × List Int) (rs : List (Int × List Int)) : pl (r :: rs) = rl r + pl rs := by unfold pl; rw [List.map_cons, List.sum_cons]
theorem pl_app (a b : List (Int × List Int)) : pl (a ++ b) = pl a + pl b := by unfold pl; rw [List.map_append, List.sum_append_int]
/-- runs as rings have them -/
def Rn (rs : List (Int × List Int)) : Prop := ∀ r ∈ rs, 1 ≤ r.1 ∧ r.2 ≠ []
theorem rl_pos {r : Int × List Int} (h : 1 ≤ r.1 ∧ r.2 ≠ []) : 0 < rl r := Int.mul_pos (by omega) (by have := List.length_pos_iff.mpr h.2; omega)
theorem rl_nat {r : Int × List Int} (h : 0 ≤ r.1) : ((r.1.toNat * r.2.length : Nat) : Int) = rl r := by
  unfold rl; rw [Int.natCast_mul, Int.toNat_of_nonneg h]
theorem mk_len : ∀ {rs : List (Int × List Int)}, (∀ r ∈ rs, 0 ≤ r.1) → ((mk rs).length : Int) = pl rs
  | [], _ => rfl
  | r :: rs, h => by
    show (((rp r.1.toNat r.2 ++ mk rs).length : Nat) : Int) = _
    rw [List.length_append, Int.natCast_add, mk_len fun q hq => h q (List.mem_cons_of_mem _ hq), pl_cons, rp_len, rl_nat (h r (List.mem_cons_self ..))]
theorem Rn.nn {rs : List (Int × List Int)} (h : Rn rs) : ∀ r ∈ rs, 0 ≤ r.1 := fun r hr => by have := (h r hr).1; omega
theorem Rn.sub {rs qs : List (Int × List Int)} (h : Rn rs) (s : ∀ q ∈ qs, q ∈ rs) : Rn qs := fun q hq => h q (s q hq)
theorem Rn.pos {rs : List (Int × List Int)} (h : Rn rs) (n : rs ≠ []) : 0 < pl rs := by
  cases rs with
  | nil => exact absurd rfl n
  | cons r rs =>
    have h1 := rl_pos (h r (List.mem_cons_self ..))
    have h2 : 0 ≤ pl rs := by rw [← mk_len (Rn.nn (h.sub fun q hq => List.mem_cons_of_mem _ hq))]; omega
    rw [pl_cons]; omega
theorem pl_nn {rs : List (Int × List Int)} (h : ∀ r ∈ rs, 0 ≤ r.1) : 0 ≤ pl rs := by rw [← mk_len h]; omega
theorem split_at {α : Type} {rs : List α} {a : Nat} {r : α} (h : rs[a]? = some r) : rs = rs.take a ++ r :: rs.drop (a + 1) := by
  have hl := (List.getElem?_eq_some_iff.mp h)
  obtain ⟨hl, e⟩ := hl
  conv => lhs; rw [← List.take_append_drop a rs]
  rw [List.drop_eq_getElem_cons hl, e]
theorem mk_at {rs : List (Int × List Int)} (hn : ∀ r ∈ rs, 0 ≤ r.1) {a : Nat} {r : Int × List Int} (h : rs[a]? = some r) {i : Nat} (hi : (i : Int) < rl r) : (mk rs)[(pl (rs.take a)).toNat + i]? = r.2[i % r.2.length]? := by
  have e := split_at h
  have n1 : ∀ q ∈ rs.take a, 0 ≤ q.1 := fun q hq => hn q (List.mem_of_mem_take hq)
  have l1 := mk_len n1
  have hr0 : 0 ≤ r.1 := hn r (List.mem_of_getElem? h)
  have ln : i < r.1.toNat * r.2.length := by have z := rl_nat (r := r) hr0; omega
  have key : (mk (rs.take a ++ r :: rs.drop (a + 1)))[(pl (rs.take a)).toNat + i]? = r.2[i % r.2.length]? := by
   rw [mk_app]
   show (mk (rs.take a) ++ (rp r.1.toNat r.2 ++ mk (rs.drop (a + 1))))[_]? = _
   rw [List.getElem?_append_right (by omega), show (pl (rs.take a)).toNat + i - (mk (rs.take a)).length = i by omega, List.getElem?_append_left (by rw [rp_len]; exact ln), rp_get _ _ _ ln]
  rw [← e] at key; exact key
/-- the mark at a place, counted on round the ring -/
def mP (l : List Int) (p : Int) : Int := l.getD (p % (l.length : Int)).toNat 0
theorem mP_get {l : List Int} {i : Nat} (h : i < l.length) : mP l (i : Int) = l.getD i 0 := by
  unfold mP; rw [Int.emod_eq_of_lt (by omega) (by omega), Int.toNat_natCast]
theorem mP_mod (l : List Int) (p q : Int) (h : (p - q) % (l.length : Int) = 0) : mP l p = mP l q := by
  unfold mP
  rw [Int.emod_emod_of_dvd p (Int.dvd_refl _) |>.symm, (Int.emod_eq_emod_iff_emod_sub_eq_zero).mpr h, Int.emod_emod_of_dvd q (Int.dvd_refl _)]
theorem mP_add (l : List Int) (p : Int) (k : Int) : mP l (p + (l.length : Int) * k) = mP l p := by
  apply mP_mod
  rw [show p + (l.length : Int) * k - p = (l.length : Int) * k by omega, Int.mul_emod_right]
theorem mP_rest (l : List Int) (p : Int) : mP l (p % (l.length : Int)) = mP l p := by
  apply mP_mod
  rw [Int.sub_emod, Int.emod_emod_of_dvd p (Int.dvd_refl _), Int.sub_self, Int.zero_emod]
/-- a place within: nonneg rest -/
theorem rest_in {l : List Int} (h : l ≠ []) (p : Int) : 0 ≤ p % (l.length : Int) ∧ p % (l.length : Int) < (l.length : Int) := by
  have := List.length_pos_iff.mpr h
  exact ⟨Int.emod_nonneg _ (by omega), Int.emod_lt_of_pos _ (by omega)⟩
theorem mP_rot {A B : List Int} (h : A ++ B ≠ []) (p : Int) : mP (B ++ A) p = mP (A ++ B) (p + (A.length : Int)) := by
  have hl : ((B ++ A).length : Int) = ((A ++ B).length : Int) := by rw [List.length_append, List.length_append]; omega
  have hN : ((A ++ B).length : Int) = (A.length : Int) + (B.length : Int) := by rw [List.length_append]; omega
  have h' : B ++ A ≠ [] := fun z => h (by rw [List.append_eq_nil_iff] at z ⊢; exact ⟨z.2, z.1⟩)
  obtain ⟨i, hi⟩ : ∃ i : Nat, (i : Int) = p % ((B ++ A).length : Int) := ⟨(p % ((B ++ A).length : Int)).toNat, by have := (rest_in h' p).1; omega⟩
  have b := (rest_in h' p).2
  have e1 : mP (B ++ A) p = (B ++ A).getD i 0 := by rw [← mP_rest, ← hi, mP_get (by omega)]
  rw [e1]
  have hm : (p - (i : Int)) % ((A ++ B).length : Int) = 0 := by
    rw [hi, hl, Int.sub_emod, Int.emod_emod_of_dvd p (Int.dvd_refl _), Int.sub_self, Int.zero_emod]
  have e2 : mP (A ++ B) (p + (A.length : Int)) = mP (A ++ B) ((i : Int) + (A.length : Int)) := mP_mod _ _ _ (by rw [show p + (A.length : Int) - ((i : Int) + (A.length : Int)) = p - (i : Int) by omega]; exact hm)
  rw [e2]
  rcases Nat.lt_or_ge i B.length with z | z
  · rw [show (i : Int) + (A.length : Int) = ((A.length + i : Nat) : Int) by omega, mP_get (by rw [List.length_append]; omega), List.getD_eq_getElem?_getD, List.getD_eq_getElem?_getD, List.getElem?_append_left z, List.getElem?_append_right (by omega), show A.length + i - A.length = i by omega]
  · have e3 : mP (A ++ B) ((i : Int) + (A.length : Int)) = mP (A ++ B) ((i - B.length : Nat) : Int) := mP_mod _ _ _ (by
      rw [show (i : Int) + (A.length : Int) - ((i - B.length : Nat) : Int) = ((A ++ B).length : Int) * 1 by omega, Int.mul_emod_right])
    rw [← hi, hl, hN] at b
    rw [e3, mP_get (by rw [List.length_append]; omega), List.getD_eq_getElem?_getD, List.getD_eq_getElem?_getD, List.getElem?_append_right z, List.getElem?_append_left (by omega)]
theorem mP_back {l : List Int} (h : l ≠ []) (f : Int → Int) (p : Int) : mP (l.reverse.map f) p = f (mP l ((l.length : Int) - 1 - p)) := by
  have hl : ((l.reverse.map f).length : Int) = (l.length : Int) := by rw [List.length_map, List.length_reverse]
  obtain ⟨i, hi⟩ : ∃ i : Nat, (i : Int) = p % (l.length : Int) := ⟨(p % (l.length : Int)).toNat, by have := (rest_in h p).1; omega⟩
  have b := (rest_in h p).2
  rw [← hi] at b
  have il : i < l.length := by omega
  have e1 : mP (l.reverse.map f) p = (l.reverse.map f).getD i 0 := by rw [← mP_rest, hl, ← hi, mP_get (by omega)]
  have e2 : mP l ((l.length : Int) - 1 - p) = mP l ((l.length - 1 - i : Nat) : Int) := mP_mod _ _ _ (by
    rw [show (l.length : Int) - 1 - p - ((l.length - 1 - i : Nat) : Int) = (i : Int) - p by omega, hi, Int.sub_emod, Int.emod_emod_of_dvd p (Int.dvd_refl _), Int.sub_self, Int.zero_emod])
  rw [e1, e2, mP_get (by omega), List.getD_eq_getElem?_getD, List.getD_eq_getElem?_getD, List.getElem?_map, List.getElem?_reverse il]
  rw [List.getElem?_eq_getElem (show l.length - 1 - i < l.length by omega)]; rfl
/-! ### closed round -/
/-- each mark may stand behind the one ahead of it, all round -/
def Cyc (ps : List (List Int)) (l : List Int) : Prop := ∀ p : Int, [mP l p, mP l (p + 1)] ∈ ps
theorem Cyc.rot {ps : List (List Int)} {A B : List Int} (h : A ++ B ≠ []) (c : Cyc ps (A ++ B)) : Cyc ps (B ++ A) := fun p => by
  rw [mP_rot h, mP_rot h, show p + 1 + (A.length : Int) = p + (A.length : Int) + 1 by omega]; exact c _
theorem Cyc.back {ps : List (List Int)} {l : List Int} {f : Int → Int} (h : l ≠ []) (hf : ∀ a b, a ∈ l → b ∈ l → [a, b] ∈ ps → [f b, f a] ∈ ps) (hm : ∀ p, mP l p ∈ l) (c : Cyc ps l) : Cyc ps (l.reverse.map f) := fun p => by
  rw [mP_back h, mP_back h]
  have := c ((l.length : Int) - 1 - (p + 1))
  rw [show (l.length : Int) - 1 - (p + 1) + 1 = (l.length : Int) - 1 - p by omega] at this
  exact hf _ _ (hm _) (hm _) this
theorem mP_mem {l : List Int} (h : l ≠ []) (p : Int) : mP l p ∈ l := by
  have b := rest_in h p
  unfold mP
  rw [List.getD_eq_getElem?_getD, List.getElem?_eq_getElem (show (p % (l.length : Int)).toNat < l.length by omega)]
  exact List.getElem_mem _
/-- a walk from the mark x round and back to it -/
def Loop (ps : List (List Int)) (x : Int) (l : List Int) : Prop := (∀ y, l[0]? = some y → y = x) ∧ (∀ i a b, l[i]? = some a → (l ++ [x])[i + 1]? = some b → [a, b] ∈ ps)
theorem Loop.nil (ps : List (List Int)) (x : Int) : Loop ps x [] := ⟨(fun _ h => nomatch h), fun _ _ _ h => nomatch h⟩
theorem Loop.app {ps : List (List Int)} {x : Int} {u v : List Int} (hu : Loop ps x u) (hv : Loop ps x v) : Loop ps x (u ++ v) := by
  constructor
  · intro y hy
    cases u with
    | nil => exact hv.1 y hy
    | cons a u => exact hu.1 y hy
  · intro i a b ha hb
    rcases Nat.lt_or_ge i u.length with z | z
    · rw [List.getElem?_append_left z] at ha
      refine hu.2 i a b ha ?_
      rcases Nat.lt_or_ge (i + 1) u.length with z2 | z2
      · rw [List.append_assoc, List.getElem?_append_left z2] at hb
        rw [List.getElem?_append_left z2]; exact hb
      · rw [List.append_assoc, List.getElem?_append_right z2] at hb
        rw [List.getElem?_append_right z2]
        rw [show i + 1 - u.length = 0 by omega] at hb ⊢
        cases v with
        | nil => exact hb
        | cons c v =>
          rw [show ((c :: v) ++ [x])[0]? = some c from rfl] at hb
          cases hb
          rw [hv.1 _ rfl]; rfl
    · rw [List.getElem?_append_right z] at ha
      rw [List.append_assoc, List.getElem?_append_right (by omega), show i + 1 - u.length = i - u.length + 1 by omega] at hb
      exact hv.2 _ a b ha hb
theorem Loop.rp {ps : List (List Int)} {x : Int} {w : List Int} (h : Loop ps x w) : ∀ n, Loop ps x (rp n w)
  | 0 => Loop.nil ps x
  | n + 1 => by rw [rp_succ]; exact h.app (Loop.rp h n)
theorem Loop.cyc {ps : List (List Int)} {x : Int} {l : List Int} (h : Loop ps x l) (n : l ≠ []) : Cyc ps l := fun p => by
  obtain ⟨i, hi⟩ : ∃ i : Nat, (i : Int) = p % (l.length : Int) := ⟨(p % (l.length : Int)).toNat, by have := (rest_in n p).1; omega⟩
  have b := (rest_in n p).2
  rw [← hi] at b
  have il : i < l.length := by omega
  have e1 : mP l p = mP l (i : Int) := by rw [hi, mP_rest]
  have e2 : mP l (p + 1) = mP l ((i : Int) + 1) := mP_mod _ _ _ (by rw [show p + 1 - ((i : Int) + 1) = p - i by omega, hi, Int.sub_emod, Int.emod_emod_of_dvd p (Int.dvd_refl _), Int.sub_self, Int.zero_emod])
  rw [e1, e2, mP_get il]
  refine h.2 i _ _ (by rw [List.getD_eq_getElem?_getD, List.getElem?_eq_getElem il]; rfl) ?_
  rcases Nat.lt_or_ge (i + 1) l.length with z | z
  · rw [List.getElem?_append_left z, show (i : Int) + 1 = ((i + 1 : Nat) : Int) by omega, mP_get z, List.getD_eq_getElem?_getD, List.getElem?_eq_getElem z]; rfl
  · rw [List.getElem?_append_right z, show i + 1 - l.length = 0 by omega]
    have e3 : mP l ((i : Int) + 1) = mP l ((0 : Nat) : Int) := mP_mod _ _ _ (by rw [show (i : Int) + 1 - ((0 : Nat) : Int) = (l.length : Int) * 1 by omega, Int.mul_emod_right])
    have l0 : 0 < l.length := by omega
    rw [e3, mP_get l0, List.getD_eq_getElem?_getD, List.getElem?_eq_getElem l0]
    rw [h.1 l[0] (List.getElem?_eq_getElem l0)]; rfl
end RV
namespace RV
open PySem PySem.Spec PyProof.Rows L2
/-! ### what repr asks of rings: runs of marks, times to forty figures -/
theorem log_big {i : Int} (h : i.natAbs < 10 ^ 40) : i.natAbs.log2 < 1920 := by
  rcases Nat.eq_zero_or_pos i.natAbs with e | e
  · rw [e]; decide
  · have h1 : i.natAbs < 2 ^ 133 := Nat.lt_of_lt_of_le h (by decide)
    have h2 : i.natAbs.log2 < 133 := (Nat.log2_lt (by omega)).mpr h1
    omega
theorem len_big {i : Int} (h : i.natAbs < 10 ^ 40) : (PyData.shown (.int i)).length ≤ 41 := by
  have e := int_text_length_le10 (k := 40) (by decide) h
  show (Str.ofString (toString i)).length ≤ 41
  rw [PySem.ofString_length]
  exact e
theorem shows_of {d : PyData} (lay : d.canLay0 = true) (sh : d.showable = true) (si : d.intsShort 41 = true) (dep : d.depth ≤ 64) (bk : d.bulk ≤ 200000) : Shows d := by
  refine ⟨sh, PyData.hasDict_of_canLay _ lay, dep, ?_⟩
  have z := PyData.shown_le_bulk 41 (by decide) d (PyData.leavesShort_of_canLay0 41 _ lay si)
  have z2 : (41 + 2) * d.bulk ≤ 43 * 200000 := Nat.mul_le_mul_left 43 bk
  rw [sizeLine_eq]; omega
theorem show_bigs : ∀ ns : List Int, (∀ n ∈ ns, n.natAbs < 10 ^ 40) → PyData.showableAll (ns.map PyData.int) = true ∧ PyData.intsShortAll 41 (ns.map PyData.int) = true
  | [], _ => ⟨by simp [PyData.showableAll], by simp [PyData.intsShortAll]⟩
  | n :: r, h => by
    have h1 := h n (List.mem_cons_self ..)
    have h2 := show_bigs r fun m hm => h m (List.mem_cons_of_mem _ hm)
    exact ⟨by simp [PyData.showableAll, PyData.showable, log_big h1, h2.1], by simp [PyData.intsShortAll, PyData.intsShort, len_big h1, h2.2]⟩
def dRun (r : Int × List Int) : PyData := .tuple [.int r.1, dI r.2]
def dRg (rs : List (Int × List Int)) : PyData := .tuple (rs.map dRun)
theorem lay_runs : ∀ rs : List (Int × List Int), PyData.canLayAll0 (rs.map dRun) = true
  | [] => by simp [PyData.canLayAll0]
  | r :: rs => by simp [PyData.canLayAll0, dRun, PyData.canLay0, dI_lay, lay_runs rs]
theorem dep_runs : ∀ rs : List (Int × List Int), PyData.depthAll (rs.map dRun) ≤ 2
  | [] => by simp [PyData.depthAll]
  | r :: rs => by
    have h := dep_runs rs
    have h1 : (dRun r).depth = 2 := by simp [dRun, PyData.depth, PyData.depthAll, dI_dep]
    simp only [List.map_cons, PyData.depthAll, h1]; omega
theorem show_runs : ∀ rs : List (Int × List Int), (∀ r ∈ rs, r.1.natAbs < 10 ^ 40 ∧ ∀ n ∈ r.2, n.natAbs < 10 ^ 40) → PyData.showableAll (rs.map dRun) = true ∧ PyData.intsShortAll 41 (rs.map dRun) = true
  | [], _ => ⟨by simp [PyData.showableAll], by simp [PyData.intsShortAll]⟩
  | r :: rs, h => by
    obtain ⟨h1, h2⟩ := h r (List.mem_cons_self ..)
    have h3 := show_runs rs fun q hq => h q (List.mem_cons_of_mem _ hq)
    have h4 := show_bigs r.2 h2
    have a1 : (dI r.2).showable = true := by simp only [dI, PyData.showable]; exact h4.1
    have a2 : (dI r.2).intsShort 41 = true := by simp only [dI, PyData.intsShort]; exact h4.2
    exact ⟨by simp [PyData.showableAll, dRun, PyData.showable, log_big h1, a1, h3.1], by simp [PyData.intsShortAll, dRun, PyData.intsShort, len_big h1, a2, h3.2]⟩
theorem bulk_runs : ∀ (rs : List (Int × List Int)) (k : Nat), (∀ r ∈ rs, r.2.length ≤ k) → PyData.bulkAll (rs.map dRun) ≤ (k + 3) * rs.length
  | [], _, _ => by simp [PyData.bulkAll]
  | r :: rs, k, h => by
    have h1 : (dI r.2).bulk = r.2.length := by simp only [dI, PyData.bulk, bulk_ints]
    have h2 := bulk_runs rs k fun q hq => h q (List.mem_cons_of_mem _ hq)
    have h3 := h r (List.mem_cons_self ..)
    have h4 : (dRun r).bulk ≤ r.2.length + 2 := by simp only [dRun, PyData.bulk, PyData.bulkAll, h1]; omega
    simp only [List.map_cons, PyData.bulkAll, List.length_cons, Nat.mul_succ]; omega
theorem shows_dRg {rs : List (Int × List Int)} (h : ∀ r ∈ rs, r.1.natAbs < 10 ^ 40 ∧ ∀ n ∈ r.2, n.natAbs < 10 ^ 40) (hw : ∀ r ∈ rs, r.2.length ≤ 1000) (hl : rs.length ≤ 100) : Shows (dRg rs) := by
  have h1 := show_runs rs h
  have h2 := dep_runs rs
  have h3 := bulk_runs rs 1000 hw
  have h4 : (1000 + 3) * rs.length ≤ 1003 * 100 := Nat.mul_le_mul_left _ hl
  refine shows_of ?_ ?_ ?_ ?_ ?_
  · simp only [dRg, PyData.canLay0]; exact lay_runs rs
  · simp only [dRg, PyData.showable]; exact h1.1
  · simp only [dRg, PyData.intsShort]; exact h1.2
  · simp only [dRg, PyData.depth]; omega
  · simp only [dRg, PyData.bulk]; omega
end RV
set_option maxHeartbeats 4000000
/-! things of any kind, as data -/
namespace RV
open PySem PySem.Spec PyProof.Rows L2
mutual
theorem Dp.same {K : PySem.W.Frag} {H H' : Hp} (s : Same H H') : ∀ {v : V} {d : PyData}, Dp K H v d → Dp K H' v d
  | _, _, .non => .non
  | _, _, .bl b => .bl b
  | _, _, .int i => .int i
  | _, _, .str x => .str x
  | _, _, .lst h1 h2 => .lst (sqL_same s h1) (DpAll.same s h2)
  | _, _, .tup h1 h2 => .tup (sqT_same s h1) (DpAll.same s h2)
theorem DpAll.same {K : PySem.W.Frag} {H H' : Hp} (s : Same H H') : ∀ {vs : List V} {ds : List PyData}, DpAll K H vs ds → DpAll K H' vs ds
  | _, _, .nil => .nil
  | _, _, .cons h1 h2 => .cons (Dp.same s h1) (DpAll.same s h2)
end
section
variable {K : PySem.W.Frag} {H H' : Hp}
theorem DpAll.len : ∀ {vs : List V} {ds : List PyData}, DpAll K H vs ds → vs.length = ds.length
  | _, _, .nil => rfl
  | _, _, .cons _ h => by rw [List.length_cons, List.length_cons, DpAll.len h]
theorem DpAll.at : ∀ {vs : List V} {ds : List PyData}, DpAll K H vs ds → ∀ {i : Nat} {v : V}, vs[i]? = some v → ∃ d, ds[i]? = some d ∧ Dp K H v d
  | _, _, .nil, _, _, e => by cases e
  | _, _, .cons h1 h2, 0, _, e => by cases e; exact ⟨_, rfl, h1⟩
  | _, _, .cons h1 h2, i + 1, _, e => DpAll.at h2 (i := i) e
theorem DpAll.app : ∀ {vs us : List V} {ds es : List PyData}, DpAll K H vs ds → DpAll K H us es → DpAll K H (vs ++ us) (ds ++ es)
  | _, _, _, _, .nil, h => h
  | _, _, _, _, .cons h1 h2, h => .cons h1 (DpAll.app h2 h)
theorem DpAll.take : ∀ {vs : List V} {ds : List PyData} (n : Nat), DpAll K H vs ds → DpAll K H (vs.take n) (ds.take n)
  | _, _, 0, _ => .nil
  | _, _, n + 1, .nil => .nil
  | _, _, n + 1, .cons h1 h2 => .cons h1 (DpAll.take n h2)
theorem DpAll.drop : ∀ {vs : List V} {ds : List PyData} (n : Nat), DpAll K H vs ds → DpAll K H (vs.drop n) (ds.drop n)
  | _, _, 0, h => h
  | _, _, n + 1, .nil => .nil
  | _, _, n + 1, .cons h1 h2 => DpAll.drop n h2
theorem DpAll.rev : ∀ {vs : List V} {ds : List PyData}, DpAll K H vs ds → DpAll K H vs.reverse ds.reverse
  | _, _, .nil => .nil
  | _, _, .cons h1 h2 => by
    rw [List.reverse_cons, List.reverse_cons]
    exact DpAll.app (DpAll.rev h2) (.cons h1 .nil)
theorem DpAll.put : ∀ {vs : List V} {ds : List PyData}, DpAll K H vs ds → ∀ {v : V} {d : PyData}, Dp K H v d → DpAll K H (vs ++ [v]) (ds ++ [d]) := fun h _ _ g => DpAll.app h (.cons g .nil)
/-- its type's name -/
def tnD : PyData → String
  | .none => "NoneType"
  | .bool _ => "bool"
  | .int _ => "int"
  | .str _ => "str"
  | .list _ => "list"
  | .tuple _ => "tuple"
  | .dict _ => "dict"
theorem tyL {a : Addr} {xs : List V} (h : SqL K H a xs) : TyX K H (.ref a) (.type "list") := by
  rcases h with (h | ⟨o, h⟩) | ⟨o, its, n, h1, h2, _⟩
  · exact .base (.lst h)
  · exact .base (.frz h)
  · exact .kList h1 h2
theorem tyD {v : V} {d : PyData} (h : Dp K H v d) : TyX K H v (.type (tnD d)) := by
  cases h with
  | non => exact .base .non
  | bl b => exact .base (.bl b)
  | int i => exact .base (.int i)
  | str x => exact .base (.str x)
  | lst h1 h2 => exact tyL h1
  | tup h1 h2 => exact tyT h1
/-- what isinstance(x, t) tells of data -/
def isiD (d : PyData) (t : String) : Bool := tnD d == t || (tnD d == "bool" && t == "int")
theorem kit_N : ∀ a ∈ ["NoneType", "bool", "int", "str", "list", "tuple", "dict"], ∀ b ∈ ["int", "bool", "tuple", "str"], kitB a b = some (a == b || (a == "bool" && b == "int")) := by decide +kernel
theorem tn_in (d : PyData) : tnD d ∈ ["NoneType", "bool", "int", "str", "list", "tuple", "dict"] := by cases d <;> simp [tnD]
theorem kit_D {d : PyData} {t : String} (ht : t = "int" ∨ t = "bool" ∨ t = "tuple" ∨ t = "str") : PySem.W.kitOne K (Value.type (tnD d)) (Value.type t) = some (isiD d t) := by
  exact kit_ty (kit_N _ (tn_in d) t (by rcases ht with rfl | rfl | rfl | rfl <;> simp))
theorem isi_D {v : V} {d : PyData} {t : String} {Q : VK} (h : Dp K H v d) (ht : t = "int" ∨ t = "bool" ∨ t = "tuple" ∨ t = "str") (q : Q (.bl (isiD d t)) H) : rIsi K [v, .ty t] H Q :=
  ⟨v, .ty t, .type (tnD d), .type t, isiD d t, rfl, .ty t, tyD h, kit_D ht, q⟩
end
/-! ### all of a list's things -/
theorem lay_all : ∀ {ds : List PyData}, PyData.canLayAll0 ds = true ↔ ∀ e ∈ ds, e.canLay0 = true
  | [] => by simp [PyData.canLayAll0]
  | d :: ds => by simp [PyData.canLayAll0, lay_all (ds := ds)]
theorem show_all : ∀ {ds : List PyData}, PyData.showableAll ds = true ↔ ∀ e ∈ ds, e.showable = true
  | [] => by simp [PyData.showableAll]
  | d :: ds => by simp [PyData.showableAll, show_all (ds := ds)]
theorem short_all : ∀ {ds : List PyData}, PyData.intsShortAll 41 ds = true ↔ ∀ e ∈ ds, e.intsShort 41 = true
  | [] => by simp [PyData.intsShortAll]
  | d :: ds => by simp [PyData.intsShortAll, short_all (ds := ds)]
theorem depth_all {n : Nat} : ∀ {ds : List PyData}, PyData.depthAll ds ≤ n ↔ ∀ e ∈ ds, e.depth ≤ n
  | [] => by simp [PyData.depthAll]
  | d :: ds => by simp only [PyData.depthAll, List.mem_cons, forall_eq_or_imp, ← depth_all (ds := ds)]; omega
theorem bulk_app : ∀ (ds es : List PyData), PyData.bulkAll (ds ++ es) = PyData.bulkAll ds + PyData.bulkAll es
  | [], es => by simp [PyData.bulkAll]
  | d :: ds, es => by rw [List.cons_append]; simp only [PyData.bulkAll, bulk_app ds es]; omega
theorem bulk_one (d : PyData) : PyData.bulkAll [d] = d.bulk + 1 := by simp [PyData.bulkAll]
theorem bulk_len : ∀ ds : List PyData, ds.length ≤ PyData.bulkAll ds
  | [] => Nat.zero_le _
  | d :: ds => by have := bulk_len ds; simp only [PyData.bulkAll, List.length_cons]; omega
theorem bulk_mem : ∀ {ds : List PyData} {e : PyData}, e ∈ ds → e.bulk ≤ PyData.bulkAll ds
  | d :: ds, e, h => by
    rcases List.mem_cons.mp h with z | z
    · subst z; simp only [PyData.bulkAll]; omega
    · have := bulk_mem z; simp only [PyData.bulkAll]; omega
theorem bulk_rev (ds : List PyData) : PyData.bulkAll ds.reverse = PyData.bulkAll ds := by
  induction ds with
  | nil => rfl
  | cons d ds ih => rw [List.reverse_cons, bulk_app, ih, bulk_one]; simp only [PyData.bulkAll]; omega
theorem bulk_take (n : Nat) (ds : List PyData) : PyData.bulkAll (ds.take n) + PyData.bulkAll (ds.drop n) = PyData.bulkAll ds := by
  rw [← bulk_app, List.take_append_drop]
/-- data that may be shown and compared: so deep, so much -/
structure Gd (d : PyData) (n m : Nat) : Prop where
  lay : d.canLay0 = true
  sh : d.showable = true
  si : d.intsShort 41 = true
  dep : d.depth ≤ n
  bk : d.bulk ≤ m
theorem Gd.up {d : PyData} {n m n' m' : Nat} (h : Gd d n m) (h1 : n ≤ n') (h2 : m ≤ m') : Gd d n' m' := ⟨h.lay, h.sh, h.si, Nat.le_trans h.dep h1, Nat.le_trans h.bk h2⟩
theorem Gd.shows {d : PyData} {n m : Nat} (h : Gd d n m) (hn : n ≤ 64) (hm : m ≤ 200000) : Shows d := shows_of h.lay h.sh h.si (by have := h.dep; omega) (by have := h.bk; omega)
theorem Gd.shaped {d : PyData} {n m : Nat} (h : Gd d n m) (hn : n ≤ 64) : SeqAt.shaped d = true := by
  show (d.canLay0 && decide (d.depth ≤ 64)) = true
  rw [h.lay, decide_eq_true (Nat.le_trans h.dep hn)]; rfl
theorem gd_int {n : Int} (h : n.natAbs < 10 ^ 40) : Gd (.int n) 0 0 :=
  ⟨by simp [PyData.canLay0], by simp [PyData.showable, log_big h], by simp [PyData.intsShort, len_big h], by simp [PyData.depth], by simp [PyData.bulk]⟩
theorem gd_bool (b : Bool) : Gd (.bool b) 0 0 := ⟨by simp [PyData.canLay0], by simp [PyData.showable], by simp [PyData.intsShort], by simp [PyData.depth], by simp [PyData.bulk]⟩
theorem gd_none : Gd .none 0 0 := ⟨by simp [PyData.canLay0], by simp [PyData.showable], by simp [PyData.intsShort], by simp [PyData.depth], by simp [PyData.bulk]⟩
theorem gd_tup {ds : List PyData} {n m : Nat} : Gd (.tuple ds) (n + 1) m ↔ (∀ e ∈ ds, Gd e n m) ∧ PyData.bulkAll ds ≤ m := by
  constructor
  · intro h
    have h1 := h.lay
    have h2 := h.sh
    have h3 := h.si
    have h4 := h.dep
    have h5 := h.bk
    simp only [PyData.canLay0] at h1
    simp only [PyData.showable] at h2
    simp only [PyData.intsShort] at h3
    simp only [PyData.depth] at h4
    simp only [PyData.bulk] at h5
    exact ⟨fun e he => ⟨lay_all.mp h1 e he, show_all.mp h2 e he, short_all.mp h3 e he, depth_all.mp (by omega) e he, Nat.le_trans (bulk_mem he) h5⟩, h5⟩
  · rintro ⟨h, hb⟩
    refine ⟨?_, ?_, ?_, ?_, ?_⟩
    · simp only [PyData.canLay0]; exact lay_all.mpr fun e he => (h e he).lay
    · simp only [PyData.showable]; exact show_all.mpr fun e he => (h e he).sh
    · simp only [PyData.intsShort]; exact short_all.mpr fun e he => (h e he).si
    · have := depth_all.mpr fun e he => (h e he).dep
      simp only [PyData.depth]; omega
    · simp only [PyData.bulk]; exact hb
theorem gd_lst {ds : List PyData} {n m : Nat} : Gd (.list ds) (n + 1) m ↔ (∀ e ∈ ds, Gd e n m) ∧ PyData.bulkAll ds ≤ m := by
  constructor
  · intro h
    have h1 := h.lay
    have h2 := h.sh
    have h3 := h.si
    have h4 := h.dep
    have h5 := h.bk
    simp only [PyData.canLay0] at h1
    simp only [PyData.showable] at h2
    simp only [PyData.intsShort] at h3
    simp only [PyData.depth] at h4
    simp only [PyData.bulk] at h5
    exact ⟨fun e he => ⟨lay_all.mp h1 e he, show_all.mp h2 e he, short_all.mp h3 e he, depth_all.mp (by omega) e he, Nat.le_trans (bulk_mem he) h5⟩, h5⟩
  · rintro ⟨h, hb⟩
    refine ⟨?_, ?_, ?_, ?_, ?_⟩
    · simp only [PyData.canLay0]; exact lay_all.mpr fun e he => (h e he).lay
    · simp only [PyData.showable]; exact show_all.mpr fun e he => (h e he).sh
    · simp only [PyData.intsShort]; exact short_all.mpr fun e he => (h e he).si
    · have := depth_all.mpr fun e he => (h e he).dep
      simp only [PyData.depth]; omega
    · simp only [PyData.bulk]; exact hb
end RV
namespace RV
open PySem
theorem isi_int (d : PyData) : isiD d "int" = (match d with | .int _ => true | .bool _ => true | _ => false) := by cases d <;> simp [isiD, tnD]
theorem isi_bool (d : PyData) : isiD d "bool" = (match d with | .bool _ => true | _ => false) := by cases d <;> simp [isiD, tnD]
theorem isi_tup (d : PyData) : isiD d "tuple" = (match d with | .tuple _ => true | _ => false) := by cases d <;> simp [isiD, tnD]
def wholeD : PyData → Bool
  | .int _ => true
  | _ => false
def belowD (n : Int) : PyData → Bool
  | .int i => decide (0 ≤ i) && decide (i < n)
  | _ => false
def marksD (n : Int) : PyData → Bool
  | .tuple ds => decide (0 < ds.length) && ds.all (belowD n)
  | _ => false
def timesD : PyData → Bool
  | .int i => decide (1 ≤ i)
  | _ => false
def runD (n : Int) : PyData → Bool
  | .tuple [t, m] => timesD t && marksD n m
  | _ => false
def formD (n : Int) : PyData → Bool
  | .tuple ds => decide (0 < ds.length) && ds.all (runD n)
  | _ => false
end RV
namespace RV
open PySem PySem.Spec PyProof.Rows L2
/-- the numbers of a tuple, the runs of a ring, read out of data -/
def intD : PyData → Int
  | .int i => i
  | _ => 0
def intsD : PyData → List Int
  | .tuple ds => ds.map intD
  | _ => []
def oneD : PyData → Int × List Int
  | .tuple [t, m] => (intD t, intsD m)
  | _ => (0, [])
def rsD : PyData → List (Int × List Int)
  | .tuple ds => ds.map oneD
  | _ => []
theorem below_int {n : Int} {d : PyData} (h : belowD n d = true) : d = .int (intD d) ∧ 0 ≤ intD d ∧ intD d < n := by
  cases d with
  | int i =>
    have h : (decide (0 ≤ i) && decide (i < n)) = true := h
    rw [Bool.and_eq_true, decide_eq_true_iff, decide_eq_true_iff] at h
    exact ⟨rfl, h⟩
  | none => cases h
  | bool b => cases h
  | str x => cases h
  | list ds => cases h
  | tuple ds => cases h
  | dict ds => cases h
theorem map_id_of {α : Type} {f : α → α} : ∀ {l : List α}, (∀ x ∈ l, f x = x) → l.map f = l
  | [], _ => rfl
  | x :: l, h => by rw [List.map_cons, h x (List.mem_cons_self ..), map_id_of fun y hy => h y (List.mem_cons_of_mem _ hy)]
theorem marks_ints {n : Int} {d : PyData} (h : marksD n d = true) : d = dI (intsD d) ∧ intsD d ≠ [] ∧ ∀ x ∈ intsD d, 0 ≤ x ∧ x < n := by
  cases d with
  | tuple ds =>
    have h : (decide (0 < ds.length) && ds.all (belowD n)) = true := h
    rw [Bool.and_eq_true, decide_eq_true_iff, List.all_eq_true] at h
    refine ⟨?_, fun z => ?_, fun x hx => ?_⟩
    · show PyData.tuple ds = .tuple ((ds.map intD).map PyData.int)
      rw [List.map_map, map_id_of (f := PyData.int ∘ intD) fun x hx => (below_int (h.2 x hx)).1.symm]
    · have z : ds.map intD = [] := z
      rw [List.map_eq_nil_iff] at z
      rw [z] at h
      exact absurd h.1 (Nat.lt_irrefl _)
    · obtain ⟨e, he, rfl⟩ := List.mem_map.mp (show x ∈ ds.map intD from hx)
      exact (below_int (h.2 e he)).2
  | none => cases h
  | bool b => cases h
  | str x => cases h
  | list ds => cases h
  | int ds => cases h
  | dict ds => cases h
theorem run_two {n : Int} {d : PyData} (h : runD n d = true) : ∃ t m, d = .tuple [t, m] ∧ timesD t = true ∧ marksD n m = true := by
  cases d with
  | tuple ds =>
    match ds, h with
    | [t, m], h =>
      have h : (timesD t && marksD n m) = true := h
      rw [Bool.and_eq_true] at h
      exact ⟨t, m, rfl, h⟩
    | [], h => cases h
    | [_], h => cases h
    | _ :: _ :: _ :: _, h => cases h
  | none => cases h
  | bool b => cases h
  | str x => cases h
  | list ds => cases h
  | int ds => cases h
  | dict ds => cases h
theorem times_int {d : PyData} (h : timesD d = true) : d = .int (intD d) ∧ 1 ≤ intD d := by
  cases d with
  | int i => exact ⟨rfl, of_decide_eq_true h⟩
  | none => cases h
  | bool b => cases h
  | str x => cases h
  | list ds => cases h
  | tuple ds => cases h
  | dict ds => cases h
theorem run_is {n : Int} {d : PyData} (h : runD n d = true) : d = dRun (oneD d) ∧ 1 ≤ (oneD d).1 ∧ (oneD d).2 ≠ [] ∧ ∀ x ∈ (oneD d).2, 0 ≤ x ∧ x < n := by
  obtain ⟨t, m, rfl, h1, h2⟩ := run_two h
  have e1 := times_int h1
  have e2 := marks_ints h2
  refine ⟨?_, e1.2, e2.2⟩
  show PyData.tuple [t, m] = .tuple [.int (intD t), dI (intsD m)]
  rw [← e1.1, ← e2.1]
theorem form_tup {n : Int} {d : PyData} (h : formD n d = true) : ∃ ds, d = .tuple ds ∧ 0 < ds.length ∧ ∀ e ∈ ds, runD n e = true := by
  cases d with
  | tuple ds =>
    have h : (decide (0 < ds.length) && ds.all (runD n)) = true := h
    rw [Bool.and_eq_true, decide_eq_true_iff, List.all_eq_true] at h
    exact ⟨ds, rfl, h⟩
  | none => cases h
  | bool b => cases h
  | str x => cases h
  | list ds => cases h
  | int ds => cases h
  | dict ds => cases h
theorem form_is {n : Int} {d : PyData} (h : formD n d = true) : d = dRg (rsD d) ∧ rsD d ≠ [] ∧ ∀ r ∈ rsD d, 1 ≤ r.1 ∧ r.2 ≠ [] ∧ ∀ x ∈ r.2, 0 ≤ x ∧ x < n := by
  obtain ⟨ds, rfl, h1, h2⟩ := form_tup h
  refine ⟨?_, fun z => ?_, fun r hr => ?_⟩
  · show PyData.tuple ds = .tuple ((ds.map oneD).map dRun)
    rw [List.map_map, map_id_of (f := dRun ∘ oneD) fun x hx => (run_is (h2 x hx)).1.symm]
  · have z : ds.map oneD = [] := z
    rw [List.map_eq_nil_iff] at z
    rw [z] at h1
    exact absurd h1 (Nat.lt_irrefl _)
  · obtain ⟨e, he, rfl⟩ := List.mem_map.mp (show r ∈ ds.map oneD from hr)
    exact (run_is (h2 e he)).2
/-- how much: runs and words are no longer -/
theorem run_bulk {rs : List (Int × List Int)} {m : Nat} (h : (dRg rs).bulk ≤ m) : rs.length ≤ m ∧ ∀ r ∈ rs, r.2.length ≤ m := by
  have h : PyData.bulkAll (rs.map dRun) ≤ m := by simpa only [dRg, PyData.bulk] using h
  refine ⟨?_, fun r hr => ?_⟩
  · have := bulk_len (rs.map dRun)
    rw [List.length_map] at this; omega
  · have z := bulk_mem (List.mem_map_of_mem (f := dRun) hr)
    have z2 : (dRun r).bulk = PyData.bulkAll [.int r.1, dI r.2] := by simp only [dRun, PyData.bulk]
    have z3 := bulk_mem (ds := [.int r.1, dI r.2]) (e := dI r.2) (List.mem_cons_of_mem _ (List.mem_cons_self ..))
    have z4 := bulk_len (r.2.map PyData.int)
    have z5 : (dI r.2).bulk = PyData.bulkAll (r.2.map PyData.int) := by simp only [dI, PyData.bulk]
    rw [List.length_map] at z4
    omega
end RV
set_option maxHeartbeats 4000000
namespace RV
open PySem PySem.Spec PyProof.Rows L2
section
variable {X : Cx}
/-- ts.index(t), tuples of ints in a tuple -/
def rIndexTs (K : PySem.W.Frag) : V → List V → Hp → VK → Prop := fun x xs H Q => ∃ (a b : Addr) (ps : List (List Int)) (p : List Int) (j : Nat), x = V.ref a ∧ xs = [V.ref b] ∧ Tups K H a ps ∧ SqT K H b (p.map V.int) ∧ ps[j]? = some p ∧ (∀ m, m < j → ps[m]? ≠ some p) ∧ Q (.int (j : Nat)) H
theorem mt_indexTs (hu : X.A.units + 65 < cLine) : MtR X "tuple.index" (rIndexTs X.K) := by
  intro pins s σ H x xs v us Q I rx rxs h
  obtain ⟨a, b, ps, p, j, rfl, rfl, hT, hb, hj, hno, q⟩ := h
  cases rx
  obtain ⟨u, rfl, ru⟩ := vals1 rxs
  cases ru
  obtain ⟨bs, r1⟩ := Dp.reads I (dI p) (.ref b) (.ref b) (dpT hb) rfl
  have lay := lay_dI ps
  have room : X.A.units + 1 + min (PyData.depthAll (ps.map dI)) (dI p).depth < cLine := by
    have := Nat.min_le_right (PyData.depthAll (ps.map dI)) (dI p).depth
    have e := dI_dep p
    omega
  obtain ⟨ks, rfl, hs, hks⟩ := hT
  obtain ⟨its, rv, ⟨⟨cls, dd, dat, sls⟩, ho, hc, n, hd⟩, hlen⟩ := I.tuple hs
  simp only at hc hd
  subst hc hd
  obtain ⟨as, rall⟩ := Dp.readsAll I ((ks.map (·.2)).map dI) _ its (dpTs ks hks) rv
  have ln : its.length = ((ks.map (·.2)).map dI).length := SeqAt.ReadsAll.length _ its as rall
  have mp : its.map (SeqAt.readOf s.heap) = (ks.map (·.2)).map dI := SeqAt.readsAll_map _ its as lay rall
  have jl : j < its.toArray.size := by
    have := (List.getElem?_eq_some_iff.mp hj).1
    rw [List.size_toArray, ln, List.length_map]; exact this
  have at_ : ∀ (m : Nat) (hm : m < its.toArray.size), ∃ z, (ks.map (·.2))[m]? = some z ∧ SeqAt.readOf s.heap its.toArray[m] = dI z := fun m hm => by
    have hm2 : m < (ks.map (·.2)).length := by rw [List.size_toArray, ln, List.length_map] at hm; exact hm
    refine ⟨_, List.getElem?_eq_getElem hm2, ?_⟩
    have e : (its.map (SeqAt.readOf s.heap))[m]? = some (dI (ks.map (·.2))[m]) := by rw [mp, List.getElem?_map, List.getElem?_eq_getElem hm2]; rfl
    have hml : m < its.length := by simpa using hm
    rw [List.getElem?_map, List.getElem?_eq_getElem hml] at e
    have e' := Option.some.inj e
    simpa using e'
  refine call_meets PySem.F.slot_tuple_index ⟨_, ho, rfl⟩ PySem.F.entry_tuple_index (PySem.F.args_tuple_index_2 _ _) (TI.tuple_indexAt a its.toArray n dd sls (.ref b) (fun y => PyData.eqv (SeqAt.readOf s.heap y) (dI p)) j jl ?_ ?_)
    ⟨ho, SeqAt.items_eqAt (vs := its.toArray) (show ReadsAll s.heap its.toArray.toList _ as from rall) r1 lay (dI_lay p) room, ⟨.int (j : Nat), H, I.tok _, ⟨_, rfl⟩, q⟩⟩
  · obtain ⟨z, e1, e2⟩ := at_ j jl
    rw [hj] at e1
    cases e1
    show PyData.eqv (SeqAt.readOf s.heap its.toArray[j]) (dI p) = true
    rw [e2, eqvI]
    exact decide_eq_true rfl
  · intro m hm hmj
    obtain ⟨z, e1, e2⟩ := at_ m hm
    show PyData.eqv (SeqAt.readOf s.heap its.toArray[m]) (dI p) = false
    rw [e2, eqvI]
    exact decide_eq_false fun e => hno m hmj (by rw [e1, e])
/-- repr(None), repr of a whole number -/
def rReprO : List V → Hp → VK → Prop := fun xs H Q => (∃ i : Int, xs = [.int i] ∧ i.natAbs.log2 < 1920 ∧ Q (.str (toString i)) H) ∨ (xs = [.non] ∧ Q (.str "None") H)
theorem call_reprO : CallR X (.builtin "repr") rReprO := by
  intro pins s σ H xs us Q I r h
  rcases h with h | ⟨rfl, q⟩
  · exact SkE.call_repr_int pins s σ H xs us Q I r h
  · obtain ⟨u, rfl, rx⟩ := vals1 r
    cases (show u = Value.none from rx)
    exact PySem.P.repr_of_none ⟨.str "None", H, I.tok _, ⟨_, rfl⟩, q⟩
theorem op_neDK {K : PySem.W.Frag} (h : X.K = K) (hu : X.A.units + 64 < cLine) : OpR X (compareOp .NotEq) (rNeD K) := h ▸ op_neD hu
end
theorem bulk_any : ∀ (ps : List (List Int)) (k : Nat), (∀ p ∈ ps, p.length ≤ k) → PyData.bulkAll (ps.map dI) ≤ (k + 1) * ps.length
  | [], k, _ => by simp [PyData.bulkAll]
  | p :: r, k, h => by
    have h1 : (dI p).bulk = p.length := by simp only [dI, PyData.bulk, bulk_ints]
    have h2 := bulk_any r k fun m hm => h m (List.mem_cons_of_mem _ hm)
    have h3 := h p (List.mem_cons_self ..)
    simp only [List.map_cons, PyData.bulkAll, h1, List.length_cons, Nat.mul_succ]
    omega
theorem shows_dTT {ps : List (List Int)} (hn : ∀ p ∈ ps, ∀ n ∈ p, n.natAbs < 10 ^ 12) (h1 : ∀ p ∈ ps, p.length ≤ 8) (h2 : ps.length ≤ 64) : Shows (dTT ps) := by
  have lay : (dTT ps).canLay0 = true := by simp only [dTT, PyData.canLay0]; exact lay_dI ps
  refine ⟨by simp only [dTT, PyData.showable]; exact show_dIs ps hn, PyData.hasDict_of_canLay _ lay, ?_, ?_⟩
  · have h := dep_dI ps
    simp only [dTT, PyData.depth]; omega
  · refine PyData.shown_fits_bulk (B := 13) (by decide) (by decide) (PyData.leavesShort_of_canLay0 13 _ lay ?_) ?_
    · simp only [dTT, PyData.intsShort]; exact short_dIs ps hn
    · have b := bulk_any ps 8 h1
      simp only [dTT, PyData.bulk]
      omega
/-! ### lots in order -/
end RV
set_option maxHeartbeats 4000000
/-! repr(x), x data of any kind, an empty dict too -/
namespace RV
open PySem PySem.Spec PyProof.Rows L2
/-- a thing of any kind, an empty dict too -/
def Dz (K : PySem.W.Frag) (H : Hp) (v : V) (d : PyData) : Prop := Dp K H v d ∨ ∃ a, v = .ref a ∧ H a = some (.dK []) ∧ d = .dict []
theorem Dz.same {K : PySem.W.Frag} {H H' : Hp} {v : V} {d : PyData} (h : Dz K H v d) (s : Same H H') : Dz K H' v d := by
  rcases h with h | ⟨a, h1, h2, h3⟩
  · exact .inl (Dp.same s h)
  · exact .inr ⟨a, h1, s _ _ h2, h3⟩
theorem Dz.ty {K : PySem.W.Frag} {H : Hp} {v : V} {d : PyData} (h : Dz K H v d) : TyX K H v (.type (tnD d)) := by
  rcases h with h | ⟨a, rfl, h2, rfl⟩
  · exact tyD h
  · exact .base (.dK h2)
/-- its text -/
def tvD : PyData → Str
  | .int i => (toString i : String)
  | .none => ("None" : String)
  | .bool b => (if b then Str.ofString "True" else Str.ofString "False")
  | .str x => reprText x
  | d => d.shown
/-- what repr can write -/
def TopS : PyData → Prop
  | .int i => i.natAbs.log2 < 1920
  | .str x => (reprText x).length ≤ sizeLine
  | .list ds => Shows (.list ds)
  | .tuple ds => Shows (.tuple ds)
  | _ => True
theorem shown_nil : (PyData.dict []).shown.length ≤ sizeLine ∧ (PyData.dict []).showable = true ∧ (PyData.dict []).depth ≤ 1 := by
  refine ⟨?_, ?_, ?_⟩
  · simp only [PyData.shown]
    rw [sizeLine_eq]
    decide
  · simp [PyData.showable, PyData.showableKv]
  · simp [PyData.depth, PyData.depthKv]
section
variable {X : Cx}
theorem call_bool : CallR X (.builtin "repr") (fun xs H Q => ∃ b : Bool, xs = [.bl b] ∧ Q (.str (if b then Str.ofString "True" else Str.ofString "False")) H) := by
  intro pins s σ H xs us Q I r h
  obtain ⟨b, rfl, q⟩ := h
  obtain ⟨u, rfl, rx⟩ := vals1 r
  cases (show u = Value.bool b from rx)
  exact PySem.P.repr_of_bool ⟨.str _, H, I.tok _, ⟨_, rfl⟩, q⟩
def rReprZ (K : PySem.W.Frag) : List V → Hp → VK → Prop := fun xs H Q => ∃ (v : V) (d : PyData), xs = [v] ∧ Dz K H v d ∧ TopS d ∧ Q (.str (tvD d)) H
theorem call_reprZ (gd : X.A.guards = some []) (hu : X.A.units + 65 < cLine) : CallR X (.builtin "repr") (rReprZ X.K) := by
  intro pins s σ H xs us Q I r h
  obtain ⟨v, d, rfl, hz, hs, q⟩ := h
  rcases hz with hd | ⟨a, rfl, h2, rfl⟩
  · cases hd with
    | non => exact call_reprO pins s σ H _ us Q I r (.inr ⟨rfl, q⟩)
    | int i => exact call_reprO pins s σ H _ us Q I r (.inl ⟨i, rfl, hs, q⟩)
    | bl b => exact call_bool pins s σ H _ us Q I r ⟨b, rfl, q⟩
    | str x =>
      obtain ⟨u, rfl, rx⟩ := vals1 r
      obtain ⟨t, rfl⟩ := (show ∃ t, u = Value.str x t from rx)
      exact PySem.P.repr_of_str ⟨.str _, H, I.tok _, ⟨_, rfl⟩, q⟩ hs
    | tup h1 h2 => exact call_reprD gd hu pins s σ H _ us Q I r ⟨_, _, rfl, .tup h1 h2, hs.h1, hs.h2, hs.h3, hs.h4, q⟩
    | lst h1 h2 => exact call_reprD gd hu pins s σ H _ us Q I r ⟨_, _, rfl, .lst h1 h2, hs.h1, hs.h2, hs.h3, hs.h4, q⟩
  · obtain ⟨u, rfl, ru⟩ := vals1 r
    cases ru
    have ok := I.hok a _ h2
    unfold ObjOk at ok
    obtain ⟨_, hm, vs, kv, o, es, ep, g1, g2, g3, g4, g5, g6⟩ := ok
    have ev : vs = [] := by cases kv; rfl
    subst ev
    have ee : es.toList = [] := by
      cases h : es.toList with
      | nil => rfl
      | cons e r => rw [h] at g5; cases g5
    have rd : Reads s.heap (.ref a) (.dict []) (a :: [] ++ []) := .dict (kvs := []) (as := []) (bs := []) g1 g2.1 g3 (by rw [ee]; exact .nil) (by rw [ee]; exact .nil)
    obtain ⟨n1, n2, n3⟩ := shown_nil
    refine repr_of_reads' rd n2 (fun _ z => ?_) gd (by omega) (fun _ _ z => z) (fun h' uu tk k => ?_) n1
    · have z : sysModules ∈ [a] := z
      rw [← List.mem_singleton.mp z] at hm
      simp at hm
    · exact ⟨.str _, H, I.kept k, ⟨uu, rfl⟩, q⟩
end
end RV
set_option maxHeartbeats 4000000
/-! things of any kind, dicts among them, as data; their text -/
namespace RV
open PySem PySem.Spec PyProof.Rows L2
/-- the dicts that laws write: {}, {0: 0} -/
inductive Dct : List (Key × V) → List (PyData × PyData) → Prop
  | nil : Dct [] []
  | one (i j : Int) : Dct [(Sum.inl i, V.int j)] [(PyData.int i, PyData.int j)]
mutual
inductive Dq (K : PySem.W.Frag) (H : Hp) : V → PyData → Prop
  | non : Dq K H .non .none
  | bl (b : Bool) : Dq K H (.bl b) (.bool b)
  | int (i : Int) : Dq K H (.int i) (.int i)
  | str (x : Str) : Dq K H (.str x) (.str x)
  | lst {a : Addr} {xs : List V} {ds : List PyData} : H a = some (.lst xs) → DqAll K H xs ds → Dq K H (.ref a) (.list ds)
  | tup {a : Addr} {xs : List V} {ds : List PyData} : SqT K H a xs → DqAll K H xs ds → Dq K H (.ref a) (.tuple ds)
  | dct {a : Addr} {kvs : List (Key × V)} {es : List (PyData × PyData)} : H a = some (.dK kvs) → Dct kvs es → Dq K H (.ref a) (.dict es)
inductive DqAll (K : PySem.W.Frag) (H : Hp) : List V → List PyData → Prop
  | nil : DqAll K H [] []
  | cons {v : V} {vs : List V} {d : PyData} {ds : List PyData} : Dq K H v d → DqAll K H vs ds → DqAll K H (v :: vs) (d :: ds)
end
mutual
theorem Dq.same {K : PySem.W.Frag} {H H' : Hp} (s : Same H H') : ∀ {v : V} {d : PyData}, Dq K H v d → Dq K H' v d
  | _, _, .non => .non
  | _, _, .bl b => .bl b
  | _, _, .int i => .int i
  | _, _, .str x => .str x
  | _, _, .lst h1 h2 => .lst (s _ _ h1) (DqAll.same s h2)
  | _, _, .tup h1 h2 => .tup (sqT_same s h1) (DqAll.same s h2)
  | _, _, .dct h1 h2 => .dct (s _ _ h1) h2
theorem DqAll.same {K : PySem.W.Frag} {H H' : Hp} (s : Same H H') : ∀ {vs : List V} {ds : List PyData}, DqAll K H vs ds → DqAll K H' vs ds
  | _, _, .nil => .nil
  | _, _, .cons h1 h2 => .cons (Dq.same s h1) (DqAll.same s h2)
end
section
variable {K : PySem.W.Frag} {H H' : Hp}
theorem DqAll.len : ∀ {vs : List V} {ds : List PyData}, DqAll K H vs ds → vs.length = ds.length
  | _, _, .nil => rfl
  | _, _, .cons _ h => by rw [List.length_cons, List.length_cons, DqAll.len h]
theorem DqAll.at : ∀ {vs : List V} {ds : List PyData}, DqAll K H vs ds → ∀ {i : Nat} {v : V}, vs[i]? = some v → ∃ d, ds[i]? = some d ∧ Dq K H v d
  | _, _, .nil, _, _, e => by cases e
  | _, _, .cons h1 h2, 0, _, e => by cases e; exact ⟨_, rfl, h1⟩
  | _, _, .cons h1 h2, i + 1, _, e => DqAll.at h2 (i := i) e
theorem DqAll.app : ∀ {vs us : List V} {ds es : List PyData}, DqAll K H vs ds → DqAll K H us es → DqAll K H (vs ++ us) (ds ++ es)
  | _, _, _, _, .nil, h => h
  | _, _, _, _, .cons h1 h2, h => .cons h1 (DqAll.app h2 h)
theorem DqAll.take : ∀ {vs : List V} {ds : List PyData} (n : Nat), DqAll K H vs ds → DqAll K H (vs.take n) (ds.take n)
  | _, _, 0, _ => .nil
  | _, _, n + 1, .nil => .nil
  | _, _, n + 1, .cons h1 h2 => .cons h1 (DqAll.take n h2)
theorem DqAll.drop : ∀ {vs : List V} {ds : List PyData} (n : Nat), DqAll K H vs ds → DqAll K H (vs.drop n) (ds.drop n)
  | _, _, 0, h => h
  | _, _, n + 1, .nil => .nil
  | _, _, n + 1, .cons h1 h2 => DqAll.drop n h2
theorem DqAll.rev : ∀ {vs : List V} {ds : List PyData}, DqAll K H vs ds → DqAll K H vs.reverse ds.reverse
  | _, _, .nil => .nil
  | _, _, .cons h1 h2 => by
    rw [List.reverse_cons, List.reverse_cons]
    exact DqAll.app (DqAll.rev h2) (.cons h1 .nil)
theorem DqAll.put : ∀ {vs : List V} {ds : List PyData}, DqAll K H vs ds → ∀ {v : V} {d : PyData}, Dq K H v d → DqAll K H (vs ++ [v]) (ds ++ [d]) := fun h _ _ g => DqAll.app h (.cons g .nil)
theorem tyQ {v : V} {d : PyData} (h : Dq K H v d) : TyX K H v (.type (tnD d)) := by
  cases h with
  | non => exact .base .non
  | bl b => exact .base (.bl b)
  | int i => exact .base (.int i)
  | str x => exact .base (.str x)
  | lst h1 h2 => exact .base (.lst h1)
  | tup h1 h2 => exact tyT h1
  | dct h1 h2 => exact .base (.dK h1)
end
/-- what is told of a text that data has: so deep, so much -/
structure Gq (d : PyData) (n m : Nat) : Prop where
  sh : d.showable = true
  lv : d.leavesShort 41 = true
  dep : d.depth ≤ n
  bk : d.bulk ≤ m
theorem Gq.up {d : PyData} {n m n' m' : Nat} (h : Gq d n m) (h1 : n ≤ n') (h2 : m ≤ m') : Gq d n' m' := ⟨h.sh, h.lv, Nat.le_trans h.dep h1, Nat.le_trans h.bk h2⟩
theorem gq_int {n : Int} (h : n.natAbs < 10 ^ 40) : Gq (.int n) 0 0 := ⟨by simp [PyData.showable, log_big h], by simp [PyData.leavesShort, len_big h], by simp [PyData.depth], by simp [PyData.bulk]⟩
theorem gq_bool (b : Bool) : Gq (.bool b) 0 0 := ⟨by simp [PyData.showable], by simp [PyData.leavesShort], by simp [PyData.depth], by simp [PyData.bulk]⟩
theorem gq_none : Gq .none 0 0 := ⟨by simp [PyData.showable], by simp [PyData.leavesShort], by simp [PyData.depth], by simp [PyData.bulk]⟩
theorem gq_nil : Gq (.dict []) 1 0 := ⟨by simp [PyData.showable, PyData.showableKv], by simp [PyData.leavesShort, PyData.leavesShortKv], by simp [PyData.depth, PyData.depthKv], by simp [PyData.bulk, PyData.bulkKv]⟩
theorem gq_zero : Gq (.dict [(.int 0, .int 0)]) 1 2 := by
  have h1 := gq_int (n := 0) (by decide)
  refine ⟨by simp [PyData.showable, PyData.showableKv, h1.sh], ?_, by simp [PyData.depth, PyData.depthKv], by simp [PyData.bulk, PyData.bulkKv]⟩
  simp only [PyData.leavesShort, PyData.leavesShortKv, Bool.and_true, Bool.and_self]
  simpa [PyData.leavesShort] using h1.lv
theorem lv_all : ∀ {ds : List PyData}, PyData.leavesShortAll 41 ds = true ↔ ∀ e ∈ ds, e.leavesShort 41 = true
  | [] => by simp [PyData.leavesShortAll]
  | d :: ds => by simp [PyData.leavesShortAll, lv_all (ds := ds)]
theorem gq_tup {ds : List PyData} {n m : Nat} : Gq (.tuple ds) (n + 1) m ↔ (∀ e ∈ ds, Gq e n m) ∧ PyData.bulkAll ds ≤ m := by
  constructor
  · intro h
    have h2 := h.sh
    have h3 := h.lv
    have h4 := h.dep
    have h5 := h.bk
    simp only [PyData.showable] at h2
    simp only [PyData.leavesShort] at h3
    simp only [PyData.depth] at h4
    simp only [PyData.bulk] at h5
    exact ⟨fun e he => ⟨show_all.mp h2 e he, lv_all.mp h3 e he, depth_all.mp (by omega) e he, Nat.le_trans (bulk_mem he) h5⟩, h5⟩
  · rintro ⟨h, hb⟩
    refine ⟨?_, ?_, ?_, ?_⟩
    · simp only [PyData.showable]; exact show_all.mpr fun e he => (h e he).sh
    · simp only [PyData.leavesShort]; exact lv_all.mpr fun e he => (h e he).lv
    · have := depth_all.mpr fun e he => (h e he).dep
      simp only [PyData.depth]; omega
    · simp only [PyData.bulk]; exact hb
theorem gq_lst {ds : List PyData} {n m : Nat} : Gq (.list ds) (n + 1) m ↔ (∀ e ∈ ds, Gq e n m) ∧ PyData.bulkAll ds ≤ m := by
  have e1 : (PyData.list ds).showable = (PyData.tuple ds).showable := by simp only [PyData.showable]
  have e2 : (PyData.list ds).leavesShort 41 = (PyData.tuple ds).leavesShort 41 := by simp only [PyData.leavesShort]
  have e3 : (PyData.list ds).depth = (PyData.tuple ds).depth := by simp only [PyData.depth]
  have e4 : (PyData.list ds).bulk = (PyData.tuple ds).bulk := by simp only [PyData.bulk]
  constructor
  · rintro ⟨a, b, c, d⟩
    exact gq_tup.mp ⟨e1 ▸ a, e2 ▸ b, e3 ▸ c, e4 ▸ d⟩
  · intro h
    obtain ⟨a, b, c, d⟩ := gq_tup.mpr h
    exact ⟨e1 ▸ a, e2 ▸ b, e3 ▸ c, e4 ▸ d⟩
/-- what repr may write -/
structure ShowsQ (d : PyData) : Prop where
  h1 : d.showable = true
  h3 : d.depth ≤ 64
  h4 : d.shown.length ≤ sizeLine
theorem Gq.shows {d : PyData} {n m : Nat} (h : Gq d n m) (hn : n ≤ 64) (hm : m ≤ 200000) : ShowsQ d := by
  refine ⟨h.sh, Nat.le_trans h.dep hn, ?_⟩
  have z := PyData.shown_le_bulk 41 (by decide) d h.lv
  have z2 : (41 + 2) * d.bulk ≤ 43 * 200000 := Nat.mul_le_mul_left 43 (Nat.le_trans h.bk hm)
  rw [sizeLine_eq]; omega
section
variable {X : Cx} {pins : List (Addr × Obj)} {σ : L2.St} {H : Hp} {s : Shared}
theorem sys_none (I : Inv X pins σ H s) (S : ∃ o, X.K.lookup sysModules = some o) : H sysModules = none := by
  obtain ⟨o, e⟩ := S
  exact (I.bs _ _ (I.ok.mod.kin _ _ e)).2
theorem dct_reads {a : Addr} {kvs : List (Key × V)} {es : List (PyData × PyData)} (I : Inv X pins σ H s) (h : H a = some (.dK kvs)) (c : Dct kvs es) : ∃ as, Reads s.heap (.ref a) (.dict es) as ∧ sysModules ∉ as := by
  have ok := I.hok a _ h
  unfold ObjOk at ok
  obtain ⟨_, hm, vs, kv, o, en, ep, g1, g2, g3, g4, g5, g6⟩ := ok
  have na : a ≠ sysModules := fun z => by rw [z] at hm; simp at hm
  cases c with
  | nil =>
    have ev : vs = [] := by cases kv; rfl
    subst ev
    have ee : en.toList = [] := by
      generalize hx : en.toList = l at g5
      cases g5; rfl
    refine ⟨a :: [] ++ [], .dict (kvs := []) (as := []) (bs := []) g1 g2.1 g3 (by rw [ee]; exact .nil) (by rw [ee]; exact .nil), ?_⟩
    intro z
    exact na (List.mem_singleton.mp z).symm
  | one i j =>
    obtain ⟨k', v', ev, ek, rv⟩ : ∃ k' v', vs = [(k', v')] ∧ Sum.inl i = k' ∧ RelV (V.int j) v' := by
      cases kv with
      | cons r rest =>
        cases rest
        exact ⟨_, _, rfl, r.1, r.2⟩
    subst ev
    subst ek
    obtain ⟨t, rfl⟩ := rv
    obtain ⟨e1, ee, ke, ve⟩ : ∃ e1 : DictEntry, en.toList = [e1] ∧ keyIs (Sum.inl i) e1.key = true ∧ e1.val = Value.int j t := by
      generalize hx : en.toList = l at g5
      cases g5 with
      | cons r1 r2 rest =>
        cases rest
        exact ⟨_, rfl, r1, r2⟩
    obtain ⟨t2, kk⟩ : ∃ t2, e1.key = Value.int i t2 := by
      rcases keyIs_shape ke with ⟨i', t', z1, z2⟩ | ⟨x, t', z1, z2⟩
      · cases z1
        exact ⟨t', z2⟩
      · cases z1
    refine ⟨a :: ([] ++ []) ++ ([] ++ []), .dict (kvs := [(PyData.int i, PyData.int j)]) (as := [] ++ []) (bs := [] ++ []) g1 g2.1 g3 ?_ ?_, ?_⟩
    · rw [ee]
      show ReadsAll s.heap [e1.key] [PyData.int i] _
      rw [kk]
      exact .cons (.int i t2) .nil
    · rw [ee]
      show ReadsAll s.heap [e1.val] [PyData.int j] _
      rw [ve]
      exact .cons (.int j t) .nil
    · intro z
      exact na (List.mem_singleton.mp z).symm
mutual
theorem Dq.reads (I : Inv X pins σ H s) (S : ∃ o, X.K.lookup sysModules = some o) : ∀ (d : PyData) (v : V) (u : Value), Dq X.K H v d → RelV v u → ∃ as, Reads s.heap u d as ∧ sysModules ∉ as
  | .none, _, _, h, r => by
    cases h
    cases r
    exact ⟨_, Reads.none, by simp⟩
  | .bool b, _, _, h, r => by
    cases h
    cases r
    exact ⟨_, Reads.bool b, by simp⟩
  | .int i, _, _, h, r => by
    cases h
    obtain ⟨t, rfl⟩ := r
    exact ⟨_, Reads.int i t, by simp⟩
  | .str x, _, _, h, r => by
    cases h
    obtain ⟨t, rfl⟩ := r
    exact ⟨_, Reads.str x t, by simp⟩
  | .list ds, _, _, h, r => by
    cases h with
    | lst hs ha =>
      cases r
      have na : sysModules ≠ _ := fun z => by
        have q := sys_none I S
        rw [z, hs] at q
        cases q
      obtain ⟨its, rv, ⟨o, n, ho, hc, _, hd⟩, _⟩ := I.list (.inl (.inl hs))
      obtain ⟨as, hr, hn⟩ := Dq.readsAll I S ds _ its ha rv
      exact ⟨_, Reads.list ho hc hd hr, fun z => (List.mem_cons.mp z).elim na hn⟩
  | .tuple ds, _, _, h, r => by
    cases h with
    | tup hs ha =>
      cases r
      obtain ⟨its, rv, ⟨o, ho, hc, n, hd⟩, _⟩ := I.tuple hs
      obtain ⟨as, hr, hn⟩ := Dq.readsAll I S ds _ its ha rv
      exact ⟨_, Reads.tuple ho hc hd hr, hn⟩
  | .dict _, _, _, h, r => by
    cases h with
    | dct h1 h2 =>
      cases r
      exact dct_reads I h1 h2
theorem Dq.readsAll (I : Inv X pins σ H s) (S : ∃ o, X.K.lookup sysModules = some o) : ∀ (ds : List PyData) (vs : List V) (us : List Value), DqAll X.K H vs ds → Vals vs us → ∃ as, ReadsAll s.heap us ds as ∧ sysModules ∉ as
  | [], _, _, h, r => by
    cases h
    cases r
    exact ⟨_, ReadsAll.nil, by simp⟩
  | d :: ds, _, _, h, r => by
    cases h with
    | cons h1 h2 =>
      cases r with
      | cons r1 r2 =>
        obtain ⟨as, q1, n1⟩ := Dq.reads I S d _ _ h1 r1
        obtain ⟨bs, q2, n2⟩ := Dq.readsAll I S ds _ _ h2 r2
        exact ⟨_, ReadsAll.cons q1 q2, fun z => (List.mem_append.mp z).elim n1 n2⟩
end
/-- repr(x), x an object read as data, dicts among it -/
theorem call_reprQ (S : ∃ o, X.K.lookup sysModules = some o) (gd : X.A.guards = some []) (hu : X.A.units + 65 < cLine) : CallR X (.builtin "repr") (fun xs H Q => ∃ (a : Addr) (d : PyData), xs = [.ref a] ∧ Dq X.K H (.ref a) d ∧ ShowsQ d ∧ Q (.str d.shown) H) := by
  intro pins s σ H xs us Q I r h
  obtain ⟨a, d, rfl, hd, h1, q⟩ := h
  obtain ⟨u, rfl, ru⟩ := vals1 r
  cases ru
  obtain ⟨as, rd, hn⟩ := Dq.reads I S d (.ref a) (.ref a) hd rfl
  refine repr_of_reads' rd h1.h1 (fun _ => hn) gd (by have := h1.h3; omega) (fun _ _ z => z) (fun h' uu tk k => ?_) h1.h4
  exact ⟨.str d.shown, H, I.kept k, ⟨uu, rfl⟩, q⟩
end
end RV
set_option maxHeartbeats 4000000
/-! numbers and words written as texts -/
namespace RV
open PySem PySem.Spec PyProof.Rows L2 TL
/-- the text of a number -/
def num (n : Nat) : Str := Str.ofString (toString ((n : Nat) : Int))
theorem tl_nm (n : Nat) : tl (num n) = numL n := tl_num n
theorem num_of {x : Int} (h : 0 ≤ x) : (V.str (toString x)) = V.str (num x.toNat) := by
  have e : x = ((x.toNat : Nat) : Int) := by omega
  rw [e]
  rfl
theorem num_one {n : Nat} (h : n < 10) : tl (num n) = [48 + n] := by rw [tl_nm, numL_lt h]
theorem num_pos (n : Nat) : 0 < (num n).length := by
  rw [len_tl, tl_nm]
  exact List.length_pos_iff.mpr (numL_ne n)
theorem num_len {n : Nat} (h : n < 10 ^ 30) : (num n).length ≤ 30 := by
  rw [len_tl, tl_nm]
  exact numL_len (by decide) h
theorem num_two {n : Nat} (h : 1 < (num n).length) : 10 ≤ n := by
  rw [len_tl, tl_nm] at h
  by_cases e : n < 10
  · rw [numL_lt e] at h; simp at h
  · omega
theorem numL_head : ∀ (n : Nat), 1 ≤ n → ∃ c r, numL n = c :: r ∧ c ≠ 48 := by
  intro n
  induction n using Nat.strongRecOn with
  | _ n ih =>
    intro h
    by_cases e : n < 10
    · rw [numL_lt e]
      exact ⟨48 + n, [], rfl, by omega⟩
    · obtain ⟨c, r, e1, e2⟩ := ih (n / 10) (by omega) (by omega)
      rw [numL_step (by omega), e1]
      exact ⟨c, r ++ [48 + n % 10], rfl, e2⟩
theorem num_log {n : Nat} (h : n < 10 ^ 30) : ((n : Nat) : Int).natAbs.log2 < 1920 := by
  show n.log2 < 1920
  by_cases e : n = 0
  · subst e; decide
  · rw [Nat.log2_lt e]
    exact Nat.lt_of_lt_of_le h (by decide)
theorem num_int {n : Nat} (h : n < 10 ^ 30) : PySem.intText? (num n) = some (n : Int) := by
  refine int_num ?_
  have := num_len h
  rw [len_tl, tl_nm] at this
  omega
theorem num_sign {n c : Nat} (h : c ∈ tl (num n)) : c ∈ tl (Str.ofString "0123456789") := by
  rw [tl_nm] at h
  have hc := numL_digits n c h
  have e : tl (Str.ofString "0123456789") = [48, 49, 50, 51, 52, 53, 54, 55, 56, 57] := by rw [tl_ofString]; decide
  rw [e]
  have h0 : 48 ≤ c := hc.1
  have h1 : c ≤ 57 := hc.2
  have : c = 48 ∨ c = 49 ∨ c = 50 ∨ c = 51 ∨ c = 52 ∨ c = 53 ∨ c = 54 ∨ c = 55 ∨ c = 56 ∨ c = 57 := by omega
  simp only [List.mem_cons, List.mem_nil_iff, or_false, List.not_mem_nil]
  exact this
theorem num_free {n s : Nat} (h : s < 48 ∨ 57 < s) : s ∉ tl (num n) := by rw [tl_nm]; exact numL_free h
theorem num_inj {m n : Nat} (h : num m = num n) : m = n := numL_inj (by rw [← tl_nm, ← tl_nm, h])
/-! ### words put together -/
theorem joinL_len (S : List Nat) : ∀ l : List (List Nat), (joinL S l).length ≤ (l.map List.length).sum + l.length * S.length
  | [] => by simp [joinL]
  | [p] => by simp [joinL]
  | p :: q :: r => by
    have h := joinL_len S (q :: r)
    have e : joinL S (p :: q :: r) = p ++ (S ++ joinL S (q :: r)) := rfl
    rw [e, List.length_append, List.length_append]
    simp only [List.map_cons, List.sum_cons, List.length_cons, Nat.add_mul, Nat.one_mul] at h ⊢
    omega
theorem join_len (y : Str) (l : List Str) : (Str.join y l).length ≤ (l.map (·.length)).sum + l.length * y.length := by
  have h := joinL_len (tl y) (l.map tl)
  rw [len_tl, tl_join]
  rw [List.map_map, List.length_map] at h
  have e : List.map (List.length ∘ tl) l = l.map (·.length) := List.map_congr_left fun x _ => (len_tl x).symm
  rw [e, ← len_tl] at h
  exact h
theorem sum_le {l : List Str} {k : Nat} (h : ∀ x ∈ l, x.length ≤ k) : (l.map (·.length)).sum ≤ l.length * k := by
  induction l with
  | nil => simp
  | cons a r ih =>
    have h1 := h a (List.mem_cons_self ..)
    have h2 := ih fun x hx => h x (List.mem_cons_of_mem _ hx)
    simp only [List.map_cons, List.sum_cons, List.length_cons, Nat.add_mul, Nat.one_mul]
    omega
theorem join_short {y : Str} {l : List Str} {k m : Nat} (h : ∀ x ∈ l, x.length ≤ k) (hm : l.length ≤ m) : (Str.join y l).length ≤ m * (k + y.length) := by
  have h1 := join_len y l
  have h2 := sum_le h
  have h3 : l.length * k + l.length * y.length = l.length * (k + y.length) := by rw [Nat.mul_add]
  have h4 : l.length * (k + y.length) ≤ m * (k + y.length) := Nat.mul_le_mul_right _ hm
  omega
theorem join_room {y : Str} {l : List Str} {k m : Nat} (h : ∀ x ∈ l, x.length ≤ k) (hm : l.length ≤ m) (hz : m * (k + y.length) ≤ 16777216) : (l.map (·.length)).sum + l.length * y.length ≤ 16777216 := by
  have h2 := sum_le h
  have h3 : l.length * k + l.length * y.length = l.length * (k + y.length) := by rw [Nat.mul_add]
  have h4 : l.length * (k + y.length) ≤ m * (k + y.length) := Nat.mul_le_mul_right _ hm
  omega
/-- a row of a word and numbers -/
def rowW (w : Str) (p : List Int) : List Str := w :: p.map fun x => num x.toNat
def sp1 : Str := Str.ofString " "
def nl1 : Str := Str.ofString "\n"
theorem tl_sp : tl sp1 = [32] := by unfold sp1; rw [tl_ofString]; decide
theorem tl_nl : tl nl1 = [10] := by unfold nl1; rw [tl_ofString]; decide
theorem row3 (w : Str) (x y : Int) : tl (Str.join sp1 (rowW w [x, y])) = tl w ++ (32 :: (numL x.toNat ++ (32 :: numL y.toNat))) := by
  rw [tl_join, tl_sp]
  show joinL [32] [tl w, tl (num x.toNat), tl (num y.toNat)] = _
  rw [tl_nm, tl_nm]
  rfl
theorem row2 (w : Str) (n : Nat) : tl (Str.join sp1 [w, num n]) = tl w ++ (32 :: numL n) := by
  rw [tl_join, tl_sp]
  show joinL [32] [tl w, tl (num n)] = _
  rw [tl_nm]
  rfl
theorem mem_joinL {s : Nat} {S : List Nat} (hS : s ∉ S) : ∀ l : List (List Nat), (∀ p ∈ l, s ∉ p) → s ∉ joinL S l
  | [], _ => by simp [joinL]
  | [p], h => h p (List.mem_cons_self ..)
  | p :: q :: r, h => by
    have h1 := mem_joinL hS (q :: r) fun x hx => h x (List.mem_cons_of_mem _ hx)
    have h2 := h p (List.mem_cons_self ..)
    have e : joinL S (p :: q :: r) = p ++ (S ++ joinL S (q :: r)) := rfl
    rw [e, List.mem_append, List.mem_append]
    rintro (z | z | z)
    · exact h2 z
    · exact hS z
    · exact h1 z
theorem mem_join {s : Nat} {y : Str} {l : List Str} (hS : s ∉ tl y) (h : ∀ x ∈ l, s ∉ tl x) : s ∉ tl (Str.join y l) := by
  rw [tl_join]
  refine mem_joinL hS _ fun p hp => ?_
  obtain ⟨x, hx, rfl⟩ := List.mem_map.mp hp
  exact h x hx
end RV
set_option maxHeartbeats 4000000
/-! a heap but for one list that changes; texts of numbers as data -/
namespace RV
open PySem PySem.Spec PyProof.Rows L2 TL
/-- the heap but for some lists, which may change -/
def rmS (L : List Addr) (H : Hp) : Hp := fun b => if b ∈ L then none else H b
theorem rmS_ne {L : List Addr} {a : Addr} {H : Hp} (h : a ∉ L) : rmS L H a = H a := if_neg h
theorem rmS_same {L : List Addr} {H : Hp} : Same (rmS L H) H := fun b o e => by
  by_cases z : b ∈ L
  · rw [show rmS L H b = none from if_pos z] at e; cases e
  · rw [← e]; exact (rmS_ne z).symm
theorem rmS_but {L : List Addr} {H H' : Hp} (h : ∀ c o, H c = some o → c ∉ L → H' c = some o) : Same (rmS L H) (rmS L H') := fun b o e => by
  by_cases z : b ∈ L
  · rw [show rmS L H b = none from if_pos z] at e; cases e
  · rw [rmS_ne z] at e ⊢; exact h b o e z
theorem rmS_mono {L : List Addr} {H H' : Hp} (h : Same H H') : Same (rmS L H) (rmS L H') := rmS_but fun c o e _ => h c o e
theorem rmS_at {L : List Addr} {a : Addr} {H : Hp} {o : HO} (h : H a = some o) (n : a ∉ L) : rmS L H a = some o := by rw [rmS_ne n]; exact h
theorem rmS_more {L : List Addr} {D : Addr} {H : Hp} (n : H D = none) : Same (rmS L H) (rmS (D :: L) H) := fun b o e => by
  by_cases z : b ∈ L
  · rw [show rmS L H b = none from if_pos z] at e; cases e
  · rw [rmS_ne z] at e
    have nb : b ≠ D := fun q => by rw [q, n] at e; cases e
    rw [rmS_ne (fun q => by rcases List.mem_cons.mp q with q | q; exact nb q; exact z q)]
    exact e
theorem rmS_less {L : List Addr} {D : Addr} {H : Hp} : Same (rmS (D :: L) H) (rmS L H) := fun b o e => by
  by_cases z : b ∈ D :: L
  · rw [show rmS (D :: L) H b = none from if_pos z] at e; cases e
  · rw [rmS_ne z] at e
    rw [rmS_ne fun q => z (List.mem_cons_of_mem _ q)]
    exact e
/-- what is left out: lists -/
def Lis (L : List Addr) (H : Hp) : Prop := ∀ b ∈ L, ∃ ys, H b = some (.lst ys)
theorem Lis.fresh {L : List Addr} {H : Hp} {N : Addr} (h : Lis L H) (n : H N = none) : N ∉ L := fun z => by
  obtain ⟨ys, e⟩ := h N z
  rw [n] at e; cases e
theorem Lis.same {L : List Addr} {H H' : Hp} (h : Lis L H) (s : Same H H') : Lis L H' := fun b hb => let ⟨ys, e⟩ := h b hb; ⟨ys, s _ _ e⟩
theorem Lis.add {L : List Addr} {H : Hp} {D : Addr} {ys : List V} (h : Lis L H) (e : H D = some (.lst ys)) : Lis (D :: L) H := fun b hb => by
  rcases List.mem_cons.mp hb with z | z
  · rw [z]; exact ⟨ys, e⟩
  · exact h b z
theorem Lis.set {L : List Addr} {H : Hp} {D : Addr} {ys : List V} (h : Lis L H) : Lis L (upd H D (.lst ys)) := fun b hb => by
  by_cases z : b = D
  · rw [z]; exact ⟨ys, upd_same⟩
  · obtain ⟨zs, e⟩ := h b hb
    exact ⟨zs, by rw [upd_ne z]; exact e⟩
theorem rmS_tup {K : PySem.W.Frag} {L : List Addr} {a : Addr} {H : Hp} {xs : List V} (hL : Lis L H) (h : SqT K H a xs) : SqT K (rmS L H) a xs := by
  rcases h with (h | ⟨u, h⟩) | h
  · exact .inl (.inl (rmS_at h fun z => by obtain ⟨ys, e⟩ := hL _ z; rw [e] at h; cases h))
  · exact .inl (.inr ⟨u, rmS_at h fun z => by obtain ⟨ys, e⟩ := hL _ z; rw [e] at h; cases h⟩)
  · exact .inr h
/-- the list at D, which is left out, holds these things -/
def Pile (K : PySem.W.Frag) (H : Hp) (L : List Addr) (D : Addr) (ds : List PyData) : Prop := D ∈ L ∧ ∃ vs, H D = some (.lst vs) ∧ DpAll K (rmS L H) vs ds
section
variable {K : PySem.W.Frag} {H H' : Hp} {L : List Addr} {D : Addr} {ds : List PyData}
theorem Pile.same (h : Pile K H L D ds) (s : Same H H') : Pile K H' L D ds := by
  obtain ⟨n, vs, h1, h2⟩ := h
  exact ⟨n, vs, s _ _ h1, DpAll.same (rmS_mono s) h2⟩
theorem Pile.nil (n : H D = none) : Pile K (upd H D (.lst [])) (D :: L) D [] := ⟨List.mem_cons_self .., [], upd_same, .nil⟩
theorem Pile.add {vs : List V} {v : V} {d : PyData} (h : Pile K H L D ds) (e : H D = some (.lst vs)) (hv : Dp K (rmS L H) v d) : Pile K (upd H D (.lst (vs ++ [v]))) L D (ds ++ [d]) := by
  obtain ⟨n, us, h1, h2⟩ := h
  rw [e] at h1
  cases h1
  have s : Same (rmS L H) (rmS L (upd H D (.lst (vs ++ [v])))) := rmS_but fun c o z nc => by
    rw [upd_ne fun q => nc (by rw [q]; exact n)]; exact z
  exact ⟨n, _, upd_same, DpAll.app (DpAll.same s h2) (.cons (Dp.same s hv) .nil)⟩
theorem Pile.len {vs : List V} (h : Pile K H L D ds) (e : H D = some (.lst vs)) : vs.length = ds.length := by
  obtain ⟨n, us, h1, h2⟩ := h
  rw [e] at h1
  cases h1
  exact DpAll.len h2
end
/-! ### texts of numbers -/
theorem low_num (n : Nat) : ∀ c ∈ tl (num n), c < 256 := fun c hc => by
  rw [tl_nm] at hc
  have h1 : c ≤ 57 := (numL_digits n c hc).2
  omega
theorem gd_str {x : Str} {m : Nat} (h : ∀ c ∈ tl x, c < 256) (hl : x.length ≤ m) : Gd (.str x) 0 m := by
  refine ⟨?_, by simp [PyData.showable], by simp [PyData.intsShort], by simp [PyData.depth], hl⟩
  simp only [PyData.canLay0]
  show PyData.strOk x = true
  unfold PyData.strOk
  rw [Array.all_eq_true_iff_forall_mem]
  intro c hc
  have := h c (Array.mem_toList_iff.mpr hc)
  simp only [decide_eq_true_eq]
  omega
theorem num_len2 {n : Nat} (h : n < 10 ^ 36) : (num n).length ≤ 36 := by
  rw [len_tl, tl_nm]
  exact numL_len (by decide) h
end RV
namespace RV
open PySem PySem.Spec PyProof.Rows L2
theorem pile_join {K : PySem.W.Frag} {H : Hp} {L : List Addr} {S D : Addr} {ds es : List PyData} {vs us : List V} (mS : S ∈ L) (hA : DpAll K (rmS (D :: L) H) vs ds) (hD : DpAll K (rmS (D :: L) H) us es) : Pile K (upd H S (.lst (vs ++ us))) L S (ds ++ es) := by
  have s : Same (rmS (D :: L) H) (rmS L (upd H S (.lst (vs ++ us)))) := rmS_less.trans (rmS_but fun c o z nc => by
    rw [upd_ne fun q => nc (by rw [q]; exact mS)]; exact z)
  exact ⟨mS, _, upd_same, DpAll.app (DpAll.same s hA) (DpAll.same s hD)⟩
end RV
set_option maxHeartbeats 4000000
/-! piles of things of any kind, dicts among them -/
namespace RV
open PySem PySem.Spec PyProof.Rows L2 TL
/-- the list at D, which is left out, holds these things -/
def PileQ (K : PySem.W.Frag) (H : Hp) (L : List Addr) (D : Addr) (ds : List PyData) : Prop := D ∈ L ∧ ∃ vs, H D = some (.lst vs) ∧ DqAll K (rmS L H) vs ds
section
variable {K : PySem.W.Frag} {H H' : Hp} {L : List Addr} {D : Addr} {ds : List PyData}
theorem PileQ.same (h : PileQ K H L D ds) (s : Same H H') : PileQ K H' L D ds := by
  obtain ⟨n, vs, h1, h2⟩ := h
  exact ⟨n, vs, s _ _ h1, DqAll.same (rmS_mono s) h2⟩
theorem PileQ.nil (n : H D = none) : PileQ K (upd H D (.lst [])) (D :: L) D [] := ⟨List.mem_cons_self .., [], upd_same, .nil⟩
theorem PileQ.add {vs : List V} {v : V} {d : PyData} (h : PileQ K H L D ds) (e : H D = some (.lst vs)) (hv : Dq K (rmS L H) v d) : PileQ K (upd H D (.lst (vs ++ [v]))) L D (ds ++ [d]) := by
  obtain ⟨n, us, h1, h2⟩ := h
  rw [e] at h1
  cases h1
  have s : Same (rmS L H) (rmS L (upd H D (.lst (vs ++ [v])))) := rmS_but fun c o z nc => by
    rw [upd_ne fun q => nc (by rw [q]; exact n)]; exact z
  exact ⟨n, _, upd_same, DqAll.app (DqAll.same s h2) (.cons (Dq.same s hv) .nil)⟩
theorem PileQ.len {vs : List V} (h : PileQ K H L D ds) (e : H D = some (.lst vs)) : vs.length = ds.length := by
  obtain ⟨n, us, h1, h2⟩ := h
  rw [e] at h1
  cases h1
  exact DqAll.len h2
end
theorem pileQ_join {K : PySem.W.Frag} {H : Hp} {L : List Addr} {S D : Addr} {ds es : List PyData} {vs us : List V} (mS : S ∈ L) (hA : DqAll K (rmS (D :: L) H) vs ds) (hD : DqAll K (rmS (D :: L) H) us es) : PileQ K (upd H S (.lst (vs ++ us))) L S (ds ++ es) := by
  have s : Same (rmS (D :: L) H) (rmS L (upd H S (.lst (vs ++ us)))) := rmS_less.trans (rmS_but fun c o z nc => by
    rw [upd_ne fun q => nc (by rw [q]; exact mS)]; exact z)
  exact ⟨mS, _, upd_same, DqAll.app (DqAll.same s hA) (DqAll.same s hD)⟩
theorem gq_str {x : Str} {m : Nat} (h : ∀ c ∈ tl x, c < 256) (hl : x.length ≤ m) : Gq (.str x) 0 m := by
  refine ⟨by simp [PyData.showable], ?_, by simp [PyData.depth], hl⟩
  simp only [PyData.leavesShort]
  rw [List.all_eq_true]
  intro c hc
  have := h c hc
  simp only [decide_eq_true_eq]
  omega
end RV
set_option maxHeartbeats 4000000
namespace K2
open PySem PySem.Spec PyProof.Rows L2 RV
section
variable {P : Program} {w : World} {K : PySem.W.Frag} {mg : Str → Option Value} {base : Heap}
/-! ### is_whole, is_below, are_marks of anything -/
def spWholeD (K : PySem.W.Frag) : Sp := fun vs H Q _ => ∃ (v : V) (d : PyData), vs = [v] ∧ Dq K H v d ∧ Q (.bl (wholeD d)) H
theorem ok_wholeD {f : Addr} {fd : FuncData} (F : Fun K "is_whole" "is_whole" sWhole f fd) (B : Bare mg) : FnOk P w K mg base CX0 1 f fd ["thing"] (spWholeD K) := by
  refine F.ok scWhole (fun vs H Q E h => ?_) (fun cdv A outer s H vs Q E hr h => ?_)
  · obtain ⟨v, d, rfl, _⟩ := h
    rfl
  · obtain ⟨v, d, rfl, hd, q⟩ := h
    refine ⟨_, pss_one (ps_ret (pe_and (pe_callB call_isi (by rfl) B.isinstance (by decide +kernel) (pa_cons (pv 0) (pa_cons (pe_bltn (v := .ty "int") (by rfl) B.int boot_int rfl) pa_nil)))
      (pe_one (pe_not (pe_callB call_isi (by rfl) B.isinstance (by decide +kernel) (pa_cons (pv 0) (pa_cons (pe_bltn (v := .ty "bool") (by rfl) B.bool (by decide +kernel) rfl) pa_nil))))))), ?_⟩
    refine ⟨v, rfl, v, .ty "int", _, _, _, rfl, .ty "int", tyQ hd, kit_D (.inl rfl), _, rfl, ?_⟩
    rw [isi_int]
    cases d with
    | int i => exact iteT ⟨v, rfl, v, .ty "bool", _, _, _, rfl, .ty "bool", tyQ hd, kit_D (.inr (.inl rfl)), _, rfl, by rw [isi_bool]; exact q⟩
    | bool b => exact iteT ⟨v, rfl, v, .ty "bool", _, _, _, rfl, .ty "bool", tyQ hd, kit_D (.inr (.inl rfl)), _, rfl, by rw [isi_bool]; exact q⟩
    | none => exact iteF q
    | str x => exact iteF q
    | list ds => exact iteF q
    | tuple ds => exact iteF q
    | dict ds => exact iteF q
def spBelowD (K : PySem.W.Frag) : Sp := fun vs H Q _ => ∃ (v : V) (d : PyData) (n : Int), vs = [v, .int n] ∧ Dq K H v d ∧ Q (.bl (belowD n d)) H
theorem ok_belowD {f fW : Addr} {fd fdW : FuncData} (F : Fun K "is_below" "is_below" sMark f fd) (D : DefAt K mg "is_whole" sWhole ["thing"] fW fdW) (B : Bare mg) : FnOk P w K mg base CX0 2 f fd ["thing", "many"] (spBelowD K) := by
  have GW : FnOk P w K mg base CX0 1 fW fdW ["thing"] (spWholeD K) := ok_wholeD D.fn B
  refine F.ok scMark (fun vs H Q E h => ?_) (fun cdv A outer s H vs Q E hr h => ?_)
  · obtain ⟨v, d, n, rfl, _⟩ := h
    rfl
  · obtain ⟨v, d, n, rfl, hd, q⟩ := h
    refine ⟨_, pss_one (ps_ret (pe_and (pe_call GW hr (by rfl) D.mg D.fn.kp D.bi .nil pass0 (pa_cons (pv 0) pa_nil)) (pe_one (pe_chain op_le op_lt pe_int (pv 0) (pv 1))))), ?_⟩
    refine ⟨v, rfl, v, d, rfl, hd, _, rfl, ?_⟩
    cases d with
    | int i =>
      cases hd
      refine iteT ⟨.int i, rfl, 0, i, rfl, rfl, _, rfl, ite2 (fun h0 => ?_) (fun h0 => ?_)⟩
      · refine ⟨.int n, rfl, i, n, rfl, rfl, ?_⟩
        have z : belowD n (.int i) = decide (i < n) := by show (decide (0 ≤ i) && decide (i < n)) = _; rw [h0, Bool.true_and]
        rw [z] at q
        exact q
      · have z : belowD n (.int i) = false := by show (decide (0 ≤ i) && decide (i < n)) = _; rw [Bool.eq_false_iff.mpr h0, Bool.false_and]
        rw [z] at q
        exact q
    | bool b => exact iteF q
    | none => exact iteF q
    | str x => exact iteF q
    | list ds => exact iteF q
    | tuple ds => exact iteF q
    | dict ds => exact iteF q
def spMarksD (K : PySem.W.Frag) : Sp := fun vs H Q _ => ∃ (v : V) (d : PyData) (n : Int), vs = [v, .int n] ∧ Dq K H v d ∧ d.bulk ≤ 1000 ∧ ∀ H', Same H H' → Q (.bl (marksD n d)) H'
theorem all_id (f : PyData → Bool) (ds : List PyData) : (ds.map f).all id = ds.all f := by rw [List.all_map]; rfl
theorem ok_marksD {f fM fW : Addr} {fd fdM fdW : FuncData} (F : Fun K "are_marks" "are_marks" sMarks f fd) (DM : DefAt K mg "is_below" sMark ["thing", "many"] fM fdM) (DW : DefAt K mg "is_whole" sWhole ["thing"] fW fdW) (B : Bare mg) :
    FnOk P w K mg base CX0 3 f fd ["thing", "many"] (spMarksD K) := by
  have GM : FnOk P w K mg base CX0 2 fM fdM ["thing", "many"] (spBelowD K) := ok_belowD DM.fn DW B
  refine F.ok scMarks (fun vs H Q E h => ?_) (fun cdv A outer s H vs Q E hr h => ?_)
  · obtain ⟨v, d, n, rfl, _⟩ := h
    rfl
  · obtain ⟨v, d, n, rfl, hd, hb, q⟩ := h
    refine ⟨_, pss_one (ps_ret (pe_and (pe_callB call_isi (by rfl) B.isinstance (by decide +kernel) (pa_cons (pv 0) (pa_cons (pe_bltn (v := .ty "tuple") (by rfl) B.tuple (by decide +kernel) rfl) pa_nil)))
      (pe_and (pe_cmpR op_gt (pe_callB call_len_seq (by rfl) B.len PySem.boot_len (pa_cons (pv 0) pa_nil)) pe_int (nomark _))
      (pe_one (pe_callB (cr_all rfl) (by rfl) B.all (by decide +kernel) (pa_cons
        (pe_lc (own := [("mark", 2)]) (g := gName 2) (tt := tYes) rfl scMarks.nd (pi_tup (pv 0)) (blkOk_by (N := ["thing", "many", "mark"]) (sc := defScope sMarks) (by decide +kernel)) (fun _ _ _ _ _ => pg_name (i := 2) scMarks.nd rfl (Or.inl rfl)) (fun _ _ _ _ _ => pts_nil)
          (fun _ _ _ _ _ => pe_call GM hr (by rfl) DM.mg DM.fn.kp DM.bi .nil pass0 (pa_cons (pv 2) (pa_cons (pv 1) pa_nil)))) pa_nil)))))), ?_⟩
    refine ⟨v, rfl, v, .ty "tuple", _, _, _, rfl, .ty "tuple", tyQ hd, kit_D (.inr (.inr (.inl rfl))), _, rfl, ?_⟩
    rw [isi_tup]
    have no : ∀ e : PyData, d = e → marksD n e = false → Q (.bl false) H := fun e he hm => by
      have z := q H (Same.refl H)
      rw [he, hm] at z
      exact z
    cases hd with
    | tup hT hA =>
      rename_i a xs ds
      have hl := DqAll.len hA
      have hl2 : ds.length ≤ 1000 := by
        have z := bulk_len ds
        simp only [PyData.bulk] at hb
        omega
      refine iteT ⟨.ref a, rfl, a, _, rfl, .inr hT, _, _, rfl, rfl, _, rfl, ite2 (fun h0 => ?_) (fun h0 => ?_)⟩
      · have h0 := of_decide_eq_true h0
        refine ⟨.ref a, rfl, a, rfl, ⟨_, hT⟩, fun D nD => ?_⟩
        refine lc_tup (K := K) (a := a) (xs := xs) (fun i H' => Same H H' ∧ H' D = some (.lst (((ds.take i).map (belowD n)).map V.bl))) ⟨same_upd nD, upd_same⟩ (fun i H' _ p => sqT_same p.1 hT) (fun i x H' hx p => ?_) fun H' p => ?_
        · obtain ⟨e, ge, he⟩ := DqAll.at hA hx
          have hi : i < ds.length := (List.getElem?_eq_some_iff.mp ge).1
          refine ⟨rfl, tt_yes ⟨x, rfl, .int n, rfl, x, e, n, rfl, Dq.same p.1 he, _, p.2, ?_, fun b o z => ?_, ?_⟩⟩
          · rw [List.length_map, List.length_map, List.length_take]; exact few1 (by omega)
          · rw [upd_ne (ne_of_none z nD)]; exact p.1 b o z
          · rw [upd_same, List.take_add_one, ge, List.map_append, List.map_append]; rfl
        · rw [hl, List.take_of_length_le (Nat.le_refl _)] at p
          refine ⟨D, _, rfl, lstNew p.2, ?_⟩
          have z := q H' p.1
          have e : marksD n (.tuple ds) = ds.all (belowD n) := by
            show (decide (0 < ds.length) && ds.all (belowD n)) = _
            rw [decide_eq_true (by omega), Bool.true_and]
          rw [e] at z
          rw [all_id]
          exact z
      · have h0 : ds.length = 0 := by
          have : ¬ ((xs.length : Int) > 0) := fun z => h0 (decide_eq_true z)
          omega
        exact no _ rfl (by show (decide (0 < ds.length) && ds.all (belowD n)) = false; rw [decide_eq_false (by omega), Bool.false_and])
    | non => exact iteF (no _ rfl rfl)
    | bl b => exact iteF (no _ rfl rfl)
    | int i => exact iteF (no _ rfl rfl)
    | str x => exact iteF (no _ rfl rfl)
    | lst h1 h2 => exact iteF (no _ rfl rfl)
    | dct h1 h2 => exact iteF (no _ rfl rfl)
end
end K2
set_option maxHeartbeats 4000000
/-! an own exception over ValueError whose __init__ begins with super().__init__(e). -/
namespace RV
open PySem PySem.Spec PyProof.Rows L2
/-! ### the wrapped ValueError.__init__, called -/
section
variable {prog : Program} {w : World} {A : Around} {E : Value → Shared → Prop} {h : Heap} {g : Array GenState} {d : Drawn} {t : Nat} {os : OsState}
variable {nm q : Str} {C N : Addr} {bs bm : List Value} {hdct : Bool} {sn : List Str} {sub : List Value} {ab : Bool} {col : Option Bool} {dd : Option Addr} {k0 k1 k2 k3 k5 : Option Value}
theorem call_sup {u e t0 : Addr} {rest : List Value} {Q : Value → Shared → Prop}
    (hC : h.get? C = some (excClassObj nm q C N bs bm hdct sn sub ab col dd k0 k1 k2 k3 k5 "ValueError.__new__")) (he : h.get? e = some (HandSPX.excO C t0)) (hu : h.get? u = some (W.kxs_mw "ValueError.__init__" e)) (hrest : rest.length ≤ sizeLine)
    (hq : ∀ h' t1, (∀ b o, b ≠ e → h.get? b = some o → h'.get? b = some o) → h'.get? e = some (HandSPX.excO C t1) → Q .none ⟨h', g, d, t, os⟩) :
    wpAny (model prog w) A (call (.ref u) rest) Q E ⟨h, g, d, t, os⟩ := by
  refine wpAny_call (codeAny_of_tree ?_)
  show wpAny _ A.in1 (callAny (.ref u) ⟨rest, []⟩) _ _ _
  simp only [callAny]
  refine wpAny_bind (wpAny_load hu ?_)
  simp only [W.kxs_mw, show (Value.type "method-wrapper" == Value.type "method" || Value.type "method-wrapper" == Value.type "builtin_function_or_method" || Value.type "method-wrapper" == Value.type "method-wrapper") = true by decide, if_true]
  refine W.KFB.if_so (by decide) ?_
  refine wpAny_bind (W.check_bound_init F.excBase_ValueError.toExcCallFacts hC he rfl ?_)
  refine wpAny_bind (wpAny_pure (wpAny_pure ?_))
  refine ⟨Code.quiet_builtin _ (by decide +kernel), codeAny_builtin F.excBase_ValueError.initEntry ?_⟩
  rw [Around.under_plainId F.excBase_ValueError.init.plain _]
  wp_walk
  refine hq _ h.objs.size (fun b o hb ho => ?_) ?_
  · rw [Heap.get?_update_other _ _ (Ne.symm hb)]
    exact Heap.get?_push_of_some _ ho
  · rw [Heap.get?_update_self _ (Heap.get?_push_of_some _ he) rfl]
    rfl
end
/-! ### the def -/
abbrev envS (qual : Str) (scope : Scope) (L f : Addr) (cd : Value) (cc : Addr) : Env := PySem.W.envX qual scope L f cd [("__class__", cc)]
/-- what the written part says of it -/
structure SupF (P : Program) (K : PySem.W.Frag) (C : Addr) (name qual : Str) (params : Arguments) (body : List Stmt) (scope : Scope) (f cda cc : Addr) (fd : FuncData) : Prop where
  lk : ∃ oc od osl, K.lookup f = some ⟨oc, od, .func fd, osl⟩
  fd : ∃ kV doc pm an ct, fd = PySem.W.ksFn name qual params body scope .none kV doc pm an (.ref cda) ct cc
  code : PySem.W.codeIn K (.ref cda) qual = true
  file : ∃ ccl cdd vs ccs g tf, K.lookup cda = some ⟨ccl, cdd, .fields vs, ccs⟩ ∧ vs[2]? = some (.str g tf) ∧ ((P.main.file : Str) == g) = true
  cell : ∃ cl cld csl, K.lookup cc = some ⟨cl, cld, .cell (some (.ref C)), csl⟩
  sup : PySem.W.ks_superIn K C C "__init__" = some (some (.builtin "ValueError.__init__"))
  sub : PySem.W.subIn K (.ref C) (.type "ValueError") = some true
  mro : PySem.W.mroIn K C (.ref C) = some true
  stat : PySem.W.nsIn K cStatics "thirdparty.any" = some none
  top : (P.main.scope.names.lookup ("super" : Str)).isSome = false
/-- its scope -/
structure SupScope (N ps : List Str) (sc : Scope) : Prop where
  kind : sc.kind = .function
  co : sc.isCoroutine = false
  gen : sc.isGenerator = false
  nd : N.Nodup
  pre : N.take ps.length = ps
  par : ∀ x ∈ ps, sc.names.lookup x = some .local
  nocell : ∀ y ∈ sc.names, y.2 ≠ .cell
  free : ∀ y ∈ sc.names, y.2 = .free → y.1 = "__class__"
  cls : sc.names.lookup ("__class__" : Str) = some .free
  sup : sc.names.lookup ("super" : Str) = some .globalImplicit
def supScB (N ps : List Str) (sc : Scope) : Bool :=
  decide (sc.kind = .function) && !sc.isCoroutine && !sc.isGenerator && decide N.Nodup && decide (N.take ps.length = ps) && ps.all (fun x => decide (sc.names.lookup x = some .local)) && sc.names.all (fun y => !decide (y.2 = .cell)) && sc.names.all (fun y => !decide (y.2 = .free) || decide (y.1 = ("__class__" : Str))) && decide (sc.names.lookup ("__class__" : Str) = some .free) && decide (sc.names.lookup ("super" : Str) = some .globalImplicit)
theorem supScope_by {N ps : List Str} {sc : Scope} (h : supScB N ps sc = true) : SupScope N ps sc := by
  unfold supScB at h
  simp only [Bool.and_eq_true, Bool.not_eq_true', decide_eq_true_eq, List.all_eq_true, Bool.or_eq_true, decide_eq_false_iff_not] at h
  obtain ⟨⟨⟨⟨⟨⟨⟨⟨⟨h1, h2⟩, h3⟩, h4⟩, h5⟩, h6⟩, h7⟩, h8⟩, h9⟩, h10⟩ := h
  exact ⟨h1, h2, h3, h4, h5, h6, h7, fun y hy e => (h8 y hy).elim (fun z => absurd e z) id, h9, h10⟩
/-- the context of its body -/
def cxS (CX : CXT) (P : Program) (w : World) (K : PySem.W.Frag) (mg : Str → Option Value) (base : Heap) (N : List Str) (qual : Str) (scope : Scope) (f : Addr) (cd : Value) (cc : Addr) (A : Around) (outer : List Env) (s : Shared) (H : Hp) (E : XK) : Cx where
  prog := P
  w := w
  K := K
  mg := mg
  base := base
  A := A.deeper (envS qual scope s.heap.objs.size f cd cc)
  N := N
  s_0 := s
  H_0 := H
  env := envS qual scope s.heap.objs.size f cd cc
  outer := outer
  stack := envS qual scope s.heap.objs.size f cd cc :: outer
  ex := []
  calm := true
  fn := fun _ => false
  pn := []
  xe := fun e s' => wpAny (model P w) (A.deeper (envS qual scope s.heap.objs.size f cd cc)) (leaving (envS qual scope s.heap.objs.size f cd cc) e) (fun _ s'' => CX outer H s E e s'') (fun e' s'' => CX outer H s E e' s'') s'
theorem look1 {cc c : Addr} {x : Str} (e : ([(("__class__" : Str), cc)] : List (Str × Addr)).lookup x = some c) : x = "__class__" ∧ c = cc := by
  simp only [List.lookup] at e
  split at e
  · rename_i q
    exact ⟨beq_iff_eq.mp q, (Option.some.inj e).symm⟩
  · cases e
section
variable {CX : CXT} {P : Program} {w : World} {K : PySem.W.Frag} {mg : Str → Option Value} {base : Heap} {N ps : List Str} {qual : Str} {scope : Scope} {f cc C : Addr} {cd : Value} {A : Around} {outer : List Env} {s : Shared} {H : Hp} {E : XK} {us : List Value} {vs : List V}
theorem inv_sup {h₁ : Heap} {tk : Nat} (S : SupScope N ps scope) (hd : A.handled = none) (e0 : Env0 P w K mg base A outer s H) (hl : vs.length = ps.length) (r : Vals vs us) (hc : ∃ o, base.get? cc = some o ∧ o.data = .cell (some (.ref C)))
    (hns : h₁.Ns s.heap.objs.size fun y => (ps.zip us).reverse.lookup y) (kp : ∀ b o, s.heap.get? b = some o → h₁.get? b = some o) :
    Inv (cxS CX P w K mg base N qual scope f cd cc A outer s H E) [] (L2.start N vs) H { s with heap := h₁, toks := tk } := by
  have hpl : ps.length ≤ N.length := by
    have q := congrArg List.length S.pre
    rw [List.length_take] at q
    omega
  have noA : ∀ b : Addr, b ∉ (cxS CX P w K mg base N qual scope f cd cc A outer s H E).ex := fun b z => absurd (show b ∈ ([] : List Addr) from z) (by simp)
  obtain ⟨oc, hoc, hdc⟩ := hc
  have c1 := e0.bs _ _ hoc
  refine ⟨⟨e0.mod, S.kind, rfl, rfl, Nat.le_refl _, fun x y c h1 h2 => (look1 h1).1.trans (look1 h2).1.symm, fun y hy => ?_, fun y c z _ => ?_, fun _ => hd, Around.frames_deeper e0.frames, .inr ⟨rfl, rfl⟩, fun b z => absurd z (noA b), e0.bs, e0.bsz, fun b _ _ => noA b,
      fun b z => absurd z (noA b), e0.funs, e0.frf⟩,
    rfl, e0.bare, Un.kept kp, ⟨_, hns, fun i y v e1 e2 e3 => ?_⟩, fun y c e => ?_, e0.hok.fresh (Nat.le_refl _), fun y c e => ?_, fun q hq => absurd (show q ∈ ([] : List (Addr × Obj)) ++ [] from hq) (by simp), e0.hok.kept kp, ?_⟩
  · have hy : scope.names.lookup y = some .cell ∨ scope.names.lookup y = some .free := hy
    rcases hy with hy | hy
    · exact absurd rfl (S.nocell _ (PySem.mem_of_lookup hy))
    · have ey : y = "__class__" := S.free _ (PySem.mem_of_lookup hy) rfl
      subst ey
      exact ⟨cc, rfl⟩
  · have z : false = true := z
    cases z
  · have e1 : N[i]? = some y := e1
    unfold L2.start at e2
    by_cases h1 : i < ps.length
    · have hq : ps[i]? = some y := by
        rw [← S.pre, List.getElem?_take_of_lt (by omega)]
        exact e1
      rw [List.getElem?_append_left (by rw [List.length_map]; omega), List.getElem?_map] at e2
      have ha : vs[i]? = some v := by
        cases e : vs[i]? with
        | none => rw [e] at e2; cases e2
        | some a => rw [e] at e2; cases e2; rfl
      obtain ⟨u, hu, rv⟩ := r.get ha
      have ndP : ps.Nodup := by
        have q := S.nd.sublist (List.take_sublist ps.length N)
        rw [S.pre] at q
        exact q
      exact ⟨u, rv, .inl ⟨S.par y (List.mem_of_getElem? hq), NdefX.zip_look ndP hq hu⟩⟩
    · rw [List.getElem?_append_right (by rw [List.length_map]; omega), List.getElem?_replicate] at e2
      split at e2 <;> cases e2
  · obtain ⟨_, rfl⟩ := look1 e
    exact ⟨_, oc, kp _ _ c1.1, hdc⟩
  · obtain ⟨_, rfl⟩ := look1 e
    exact c1.2
  · unfold L2.start
    show _ = N.length
    rw [List.length_append, List.length_map, List.length_replicate]
    omega
end
/-! ### super().__init__(e) -/
section
variable {CX : CXT} {P : Program} {w : World} {K : PySem.W.Frag} {mg : Str → Option Value} {base : Heap} {N ps : List Str} {name qual : Str} {params : Arguments} {body : List Stmt} {scope : Scope} {f cda cc C : Addr} {fd : FuncData} {A : Around} {outer : List Env} {s : Shared} {H : Hp} {E : XK}
theorem run_super {e : Expr} {ta : TA} {p0 p1 p2 pos pos' : Pos} {ar : Arg} {a : Addr} {σ : L2.St} {H1 : Hp} {s1 : Shared} {body0 : List Stmt} {R : Hp → Prop} {pl : Sem Bool} (T : OexC K C) (SF : SupF P K C name qual params body scope f cda cc fd) (S : SupScope N ps scope)
    (hp : (params.posonlyargs ++ params.args).head? = some ar) (hN : N[0]? = some ar.arg) (hx0 : ar.arg ∈ ps) (hm : mg "super" = none)
    (I : Inv (cxS CX P w K mg base N qual scope f (.ref cda) cc A outer s H E) [] σ H1 s1) (h0 : σ[0]? = some (some (.ref a))) (ea : H1 a = some (exo a C none))
    (ha : PA (cxS CX P w K mg base N qual scope f (.ref cda) cc A outer s H E) [e] ta) (hq : ta σ H1 fun vs H2 => vs.length ≤ 1000 ∧ H2 a = some (exo a C none) ∧ R H2)
    (hi : interactive (envS qual scope s.heap.objs.size f (.ref cda) cc) = false) (hsw : swapsWith (.Call (.Attribute (.Call (.Name "super" p0) [] [] p1) "__init__" p2) [e] [] pos) none pos'.line (envS qual scope s.heap.objs.size f (.ref cda) cc) = pure false)
    (hs : starEach [e] (envS qual scope s.heap.objs.size f (.ref cda) cc) = (false, eval e (envS qual scope s.heap.objs.size f (.ref cda) cc)) :: starEach [] (envS qual scope s.heap.objs.size f (.ref cda) cc))
    (hc : eval (.Call (.Attribute (.Call (.Name "super" p0) [] [] p1) "__init__" p2) [e] [] pos) (envS qual scope s.heap.objs.size f (.ref cda) cc) = (do
      let ov ← attributeBase (.Call (.Name "super" p0) [] [] p1) "__init__" (envS qual scope s.heap.objs.size f (.ref cda) cc) (eval (.Call (.Name "super" p0) [] [] p1) (envS qual scope s.heap.objs.size f (.ref cda) cc))
      standAt p2.atName
      let (f', first) ← holding [ov] (getMethod ov "__init__" pl)
      callWith pos f' first (backTo pos (starEach [e] (envS qual scope s.heap.objs.size f (.ref cda) cc))) [])) :
    _root_.PySem.wpAt (model P w) (A.deeper (envS qual scope s.heap.objs.size f (.ref cda) cc)) (.func body0 (envS qual scope s.heap.objs.size f (.ref cda) cc)) (exec (.Expr (.Call (.Attribute (.Call (.Name "super" p0) [] [] p1) "__init__" p2) [e] [] pos) pos') (envS qual scope s.heap.objs.size f (.ref cda) cc))
      (fun fl s' => fl = .next ∧ ∃ H2, Inv (cxS CX P w K mg base N qual scope f (.ref cda) cc A outer s H E) [] σ H2 s' ∧ R H2) (cxS CX P w K mg base N qual scope f (.ref cda) cc A outer s H E).xe s1 := by
  have KX : K.In s1.heap := I.kIn
  obtain ⟨oc, od, osl, lk⟩ := SF.lk
  obtain ⟨kV, doc, pm, an, ct, efd⟩ := SF.fd
  obtain ⟨ccl, cdd, wvs, ccs, g0, tf, lc, hvs, hfile⟩ := SF.file
  obtain ⟨cl, cld, csl, lcell⟩ := SF.cell
  obtain ⟨nm, q, NN, bs, bm, sn, sub, ab, col, dd, k0, k1, k2, k3, k5, hC, hbm⟩ := T.cls
  have hcl : PySem.W.clsIn K C = some { name := nm, bases := bs, mro := .ref C :: bm, ns := NN, qualname := q, hasDict := true, slotNames := sn, subclasses := sub, abstract := ab, collection := col, hasDel := false } := by unfold PySem.W.clsIn; rw [hC] <;> rfl
  obtain ⟨t1, ho⟩ := exo_at I.hok ea
  obtain ⟨mb, b1, b2⟩ := I.mod.blt
  obtain ⟨m, hn, hl⟩ := I.loc
  obtain ⟨u, ru, lkv⟩ := hl 0 ar.arg (.ref a) hN h0 (.inl (S.par _ hx0))
  obtain rfl : u = Value.ref a := ru
  have hself : m ar.arg = some (.ref a) := by
    rcases lkv with ⟨_, z⟩ | ⟨z, _⟩
    · exact z
    · have k := S.par _ hx0
      have z : scope.names.lookup ar.arg = some .cell ∨ scope.names.lookup ar.arg = some .free := z
      rw [k] at z
      rcases z with z | z <;> cases z
  have hxC : a ≠ C := fun z => by
    have q := (I.bs C _ (I.ok.mod.kin _ _ hC)).2
    rw [← z, ea] at q
    cases q
  refine PySem.ks_wpAt_Expr_any ?_ hi hsw
  refine PySem.ks_wpAt_MethodCall ?_ hc
  refine PySem.ks_wpAt_super_base (env := envS qual scope s.heap.objs.size f (.ref cda) cc) (f := f) (cc := cda) (fd := fd) S.sup S.cls (by decide) rfl (KX _ _ lk) rfl (by rw [efd]; exact hp) rfl (KX _ _ lc) rfl hvs hfile SF.top ?_
  refine PySem.W.ks_loadName_global S.kind S.sup (Calls.loadGlobal_builtin (env := envS qual scope s.heap.objs.size f (.ref cda) cc) (I.mod.glob.keeps I.bk) hm (b1.keeps I.bk) ((b2 "super" (by decide)).trans (by rfl)) ⟨rfl, ?_⟩)
  refine wpAny_loadName_free S.kind S.cls rfl ⟨_, KX _ _ lcell, rfl⟩ ?_
  refine wpAny_loadName_local S.kind (S.par _ hx0) hn hself ?_
  refine PySem.ks_wpAny_isType_cls (KX _ _ hC) rfl ⟨rfl, ?_⟩
  obtain ⟨hp1, g, d, t, os⟩ := s1
  refine PySem.ks_wpAny_call_super (KX _ _ hC) rfl ho rfl (fun c z => by cases z) (PySem.W.looks_mroIn KX SF.mro) (fun h' e1 k => ?_)
  have I1 := I.kept (t' := t) (h' := h') k
  have K1 : K.In h' := I1.kIn
  have J0 : PySem.W.InstAt h' a { cls := .ref C, dict := none, data := .fields #[.ref t1, .none, .none, .none, .bool false, .none] } C none := ⟨k _ _ ho, rfl, rfl, trivial⟩
  refine PySem.W.kxs_getMethod PySem.W.kxs_ValueError e1 (PySem.W.looks_opaque K1 SF.stat) (l₀ := .ref C :: bm) ((PySem.W.looks_clsIn K1 hcl).andThen .now) rfl K1 ?_ (J0.type.andThen (PySem.W.looks_subIn K1 SF.sub)) hxC (by decide) ?_
  · have z := SF.sup
    unfold PySem.W.ks_superIn at z
    rw [hcl] at z
    exact z
  have I2 := ClX.pin_new (t' := t + 1) (h' := h'.push (PySem.W.kxs_mw "ValueError.__init__" a)) (a := h'.objs.size) (o := PySem.W.kxs_mw "ValueError.__init__" a) I1 (fun b u q => Heap.get?_push_of_some _ q) (Nat.le_refl _) (Heap.get?_push_at rfl rfl) (fun v z => by cases z)
  rw [hs]
  refine PySem.W.kxs_callWith (i := "ValueError.__init__") (x := a) rfl ?_
  refine PySem.Calls.evalArgs_plain (?_)
  have hrun := ha.run pos _ _ σ H1 _ I2 hq
  rw [show starEach [e] (cxS CX P w K mg base N qual scope f (.ref cda) cc A outer s H E).env = _ from hs] at hrun
  refine thn hrun fun us s2 ⟨vs, H2, I3, r3, hlen, e3, hR⟩ => ?_
  obtain ⟨hp2, g2, d2, tk2, os2⟩ := s2
  obtain ⟨t2, ho2⟩ := exo_at I3.hok e3
  refine ⟨ClX.pin_at I3, ?_⟩
  refine call_sup (I3.kIn _ _ hC) ho2 (ClX.pin_at I3) (by show us.length ≤ sizeLine; rw [← Paired.length r3, sizeLine_eq]; omega) fun h3 t3 k3' hx3 => ?_
  have J := (ClX.unpin I3).write (t' := tk2) (x := a) (e := a) (o := exo a C none) (by rw [e3]; exact True.intro) (.inl rfl) k3' ⟨_, hx3⟩ (exo_ok hx3)
  have eu : upd H2 a (exo a C none) = H2 := by
    funext b
    by_cases hb : b = a
    · rw [hb, upd_same, e3]
    · rw [upd_ne hb]
  rw [eu] at J
  exact ⟨rfl, H2, J, hR⟩
/-- THE RULE: such an __init__, by its body's rest -/
theorem fn_sup {k : Nat} {sp : Sp} {e : Expr} {p0 p1 p2 pos pos' : Pos} {rest : List Stmt} {ar : Arg} (T : OexC K C) (SF : SupF P K C name qual params (.Expr (.Call (.Attribute (.Call (.Name "super" p0) [] [] p1) "__init__" p2) [e] [] pos) pos' :: rest) scope f cda cc fd) (S : SupScope N ps scope)
    (hp : (params.posonlyargs ++ params.args).head? = some ar) (hN : N[0]? = some ar.arg) (hx0 : ar.arg ∈ ps) (hm : mg "super" = none) (len : ∀ vs H Q E, sp vs H Q E → vs.length = ps.length)
    (hi : ∀ L, interactive (envS qual scope L f (.ref cda) cc) = false) (hsw : ∀ L, swapsWith (.Call (.Attribute (.Call (.Name "super" p0) [] [] p1) "__init__" p2) [e] [] pos) none pos'.line (envS qual scope L f (.ref cda) cc) = pure false)
    (hs : ∀ L, starEach [e] (envS qual scope L f (.ref cda) cc) = (false, eval e (envS qual scope L f (.ref cda) cc)) :: starEach [] (envS qual scope L f (.ref cda) cc))
    (hc : ∀ L, ∃ pl : Sem Bool, eval (.Call (.Attribute (.Call (.Name "super" p0) [] [] p1) "__init__" p2) [e] [] pos) (envS qual scope L f (.ref cda) cc) = (do
      let ov ← attributeBase (.Call (.Name "super" p0) [] [] p1) "__init__" (envS qual scope L f (.ref cda) cc) (eval (.Call (.Name "super" p0) [] [] p1) (envS qual scope L f (.ref cda) cc))
      standAt p2.atName
      let (f', first) ← holding [ov] (getMethod ov "__init__" pl)
      callWith pos f' first (backTo pos (starEach [e] (envS qual scope L f (.ref cda) cc))) []))
    (hbody : ∀ (A : Around) (outer : List Env) (s : Shared) (H : Hp) (vs : List V) (Q : VK) (E : XK), Room k (A.deeper (envS qual scope s.heap.objs.size f (.ref cda) cc)) → sp vs H Q E →
      ∃ (a : Addr) (ta : TA) (t : TS), vs[0]? = some (.ref a) ∧ H a = some (exo a C none) ∧ PA (cxS CX P w K mg base N qual scope f (.ref cda) cc A outer s H E) [e] ta ∧ PSs (cxS CX P w K mg base N qual scope f (.ref cda) cc A outer s H E) rest t ∧
        ta (L2.start N vs) H fun ws H2 => ws.length ≤ 1000 ∧ H2 a = some (exo a C none) ∧ t { nx := fun _ H' => Q .non H', rt := Q } (L2.start N vs) H2) :
    FnOk P w K mg base CX (k + 1) f fd ps sp := by
  refine ⟨len, fun A outer s H args us vs Q E hr e0 hb r hsp => ?_⟩
  have hl := len _ _ _ _ hsp
  have KX : K.In s.heap := e0.mod.kin.keeps fun b o e => (e0.bs b o e).1
  have lim : s.heap.NoLimit := e0.mod.nolimit.keeps fun b o e => (e0.bs b o e).1
  obtain ⟨oc, od, osl, lk⟩ := SF.lk
  obtain ⟨kV, doc, pm, an, ct, efd⟩ := SF.fd
  obtain ⟨cl, cld, csl, lcell⟩ := SF.cell
  obtain ⟨a, ta, t, hv0, ea, hta, ht, hq⟩ := hbody A outer s H vs Q E (hr.deeper _) hsp
  have hcell : ∃ o, base.get? cc = some o ∧ o.data = .cell (some (.ref C)) := ⟨_, e0.mod.kin _ _ lcell, rfl⟩
  have SF2 := SF
  subst efd
  refine PySem.ks_codeAny_call_defAt (binds := ps.zip us) hr.depth (KX _ _ lk) rfl lim (PySem.W.codeRec_of KX SF.code) rfl hb S.nocell (fun x hx => S.par x.1 (List.of_mem_zip hx).1) (fun h₁ hns hk₁ => ?_) S.co S.gen S.kind
  have I := inv_sup (CX := CX) (w := w) (K := K) (mg := mg) (qual := qual) (f := f) (cd := .ref cda) (E := E) (tk := s.toks + (ps.zip us).length) S hr.hd e0 hl r hcell hns hk₁
  have h0 : (L2.start N vs)[0]? = some (some (.ref a)) := by
    unfold L2.start
    cases vs with
    | nil => cases hv0
    | cons v vs' =>
      have z : v = .ref a := Option.some.inj hv0
      rw [z] <;> rfl
  obtain ⟨pl, hcp⟩ := hc s.heap.objs.size
  refine PySem.ks_wpAt_execs_cons (PySem.ks_wpAt_mono (run_super T SF2 S hp hN hx0 hm I h0 ea hta hq (hi _) (hsw _) (hs _) hcp) (fun fl s' hs' => ?_) fun e s' hs' => hs')
  obtain ⟨efl, H2, J, q⟩ := hs'
  subst efl
  show _root_.PySem.wpAt _ _ _ _ _ _ _
  refine PySem.wpAt_of_wpAny (wpAny_mono (ht.run [] s' (L2.start N vs) H2 _ J q) (fun fl s' hs => ?_) fun e s' hs => hs)
  have fin : ∀ {σ' : L2.St} {H' : Hp} {v : V} {u : Value}, Inv (cxS CX P w K mg base N qual scope f (.ref cda) cc A outer s H E) [] σ' H' s' → L2.RelV v u → Q v H' → CE outer P w H s Q u s' :=
    fun {σ' H' v u} J rv q => ⟨v, H', J.os, J.bare, J.base, J.hok, rv, q⟩
  cases fl with
  | ret u =>
    obtain ⟨v, σ', H', J, rv, q⟩ := hs
    exact fin J rv q
  | next =>
    obtain ⟨σ', H', J, q⟩ := hs
    exact fin (v := V.non) (u := Value.none) J rfl q
  | brk =>
    obtain ⟨_, _, _, q⟩ := hs
    exact False.elim q
  | cont =>
    obtain ⟨_, _, _, q⟩ := hs
    exact False.elim q
end
end RV
set_option maxHeartbeats 4000000
namespace K2
open PySem PySem.Spec PyProof.Rows L2 RV
/-! ### NoRule.__init__ -/
abbrev sNRInit : Stmt := inClass (topS 3) 0
/-- NoRule, a RingError, a ValueError -/
structure NRule (P : Program) (K : PySem.W.Frag) (mg : Str → Option Value) (CN f cda cc : Addr) (fd : FuncData) : Prop where
  T : OexC K CN
  SF : SupF P K CN "__init__" "NoRule.__init__" (defArgs sNRInit) (defBody sNRInit) (defScope sNRInit) f cda cc fd
  bi : Binds K fd ["self", "field"] []
  ini : PySem.W.findIn K (.ref CN) "__init__" = some (some (.ref f))
  ty : PySem.W.typeIn K (.ref f) = some (.type "function")
  no : PySem.W.findIn K (.ref CN) "field" = some none
  g : mg "NoRule" = some (.ref CN)
  sup : mg "super" = none
def spNR (CN : Addr) : Sp := fun vs H Q _ => ∃ (a : Addr) (z : Str), vs = [.ref a, .str z] ∧ H a = some (exo a CN none) ∧ z.length ≤ 100 ∧ ∀ dx, H dx = none → dx ≠ a → Q .non (upd (upd H dx (exd dx [("field", .str z)])) a (exo a CN (some dx)))
section
variable {P : Program} {w : World} {K : PySem.W.Frag} {mg : Str → Option Value} {base : Heap}
theorem scNR : SupScope ["self", "field"] ["self", "field"] (defScope sNRInit) := supScope_by (by decide +kernel)
theorem ok_nr {CX : CXT} {CN f cda cc : Addr} {fd : FuncData} (N : NRule P K mg CN f cda cc fd) : FnOk P w K mg base CX 1 f fd ["self", "field"] (spNR CN) := by
  refine fn_sup (N := ["self", "field"]) N.T N.SF scNR (by rfl) (by rfl) (by decide) N.sup (fun vs H Q E h => ?_) (fun L => by rfl) (fun L => by rfl) (fun L => by rfl) (fun L => ⟨_, by rfl⟩) (fun A outer s H vs Q E hr h => ?_)
  · obtain ⟨a, z, rfl, _⟩ := h
    rfl
  · obtain ⟨a, z, rfl, ea, hz, q⟩ := h
    refine ⟨a, _, _, rfl, ea, pa_cons (pe_joined (.cons pe_str (.cons (pe_fmt (pv 1)) .nil))) pa_nil, pss_one (ps_ost (pv 0) (pv 1)), ?_⟩
    have l1 : (Str.empty ++ Str.ofString "this is no rule: see its ").length = 25 := by rfl
    refine ⟨_, rfl, by rw [l1, sizeLine_eq]; omega, .str z, rfl, .inl ⟨z, rfl, by rw [sizeLine_eq]; omega, z, rfl, by rw [strLen_append, l1, sizeLine_eq]; omega, ?_⟩⟩
    refine ⟨by show 1 ≤ 1000; decide, ea, ?_⟩
    exact ⟨.str z, rfl, .ref a, rfl, a, CN, rfl, N.T, N.no, .inl ⟨ea, fun dx n1 n2 => q dx n1 n2⟩⟩
end
end K2
set_option maxHeartbeats 4000000
/-! a law's head by a hook of my own: a part of the heap that only follows tables, functions and classes, the functions by He's facts, the rest as a list of looks. -/
namespace RV
open PySem PySem.Spec PyProof.Rows L2
/-- what a table, a function, a class names -/
def refsX (o : Obj) : List Addr := match o.data with
  | .dict es _ => es.toList.flatMap fun e => He.refV e.val
  | .func fd => He.refV fd.code
  | .cls cd => [cd.ns]
  | _ => []
def growX (g : Addr → Option Obj) (as : List Addr) : List Addr := as.flatMap fun a => match g a with
  | some o => refsX o
  | none => []
def asX (g : Addr → Option Obj) : List Addr :=
  let a1 := growX g [mainGlobals]
  let a2 := growX g a1
  let a3 := growX g a2
  let a4 := growX g a3
  mainGlobals :: (a1 ++ (a2 ++ (a3 ++ a4)))
abbrev AlX : Type := He.Al × Bool
def obsX (fa : List He.Fa) (fn : List He.FnD) (ex : List (PySem.W.Frag → Bool)) (K : PySem.W.Frag) : AlX := (He.obsE fa fn K, ex.all fun p => p K)
def valX (fn : List He.FnD) : AlX := (He.valE fn, true)
def obsXG (fa : List He.Fa) (fn : List He.FnD) (ex : List (PySem.W.Frag → Bool)) (g : Addr → Option Obj) : AlX := obsX fa fn ex (He.frG g (asX g))
structure SaysX (fa : List He.Fa) (fn : List He.FnD) (ex : List (PySem.W.Frag → Bool)) (K : PySem.W.Frag) : Prop where
  e : He.SaysE fa fn K
  x : (ex.all fun p => p K) = true
def hookX (fa : List He.Fa) (fn : List He.FnD) (ex : List (PySem.W.Frag → Bool)) : PySem.W.Hook where
  α := AlX
  obs := fun s => obsXG fa fn ex s.heap.get?
  val := fun _ => valX fn
  says := fun _ h => ∃ K : PySem.W.Frag, K.In h ∧ SaysX fa fn ex K
  of := fun _ _ e => ⟨_, He.frG_in, congrArg (fun z : AlX => z.1) e, congrArg (fun z : AlX => z.2) e⟩
  keeps := fun _ _ _ ⟨K, hK, c⟩ k => ⟨K, PySem.W.Frag.In.keeps hK k, c⟩
theorem obsXG_eq {fa : List He.Fa} {fn : List He.FnD} {ex : List (PySem.W.Frag → Bool)} {g : Addr → Option Obj} {s : Shared} (h : ∀ a, g a = s.heap.get? a) : obsXG fa fn ex g = (hookX fa fn ex).obs s := by
  have e : g = s.heap.get? := funext h
  rw [e] <;> rfl
section
variable {fa : List He.Fa} {fn : List He.FnD} {ex : List (PySem.W.Frag → Bool)} {K : PySem.W.Frag} {h : Heap} {mg : Str → Option Value}
theorem SaysX.look (c : SaysX fa fn ex K) (i : Nat) {p : PySem.W.Frag → Bool} (e : ex[i]? = some p) : p K = true := List.all_eq_true.mp c.x p (List.mem_of_getElem? e)
theorem SaysX.dec (c : SaysX fa fn ex K) (i : Nat) {P : PySem.W.Frag → Prop} [d : ∀ K, Decidable (P K)] (e : ex[i]? = some fun K => decide (P K)) : P K := of_decide_eq_true (c.look i e)
/-- the int that a name stands for -/
def intX (x : Str) (i : Int) (K : PySem.W.Frag) : Bool := match PySem.W.nsIn K mainGlobals x with
  | some (some (.int j _)) => decide (j = i)
  | _ => false
theorem intX_ok {x : Str} {i : Int} (c : intX x i K = true) : ∃ t, PySem.W.nsIn K mainGlobals x = some (some (.int i t)) := by
  unfold intX at c
  cases e : PySem.W.nsIn K mainGlobals x with
  | none =>
    rw [e] at c
    cases c
  | some o =>
    rw [e] at c
    cases o with
    | none => cases c
    | some v =>
      cases v with
      | int j t =>
        have ej : j = i := of_decide_eq_true c
        rw [ej]
        exact ⟨t, rfl⟩
      | _ => cases c
/-- a def of the top -/
theorem def_x (X : K.In h) (G : h.Ns mainGlobals mg) (c : SaysX fa fn ex K) {x : Str} {st : Stmt} {ps : List Str} (i : Nat) (hd : fn[i]? = some ⟨(x, none), x, x, defArgs st, defBody st, defScope st⟩) (hg : fa[2 * i]? = some (.glo x)) (hk : fa[2 * i + 1]? = some (.keep x))
    (hb : ∀ (kV doc pm : Value) (an : Option Addr) (cdv ct : Value) (us : List Value), us.length = ps.length → bindArgs (PySem.W.fnOf x x (defArgs st) (defBody st) (defScope st) .none kV doc pm an cdv ct) ⟨us, []⟩ = pure (ps.zip us)) :
    ∃ (f : Addr) (fd : FuncData), Fun K x x st f fd ∧ Binds K fd ps [] ∧ mg x = some (.ref f) := by
  obtain ⟨oc, od, osl, kV, doc, pm, an, cdv, ct, lk, cd⟩ := c.e.def_ i hd
  have F : Fun K x x st _ _ := fun_mk (st := st) lk cd (He.keep_ok (c.e.fact (2 * i + 1) hk))
  exact ⟨_, _, F, F.binds hb, He.glo_ok X G (c.e.fact (2 * i) hg)⟩
/-- the law -/
theorem law_x (X : K.In h) (G : h.Ns mainGlobals mg) (c : SaysX fa fn ex K) {x q : Str} {st : Stmt} (i : Nat) (hd : fn[i]? = some ⟨(x, none), x, x, defArgs st, defBody st, defScope st⟩) (hg : fa[2 * i]? = some (.glo x)) (hk : fa[2 * i + 1]? = some (.keep x))
    (hb : ∀ (kV doc pm : Value) (an : Option Addr) (cdv ct : Value) (s : Shared) (v : Value), BindsTo s (PySem.W.fnOf x x (defArgs st) (defBody st) (defScope st) .none kV doc pm an cdv ct) ⟨[v], []⟩ [(q, v)]) :
    ∃ (f : Addr) (fd : FuncData), Fun K x x st f fd ∧ (∀ (s : Shared) (v : Value), BindsTo s fd ⟨[v], []⟩ [(q, v)]) ∧ mg x = some (.ref f) := by
  obtain ⟨oc, od, osl, kV, doc, pm, an, cdv, ct, lk, cd⟩ := c.e.def_ i hd
  have F : Fun K x x st _ _ := fun_mk (st := st) lk cd (He.keep_ok (c.e.fact (2 * i + 1) hk))
  exact ⟨_, _, F, hb kV doc pm an cdv ct, He.glo_ok X G (c.e.fact (2 * i) hg)⟩
/-- a method -/
theorem meth_x (c : SaysX fa fn ex K) {C : Addr} {x m q : Str} {st : Stmt} {ps : List Str} (hC : He.ga K x = C) (i j : Nat) (hd : fn[i]? = some ⟨(x, some m), m, q, defArgs st, defBody st, defScope st⟩) (hm : fa[j]? = some (.meth x m))
    (hb : ∀ (kV doc pm : Value) (an : Option Addr) (cdv ct : Value) (us : List Value), us.length = ps.length → bindArgs (PySem.W.fnOf m q (defArgs st) (defBody st) (defScope st) .none kV doc pm an cdv ct) ⟨us, []⟩ = pure (ps.zip us)) :
    ∃ (f : Addr) (fd : FuncData), Fun K m q st f fd ∧ Binds K fd ps [] ∧ PySem.W.findIn K (.ref C) m = some (some (.ref f)) ∧ PySem.W.isFn K (.ref f) = true ∧ PySem.W.keepIn K (.ref f) = true := by
  subst hC
  obtain ⟨oc, od, osl, kV, doc, pm, an, cdv, ct, lk, cd⟩ := c.e.def_ i hd
  have hf := c.e.fact j hm
  obtain ⟨h1, h2⟩ := He.ba hf
  obtain ⟨h3, h4⟩ := He.ba h2
  have F : Fun K m q st _ _ := fun_mk (st := st) lk cd h4
  exact ⟨_, _, F, F.binds hb, He.eqO_ok h1, h3, h4⟩
end
theorem walk_GE {l : PySem.W.OpenLaw} {n k : Nat} {q : Program} {loose : List Str} {XP : (Str → Option Value) → Heap → Prop} {YP : World → Heap → Prop} {d : DefRec} {x : Str}
    (hn : l.most = some n) (hn2 : n ≤ sizeLine) (hdf : d.params.defaults = []) (hr : Room k callerA)
    (F : ∀ (w : World) (mg : Str → Option Value) (fa : Addr) (h : Heap), YP w h → h.Ns mainGlobals mg → mg d.name = some (.ref fa) →
      ∃ (K : PySem.W.Frag) (fd : FuncData) (sp : Sp), K.In h ∧ (∀ (s : Shared) (u : Value), BindsTo s fd ⟨[u], []⟩ [(x, u)]) ∧
        (∀ (H : Hp) (a : Addr) (ns : List Int), ns.length ≤ n → Only H → SqL K H a (ns.map V.int) → sp [.ref a] H (fun v _ => v = .bl true) fun _ _ _ => False) ∧
        ∀ base : Heap, K.In base → base.Ns mainGlobals mg → FnG l.prog w K mg base CX0 k fa fd [x] sp) :
    PySem.W.WalkO q loose XP YP l.row.toRowW d [] (fun f vs => PySem.call f vs) := by
  refine Att.attach_call hn hdf fun w s₀ st mg mb fa o pm cd doc a vs ns G Y ho hd hcd hmg hobj hints hlen hg => ?_
  obtain ⟨K, fd, sp, KX, hb, hsp, hF⟩ := F w mg fa _ Y G.T.g hmg
  exact law_callG KX G.T.g G.T.b G.T.builtins G.T.nolimit hg hobj hints (Nat.le_trans hlen hn2) hr hF hb fun H hO hS => hsp H a ns hlen hO hS
end RV
set_option maxHeartbeats 4000000
/-! a law's head, where own exceptions have an __init__ with super() in it: cells are followed too. -/
namespace RV
open PySem PySem.Spec PyProof.Rows L2
def refsS (o : Obj) : List Addr := match o.data with
  | .dict es _ => es.toList.flatMap fun e => He.refV e.val
  | .func fd => He.refV fd.code ++ fd.closure.map (·.2)
  | .cls cd => [cd.ns]
  | _ => []
def growS (g : Addr → Option Obj) (as : List Addr) : List Addr := as.flatMap fun a => match g a with
  | some o => refsS o
  | none => []
def asS (g : Addr → Option Obj) : List Addr :=
  let a1 := growS g [mainGlobals]
  let a2 := growS g a1
  let a3 := growS g a2
  let a4 := growS g a3
  mainGlobals :: cStatics :: sysModules :: (a1 ++ (a2 ++ (a3 ++ a4)))
/-- a function without its cells -/
abbrev FnSV : Type := Option (Str × Str × Arguments × FuncBody × Scope × Addr × Value × Addr)
def fnObsS (K : PySem.W.Frag) (p : Str × Option Str) : FnSV := match K.lookup (He.fAd K p) with
  | some ⟨_, _, .func fd, _⟩ => some (fd.name, fd.qualname, fd.params, fd.body, fd.scope, fd.globals, fd.defaults, fd.builtins)
  | _ => none
def valOf (d : He.FnD) : FnSV := some (d.name, d.qual, d.params, .stmts d.body, d.scope, mainGlobals, .none, builtinsNs)
abbrev AlS : Type := (He.Al × Bool) × List FnSV
def obsS (fa : List He.Fa) (fn : List He.FnD) (ex : List (PySem.W.Frag → Bool)) (sn : List He.FnD) (K : PySem.W.Frag) : AlS := (obsX fa fn ex K, sn.map fun d => fnObsS K d.at_)
def valS (fn sn : List He.FnD) : AlS := (valX fn, sn.map valOf)
def obsSG (fa : List He.Fa) (fn : List He.FnD) (ex : List (PySem.W.Frag → Bool)) (sn : List He.FnD) (g : Addr → Option Obj) : AlS := obsS fa fn ex sn (He.frG g (asS g))
structure SaysS (fa : List He.Fa) (fn : List He.FnD) (ex : List (PySem.W.Frag → Bool)) (sn : List He.FnD) (K : PySem.W.Frag) : Prop where
  x : SaysX fa fn ex K
  s : (sn.map fun d => fnObsS K d.at_) = sn.map valOf
def hookS (fa : List He.Fa) (fn : List He.FnD) (ex : List (PySem.W.Frag → Bool)) (sn : List He.FnD) : PySem.W.Hook where
  α := AlS
  obs := fun s => obsSG fa fn ex sn s.heap.get?
  val := fun _ => valS fn sn
  says := fun _ h => ∃ K : PySem.W.Frag, K.In h ∧ SaysS fa fn ex sn K
  of := fun _ _ e => ⟨_, He.frG_in, ⟨congrArg (fun z : AlS => z.1.1) e, congrArg (fun z : AlS => z.1.2) e⟩, congrArg (fun z : AlS => z.2) e⟩
  keeps := fun _ _ _ ⟨K, hK, c⟩ k => ⟨K, PySem.W.Frag.In.keeps hK k, c⟩
theorem obsSG_eq {fa : List He.Fa} {fn sn : List He.FnD} {ex : List (PySem.W.Frag → Bool)} {g : Addr → Option Obj} {s : Shared} (h : ∀ a, g a = s.heap.get? a) : obsSG fa fn ex sn g = (hookS fa fn ex sn).obs s := by
  have e : g = s.heap.get? := funext h
  rw [e] <;> rfl
/-- what is looked at of such an __init__: its one cell holds the class, its code lies in the file -/
def cellB (K : PySem.W.Frag) (cc C : Addr) : Bool := match K.lookup cc with
  | some ⟨_, _, .cell (some (.ref D)), _⟩ => decide (D = C)
  | _ => false
def fileB (K : PySem.W.Frag) (cda : Addr) (file : Str) : Bool := match K.lookup cda with
  | some ⟨_, _, .fields vs, _⟩ => (match (vs[2]? : Option Value) with
    | some (Value.str g _) => decide (g = file)
    | _ => false)
  | _ => false
def supB (file q x : Str) (K : PySem.W.Frag) : Bool :=
  He.eqO (PySem.W.findIn K (.ref (He.ga K x)) "__init__") (some (some (.ref (He.ma K (He.ga K x) "__init__")))) && (decide (PySem.W.typeIn K (.ref (He.ma K (He.ga K x) "__init__")) = some (.type "function")) &&
  (match K.lookup (He.ma K (He.ga K x) "__init__") with
    | some ⟨_, _, .func fd, _⟩ => (match fd.closure, fd.code with
      | [(n, cc)], .ref cda => decide (n = ("__class__" : Str)) && (cellB K cc (He.ga K x) && (fileB K cda file && PySem.W.codeIn K (.ref cda) q))
      | _, _ => false)
    | _ => false))
theorem cellB_ok {K : PySem.W.Frag} {cc C : Addr} (h : cellB K cc C = true) : ∃ cl cld csl, K.lookup cc = some ⟨cl, cld, .cell (some (.ref C)), csl⟩ := by
  unfold cellB at h
  split at h
  · rename_i D _ e
    have := of_decide_eq_true h
    subst this
    exact ⟨_, _, _, e⟩
  · cases h
theorem fileB_ok {K : PySem.W.Frag} {cda : Addr} {file : Str} (h : fileB K cda file = true) : ∃ ccl cdd vs ccs tf, K.lookup cda = some ⟨ccl, cdd, .fields vs, ccs⟩ ∧ vs[2]? = some (.str file tf) := by
  unfold fileB at h
  split at h
  · rename_i vs _ e
    split at h
    · rename_i g tf e2
      have := of_decide_eq_true h
      subst this
      exact ⟨_, _, _, _, _, e, e2⟩
    · cases h
  · cases h
section
variable {fa : List He.Fa} {fn sn : List He.FnD} {ex : List (PySem.W.Frag → Bool)} {K : PySem.W.Frag}
theorem sup_x (c : SaysS fa fn ex sn K) {C : Addr} {file q x : Str} {st : Stmt} {ps : List Str} (hC : He.ga K x = C) (i j : Nat) (hd : sn[i]? = some ⟨(x, some "__init__"), "__init__", q, defArgs st, defBody st, defScope st⟩) (hs : ex[j]? = some (supB file q x))
    (hb : ∀ (kV doc pm : Value) (an : Option Addr) (cdv ct : Value) (cc : Addr) (us : List Value), us.length = ps.length → bindArgs (PySem.W.fnX "__init__" q (defArgs st) (defBody st) (defScope st) [("__class__", cc)] .none kV doc pm an cdv ct) ⟨us, []⟩ = pure (ps.zip us)) :
    ∃ (f cda cc : Addr) (fd : FuncData), (∃ oc od osl, K.lookup f = some ⟨oc, od, .func fd, osl⟩) ∧ (∃ kV doc pm an ct, fd = PySem.W.ksFn "__init__" q (defArgs st) (defBody st) (defScope st) .none kV doc pm an (.ref cda) ct cc) ∧ PySem.W.codeIn K (.ref cda) q = true ∧
      (∃ ccl cdd vs ccs tf, K.lookup cda = some ⟨ccl, cdd, .fields vs, ccs⟩ ∧ vs[2]? = some (.str file tf)) ∧ (∃ cl cld csl, K.lookup cc = some ⟨cl, cld, .cell (some (.ref C)), csl⟩) ∧ Binds K fd ps [] ∧ PySem.W.findIn K (.ref C) "__init__" = some (some (.ref f)) ∧ PySem.W.typeIn K (.ref f) = some (.type "function") := by
  subst hC
  have h := c.x.look j hs
  unfold supB at h
  obtain ⟨h1, h⟩ := He.ba h
  obtain ⟨h2, h⟩ := He.ba h
  have e2 : (sn.map fun d => fnObsS K d.at_)[i]? = (sn.map valOf)[i]? := by rw [c.s]
  rw [List.getElem?_map, List.getElem?_map, hd] at e2
  have e3 : fnObsS K (x, some "__init__") = valOf ⟨(x, some "__init__"), "__init__", q, defArgs st, defBody st, defScope st⟩ := Option.some.inj e2
  unfold fnObsS at e3
  have ead : He.fAd K (x, some "__init__") = He.ma K (He.ga K x) "__init__" := rfl
  rw [ead] at e3
  generalize He.ma K (He.ga K x) "__init__" = f at h h1 h2 e3
  cases lk : K.lookup f with
  | none => rw [lk] at h; cases h
  | some o =>
    obtain ⟨oc, od, dt, osl⟩ := o
    rw [lk] at h e3
    cases dt with
    | func fd =>
      obtain ⟨n1, n2, n3, n4, n5, n6, n7, n8, n9, n10, n11, n12, n13, n14, n15⟩ := fd
      have e4 : (some (n1, n2, n3, n4, n5, n6, n8, n15) : FnSV) = (some (("__init__" : Str), q, defArgs st, FuncBody.stmts (defBody st), defScope st, mainGlobals, Value.none, builtinsNs) : FnSV) := e3
      simp only [Option.some.injEq, Prod.mk.injEq] at e4
      obtain ⟨g1, g2, g3, g4, g5, g6, g7, g8⟩ := e4
      subst g1 g2 g3 g4 g5 g6 g7 g8
      dsimp only at h
      split at h
      · rename_i n cc cda
        obtain ⟨k1, h⟩ := He.ba h
        obtain ⟨k2, h⟩ := He.ba h
        obtain ⟨k3, k4⟩ := He.ba h
        have := of_decide_eq_true k1
        subst this
        refine ⟨f, cda, cc, _, ⟨oc, od, osl, lk⟩, ⟨n9, n10, n11, n12, n14, rfl⟩, k4, fileB_ok k3, cellB_ok k2, ?_, He.eqO_ok h1, of_decide_eq_true h2⟩
        exact Binds.all (hb n9 n10 n11 n12 (.ref cda) n14 cc)
      · cases h
    | _ => cases h
end
end RV
set_option maxHeartbeats 4000000
/-! an own class over ValueError, looked at in the head -/
namespace RV
open PySem PySem.Spec PyProof.Rows L2
def oexB (C : Addr) (K : PySem.W.Frag) : Bool := match K.lookup C with
  | some ⟨.type "type", _, .cls cd, sl⟩ => (match cd.mro, sl.toList with
    | .ref C' :: bm, [_, _, _, _, some (.builtin n), _] => decide (C' = C) && (decide (n = "ValueError.__new__") && (!cd.hasDel && (cd.hasDict && PySem.HandSPX.refsVE bm)))
    | _, _ => false)
  | _ => false
theorem oexB_ok {C : Addr} {K : PySem.W.Frag} (h : oexB C K = true) : ∃ nm q N bs bm sn sub ab col dd k0 k1 k2 k3 k5, K.lookup C = some (excClassObj nm q C N bs bm true sn sub ab col dd k0 k1 k2 k3 k5 "ValueError.__new__") ∧ PySem.HandSPX.refsVE bm = true := by
  unfold oexB at h
  split at h
  · rename_i dd cd sl e
    obtain ⟨nm, bs, mro, ns, qn, hd, sn, sb, ab, col, dl⟩ := cd
    obtain ⟨sl⟩ := sl
    dsimp only at h
    split at h
    · rename_i C' bm k0 k1 k2 k3 n k5
      obtain ⟨h1, h⟩ := He.ba h
      obtain ⟨h2, h⟩ := He.ba h
      obtain ⟨h3, h⟩ := He.ba h
      obtain ⟨h4, h5⟩ := He.ba h
      have e1 := of_decide_eq_true h1
      have e2 := of_decide_eq_true h2
      have e3 : dl = false := by simpa using h3
      have e4 : hd = true := h4
      subst e1 e2 e3 e4
      exact ⟨_, _, _, _, _, _, _, _, _, _, _, _, _, _, _, e, h5⟩
    · cases h
  · cases h
end RV
set_option maxHeartbeats 4000000
namespace K2
open PySem PySem.Spec PyProof.Rows L2 RV
def hdFn1 : List He.FnD := [⟨("is_whole", none), "is_whole", "is_whole", defArgs sWhole, defBody sWhole, defScope sWhole⟩, ⟨("is_below", none), "is_below", "is_below", defArgs sMark, defBody sMark, defScope sMark⟩, ⟨("are_marks", none), "are_marks", "are_marks", defArgs sMarks, defBody sMarks, defScope sMarks⟩, ⟨("are_mirrors", none), "are_mirrors", "are_mirrors", defArgs sMirrors, defBody sMirrors, defScope sMirrors⟩, ⟨("are_steps", none), "are_steps", "are_steps", defArgs sSteps, defBody sSteps, defScope sSteps⟩, ⟨("is_step", none), "is_step", "is_step", defArgs sStep, defBody sStep, defScope sStep⟩, ⟨("is_rising", none), "is_rising", "is_rising", defArgs sRising, defBody sRising, defScope sRising⟩, ⟨("marks_behind", none), "marks_behind", "marks_behind", defArgs sBehind, defBody sBehind, defScope sBehind⟩, ⟨("_law_pail", none), "_law_pail", "_law_pail", defArgs sPail, defBody sPail, defScope sPail⟩, ⟨("_law_draw", none), "_law_draw", "_law_draw", defArgs sDraw, defBody sDraw, defScope sDraw⟩, ⟨("_law_of", none), "_law_of", "_law_of", defArgs sOf, defBody sOf, defScope sOf⟩, ⟨("_law_mirrors", none), "_law_mirrors", "_law_mirrors", defArgs sDMirrors, defBody sDMirrors, defScope sDMirrors⟩, ⟨("_law_steps", none), "_law_steps", "_law_steps", defArgs sDSteps, defBody sDSteps, defScope sDSteps⟩, ⟨("_law_is_mark", none), "_law_is_mark", "_law_is_mark", defArgs sLIsMark, defBody sLIsMark, defScope sLIsMark⟩, ⟨("_law_mirrors_right", none), "_law_mirrors_right", "_law_mirrors_right", defArgs sMirR, defBody sMirR, defScope sMirR⟩, ⟨("_law_steps_right", none), "_law_steps_right", "_law_steps_right", defArgs sStpR, defBody sStpR, defScope sStpR⟩, ⟨("_law_due", none), "_law_due", "_law_due", defArgs sDue, defBody sDue, defScope sDue⟩, ⟨("_law_found", none), "_law_found", "_law_found", defArgs sFound, defBody sFound, defScope sFound⟩, ⟨("_law_odd", none), "_law_odd", "_law_odd", defArgs sOdd, defBody sOdd, defScope sOdd⟩, ⟨("_law_bent", none), "_law_bent", "_law_bent", defArgs sBent, defBody sBent, defScope sBent⟩, ⟨("law", none), "law", "law", defArgs sLaw, defBody sLaw, defScope sLaw⟩, ⟨("Rule", some "__init__"), "__init__", "Rule.__init__", defArgs sInit, defBody sInit, defScope sInit⟩]
def hdFn : List He.FnD := hdFn1
def hdFa1 : List He.Fa := [.glo "is_whole", .keep "is_whole", .glo "is_below", .keep "is_below", .glo "are_marks", .keep "are_marks", .glo "are_mirrors", .keep "are_mirrors", .glo "are_steps", .keep "are_steps", .glo "is_step", .keep "is_step", .glo "is_rising", .keep "is_rising", .glo "marks_behind", .keep "marks_behind", .glo "_law_pail", .keep "_law_pail", .glo "_law_draw", .keep "_law_draw", .glo "_law_of", .keep "_law_of", .glo "_law_mirrors", .keep "_law_mirrors", .glo "_law_steps", .keep "_law_steps", .glo "_law_is_mark", .keep "_law_is_mark", .glo "_law_mirrors_right", .keep "_law_mirrors_right"]
def hdFa2 : List He.Fa := [.glo "_law_steps_right", .keep "_law_steps_right", .glo "_law_due", .keep "_law_due", .glo "_law_found", .keep "_law_found", .glo "_law_odd", .keep "_law_odd", .glo "_law_bent", .keep "_law_bent", .glo "law", .keep "law", .meth "Rule" "__init__"]
def hdFa : List He.Fa := hdFa1 ++ (hdFa2)
def hdEx1 : List (PySem.W.Frag → Bool) := [fun K => decide (PySem.W.plainGet K (He.ga K "Rule") Str.empty = true), fun K => decide (PySem.W.hasDictIn K (He.ga K "Rule") = true), fun K => decide (PySem.W.plainOver K (He.ga K "Rule") = true), fun K => decide (PySem.W.findIn K (.ref (He.ga K "Rule")) "__setattr__" = some (some (.builtin "object.__setattr__"))), fun K => decide (PySem.W.makesIn K (He.ga K "Rule") = true), fun K => decide (PySem.W.keepIn K (.ref (He.ga K "Rule")) = true), fun K => decide (PySem.W.findIn K (.ref (He.ga K "Rule")) "mirrors" = some none), fun K => decide (PySem.W.findIn K (.ref (He.ga K "Rule")) "steps" = some none), fun K => decide (PySem.W.findIn K (.ref (He.ga K "Rule")) "followers" = some none), fun K => decide (PySem.W.findIn K (.ref (He.ga K "Rule")) "__class__" = some (some (.builtin "object.__class__"))), fun K => decide (PySem.W.specialIn K (.builtin "object.__class__") "__get__" = some (some (.builtin "getset_descriptor.__get__"))), fun K => decide (PySem.W.takesIn K (.builtin "object.__class__") = some true), fun K => decide (PySem.W.mroIn K (He.ga K "Rule") (.type "object") = some true), RV.intX "MOST_MARKS" (8), fun K => decide (PySem.W.ks_superIn K (He.ga K "NoRule") (He.ga K "NoRule") "__init__" = some (some (.builtin "ValueError.__init__"))), fun K => decide (PySem.W.subIn K (.ref (He.ga K "NoRule")) (.type "ValueError") = some true), fun K => decide (PySem.W.mroIn K (He.ga K "NoRule") (.ref (He.ga K "NoRule")) = some true), fun K => decide (PySem.W.nsIn K cStatics "thirdparty.any" = some none), fun K => decide (PySem.W.subIn K (.ref (He.ga K "NoRule")) (.type "BaseException") = some true), fun K => decide (PySem.W.findIn K (.ref (He.ga K "NoRule")) "__setattr__" = some (some (.builtin "object.__setattr__"))), fun K => decide (PySem.W.typeIn K (.ref (He.ga K "NoRule")) = some (.type "type")), fun K => decide (PySem.W.keepIn K (.ref (He.ga K "NoRule")) = true), fun K => decide (PySem.W.findIn K (.ref (He.ga K "NoRule")) "field" = some none), fun K => decide (PySem.W.exmOne K (.ref (He.ga K "NoRule")) (.ref (He.ga K "NoRule")) = some true), fun K => decide (PySem.W.kitOne K (.ref (He.ga K "NoRule")) (.ref (He.ga K "RingError")) = some true), fun K => decide (PySem.W.kitOne K (.ref (He.ga K "NoRule")) (.type "ValueError") = some true), fun K => decide (PySem.W.nsIn K mainGlobals "super" = some none), fun K => decide (PySem.W.nsIn K mainGlobals "ValueError" = some none), fun K => decide (PySem.W.nsIn K mainGlobals "len" = some none), fun K => decide (PySem.W.nsIn K mainGlobals "isinstance" = some none)]
def hdEx2 : List (PySem.W.Frag → Bool) := [fun K => decide (PySem.W.nsIn K mainGlobals "int" = some none), fun K => decide (PySem.W.nsIn K mainGlobals "bool" = some none), fun K => decide (PySem.W.nsIn K mainGlobals "tuple" = some none), fun K => decide (PySem.W.nsIn K mainGlobals "all" = some none), fun K => decide (PySem.W.nsIn K mainGlobals "enumerate" = some none), fun K => decide (PySem.W.nsIn K mainGlobals "zip" = some none), fun K => decide (PySem.W.nsIn K mainGlobals "range" = some none), fun K => decide (PySem.W.nsIn K mainGlobals "list" = some none), fun K => decide (PySem.W.nsIn K mainGlobals "set" = some none), fun K => decide (PySem.W.nsIn K mainGlobals "sorted" = some none), fun K => decide (PySem.W.nsIn K mainGlobals "abs" = some none), fun K => decide (PySem.W.nsIn K mainGlobals "max" = some none), fun K => decide (PySem.W.nsIn K mainGlobals "min" = some none), fun K => decide (PySem.W.nsIn K mainGlobals "repr" = some none), fun K => decide (PySem.W.nsIn K mainGlobals "dict" = some none), fun K => decide (PySem.W.nsIn K mainGlobals "str" = some none), fun K => decide (PySem.W.nsIn K mainGlobals "Rule" = some (some (.ref (He.ga K "Rule")))), fun K => decide (PySem.W.nsIn K mainGlobals "NoRule" = some (some (.ref (He.ga K "NoRule")))), fun K => decide (PySem.W.nsIn K mainGlobals "RingError" = some (some (.ref (He.ga K "RingError")))), RV.supB "/claim/cut.py" "NoRule.__init__" "NoRule", fun K => RV.oexB (He.ga K "NoRule") K, fun K => (K.lookup sysModules).isSome, fun K => xfB K (He.ga K "NoRule")]
def hdEx : List (PySem.W.Frag → Bool) := hdEx1 ++ (hdEx2)
def hdSn1 : List He.FnD := [⟨("NoRule", some "__init__"), "__init__", "NoRule.__init__", defArgs sNRInit, defBody sNRInit, defScope sNRInit⟩]
def hdSn : List He.FnD := hdSn1
def hdLoose1 : List Str := ["_wall", "RingError", "ValueError", "NoRule", "is_whole", "is_below", "are_marks", "MOST_MARKS", "Rule", "are_mirrors", "are_steps", "is_step", "is_rising", "marks_behind", "_law_pail", "_law_draw", "_law_of", "_law_mirrors", "_law_steps", "_law_is_mark", "_law_mirrors_right", "_law_steps_right", "_law_due", "_law_found", "_law_odd", "_law_bent"]
def hdLoose : List Str := hdLoose1
abbrev hdR : PySem.W.OpenRow := PySem.W.OpenLaw.row PySem.Challenge.rw_ringvouch_k02_rules_refused
abbrev hdV : Program := PySem.W.view hdR.prog [29]
abbrev hdK : PySem.W.Hook := RV.hookS hdFa hdFn hdEx hdSn
def hdOb (s : PySem.W.SharedT) : RV.AlS := RV.obsSG hdFa hdFn hdEx hdSn (HandSHeadRun.getT s)
theorem hdOb_eq (s : PySem.W.SharedT) : hdOb s = hdK.obs s.abs := RV.obsSG_eq (HandSHeadRun.getT_eq s)
set_option maxHeartbeats 0 in
theorem hdRun (w : World) : HandSHeadRun.RunEq hdR hdV hdK hdOb 20000 hdLoose w := by
  intro os
  kernel_rfl
end K2
section
open PySem PySem.W PySem.Calls PyProof.Rows
set_option maxRecDepth 100000 in
set_option maxHeartbeats 0 in
theorem K2.hdHolds (hc : PySem.W.WalkO K2.hdV K2.hdLoose (XL K2.hdV []) K2.hdK.says K2.hdR.toRowW (HandSHeadRun.topDef K2.hdR.prog 29) [] fun f vs => PySem.call f vs) : PySem.Challenge.rw_ringvouch_k02_rules_refused.Holds := by
  w_on; o_law
  refine HandSHeadRun.head_any (r := K2.hdR) (q := K2.hdV) (H := K2.hdK) (ob := K2.hdOb) (M := 20000) (loose := K2.hdLoose) (d := HandSHeadRun.topDef K2.hdR.prog 29) (kwd := []) K2.hdOb_eq
    (by kernel_rfl) (fun s => by kernel_rfl) K2.hdRun (by kernel_rfl) (by kernel_rfl) (by kernel_rfl) (by rfl) (by first | assumption | decide +kernel) (by decide +kernel) ⟨rfl, rfl, rfl, rfl, rfl, by decide +kernel⟩ ?hw hc
  case hw => w_witness2
theorem K2.hdName : (HandSHeadRun.topDef K2.hdR.prog 29).name = ("law" : PySem.Str) := by kernel_rfl
end
set_option maxHeartbeats 4000000
/-! min of tuples of ints: of two, of a list of them -/
namespace RV
open PySem PySem.Spec PyProof.Rows L2
theorem lex_irr (xs : List Int) : HT.lexLt xs xs = false := by
  cases e : HT.lexLt xs xs with
  | false => rfl
  | true => have := NtL.lex_asym _ _ e; rw [e] at this; cases this
/-- the place of the first least -/
theorem best_least (l : Nat → List Int) : ∀ n : Nat, argBest (fun i j => HT.lexLt (l i) (l j)) n ≤ n ∧ ∀ j, j ≤ n → HT.lexLt (l j) (l (argBest (fun i j => HT.lexLt (l i) (l j)) n)) = false
  | 0 => ⟨Nat.le_refl _, fun j hj => by
    have : j = 0 := by omega
    subst this
    exact lex_irr _⟩
  | n + 1 => by
    obtain ⟨h1, h2⟩ := best_least l n
    have e0 : argBest (fun i j => HT.lexLt (l i) (l j)) (n + 1) = if HT.lexLt (l (n + 1)) (l (argBest (fun i j => HT.lexLt (l i) (l j)) n)) then n + 1 else argBest (fun i j => HT.lexLt (l i) (l j)) n := rfl
    rw [e0]
    generalize argBest (fun i j => HT.lexLt (l i) (l j)) n = b at h1 h2
    cases e : HT.lexLt (l (n + 1)) (l b) with
    | true =>
      rw [if_pos rfl]
      refine ⟨Nat.le_refl _, fun j hj => ?_⟩
      rcases Nat.lt_or_ge j (n + 1) with z | z
      · exact NtL.lex_tr _ _ _ (NtL.lex_asym _ _ e) (h2 j (by omega))
      · have : j = n + 1 := by omega
        subst this; exact lex_irr _
    | false =>
      rw [if_neg (by decide)]
      refine ⟨by omega, fun j hj => ?_⟩
      rcases Nat.lt_or_ge j (n + 1) with z | z
      · exact h2 j (by omega)
      · have : j = n + 1 := by omega
        subst this; exact e
section
variable {prog : Program} {w : World} {A : Around} {E : Value → Shared → Prop} {s : Shared}
/-- v is a tuple of the ints ns in h -/
def TupIn (h : Heap) (v : Value) (ns : List Int) : Prop := ∃ (a : Addr) (items : Array Value), v = .ref a ∧ IsTup h a items ∧ IntsAre items.toList ns
theorem TupIn.keep {h h' : Heap} {v : Value} {ns : List Int} (t : TupIn h v ns) (k : ∀ b o, h.get? b = some o → h'.get? b = some o) : TupIn h' v ns := by
  obtain ⟨a, items, e, ⟨o, h1, h2, h3⟩, hi⟩ := t
  exact ⟨a, items, e, ⟨o, k _ _ h1, h2, h3⟩, hi⟩
theorem cmp_tups {vs : Array Value} {l : Nat → List Int} (hu : A.units < cLine) (ht : ∀ i v, vs[i]? = some v → TupIn s.heap v (l i)) :
    CmpIn prog w A .Lt s.heap (fun i v => vs[i]? = some v) (fun i j => HT.lexLt (l i) (l j)) := fun i j vi vj s' Q E hk hi hj hq => by
  obtain ⟨a, it1, rfl, t1, i1⟩ := (ht i vi hi).keep hk
  obtain ⟨b, it2, rfl, t2, i2⟩ := (ht j vj hj).keep hk
  exact HT.lt_tupInts t1 t2 i1 i2 hu hq
/-- min(l) of a list of tuples of ints -/
theorem min_tups {a : Addr} {vs : Array Value} {l : Nat → List Int} {Q : Value → Shared → Prop} (hh : A.handled = none) (hl : s.heap.IsList a vs) (h0 : 0 < vs.size) (hu : A.units + 1 < cLine) (ht : ∀ i v, vs[i]? = some v → TupIn s.heap v (l i))
    (h : ∀ (i : Nat) v h' tk, vs[i]? = some v → (∀ j, j < vs.size → HT.lexLt (l j) (l i) = false) → (∀ b o, s.heap.get? b = some o → h'.get? b = some o) → Q v { s with heap := h', toks := tk }) :
    wpAny (model prog w) A (call (.builtin "min") [.ref a]) Q E s := by
  refine call_min_walkH (PySem.W.iter_listW (A := A.in1) hh hl fun s₂ e W st hfp hw hk => ?_)
  refine ⟨_, _, _, _, _, _, _, s.heap, _, rfl, W, st, hfp, h0, hw, hk, cmp_tups (A := A.in1) (show A.units + 1 < cLine from hu) ht, fun v s' hP m => ?_⟩
  obtain ⟨h', tk, rfl, hk'⟩ := PySem.W.moved_old e rfl m
  obtain ⟨b1, b2⟩ := best_least l (vs.size - 1)
  exact h _ v h' tk hP (fun j hj => b2 j (by omega)) hk'
/-- min(v, u) of two tuples of ints -/
theorem min_two_tups {v u : Value} {ns ms : List Int} {Q : Value → Shared → Prop} (hh : A.handled = none) (hu : A.units + 1 < cLine) (hv : TupIn s.heap v ns) (hw : TupIn s.heap u ms)
    (h : ∀ h' tk, (∀ b o, s.heap.get? b = some o → h'.get? b = some o) → Q (if HT.lexLt ms ns = true then u else v) { s with heap := h', toks := tk }) :
    wpAny (model prog w) A (call (.builtin "min") [v, u]) Q E s := by
  have hname : (toString "min" ++ toString ".loop" : String) = "min.loop" := by decide
  refine call_function_tree F.kind_min F.plain_min F.entry_min (F.args_min2 _ _) ?_
  show wpAny _ A.in1 (Builtin.Builtins.bindParams "min" ["key", "default"] 0 ⟨[], []⟩ >>= _) _ _ s
  refine wpAny_bind (wpAny_of_eq (show Builtin.Builtins.bindParams "min" ["key", "default"] 0 ⟨[], []⟩ = pure [none, none] from rfl) ?_)
  show wpAny _ A.in1 (newTuple [v, u] >>= _) _ _ s
  refine wpAny_bind (wpAny_newObj_type ?_)
  have hT : (s.heap.push { cls := .type "tuple", data := .seq #[v, u] }).IsTuple s.heap.objs.size #[v, u] := ⟨_, Heap.get?_push_size _ rfl, rfl, 0, rfl⟩
  have k0 : ∀ b o, s.heap.get? b = some o → (s.heap.push { cls := .type "tuple", data := .seq #[v, u] }).get? b = some o := fun b o e => Heap.get?_push_of_some _ e
  have ht : ∀ i x, (#[v, u] : Array Value)[i]? = some x → TupIn (s.heap.push { cls := .type "tuple", data := .seq #[v, u] }) x ((fun i : Nat => if i = 0 then ns else ms) i) := fun i x hx => by
    match i, hx with
    | 0, hx => cases hx; exact hv.keep k0
    | 1, hx => cases hx; exact hw.keep k0
    | i + 2, hx => simp at hx
  refine wpAny_bind (PySem.W.iter_tupleW (s := { s with heap := s.heap.push { cls := .type "tuple", data := .seq #[v, u] } }) (A := A.in1) hh hT fun s₂ e W st hfp hw' hk => ?_)
  refine wpAny_bind (wpAny_newObj_type ?_)
  have hSf : s₂.heap.objs.size ∉ [(s.heap.push { cls := .type "tuple", data := .seq #[v, u] }).objs.size, s.heap.objs.size] := fun hm => Nat.lt_irrefl _ (hfp _ hm)
  rw [hname]
  refine wpAny_pure ⟨plainId_quiet F.plain_min_loop _, codeAny_min_loop_firstH W _ hw' _ (cmp_tups (s := { s with heap := s.heap.push { cls := .type "tuple", data := .seq #[v, u] } }) (A := A.in1) (show A.units + 1 < cLine from hu) ht) s₂.heap.objs.size hSf (fresh_in hk) _ (by show 0 < 2; decide) (fun b o e => Heap.get?_push_of_some _ (hk b o e)) (W.frame 0 s₂ _ s₂.toks st (Nat.le_refl _) fun b _ o e => Heap.get?_push_of_some _ e) (Heap.get?_push_size _ rfl) fun x s' hP hm => ?_⟩
  have m := Moved.drop_new (tk := s₂.toks) hm (Nat.le_refl _)
  obtain ⟨h', tk, rfl, hk'⟩ := PySem.W.moved_old e rfl m
  have z := h h' tk fun b o eb => hk' b o (k0 b o eb)
  have ex : x = if HT.lexLt ms ns = true then u else v := by
    have hP1 : (#[v, u] : Array Value)[argBest (fun i j => HT.lexLt ((fun i : Nat => if i = 0 then ns else ms) i) ((fun i : Nat => if i = 0 then ns else ms) j)) 1]? = some x := hP
    cases el : HT.lexLt ms ns with
    | true =>
      have e1 : argBest (fun i j => HT.lexLt ((fun i : Nat => if i = 0 then ns else ms) i) ((fun i : Nat => if i = 0 then ns else ms) j)) 1 = 1 := by simp [argBest, el]
      rw [e1] at hP1
      rw [if_pos rfl]; cases hP1; rfl
    | false =>
      have e1 : argBest (fun i j => HT.lexLt ((fun i : Nat => if i = 0 then ns else ms) i) ((fun i : Nat => if i = 0 then ns else ms) j)) 1 = 0 := by simp [argBest, el]
      rw [e1] at hP1
      rw [if_neg (by decide)]; cases hP1; rfl
  rw [ex]; exact z
end
section
variable {X : Cx}
theorem tupIn_of {pins : List (Addr × Obj)} {s : Shared} {σ : L2.St} {H : Hp} (I : Inv X pins σ H s) {a : Addr} {ns : List Int} (h : SqT X.K H a (ns.map V.int)) : TupIn s.heap (.ref a) ns := by
  obtain ⟨its, r1, p1, _⟩ := I.tuple h
  exact ⟨a, _, rfl, p1, intsAre_of r1⟩
/-- min(t, u) of two tuples of ints -/
def rMin2T (K : PySem.W.Frag) : List V → Hp → VK → Prop := fun vs H Q => ∃ (a b : Addr) (ns ms : List Int), vs = [.ref a, .ref b] ∧ SqT K H a (ns.map V.int) ∧ SqT K H b (ms.map V.int) ∧ Q (.ref (if HT.lexLt ms ns = true then b else a)) H
theorem cr_min2T (hc : X.calm = true) (hu : X.A.units + 1 < cLine) : CallR X (.builtin "min") (rMin2T X.K) := by
  intro pins s σ H vs us Q I r h
  obtain ⟨a, b, ns, ms, rfl, ha, hb, q⟩ := h
  obtain ⟨u, w', rfl, e1, e2⟩ := vals2 r
  cases e1
  cases e2
  refine min_two_tups (I.ok.hd hc) hu (tupIn_of I ha) (tupIn_of I hb) fun h' tk k => ⟨_, H, I.kept k, ?_, q⟩
  cases HT.lexLt ms ns <;> rfl
/-! sorted of two tuples of ints of one length -/
theorem code_lex {B : Int} : ∀ {xs ys : List Int}, xs.length = ys.length → TS.Bd B xs → TS.Bd B ys → HT.lexLt xs ys = decide (TS.code B xs < TS.code B ys)
  | [], [], _, _, _ => by
    show false = decide (TS.code B [] < TS.code B [])
    rw [decide_eq_false (Int.lt_irrefl _)]
  | x :: xs, y :: ys, hl, h1, h2 => by
    have hl' : xs.length = ys.length := by simpa using hl
    have t1 : TS.Bd B xs := fun m hm => h1 m (List.mem_cons_of_mem _ hm)
    have t2 : TS.Bd B ys := fun m hm => h2 m (List.mem_cons_of_mem _ hm)
    rw [HT.lexLt_cons]
    by_cases e : x = y
    · rw [if_pos e, code_lex hl' t1 t2, e]
      refine decide_eq_decide.mpr ?_
      show TS.code B xs < TS.code B ys ↔ y * B ^ xs.length + TS.code B xs < y * B ^ ys.length + TS.code B ys
      rw [hl']
      omega
    · rw [if_neg e]
      refine decide_eq_decide.mpr ⟨fun z => TS.code_lt hl' t1 t2 z, fun z => ?_⟩
      rcases Int.lt_trichotomy x y with c | c | c
      · exact c
      · exact absurd c e
      · have := TS.code_lt hl'.symm t2 t1 c
        omega
theorem lex_tot : ∀ {xs ys : List Int}, HT.lexLt xs ys = false → HT.lexLt ys xs = false → xs = ys
  | [], [], _, _ => rfl
  | [], y :: ys, h, _ => by cases h
  | x :: xs, [], _, h => by cases h
  | x :: xs, y :: ys, h1, h2 => by
    rw [HT.lexLt_cons] at h1 h2
    by_cases e : x = y
    · rw [if_pos e] at h1
      rw [if_pos e.symm] at h2
      rw [e, lex_tot h1 h2]
    · rw [if_neg e] at h1
      rw [if_neg (fun z => e z.symm)] at h2
      have a1 := of_decide_eq_false h1
      have a2 := of_decide_eq_false h2
      omega
def rSort2T (K : PySem.W.Frag) : List V → Hp → VK → Prop := fun vs H Q => ∃ (l a b : Addr) (ns ms : List Int) (B : Int), vs = [.ref l] ∧ SqL K H l [.ref a, .ref b] ∧ SqT K H a (ns.map V.int) ∧ SqT K H b (ms.map V.int) ∧ ns.length = ms.length ∧ 1 ≤ ns.length ∧ TS.Bd B ns ∧ TS.Bd B ms ∧
  ∀ (c d p : Addr), SqT K H c ((if HT.lexLt ms ns = true then ms else ns).map V.int) → H p = none → Q (.ref p) (upd H p (.lst [.ref c, .ref d]))
theorem cr_sort2T : CallR X (.builtin "sorted") (rSort2T X.K) := by
  intro pins s σ H vs us Q I r h
  obtain ⟨l, a, b, ns, ms, B, rfl, hL, ha, hb, hlen, h1, B1, B2, q⟩ := h
  refine cr_sortT (d := ns.length) (B := B) h1 pins s σ H _ us Q I r ⟨l, _, rfl, hL, by show 2 < 64; decide, fun x hx => ?_, fun ys p pm pw np => ?_⟩
  · simp only [List.mem_cons, List.not_mem_nil, or_false] at hx
    rcases hx with rfl | rfl
    · exact ⟨ns, ⟨a, rfl, ha⟩, rfl, B1⟩
    · exact ⟨ms, ⟨b, rfl, hb⟩, hlen.symm, B2⟩
  · have hl2 : ys.length = 2 := pm.length_eq
    match ys, hl2, pm, pw with
    | [x, y], _, pm, pw =>
      have rel : ∀ n m, TupI X.K H x n → TupI X.K H y m → TS.code B n ≤ TS.code B m := by
        have z := pw
        rw [List.pairwise_cons] at z
        exact z.1 y (List.mem_singleton.mpr rfl)
      have ma : V.ref a = x ∨ V.ref a = y := by
        have z := pm.mem_iff.mpr (show V.ref a ∈ [V.ref a, V.ref b] by simp)
        simpa using z
      have mb : V.ref b = x ∨ V.ref b = y := by
        have z := pm.mem_iff.mpr (show V.ref b ∈ [V.ref a, V.ref b] by simp)
        simpa using z
      have my : y = V.ref a ∨ y = V.ref b := by
        have z := pm.mem_iff.mp (show y ∈ [x, y] by simp)
        simpa using z
      obtain ⟨d, ed⟩ : ∃ d, y = V.ref d := my.elim (fun e => ⟨_, e⟩) fun e => ⟨_, e⟩
      have fst : ∀ ty : TupI X.K H y ms, x = V.ref a → Q (.ref p) (upd H p (.lst [x, y])) := fun ty ex => by
        have le := rel ns ms ⟨a, ex, ha⟩ ty
        have z := code_lex hlen.symm B2 B1
        rw [decide_eq_false (by omega)] at z
        rw [ex, ed]
        refine q a d p ?_ np
        rw [z, if_neg (by decide)]; exact ha
      rcases ma with ea | ea
      · rcases mb with eb | eb
        · have eab : a = b := V.ref.inj (ea.trans eb.symm)
          refine fst ?_ ea.symm
          rcases my with e | e
          · exact ⟨a, e, by rw [eab]; exact hb⟩
          · exact ⟨b, e, hb⟩
        · exact fst ⟨b, eb.symm, hb⟩ ea.symm
      · rcases mb with eb | eb
        · have le := rel ms ns ⟨b, eb.symm, hb⟩ ⟨a, ea.symm, ha⟩
          rw [← eb, ed]
          refine q b d p ?_ np
          have z := code_lex hlen.symm B2 B1
          cases el : HT.lexLt ms ns with
          | true => rw [if_pos rfl]; exact hb
          | false =>
            rw [if_neg (by decide)]
            have z2 := code_lex hlen B1 B2
            rw [decide_eq_false (by omega)] at z2
            rw [lex_tot z2 el]; exact hb
        · have eab : a = b := V.ref.inj (ea.trans eb.symm)
          have mx : x = V.ref a ∨ x = V.ref b := by
            have z := pm.mem_iff.mp (show x ∈ [x, y] by simp)
            simpa using z
          refine fst ⟨b, eb.symm, hb⟩ ?_
          rcases mx with e | e
          · exact e
          · rw [e, eab]
end
end RV
set_option maxHeartbeats 4000000
/-! which data are mirrors, which are steps -/
namespace K2
open PySem PySem.Spec PyProof.Rows L2 RV
/-- each mark is the mirror of its mirror -/
def invB (ns : List Int) : Bool := (List.range ns.length).all fun i => decide (ns.getD (ns.getD i 0).toNat 0 = (i : Int))
def mirD : PyData → Bool
  | .tuple ds => decide (ds.length ≤ 8) && (marksD (ds.length : Int) (.tuple ds) && invB (ds.map RV.intD))
  | _ => false
theorem mir_of {ds : List PyData} (h : mirD (.tuple ds) = true) : PyData.tuple ds = dI (ds.map RV.intD) ∧ Mir (ds.map RV.intD) := by
  have h : (decide (ds.length ≤ 8) && (marksD (ds.length : Int) (.tuple ds) && invB (ds.map RV.intD))) = true := h
  rw [Bool.and_eq_true, Bool.and_eq_true, decide_eq_true_iff] at h
  obtain ⟨h8, hm, hi⟩ := h
  obtain ⟨e, ne, bd⟩ := marks_ints hm
  have bd : ∀ x ∈ ds.map RV.intD, 0 ≤ x ∧ x < (ds.length : Int) := bd
  refine ⟨e, ?_, by rw [List.length_map]; exact h8, fun i hi => by rw [List.length_map]; exact bd i hi, fun k m gm => ?_⟩
  · have ne : ds.map RV.intD ≠ [] := ne
    exact List.length_pos_iff.mpr ne
  · unfold invB at hi
    have kl := (List.getElem?_eq_some_iff.mp gm).1
    have z := of_decide_eq_true (List.all_eq_true.mp hi k (List.mem_range.mpr kl))
    have em : (ds.map RV.intD).getD k 0 = m := by rw [List.getD_eq_getElem?_getD, gm]; rfl
    rw [em] at z
    have b := bd m (List.mem_of_getElem? gm)
    have ml : m.toNat < (ds.map RV.intD).length := by rw [List.length_map]; omega
    rw [List.getD_eq_getElem?_getD, List.getElem?_eq_getElem ml] at z
    rw [List.getElem?_eq_getElem ml, ← z]; rfl
theorem mir_tup {d : PyData} (h : mirD d = true) : ∃ ds, d = .tuple ds ∧ ds.length ≤ 8 := by
  cases d with
  | tuple ds =>
    have h : (decide (ds.length ≤ 8) && (marksD (ds.length : Int) (.tuple ds) && invB (ds.map RV.intD))) = true := h
    rw [Bool.and_eq_true, decide_eq_true_iff] at h
    exact ⟨ds, rfl, h.1⟩
  | _ => cases h
/-- a pair of marks -/
def stepD (n : Int) (d : PyData) : Bool := marksD n d && (match d with
  | .tuple ds => decide (ds.length = 2)
  | _ => false)
def psD (ds : List PyData) : List (List Int) := ds.map intsD
def riseB (ps : List (List Int)) : Bool := (List.range (ps.length - 1)).all fun i => HT.lexLt (ps.getD i []) (ps.getD (i + 1) [])
def inB (ns : List Int) (ps : List (List Int)) (p : List Int) : Bool := decide ([ns.getD (p.getD 1 0).toNat 0, ns.getD (p.getD 0 0).toNat 0] ∈ ps)
def closB (ns : List Int) (ps : List (List Int)) : Bool := ps.all (inB ns ps)
def stpD (ns : List Int) : PyData → Bool
  | .tuple ds => ds.all (stepD (ns.length : Int)) && (riseB (psD ds) && closB ns (psD ds))
  | _ => false
theorem step_of {n : Int} {d : PyData} (h : stepD n d = true) : ∃ x y : Int, d = dI [x, y] ∧ intsD d = [x, y] ∧ (0 ≤ x ∧ x < n) ∧ (0 ≤ y ∧ y < n) := by
  unfold stepD at h
  rw [Bool.and_eq_true] at h
  obtain ⟨hm, h2⟩ := h
  obtain ⟨e, _, bd⟩ := marks_ints hm
  cases d with
  | tuple ds =>
    have h2 : ds.length = 2 := of_decide_eq_true h2
    match ds, h2 with
    | [a, b], _ =>
      refine ⟨RV.intD a, RV.intD b, e, rfl, bd _ ?_, bd _ ?_⟩
      · show RV.intD a ∈ [RV.intD a, RV.intD b]
        exact List.mem_cons_self ..
      · show RV.intD b ∈ [RV.intD a, RV.intD b]
        exact List.mem_cons_of_mem _ (List.mem_cons_self ..)
  | _ => cases h2
theorem steps_all {n : Int} : ∀ {ds : List PyData}, (∀ d ∈ ds, stepD n d = true) → ds = (psD ds).map dI ∧ ∀ p ∈ psD ds, Pr n p
  | [], _ => ⟨rfl, fun _ h => nomatch h⟩
  | d :: ds, h => by
    obtain ⟨x, y, e1, e2, bx, b_y⟩ := step_of (h d (List.mem_cons_self ..))
    obtain ⟨e3, pr⟩ := steps_all fun e he => h e (List.mem_cons_of_mem _ he)
    have ep : psD (d :: ds) = [x, y] :: psD ds := by show intsD d :: psD ds = _; rw [e2]
    rw [ep]
    refine ⟨by rw [List.map_cons, ← e1, ← e3], fun p hp => ?_⟩
    rcases List.mem_cons.mp hp with z | z
    · exact ⟨x, y, z, bx, b_y⟩
    · exact pr p z
theorem rise_at {ps : List (List Int)} (h : riseB ps = true) (i : Nat) (p q : List Int) (h1 : ps[i]? = some p) (h2 : ps[i + 1]? = some q) : HT.lexLt p q = true := by
  have l2 := (List.getElem?_eq_some_iff.mp h2).1
  have z := List.all_eq_true.mp h i (List.mem_range.mpr (by omega))
  rw [List.getD_eq_getElem?_getD, List.getD_eq_getElem?_getD, h1, h2] at z
  exact z
/-- the one pair ahead of the other -/
def pLt (p q : List Int) : Prop := p.getD 0 0 < q.getD 0 0 ∨ (p.getD 0 0 = q.getD 0 0 ∧ p.getD 1 0 < q.getD 1 0)
theorem pLt_of {a b c d : Int} (h : HT.lexLt [a, b] [c, d] = true) : pLt [a, b] [c, d] := by
  rw [HT.lexLt_cons] at h
  by_cases e : a = c
  · rw [if_pos e, HT.lexLt_cons] at h
    refine .inr ⟨e, ?_⟩
    by_cases e2 : b = d
    · rw [if_pos e2] at h; cases h
    · rw [if_neg e2] at h; exact of_decide_eq_true h
  · rw [if_neg e] at h; exact .inl (of_decide_eq_true h)
theorem pLt_all : ∀ {ps : List (List Int)}, (∀ p ∈ ps, ∃ x y : Int, p = [x, y]) → (∀ (i : Nat) (p q : List Int), ps[i]? = some p → ps[i + 1]? = some q → HT.lexLt p q = true) → ps.Pairwise pLt
  | [], _, _ => List.Pairwise.nil
  | [p], _, _ => List.pairwise_singleton _ _
  | p :: q :: r, h, hr => by
    have ih := pLt_all (ps := q :: r) (fun x hx => h x (List.mem_cons_of_mem _ hx)) fun i x y h1 h2 => hr (i + 1) x y h1 h2
    obtain ⟨a, b, rfl⟩ := h p List.mem_cons_self
    obtain ⟨c, d, rfl⟩ := h q (List.mem_cons_of_mem _ List.mem_cons_self)
    have h0 := pLt_of (hr 0 _ _ rfl rfl)
    refine List.pairwise_cons.mpr ⟨fun x hx => ?_, ih⟩
    rcases List.mem_cons.mp hx with rfl | hx
    · exact h0
    · have h1 := (List.pairwise_cons.mp ih).1 x hx
      unfold pLt at h0 h1 ⊢
      omega
theorem pLt_ne {p q : List Int} (h : pLt p q) : p ≠ q := fun e => by
  subst e
  unfold pLt at h
  omega
theorem stp_of {ns : List Int} {ds : List PyData} (M : Mir ns) (h : stpD ns (.tuple ds) = true) : PyData.tuple ds = dTT (psD ds) ∧ Stp ns (psD ds) := by
  have h : (ds.all (stepD (ns.length : Int)) && (riseB (psD ds) && closB ns (psD ds))) = true := h
  rw [Bool.and_eq_true, Bool.and_eq_true, List.all_eq_true] at h
  obtain ⟨h1, h2, h3⟩ := h
  obtain ⟨e, pr⟩ := steps_all h1
  have pw := pLt_all (fun p hp => by obtain ⟨x, y, ep, _⟩ := pr p hp; exact ⟨x, y, ep⟩) (rise_at h2)
  have nd : (psD ds).Nodup := pw.imp fun z => pLt_ne z
  have mi : ∀ x y mx my : Int, [x, y] ∈ psD ds → ns[x.toNat]? = some mx → ns[y.toNat]? = some my → [my, mx] ∈ psD ds := fun x y mx my hxy hx hy => by
    have z : [ns.getD y.toNat 0, ns.getD x.toNat 0] ∈ psD ds := of_decide_eq_true (List.all_eq_true.mp h3 _ hxy)
    have e2 : ns.getD y.toNat 0 = my := by rw [List.getD_eq_getElem?_getD, hy]; rfl
    have e3 : ns.getD x.toNat 0 = mx := by rw [List.getD_eq_getElem?_getD, hx]; rfl
    rwa [e2, e3] at z
  refine ⟨?_, ?_, fun p hp => pr p hp, rise_at h2, mi, nd⟩
  · show PyData.tuple ds = .tuple ((psD ds).map dI)
    rw [← e]
  · exact (Part.mk nd pr mi).len M
end K2
set_option maxHeartbeats 4000000
namespace K2
open PySem PySem.Spec PyProof.Rows L2 RV
section
variable {P : Program} {w : World} {K : PySem.W.Frag} {mg : Str → Option Value} {base : Heap}
theorem dq_ints : ∀ {vs : List V} {ns : List Int} {H : Hp}, DqAll K H vs (ns.map PyData.int) → vs = ns.map V.int
  | [], [], _, .nil => rfl
  | v :: vs, n :: ns, _, .cons h1 h2 => by
    cases h1
    rw [dq_ints h2]; rfl
theorem dq_tupI {H : Hp} {a : Addr} {xs : List V} {ds : List PyData} {ns : List Int} (hA : DqAll K H xs ds) (e : PyData.tuple ds = dI ns) : xs = ns.map V.int := by
  have e : ds = ns.map PyData.int := PyData.tuple.inj e
  rw [e] at hA
  exact dq_ints hA
theorem range_next {α : Type} (f : Nat → α) (i : Nat) : (List.range (i + 1)).map f = (List.range i).map f ++ [f i] := by rw [List.range_succ, List.map_append]; rfl
/-! ### are_mirrors of anything -/
def spMirA (K : PySem.W.Frag) : Sp := fun vs H Q _ => ∃ (v : V) (d : PyData), vs = [v] ∧ Dq K H v d ∧ d.bulk ≤ 1000 ∧ ∀ H', Same H H' → Q (.bl (mirD d)) H'
theorem ok_mirA {f fA fM fW : Addr} {fd fdA fdM fdW : FuncData} {t : Tok} (F : Fun K "are_mirrors" "are_mirrors" sMirrors f fd) (DA : DefAt K mg "are_marks" sMarks ["thing", "many"] fA fdA) (DM : DefAt K mg "is_below" sMark ["thing", "many"] fM fdM) (DW : DefAt K mg "is_whole" sWhole ["thing"] fW fdW) (B : Bare mg)
    (mM : mg "MOST_MARKS" = some (.int 8 t)) : FnOk P w K mg base CX0 4 f fd ["thing"] (spMirA K) := by
  have GA : FnOk P w K mg base CX0 3 fA fdA ["thing", "many"] (spMarksD K) := ok_marksD DA.fn DM DW B
  refine F.ok scMirrors (fun vs H Q E h => ?_) (fun cdv A outer s H vs Q E hr h => ?_)
  · obtain ⟨v, d, rfl, _⟩ := h
    rfl
  · obtain ⟨v, d, rfl, hd, hb, q⟩ := h
    refine ⟨_, pss_cons (ps_if (PW.pt (pw_or (pt_not (pt_val (pe_callB call_isi (by rfl) B.isinstance (by decide +kernel) (pa_cons (pv 0) (pa_cons (pe_bltn (v := .ty "tuple") (by rfl) B.tuple (by decide +kernel) rfl) pa_nil)))))
        (pw_or1 (pt_cmpR op_gt (pe_callB call_len_seq (by rfl) B.len PySem.boot_len (pa_cons (pv 0) pa_nil)) (pe_glob (v := .int 8) rfl mM ⟨_, rfl⟩) (nomark _))))) (pss_one (ps_ret pe_bl)) pss_nil)
      (pss_cons (ps_if (pt_not (pt_val (pe_call GA hr (by rfl) DA.mg DA.fn.kp DA.bi .nil pass0 (pa_cons (pv 0) (pa_cons (pe_callB call_len_seq (by rfl) B.len PySem.boot_len (pa_cons (pv 0) pa_nil)) pa_nil))))) (pss_one (ps_ret pe_bl)) pss_nil)
      (pss_one (ps_ret (pe_callB (cr_all rfl) (by rfl) B.all (by decide +kernel) (pa_cons
        (pe_lc (own := [("mark", 1), ("mirror", 2)]) (g := gTup K 2 (gCons (gName 1) (gCons (gName 2) gNil))) (tt := tYes) rfl scMirrors.nd (pi_enT (by rfl) B.enumerate (pa_cons (pv 0) pa_nil)) (blkOk_by (N := ["thing", "mark", "mirror"]) (sc := defScope sMirrors) (by decide +kernel))
          (fun _ _ _ _ _ => pg_tupK rfl rfl (pgs_cons (pg_name (i := 1) scMirrors.nd rfl (Or.inl rfl)) (pgs_cons (pg_name (i := 2) scMirrors.nd rfl (Or.inl rfl)) pgs_nil))) (fun _ _ _ _ _ => pts_nil)
          (fun _ _ _ _ _ => pe_cmpR op_eq (pe_ix (ix_tupK (K := K) rfl) (pv 0) (pv 2) (fun _ _ => rfl)) (pv 1) (nomark _))) pa_nil))))), ?_⟩
    have no : mirD d = false → ∀ H', Same H H' → Q (.bl false) H' := fun e H' s' => by
      have z := q H' s'
      rw [e] at z
      exact z
    refine ⟨v, rfl, v, .ty "tuple", _, _, _, rfl, .ty "tuple", tyQ hd, kit_D (.inr (.inr (.inl rfl))), _, rfl, ?_⟩
    rw [isi_tup]
    cases hd with
    | tup hT hA =>
      rename_i a xs ds
      have hl := DqAll.len hA
      refine iteF ?_
      refine ⟨.ref a, rfl, a, _, rfl, .inr hT, _, _, rfl, rfl, _, rfl, ite2 (fun h8 => ?_) (fun h8 => ?_)⟩
      · have h8 := of_decide_eq_true h8
        exact no (by show (decide (ds.length ≤ 8) && _) = false; rw [decide_eq_false (by omega), Bool.false_and]) H (Same.refl H)
      have h8 : ds.length ≤ 8 := by
        rw [decide_eq_true_iff] at h8; omega
      refine ⟨.ref a, rfl, .ref a, rfl, a, _, rfl, .inr hT, .ref a, .tuple ds, (ds.length : Int), by rw [hl]; rfl, .tup hT hA, hb, fun H1 s1 => ⟨_, rfl, ?_⟩⟩
      cases hm : marksD (ds.length : Int) (.tuple ds) with
      | false =>
        refine iteT ?_
        exact no (by show (_ && (marksD _ _ && _)) = false; rw [hm, Bool.false_and, Bool.and_false]) H1 s1
      | true =>
      refine iteF ?_
      obtain ⟨e, ne, bd⟩ := marks_ints hm
      have ex : xs = (ds.map RV.intD).map V.int := dq_tupI (a := a) hA e
      have bd : ∀ x ∈ ds.map RV.intD, 0 ≤ x ∧ x < (ds.length : Int) := bd
      have em : mirD (.tuple ds) = invB (ds.map RV.intD) := by
        show (decide (ds.length ≤ 8) && (marksD _ _ && _)) = _
        rw [hm, decide_eq_true h8, Bool.true_and, Bool.true_and]
      rw [em] at q
      have ln : (ds.map RV.intD).length = ds.length := List.length_map ..
      rw [ex] at hT
      rw [← ln] at bd
      generalize ds.map RV.intD = ns at hT bd q ln
      refine ⟨.ref a, rfl, a, _, rfl, sqT_same s1 hT, fun D nD => ?_⟩
      refine lc_it (walk_enT (K := K) (a := a) (xs := ns.map V.int)) (fun i H' => Same H1 H' ∧ H' D = some (.lst (((List.range i).map fun i => decide (ns.getD (ns.getD i 0).toNat 0 = (i : Int))).map V.bl))) ⟨same_upd nD, upd_same⟩ (fun i H' _ p => sqT_same p.1 (sqT_same s1 hT)) (fun i x H2 H3 hi p y => ?_) fun H' p => ?_
      · obtain ⟨T, x1, x2, rfl, nT, rfl, e1, e2⟩ := y
        have e1' : x1 = .int (i : Nat) := (Option.some.inj e1).symm
        subst e1'
        obtain ⟨m, hm, rfl⟩ := map_at e2
        have hin := bd m (List.mem_of_getElem? hm)
        have hil : i < ns.length := (List.getElem?_eq_some_iff.mp hm).1
        have hDT : D ≠ T := ne_of_none p.2 nT
        have sT : Same H2 (upd H2 T (.tup [.int (i : Nat), .int m])) := same_upd nT
        have hA : SqT K (upd H2 T (.tup [.int (i : Nat), .int m])) a (ns.map V.int) := sqT_same sT (sqT_same p.1 (sqT_same s1 hT))
        obtain ⟨mm, gmm⟩ : ∃ mm, ns[m.toNat]? = some mm := ⟨_, List.getElem?_eq_getElem (by omega)⟩
        have gm : (ns.map V.int)[m.toNat]? = some (.int mm) := by rw [List.getElem?_map, gmm]; rfl
        have gi : ns.getD (ns.getD i 0).toNat 0 = mm := by
          have z : ns.getD i 0 = m := by rw [List.getD_eq_getElem?_getD, hm]; rfl
          rw [z, List.getD_eq_getElem?_getD, gmm]; rfl
        refine ⟨T, _, rfl, tupNew upd_same, rfl, _, _, rfl, _, _, rfl, rfl, rfl, tt_yes ⟨.ref a, rfl, .int m, rfl, a, _, m, .int mm, rfl, rfl, hA, ?_, .int (i : Nat), rfl, rfl, _, (sT _ _ p.2), ?_, ?_, ?_⟩⟩
        · have e : m = ((m.toNat : Nat) : Int) := by omega
          rw [e]; exact atI_nat gm
        · rw [List.length_map, List.length_map, List.length_range]; exact few1 (by omega)
        · exact fun b o e => by rw [upd_ne (ne_of_none e nD)]; exact sT b o (p.1 b o e)
        · rw [upd_same, range_next, List.map_append, gi, dec_int]
          have z : (mm == (i : Int)) = decide (mm = (i : Int)) := by rw [Bool.eq_iff_iff]; simp
          rw [z]; rfl
      · rw [List.length_map] at p
        refine ⟨D, _, rfl, lstNew p.2, ?_⟩
        have z := q H' (s1.trans p.1)
        unfold invB at z
        rw [List.all_map]
        exact z
    | non => exact iteT (no rfl H (Same.refl H))
    | bl b => exact iteT (no rfl H (Same.refl H))
    | int i => exact iteT (no rfl H (Same.refl H))
    | str x => exact iteT (no rfl H (Same.refl H))
    | lst h1 h2 => exact iteT (no rfl H (Same.refl H))
    | dct h1 h2 => exact iteT (no rfl H (Same.refl H))
end
end K2
set_option maxHeartbeats 4000000
namespace K2
open PySem PySem.Spec PyProof.Rows L2 RV
section
variable {P : Program} {w : World} {K : PySem.W.Frag} {mg : Str → Option Value} {base : Heap}
theorem dq_dI {H : Hp} {v : V} {ns : List Int} (h : Dq K H v (dI ns)) : ∃ a, v = .ref a ∧ SqT K H a (ns.map V.int) := by
  unfold RV.dI at h
  cases h with
  | tup h1 h2 =>
    rw [dq_ints h2] at h1
    exact ⟨_, rfl, h1⟩
theorem dq_tups {H : Hp} : ∀ {vs : List V} {ps : List (List Int)}, DqAll K H vs (ps.map dI) → ∃ ks : List (Addr × List Int), vs = ks.map (fun p => V.ref p.1) ∧ ks.map (·.2) = ps ∧ ∀ q ∈ ks, SqT K H q.1 (q.2.map V.int)
  | [], [], .nil => ⟨[], rfl, rfl, fun _ h => nomatch h⟩
  | v :: vs, p :: ps, .cons h1 h2 => by
    obtain ⟨a, rfl, ha⟩ := dq_dI h1
    obtain ⟨ks, rfl, e1, e2⟩ := dq_tups h2
    refine ⟨(a, p) :: ks, rfl, by rw [List.map_cons, e1], fun q hq => ?_⟩
    rcases List.mem_cons.mp hq with z | z
    · rw [z]; exact ha
    · exact e2 q z
theorem dq_TT {H : Hp} {a : Addr} {xs : List V} {ds : List PyData} {ps : List (List Int)} (hT : SqT K H a xs) (hA : DqAll K H xs ds) (e : ds = ps.map dI) : Tups K H a ps := by
  rw [e] at hA
  obtain ⟨ks, rfl, e1, e2⟩ := dq_tups hA
  exact ⟨ks, e1, hT, e2⟩
/-! ### is_step of anything -/
def spStepA (K : PySem.W.Frag) : Sp := fun vs H Q _ => ∃ (v : V) (d : PyData) (n : Int), vs = [v, .int n] ∧ Dq K H v d ∧ d.bulk ≤ 1000 ∧ ∀ H', Same H H' → Q (.bl (stepD n d)) H'
theorem ok_stepA {f fA fM fW : Addr} {fd fdA fdM fdW : FuncData} (F : Fun K "is_step" "is_step" sStep f fd) (DA : DefAt K mg "are_marks" sMarks ["thing", "many"] fA fdA) (DM : DefAt K mg "is_below" sMark ["thing", "many"] fM fdM) (DW : DefAt K mg "is_whole" sWhole ["thing"] fW fdW) (B : Bare mg) :
    FnOk P w K mg base CX0 4 f fd ["thing", "many"] (spStepA K) := by
  have GA : FnOk P w K mg base CX0 3 fA fdA ["thing", "many"] (spMarksD K) := ok_marksD DA.fn DM DW B
  refine F.ok scStep (fun vs H Q E h => ?_) (fun cdv A outer s H vs Q E hr h => ?_)
  · obtain ⟨v, d, n, rfl, _⟩ := h
    rfl
  · obtain ⟨v, d, n, rfl, hd, hb, q⟩ := h
    refine ⟨_, pss_one (ps_ret (pe_and (pe_call GA hr (by rfl) DA.mg DA.fn.kp DA.bi .nil pass0 (pa_cons (pv 0) (pa_cons (pv 1) pa_nil))) (pe_one (pe_cmpR op_eq (pe_callB call_len_seq (by rfl) B.len PySem.boot_len (pa_cons (pv 0) pa_nil)) pe_int (nomark _))))), ?_⟩
    refine ⟨v, rfl, .int n, rfl, v, d, n, rfl, hd, hb, fun H1 s1 => ⟨_, rfl, ?_⟩⟩
    have z := q H1 s1
    cases hm : marksD n d with
    | false =>
      have e : stepD n d = false := by unfold stepD; rw [hm, Bool.false_and]
      rw [e] at z
      exact iteF z
    | true =>
      cases hd with
      | tup hT hA =>
        rename_i a xs ds
        refine iteT ⟨.ref a, rfl, a, _, rfl, .inr (sqT_same s1 hT), rfl, ?_⟩
        have e : stepD n (.tuple ds) = decide (V.int (xs.length : Int) = V.int 2) := by
          unfold stepD
          rw [hm, Bool.true_and, DqAll.len hA]
          show decide (ds.length = 2) = _
          refine decide_eq_decide.mpr ⟨fun y => by rw [y]; rfl, fun y => ?_⟩
          injection y with y
          omega
        rw [e] at z
        exact z
      | non => cases hm
      | bl b => cases hm
      | int i => cases hm
      | str x => cases hm
      | lst h1 h2 => cases hm
      | dct h1 h2 => cases hm
/-! ### is_rising -/
def spRiseA (K : PySem.W.Frag) : Sp := fun vs H Q _ => ∃ (a : Addr) (ps : List (List Int)), vs = [.ref a] ∧ Tups K H a ps ∧ ps.length ≤ 1000 ∧ ∀ H', Same H H' → Q (.bl (riseB ps)) H'
theorem ok_riseA {f : Addr} {fd : FuncData} (F : Fun K "is_rising" "is_rising" sRising f fd) (B : Bare mg) : FnOk P w K mg base CX0 1 f fd ["pairs"] (spRiseA K) := by
  refine F.ok scRising (fun vs H Q E h => ?_) (fun cdv A outer s H vs Q E hr h => ?_)
  · obtain ⟨a, ps, rfl, _⟩ := h
    rfl
  · obtain ⟨a, ps, rfl, hTT, hl, q⟩ := h
    obtain ⟨ks, rfl, hT, hks⟩ := hTT
    rw [List.length_map] at hl
    refine ⟨_, pss_one (ps_ret (pe_callB (cr_all rfl) (by rfl) B.all (by decide +kernel) (pa_cons
        (pe_lc (own := [("one", 1), ("other", 2)]) (g := gTup K 2 (gCons (gName 1) (gCons (gName 2) gNil))) (tt := tYes) rfl scRising.nd (RZ.pi_zipA (by rfl) B.zip (pa_cons (pv 0) (pa_cons (pe_slice sl_tupA (pv 0) (po_some pe_int) po_none) pa_nil))) (blkOk_by (N := ["pairs", "one", "other"]) (sc := defScope sRising) (by decide +kernel))
          (fun _ _ _ _ _ => pg_tupK rfl rfl (pgs_cons (pg_name (i := 1) scRising.nd rfl (Or.inl rfl)) (pgs_cons (pg_name (i := 2) scRising.nd rfl (Or.inl rfl)) pgs_nil))) (fun _ _ _ _ _ => pts_nil)
          (fun _ _ _ _ _ => pe_cmpR (op_ltTK (K := K) rfl hr.units0) (pv 1) (pv 2) (nomark _))) pa_nil))), ?_⟩
    generalize hr0 : (fun i => HT.lexLt ((ks.map (·.2)).getD i []) ((ks.map (·.2)).getD (i + 1) [])) = rb
    have eR : riseB (ks.map (·.2)) = (List.range (ks.length - 1)).all rb := by
      unfold riseB
      rw [List.length_map, ← hr0]
    have go : ∀ (b : Addr) (H1 : Hp) (Qc : VK), Same H H1 → SqT K H1 b ((ks.map fun p => V.ref p.1).drop 1) → (∀ D H', Same H1 H' → H' D = some (.lst (((List.range (ks.length - 1)).map rb).map V.bl)) → Qc (.ref D) H') →
        tLc (fun _ H2 R => R (RZ.ItzT K a b) H2) (gTup K 2 (gCons (gName 1) (gCons (gName 2) gNil))) tYes (tOp (rLtT K) (tVar 1) (tVar 2)) [1, 2] (L2.start ["pairs", "one", "other"] [.ref a]) H1 Qc := by
      intro b H1 Qc s1 hb fin D nD
      refine lc_it (walk_zipT (K := K) (a := a) (b := b) (xs := ks.map fun p => V.ref p.1) (ys := (ks.map fun p => V.ref p.1).drop 1) (n := ks.length - 1) (by rw [List.length_drop, List.length_map]; omega))
        (fun i H' => Same H1 H' ∧ H' D = some (.lst (((List.range i).map rb).map V.bl))) ⟨same_upd nD, upd_same⟩ (fun i H' _ p => ⟨sqT_same p.1 (sqT_same s1 hT), sqT_same p.1 hb⟩) (fun i x H2 H3 hi p y => ?_) fun H' p => fin D H' p.1 p.2
      obtain ⟨T, x1, x2, rfl, nT, rfl, e1, e2⟩ := y
      have e3 : ((ks.map fun p => V.ref p.1).drop 1)[i]? = some x2 := e2
      rw [List.getElem?_drop] at e3
      obtain ⟨k1, g1, rfl⟩ := map_at e1
      obtain ⟨k2, g2, rfl⟩ := map_at e3
      have sT : Same H2 (upd H2 T (.tup [V.ref k1.1, V.ref k2.1])) := same_upd nT
      have sA : Same H (upd H2 T (.tup [V.ref k1.1, V.ref k2.1])) := (s1.trans p.1).trans sT
      have lt : HT.lexLt k1.2 k2.2 = rb i := by
        rw [← hr0]
        have a1 : (ks.map (·.2)).getD i [] = k1.2 := by rw [List.getD_eq_getElem?_getD, List.getElem?_map, g1]; rfl
        have a2 : (ks.map (·.2)).getD (i + 1) [] = k2.2 := by rw [List.getD_eq_getElem?_getD, Nat.add_comm, List.getElem?_map, g2]; rfl
        show _ = HT.lexLt ((ks.map (·.2)).getD i []) ((ks.map (·.2)).getD (i + 1) [])
        rw [a1, a2]
      refine ⟨T, _, rfl, tupNew upd_same, rfl, _, _, rfl, _, _, rfl, rfl, rfl, tt_yes ⟨.ref k1.1, rfl, .ref k2.1, rfl, k1.1, k2.1, k1.2, k2.2, rfl, rfl, sqT_same sA (hks k1 (List.mem_of_getElem? g1)), sqT_same sA (hks k2 (List.mem_of_getElem? g2)), _, sT _ _ p.2, ?_, ?_, ?_⟩⟩
      · rw [List.length_map, List.length_map, List.length_range]; exact few1 (by omega)
      · exact fun b o e => by rw [upd_ne (ne_of_none e nD)]; exact sT b o (p.1 b o e)
      · rw [upd_same, lt, range_next, List.map_append]; rfl
    have fin : ∀ (H1 : Hp), Same H H1 → ∀ D H', Same H1 H' → H' D = some (.lst (((List.range (ks.length - 1)).map rb).map V.bl)) → ∃ (a : Addr) (bs : List Bool), [V.ref D] = [V.ref a] ∧ SqL K H' a (bs.map V.bl) ∧ Q (.bl (bs.all id)) H' := by
      intro H1 s1 D H' s2 e
      refine ⟨D, (List.range (ks.length - 1)).map rb, rfl, lstNew e, ?_⟩
      have z := q H' (s1.trans s2)
      rw [eR] at z
      rw [List.all_map]
      exact z
    refine ⟨.ref a, rfl, .ref a, rfl, 1, rfl, a, _, rfl, hT, fun hw => ?_, fun hw c nc => ?_⟩
    · have e0 : ks.map (fun p => V.ref p.1) = [] := by
        cases hk : ks.map (fun p => V.ref p.1) with
        | nil => rfl
        | cons x r =>
          rw [hk] at hw
          have h1 := hw.1
          rw [show HT.sIx (x :: r).length 0 (some 1) = min 1 (x :: r).length from HT.sIx_nat _ 0 1, List.length_cons] at h1
          omega
      refine ⟨a, a, _, _, rfl, .inr ⟨hT, hT, ?_⟩⟩
      refine go a H (fun v H2 => ∃ (a : Addr) (bs : List Bool), [v] = [V.ref a] ∧ SqL K H2 a (bs.map V.bl) ∧ Q (.bl (bs.all id)) H2) (Same.refl H) ?_ ?_
      · rw [e0]; rw [e0] at hT; exact hT
      · exact fin H (Same.refl H)
    · have s1 : Same H (upd H c (.tup (cutV (ks.map fun p => V.ref p.1) (some 1) none))) := same_upd nc
      refine ⟨a, c, _, _, rfl, .inr ⟨sqT_same s1 hT, tupNew upd_same, ?_⟩⟩
      refine go c _ (fun v H2 => ∃ (a : Addr) (bs : List Bool), [v] = [V.ref a] ∧ SqL K H2 a (bs.map V.bl) ∧ Q (.bl (bs.all id)) H2) s1 ?_ ?_
      · exact tupNew (by rw [upd_same, cut1])
      · exact fin _ s1
end
end K2
set_option maxHeartbeats 4000000
namespace K2
open PySem PySem.Spec PyProof.Rows L2 RV
section
variable {P : Program} {w : World} {K : PySem.W.Frag} {mg : Str → Option Value} {base : Heap}
/-! ### are_steps of anything -/
def spStpA (K : PySem.W.Frag) : Sp := fun vs H Q _ => ∃ (a : Addr) (v : V) (ns : List Int) (d : PyData), vs = [.ref a, v] ∧ SqT K H a (ns.map V.int) ∧ Mir ns ∧ Dq K H v d ∧ d.bulk ≤ 1000 ∧ ∀ H', Same H H' → Q (.bl (stpD ns d)) H'
theorem ok_stpA {f fS fR fA fM fW : Addr} {fd fdS fdR fdA fdM fdW : FuncData} (F : Fun K "are_steps" "are_steps" sSteps f fd) (DS : DefAt K mg "is_step" sStep ["thing", "many"] fS fdS)
    (DR : DefAt K mg "is_rising" sRising ["pairs"] fR fdR) (DA : DefAt K mg "are_marks" sMarks ["thing", "many"] fA fdA) (DM : DefAt K mg "is_below" sMark ["thing", "many"] fM fdM) (DW : DefAt K mg "is_whole" sWhole ["thing"] fW fdW) (B : Bare mg) : FnOk P w K mg base CX0 5 f fd ["mirrors", "thing"] (spStpA K) := by
  have GS : FnOk P w K mg base CX0 4 fS fdS ["thing", "many"] (spStepA K) := ok_stepA DS.fn DA DM DW B
  have GR : FnOk P w K mg base CX0 1 fR fdR ["pairs"] (spRiseA K) := ok_riseA DR.fn B
  refine F.ok scSteps (fun vs H Q E h => ?_) (fun cdv A outer s H vs Q E hr h => ?_)
  · obtain ⟨a, v, ns, d, rfl, _⟩ := h
    rfl
  · obtain ⟨a, v, ns, d, rfl, hA, hM, hd, hb, q⟩ := h
    refine ⟨_, pss_cons (ps_if (pt_not (pt_val (pe_callB call_isi (by rfl) B.isinstance (by decide +kernel) (pa_cons (pv 1) (pa_cons (pe_bltn (v := .ty "tuple") (by rfl) B.tuple (by decide +kernel) rfl) pa_nil))))) (pss_one (ps_ret pe_bl)) pss_nil)
      (pss_cons (ps_if (pt_not (pt_val (pe_callB (cr_all rfl) (by rfl) B.all (by decide +kernel) (pa_cons
        (pe_lc (own := [("pair", 2)]) (g := gName 2) (tt := tYes) rfl scSteps.nd (pi_tup (pv 1)) (blkOk_by (N := ["mirrors", "thing", "pair", "a", "b"]) (sc := defScope sSteps) (by decide +kernel)) (fun _ _ _ _ _ => pg_name (i := 2) scSteps.nd rfl (Or.inl rfl)) (fun _ _ _ _ _ => pts_nil)
          (fun _ _ _ _ _ => pe_call GS hr (by rfl) DS.mg DS.fn.kp DS.bi .nil pass0 (pa_cons (pv 2) (pa_cons (pe_callB (call_lenK (K := K) rfl) (by rfl) B.len PySem.boot_len (pa_cons (pv 0) pa_nil)) pa_nil)))) pa_nil)))) (pss_one (ps_ret pe_bl)) pss_nil)
      (pss_cons (ps_if (pt_not (pt_val (pe_call GR (hr.mono (by decide)) (by rfl) DR.mg DR.fn.kp DR.bi .nil pass0 (pa_cons (pv 1) pa_nil)))) (pss_one (ps_ret pe_bl)) pss_nil)
      (pss_one (ps_ret (pe_callB (cr_all rfl) (by rfl) B.all (by decide +kernel) (pa_cons
        (pe_lc (own := [("a", 3), ("b", 4)]) (g := gTup K 2 (gCons (gName 3) (gCons (gName 4) gNil))) (tt := tYes) rfl scSteps.nd (pi_tup (pv 1)) (blkOk_by (N := ["mirrors", "thing", "pair", "a", "b"]) (sc := defScope sSteps) (by decide +kernel))
          (fun _ _ _ _ _ => pg_tupK rfl rfl (pgs_cons (pg_name (i := 3) scSteps.nd rfl (Or.inl rfl)) (pgs_cons (pg_name (i := 4) scSteps.nd rfl (Or.inl rfl)) pgs_nil))) (fun _ _ _ _ _ => pts_nil)
          (fun _ _ _ _ _ => pe_cmpR (op_inTsK (K := K) rfl (un65 hr)) (pe_tup (pa_cons (pe_ix (ix_tupK (K := K) rfl) (pv 0) (pv 4) (fun _ _ => rfl)) (pa_cons (pe_ix (ix_tupK (K := K) rfl) (pv 0) (pv 3) (fun _ _ => rfl)) pa_nil))) (pv 1) (by rfl))) pa_nil)))))), ?_⟩
    have no : stpD ns d = false → ∀ H', Same H H' → Q (.bl false) H' := fun e H' s' => by
      have z := q H' s'
      rw [e] at z
      exact z
    have h8 := hM.few
    refine ⟨v, rfl, v, .ty "tuple", _, _, _, rfl, .ty "tuple", tyQ hd, kit_D (.inr (.inr (.inl rfl))), _, rfl, ?_⟩
    rw [isi_tup]
    cases hd with
    | tup hT hAl =>
      rename_i b xs ds
      have hl := DqAll.len hAl
      have hb' : PyData.bulkAll ds ≤ 1000 := by simpa only [PyData.bulk] using hb
      have hl2 : ds.length ≤ 1000 := Nat.le_trans (bulk_len ds) hb'
      refine iteF ?_
      refine ⟨.ref b, rfl, b, rfl, ⟨_, hT⟩, fun D nD => ?_⟩
      refine lc_tup (K := K) (a := b) (xs := xs) (fun i H' => Same H H' ∧ H' D = some (.lst (((ds.take i).map (stepD (ns.length : Int))).map V.bl))) ⟨same_upd nD, upd_same⟩ (fun i H' _ p => sqT_same p.1 hT) (fun i x H' hx p => ?_) fun H1 p => ?_
      · obtain ⟨e, ge, he⟩ := DqAll.at hAl hx
        have hi : i < ds.length := (List.getElem?_eq_some_iff.mp ge).1
        refine ⟨rfl, tt_yes ⟨x, rfl, .ref a, rfl, a, _, rfl, .inr (sqT_same p.1 hA), x, e, (ns.length : Int), by rw [List.length_map]; rfl, Dq.same p.1 he, Nat.le_trans (bulk_mem (List.mem_of_getElem? ge)) hb', fun H2 s2 => ⟨_, s2 _ _ p.2, ?_, ?_, ?_⟩⟩⟩
        · rw [List.length_map, List.length_map, List.length_take]; exact few1 (by omega)
        · exact fun c o z => by rw [upd_ne (ne_of_none z nD)]; exact s2 c o (p.1 c o z)
        · rw [upd_same, List.take_add_one, ge, List.map_append, List.map_append]; rfl
      · rw [hl, List.take_of_length_le (Nat.le_refl _)] at p
        refine ⟨D, _, rfl, lstNew p.2, ?_⟩
        rw [all_id]
        refine ⟨_, rfl, ?_⟩
        cases hst : ds.all (stepD (ns.length : Int)) with
        | false => exact iteT (no (by show (ds.all _ && _) = false; rw [hst, Bool.false_and]) H1 p.1)
        | true =>
        refine iteF ?_
        obtain ⟨eds, pr⟩ := steps_all (List.all_eq_true.mp hst)
        have hTT0 : Tups K H b (psD ds) := dq_TT hT hAl eds
        have eD : stpD ns (.tuple ds) = (riseB (psD ds) && closB ns (psD ds)) := by
          show (ds.all _ && _) = _
          rw [hst, Bool.true_and]
        rw [eD] at q no
        have lp : (psD ds).length = ds.length := List.length_map ..
        generalize psD ds = ps at hTT0 q no pr lp
        refine ⟨.ref b, rfl, b, _, rfl, hTT0.same p.1, by omega, fun H2 s2 => ⟨_, rfl, ?_⟩⟩
        have s02 : Same H H2 := p.1.trans s2
        cases hri : riseB ps with
        | false => exact iteT (no (by rw [hri, Bool.false_and]) H2 s02)
        | true =>
        rw [hri, Bool.true_and] at q
        refine iteF ?_
        obtain ⟨ks, rfl, hT2, hks⟩ := hTT0
        have lk : ks.length ≤ 1000 := by rw [List.length_map] at lp; omega
        refine ⟨.ref b, rfl, b, rfl, ⟨_, sqT_same s02 hT2⟩, fun D2 nD2 => ?_⟩
        refine lc_tup (K := K) (a := b) (xs := ks.map fun p => V.ref p.1) (fun i H' => Same H2 H' ∧ H' D2 = some (.lst (((ks.take i).map fun k => inB ns (ks.map (·.2)) k.2).map V.bl))) ⟨same_upd nD2, upd_same⟩ (fun i H' _ p => sqT_same p.1 (sqT_same s02 hT2)) (fun i x H' hx p => ?_) fun H3 p => ?_
        · obtain ⟨k, g, rfl⟩ := map_at hx
          have hk : k ∈ ks := List.mem_of_getElem? g
          have hi : i < ks.length := (List.getElem?_eq_some_iff.mp g).1
          obtain ⟨x, y, e, hx1, hy1⟩ := pr k.2 (List.mem_map_of_mem hk)
          have s0' : Same H H' := s02.trans p.1
          have hkT : SqT K H' k.1 ([x, y].map V.int) := by rw [← e]; exact sqT_same s0' (hks k hk)
          obtain ⟨mx, gx⟩ : ∃ mx, ns[x.toNat]? = some mx := ⟨_, List.getElem?_eq_getElem (by omega)⟩
          obtain ⟨my, gy⟩ : ∃ my, ns[y.toNat]? = some my := ⟨_, List.getElem?_eq_getElem (by omega)⟩
          have ax : atI (ns.map V.int) x = some (.int mx) := by
            rw [show x = ((x.toNat : Nat) : Int) by omega]; exact atI_nat (by rw [List.getElem?_map, gx]; rfl)
          have ay : atI (ns.map V.int) y = some (.int my) := by
            rw [show y = ((y.toNat : Nat) : Int) by omega]; exact atI_nat (by rw [List.getElem?_map, gy]; rfl)
          have ein : inB ns (ks.map (·.2)) k.2 = decide ([my, mx] ∈ ks.map (·.2)) := by
            unfold inB
            rw [e]
            have e2 : ns.getD y.toNat 0 = my := by rw [List.getD_eq_getElem?_getD, gy]; rfl
            have e3 : ns.getD x.toNat 0 = mx := by rw [List.getD_eq_getElem?_getD, gx]; rfl
            refine decide_eq_decide.mpr ?_
            show ([ns.getD y.toNat 0, ns.getD x.toNat 0] ∈ _) ↔ _
            rw [e2, e3]
          refine ⟨k.1, _, rfl, hkT, rfl, _, _, rfl, _, _, rfl, rfl, rfl, tt_yes ⟨.ref a, rfl, .int y, rfl, a, _, y, _, rfl, rfl, sqT_same s0' hA, ay, .ref a, rfl, .int x, rfl, a, _, x, _, rfl, rfl, sqT_same s0' hA, ax, (by show 2 ≤ sizeLine; decide), fun T nT => ?_⟩⟩
          have sT : Same H' (upd H' T (.tup [.int my, .int mx])) := same_upd nT
          have hTT3 : Tups K (upd H' T (.tup [.int my, .int mx])) b (ks.map (·.2)) := ⟨ks, rfl, sqT_same sT (sqT_same s0' hT2), fun q hq => sqT_same sT (sqT_same s0' (hks q hq))⟩
          refine ⟨.ref b, rfl, T, b, [my, mx], _, rfl, rfl, tupNew upd_same, hTT3, _, sT _ _ p.2, ?_, ?_, ?_⟩
          · rw [List.length_map, List.length_map, List.length_take]; exact few1 (by omega)
          · exact fun c o z => by rw [upd_ne (ne_of_none z nD2)]; exact sT c o (p.1 c o z)
          · rw [upd_same, List.take_add_one, g, List.map_append, List.map_append]
            show _ = some (HO.lst (_ ++ [V.bl (inB ns (ks.map (·.2)) k.2)]))
            rw [ein]
        · rw [List.length_map, List.take_of_length_le (Nat.le_refl _)] at p
          refine ⟨D2, _, rfl, lstNew p.2, ?_⟩
          have z := q H3 (s02.trans p.1)
          unfold closB at z
          rw [List.all_map] at z
          rw [List.all_map]
          exact z
    | non => exact iteT (no rfl H (Same.refl H))
    | bl b => exact iteT (no rfl H (Same.refl H))
    | int i => exact iteT (no rfl H (Same.refl H))
    | str x => exact iteT (no rfl H (Same.refl H))
    | lst h1 h2 => exact iteT (no rfl H (Same.refl H))
    | dct h1 h2 => exact iteT (no rfl H (Same.refl H))
end
end K2
set_option maxHeartbeats 4000000
/-! try: .. except X as n: suite, and what stands behind it: there the error's object is still known (it is pinned) -/
namespace RV
open PySem PySem.Spec PyProof.Rows L2
def wRest (K : PySem.W.Frag) (c : Value) (i : Nat) (ts u : Addr → Value → Option Addr → TS) (Wout : WX) (D : Ends) : WX := fun cls d σ H => ∃ b, PySem.W.exmOne K cls c = some b ∧ (b = false → Wout cls d σ H) ∧
  (b = true → ∀ a, H a = none → ts a cls d { nx := fun σ' H' => u a cls d D (σ'.set i none) H', rt := D.rt, bk := fun σ' H' => D.bk (σ'.set i none) H', ct := fun σ' H' => D.ct (σ'.set i none) H' } (σ.set i (some (.ref a))) H)
section
variable {X : Cx} {pins : List (Addr × Obj)} {σ : L2.St} {H : Hp} {s : Shared}
/-- behind the suite, the error still pinned -/
theorem pin_on {a : Addr} {q : Addr × Obj} {pn : List (Addr × Obj)} {E : Value → Shared → Prop} (I : Inv (X.suite a (q :: (X.pn ++ pins))) pn σ H s) (ok : X.Ok) : Inv (X.tr (q :: (X.pn ++ pins)) E) [] σ H s where
  ok := ok.toTry _ _
  os := I.os
  bare := I.bare
  base := I.base
  loc := I.loc
  cell := I.cell
  free := I.free
  freeC := I.freeC
  pin := fun p hp => I.pin p (by rw [List.append_nil] at hp; exact List.mem_append_left _ hp)
  hok := I.hok
  len := I.len
theorem pin_off {q : Addr × Obj} {E : Value → Shared → Prop} (I : Inv (X.tr (q :: (X.pn ++ pins)) E) [] σ H s) (ok : X.Ok) : Inv X pins σ H s where
  ok := ok
  os := I.os
  bare := I.bare
  base := I.base
  loc := I.loc
  cell := I.cell
  free := I.free
  freeC := I.freeC
  pin := fun p hp => I.pin p (List.mem_append_left _ (List.mem_cons_of_mem _ hp))
  hok := I.hok
  len := I.len
end
section
variable {X : Cx} {x n : Str} {c : Value} {i : Nat} {body suite rest : List Stmt} {b₀ : Stmt} {np pos pos' : Pos} {tb : WX → TS} {ts u : Addr → Value → Option Addr → TS} {v : TS} {Wout : WX}
theorem pss_try_rest (st : X.stack = X.env :: X.outer) (fr : X.env.frame = some X.env.locals) (nd : X.N.Nodup) (gi : X.N[i]? = some n) (kn : X.env.kindOf n = some .local) (nm : Names X x c) (tk : Takes X Wout)
    (hb : ∀ (W : WX) (pn : List (Addr × Obj)) (xe : Value → Shared → Prop), Takes (X.tr pn xe) W → PassesOwn (model X.prog X.w) X.A X.env xe → PSs (X.tr pn xe) body (tb W))
    (hsu : ∀ (a : Addr) (oe : Obj) (cls : Value) (d : Option Addr) (pn : List (Addr × Obj)), Zc cls d oe → (∃ vs, oe.data = .fields vs) → PSs (X.suite a ((a, oe) :: pn)) (b₀ :: suite) (ts a cls d))
    (hr : PSs X rest v)
    (hr' : ∀ (a : Addr) (oe : Obj) (cls : Value) (d : Option Addr) (pn : List (Addr × Obj)), Zc cls d oe → (∃ vs, oe.data = .fields vs) → PSs (X.tr ((a, oe) :: pn) X.xe) rest (u a cls d)) :
    PSs X (.Try body [.ExceptHandler (some (.Name x np)) (some n) (b₀ :: suite) pos'] [] [] pos :: rest) (fun D σ H => tb (wRest X.K c i ts u Wout D) { D with nx := v D } σ H) := by
  refine ⟨fun pins s σ H D I h => wpAny_execs_cons ?_⟩
  have ok := I.ok
  let R : Flow → Shared → Prop := fun f s' => match f with
    | .next => wpAny (model X.prog X.w) X.A (execs rest X.env) (SP X pins D) X.xe s'
    | f => SP X pins D f s'
  have goal : wpAny (model X.prog X.w) X.A (exec (.Try body [.ExceptHandler (some (.Name x np)) (some n) (b₀ :: suite) pos'] [] [] pos) X.env) R X.xe s := by
    refine wpAny_Try_except (wpAny_mono ((hb (wRest X.K c i ts u Wout D) (X.pn ++ pins) (fun e s₁ => wpAny (model X.prog X.w) X.A (noteFrame e X.env) (fun _ s₂ => wpAny (model X.prog X.w) X.A (setFlight e none) (fun _ s₃ =>
      wpAny (model X.prog X.w) X.A (handleBy e X.env [.ExceptHandler (some (.Name x np)) (some n) (b₀ :: suite) pos']) R X.xe s₃) X.xe s₂) X.xe s₁) (fun uu t xx => ?_) PassesOwn.looking).run [] s σ H { D with nx := v D } (I.toTry _) h) (fun f t hf => ?_) fun _ _ z => z)
    · -- the clause
      obtain ⟨a, B, sI, pins', σ', H', cls, d, rfl, J0, nb, up, sky, na, os, ag, b, hb1, hno, hyes⟩ := xx
      have J : Inv X pins σ' H' sI := J0.ofTry ok
      have sk : Sky B (X.env :: X.outer) a (Zc cls d) X.env.locals t.heap := st ▸ sky
      show wpAny (model X.prog X.w) X.A (noteFrame (.ref a) X.env) _ _ _
      refine Sky.land Zc.steady (by rw [ok.frames, st]) fr sk fun g fg ug => ?_
      have Jg : Inv X pins σ' H' { t with heap := g } := J.landed nb fg.1 (up.trans ug) os ag
      obtain ⟨og, vg, eg, zg, dg⟩ := fg.there
      have off : a ∉ frs (X.env :: X.outer) := fun hm => by
        obtain ⟨_, o', e', nf⟩ := fg.2.2.1.mem hm
        cases eg.symm.trans e'
        exact nf _ dg
      have offL : a ≠ X.env.locals := fun z => off (List.mem_filterMap.mpr ⟨X.env, List.mem_cons_self, by rw [fr, z]⟩)
      have offF : a ∉ X.fs := fun hm => by
        obtain ⟨e, he, q⟩ := List.mem_filterMap.mp hm
        exact off (List.mem_filterMap.mpr ⟨e, List.mem_cons_of_mem _ he, q⟩)
      have Sg := Jg.suite eg dg na offL offF
      refine wpAny_handleBy_cons (codeAny_handlers_test ?_) (fun q => nomatch q)
      have is : PySem.W.Looks (model X.prog X.w) g (typeOf (.ref a)) cls := fun _ _ _ _ k q => wpAny_typeOf_ref (k _ _ eg) (zg.1 ▸ q)
      have look := PySem.W.exm_one (M := model X.prog X.w) Jg.kIn is hb1
      have name : ∀ {Q E : Value → Shared → Prop}, Q c { t with heap := g } → wpAny (model X.prog X.w) (X.A.mark (some (.ref a))) (eval (.Name x np) X.env) Q E { t with heap := g } := fun {Q E} q => by
        obtain ⟨hg, hdb, hm | ⟨hm, hv, hn⟩⟩ := nm
        · exact ld_glob (X := X.suite a ((a, og) :: (X.pn ++ pins))) Sg hg hm q hdb
        · exact ld_blt (X := X.suite a ((a, og) :: (X.pn ++ pins))) Sg hg hm hv q hn hdb
      refine name (look.here ?_)
      cases b with
      | true =>
        refine codeAny_handlers_suite_as (HandSPX.lands_againZ fg fun k fk uk => ?_)
        have Jk : Inv X pins σ' H' { t with heap := k } := J.landed nb fk.1 ((up.trans ug).trans uk) os ag
        obtain ⟨o4, v4, e4, z4, d4⟩ := fk.there
        refine store_ok (X := X.suite a ((a, o4) :: (X.pn ++ pins))) (v := .ref a) (Jk.suite e4 d4 na offL offF) nd gi (.inl kn) rfl (fun s5 S5 => ?_) (.inr kn)
        refine wpAny_mono ((hsu a o4 cls d (X.pn ++ pins) z4 ⟨_, d4⟩).run [] s5 _ H' _ S5 (hyes rfl a na)) (fun f s6 hs => ?_) (fun _ _ z => False.elim z)
        cases f with
        | next =>
          obtain ⟨σ6, H6, S6, q6⟩ := hs
          refine gone_ok (X := X.tr ((a, o4) :: (X.pn ++ pins)) X.xe) (pins := []) (pin_on S6 ok) nd gi kn fun s7 J7 => ?_
          show wpAny (model X.prog X.w) X.A (execs rest X.env) (SP X pins D) X.xe s7
          refine wpAny_mono ((hr' a o4 cls d (X.pn ++ pins) z4 ⟨_, d4⟩).run [] s7 _ H6 D J7 q6) (fun f s8 h8 => ?_) fun _ _ z => z
          cases f with
          | next => obtain ⟨σ8, H8, J8, q8⟩ := h8; exact ⟨σ8, H8, pin_off J8 ok, q8⟩
          | brk => obtain ⟨σ8, H8, J8, q8⟩ := h8; exact ⟨σ8, H8, pin_off J8 ok, q8⟩
          | cont => obtain ⟨σ8, H8, J8, q8⟩ := h8; exact ⟨σ8, H8, pin_off J8 ok, q8⟩
          | ret _ => obtain ⟨w8, σ8, H8, J8, r8, q8⟩ := h8; exact ⟨w8, σ8, H8, pin_off J8 ok, r8, q8⟩
        | brk => obtain ⟨σ6, H6, S6, q6⟩ := hs; exact gone_ok (S6.unsuite ok) nd gi kn fun s7 J7 => ⟨_, _, J7, q6⟩
        | cont => obtain ⟨σ6, H6, S6, q6⟩ := hs; exact gone_ok (S6.unsuite ok) nd gi kn fun s7 J7 => ⟨_, _, J7, q6⟩
        | ret _ => obtain ⟨v6, σ6, H6, S6, r6, q6⟩ := hs; exact gone_ok (S6.unsuite ok) nd gi kn fun s7 J7 => ⟨_, _, _, J7, r6, q6⟩
      | false =>
        show wpAny _ X.A (handleBy (.ref a) X.env []) _ _ _
        refine wpAny_handleBy_nil ?_
        obtain ⟨_, _, _, oe, vs, T, oT, ts', he, hz, hd, h1, _⟩ := id fg
        unfold PySem.passOn
        refine wpAny_bind (wpAny_field he hd h1 ?_)
        rw [if_neg (show ¬ ((Value.ref T == Value.none) = true) by simp)]
        have fin : wpAny (model X.prog X.w) X.A (setFlight (.ref a) X.env.frame) (fun _ s4 => wpAny (model X.prog X.w) X.A (throw (.ref a) : Sem Flow) R X.xe s4) X.xe { t with heap := g } := by
          rw [fr]
          exact HandSPX.setFlight_upZ fg fun k hk uk => wpAny_throw (tk _ _ ⟨a, B, sI, pins, σ', H', cls, d, rfl, J, nb, (up.trans ug).trans uk, .inr (.inr (st.symm ▸ hk)), na, os, ag, hno rfl⟩)
        first | exact wpAny_bind (wpAny_pure (wpAny_bind fin)) | exact wpAny_bind fin
    · cases f with
      | next =>
        obtain ⟨σ', H', J, q⟩ := hf
        refine wpAny_execs_nil ?_
        exact hr.run pins t σ' H' D (J.ofTry ok) q
      | brk => obtain ⟨σ', H', J, q⟩ := hf; exact ⟨σ', H', J.ofTry ok, q⟩
      | cont => obtain ⟨σ', H', J, q⟩ := hf; exact ⟨σ', H', J.ofTry ok, q⟩
      | ret _ => obtain ⟨w, σ', H', J, r, q⟩ := hf; exact ⟨w, σ', H', J.ofTry ok, r, q⟩
  exact thn goal fun f s1 q => by cases f <;> exact q
/-- isinstance(e, c) of a pinned error -/
theorem call_isP {a D : Addr} {oe : Obj} (hm : (a, oe) ∈ X.pn) (C : ExcC X.K D) (hz : Zc (.ref D) none oe) (hf : ∃ vs, oe.data = .fields vs) : CallR X (.builtin "isinstance") (rIsE X.K D a) := by
  intro pins s σ H xs us Q I r h
  obtain ⟨t, cv, b, rfl, one, e, q⟩ := h
  match us, r with
  | [_, _], .cons rx (.cons rt .nil) =>
    cases rx
    cases one _ rt
    obtain ⟨get, _⟩ := I.pin (a, oe) (List.mem_append_left _ hm)
    obtain ⟨vs, hv⟩ := hf
    have J : PySem.W.InstAt s.heap a oe D none := by
      cases oe with
      | mk oc od oda osl =>
        obtain ⟨rfl, rfl⟩ := hz
        cases hv
        exact ⟨get, rfl, rfl, trivial⟩
    refine PySem.W.kia_one (PySem.W.handS_kitx_exc C.hg C.hk C.hs C.hd C.ha C.hn C.ht C.hm) I.kIn J e (by intro z; cases z) fun tk => ?_
    exact ⟨.bl b, H, I.kept (t' := tk) fun _ _ z => z, rfl, q⟩
/-- the same, its class told behind -/
theorem call_isP2 {K : PySem.W.Frag} {a D : Addr} {oe : Obj} {cls : Value} {d : Option Addr} (hK : X.K = K) (hm : (a, oe) ∈ X.pn) (C : ExcC K D) (hz : Zc cls d oe) (hf : ∃ vs, oe.data = .fields vs) : CallR X (.builtin "isinstance") (fun xs H Q => cls = .ref D ∧ d = none ∧ rIsE K D a xs H Q) := by
  subst hK
  intro pins s σ H xs us Q I r h
  obtain ⟨rfl, rfl, h⟩ := h
  exact call_isP hm C hz hf pins s σ H xs us Q I r h
/-- isinstance(e, (c, c')) of a pinned error -/
theorem call_isPT {a D : Addr} {oe : Obj} (hm : (a, oe) ∈ X.pn) (C : ExcC X.K D) (hz : Zc (.ref D) none oe) (hf : ∃ vs, oe.data = .fields vs) : CallR X (.builtin "isinstance") (fun xs H Q => ∃ (tp : Addr) (cs : List V) (ws : List Value) (b : Bool), xs = [.ref a, .ref tp] ∧ H tp = some (.tup cs) ∧ (∀ us, Vals cs us → us = ws) ∧ PySem.W.kitAny X.K (.ref D) ws = some b ∧ Q (.bl b) H) := by
  intro pins s σ H xs us Q I r h
  obtain ⟨tp, cs, ws, b, rfl, hT, one, e, q⟩ := h
  match us, r with
  | [_, _], .cons rx (.cons rt .nil) =>
    cases rx
    cases rt
    obtain ⟨get, _⟩ := I.pin (a, oe) (List.mem_append_left _ hm)
    obtain ⟨vs, hv⟩ := hf
    have J : PySem.W.InstAt s.heap a oe D none := by
      cases oe with
      | mk oc od oda osl =>
        obtain ⟨rfl, rfl⟩ := hz
        cases hv
        exact ⟨get, rfl, rfl, trivial⟩
    obtain ⟨_, its, rv, o, h1, h2, m, h3⟩ := (show ObjOk X.prog X.w H s.heap tp (.tup cs) from I.hok tp _ hT)
    cases one _ rv
    cases o with
    | mk oc od dt sl =>
      cases h2
      cases h3
      refine PySem.W.kia_tup (PySem.W.handS_kitx_exc C.hg C.hk C.hs C.hd C.ha C.hn C.ht C.hm) I.kIn J h1 e (by intro z; cases z) fun tk => ?_
      exact ⟨.bl b, H, I.kept (t' := tk) fun _ _ z => z, rfl, q⟩
theorem call_isPT2 {K : PySem.W.Frag} {a D : Addr} {oe : Obj} {cls : Value} {d : Option Addr} (hK : X.K = K) (hm : (a, oe) ∈ X.pn) (C : ExcC K D) (hz : Zc cls d oe) (hf : ∃ vs, oe.data = .fields vs) : CallR X (.builtin "isinstance") (fun xs H Q => cls = .ref D ∧ d = none ∧ ∃ (tp : Addr) (cs : List V) (ws : List Value) (b : Bool), xs = [.ref a, .ref tp] ∧ H tp = some (.tup cs) ∧ (∀ us, Vals cs us → us = ws) ∧ PySem.W.kitAny K (.ref D) ws = some b ∧ Q (.bl b) H) := by
  subst hK
  intro pins s σ H xs us Q I r h
  obtain ⟨rfl, rfl, h⟩ := h
  exact call_isPT hm C hz hf pins s σ H xs us Q I r h
/-- the slots at a raise are as many as ever -/
theorem takes_len {W : WX} (tk : Takes X W) : Takes X (fun cls d σ H => σ.length = X.N.length → W cls d σ H) := fun u s' ⟨a, B, sI, pins, σ, H, cls, d, e, I, nb, up, sky, na, os, ag, w⟩ => tk u s' ⟨a, B, sI, pins, σ, H, cls, d, e, I, nb, up, sky, na, os, ag, w I.len⟩
end
end RV
set_option maxHeartbeats 4000000
namespace K2
open PySem PySem.Spec PyProof.Rows L2 RV
section
variable {P : Program} {w : World} {K : PySem.W.Frag} {mg : Str → Option Value} {base : Heap}
/-- the refusal: its field -/
def Ref (CN : Addr) (z : Str) (H : Hp) (E : XK) : Prop := ∀ (d : Addr) (H' : Hp), Same H H' → H' d = some (.xd [("field", .str z)]) → E (.ref CN) (some d) H'
theorem Ref.same {CN : Addr} {z : Str} {H H' : Hp} {E : XK} (r : Ref CN z H E) (s : Same H H') : Ref CN z H' E := fun d H2 s2 e => r d H2 (s.trans s2) e
/-- NoRule(z), raised -/
theorem raised {CN : Addr} {z : Str} {H : Hp} {E : XK} {σ : L2.St} (hz : z.length ≤ 100) (r : Ref CN z H E) :
    tMkO CN (spNR CN) [] (tCons (tC (.str z)) tNil) σ H E := by
  refine ⟨by show 1 ≤ 1000; decide, fun a na => ⟨a, z, rfl, upd_same, hz, fun dx n1 n2 => ?_⟩⟩
  have nd : H dx = none := by rw [upd_ne n2] at n1; exact n1
  refine ⟨rfl, dx, _, upd_same, by rw [upd_ne n2]; exact upd_same, nd, r dx _ (fun b o e => ?_) upd_same⟩
  have b1 : b ≠ a := ne_of_none e na
  have b2 : b ≠ dx := ne_of_none e nd
  rw [upd_ne b2, del_ne b1, upd_ne b1, upd_ne b2, upd_ne b1]
  exact e
/-! ### Rule.__init__ of anything -/
def spInitA (K : PySem.W.Frag) (C CN : Addr) : Sp := fun vs H Q E => ∃ (p dx : Addr) (v v' : V) (d d' : PyData), vs = [.ref p, v, v'] ∧ H p = some (.ins C dx []) ∧ Dq K H v d ∧ Dq K H v' d' ∧ d.bulk ≤ 1000 ∧ d'.bulk ≤ 1000 ∧
  (mirD d = false → Ref CN "mirrors" H E) ∧ (mirD d = true → stpD (intsD d) d' = false → Ref CN "steps" H E) ∧
  (mirD d = true → stpD (intsD d) d' = true → ∀ (a b : Addr) (ns : List Int) (ps : List (List Int)), v = .ref a → v' = .ref b → d = dI ns → d' = dTT ps → SqT K H a (ns.map V.int) → Tups K H b ps → Mir ns → Stp ns ps →
    ∀ H' t, (∀ c o, H c = some o → c ≠ p → H' c = some o) → H' p = some (.ins C dx (flds a b t)) → Tups K H' t (follow ns.length ps) → Q .non H')
theorem ok_initA {f fM fS fB C CN fN cda cc : Addr} {fd fdM fdS fdB fdN : FuncData} (F : Fun K "__init__" "Rule.__init__" sInit f fd) (T : Txt K mg C) (N : NRule P K mg CN fN cda cc fdN)
    (DM : DefAt K mg "are_mirrors" sMirrors ["thing"] fM fdM) (GM : FnOk P w K mg base CX0 4 fM fdM ["thing"] (spMirA K)) (DS : DefAt K mg "are_steps" sSteps ["mirrors", "thing"] fS fdS) (GS : FnOk P w K mg base CX0 5 fS fdS ["mirrors", "thing"] (spStpA K))
    (DB : DefAt K mg "marks_behind" sBehind ["steps", "mark"] fB fdB) (B : Bare mg) : FnOk P w K mg base (L2.CX P w) 6 f fd ["self", "mirrors", "steps"] (spInitA K C CN) := by
  have GB : FnOk P w K mg base CX0 1 fB fdB ["steps", "mark"] (spBehind K) := ok_behind DB.fn B
  have GN : FnOk P w K mg base CX0 1 fN fdN ["self", "field"] (spNR CN) := ok_nr N
  refine F.okX scInit (fun vs H Q E h => ?_) (fun cdv A outer s H vs Q E hr h => ?_)
  · obtain ⟨p, dx, v, v', d, d', rfl, _⟩ := h
    rfl
  · obtain ⟨p, dx, v, v', d, d', rfl, hp, hd, hd', hb, hb', q1, q2, q⟩ := h
    refine ⟨_, pss_cons (ps_if (pt_not (pt_val (pe_call GM (hr.mono (by decide)) (by rfl) DM.mg DM.fn.kp DM.bi .nil pass0 (pa_cons (pv 1) pa_nil)))) (pss_one (ps_raise rfl (takes_of rfl rfl rfl rfl) (pmk_oex N.T N.ini N.ty GN (hr.mono (by decide)) N.bi .nil pass0 (by rfl) N.g (pa_cons pe_str pa_nil)))) pss_nil)
      (pss_cons (ps_if (pt_not (pt_val (pe_call GS hr (by rfl) DS.mg DS.fn.kp DS.bi .nil pass0 (pa_cons (pv 1) (pa_cons (pv 2) pa_nil))))) (pss_one (ps_raise rfl (takes_of rfl rfl rfl rfl) (pmk_oex N.T N.ini N.ty GN (hr.mono (by decide)) N.bi .nil pass0 (by rfl) N.g (pa_cons pe_str pa_nil)))) pss_nil)
      (pss_cons (ps_fld (pv 0) (pv 1) rfl)
      (pss_cons (ps_fld (pv 0) (pv 2) rfl)
      (pss_one (ps_fld (pv 0) (pe_tupleOf (by rfl) B.tuple
        (pe_lc (own := [("mark", 3)]) (g := gName 3) (tt := tYes) rfl scInit.nd (pi_range1 (by rfl) B.range (pa_cons (pe_callB call_len_seq (by rfl) B.len PySem.boot_len (pa_cons (pv 1) pa_nil)) pa_nil)) (blkOk_by (N := ["self", "mirrors", "steps", "mark"]) (sc := defScope sInit) (by decide +kernel))
          (fun _ _ _ _ _ => pg_name (i := 3) scInit.nd rfl (Or.inl rfl)) (fun _ _ _ _ _ => pts_nil)
          (fun _ _ _ _ _ => pe_call GB (hr.mono (by decide)) (by rfl) DB.mg DB.fn.kp DB.bi .nil pass0 (pa_cons (pv 2) (pa_cons (pv 3) pa_nil))))) rfl))))), ?_⟩
    refine ⟨v, rfl, v, d, rfl, hd, hb, fun H1 s1 => ⟨_, rfl, ?_⟩⟩
    cases hm : mirD d with
    | false => exact iteT (raised (by decide) ((q1 hm).same s1))
    | true =>
    refine iteF ?_
    obtain ⟨ds, rfl, _⟩ := mir_tup hm
    obtain ⟨ed, hM⟩ := mir_of hm
    have q2 := q2 hm
    have q := q hm
    have en : intsD (.tuple ds) = ds.map RV.intD := rfl
    rw [en] at q2 q
    generalize ds.map RV.intD = ns at ed hM q2 q
    have hd0 := hd
    rw [ed] at hd0
    obtain ⟨a, rfl, hA⟩ := dq_dI hd0
    refine ⟨.ref a, rfl, v', rfl, a, v', ns, d', rfl, sqT_same s1 hA, hM, Dq.same s1 hd', hb', fun H2 s2 => ⟨_, rfl, ?_⟩⟩
    cases hst : stpD ns d' with
    | false => exact iteT (raised (by decide) ((q2 hst).same (s1.trans s2)))
    | true =>
    refine iteF ?_
    obtain ⟨es, rfl⟩ : ∃ es, d' = .tuple es := by
      cases d' with
      | tuple es => exact ⟨es, rfl⟩
      | _ => cases hst
    obtain ⟨ee, hS⟩ := stp_of hM hst
    obtain ⟨b, rfl, hBT⟩ : ∃ b, v' = .ref b ∧ Tups K H b (psD es) := by
      cases hd' with
      | tup h1 h2 => exact ⟨_, rfl, dq_TT h1 h2 (PyData.tuple.inj ee)⟩
    have q := q hst a b ns (psD es) rfl rfl ed ee hA hBT hM hS
    generalize psD es = ps at hBT hS q
    have hB := hBT
    have s02 : Same H H2 := s1.trans s2
    have hp2 := s02 _ _ hp
    refine ⟨.ref a, rfl, .ref p, rfl, p, C, dx, [], rfl, hp2, T.cl, T.nM, (by show 0 < 1000; decide), ?_⟩
    refine ⟨.ref b, rfl, .ref p, rfl, p, C, dx, _, rfl, upd_same, T.cl, T.nS, (by show 1 < 1000; decide), ?_⟩
    -- the heap behind both stores
    have k4 : ∀ c o, H2 c = some o → c ≠ p → (upd (upd H2 p (.ins C dx (putF "mirrors" (.ref a) []))) p (.ins C dx (putF "steps" (.ref b) (putF "mirrors" (.ref a) [])))) c = some o := fun c o e z => by
      rw [upd_ne z, upd_ne z]; exact e
    generalize e4 : upd (upd H2 p (.ins C dx (putF "mirrors" (.ref a) []))) p (.ins C dx (putF "steps" (.ref b) (putF "mirrors" (.ref a) []))) = H4 at k4 ⊢
    have hp4 : H4 p = some (.ins C dx (putF "steps" (.ref b) (putF "mirrors" (.ref a) []))) := by rw [← e4, upd_same]
    have hA4 : SqT K H4 a (ns.map V.int) := sqT_but hp2 k4 (sqT_same s02 hA)
    have hB4 : Tups K H4 b ps := tups_but hp2 k4 (hB.same s02)
    have h8 := hM.few
    refine ⟨.ref a, rfl, a, _, rfl, .inr hA4, _, rfl, ?_, ?_, fun D nD => ?_⟩
    · rw [List.length_map]; omega
    · rw [List.length_map]; omega
    rw [List.length_map, Int.toNat_natCast]
    refine lc_range (lo := 0) (n := ns.length) (fun i H' => Same H4 H' ∧ ∃ ks : List (Addr × List Int), ks.map (·.2) = follow i ps ∧ H' D = some (.lst (ks.map fun p => V.ref p.1)) ∧ ∀ q ∈ ks, SqT K H' q.1 (q.2.map V.int)) ⟨same_upd nD, [], rfl, upd_same, fun _ z => nomatch z⟩ (fun i H' hi z => ?_) fun H' z => ?_
    · obtain ⟨s5, ks, e1, e2, e3⟩ := z
      have hkl : ks.length = i := by
        have := congrArg List.length e1
        rw [List.length_map] at this
        rw [this]; unfold follow; rw [List.length_map, List.length_range]
      refine ⟨rfl, tt_yes ⟨.ref b, rfl, .int (0 + (i : Nat)), rfl, b, ps, _, rfl, hB4.same s5, by have := hS.few; omega, fun q hq => ?_, fun H6 t s6 nt et => ⟨_, s6 _ _ e2, ?_, ?_, ?_⟩⟩⟩
      · obtain ⟨x, y, e, _⟩ := hS.pair q hq
        exact ⟨x, y, e⟩
      · rw [List.length_map]; exact few1 (by omega)
      · exact fun c o e => by rw [upd_ne (ne_of_none e nD)]; exact s6 c o (s5 c o e)
      · have hk6 : ∀ c o, H6 c = some o → c ≠ D → (upd H6 D (.lst ((ks.map fun p => V.ref p.1) ++ [V.ref t]))) c = some o := fun c o e z => by rw [upd_ne z]; exact e
        have tk : ∀ {c : Addr} {xs : List V}, SqT K H6 c xs → SqT K (upd H6 D (.lst ((ks.map fun p => V.ref p.1) ++ [V.ref t]))) c xs := by
          intro c xs h
          have eD := s6 _ _ e2
          rcases h with (h | ⟨o, h⟩) | h
          · exact .inl (.inl (hk6 _ _ h fun z => by rw [z, eD] at h; cases h))
          · exact .inl (.inr ⟨o, hk6 _ _ h fun z => by rw [z, eD] at h; cases h⟩)
          · exact .inr h
        refine ⟨ks ++ [(t, behindOf ps (i : Int))], ?_, ?_, fun q hq => ?_⟩
        · rw [List.map_append, e1, follow_next]; rfl
        · rw [upd_same, List.map_append]; rfl
        · rcases List.mem_append.mp hq with z | z
          · exact tk (sqT_same s6 (e3 q z))
          · rw [List.mem_singleton.mp z]
            refine tk (tupNew ?_)
            rw [et, show (0 + ((i : Nat) : Int)) = (i : Int) by omega]
    · obtain ⟨s5, ks, e1, e2, e3⟩ := z
      refine .inl ⟨D, _, rfl, lstNew e2, fun t nt => ?_⟩
      have sT : Same H' (upd H' t (.tup (ks.map fun p => V.ref p.1))) := same_upd nt
      have hpT := sT _ _ (s5 _ _ hp4)
      refine ⟨.ref p, rfl, p, C, dx, _, rfl, hpT, T.cl, T.nF, (by
        show (putF "steps" (V.ref b) (putF "mirrors" (V.ref a) [])).length < 1000
        show (if ("mirrors" : Str) = "steps" then [(("mirrors" : Str), V.ref b)] else (("mirrors" : Str), V.ref a) :: putF "steps" (V.ref b) []).length < 1000
        rw [if_neg n1]; show 2 < 1000; decide), ?_⟩
      refine q _ t (fun c o e z => ?_) upd_same ?_
      · rw [upd_ne z]
        exact sT _ _ (s5 _ _ (k4 _ _ (s02 _ _ e) z))
      · have tt : Tups K (upd H' t (.tup (ks.map fun p => V.ref p.1))) t (follow ns.length ps) := ⟨ks, e1, tupNew upd_same, fun q hq => sqT_same sT (e3 q hq)⟩
        exact tups_but hpT (fun c o e z => by rw [upd_ne z]; exact e) tt
end
end K2
set_option maxHeartbeats 4000000
namespace RV
open PySem PySem.Spec PyProof.Rows L2
theorem nx_step {i : Nat} {v : V} {σ : L2.St} {H : Hp} {G : L2.St → Hp → Prop} (h : G (σ.set i (some v)) H) : gName i v σ H G := h
theorem seq_mid {t1 t2 : TS} {D : Ends} {σ : L2.St} {H : Hp} (J : L2.St → Hp → Prop) (h2 : ∀ σ H, J σ H → t2 D σ H) (h1 : (∀ σ H, J σ H → t2 D σ H) → tSeq t1 t2 D σ H) : tSeq t1 t2 D σ H := h1 h2
section
variable {X : Cx} {K : PySem.W.Frag}
theorem op_notInDK (h : X.K = K) (hu : X.A.units + 65 < cLine) : OpR X (compareOp .NotIn) (rNotInD K) := h ▸ op_notInD hu
theorem pe_backTK {e : Expr} {te : TE} {k : Nat} {p1 p2 p3 pos : Pos} (h : X.K = K) (he : PE X e te) : PE X (.Subscript e (.Slice none none (some (.UnaryOp .USub (.Constant (.int 1) k p1) p2)) p3) pos) (tBackT K te) := h ▸ pe_backT he
end
section
variable {X : Cx} {K : PySem.W.Frag}
theorem op_inDK (h : X.K = K) (hu : X.A.units + 65 < cLine) : OpR X (compareOp .In) (rInD K) := h ▸ op_inD hu
theorem ix_listK (h : X.K = K) : IxR X (rIxL K) := h ▸ ix_list
end
theorem take_filt {α : Type} {c : α → Bool} {ks : List α} {k : α} {i : Nat} (g : ks[i]? = some k) : (ks.take (i + 1)).filter c = (ks.take i).filter c ++ (if c k = true then [k] else []) := by
  rw [List.take_add_one, g]
  show (ks.take i ++ [k]).filter c = _
  rw [List.filter_append]
  by_cases e : c k = true
  · rw [if_pos e]; simp [e]
  · rw [if_neg e]; simp [e]
section
variable {K : PySem.W.Frag} {tt : TT} {te : TE} {f : Int → Bool} {σ : L2.St} {H1 : Hp} {a D : Addr} {v : Nat} {ns : List Int} {Qd : Hp → Prop}
/-- [x for x in t if ..], t a tuple of ints -/
theorem lc_filtT (hT : SqT K H1 a (ns.map V.int)) (hl : ns.length ≤ 1000) (nD : H1 D = none)
    (htest : ∀ x ∈ ns, ∀ H', Same H1 H' → ∀ A B : Hp → Prop, (∀ H2, Same H' H2 → if f x = true then A H2 else B H2) → tt ((wipe σ [v]).set v (some (.int x))) H' (fun b H3 => if b = true then A H3 else B H3))
    (hte : ∀ (x : Int) (H' : Hp) (Q : VK), Q (.int x) H' → te ((wipe σ [v]).set v (some (.int x))) H' Q)
    (hd : ∀ H', Same H1 H' → H' D = some (.lst ((ns.filter f).map V.int)) → Qd H') :
    ∃ W : Nat → Nat → Hp → Prop, (∃ m, W 0 m (upd H1 D (.lst []))) ∧ ∀ i m H, W i m H →
      ((Itt K a).stop i H ∧ Qd H) ∨ ((Itt K a).go i H ∧ ∃ Nx : Hp → Prop, (∀ H', Nx H' → ∃ m', m' < m ∧ W (i + 1) m' H') ∧ ∀ x H', (Itt K a).yld i H x H' → gName v x (wipe σ [v]) H' fun σ2 H2 => wipe σ2 [v] = wipe σ [v] ∧ tt σ2 H2 fun b H3 =>
        if b = true then te σ2 H3 fun y H4 => ∃ acc, H4 D = some (.lst acc) ∧ acc.length < sizeLine ∧ Nx (upd H4 D (.lst (acc ++ [y]))) else Nx H3) := by
  refine lc_tup (K := K) (a := a) (xs := ns.map V.int) (fun i H' => Same H1 H' ∧ H' D = some (.lst (((ns.take i).filter f).map V.int))) ⟨same_upd nD, upd_same⟩ (fun i H' _ p => sqT_same p.1 hT) (fun i x H' hx p => ?_) fun H' p => ?_
  · obtain ⟨k, g, rfl⟩ := map_at hx
    refine ⟨by simp [wipe, List.set_set], htest k (List.mem_of_getElem? g) H' p.1 _ _ fun H2 s2 => ?_⟩
    have s12 := p.1.trans s2
    have e2 := s2 _ _ p.2
    by_cases e : f k = true
    · rw [if_pos e]
      refine hte k H2 _ ⟨_, e2, ?_, fun b o z => ?_, ?_⟩
      · rw [List.length_map]
        exact few1 (Nat.le_trans (List.length_filter_le _ _) (by rw [List.length_take]; omega))
      · rw [upd_ne (ne_of_none z nD)]; exact s12 b o z
      · rw [upd_same, take_filt g, if_pos e, List.map_append]; rfl
    · rw [if_neg e]
      exact ⟨s12, by rw [take_filt g, if_neg e, List.append_nil]; exact e2⟩
  · rw [List.length_map, List.take_of_length_le (Nat.le_refl _)] at p
    exact hd H' p.1 p.2
/-- [x for x in l if ..], l a list of ints -/
theorem lc_filtL (hT : SqL K H1 a (ns.map V.int)) (hl : ns.length ≤ 1000) (nD : H1 D = none)
    (htest : ∀ x ∈ ns, ∀ H', Same H1 H' → ∀ A B : Hp → Prop, (∀ H2, Same H' H2 → if f x = true then A H2 else B H2) → tt ((wipe σ [v]).set v (some (.int x))) H' (fun b H3 => if b = true then A H3 else B H3))
    (hte : ∀ (x : Int) (H' : Hp) (Q : VK), Q (.int x) H' → te ((wipe σ [v]).set v (some (.int x))) H' Q)
    (hd : ∀ H', Same H1 H' → H' D = some (.lst ((ns.filter f).map V.int)) → Qd H') :
    ∃ W : Nat → Nat → Hp → Prop, (∃ m, W 0 m (upd H1 D (.lst []))) ∧ ∀ i m H, W i m H →
      ((Itl K a).stop i H ∧ Qd H) ∨ ((Itl K a).go i H ∧ ∃ Nx : Hp → Prop, (∀ H', Nx H' → ∃ m', m' < m ∧ W (i + 1) m' H') ∧ ∀ x H', (Itl K a).yld i H x H' → gName v x (wipe σ [v]) H' fun σ2 H2 => wipe σ2 [v] = wipe σ [v] ∧ tt σ2 H2 fun b H3 =>
        if b = true then te σ2 H3 fun y H4 => ∃ acc, H4 D = some (.lst acc) ∧ acc.length < sizeLine ∧ Nx (upd H4 D (.lst (acc ++ [y]))) else Nx H3) := by
  refine lc_list (K := K) (a := a) (xs := ns.map V.int) (fun i H' => Same H1 H' ∧ H' D = some (.lst (((ns.take i).filter f).map V.int))) ⟨same_upd nD, upd_same⟩ (fun i H' _ p => sqL_same p.1 hT) (fun i x H' hx p => ?_) fun H' p => ?_
  · obtain ⟨k, g, rfl⟩ := map_at hx
    refine ⟨by simp [wipe, List.set_set], htest k (List.mem_of_getElem? g) H' p.1 _ _ fun H2 s2 => ?_⟩
    have s12 := p.1.trans s2
    have e2 := s2 _ _ p.2
    by_cases e : f k = true
    · rw [if_pos e]
      refine hte k H2 _ ⟨_, e2, ?_, fun b o z => ?_, ?_⟩
      · rw [List.length_map]
        exact few1 (Nat.le_trans (List.length_filter_le _ _) (by rw [List.length_take]; omega))
      · rw [upd_ne (ne_of_none z nD)]; exact s12 b o z
      · rw [upd_same, take_filt g, if_pos e, List.map_append]; rfl
    · rw [if_neg e]
      exact ⟨s12, by rw [take_filt g, if_neg e, List.append_nil]; exact e2⟩
  · rw [List.length_map, List.take_of_length_le (Nat.le_refl _)] at p
    exact hd H' p.1 p.2
end
/-! ### x in l, of ints -/
theorem dpL {K : PySem.W.Frag} {H : Hp} {a : Addr} {ns : List Int} (h : SqL K H a (ns.map V.int)) : Dp K H (.ref a) (.list (ns.map PyData.int)) := .lst h (dpInts ns)
theorem shapedLI (ns : List Int) : SeqAt.shaped (.list (ns.map PyData.int)) = true := by
  have h1 : (PyData.list (ns.map PyData.int)).canLay0 = true := by simp only [PyData.canLay0]; exact lay_ints ns
  have h2 : (PyData.list (ns.map PyData.int)).depth ≤ 64 := by simp only [PyData.depth, dep_ints]; omega
  show ((PyData.list (ns.map PyData.int)).canLay0 && decide ((PyData.list (ns.map PyData.int)).depth ≤ 64)) = true
  rw [h1, decide_eq_true h2]; rfl
theorem shapedN (n : Int) : SeqAt.shaped (.int n) = true := by
  show ((PyData.int n).canLay0 && decide ((PyData.int n).depth ≤ 64)) = true
  simp [PyData.canLay0, PyData.depth]
theorem any_int (x : Int) : ∀ ns : List Int, (ns.map PyData.int).any (fun y => PyData.eqv y (.int x)) = decide (x ∈ ns)
  | [] => rfl
  | n :: r => by
    rw [List.map_cons, List.any_cons, any_int x r]
    by_cases e : x = n
    · subst e; simp [PyData.eqv]
    · have e' : ¬ n = x := fun z => e z.symm
      by_cases e2 : x ∈ r <;> simp [PyData.eqv, e, e', e2]
section
variable {X : Cx}
/-- n in t, t a tuple of ints -/
def rInTI (K : PySem.W.Frag) : R2 := fun x y H Q => ∃ (b : Addr) (n : Int) (ns : List Int), x = .int n ∧ y = .ref b ∧ SqT K H b (ns.map V.int) ∧ Q (.bl (decide (n ∈ ns))) H
theorem op_inTI (hu : X.A.units + 65 < cLine) : OpR X (compareOp .In) (rInTI X.K) := by
  intro pins s σ H x y v u Q I rx ry h
  obtain ⟨b, n, ns, rfl, rfl, h2, q⟩ := h
  obtain ⟨as, r1⟩ := Dp.reads I (.int n) (.int n) v (.int n) rx
  obtain ⟨bs, r2⟩ := Dp.reads I (dI ns) (.ref b) u (dpT h2) ry
  refine SeqAt.in_tuple_reads (xs := ns.map PyData.int) r2 r1 (lay_ints ns) (by simp [PyData.canLay0]) ?_ ⟨.bl _, H, I, rfl, ?_⟩
  · have := Nat.min_le_right (PyData.depthAll (ns.map PyData.int)) (PyData.int n).depth
    have e : (PyData.int n).depth = 0 := by simp [PyData.depth]
    omega
  · rw [any_int]; exact q
theorem op_inTIK {K : PySem.W.Frag} (h : X.K = K) (hu : X.A.units + 65 < cLine) : OpR X (compareOp .In) (rInTI K) := h ▸ op_inTI hu
end
end RV
namespace RV
open PySem L2
/-! ### who comes to whom by one step or more -/
inductive Rch (ps : List (List Int)) : Int → Int → Prop where
  | one {i j : Int} : [i, j] ∈ ps → Rch ps i j
  | more {i j k : Int} : Rch ps i j → [j, k] ∈ ps → Rch ps i k
theorem Rch.trans {ps : List (List Int)} {i j k : Int} (h : Rch ps i j) (g : Rch ps j k) : Rch ps i k := by
  induction g with
  | one e => exact .more h e
  | more _ e ih => exact .more ih e
theorem Rch.bound {ps : List (List Int)} {n : Int} (hb : ∀ p ∈ ps, Pr n p) {i j : Int} (h : Rch ps i j) : (0 ≤ i ∧ i < n) ∧ (0 ≤ j ∧ j < n) := by
  induction h with
  | one e =>
    obtain ⟨x, y, e2, hx, hy⟩ := hb _ e
    injection e2 with e3 e4
    injection e4 with e4 _
    subst e3 e4
    exact ⟨hx, hy⟩
  | more _ e ih =>
    obtain ⟨x, y, e2, hx, hy⟩ := hb _ e
    injection e2 with e3 e4
    injection e4 with e4 _
    subst e3 e4
    exact ⟨ih.1, hy⟩
/-- a lot that holds all right behind m and is closed -/
theorem rch_closed {ps : List (List Int)} {m : Int} {fs : List Int} (h1 : ∀ j, [m, j] ∈ ps → j ∈ fs) (h2 : ∀ x ∈ fs, ∀ j, [x, j] ∈ ps → j ∈ fs) {j : Int} (h : Rch ps m j) : j ∈ fs := by
  induction h with
  | one e => exact h1 _ e
  | more _ e ih => exact h2 _ ih _ e
noncomputable def rB (ps : List (List Int)) (i j : Int) : Bool := @decide (Rch ps i j) (Classical.propDecidable _)
theorem rB_iff {ps : List (List Int)} {i j : Int} : rB ps i j = true ↔ Rch ps i j := by
  unfold rB
  exact @decide_eq_true_iff _ (Classical.propDecidable _)
/-! ### numbers below n -/
def upN (n : Nat) : List Int := (List.range n).map fun (i : Nat) => (i : Int)
theorem upN_get {n k : Nat} (h : k < n) : (upN n)[k]? = some (k : Int) := by
  unfold upN
  rw [List.getElem?_map, List.getElem?_range h]; rfl
theorem upN_len (n : Nat) : (upN n).length = n := by unfold upN; rw [List.length_map, List.length_range]
theorem mem_upN {n : Nat} {x : Int} : x ∈ upN n ↔ 0 ≤ x ∧ x < (n : Int) := by
  unfold upN
  rw [List.mem_map]
  constructor
  · rintro ⟨k, hk, rfl⟩
    have := List.mem_range.mp hk
    omega
  · rintro ⟨h0, h1⟩
    exact ⟨x.toNat, List.mem_range.mpr (by omega), by omega⟩
theorem upN_rise (n : Nat) : (upN n).Pairwise (· < ·) := by
  unfold upN
  rw [List.pairwise_map]
  exact List.Pairwise.imp (fun {a b} (h : a < b) => by omega) List.pairwise_lt_range
/-! ### the lot of a mark -/
noncomputable def lotOf (ps : List (List Int)) (n : Nat) (m : Int) : List Int := (upN n).filter fun j => rB ps m j && rB ps j m
theorem mem_lot {ps : List (List Int)} {n : Nat} {m j : Int} : j ∈ lotOf ps n m ↔ (0 ≤ j ∧ j < (n : Int)) ∧ Rch ps m j ∧ Rch ps j m := by
  unfold lotOf
  rw [List.mem_filter, mem_upN, Bool.and_eq_true, rB_iff, rB_iff]
theorem lot_rise (ps : List (List Int)) (n : Nat) (m : Int) : (lotOf ps n m).Pairwise (· < ·) := (upN_rise n).filter _
theorem lot_len (ps : List (List Int)) (n : Nat) (m : Int) : (lotOf ps n m).length ≤ n := by
  have := List.length_filter_le (fun j => rB ps m j && rB ps j m) (upN n)
  rw [upN_len] at this
  exact this
theorem lot_eq {ps : List (List Int)} {n : Nat} {m j : Int} (h : j ∈ lotOf ps n m) : lotOf ps n j = lotOf ps n m := by
  obtain ⟨_, h1, h2⟩ := mem_lot.mp h
  unfold lotOf
  refine List.filter_congr fun x _ => ?_
  rw [Bool.eq_iff_iff, Bool.and_eq_true, Bool.and_eq_true, rB_iff, rB_iff, rB_iff, rB_iff]
  exact ⟨fun ⟨a, b⟩ => ⟨h1.trans a, b.trans h2⟩, fun ⟨a, b⟩ => ⟨h2.trans a, b.trans h1⟩⟩
theorem lot_self {ps : List (List Int)} {n : Nat} {m : Int} (hm : 0 ≤ m ∧ m < (n : Int)) (h : Rch ps m m) : m ∈ lotOf ps n m := mem_lot.mpr ⟨hm, h, h⟩
theorem lot_none {ps : List (List Int)} {n : Nat} {m : Int} (h : ¬ Rch ps m m) : lotOf ps n m = [] := by
  refine List.eq_nil_iff_forall_not_mem.mpr fun j hj => ?_
  obtain ⟨_, h1, h2⟩ := mem_lot.mp hj
  exact h (h1.trans h2)
theorem lot_some {ps : List (List Int)} {n : Nat} {m j : Int} (h : j ∈ lotOf ps n m) : Rch ps m m := by
  obtain ⟨_, h1, h2⟩ := mem_lot.mp h
  exact h1.trans h2
/-! ### the parts -/
noncomputable def isHead (ps : List (List Int)) (n : Nat) (m : Int) : Bool := decide ((lotOf ps n m).head? = some m)
noncomputable def partsOf (ps : List (List Int)) (n : Nat) : List (List Int) := ((upN n).filter (isHead ps n)).map (lotOf ps n)
theorem mem_parts {ps : List (List Int)} {n : Nat} {p : List Int} : p ∈ partsOf ps n ↔ ∃ m : Int, (0 ≤ m ∧ m < (n : Int)) ∧ (lotOf ps n m).head? = some m ∧ p = lotOf ps n m := by
  unfold partsOf isHead
  rw [List.mem_map]
  constructor
  · rintro ⟨m, hm, rfl⟩
    obtain ⟨h1, h2⟩ := List.mem_filter.mp hm
    exact ⟨m, mem_upN.mp h1, of_decide_eq_true h2, rfl⟩
  · rintro ⟨m, h1, h2, rfl⟩
    exact ⟨m, List.mem_filter.mpr ⟨mem_upN.mpr h1, decide_eq_true h2⟩, rfl⟩
theorem lot_part {ps : List (List Int)} {n : Nat} {m j : Int} (h : j ∈ lotOf ps n m) : lotOf ps n m ∈ partsOf ps n := by
  cases e : lotOf ps n m with
  | nil => rw [e] at h; cases h
  | cons x r =>
    have hx : x ∈ lotOf ps n m := by rw [e]; exact List.mem_cons_self ..
    have ex := lot_eq hx
    refine mem_parts.mpr ⟨x, (mem_lot.mp hx).1, ?_, ?_⟩
    · rw [ex, e]; rfl
    · rw [ex, e]
theorem part_ne {ps : List (List Int)} {n : Nat} {p : List Int} (h : p ∈ partsOf ps n) : p ≠ [] := by
  obtain ⟨m, _, h2, rfl⟩ := mem_parts.mp h
  intro e
  rw [e] at h2; cases h2
theorem part_lot {ps : List (List Int)} {n : Nat} {p : List Int} {x : Int} (h : p ∈ partsOf ps n) (hx : x ∈ p) : lotOf ps n x = p := by
  obtain ⟨m, _, _, rfl⟩ := mem_parts.mp h
  exact lot_eq hx
def hd0 (l : List Int) : Int := l.headD 0
theorem parts_rise (ps : List (List Int)) (n : Nat) : (partsOf ps n).Pairwise fun p q => hd0 p < hd0 q := by
  unfold partsOf
  rw [List.pairwise_map]
  refine List.Pairwise.imp_of_mem (fun {a b} ha hb (h : a < b) => ?_) ((upN_rise n).filter _)
  have ea : (lotOf ps n a).head? = some a := of_decide_eq_true (List.mem_filter.mp ha).2
  have eb : (lotOf ps n b).head? = some b := of_decide_eq_true (List.mem_filter.mp hb).2
  unfold hd0
  rw [List.headD_eq_head?_getD, List.headD_eq_head?_getD, ea, eb]
  exact h
theorem parts_nodup (ps : List (List Int)) (n : Nat) : (partsOf ps n).Nodup := (parts_rise ps n).imp fun {a b} h e => by rw [e] at h; omega
theorem parts_len (ps : List (List Int)) (n : Nat) : (partsOf ps n).length ≤ n := by
  unfold partsOf
  rw [List.length_map]
  have := List.length_filter_le (isHead ps n) (upN n)
  rw [upN_len] at this
  exact this
/-- of two lots unlike heads tell which is ahead -/
theorem part_hd {ps : List (List Int)} {n : Nat} {p q : List Int} (hp : p ∈ partsOf ps n) (hq : q ∈ partsOf ps n) (h : hd0 p = hd0 q) : p = q := by
  obtain ⟨a, _, ea, rfl⟩ := mem_parts.mp hp
  obtain ⟨b, _, eb, rfl⟩ := mem_parts.mp hq
  unfold hd0 at h
  rw [List.headD_eq_head?_getD, List.headD_eq_head?_getD, ea, eb] at h
  have h' : a = b := h
  rw [h']
/-! ### the table that is gone on with, mark by mark -/
def Wsh (ps : List (List Int)) : Nat → Int → Int → Prop
  | 0, i, j => [i, j] ∈ ps
  | k + 1, i, j => Wsh ps k i j ∨ (Wsh ps k i (k : Int) ∧ Wsh ps k (k : Int) j)
theorem Wsh.up {ps : List (List Int)} {i j : Int} (h : [i, j] ∈ ps) : ∀ k, Wsh ps k i j
  | 0 => h
  | k + 1 => .inl (Wsh.up h k)
theorem Wsh.rch {ps : List (List Int)} : ∀ {k : Nat} {i j : Int}, Wsh ps k i j → Rch ps i j
  | 0, _, _, h => .one h
  | k + 1, _, _, .inl h => Wsh.rch h
  | k + 1, _, _, .inr h => (Wsh.rch h.1).trans (Wsh.rch h.2)
theorem Wsh.amid {ps : List (List Int)} : ∀ (k : Nat) (m : Nat) (i j : Int), m < k → Wsh ps k i (m : Int) → Wsh ps k (m : Int) j → Wsh ps k i j
  | 0, _, _, _, h, _, _ => absurd h (Nat.not_lt_zero _)
  | k + 1, m, i, j, h, h1, h2 => by
    by_cases e : m = k
    · subst e
      have a1 : Wsh ps m i (m : Int) := h1.elim id fun z => z.1
      have a2 : Wsh ps m (m : Int) j := h2.elim id fun z => z.2
      exact .inr ⟨a1, a2⟩
    · have hm : m < k := by omega
      have T := fun i j => Wsh.amid (ps := ps) k m i j hm
      rcases h1 with h1 | ⟨p1, p2⟩
      · rcases h2 with h2 | ⟨q1, q2⟩
        · exact .inl (T _ _ h1 h2)
        · exact .inr ⟨T _ _ h1 q1, q2⟩
      · rcases h2 with h2 | ⟨q1, q2⟩
        · exact .inr ⟨p1, T _ _ p2 h2⟩
        · exact .inr ⟨p1, q2⟩
theorem rch_wsh {ps : List (List Int)} {n : Nat} (hb : ∀ p ∈ ps, Pr (n : Int) p) {i j : Int} (h : Rch ps i j) : Wsh ps n i j := by
  induction h with
  | one e => exact Wsh.up e n
  | @more j k _ e ih =>
    have b := (Rch.bound hb (.one e)).1
    have ej : j = ((j.toNat : Nat) : Int) := by omega
    rw [ej] at ih e
    exact Wsh.amid n j.toNat _ _ (by omega) ih (Wsh.up e n)
end RV
set_option maxHeartbeats 4000000
namespace RV
open PySem PySem.Spec PyProof.Rows L2
section
variable {K : PySem.W.Frag} {tt : TT} {te : TE} {f : Int → Bool} {σ : L2.St} {H1 : Hp} {D : Addr} {v n : Nat} {Qd : Hp → Prop}
/-- [x for x in range(n) if ..] -/
theorem lc_filtR (hl : n ≤ 1000) (nD : H1 D = none)
    (htest : ∀ x : Int, 0 ≤ x → x < (n : Int) → ∀ H', Same H1 H' → ∀ A B : Hp → Prop, (∀ H2, Same H' H2 → if f x = true then A H2 else B H2) → tt ((wipe σ [v]).set v (some (.int x))) H' (fun b H3 => if b = true then A H3 else B H3))
    (hte : ∀ (x : Int) (H' : Hp) (Q : VK), Q (.int x) H' → te ((wipe σ [v]).set v (some (.int x))) H' Q)
    (hd : ∀ H', Same H1 H' → H' D = some (.lst (((upN n).filter f).map V.int)) → Qd H') :
    ∃ W : Nat → Nat → Hp → Prop, (∃ m, W 0 m (upd H1 D (.lst []))) ∧ ∀ i m H, W i m H →
      ((Itr 0 n).stop i H ∧ Qd H) ∨ ((Itr 0 n).go i H ∧ ∃ Nx : Hp → Prop, (∀ H', Nx H' → ∃ m', m' < m ∧ W (i + 1) m' H') ∧ ∀ x H', (Itr 0 n).yld i H x H' → gName v x (wipe σ [v]) H' fun σ2 H2 => wipe σ2 [v] = wipe σ [v] ∧ tt σ2 H2 fun b H3 =>
        if b = true then te σ2 H3 fun y H4 => ∃ acc, H4 D = some (.lst acc) ∧ acc.length < sizeLine ∧ Nx (upd H4 D (.lst (acc ++ [y]))) else Nx H3) := by
  refine lc_range (lo := 0) (n := n) (fun i H' => Same H1 H' ∧ H' D = some (.lst ((((upN n).take i).filter f).map V.int))) ⟨same_upd nD, upd_same⟩ (fun i H' hi p => ?_) fun H' p => ?_
  · have g : (upN n)[i]? = some (i : Int) := upN_get hi
    rw [Int.zero_add]
    refine ⟨by simp [wipe, List.set_set], htest (i : Int) (by omega) (by omega) H' p.1 _ _ fun H2 s2 => ?_⟩
    have s12 := p.1.trans s2
    have e2 := s2 _ _ p.2
    by_cases e : f (i : Int) = true
    · rw [if_pos e]
      refine hte _ H2 _ ⟨_, e2, ?_, fun b o z => ?_, ?_⟩
      · rw [List.length_map]
        exact few1 (Nat.le_trans (List.length_filter_le _ _) (by rw [List.length_take, upN_len]; omega))
      · rw [upd_ne (ne_of_none z nD)]; exact s12 b o z
      · rw [upd_same, take_filt g, if_pos e, List.map_append]; rfl
    · rw [if_neg e]
      exact ⟨s12, by rw [take_filt g, if_neg e, List.append_nil]; exact e2⟩
  · rw [List.take_of_length_le (by rw [upN_len]; exact Nat.le_refl _)] at p
    exact hd H' p.1 p.2
end
end RV
set_option maxHeartbeats 4000000
namespace RV
open PySem PySem.Spec PyProof.Rows L2
def fromN (lo : Int) (n : Nat) : List Int := (List.range n).map fun (i : Nat) => lo + (i : Int)
theorem fromN_get {lo : Int} {n k : Nat} (h : k < n) : (fromN lo n)[k]? = some (lo + (k : Int)) := by
  unfold fromN
  rw [List.getElem?_map, List.getElem?_range h]; rfl
theorem fromN_len (lo : Int) (n : Nat) : (fromN lo n).length = n := by unfold fromN; rw [List.length_map, List.length_range]
theorem mem_fromN {lo : Int} {n : Nat} {x : Int} : x ∈ fromN lo n ↔ lo ≤ x ∧ x < lo + (n : Int) := by
  unfold fromN
  rw [List.mem_map]
  constructor
  · rintro ⟨k, hk, rfl⟩
    have := List.mem_range.mp hk
    omega
  · rintro ⟨h0, h1⟩
    exact ⟨(x - lo).toNat, List.mem_range.mpr (by omega), by omega⟩
theorem pe_weakR {X : Cx} {e : Expr} {t t' : TE} (h : PE X e t) (imp : ∀ σ H Q, t' σ H Q → t σ H Q) : PE X e t' := ⟨fun pins s σ H Q I q => h.run pins s σ H Q I (imp σ H Q q)⟩
section
variable {X : Cx} {K : PySem.W.Frag}
theorem cr_allK (h : X.K = K) (hc : X.calm = true) : CallR X (.builtin "all") (rAll K) := h ▸ cr_all hc
theorem pi_listK {tg l : Expr} {tl : TE} (h : X.K = K) (hl : PE X l tl) : PI X tg l (iList K tl) := h ▸ pi_list hl
theorem pi_tupK {tg l : Expr} {tl : TE} (h : X.K = K) (hl : PE X l tl) : PI X tg l (iTup K tl) := h ▸ pi_tup hl
end
section
variable {K : PySem.W.Frag} {tt : TT} {te : TE} {f : Int → Bool} {h : Int → Int} {σ : L2.St} {H1 : Hp} {D : Addr} {v n : Nat} {lo : Int} {Qd : Hp → Prop}
/-- [h(x) for x in range(lo, ..) if f(x)] -/
theorem lc_mapR (hl : n ≤ 1000) (nD : H1 D = none)
    (htest : ∀ x ∈ fromN lo n, ∀ H', Same H1 H' → ∀ A B : Hp → Prop, (∀ H2, Same H' H2 → if f x = true then A H2 else B H2) → tt ((wipe σ [v]).set v (some (.int x))) H' (fun b H3 => if b = true then A H3 else B H3))
    (hte : ∀ x ∈ fromN lo n, ∀ (H' : Hp) (Q : VK), Same H1 H' → f x = true → (∀ H2, Same H' H2 → Q (.int (h x)) H2) → te ((wipe σ [v]).set v (some (.int x))) H' Q)
    (hd : ∀ H', Same H1 H' → H' D = some (.lst ((((fromN lo n).filter f).map h).map V.int)) → Qd H') :
    ∃ W : Nat → Nat → Hp → Prop, (∃ m, W 0 m (upd H1 D (.lst []))) ∧ ∀ i m H, W i m H →
      ((Itr lo n).stop i H ∧ Qd H) ∨ ((Itr lo n).go i H ∧ ∃ Nx : Hp → Prop, (∀ H', Nx H' → ∃ m', m' < m ∧ W (i + 1) m' H') ∧ ∀ x H', (Itr lo n).yld i H x H' → gName v x (wipe σ [v]) H' fun σ2 H2 => wipe σ2 [v] = wipe σ [v] ∧ tt σ2 H2 fun b H3 =>
        if b = true then te σ2 H3 fun y H4 => ∃ acc, H4 D = some (.lst acc) ∧ acc.length < sizeLine ∧ Nx (upd H4 D (.lst (acc ++ [y]))) else Nx H3) := by
  refine lc_range (lo := lo) (n := n) (fun i H' => Same H1 H' ∧ H' D = some (.lst (((((fromN lo n).take i).filter f).map h).map V.int))) ⟨same_upd nD, upd_same⟩ (fun i H' hi p => ?_) fun H' p => ?_
  · have g : (fromN lo n)[i]? = some (lo + (i : Int)) := fromN_get hi
    have hm := List.mem_of_getElem? g
    refine ⟨by simp [wipe, List.set_set], htest _ hm H' p.1 _ _ fun H2 s2 => ?_⟩
    have s12 := p.1.trans s2
    have e2 := s2 _ _ p.2
    by_cases e : f (lo + (i : Int)) = true
    · rw [if_pos e]
      refine hte _ hm H2 _ s12 e fun H3 s3 => ⟨_, s3 _ _ e2, ?_, fun b o z => ?_, ?_⟩
      · rw [List.length_map, List.length_map]
        exact few1 (Nat.le_trans (List.length_filter_le _ _) (by rw [List.length_take, fromN_len]; omega))
      · rw [upd_ne (ne_of_none z nD)]; exact s3 _ _ (s12 b o z)
      · rw [upd_same, take_filt g, if_pos e, List.map_append, List.map_append]; rfl
    · rw [if_neg e]
      exact ⟨s12, by rw [take_filt g, if_neg e, List.append_nil]; exact e2⟩
  · rw [List.take_of_length_le (by rw [fromN_len]; exact Nat.le_refl _)] at p
    exact hd H' p.1 p.2
end
/-- [c(x) for x in l] of truths, l a list of ints -/
theorem lc_blL {K : PySem.W.Frag} {te : TE} {c : Int → Bool} {σ : L2.St} {H1 : Hp} {a D : Addr} {v : Nat} {ns : List Int} {Qd : Hp → Prop} (hT : SqL K H1 a (ns.map V.int)) (hl : ns.length ≤ 1000) (nD : H1 D = none)
    (hte : ∀ x ∈ ns, ∀ (H' : Hp) (Q : VK), Same H1 H' → Q (.bl (c x)) H' → te ((wipe σ [v]).set v (some (.int x))) H' Q)
    (hd : ∀ H', Same H1 H' → H' D = some (.lst ((ns.map c).map V.bl)) → Qd H') :
    ∃ W : Nat → Nat → Hp → Prop, (∃ m, W 0 m (upd H1 D (.lst []))) ∧ ∀ i m H, W i m H →
      ((Itl K a).stop i H ∧ Qd H) ∨ ((Itl K a).go i H ∧ ∃ Nx : Hp → Prop, (∀ H', Nx H' → ∃ m', m' < m ∧ W (i + 1) m' H') ∧ ∀ x H', (Itl K a).yld i H x H' → gName v x (wipe σ [v]) H' fun σ2 H2 => wipe σ2 [v] = wipe σ [v] ∧ tYes σ2 H2 fun b H3 =>
        if b = true then te σ2 H3 fun y H4 => ∃ acc, H4 D = some (.lst acc) ∧ acc.length < sizeLine ∧ Nx (upd H4 D (.lst (acc ++ [y]))) else Nx H3) := by
  refine lc_list (K := K) (a := a) (xs := ns.map V.int) (fun i H' => Same H1 H' ∧ H' D = some (.lst (((ns.take i).map c).map V.bl))) ⟨same_upd nD, upd_same⟩ (fun i H' _ p => sqL_same p.1 hT) (fun i x H' hx p => ?_) fun H' p => ?_
  · obtain ⟨k, g, rfl⟩ := map_at hx
    refine ⟨by simp [wipe, List.set_set], tt_yes (hte k (List.mem_of_getElem? g) H' _ p.1 ⟨_, p.2, ?_, fun b o z => ?_, ?_⟩)⟩
    · rw [List.length_map, List.length_map, List.length_take]; exact few1 (by omega)
    · rw [upd_ne (ne_of_none z nD)]; exact p.1 b o z
    · rw [upd_same, List.take_add_one, g, List.map_append, List.map_append]; rfl
  · rw [List.length_map, List.take_of_length_le (Nat.le_refl _)] at p
    exact hd H' p.1 p.2
end RV
set_option maxHeartbeats 4000000
namespace RV
open PySem PySem.Spec PyProof.Rows L2
section
variable {X : Cx} {K : PySem.W.Frag}
/-- t + u of any two tuples, wherever the sum stands -/
def rCatW (K : PySem.W.Frag) : R2 := fun x y H Q => ∃ a b xs ys, x = .ref a ∧ y = .ref b ∧ SqT K H a xs ∧ SqT K H b ys ∧ xs.length + ys.length ≤ sizeLine ∧ ∀ (p : Addr) (H' : Hp), Same H H' → SqT K H' p (xs ++ ys) → Q (.ref p) H'
theorem op_catW : OpR X (binaryOp .Add) (rCatW X.K) := by
  intro pins s σ H x y v u Q I rx ry h
  obtain ⟨a, b, xs, ys, e1, e2, h1, h2, hl, q⟩ := h
  refine op_catA pins s σ H x y v u Q I rx ry ⟨a, b, xs, ys, e1, e2, h1, h2, hl, fun z => ?_, fun _ z => ?_, fun _ _ p np => ?_⟩
  · exact q b H (fun _ _ e => e) (by rw [z]; exact h2)
  · exact q a H (fun _ _ e => e) (by rw [z, List.append_nil]; exact h1)
  · exact q p _ (same_upd np) (tupNew upd_same)
theorem op_catWK (h : X.K = K) : OpR X (binaryOp .Add) (rCatW K) := h ▸ op_catW
/-- t[lo:hi], wherever the slice stands -/
def rSlW (K : PySem.W.Frag) : V → Option Int → Option Int → Hp → VK → Prop := fun x lo hi H Q => ∃ a xs, x = .ref a ∧ SqT K H a xs ∧ ∀ (p : Addr) (H' : Hp), Same H H' → SqT K H' p (cutV xs lo hi) → Q (.ref p) H'
theorem sl_tupW : SlR X (rSlW X.K) := by
  intro pins s σ H x v vl vu lo hi sl Q I rx hs pl pu h
  obtain ⟨a, xs, e, h1, q⟩ := h
  refine sl_tupA pins s σ H x v vl vu lo hi sl Q I rx hs pl pu ⟨a, xs, e, h1, fun z => ?_, fun _ p np => ?_⟩
  · refine q a H (fun _ _ e => e) ?_
    unfold cutV
    rw [z.1, z.2, List.drop_zero, Nat.sub_zero, List.take_of_length_le (Nat.le_refl _)]
    exact h1
  · exact q p _ (same_upd np) (tupNew upd_same)
theorem sl_tupWK (h : X.K = K) : SlR X (rSlW K) := h ▸ sl_tupW
theorem cut_from (xs : List V) (k : Nat) : cutV xs (some (k : Int)) none = xs.drop k := by
  unfold cutV
  rw [HT.sIx_nat, HT.sIx_none]
  rcases Nat.le_total k xs.length with h | h
  · rw [Nat.min_eq_left h, List.take_of_length_le (by rw [List.length_drop]; exact Nat.le_refl _)]
  · rw [Nat.min_eq_right h, Nat.sub_self, List.take_zero, List.drop_eq_nil_of_le h]
theorem cut_to (xs : List V) (k : Nat) : cutV xs none (some (k : Int)) = xs.take k := by
  unfold cutV
  rw [HT.sIx_nat, HT.sIx_none, List.drop_zero, Nat.sub_zero]
  rcases Nat.le_total k xs.length with h | h
  · rw [Nat.min_eq_left h]
  · rw [Nat.min_eq_right h, List.take_of_length_le (Nat.le_refl _), List.take_of_length_le h]
theorem tuple_mul1 (l : Addr) (items : Array Value) (n : Nat) (dd : Option Addr) (sl : Array (Option Value)) (x : Int) (u : Tok) (c0 : (decide (x < -(2 ^ 63)) || decide (x ≥ 2 ^ 63)) = false) (c1 : (items.isEmpty || x == 1) = true) :
    Meets (Builtin.«tuple.__mul__» ⟨[.ref l, .int x u], []⟩) (fun _ R s => s.heap.get? l = some { cls := .type "tuple", dict := dd, data := .seq items n, slots := sl } ∧ R (.ok (.ret (Value.ref l))) s) :=
  .of_wp fun prog w A R s h => by
    obtain ⟨hp, g, d, tk, os⟩ := s
    obtain ⟨hl, h⟩ := h
    have f1 := AutoSeq1.idx_int
    wp_walk using wpAny_loadPart' hl
    repeat (first
      | (refine wpAny_ite_false (decide_eq_false (by rw [c0]; exact Bool.false_ne_true)) ?_; wp_walk using wpAny_loadPart' hl)
      | (refine wpAny_ite_true (decide_eq_true (by rw [c1])) ?_; wp_walk using wpAny_loadPart' hl))
    exact ⟨_, rfl, h⟩
theorem tuple_mul0 (l : Addr) (items : Array Value) (n : Nat) (dd : Option Addr) (sl : Array (Option Value)) (x : Int) (u : Tok) (c0 : (decide (x < -(2 ^ 63)) || decide (x ≥ 2 ^ 63)) = false) (c1 : (items.isEmpty || x == 1) = false) (c2 : (decide (x ≤ 0) || items.isEmpty) = true) :
    Meets (Builtin.«tuple.__mul__» ⟨[.ref l, .int x u], []⟩) (fun _ R s => s.heap.get? l = some { cls := .type "tuple", dict := dd, data := .seq items n, slots := sl } ∧ R (.ok (.ret (Value.ref s.heap.objs.size))) { s with heap := s.heap.push { cls := Value.type "tuple", data := Data.seq #[] }, toks := s.toks }) :=
  .of_wp fun prog w A R s h => by
    obtain ⟨hp, g, d, tk, os⟩ := s
    obtain ⟨hl, h⟩ := h
    have f1 := AutoSeq1.idx_int
    wp_walk using wpAny_loadPart' hl
    repeat (first
      | (refine wpAny_ite_false (decide_eq_false (by rw [c0]; exact Bool.false_ne_true)) ?_; wp_walk using wpAny_loadPart' hl)
      | (refine wpAny_ite_false (decide_eq_false (by rw [c1]; exact Bool.false_ne_true)) ?_; wp_walk using wpAny_loadPart' hl)
      | (refine wpAny_ite_true (decide_eq_true (by rw [c2])) ?_; wp_walk using wpAny_loadPart' hl))
    exact ⟨_, rfl, h⟩
/-- t * k, k from 0 on -/
def rRepW (K : PySem.W.Frag) : R2 := fun x y H Q => ∃ l k xs, x = .ref l ∧ y = .int k ∧ SqT K H l xs ∧ 0 ≤ k ∧ k ≤ 1000 ∧ xs.length ≤ 1000 ∧ ∀ (p : Addr) (H' : Hp), Same H H' → SqT K H' p (List.replicate k.toNat xs).flatten → Q (.ref p) H'
theorem flat_nil : ∀ m : Nat, (List.replicate m ([] : List V)).flatten = []
  | 0 => rfl
  | m + 1 => by rw [List.replicate_succ, List.flatten_cons, flat_nil m]; rfl
theorem op_repW : OpR X (binaryOp .Mult) (rRepW X.K) := by
  intro pins s σ H x y v u Q I rx ry h
  obtain ⟨l, k, xs, rfl, rfl, hT, h0, h1, hz, q⟩ := h
  by_cases hbig : xs ≠ [] ∧ 2 ≤ k
  · exact op_repT pins s σ H _ _ v u Q I rx ry ⟨l, k, xs, rfl, rfl, hT, hbig.1, hbig.2, h1, hz, fun p np => q p _ (same_upd np) (tupNew upd_same)⟩
  cases rx
  obtain ⟨t, rfl⟩ := ry
  obtain ⟨its, r, ⟨⟨cls, dd, data, sl⟩, ho, hc, n, hd⟩, hs⟩ := I.tuple hT
  simp only at hc hd
  subst hc hd
  have hle : its.length = xs.length := r.length.symm
  have c0 : (decide (k < -(2 ^ 63)) || decide (k ≥ 2 ^ 63)) = false := by
    rw [decide_eq_false (by omega), decide_eq_false (by omega)] <;> rfl
  by_cases e1 : xs = [] ∨ k = 1
  · have c1 : (its.toArray.isEmpty || k == 1) = true := by
      rcases e1 with e | e
      · have : its = [] := List.eq_nil_of_length_eq_zero (by rw [hle, e]; rfl)
        rw [this]; rfl
      · rw [e]; simp
    refine wpAny_binaryOp_repeat_ref (T := "tuple") (U := "int") (by decide) ⟨_, ho, rfl⟩ (fun s' => typeIs_int s' k t) noFill_tuple_mul F.fills_int_mul F.slot_int_rmul repeat_tuple F.slot_int_index.lookup
      (call_meets F.slot_int_rmul (typeIs_int s k t) F.entry_int_rmul (F.args_int_rmul_2 _ _) (int_rmul_tuple k t l its.toArray n dd sl)
        ⟨ho, rfl, ⟨_, ho, rfl⟩, call_meets F.slot_tuple_mul ⟨_, ho, rfl⟩ F.entry_tuple_mul (F.args_tuple_mul_2 _ _) (tuple_mul1 l its.toArray n dd sl k t c0 c1) ⟨ho, ?_⟩⟩)
    refine ⟨.ref l, H, I, rfl, q l H (fun _ _ e => e) ?_⟩
    rcases e1 with e | e
    · subst e; rw [flat_nil]; exact hT
    · subst e
      show SqT X.K H l ([xs].flatten)
      rw [List.flatten_cons, List.flatten_nil, List.append_nil]; exact hT
  · have e2 : xs ≠ [] := fun e => e1 (.inl e)
    have e3 : k = 0 := by
      rcases Int.lt_or_le k 2 with z | z
      · have : k ≠ 1 := fun e => e1 (.inr e)
        omega
      · exact absurd ⟨e2, z⟩ hbig
    have hi : its.toArray.isEmpty = false := by
      cases its with
      | nil => exact absurd (List.eq_nil_of_length_eq_zero hle.symm) e2
      | cons a b => rfl
    have c1 : (its.toArray.isEmpty || k == 1) = false := by
      rw [hi, e3]; rfl
    have c2 : (decide (k ≤ 0) || its.toArray.isEmpty) = true := by
      rw [e3]; rfl
    refine wpAny_binaryOp_repeat_ref (T := "tuple") (U := "int") (by decide) ⟨_, ho, rfl⟩ (fun s' => typeIs_int s' k t) noFill_tuple_mul F.fills_int_mul F.slot_int_rmul repeat_tuple F.slot_int_index.lookup
      (call_meets F.slot_int_rmul (typeIs_int s k t) F.entry_int_rmul (F.args_int_rmul_2 _ _) (int_rmul_tuple k t l its.toArray n dd sl)
        ⟨ho, rfl, ⟨_, ho, rfl⟩, call_meets F.slot_tuple_mul ⟨_, ho, rfl⟩ F.entry_tuple_mul (F.args_tuple_mul_2 _ _) (tuple_mul0 l its.toArray n dd sl k t c0 c1 c2) ⟨ho, ?_⟩⟩)
    refine ⟨.ref s.heap.objs.size, _, I.laid (t' := s.toks) (o := .tup []) (fun b ob q => Heap.get?_push_of_some _ q) (Nat.le_refl _) ?_, rfl, q _ _ (same_upd (I.hok.fresh (Nat.le_refl _))) (by rw [e3]; exact tupNew upd_same)⟩
    exact ⟨Nat.zero_le _, [], .nil, IsTup.new _ _⟩
theorem op_eqI1K (h : X.K = K) (hu : X.A.units + 64 < cLine) : OpR X (compareOp .Eq) (rEqI1 K) := h ▸ op_eqI1 hu
theorem op_repWK (h : X.K = K) : OpR X (binaryOp .Mult) (rRepW K) := h ▸ op_repW
end
/-- [h(x) for x in t], t a tuple of ints -/
theorem lc_mapT {K : PySem.W.Frag} {te : TE} {h : Int → Int} {σ : L2.St} {H1 : Hp} {a D : Addr} {v : Nat} {ns : List Int} {Qd : Hp → Prop} (hT : SqT K H1 a (ns.map V.int)) (hl : ns.length ≤ 1000) (nD : H1 D = none)
    (hte : ∀ x ∈ ns, ∀ (H' : Hp) (Q : VK), Same H1 H' → (∀ H2, Same H' H2 → Q (.int (h x)) H2) → te ((wipe σ [v]).set v (some (.int x))) H' Q)
    (hd : ∀ H', Same H1 H' → H' D = some (.lst ((ns.map h).map V.int)) → Qd H') :
    ∃ W : Nat → Nat → Hp → Prop, (∃ m, W 0 m (upd H1 D (.lst []))) ∧ ∀ i m H, W i m H →
      ((Itt K a).stop i H ∧ Qd H) ∨ ((Itt K a).go i H ∧ ∃ Nx : Hp → Prop, (∀ H', Nx H' → ∃ m', m' < m ∧ W (i + 1) m' H') ∧ ∀ x H', (Itt K a).yld i H x H' → gName v x (wipe σ [v]) H' fun σ2 H2 => wipe σ2 [v] = wipe σ [v] ∧ tYes σ2 H2 fun b H3 =>
        if b = true then te σ2 H3 fun y H4 => ∃ acc, H4 D = some (.lst acc) ∧ acc.length < sizeLine ∧ Nx (upd H4 D (.lst (acc ++ [y]))) else Nx H3) := by
  refine lc_tup (K := K) (a := a) (xs := ns.map V.int) (fun i H' => Same H1 H' ∧ H' D = some (.lst (((ns.take i).map h).map V.int))) ⟨same_upd nD, upd_same⟩ (fun i H' _ p => sqT_same p.1 hT) (fun i x H' hx p => ?_) fun H' p => ?_
  · obtain ⟨k, g, rfl⟩ := map_at hx
    refine ⟨by simp [wipe, List.set_set], tt_yes (hte k (List.mem_of_getElem? g) H' _ p.1 fun H2 s2 => ⟨_, s2 _ _ p.2, ?_, fun b o z => ?_, ?_⟩)⟩
    · rw [List.length_map, List.length_map, List.length_take]; exact few1 (by omega)
    · rw [upd_ne (ne_of_none z nD)]; exact s2 _ _ (p.1 b o z)
    · rw [upd_same, List.take_add_one, g, List.map_append, List.map_append]; rfl
  · rw [List.length_map, List.take_of_length_le (Nat.le_refl _)] at p
    exact hd H' p.1 p.2
end RV
set_option maxHeartbeats 4000000
namespace K2
open PySem PySem.Spec PyProof.Rows L2 RV
theorem inv_list {ns : List Int} : decide (ns.map (fun m => ns.getD m.toNat 0) = rgI 0 (ns.length : Int)) = invB ns := by
  unfold invB
  rw [Bool.eq_iff_iff, decide_eq_true_iff, List.all_eq_true]
  constructor
  · intro e i hi
    have hi := List.mem_range.mp hi
    have z : (ns.map (fun m => ns.getD m.toNat 0))[i]? = (rgI 0 (ns.length : Int))[i]? := by rw [e]
    rw [List.getElem?_map, List.getElem?_eq_getElem hi, rgI_get.mpr ⟨by omega, rfl⟩] at z
    have z : ns.getD ns[i].toNat 0 = 0 + (i : Int) := Option.some.inj z
    have e1 : ns.getD i 0 = ns[i] := by rw [List.getD_eq_getElem?_getD, List.getElem?_eq_getElem hi]; rfl
    rw [decide_eq_true_iff, e1]
    omega
  · intro h
    refine List.ext_getElem? fun i => ?_
    by_cases hi : i < ns.length
    · have z := of_decide_eq_true (h i (List.mem_range.mpr hi))
      have e : ns.getD i 0 = ns[i] := by rw [List.getD_eq_getElem?_getD, List.getElem?_eq_getElem hi]; rfl
      rw [e] at z
      rw [List.getElem?_map, List.getElem?_eq_getElem hi, rgI_get.mpr ⟨by omega, rfl⟩]
      show some (ns.getD ns[i].toNat 0) = _
      rw [z, Int.zero_add]
    · rw [List.getElem?_eq_none (by rw [List.length_map]; omega), List.getElem?_eq_none (by rw [rgI_len]; omega)]
section
variable {P : Program} {w : World} {K : PySem.W.Frag} {mg : Str → Option Value} {base : Heap}
/-! ### _law_is_mark -/
theorem scLIM : FnScope ["_law_thing", "_law_many"] ["_law_thing", "_law_many"] (defScope sLIsMark) := ⟨rfl, rfl, rfl, by decide +kernel, rfl, by decide +kernel, by decide +kernel⟩
theorem ok_lim {f : Addr} {fd : FuncData} (F : Fun K "_law_is_mark" "_law_is_mark" sLIsMark f fd) (B : Bare mg) : FnOk P w K mg base CX0 1 f fd ["_law_thing", "_law_many"] (spBelowD K) := by
  refine F.ok scLIM (fun vs H Q E h => ?_) (fun cdv A outer s H vs Q E hr h => ?_)
  · obtain ⟨v, d, n, rfl, _⟩ := h
    rfl
  · obtain ⟨v, d, n, rfl, hd, q⟩ := h
    refine ⟨_, pss_one (ps_ret (pe_and (pe_callB call_isi (by rfl) B.isinstance (by decide +kernel) (pa_cons (pv 0) (pa_cons (pe_bltn (v := .ty "int") (by rfl) B.int boot_int rfl) pa_nil)))
      (pe_and (pe_not (pe_callB call_isi (by rfl) B.isinstance (by decide +kernel) (pa_cons (pv 0) (pa_cons (pe_bltn (v := .ty "bool") (by rfl) B.bool (by decide +kernel) rfl) pa_nil))))
      (pe_one (pe_chain op_le op_lt pe_int (pv 0) (pv 1)))))), ?_⟩
    refine ⟨v, rfl, v, .ty "int", _, _, _, rfl, .ty "int", tyQ hd, kit_D (.inl rfl), _, rfl, ?_⟩
    rw [isi_int]
    cases d with
    | int i =>
      refine iteT ⟨v, rfl, v, .ty "bool", _, _, _, rfl, .ty "bool", tyQ hd, kit_D (.inr (.inl rfl)), _, rfl, _, rfl, ?_⟩
      rw [isi_bool]
      cases hd
      refine iteT ⟨.int i, rfl, 0, i, rfl, rfl, _, rfl, ite2 (fun h0 => ?_) (fun h0 => ?_)⟩
      · refine ⟨.int n, rfl, i, n, rfl, rfl, ?_⟩
        have z : belowD n (.int i) = decide (i < n) := by show (decide (0 ≤ i) && decide (i < n)) = _; rw [h0, Bool.true_and]
        rw [z] at q
        exact q
      · have z : belowD n (.int i) = false := by show (decide (0 ≤ i) && decide (i < n)) = _; rw [Bool.eq_false_iff.mpr h0, Bool.false_and]
        rw [z] at q
        exact q
    | bool b =>
      refine iteT ⟨v, rfl, v, .ty "bool", _, _, _, rfl, .ty "bool", tyQ hd, kit_D (.inr (.inl rfl)), _, rfl, _, rfl, ?_⟩
      rw [isi_bool]
      exact iteF q
    | none => exact iteF q
    | str x => exact iteF q
    | list ds => exact iteF q
    | tuple ds => exact iteF q
    | dict ds => exact iteF q
/-! ### _law_mirrors_right -/
abbrev nMR : List Str := ["_law_thing", "_law_mark"]
theorem scMR : FnScope nMR ["_law_thing"] (defScope sMirR) := ⟨rfl, rfl, rfl, by decide +kernel, rfl, by decide +kernel, by decide +kernel⟩
theorem ok_mr {f fM : Addr} {fd fdM : FuncData} (F : Fun K "_law_mirrors_right" "_law_mirrors_right" sMirR f fd) (DM : DefAt K mg "_law_is_mark" sLIsMark ["_law_thing", "_law_many"] fM fdM) (B : Bare mg) : FnOk P w K mg base CX0 2 f fd ["_law_thing"] (spMirA K) := by
  have GM : FnOk P w K mg base CX0 1 fM fdM ["_law_thing", "_law_many"] (spBelowD K) := ok_lim DM.fn B
  refine F.ok scMR (fun vs H Q E h => ?_) (fun cdv A outer s H vs Q E hr h => ?_)
  · obtain ⟨v, d, rfl, _⟩ := h
    rfl
  · obtain ⟨v, d, rfl, hd, hb, q⟩ := h
    refine ⟨_, pss_cons (ps_if (PW.pt (pw_or (pt_not (pt_val (pe_callB call_isi (by rfl) B.isinstance (by decide +kernel) (pa_cons (pv 0) (pa_cons (pe_bltn (v := .ty "tuple") (by rfl) B.tuple (by decide +kernel) rfl) pa_nil)))))
        (pw_or1 (pt_not (pt_chain op_le op_le pe_int (pe_callB call_len_seq (by rfl) B.len PySem.boot_len (pa_cons (pv 0) pa_nil)) pe_int))))) (pss_one (ps_ret pe_bl)) pss_nil)
      (pss_cons (ps_if (pt_not (pt_val (pe_callB (cr_all rfl) (by rfl) B.all (by decide +kernel) (pa_cons
        (pe_lc (own := [("_law_mark", 1)]) (g := gName 1) (tt := tYes) rfl scMR.nd (pi_tup (pv 0)) (blkOk_by (N := nMR) (sc := defScope sMirR) (by decide +kernel)) (fun _ _ _ _ _ => pg_name (i := 1) scMR.nd rfl (Or.inl rfl)) (fun _ _ _ _ _ => pts_nil)
          (fun _ _ _ _ _ => pe_call GM hr (by rfl) DM.mg DM.fn.kp DM.bi .nil pass0 (pa_cons (pv 1) (pa_cons (pe_callB (call_lenK (K := K) rfl) (by rfl) B.len PySem.boot_len (pa_cons (pv 0) pa_nil)) pa_nil)))) pa_nil)))) (pss_one (ps_ret pe_bl)) pss_nil)
      (pss_one (ps_ret (pe_cmpR (op_eqD hr.units)
        (pe_lc (own := [("_law_mark", 1)]) (g := gName 1) (tt := tYes) rfl scMR.nd (pi_tup (pv 0)) (blkOk_by (N := nMR) (sc := defScope sMirR) (by decide +kernel)) (fun _ _ _ _ _ => pg_name (i := 1) scMR.nd rfl (Or.inl rfl)) (fun _ _ _ _ _ => pts_nil)
          (fun _ _ _ _ _ => pe_ix (ix_tupK (K := K) rfl) (pv 0) (pv 1) (fun _ _ => rfl)))
        (pe_listRg rfl (by rfl) B.list (prg_1 (by rfl) B.range (pe_callB call_len_seq (by rfl) B.len PySem.boot_len (pa_cons (pv 0) pa_nil)))) (nomark _))))), ?_⟩
    have no : mirD d = false → ∀ H', Same H H' → Q (.bl false) H' := fun e H' s' => by
      have z := q H' s'
      rw [e] at z
      exact z
    refine ⟨v, rfl, v, .ty "tuple", _, _, _, rfl, .ty "tuple", tyQ hd, kit_D (.inr (.inr (.inl rfl))), _, rfl, ?_⟩
    rw [isi_tup]
    cases hd with
    | tup hT hA =>
      rename_i a xs ds
      have hl := DqAll.len hA
      have hb' : PyData.bulkAll ds ≤ 1000 := by simpa only [PyData.bulk] using hb
      have hl2 : ds.length ≤ 1000 := Nat.le_trans (bulk_len ds) hb'
      refine iteF ?_
      refine ⟨.ref a, rfl, a, _, rfl, .inr hT, 1, _, rfl, rfl, _, rfl, ?_⟩
      have hn : (xs.length : Int) = (ds.length : Int) := by rw [hl]
      rw [hn]
      refine ite2 (fun h1 => ?_) (fun h1 => ?_)
      rotate_left
      · refine ⟨_, rfl, iteT (no ?_ H (Same.refl H))⟩
        have h0 : ds.length = 0 := by
          have z : ¬ ((1 : Int) ≤ (ds.length : Int)) := fun z => h1 (decide_eq_true z)
          omega
        show (_ && ((decide (0 < ds.length) && _) && _)) = false
        rw [decide_eq_false (show ¬ 0 < ds.length by omega), Bool.false_and, Bool.false_and, Bool.and_false]
      have h1 := of_decide_eq_true h1
      refine ⟨_, _, rfl, rfl, _, rfl, ?_⟩
      by_cases h8 : ds.length ≤ 8
      rotate_left
      · rw [decide_eq_false (show ¬ ((ds.length : Int) ≤ 8) by omega)]
        exact iteT (no (by show (decide (ds.length ≤ 8) && _) = false; rw [decide_eq_false h8, Bool.false_and]) H (Same.refl H))
      rw [decide_eq_true (show ((ds.length : Int) ≤ 8) by omega)]
      refine iteF ?_
      refine ⟨.ref a, rfl, a, rfl, ⟨_, hT⟩, fun D nD => ?_⟩
      refine lc_tup (K := K) (a := a) (xs := xs) (fun i H' => Same H H' ∧ H' D = some (.lst (((ds.take i).map (belowD (ds.length : Int))).map V.bl))) ⟨same_upd nD, upd_same⟩ (fun i H' _ p => sqT_same p.1 hT) (fun i x H' hx p => ?_) fun H1 p => ?_
      · obtain ⟨e, ge, he⟩ := DqAll.at hA hx
        have hi : i < ds.length := (List.getElem?_eq_some_iff.mp ge).1
        refine ⟨rfl, tt_yes ⟨x, rfl, .ref a, rfl, a, _, rfl, .inr (sqT_same p.1 hT), x, e, (ds.length : Int), by rw [hl]; rfl, Dq.same p.1 he, _, p.2, ?_, ?_, ?_⟩⟩
        · rw [List.length_map, List.length_map, List.length_take]; exact few1 (by omega)
        · exact fun c o z => by rw [upd_ne (ne_of_none z nD)]; exact p.1 c o z
        · rw [upd_same, List.take_add_one, ge, List.map_append, List.map_append]; rfl
      · rw [hl, List.take_of_length_le (Nat.le_refl _)] at p
        refine ⟨D, _, rfl, lstNew p.2, ?_⟩
        rw [all_id]
        refine ⟨_, rfl, ?_⟩
        have em : marksD (ds.length : Int) (.tuple ds) = ds.all (belowD (ds.length : Int)) := by
          show (decide (0 < ds.length) && _) = _
          rw [decide_eq_true (show 0 < ds.length by omega), Bool.true_and]
        cases hst : ds.all (belowD (ds.length : Int)) with
        | false =>
          refine iteT (no ?_ H1 p.1)
          show (_ && (marksD _ _ && _)) = false
          rw [em, hst, Bool.false_and, Bool.and_false]
        | true =>
        refine iteF ?_
        rw [hst] at em
        obtain ⟨e, ne, bd⟩ := marks_ints em
        have ex : xs = (ds.map RV.intD).map V.int := dq_tupI (a := a) hA e
        have bd : ∀ x ∈ ds.map RV.intD, 0 ≤ x ∧ x < (ds.length : Int) := bd
        have e2 : mirD (.tuple ds) = invB (ds.map RV.intD) := by
          show (decide (ds.length ≤ 8) && (marksD _ _ && _)) = _
          rw [em, decide_eq_true h8, Bool.true_and, Bool.true_and]
        rw [e2] at q
        have ln : (ds.map RV.intD).length = ds.length := List.length_map ..
        rw [ex] at hT
        rw [← ln] at bd
        have s01 := p.1
        generalize ds.map RV.intD = ns at hT bd q ln
        refine ⟨.ref a, rfl, a, rfl, ⟨_, sqT_same s01 hT⟩, fun D2 nD2 => ?_⟩
        refine lc_tup (K := K) (a := a) (xs := ns.map V.int) (fun i H' => Same H1 H' ∧ H' D2 = some (.lst (((ns.take i).map fun m => ns.getD m.toNat 0).map V.int))) ⟨same_upd nD2, upd_same⟩ (fun i H' _ p => sqT_same p.1 (sqT_same s01 hT)) (fun i x H' hx p => ?_) fun H2 p => ?_
        · obtain ⟨m, gm, rfl⟩ := map_at hx
          have bm := bd m (List.mem_of_getElem? gm)
          have hi : i < ns.length := (List.getElem?_eq_some_iff.mp gm).1
          obtain ⟨mm, gmm⟩ : ∃ mm, ns[m.toNat]? = some mm := ⟨_, List.getElem?_eq_getElem (by omega)⟩
          have am : atI (ns.map V.int) m = some (.int mm) := by
            rw [show m = ((m.toNat : Nat) : Int) by omega]; exact atI_nat (by rw [List.getElem?_map, gmm]; rfl)
          refine ⟨rfl, tt_yes ⟨.ref a, rfl, .int m, rfl, a, _, m, .int mm, rfl, rfl, sqT_same p.1 (sqT_same s01 hT), am, _, p.2, ?_, ?_, ?_⟩⟩
          · rw [List.length_map, List.length_map, List.length_take]; exact few1 (by omega)
          · exact fun c o z => by rw [upd_ne (ne_of_none z nD2)]; exact p.1 c o z
          · rw [upd_same, List.take_add_one, gm, List.map_append, List.map_append]
            have z : ns.getD m.toNat 0 = mm := by rw [List.getD_eq_getElem?_getD, gmm]; rfl
            show _ = some (HO.lst (_ ++ [V.int (ns.getD m.toNat 0)]))
            rw [z]
        · rw [List.length_map, List.take_of_length_le (Nat.le_refl _)] at p
          have hT2 := sqT_same (s01.trans p.1) hT
          refine ⟨.ref a, rfl, a, _, rfl, .inr hT2, (ns.length : Int), by rw [List.length_map], RgOk.of_le (by omega) (by omega) (by omega) (by omega), fun b nb => ?_⟩
          have sb := same_upd (o := .lst (rgV 0 (ns.length : Int))) nb
          refine ⟨.list ((ns.map fun m => ns.getD m.toNat 0).map PyData.int), .list ((rgI 0 (ns.length : Int)).map PyData.int), .lst (lstNew (sb _ _ p.2)) (dpInts _), .lst (lstNew (by rw [upd_same, rgV_rgI])) (dpInts _), shapedL _, shapedL _, ?_⟩
          rw [eqvL, inv_list]
          exact q _ ((s01.trans p.1).trans sb)
    | non => exact iteT (no rfl H (Same.refl H))
    | bl b => exact iteT (no rfl H (Same.refl H))
    | int i => exact iteT (no rfl H (Same.refl H))
    | str x => exact iteT (no rfl H (Same.refl H))
    | lst h1 h2 => exact iteT (no rfl H (Same.refl H))
    | dct h1 h2 => exact iteT (no rfl H (Same.refl H))
end
end K2
set_option maxHeartbeats 4000000
/-! sets of up to 64 unlike tuples of ints -/
namespace RV
open PySem PySem.Spec PyProof.Rows L2
/-- the set at a, however many tuples it has -/
structure SetTV (P : Program) (w : World) (h : Heap) (a : Addr) (L : List (Addr × List Int)) (es : Array (Int × Value)) (ep : Nat) (t : SetTable) : Prop where
  ob : ∃ o, h.get? a = some o ∧ o.ExactSet ∧ o.data = .set es ep t
  rows : es.toList = rowsOf P w L
  tab : TabOk t (L.map fun p => thash P w p.2)
  nd : (L.map (·.2)).Nodup
  tup : ∀ p ∈ L, IsT P w h p.2 p.1
  plain : t.plain = true
  led : w.params.followText "set-order" = true ∨ t.led = true
  room : L.length * 5 < t.mask * 3
theorem nth_dum {m : Nat} : ∀ (n : Nat) {p : SetTable.Probe}, p.dummy = none → (nth m p n).dummy = none
  | 0, _, h => h
  | n + 1, p, h => nth_dum n (p := adv m p) (by unfold adv; split <;> exact h)
section
variable {P : Program} {w : World} {A : Around} {E : Value → Shared → Prop} {s : Shared} {a : Addr} {L : List (Addr × List Int)} {es : Array (Int × Value)} {ep : Nat} {t : SetTable}
theorem SetTV.of {h : Heap} (R : SetTR P w h a L es ep t) : SetTV P w h a L es ep t := ⟨R.ob, R.rows, R.tab, R.nd, R.tup, R.plain, R.led, R.room⟩
theorem SetTV.small {h : Heap} (V : SetTV P w h a L es ep t) (few : L.length < 64) : SetTR P w h a L es ep t := ⟨V.ob, V.rows, V.tab, V.nd, V.tup, V.plain, V.led, V.room, few⟩
theorem SetTV.keep {h h' : Heap} (V : SetTV P w h a L es ep t) (ha : ∀ o, h.get? a = some o → h'.get? a = some o) (ht : ∀ p ∈ L, IsT P w h' p.2 p.1) : SetTV P w h' a L es ep t :=
  let ⟨o, ho, r⟩ := V.ob
  ⟨⟨o, ha o ho, r⟩, V.rows, V.tab, V.nd, ht, V.plain, V.led, V.room⟩
theorem SetTV.size {h : Heap} (V : SetTV P w h a L es ep t) : es.size = L.length := by
  have z := congrArg List.length V.rows
  simpa [rowsOf] using z
theorem SetTV.psz {h : Heap} (V : SetTV P w h a L es ep t) : t.place.size = L.length := by
  have z := V.tab.sz
  simpa using z
theorem SetTV.fits {h : Heap} (V : SetTV P w h a L es ep t) : t.fits es.size = true := by
  have h1 := V.psz
  have h3 := V.room
  unfold SetTable.fits SetTable.fill
  rw [V.tab.dm, V.size, h1]
  simp
  omega
theorem SetTV.row {h : Heap} (V : SetTV P w h a L es ep t) {i : Nat} {p : Addr × List Int} (e : L[i]? = some p) : es[i]? = some (thash P w p.2, Value.ref p.1) := by
  have z : es.toList[i]? = some (thash P w p.2, Value.ref p.1) := by
    rw [V.rows]
    unfold rowsOf
    rw [List.getElem?_map, e]; rfl
  rwa [Array.getElem?_toList] at z
/-- one that is there is found -/
theorem seek_from (V : SetTV P w s.heap a L es ep t) {x : Addr} {k : List Int} (hx : IsT P w s.heap k x) (hu : A.units < cLine) {i0 c0 K : Nat} {p0 : Addr × List Int} (g0 : L[i0]? = some p0) (e0 : p0.2 = k)
    (at0 : t.place.toList[i0]? = some (way t.mask (thash P w k) c0)) (lt0 : c0 < K) (hKf : K < 10 * SetTable.turns t.mask) (hK : way t.mask (thash P w k) K ∉ t.place.toList) (hKb : ∀ c, c < K → way t.mask (thash P w k) c ∈ t.place.toList)
    {Q : SetFound → Shared → Prop} (hq : Q (.there none) s) :
    ∀ (f c : Nat) (stand : Option SetTable.Probe), stand.getD (t.probeStart (thash P w k)) = nth t.mask (runAt t.mask (SetTable.bits (thash P w k) % (t.mask + 1)) (SetTable.bits (thash P w k))) c → c ≤ c0 → c0 - c < f →
      wpAny (model P w) A (setSearchFrom a (.ref x) (thash P w k) true f stand) Q E s
  | 0, c, stand, _, _, hf => absurd hf (Nat.not_lt_zero _)
  | f + 1, c, stand, hst, hc, hf => by
    obtain ⟨o, ho, hex, hd⟩ := V.ob
    generalize hh0 : thash P w k = h0 at hst at0 hK hKb ⊢
    generalize hb0 : runAt t.mask (SetTable.bits h0 % (t.mask + 1)) (SetTable.bits h0) = b0 at hst
    have way_eq : ∀ c, (nth t.mask b0 c).j = way t.mask h0 c := fun c => by rw [← hb0] <;> rfl
    have gw : ¬ t.gaveWay = true := by
      unfold SetTable.gaveWay
      rw [mask_odd V.tab.mok]; decide
    have step : ∀ q, nth t.mask (nth t.mask b0 c) q = nth t.mask b0 (c + q) := fun q => (nth_add t.mask c b0 q).symm
    have sj : ∀ q, (nth t.mask (nth t.mask b0 c) q).j = way t.mask h0 (c + q) := fun q => by rw [step, way_eq]
    have hashes : ∀ (i : Nat) (p : Addr × List Int), L[i]? = some p → (fun i => (es[i]?.map (·.1)).getD 0) i = thash P w p.2 := fun i p hp => by
      show (es[i]?.map (·.1)).getD 0 = _
      rw [V.row hp] <;> rfl
    have h00 : (fun i => (es[i]?.map (·.1)).getD 0) i0 = h0 := by rw [hashes i0 p0 g0, e0, hh0]
    have at1 : t.place.toList[i0]? = some (nth t.mask (nth t.mask b0 c) (c0 - c)).j := by
      rw [sj, show c + (c0 - c) = c0 by omega]; exact at0
    rw [setSearchFrom_succ]
    refine wpAny_bind (wpAny_setState_of ho hd V.fits ?_)
    dsimp only
    refine wp_if_neg gw ?_
    try refine wpAny_bind (wpAny_pure ?_)
    rcases go_spec t V.tab.ris V.tab.dm (fun i => (es[i]?.map (·.1)).getD 0) h0 (10 * SetTable.turns t.mask) (K - c) (nth t.mask b0 c) (nth_dum c (by rw [← hb0]; rfl)) (by omega)
      (fun q hq => by rw [sj]; exact hKb _ (by omega)) (by rw [sj, show c + (K - c) = K by omega]; exact hK) with ⟨q, i, hq', hi, hh, hno, hpr⟩ | ⟨hno, _⟩
    · have pr : t.probe (fun i => (es[i]?.map (·.1)).getD 0) h0 (stand.getD (t.probeStart h0)) = some (.candidate (way t.mask h0 (c + q)) i (nth t.mask b0 (c + (q + 1)))) := by
        rw [hst, ← sj, ← step]
        exact hpr
      rw [pr]
      dsimp only
      rw [sj] at hi
      have qle : q ≤ c0 - c := by
        rcases Nat.lt_or_ge (c0 - c) q with z | z
        · exact absurd h00 (hno _ i0 z at1)
        · exact z
      have il : i < L.length := by
        have z := (List.getElem?_eq_some_iff.mp hi).1
        rw [Array.length_toList, V.psz] at z
        exact z
      obtain ⟨p, gp⟩ : ∃ p, L[i]? = some p := ⟨_, List.getElem?_eq_getElem il⟩
      have pT := V.tup p (List.mem_of_getElem? gp)
      have rest : wpAny (model P w) A (searchRest a (.ref x) h0 true f es t (way t.mask h0 (c + q)) i (nth t.mask b0 (c + (q + 1)))) Q E s := by
        unfold searchRest
        rw [V.row gp]
        dsimp only
        refine wpAny_bind (wpAny_holding (wpAny_eqBool_tuple hu pT hx (wpAny_bind (wpAny_setState_of ho hd V.fits ?_))))
        dsimp only
        by_cases same : p.2 = k
        · exact wp_if_pos (by simp [same]) (wpAny_pure hq)
        · refine wp_if_neg (by simp [same]) ?_
          try refine wpAny_bind (wpAny_pure ?_)
          rw [sameMem]
          dsimp only
          have live : t.slot (way t.mask h0 (c + q)) = .live i := slot_live V.tab.ris hi
          simp only [if_true, live, V.row gp]
          refine wpAny_bind (wpAny_isSame_ref_self (wpAny_bind (wpAny_pure ?_)))
          simp only [if_true]
          refine wp_if_neg (by simp [same]) ?_
          have ne : c + q ≠ c0 := fun z => by
            rw [z] at hi live
            have l2 := slot_live V.tab.ris at0
            rw [live] at l2
            injection l2 with l2
            rw [l2, g0] at gp
            exact same (by rw [← Option.some.inj gp]; exact e0)
          subst hh0
          exact seek_from V hx hu g0 e0 at0 lt0 hKf hK hKb hq f (c + (q + 1)) _ (by rw [hb0]; rfl) (by omega) (by omega)
      by_cases hl : t.led = true
      · refine wp_if_neg (by simp [hl]) ?_
        try refine wpAny_bind (wpAny_pure ?_)
        exact rest
      · refine wp_if_pos (by simp [hl]) ?_
        refine wpAny_bind (seen_tup hx (fun y hy => ?_) (wp_if_neg (by decide) ?_))
        · obtain ⟨e, he, rfl⟩ := List.mem_map.mp hy
          have he2 : e ∈ es.toList := by
            have z : e ∈ es ∧ e.1 = h0 := by simpa using he
            exact Array.mem_toList_iff.mpr z.1
          rw [V.rows] at he2
          obtain ⟨p2, hp2, rfl⟩ := List.mem_map.mp he2
          exact ⟨p2.2, p2.1, rfl, V.tup p2 hp2⟩
        · try refine wpAny_bind (wpAny_pure ?_)
          exact rest
    · exact absurd h00 (hno _ i0 (by omega) at1)
theorem seek (V : SetTV P w s.heap a L es ep t) {x : Addr} {k : List Int} (hx : IsT P w s.heap k x) (hu : A.units < cLine) (hk : k ∈ L.map (·.2)) {Q : SetFound → Shared → Prop} (hq : Q (.there none) s) : wpAny (model P w) A (setSearch a (.ref x) (thash P w k) true) Q E s := by
  obtain ⟨p0, hp0, e0⟩ := List.mem_map.mp hk
  obtain ⟨i0, hi0, eg⟩ := List.getElem_of_mem hp0
  have g0 : L[i0]? = some p0 := List.getElem?_eq_some_iff.mpr ⟨hi0, eg⟩
  have rm := V.room
  obtain ⟨K, hKf, hK, hKb⟩ := V.tab.first (by rw [List.length_map]; omega) (thash P w k)
  have gh : (L.map fun p => thash P w p.2)[i0]? = some (thash P w k) := by rw [List.getElem?_map, g0, ← e0]; rfl
  have il : i0 < t.place.toList.length := by rw [Array.length_toList, V.psz]; exact hi0
  obtain ⟨c0, lt0, e1⟩ := V.tab.before hK gh (List.getElem?_eq_getElem il)
  have big : K < 100000 := by
    have z : 10 * SetTable.turns t.mask ≤ 1420 := by
      unfold SetTable.turns
      rcases V.tab.mok with e | e | e <;> omega
    omega
  unfold setSearch
  exact seek_from V hx hu g0 e0 (by rw [List.getElem?_eq_getElem il, e1]) lt0 hKf hK hKb hq 100000 0 none rfl (Nat.zero_le _) (by omega)
/-- adding to it -/
theorem add_v (V : SetTV P w s.heap a L es ep t) {x : Addr} {k : List Int} (hx : IsT P w s.heap k x) (hu : A.units < cLine) (cap : k ∉ L.map (·.2) → L.length < 64) {Q : Bool → Shared → Prop}
    (hQ : ∀ b h' L' es' ep' t', Heap.SameBut a s.heap h' → SetTV P w h' a L' es' ep' t' → (k ∈ L.map (·.2) → L' = L) → (k ∉ L.map (·.2) → L'.Perm ((x, k) :: L)) → Q b { s with heap := h' }) :
    wpAny (model P w) A (setAddHashed a (.ref x) (thash P w k)) Q E s := by
  by_cases little : L.length + 1 < 64
  · exact add_at (V.small (by omega)) hx hu little fun b h' L' es' ep' t' sb R y n => hQ b h' L' es' ep' t' sb (.of R) y n
  obtain ⟨o, ho, hex, hd⟩ := V.ob
  unfold setAddHashed
  refine wpAny_holding ?_
  rw [show (100000 : Nat) = 99999 + 1 from rfl, setAddHashedIn_succ]
  refine wpAny_bind (wpAny_setState_of ho hd V.fits ?_)
  dsimp only
  refine wp_if_neg (by simp [byScan, Value.scannable]) ?_
  try refine wpAny_bind (wpAny_pure ?_)
  by_cases hm : k ∈ L.map (·.2)
  · refine wpAny_bind (seek V hx hu hm ?_)
    dsimp only
    exact wpAny_pure (hQ false s.heap L es ep t (Heap.SameBut.refl a s.heap) V (fun _ => rfl) fun z => absurd hm z)
  have l63 : L.length = 63 := by have := cap hm; omega
  have rm := V.room
  have m127 : t.mask = 127 := by
    rcases V.tab.mok with e | e | e
    · rw [e] at rm; omega
    · rw [e] at rm; omega
    · exact e
  refine wpAny_bind (search_at (V.small (by omega)) hx hu (fun z => absurd z hm) fun K _ hK hb => ?_)
  dsimp only
  refine wpAny_bind (wpAny_setState_of ho hd V.fits ?_)
  dsimp only
  obtain ⟨q1, q2, q3, q4, q5, q6, q7, q8, q9⟩ := V.tab.put hK hb
  have pl1 : (t.put (way t.mask (thash P w k) K)).1.plain = true := q6.trans V.plain
  generalize t.put (way t.mask (thash P w k) K) = pt at q1 q3 q4 q5 q9 pl1 ⊢
  obtain ⟨t1, p⟩ := pt
  dsimp only at q1 q3 q4 q5 q9 pl1 ⊢
  subst q1
  first
    | refine wpAny_bind (wp_if_pos pl1 (hashBy_tup hx ?_))
    | refine wp_if_pos pl1 (wpAny_bind (hashBy_tup hx ?_))
  simp only [if_true]
  generalize SetTable.below t.place (way t.mask (thash P w k) K) = j at q2 q3 ⊢
  have pm := put_perm L j (x, k)
  have rows1 : (SetTable.insertAt es j (thash P w k, Value.ref x)).toList = rowsOf P w (L.take j ++ (x, k) :: L.drop j) := by
    rw [SetTable.toList_insertAt, V.rows, ← rows_put]
  have tab1 : TabOk t1 ((L.take j ++ (x, k) :: L.drop j).map fun p => thash P w p.2) := by
    rw [List.map_append, List.map_cons, List.map_take, List.map_drop]
    exact q3
  generalize hL1 : L.take j ++ (x, k) :: L.drop j = L1 at pm rows1 tab1
  have len1 : L1.length = 64 := by rw [pm.length_eq, List.length_cons, l63]
  have sz1 : (SetTable.insertAt es j (thash P w k, Value.ref x)).size = 64 := by
    have z := congrArg List.length rows1
    unfold rowsOf at z
    rw [Array.length_toList, List.length_map, len1] at z
    exact z
  generalize SetTable.insertAt es j (thash P w k, Value.ref x) = es1 at rows1 sz1 ⊢
  refine wpAny_bind (wpAny_storeSet_of ho hd ?_ (by rw [sz1, sizeLine_eq]; omega))
  have sb : Heap.SameBut a s.heap (s.heap.update a (Obj.putSet es1 t1)) := Heap.SameBut.update ..
  have ho1 := store_at (es' := es1) (t' := t1) ho hd
  generalize s.heap.update a (Obj.putSet es1 t1) = h1 at sb ho1 ⊢
  have notFull : ¬ t1.tooFull = true := fun z => by
    unfold SetTable.tooFull at z
    rw [decide_eq_true_eq, q9, List.length_map, l63, q4, m127] at z
    omega
  have V1 : SetTV P w h1 a L1 es1 (ep + 1) t1 := by
    refine ⟨⟨_, ho1, ⟨hex.1, hex.2.1, hex.2.2⟩, rfl⟩, rows1, tab1, ?_, fun q hq => ?_, pl1, by rw [q5]; exact V.led, by rw [len1, q4, m127]; omega⟩
    · refine (pm.map (·.2)).nodup_iff.mpr ?_
      rw [List.map_cons]
      exact List.nodup_cons.mpr ⟨hm, V.nd⟩
    · rcases List.mem_cons.mp (pm.mem_iff.mp hq) with e | e
      · rw [e]; exact isT_same hx ho hd sb
      · exact isT_same (V.tup q e) ho hd sb
  first
    | refine wp_if_neg (by simp [notFull]) ?_
    | (refine wpAny_bind ?_; refine wp_if_neg (by simp [notFull]) ?_; refine wpAny_pure ?_)
  exact wpAny_pure (hQ true h1 L1 es1 (ep + 1) t1 sb V1 (fun z => absurd z hm) fun _ => pm)
end
/-- at most 64 unlike ones -/
def Cap64 (ks : List (Addr × List Int)) : Prop := ∀ L : List (Addr × List Int), (L.map (·.2)).Nodup → (∀ p ∈ L, p ∈ ks) → L.length ≤ 64
theorem Cap64.more {ks L : List (Addr × List Int)} {p : Addr × List Int} (c : Cap64 ks) (nd : (L.map (·.2)).Nodup) (hL : ∀ q ∈ L, q ∈ ks) (hp : p ∈ ks) (n : p.2 ∉ L.map (·.2)) : L.length < 64 :=
  c (p :: L) (by rw [List.map_cons]; exact List.nodup_cons.mpr ⟨n, nd⟩) fun q hq => by
    rcases List.mem_cons.mp hq with z | z
    · rw [z]; exact hp
    · exact hL q z
section
variable {P : Program} {w : World} {A : Around} {E : Value → Shared → Prop} {s : Shared}
theorem setV_loop {R : Result → Shared → Prop} (hh : A.in1.handled = none) (S l it : Addr) (hSl : S ≠ l) (hSi : S ≠ it) (hli : l ≠ it) (items : Array Value) (ks : List (Addr × List Int)) (few : Cap64 ks)
    (refs : ∀ (i : Nat) (p : Addr × List Int), ks[i]? = some p → items[i]? = some (Value.ref p.1)) (size : items.size = ks.length) (old : Heap) (tups : ∀ p ∈ ks, IsT P w old p.2 p.1) (o1 : old.get? S = none) (o2 : old.get? it = none) (hu : A.in1.units < cLine) :
    ∀ (k i : Nat) (s : Shared), ks.length - i = k → i ≤ ks.length → s.heap.IsListIter it l i → s.heap.IsList l items → (∀ b o, old.get? b = some o → s.heap.get? b = some o) → (∃ L es ep t, SetTV P w s.heap S L es ep t ∧ Got ks i L) →
      (∀ h' tk L es ep t, SetTV P w h' S L es ep t → Got ks ks.length L → (∀ b o, old.get? b = some o → h'.get? b = some o) → R (.ok (.ret .none)) { s with heap := h', toks := tk }) →
      codeAny (model P w) A (.builtin "set.update.loop" ⟨[.ref S, .ref it], []⟩) R s
  | 0, i, s, hk, hi, hit, hl, keep, ⟨L, es, ep, t, hS, got⟩, fin => by
    obtain rfl : i = ks.length := by omega
    refine codeAny_builtin F.entry_set_update_loop ?_
    rw [Around.under_plainId F.plain_set_update_loop _]
    show wpAny _ A.in1 (pyNext (.ref it) >>= _) _ _ s
    refine wpAny_bind (wpAny_pyNext_list_end hh hit hl (by simp [size]) fun h' ext => ?_)
    have keep' : ∀ b o, old.get? b = some o → h'.get? b = some o := fun b o e => ext b o (fun z => by rw [z, o2] at e; cases e) (keep b o e)
    exact wpAny_pure (fin h' s.toks L es ep t (hS.keep (fun o e => ext S o hSi e) fun p hp => isT_keep (tups p (List.mem_of_mem_take (got.sub p hp))) keep') got keep')
  | k + 1, i, s, hk, hi, hit, hl, keep, ⟨L, es, ep, t, hS, got⟩, fin => by
    obtain ⟨p, hp⟩ : ∃ p, ks[i]? = some p := ⟨_, List.getElem?_eq_getElem (by omega)⟩
    refine codeAny_builtin F.entry_set_update_loop ?_
    rw [Around.under_plainId F.plain_set_update_loop _]
    show wpAny _ A.in1 (pyNext (.ref it) >>= _) _ _ s
    refine wpAny_bind (wpAny_pyNext_list_item hit hl (refs i p hp) fun h1 hit1 sb1 => ?_)
    have keep1 : ∀ b o, old.get? b = some o → h1.get? b = some o := fun b o e => (sb1.2 b fun z => by rw [z, o2] at e; cases e).trans (keep b o e)
    have inKs : ∀ q ∈ L, q ∈ ks := fun q hq => List.mem_of_mem_take (got.sub q hq)
    have hS1 : SetTV P w h1 S L es ep t := hS.keep (fun o e => (sb1.2 S hSi).trans e) fun q hq => isT_keep (tups q (inKs q hq)) keep1
    have hT : IsT P w h1 p.2 p.1 := isT_keep (tups p (List.mem_of_getElem? hp)) keep1
    show wpAny _ A.in1 (holding [Value.ref p.1] (setAdd S (.ref p.1)) >>= _) _ _ _
    refine wpAny_bind (wpAny_holding ?_)
    unfold setAdd
    refine wpAny_holding (wpAny_bind (wpAny_pyHash_tuple hu hT ?_))
    refine add_v (s := { s with heap := h1, toks := s.toks + (p.2.length + 1) }) hS1 hT hu (few.more hS1.nd inKs (List.mem_of_getElem? hp)) fun b h2 L2 es2 ep2 t2 sb2 hS2 yes no => ?_
    have got2 : Got ks (i + 1) L2 := by
      by_cases c : p.2 ∈ L.map (·.2)
      · rw [yes c]; exact got.same hp c
      · exact got.more hp (no c)
    have keep2 : ∀ b o, old.get? b = some o → h2.get? b = some o := fun b o e => (sb2.2 b fun z => by rw [z, o1] at e; cases e).trans (keep1 b o e)
    refine wpAny_pure ⟨plainId_quiet F.plain_set_update_loop _, setV_loop hh S l it hSl hSi hli items ks few refs size old tups o1 o2 hu k (i + 1) _ (by omega) (by omega)
      (hit1.at fun o e => (sb2.2 it (Ne.symm hSi)).trans e) ((hl.at fun o e => (sb1.2 l hli).trans e).at fun o e => (sb2.2 l (Ne.symm hSl)).trans e) keep2 ⟨L2, es2, ep2, t2, hS2, got2⟩ fun h' tk L' es' ep' t' z1 z2 z3 => ?_⟩
    exact fin h' tk L' es' ep' t' z1 z2 z3
set_option maxHeartbeats 8000000 in
theorem call_setV {l : Addr} {items : Array Value} (ks : List (Addr × List Int)) {Q : Value → Shared → Prop} (hh : A.handled = none) (hl : s.heap.IsList l items) (refs : items.toList = ks.map fun p => Value.ref p.1)
    (tups : ∀ p ∈ ks, IsT P w s.heap p.2 p.1) (few : Cap64 ks) (hu : A.units + 3 < cLine)
    (k : ∀ (h' : Heap) (tk : Nat) L es ep t, SetTV P w h' s.heap.objs.size L es ep t → Got ks ks.length L → (∀ b o, s.heap.get? b = some o → h'.get? b = some o) → Q (.ref s.heap.objs.size) { s with heap := h', toks := tk }) :
    wpAny (model P w) A (call (.type "set") [.ref l]) Q E s := by
  have size : items.size = ks.length := by simpa using congrArg List.length refs
  have refs' : ∀ (i : Nat) (p : Addr × List Int), ks[i]? = some p → items[i]? = some (Value.ref p.1) := fun i p e => by
    rw [← Array.getElem?_toList, refs, List.getElem?_map, e]; rfl
  obtain ⟨c, tl, hm⟩ := F.called_set.mro
  have a1 := F.called_set.made
  have a2 := F.called_set.sub
  have a3 := F.called_set.notType
  have a4 := F.called_set.canCreate
  have a5 := F.typeCall_set_1 (.ref l)
  refine wpAny_call (codeAny_of_tree ?_)
  show wpAny _ _ (callAny (.type "set") _) _ _ _
  refine wpAny_pure ⟨Code.quiet_builtin _ (by decide +kernel), codeAny_builtin F.entry_type_call ?_⟩
  rw [Around.under_plain (weight_type_call_type "set" [.ref l] []) rfl]
  repeat (any_goals (first | assumption | wp_step))
  refine codeAny_mono (code_set_led1 (.ref l) (E := E) (Q₁ := fun obj s₁ => obj = .ref s.heap.objs.size ∧ s₁ = { s with heap := s.heap.push (noneYet w) }) ⟨rfl, rfl⟩) fun r s₁ hr => ?_
  match r, hr with
  | .error e, hr => exact hr
  | .ok .next, hr => exact hr.elim
  | .ok .brk, hr => exact hr.elim
  | .ok .cont, hr => exact hr.elim
  | .ok (.ret obj), hr =>
    obtain ⟨rfl, rfl⟩ := hr
    have hS : (s.heap.push (noneYet w)).get? s.heap.objs.size = some (noneYet w) := Heap.get?_push_size _ rfl
    have hT : Shared.TypeIs { s with heap := s.heap.push (noneYet w) } (.ref s.heap.objs.size) "set" := ⟨_, hS, rfl⟩
    have b1 := F.called_set.init.lookup
    have b2 := F.called_set.init.bind (.ref s.heap.objs.size)
    repeat (any_goals (first | assumption | wp_step))
    refine codeAny_mono (codeAny_call_builtin (R := wants (fun r s₂ => r = .none ∧ ∃ h' tk L es ep t, s₂ = { s with heap := h', toks := tk } ∧ SetTV P w h' s.heap.objs.size L es ep t ∧ Got ks ks.length L ∧
        (∀ b o, s.heap.get? b = some o → h'.get? b = some o)) E) F.called_set.init.plain F.entry_set_init (check_set_init_1 hT ?_)) fun r₂ s₂ hr₂ => ?_
    · obtain ⟨⟨oc, od, dt, os⟩, g1, g2, nl, g3⟩ := hl
      simp only at g2 g3
      subst g2 g3
      have g4 : (s.heap.push (noneYet w)).get? l = some { cls := .type "list", dict := od, data := .seq items nl, slots := os } := Heap.get?_push_of_some _ g1
      have c1 := F.sub_list_set
      have c2 := F.sub_list_frozenset
      have c3 : (Value.type "list" == Value.type "dict") = false := by decide
      have isl : (s.heap.push (noneYet w)).IsList l items := ⟨_, g4, rfl, nl, rfl⟩
      unfold Builtin.«set.__init__» noKeywords Builtin.Frozenset.updateFrom
      generalize hpi : pyIter = pI
      wp_walk
      subst hpi
      refine wpAny_pyIter_list isl (wpAny_bind (wpAny_runValue ?_))
      have lt : l < s.heap.objs.size := Heap.lt_size g1
      have z1 : (s.heap.push (noneYet w)).objs.size = s.heap.objs.size + 1 := Heap.size_push ..
      have none1 : ∀ b, s.heap.objs.size ≤ b → s.heap.get? b = none := fun b hb => by
        cases q : s.heap.get? b with
        | none => rfl
        | some o => exact absurd (Nat.lt_of_lt_of_le (Heap.lt_size q) hb) (Nat.lt_irrefl _)
      refine setV_loop (A := A.in1.in1) (by simp [hh]) s.heap.objs.size l (s.heap.push (noneYet w)).objs.size (Nat.ne_of_gt lt) (by rw [z1]; exact Nat.ne_of_lt (Nat.lt_succ_self _)) (by rw [z1]; exact Nat.ne_of_lt (Nat.lt_succ_of_lt lt)) items ks few refs' size s.heap tups (none1 _ (Nat.le_refl _)) (none1 _ (by rw [z1]; exact Nat.le_succ _)) hu (ks.length - 0) 0 _ rfl (Nat.zero_le _)
        ⟨_, Heap.get?_push_size _ rfl, rfl, rfl⟩ (isl.push _) (fun b o e => Heap.get?_push_of_some _ (Heap.get?_push_of_some _ e)) ⟨[], #[], 0, _, SetTV.of (setTR_fresh (Heap.get?_push_of_some _ hS)), Got.zero ks⟩ fun h' tk L es ep t q1 q2 q3 => ?_
      show wpAny _ _ _ _ _ _
      refine wpAny_pure ?_
      show wpAny _ _ (ret Value.none) _ _ _
      exact wpAny_pure ⟨rfl, h', tk, L, es, ep, t, rfl, q1, q2, q3⟩
    · match r₂, hr₂ with
      | .error e, hr₂ => exact hr₂
      | .ok .next, hr₂ => exact hr₂.elim
      | .ok .brk, hr₂ => exact hr₂.elim
      | .ok .cont, hr₂ => exact hr₂.elim
      | .ok (.ret r), hr₂ =>
        obtain ⟨rfl, h', tk, L, es, ep, t, rfl, q1, q2, q3⟩ := hr₂
        repeat (any_goals (first | assumption | wp_step))
        exact k _ _ _ _ _ _ q1 q2 q3
end
/-- the set, without the tuples -/
def SetV0 (P : Program) (w : World) (h : Heap) (a : Addr) (L : List (Addr × List Int)) : Prop := ∃ (es : Array (Int × Value)) (ep : Nat) (t : SetTable), (∃ o, h.get? a = some o ∧ o.ExactSet ∧ o.data = .set es ep t) ∧ es.toList = rowsOf P w L ∧ TabOk t (L.map fun p => thash P w p.2) ∧ (L.map (·.2)).Nodup ∧
  t.plain = true ∧ (w.params.followText "set-order" = true ∨ t.led = true) ∧ L.length * 5 < t.mask * 3
def SetVO (P : Program) (w : World) (a : Addr) (L : List (Addr × List Int)) : HO := .ext fun h => SetV0 P w h a L
theorem setVO_new {P : Program} {w : World} {H : Hp} {h : Heap} {a : Addr} {L : List (Addr × List Int)} (V : SetV0 P w h a L) : ObjOk P w H h a (SetVO P w a L) := by
  have ⟨_, _, _, ⟨o, ho, _⟩, _⟩ := V
  exact ⟨V, ⟨o, ho⟩, fun h1 h2 ⟨es, ep, t, ⟨u, hu, r⟩, q⟩ k => ⟨es, ep, t, ⟨u, k u hu, r⟩, q⟩⟩
section
variable {X : Cx}
def rSetV (K : PySem.W.Frag) (P : Program) (w : World) : List V → Hp → VK → Prop := fun xs H Q => ∃ (l : Addr) (ks : List (Addr × List Int)), xs = [V.ref l] ∧ SqL K H l (ks.map fun p => V.ref p.1) ∧ (∀ p ∈ ks, SqT K H p.1 (p.2.map V.int)) ∧ Cap64 ks ∧
  ∀ a L, H a = none → (∀ p ∈ L, p ∈ ks) → (∀ p ∈ ks, p.2 ∈ L.map (·.2)) → (L.map (·.2)).Nodup → Q (.ref a) (upd H a (SetVO P w a L))
theorem cr_setV (hc : X.calm = true) (hu : X.A.units + 64 < cLine) : CallR X (.type "set") (rSetV X.K X.prog X.w) := by
  intro pins s σ H xs us Q I r h
  obtain ⟨l, ks, rfl, hl, hk, few, q⟩ := h
  rw [Vals.ref1 r]
  obtain ⟨its, rv, pl, hz⟩ := I.list hl
  refine call_setV ks (I.ok.hd hc) pl.isList (by simpa using refs_of_vals rv) (fun p hp => I.isT (hk p hp)) few (by omega) fun h' tk L es ep t R g kp => ?_
  refine ⟨.ref s.heap.objs.size, upd H s.heap.objs.size (SetVO X.prog X.w s.heap.objs.size L), I.laid (t' := tk) kp (Nat.le_refl _) (setVO_new ⟨es, ep, t, R.ob, R.rows, R.tab, R.nd, R.plain, R.led, R.room⟩), rfl, ?_⟩
  exact q _ L (I.hok.fresh (Nat.le_refl _)) (fun p hp => List.mem_of_mem_take (g.sub p hp)) (fun p hp => g.all p (by rw [List.take_length]; exact hp)) R.nd
/-- sorted(set), pairs of ints -/
def rSortedV (K : PySem.W.Frag) (P : Program) (w : World) : List V → Hp → VK → Prop := fun xs H Q => ∃ (a : Addr) (L : List (Addr × List Int)), xs = [V.ref a] ∧ H a = some (SetVO P w a L) ∧ (∀ p ∈ L, SqT K H p.1 (p.2.map V.int)) ∧ (∀ p ∈ L, ∃ x y : Int, p.2 = [x, y]) ∧ L.length ≤ 1000 ∧
  ∀ (M : List (Addr × List Int)) (q : Addr), H q = none → M.Perm L → M.Pairwise (fun a b => SrtO.lexB (two b.2) (two a.2) = false) → Q (.ref q) (upd H q (.lst (M.map fun p => V.ref p.1)))
theorem cr_sortedV (hc : X.calm = true) : CallR X (.builtin "sorted") (rSortedV X.K X.prog X.w) := by
  intro pins s σ H xs us Q I r h
  obtain ⟨a, L, rfl, ha, hk, hpr, hz, q⟩ := h
  obtain ⟨es, ep, t, ob, rows, tab, nd, pl, ld, rm⟩ := (show SetV0 X.prog X.w s.heap a L from (I.hok a _ ha).1)
  have W : SetTV X.prog X.w s.heap a L es ep t := ⟨ob, rows, tab, nd, fun p hp => I.isT (hk p hp), pl, ld, rm⟩
  obtain ⟨o, ho, hex, hd⟩ := ob
  have hsz := W.size
  rw [Vals.ref1 r]
  refine Calls.call_function_entry kind_sorted plain_sorted entry_sorted (args_sorted1 _) ?_
  unfold Builtin.«sorted»
  refine wpAny_bind (m := checkCount "sorted" 1 1 _) (wpAny_pure ?_)
  refine wpAny_bind (collect_set (A := X.A.in1) (I.ok.hd hc) ⟨o, ho, hex.1, hd⟩ W.fits (by unfold scanBound; omega) W.tab.ris W.led fun s1 vs k1 sz1 g1 o1 pm => ?_)
  have eL : es.toList.map (·.2) = L.map fun p => Value.ref p.1 := by
    rw [W.rows]
    unfold rowsOf
    rw [List.map_map]; rfl
  rw [eL] at pm
  have lv : vs.length = L.length := by rw [pm.length_eq, List.length_map]
  have ent : ∀ v ∈ vs, ∃ p ∈ L, v = .ref p.1 ∧ p.2 = [(readP s1.heap v).1, (readP s1.heap v).2] ∧ Srt.IsPair s1.heap v (readP s1.heap v).1 (readP s1.heap v).2 := fun v hv => by
    obtain ⟨p, hp, rfl⟩ := List.mem_map.mp (pm.mem_iff.mp hv)
    obtain ⟨x, y, exy⟩ := hpr p hp
    have hT := hk p hp
    rw [exy] at hT
    obtain ⟨its, rv, ⟨u, hu, hcl, n, hdt⟩, _⟩ := I.tuple hT
    obtain ⟨u1, u2, rfl, r1, r2⟩ := vals2 rv
    obtain ⟨t1, rfl⟩ := r1
    obtain ⟨t2, rfl⟩ := r2
    have isP : Srt.IsPair s1.heap (.ref p.1) x y := ⟨p.1, u, t1, t2, n, rfl, k1 _ _ hu, hcl, hdt⟩
    refine ⟨p, hp, rfl, ?_, ?_⟩
    · rw [readP_eq isP]; exact exy
    · rw [readP_eq isP]; exact isP
  refine wpAny_bind (wpAny_newList ?_ (by rw [lv, sizeLine_eq]; omega))
  have hoL : (s1.heap.push (seqObj "list" vs.toArray 0)).get? s1.heap.objs.size = some (seqObj "list" vs.toArray 0) := Heap.get?_push_size _ rfl
  show wpAny _ _ _ _ _ { s1 with heap := s1.heap.push (seqObj "list" vs.toArray 0) }
  refine wpAny_bind (wpAny_holding (wpAny_call_entry slot_list_sort ⟨_, hoL, rfl⟩ entry_list_sort (SrtO.list_sort_ord (s := { s1 with heap := s1.heap.push (seqObj "list" vs.toArray 0) }) (ltv := fun v u => SrtO.lexB (readP s1.heap v) (readP s1.heap u)) (SrtO.swo_lex (readP s1.heap)) hoL
    (by rw [lv, sizeLine_eq]; omega) (fun h2 => ?_) fun out b1 b2 => ⟨_, rfl, ?_⟩) (args_list_sort _)))
  · refine SrtO.pairs_sortableO (k := readP s1.heap) (s := { s1 with heap := s1.heap.push (seqObj "list" vs.toArray 0) }) (by omega) (fun v hm => ?_) fun o e => ?_
    · obtain ⟨_, _, _, _, z⟩ := ent v hm
      exact z.keeps fun b o e _ => Heap.get?_push_of_some _ e
    · have e' : some o = some (seqObj "list" vs.toArray 0) := e.symm.trans hoL
      cases e'
      intro c
      exact absurd (Value.type.inj c) (by decide)
  · obtain ⟨c, hcL⟩ := sortedHeap_at (vs := vs) (out := out.toArray) hoL
    let ad : Value → Addr := fun v => match v with | .ref b => b | _ => 0
    let f : Value → Addr × List Int := fun v => (ad v, [(readP s1.heap v).1, (readP s1.heap v).2])
    have fv : ∀ v ∈ vs, v = .ref (f v).1 ∧ f v ∈ L := fun v hv => by
      obtain ⟨p, hp, rfl, e2, _⟩ := ent v hv
      refine ⟨rfl, ?_⟩
      show (p.1, [(readP s1.heap (.ref p.1)).1, (readP s1.heap (.ref p.1)).2]) ∈ L
      rw [← e2]
      exact hp
    have inV : ∀ v ∈ out, v ∈ vs := fun v hv => b2.perm.mem_iff.mp hv
    have eo : out = (out.map f).map fun p => Value.ref p.1 := by
      rw [List.map_map]
      conv => lhs; rw [← List.map_id out]
      exact List.map_congr_left fun v hv => (fv v (inV v hv)).1
    have back : (L.map fun p => Value.ref p.1).map f = L := by
      rw [List.map_map]
      refine (List.map_congr_left fun p hp => ?_).trans (List.map_id L)
      have hv : Value.ref p.1 ∈ vs := pm.mem_iff.mpr (List.mem_map.mpr ⟨p, hp, rfl⟩)
      obtain ⟨x, y, exy⟩ := hpr p hp
      have hT := hk p hp
      rw [exy] at hT
      obtain ⟨its, rv, ⟨u, hu, hcl, n, hdt⟩, _⟩ := I.tuple hT
      obtain ⟨u1, u2, rfl, r1, r2⟩ := vals2 rv
      obtain ⟨t1, rfl⟩ := r1
      obtain ⟨t2, rfl⟩ := r2
      have isP : Srt.IsPair s1.heap (.ref p.1) x y := ⟨p.1, u, t1, t2, n, rfl, k1 _ _ hu, hcl, hdt⟩
      show (p.1, [(readP s1.heap (.ref p.1)).1, (readP s1.heap (.ref p.1)).2]) = p
      rw [readP_eq isP, ← exy]
    have pL : (out.map f).Perm L := by
      have z := (b2.perm.trans pm).map f
      rw [back] at z
      exact z
    have hn : H s1.heap.objs.size = none := I.hok.fresh sz1
    have hlen : ((out.map f).map fun p => V.ref p.1).length ≤ sizeLine := by rw [List.length_map, pL.length_eq, sizeLine_eq]; omega
    have hv : Vals ((out.map f).map fun p => V.ref p.1) out := by
      have z := vals_of_refs (out.map f)
      rw [← eo] at z
      exact z
    have kp : ∀ b u, s.heap.get? b = some u → (sortedHeap (s1.heap.push (seqObj "list" vs.toArray 0)) s1.heap.objs.size vs out.toArray).get? b = some u := fun b u e => by
      have e1 := k1 b u e
      have lt := Heap.lt_size e1
      rw [sortedHeap_old (Nat.ne_of_lt lt) (by rw [size_push']; exact Nat.lt_succ_of_lt lt)]
      exact Heap.get?_push_of_some _ e1
    have J : Inv X pins σ (upd H s1.heap.objs.size (.lst ((out.map f).map fun p => V.ref p.1))) { s with heap := sortedHeap (s1.heap.push (seqObj "list" vs.toArray 0)) s1.heap.objs.size vs out.toArray, gens := s1.gens, drawn := s1.drawn, toks := s1.toks } :=
      I.call (ch := []) (Un.laid kp sz1 hn) (I.hok.laid kp sz1 ⟨hlen, out, c, hv, hcL⟩) (by rw [g1]; exact I.bare) (fun _ z => nomatch z)
    have e : ({ s1 with heap := sortedHeap (s1.heap.push (seqObj "list" vs.toArray 0)) s1.heap.objs.size vs out.toArray } : Shared) = { s with heap := sortedHeap (s1.heap.push (seqObj "list" vs.toArray 0)) s1.heap.objs.size vs out.toArray, gens := s1.gens, drawn := s1.drawn, toks := s1.toks } := by
      cases s1
      cases s
      cases o1
      rfl
    refine wpAny_pure ⟨_, rfl, ?_⟩
    rw [e]
    refine ⟨.ref s1.heap.objs.size, _, J, rfl, q (out.map f) _ hn pL ?_⟩
    rw [List.pairwise_map]
    exact b1
end
end RV
set_option maxHeartbeats 4000000
/-! set(xs), xs a tuple of tuples of ints, up to 64 unlike -/
namespace RV
open PySem PySem.Spec PyProof.Rows L2
section
variable {P : Program} {w : World} {A : Around} {E : Value → Shared → Prop} {s : Shared}
theorem setT_loop {R : Result → Shared → Prop} (hh : A.in1.handled = none) (S l it : Addr) (hSl : S ≠ l) (hSi : S ≠ it) (hli : l ≠ it) (items : Array Value) (ks : List (Addr × List Int)) (few : Cap64 ks)
    (refs : ∀ (i : Nat) (p : Addr × List Int), ks[i]? = some p → items[i]? = some (Value.ref p.1)) (size : items.size = ks.length) (old : Heap) (tups : ∀ p ∈ ks, IsT P w old p.2 p.1) (o1 : old.get? S = none) (o2 : old.get? it = none) (hu : A.in1.units < cLine) :
    ∀ (k i : Nat) (s : Shared), ks.length - i = k → i ≤ ks.length → s.heap.IsTupleIter it l i → s.heap.IsTuple l items → (∀ b o, old.get? b = some o → s.heap.get? b = some o) → (∃ L es ep t, SetTV P w s.heap S L es ep t ∧ Got ks i L) →
      (∀ h' tk L es ep t, SetTV P w h' S L es ep t → Got ks ks.length L → (∀ b o, old.get? b = some o → h'.get? b = some o) → R (.ok (.ret .none)) { s with heap := h', toks := tk }) →
      codeAny (model P w) A (.builtin "set.update.loop" ⟨[.ref S, .ref it], []⟩) R s
  | 0, i, s, hk, hi, hit, hl, keep, ⟨L, es, ep, t, hS, got⟩, fin => by
    obtain rfl : i = ks.length := by omega
    refine codeAny_builtin F.entry_set_update_loop ?_
    rw [Around.under_plainId F.plain_set_update_loop _]
    show wpAny _ A.in1 (pyNext (.ref it) >>= _) _ _ s
    refine wpAny_bind (wpAny_pyNext_tuple_end hh hit hl (by simp [size]) fun h' ext => ?_)
    have keep' : ∀ b o, old.get? b = some o → h'.get? b = some o := fun b o e => ext b o (fun z => by rw [z, o2] at e; cases e) (keep b o e)
    exact wpAny_pure (fin h' s.toks L es ep t (hS.keep (fun o e => ext S o hSi e) fun p hp => isT_keep (tups p (List.mem_of_mem_take (got.sub p hp))) keep') got keep')
  | k + 1, i, s, hk, hi, hit, hl, keep, ⟨L, es, ep, t, hS, got⟩, fin => by
    obtain ⟨p, hp⟩ : ∃ p, ks[i]? = some p := ⟨_, List.getElem?_eq_getElem (by omega)⟩
    refine codeAny_builtin F.entry_set_update_loop ?_
    rw [Around.under_plainId F.plain_set_update_loop _]
    show wpAny _ A.in1 (pyNext (.ref it) >>= _) _ _ s
    refine wpAny_bind (wpAny_pyNext_tuple_item hit hl (refs i p hp) fun h1 hit1 sb1 => ?_)
    have keep1 : ∀ b o, old.get? b = some o → h1.get? b = some o := fun b o e => (sb1.2 b fun z => by rw [z, o2] at e; cases e).trans (keep b o e)
    have inKs : ∀ q ∈ L, q ∈ ks := fun q hq => List.mem_of_mem_take (got.sub q hq)
    have hS1 : SetTV P w h1 S L es ep t := hS.keep (fun o e => (sb1.2 S hSi).trans e) fun q hq => isT_keep (tups q (inKs q hq)) keep1
    have hT : IsT P w h1 p.2 p.1 := isT_keep (tups p (List.mem_of_getElem? hp)) keep1
    show wpAny _ A.in1 (holding [Value.ref p.1] (setAdd S (.ref p.1)) >>= _) _ _ _
    refine wpAny_bind (wpAny_holding ?_)
    unfold setAdd
    refine wpAny_holding (wpAny_bind (wpAny_pyHash_tuple hu hT ?_))
    refine add_v (s := { s with heap := h1, toks := s.toks + (p.2.length + 1) }) hS1 hT hu (few.more hS1.nd inKs (List.mem_of_getElem? hp)) fun b h2 L2 es2 ep2 t2 sb2 hS2 yes no => ?_
    have got2 : Got ks (i + 1) L2 := by
      by_cases c : p.2 ∈ L.map (·.2)
      · rw [yes c]; exact got.same hp c
      · exact got.more hp (no c)
    have keep2 : ∀ b o, old.get? b = some o → h2.get? b = some o := fun b o e => (sb2.2 b fun z => by rw [z, o1] at e; cases e).trans (keep1 b o e)
    refine wpAny_pure ⟨plainId_quiet F.plain_set_update_loop _, setT_loop hh S l it hSl hSi hli items ks few refs size old tups o1 o2 hu k (i + 1) _ (by omega) (by omega)
      (hit1.at fun o e => (sb2.2 it (Ne.symm hSi)).trans e) ((hl.at fun o e => (sb1.2 l hli).trans e).at fun o e => (sb2.2 l (Ne.symm hSl)).trans e) keep2 ⟨L2, es2, ep2, t2, hS2, got2⟩ fun h' tk L' es' ep' t' z1 z2 z3 => ?_⟩
    exact fin h' tk L' es' ep' t' z1 z2 z3
set_option maxHeartbeats 8000000 in
theorem call_setT {l : Addr} {items : Array Value} (ks : List (Addr × List Int)) {Q : Value → Shared → Prop} (hh : A.handled = none) (hl : s.heap.IsTuple l items) (refs : items.toList = ks.map fun p => Value.ref p.1)
    (tups : ∀ p ∈ ks, IsT P w s.heap p.2 p.1) (few : Cap64 ks) (hu : A.units + 3 < cLine)
    (k : ∀ (h' : Heap) (tk : Nat) L es ep t, SetTV P w h' s.heap.objs.size L es ep t → Got ks ks.length L → (∀ b o, s.heap.get? b = some o → h'.get? b = some o) → Q (.ref s.heap.objs.size) { s with heap := h', toks := tk }) :
    wpAny (model P w) A (call (.type "set") [.ref l]) Q E s := by
  have size : items.size = ks.length := by simpa using congrArg List.length refs
  have refs' : ∀ (i : Nat) (p : Addr × List Int), ks[i]? = some p → items[i]? = some (Value.ref p.1) := fun i p e => by
    rw [← Array.getElem?_toList, refs, List.getElem?_map, e]; rfl
  obtain ⟨c, tl, hm⟩ := F.called_set.mro
  have a1 := F.called_set.made
  have a2 := F.called_set.sub
  have a3 := F.called_set.notType
  have a4 := F.called_set.canCreate
  have a5 := F.typeCall_set_1 (.ref l)
  refine wpAny_call (codeAny_of_tree ?_)
  show wpAny _ _ (callAny (.type "set") _) _ _ _
  refine wpAny_pure ⟨Code.quiet_builtin _ (by decide +kernel), codeAny_builtin F.entry_type_call ?_⟩
  rw [Around.under_plain (weight_type_call_type "set" [.ref l] []) rfl]
  repeat (any_goals (first | assumption | wp_step))
  refine codeAny_mono (code_set_led1 (.ref l) (E := E) (Q₁ := fun obj s₁ => obj = .ref s.heap.objs.size ∧ s₁ = { s with heap := s.heap.push (noneYet w) }) ⟨rfl, rfl⟩) fun r s₁ hr => ?_
  match r, hr with
  | .error e, hr => exact hr
  | .ok .next, hr => exact hr.elim
  | .ok .brk, hr => exact hr.elim
  | .ok .cont, hr => exact hr.elim
  | .ok (.ret obj), hr =>
    obtain ⟨rfl, rfl⟩ := hr
    have hS : (s.heap.push (noneYet w)).get? s.heap.objs.size = some (noneYet w) := Heap.get?_push_size _ rfl
    have hT : Shared.TypeIs { s with heap := s.heap.push (noneYet w) } (.ref s.heap.objs.size) "set" := ⟨_, hS, rfl⟩
    have b1 := F.called_set.init.lookup
    have b2 := F.called_set.init.bind (.ref s.heap.objs.size)
    repeat (any_goals (first | assumption | wp_step))
    refine codeAny_mono (codeAny_call_builtin (R := wants (fun r s₂ => r = .none ∧ ∃ h' tk L es ep t, s₂ = { s with heap := h', toks := tk } ∧ SetTV P w h' s.heap.objs.size L es ep t ∧ Got ks ks.length L ∧
        (∀ b o, s.heap.get? b = some o → h'.get? b = some o)) E) F.called_set.init.plain F.entry_set_init (check_set_init_1 hT ?_)) fun r₂ s₂ hr₂ => ?_
    · obtain ⟨⟨oc, od, dt, os⟩, g1, g2, nl, g3⟩ := hl
      simp only at g2 g3
      subst g2 g3
      have g4 : (s.heap.push (noneYet w)).get? l = some { cls := .type "tuple", dict := od, data := .seq items nl, slots := os } := Heap.get?_push_of_some _ g1
      have c1 := F.sub_tuple_set
      have c2 := F.sub_tuple_frozenset
      have c3 : (Value.type "tuple" == Value.type "dict") = false := by decide
      have isl : (s.heap.push (noneYet w)).IsTuple l items := ⟨_, g4, rfl, nl, rfl⟩
      unfold Builtin.«set.__init__» noKeywords Builtin.Frozenset.updateFrom
      generalize hpi : pyIter = pI
      wp_walk
      subst hpi
      refine wpAny_pyIter_tuple isl (wpAny_bind (wpAny_runValue ?_))
      have lt : l < s.heap.objs.size := Heap.lt_size g1
      have z1 : (s.heap.push (noneYet w)).objs.size = s.heap.objs.size + 1 := Heap.size_push ..
      have none1 : ∀ b, s.heap.objs.size ≤ b → s.heap.get? b = none := fun b hb => by
        cases q : s.heap.get? b with
        | none => rfl
        | some o => exact absurd (Nat.lt_of_lt_of_le (Heap.lt_size q) hb) (Nat.lt_irrefl _)
      refine setT_loop (A := A.in1.in1) (by simp [hh]) s.heap.objs.size l (s.heap.push (noneYet w)).objs.size (Nat.ne_of_gt lt) (by rw [z1]; exact Nat.ne_of_lt (Nat.lt_succ_self _)) (by rw [z1]; exact Nat.ne_of_lt (Nat.lt_succ_of_lt lt)) items ks few refs' size s.heap tups (none1 _ (Nat.le_refl _)) (none1 _ (by rw [z1]; exact Nat.le_succ _)) hu (ks.length - 0) 0 _ rfl (Nat.zero_le _)
        ⟨_, Heap.get?_push_size _ rfl, rfl, rfl⟩ (isl.at fun o e => Heap.get?_push_of_some _ e) (fun b o e => Heap.get?_push_of_some _ (Heap.get?_push_of_some _ e)) ⟨[], #[], 0, _, SetTV.of (setTR_fresh (Heap.get?_push_of_some _ hS)), Got.zero ks⟩ fun h' tk L es ep t q1 q2 q3 => ?_
      show wpAny _ _ _ _ _ _
      refine wpAny_pure ?_
      show wpAny _ _ (ret Value.none) _ _ _
      exact wpAny_pure ⟨rfl, h', tk, L, es, ep, t, rfl, q1, q2, q3⟩
    · match r₂, hr₂ with
      | .error e, hr₂ => exact hr₂
      | .ok .next, hr₂ => exact hr₂.elim
      | .ok .brk, hr₂ => exact hr₂.elim
      | .ok .cont, hr₂ => exact hr₂.elim
      | .ok (.ret r), hr₂ =>
        obtain ⟨rfl, h', tk, L, es, ep, t, rfl, q1, q2, q3⟩ := hr₂
        repeat (any_goals (first | assumption | wp_step))
        exact k _ _ _ _ _ _ q1 q2 q3
end
section
variable {X : Cx}
def rSetVT (K : PySem.W.Frag) (P : Program) (w : World) : List V → Hp → VK → Prop := fun xs H Q => ∃ (l : Addr) (ks : List (Addr × List Int)), xs = [V.ref l] ∧ SqT K H l (ks.map fun p => V.ref p.1) ∧ (∀ p ∈ ks, SqT K H p.1 (p.2.map V.int)) ∧ Cap64 ks ∧
  ∀ a L, H a = none → (∀ p ∈ L, p ∈ ks) → (∀ p ∈ ks, p.2 ∈ L.map (·.2)) → (L.map (·.2)).Nodup → Q (.ref a) (upd H a (SetVO P w a L))
theorem cr_setVT (hc : X.calm = true) (hu : X.A.units + 64 < cLine) : CallR X (.type "set") (rSetVT X.K X.prog X.w) := by
  intro pins s σ H xs us Q I r h
  obtain ⟨l, ks, rfl, hl, hk, few, q⟩ := h
  rw [Vals.ref1 r]
  obtain ⟨its, rv, pl, hz⟩ := I.tuple hl
  refine call_setT ks (I.ok.hd hc) pl (by simpa using refs_of_vals rv) (fun p hp => I.isT (hk p hp)) few (by omega) fun h' tk L es ep t R g kp => ?_
  refine ⟨.ref s.heap.objs.size, upd H s.heap.objs.size (SetVO X.prog X.w s.heap.objs.size L), I.laid (t' := tk) kp (Nat.le_refl _) (setVO_new ⟨es, ep, t, R.ob, R.rows, R.tab, R.nd, R.plain, R.led, R.room⟩), rfl, ?_⟩
  exact q _ L (I.hok.fresh (Nat.le_refl _)) (fun p hp => List.mem_of_mem_take (g.sub p hp)) (fun p hp => g.all p (by rw [List.take_length]; exact hp)) R.nd
end
end RV
set_option maxHeartbeats 4000000
namespace K2
open PySem PySem.Spec PyProof.Rows L2 RV
theorem shapedLT (ps : List (List Int)) : SeqAt.shaped (.list (ps.map dI)) = true := by
  have h := dep_dI ps
  have e : (PyData.list (ps.map dI)).depth ≤ 64 := by simp only [PyData.depth]; omega
  show ((PyData.list (ps.map dI)).canLay0 && decide ((PyData.list (ps.map dI)).depth ≤ 64)) = true
  rw [decide_eq_true e, Bool.and_true]
  simp only [PyData.canLay0]; exact lay_dI ps
theorem eqvLT (ps qs : List (List Int)) : PyData.eqv (.list (ps.map dI)) (.list (qs.map dI)) = decide (ps = qs) := by simp only [PyData.eqv, eqv_dIs]
theorem cap_of {n : Nat} (h8 : n ≤ 8) {ks : List (Addr × List Int)} (pr : ∀ p ∈ ks.map (·.2), Pr (n : Int) p) : Cap64 ks := fun L nd hL => by
  have z := nodup_le (us := gridOf 0 (fun _ _ => true) n n) nd fun p hp => by
    obtain ⟨k, hk, rfl⟩ := List.mem_map.mp hp
    obtain ⟨x, y, e, hx, hy⟩ := pr k.2 (List.mem_map_of_mem (hL k hk))
    rw [e]
    refine mem_grid.mpr ⟨x.toNat, y.toNat, by omega, by omega, rfl, ?_⟩
    rw [show (0 + ((x.toNat : Nat) : Int)) = x by omega, show (0 + ((y.toNat : Nat) : Int)) = y by omega]
  have g := grid_len 0 (fun _ _ => true) n n
  have m8 : n * n ≤ 8 * 8 := Nat.mul_le_mul h8 h8
  rw [List.length_map] at z
  omega
theorem cd_of_lex {p q : List Int} (hp : Pr 64 p) (hq : Pr 64 q) (h : pLt p q) : cd p < cd q := by
  obtain ⟨x, y, rfl, hx, hy⟩ := hp
  obtain ⟨x', y', rfl, hx', hy'⟩ := hq
  have z : x < x' ∨ (x = x' ∧ y < y') := h
  rw [cd_pair, cd_pair]; omega
/-- sorted without doubles, they are the same just where they rise -/
theorem rise_iff {ps : List (List Int)} {M : List (Addr × List Int)} (pr : ∀ p ∈ ps, Pr 64 p) (nd : (M.map (·.2)).Nodup) (mem : ∀ p, p ∈ M.map (·.2) ↔ p ∈ ps) (pw : M.Pairwise fun a b => SrtO.lexB (two b.2) (two a.2) = false) : decide (ps = M.map (·.2)) = riseB ps := by
  have prM : ∀ p ∈ M.map (·.2), Pr 64 p := fun p hp => pr p ((mem p).mp hp)
  have le : (M.map (·.2)).Pairwise fun p q => cd p ≤ cd q := by
    rw [List.pairwise_map]
    exact List.Pairwise.imp_of_mem (fun {a b} ha hb z => le_of_two (prM _ (List.mem_map_of_mem ha)) (prM _ (List.mem_map_of_mem hb)) z) pw
  have lt := sorted_lt prM nd le
  rw [Bool.eq_iff_iff, decide_eq_true_iff]
  constructor
  · intro e
    unfold riseB
    rw [List.all_eq_true]
    intro i hi
    have hi := List.mem_range.mp hi
    have z := adj_rise prM lt i (ps.getD i []) (ps.getD (i + 1) []) (by rw [← e, List.getD_eq_getElem?_getD, List.getElem?_eq_getElem (by omega)]; rfl) (by rw [← e, List.getD_eq_getElem?_getD, List.getElem?_eq_getElem (by omega)]; rfl)
    exact z
  · intro h
    have pw2 := pLt_all (fun p hp => by obtain ⟨x, y, ep, _⟩ := pr p hp; exact ⟨x, y, ep⟩) (rise_at h)
    refine sorted_eq (f := cd) ?_ lt fun x => (mem x).symm
    exact List.Pairwise.imp_of_mem (fun {a b} ha hb z => cd_of_lex (pr a ha) (pr b hb) z) pw2
theorem op_neDT {X : Cx} {K : PySem.W.Frag} (h : X.K = K) (hu : X.A.units + 64 < cLine) : OpR X (compareOp .NotEq) (rNeD K) := h ▸ op_neD hu
theorem cr_setW {X : Cx} {K : PySem.W.Frag} {P : Program} {w : World} (h1 : X.K = K) (h2 : X.prog = P) (h3 : X.w = w) (hc : X.calm = true) (hu : X.A.units + 64 < cLine) : CallR X (.type "set") (rSetVT K P w) := by
  subst h1 h2 h3
  exact cr_setVT hc hu
theorem cr_sortW {X : Cx} {K : PySem.W.Frag} {P : Program} {w : World} (h1 : X.K = K) (h2 : X.prog = P) (h3 : X.w = w) (hc : X.calm = true) : CallR X (.builtin "sorted") (rSortedV K P w) := by
  subst h1 h2 h3
  exact cr_sortedV hc
section
variable {P : Program} {w : World} {K : PySem.W.Frag} {mg : Str → Option Value} {base : Heap}
/-! ### _law_steps_right -/
abbrev nSR : List Str := ["_law_thing", "_law_mirrors_here", "_law_pair"]
theorem scSR : FnScope nSR ["_law_thing", "_law_mirrors_here"] (defScope sStpR) := ⟨rfl, rfl, rfl, by decide +kernel, rfl, by decide +kernel, by decide +kernel⟩
def spStpR (K : PySem.W.Frag) : Sp := fun vs H Q _ => ∃ (a : Addr) (v : V) (ns : List Int) (d : PyData), vs = [v, .ref a] ∧ SqT K H a (ns.map V.int) ∧ Mir ns ∧ Dq K H v d ∧ d.bulk ≤ 1000 ∧ ∀ H', Same H H' → Q (.bl (stpD ns d)) H'
theorem decV {i j : Int} : decide (V.int i = V.int j) = decide (i = j) := decide_eq_decide.mpr ⟨fun e => by injection e, fun e => by rw [e]⟩
theorem step_two {n : Int} {x y : PyData} : stepD n (.tuple [x, y]) = (belowD n x && belowD n y) := by
  unfold stepD
  show ((decide (0 < 2) && [x, y].all (belowD n)) && decide (2 = 2)) = _
  simp
theorem ok_sr {f fM : Addr} {fd fdM : FuncData} (F : Fun K "_law_steps_right" "_law_steps_right" sStpR f fd) (DM : DefAt K mg "_law_is_mark" sLIsMark ["_law_thing", "_law_many"] fM fdM) (B : Bare mg) : FnOk P w K mg base CX0 2 f fd ["_law_thing", "_law_mirrors_here"] (spStpR K) := by
  have GM : FnOk P w K mg base CX0 1 fM fdM ["_law_thing", "_law_many"] (spBelowD K) := ok_lim DM.fn B
  refine F.ok scSR (fun vs H Q E h => ?_) (fun cdv A outer s H vs Q E hr h => ?_)
  · obtain ⟨a, v, ns, d, rfl, _⟩ := h
    rfl
  · obtain ⟨a, v, ns, d, rfl, hA, hM, hd, hb, q⟩ := h
    refine ⟨_, pss_cons (ps_if (pt_not (pt_val (pe_callB call_isi (by rfl) B.isinstance (by decide +kernel) (pa_cons (pv 0) (pa_cons (pe_bltn (v := .ty "tuple") (by rfl) B.tuple (by decide +kernel) rfl) pa_nil))))) (pss_one (ps_ret pe_bl)) pss_nil)
      (pss_cons (ps_for PassesOwn.never rfl (pi_tup (pv 0)) (pg_name (i := 2) scSR.nd rfl (Or.inl rfl))
        (pss_cons (ps_if (PW.pt (pw_or (pt_not (pt_val (pe_callB call_isi (by rfl) B.isinstance (by decide +kernel) (pa_cons (pv 2) (pa_cons (pe_bltn (v := .ty "tuple") (by rfl) B.tuple (by decide +kernel) rfl) pa_nil)))))
            (pw_or1 (pt_cmpR op_ne (pe_callB call_len_seq (by rfl) B.len PySem.boot_len (pa_cons (pv 2) pa_nil)) pe_int (nomark _))))) (pss_one (ps_ret pe_bl)) pss_nil)
        (pss_one (ps_if (PW.pt (pw_or (pt_not (pt_val (pe_call GM hr (by rfl) DM.mg DM.fn.kp DM.bi .nil pass0 (pa_cons (pe_ix ix_tup (pv 2) pe_int (fun _ _ => rfl)) (pa_cons (pe_callB call_len_seq (by rfl) B.len PySem.boot_len (pa_cons (pv 1) pa_nil)) pa_nil)))))
            (pw_or1 (pt_not (pt_val (pe_call GM hr (by rfl) DM.mg DM.fn.kp DM.bi .nil pass0 (pa_cons (pe_ix ix_tup (pv 2) pe_int (fun _ _ => rfl)) (pa_cons (pe_callB call_len_seq (by rfl) B.len PySem.boot_len (pa_cons (pv 1) pa_nil)) pa_nil)))))))) (pss_one (ps_ret pe_bl)) pss_nil))))
      (pss_cons (ps_if (pt_cmpR (op_neDT (K := K) rfl hr.units) (pe_callTy call_list_of (by rfl) B.list (by decide +kernel) (pa_cons (pv 0) pa_nil)) (pe_callB (cr_sortW (K := K) (P := P) (w := w) rfl rfl rfl rfl) (by rfl) B.sorted (by decide +kernel) (pa_cons (pe_callTy (cr_setW (K := K) (P := P) (w := w) rfl rfl rfl rfl hr.units) (by rfl) B.set (by decide +kernel) (pa_cons (pv 0) pa_nil)) pa_nil)) (nomark _)) (pss_one (ps_ret pe_bl)) pss_nil)
      (pss_one (ps_ret (pe_callB (cr_all rfl) (by rfl) B.all (by decide +kernel) (pa_cons
        (pe_lc (own := [("_law_pair", 2)]) (g := gName 2) (tt := tYes) rfl scSR.nd (pi_tup (pv 0)) (blkOk_by (N := nSR) (sc := defScope sStpR) (by decide +kernel)) (fun _ _ _ _ _ => pg_name (i := 2) scSR.nd rfl (Or.inl rfl)) (fun _ _ _ _ _ => pts_nil)
          (fun _ _ _ _ _ => pe_cmpR (op_inTsK (K := K) rfl (un65 hr)) (pe_tup (pa_cons (pe_ix (ix_tupK (K := K) rfl) (pv 1) (pe_ix (ix_tupK (K := K) rfl) (pv 2) pe_int (fun _ _ => rfl)) (fun _ _ => rfl)) (pa_cons (pe_ix (ix_tupK (K := K) rfl) (pv 1) (pe_ix (ix_tupK (K := K) rfl) (pv 2) pe_int (fun _ _ => rfl)) (fun _ _ => rfl)) pa_nil))) (pv 0) (by rfl))) pa_nil)))))), ?_⟩
    have no : stpD ns d = false → ∀ H', Same H H' → Q (.bl false) H' := fun e H' s' => by
      have z := q H' s'
      rw [e] at z
      exact z
    have h8 := hM.few
    refine ⟨v, rfl, v, .ty "tuple", _, _, _, rfl, .ty "tuple", tyQ hd, kit_D (.inr (.inr (.inl rfl))), _, rfl, ?_⟩
    rw [isi_tup]
    cases hd with
    | tup hT hAl =>
      rename_i b xs ds
      have hl := DqAll.len hAl
      have hb' : PyData.bulkAll ds ≤ 1000 := by simpa only [PyData.bulk] using hb
      have hl2 : ds.length ≤ 1000 := Nat.le_trans (bulk_len ds) hb'
      refine iteF ?_
      refine ⟨.ref b, rfl, b, rfl, ⟨_, hT⟩, ?_⟩
      refine for_tup (K := K) (a := b) (xs := xs) (fun i σ H' => ∃ (y2 : Option V), σ = [some (.ref b), some (.ref a), y2] ∧ Same H H' ∧ ∀ e ∈ ds.take i, stepD (ns.length : Int) e = true)
        ⟨none, rfl, Same.refl _, fun e he => by simp at he⟩ (fun i σ H' _ h => ?_) (fun i x σ H2 hx h => ?_) (fun σ H' h => ?_)
      · obtain ⟨_, _, s', _⟩ := h
        exact sqT_same s' hT
      · obtain ⟨y2, rfl, s2, al⟩ := h
        obtain ⟨e, ge, he0⟩ := DqAll.at hAl hx
        have he := Dq.same s2 he0
        have fail : stepD (ns.length : Int) e = false → Q (.bl false) H2 := fun hf => no (by
          show (ds.all _ && _) = false
          have z : ds.all (stepD (ns.length : Int)) = false := by
            rw [List.all_eq_false]
            exact ⟨e, List.mem_of_getElem? ge, by rw [hf]; decide⟩
          rw [z, Bool.false_and]) H2 s2
        refine ⟨x, rfl, x, .ty "tuple", _, _, _, rfl, .ty "tuple", tyQ he, kit_D (.inr (.inr (.inl rfl))), _, rfl, ?_⟩
        rw [isi_tup]
        cases he with
        | tup hT2 hA2 =>
          rename_i c ys es
          have hl3 := DqAll.len hA2
          refine iteF ⟨.ref c, rfl, c, _, rfl, .inr hT2, rfl, _, rfl, ?_⟩
          rw [decV]
          match es, ys, hA2, hl3, hT2, fail, ge with
          | [e1, e2], [x1, x2], hA2, _, hT2, fail, ge =>
            rw [decide_eq_true (show (([x1, x2] : List V).length : Int) = 2 from rfl)]
            refine iteF ?_
            obtain ⟨hx1, hA3⟩ : Dq K H2 x1 e1 ∧ DqAll K H2 [x2] [e2] := by cases hA2 with | cons h1 h2 => exact ⟨h1, h2⟩
            have hx2 : Dq K H2 x2 e2 := by cases hA3 with | cons h1 h2 => exact h1
            rw [step_two] at fail
            refine ⟨.ref c, rfl, c, _, 0, x1, rfl, rfl, hT2, rfl, .ref a, rfl, a, _, rfl, .inr (sqT_same s2 hA), x1, e1, (ns.length : Int), by rw [List.length_map]; rfl, hx1, _, rfl, ?_⟩
            cases hb1 : belowD (ns.length : Int) e1 with
            | false => exact iteT (fail (by rw [hb1, Bool.false_and]))
            | true =>
            refine iteF ?_
            refine ⟨.ref c, rfl, c, _, 1, x2, rfl, rfl, hT2, rfl, .ref a, rfl, a, _, rfl, .inr (sqT_same s2 hA), x2, e2, (ns.length : Int), by rw [List.length_map]; rfl, hx2, _, rfl, ?_⟩
            cases hb2 : belowD (ns.length : Int) e2 with
            | false => exact iteT (fail (by rw [hb2, Bool.and_false]))
            | true =>
            refine iteF ⟨_, rfl, s2, fun e0 h0 => ?_⟩
            rw [List.take_add_one, ge] at h0
            rcases List.mem_append.mp h0 with z | z
            · exact al e0 z
            · rw [List.mem_singleton.mp z, step_two, hb1, hb2]; rfl
          | [], [], _, _, _, fail, _ => exact iteT (fail rfl)
          | [t], [y], _, _, _, fail, _ =>
            refine iteT (fail ?_)
            unfold stepD
            show (_ && decide (1 = 2)) = false
            simp
          | t :: m :: u :: rest, y :: z :: z2 :: rest2, _, _, _, fail, _ =>
            rw [decide_eq_false (show ¬ ((y :: z :: z2 :: rest2).length : Int) = 2 by simp only [List.length_cons]; omega)]
            refine iteT (fail ?_)
            unfold stepD
            show (_ && decide ((t :: m :: u :: rest).length = 2)) = false
            simp
        | non => exact iteT (fail rfl)
        | bl b => exact iteT (fail rfl)
        | int i => exact iteT (fail rfl)
        | str x => exact iteT (fail rfl)
        | lst h1 h2 => exact iteT (fail rfl)
        | dct h1 h2 => exact iteT (fail rfl)
      · obtain ⟨y2, rfl, s2, al⟩ := h
        rw [hl, List.take_of_length_le (Nat.le_refl _)] at al
        obtain ⟨eds, pr⟩ := steps_all al
        have hst : ds.all (stepD (ns.length : Int)) = true := List.all_eq_true.mpr al
        have hTT0 : Tups K H b (psD ds) := dq_TT hT hAl eds
        have eD : stpD ns (.tuple ds) = (riseB (psD ds) && closB ns (psD ds)) := by
          show (ds.all _ && _) = _
          rw [hst, Bool.true_and]
        rw [eD] at q no
        have lp : (psD ds).length = ds.length := List.length_map ..
        generalize psD ds = ps at hTT0 q no pr lp
        obtain ⟨ks, rfl, hT2, hks⟩ := hTT0
        have lk : ks.length ≤ 1000 := by rw [List.length_map] at lp; omega
        have pr64 : ∀ p ∈ ks.map (·.2), Pr 64 p := fun p hp => (pr p hp).mono (by omega)
        have keepT : ∀ {H3 : Hp}, Same H H3 → Tups K H3 b (ks.map (·.2)) := fun s3 => ⟨ks, rfl, sqT_same s3 hT2, fun q hq => sqT_same s3 (hks q hq)⟩
        refine ⟨.ref b, rfl, b, _, rfl, .inr (sqT_same s2 hT2), fun A1 n1 => ?_⟩
        have s1 := same_upd (o := .lst (ks.map fun p => V.ref p.1)) n1
        have e1 : (upd H' A1 (.lst (ks.map fun p => V.ref p.1))) A1 = some (.lst (ks.map fun p => V.ref p.1)) := upd_same
        generalize upd H' A1 (.lst (ks.map fun p => V.ref p.1)) = H1 at s1 e1 ⊢
        have s01 := s2.trans s1
        refine ⟨.ref b, rfl, b, ks, rfl, sqT_same s01 hT2, fun p hp => sqT_same s01 (hks p hp), cap_of h8 pr, fun S L nS sub all nd => ?_⟩
        have sS := same_upd (o := SetVO P w S L) nS
        have s03 := s01.trans sS
        have capL := cap_of h8 pr L nd sub
        refine ⟨S, L, rfl, upd_same, fun p hp => sqT_same s03 (hks p (sub p hp)), fun p hp => ?_, by omega, fun M A2 n2 pm pw => ?_⟩
        · obtain ⟨x, y, e, _⟩ := pr p.2 (List.mem_map_of_mem (sub p hp))
          exact ⟨x, y, e⟩
        have s2' := same_upd (o := .lst (M.map fun p => V.ref p.1)) n2
        have s04 := s03.trans s2'
        have ndM : (M.map (·.2)).Nodup := (pm.map (·.2)).nodup_iff.mpr nd
        have memM : ∀ p, p ∈ M.map (·.2) ↔ p ∈ ks.map (·.2) := fun p => by
          constructor
          · intro h
            obtain ⟨k, hk, rfl⟩ := List.mem_map.mp h
            exact List.mem_map_of_mem (sub k (pm.mem_iff.mp hk))
          · intro h
            obtain ⟨k, hk, rfl⟩ := List.mem_map.mp h
            obtain ⟨l, hl, e⟩ := List.mem_map.mp (all k hk)
            rw [← e]
            exact List.mem_map_of_mem (pm.mem_iff.mpr hl)
        have ri := rise_iff pr64 ndM memM pw
        refine ⟨.list ((ks.map (·.2)).map dI), .list ((M.map (·.2)).map dI), .lst (lstNew (s2' _ _ (sS _ _ e1))) (dpTs ks fun p hp => sqT_same s04 (hks p hp)), .lst (lstNew upd_same) (dpTs M fun p hp => sqT_same s04 (hks p (sub p (pm.mem_iff.mp hp)))), shapedLT _, shapedLT _, _, rfl, ?_⟩
        rw [eqvLT, ri]
        generalize upd (upd H1 S (SetVO P w S L)) A2 (.lst (M.map fun p => V.ref p.1)) = H5 at s04 ⊢
        cases hri : riseB (ks.map (·.2)) with
        | false => exact iteT (no (by rw [hri, Bool.false_and]) H5 s04)
        | true =>
        rw [hri, Bool.true_and] at q
        refine iteF ?_
        refine ⟨.ref b, rfl, b, rfl, ⟨_, sqT_same s04 hT2⟩, fun D2 nD2 => ?_⟩
        refine lc_tup (K := K) (a := b) (xs := ks.map fun p => V.ref p.1) (fun i H' => Same H5 H' ∧ H' D2 = some (.lst (((ks.take i).map fun k => inB ns (ks.map (·.2)) k.2).map V.bl))) ⟨same_upd nD2, upd_same⟩ (fun i H' _ p => sqT_same p.1 (sqT_same s04 hT2)) (fun i x H' hx p => ?_) fun H3 p => ?_
        · obtain ⟨k, g, rfl⟩ := map_at hx
          have hk : k ∈ ks := List.mem_of_getElem? g
          have hi : i < ks.length := (List.getElem?_eq_some_iff.mp g).1
          obtain ⟨x, y, e, hx1, hy1⟩ := pr k.2 (List.mem_map_of_mem hk)
          have s0' : Same H H' := s04.trans p.1
          have hkT : SqT K H' k.1 ([x, y].map V.int) := by rw [← e]; exact sqT_same s0' (hks k hk)
          obtain ⟨mx, gx⟩ : ∃ mx, ns[x.toNat]? = some mx := ⟨_, List.getElem?_eq_getElem (by omega)⟩
          obtain ⟨my, gy⟩ : ∃ my, ns[y.toNat]? = some my := ⟨_, List.getElem?_eq_getElem (by omega)⟩
          have ax : atI (ns.map V.int) x = some (.int mx) := by
            rw [show x = ((x.toNat : Nat) : Int) by omega]; exact atI_nat (by rw [List.getElem?_map, gx]; rfl)
          have ay : atI (ns.map V.int) y = some (.int my) := by
            rw [show y = ((y.toNat : Nat) : Int) by omega]; exact atI_nat (by rw [List.getElem?_map, gy]; rfl)
          have ein : inB ns (ks.map (·.2)) k.2 = decide ([my, mx] ∈ ks.map (·.2)) := by
            unfold inB
            rw [e]
            have e2 : ns.getD y.toNat 0 = my := by rw [List.getD_eq_getElem?_getD, gy]; rfl
            have e3 : ns.getD x.toNat 0 = mx := by rw [List.getD_eq_getElem?_getD, gx]; rfl
            refine decide_eq_decide.mpr ?_
            show ([ns.getD y.toNat 0, ns.getD x.toNat 0] ∈ _) ↔ _
            rw [e2, e3]
          have a0 : atI ([x, y].map V.int) 0 = some (.int x) := rfl
          have a1 : atI ([x, y].map V.int) 1 = some (.int y) := rfl
          refine ⟨rfl, tt_yes ⟨.ref a, rfl, .ref k.1, rfl, k.1, _, 1, .int y, rfl, rfl, hkT, a1, a, _, y, .int my, rfl, rfl, sqT_same s0' hA, ay, .ref a, rfl, .ref k.1, rfl, k.1, _, 0, .int x, rfl, rfl, hkT, a0, a, _, x, .int mx, rfl, rfl, sqT_same s0' hA, ax, (by show 2 ≤ sizeLine; decide), fun T nT => ?_⟩⟩
          have sT : Same H' (upd H' T (.tup [.int my, .int mx])) := same_upd nT
          refine ⟨.ref b, rfl, T, b, [my, mx], _, rfl, rfl, tupNew upd_same, keepT (s0'.trans sT), _, sT _ _ p.2, ?_, ?_, ?_⟩
          · rw [List.length_map, List.length_map, List.length_take]; exact few1 (by omega)
          · exact fun c o z => by rw [upd_ne (ne_of_none z nD2)]; exact sT c o (p.1 c o z)
          · rw [upd_same, List.take_add_one, g, List.map_append, List.map_append]
            show _ = some (HO.lst (_ ++ [V.bl (inB ns (ks.map (·.2)) k.2)]))
            rw [ein]
        · rw [List.length_map, List.take_of_length_le (Nat.le_refl _)] at p
          refine ⟨D2, _, rfl, lstNew p.2, ?_⟩
          have z := q H3 (s04.trans p.1)
          unfold closB at z
          rw [List.all_map] at z
          rw [List.all_map]
          exact z
    | non => exact iteT (no rfl H (Same.refl H))
    | bl b => exact iteT (no rfl H (Same.refl H))
    | int i => exact iteT (no rfl H (Same.refl H))
    | str x => exact iteT (no rfl H (Same.refl H))
    | lst h1 h2 => exact iteT (no rfl H (Same.refl H))
    | dct h1 h2 => exact iteT (no rfl H (Same.refl H))
end
end K2
set_option maxHeartbeats 4000000
/-! isinstance of a caught error, fields or not, where it is one; making of an object whose __init__ may refuse -/
namespace RV
open PySem PySem.Spec PyProof.Rows L2
section
variable {prog : Program} {w : World} {A : Around} {E : Value → Shared → Prop} {s : Shared} {K : PySem.W.Frag}
theorem isi_yes {x t c : Value} {Q : Value → Shared → Prop} (LT : ∀ M, PySem.W.Looks M s.heap (typeOf x) t) (X : K.In s.heap) (e : PySem.W.kitOne K t c = some true) (hx : x ≠ .builtin "__main__.__loader__#opaque") (h : Q (.bool true) s) : wpAny (model prog w) A (call (.builtin "isinstance") [x, c]) Q E s := by
  refine call_isinstance (S := fun _ R s' => s' = s ∧ R (.ok (.ret (.bool true))) s') (fun prog w A R s' hs => isinstance_outer ?_ hx) ⟨rfl, h⟩
  obtain ⟨es, hr⟩ := hs
  subst es
  unfold PySem.W.kitOne at e
  unfold Builtin.«isinstance.nested»
  obtain ⟨hp, g, d, tk, os⟩ := s'
  refine wpAny_bind ((LT _).at ?_)
  by_cases q : (t == c) = true
  · rw [if_pos q]
    first
      | exact wpAny_bind (wpAny_rule hr)
      | exact wpAny_bind (wpAny_rule (wpAny_pure hr))
      | ((repeat lk); exact hr)
  · rw [if_neg q] at e ⊢
    obtain ⟨c1, c2, c3⟩ := PySem.W.kit_cls (M := model prog w) X e
    refine wpAny_bind (c1.at ?_)
    rw [if_pos (by decide)]
    k_delta "plainIsInstance"
    refine wpAny_bind (wpAny_bind (c2.at ?_))
    simp only [Bool.not_true, Bool.false_eq_true, if_false]
    refine wpAny_bind ((PySem.W.Looks.andThen (LT _) c3 : PySem.W.Looks (model prog w) hp (isInstance x c) true).at ?_)
    first
      | exact wpAny_pure (wpAny_pure hr)
      | (simp only [if_true]; first | exact wpAny_pure hr | exact wpAny_pure (wpAny_pure hr) | exact wpAny_bind (wpAny_pure (wpAny_pure hr)))
end
section
variable {X : Cx} {a : Addr} {oe : Obj} {cls : Value} {d : Option Addr} {pn : List (Addr × Obj)}
/-- isinstance(e, c) that is so -/
theorem call_isY {K : PySem.W.Frag} (hK : X.K = K) (hz : Zc cls d oe) : CallR (X.suite a ((a, oe) :: pn)) (.builtin "isinstance") (fun xs H Q => ∃ (c : V) (cv : Value), xs = [.ref a, c] ∧ (∀ u, RelV c u → u = cv) ∧ PySem.W.kitOne K cls cv = some true ∧ Q (.bl true) H) := by
  subst hK
  intro pins s σ H xs us Q I r h
  obtain ⟨c, cv, rfl, one, e, q⟩ := h
  match us, r with
  | [_, _], .cons rx (.cons rt .nil) =>
    cases rx
    cases one _ rt
    obtain ⟨get, _⟩ := I.pin (a, oe) (List.mem_append_left _ List.mem_cons_self)
    refine isi_yes (K := X.K) (fun M => ?_) I.kIn e (by intro z; cases z) ⟨.bl true, H, I, rfl, q⟩
    exact fun _ _ _ _ k q => wpAny_typeOf_ref (k _ _ get) (hz.1 ▸ q)
end
/-- C(e, ..), an __init__ that may refuse: what is wanted of the refusal may speak of the slots -/
def tMakeS (C : Addr) (sp : Sp) (E : L2.St → XK) (t : TA) : TE := fun σ H Q => t σ H fun vs H1 => ∀ x dx, H1 x = none → H1 dx = none → dx ≠ x → sp (.ref x :: vs) (upd (upd H1 dx (.own x)) x (.ins C dx [])) (fun v H2 => v = .non ∧ Q (.ref x) H2) (E σ)
section
variable {X : Cx} {CX : CXT} {k : Nat} {f C : Addr} {fd : FuncData} {ps : List Str} {sp : Sp} {E : L2.St → XK} {x : Str} {p pos : Pos} {e : Expr} {es : List Expr} {t : TA}
theorem pe_makeS (M : Mk X.K C f) (F : FnOk X.prog X.w X.K X.mg X.base CX k f fd ps sp) (hr : Room (k + 1) X.A) (hg : Gl X x) (hm : X.mg x = some (.ref C)) (hb : Binds X.K fd ps []) (hx : ∀ σ, PassesAt CX X σ (E σ)) (ha : PA X (e :: es) t)
    (hdb : (x == ("__debug__" : Str)) = false := by decide) (he : starEach (e :: es) X.env = (false, eval e X.env) :: starEach es X.env := by rfl) (hpl : (backTo pos (starEach es X.env)).any (·.1) = false := by rfl) :
    PE X (.Call (.Name x p) (e :: es) [] pos) (tMakeS C sp E t) := by
  refine ⟨fun pins s σ H Q I h => wpAny_Call_Name_kw (ld_glob I hg hm ?_ hdb)⟩
  refine PySem.W.callWith_K (h₀ := X.base) I.ok.mod.kin M.kp (thn (ha.run pos pins s σ H _ I h) fun us s1 ⟨vs, H1, J, r, q⟩ => ⟨J.kIn, ?_⟩) he hpl
  have q1 := q (s1.heap.objs.size + 1) s1.heap.objs.size (J.hok.fresh (Nat.le_succ _)) (J.hok.fresh (Nat.le_refl _)) (Nat.ne_of_lt (Nat.lt_succ_self _))
  have J2 := Inv.made (C := C) J
  have rr : Vals (V.ref (s1.heap.objs.size + 1) :: vs) (Value.ref (s1.heap.objs.size + 1) :: us) := .cons rfl r
  have ln : (Value.ref (s1.heap.objs.size + 1) :: us).length = ps.length := by rw [← rr.length]; exact F.len _ _ _ _ q1
  have bb := hb _ (Value.ref (s1.heap.objs.size + 1) :: us) J2.kIn (by rw [List.append_nil]; exact ln)
  rw [List.append_nil] at bb
  refine wpAny_call (make_map (f := f) J.kIn M.makes M.init (beq_iff_eq.mp M.fn) (codeAny_mono (F.run _ X.stack _ _ ⟨_, []⟩ _ _ _ (E σ) (hr.make C us []) (J2.env0.make C us []) bb rr q1) fun res s' z => ?_))
  match res, z with
  | .error e', z => exact hx σ pins _ _ e' s' J2 z
  | .ok (.ret u), z =>
    obtain ⟨v, H', J3, rv, ev, q3⟩ := J2.after z
    subst ev
    exact ⟨rv, V.ref (s1.heap.objs.size + 1), H', J3, rfl, q3⟩
  | .ok .next, z => exact z.elim
  | .ok .brk, z => exact z.elim
  | .ok .cont, z => exact z.elim
end
end RV
set_option maxHeartbeats 4000000
namespace K2
open PySem PySem.Spec PyProof.Rows L2 RV
/-- what the law finds due -/
def dueV (d d' : PyData) : V := if mirD d = true then (if stpD (intsD d) d' = true then .non else .str "steps") else .str "mirrors"
section
variable {P : Program} {w : World} {K : PySem.W.Frag} {mg : Str → Option Value} {base : Heap}
/-! ### _law_due -/
theorem scDue : FnScope ["_law_mirrors_here", "_law_steps_here"] ["_law_mirrors_here", "_law_steps_here"] (defScope sDue) := ⟨rfl, rfl, rfl, by decide +kernel, rfl, by decide +kernel, by decide +kernel⟩
def spDue (K : PySem.W.Frag) : Sp := fun vs H Q _ => ∃ (v v' : V) (d d' : PyData), vs = [v, v'] ∧ Dq K H v d ∧ Dq K H v' d' ∧ d.bulk ≤ 1000 ∧ d'.bulk ≤ 1000 ∧ ∀ H', Same H H' → Q (dueV d d') H'
theorem ok_due {f fM fR fS : Addr} {fd dM dR dS : FuncData} (F : Fun K "_law_due" "_law_due" sDue f fd) (DM : DefAt K mg "_law_is_mark" sLIsMark ["_law_thing", "_law_many"] fM dM) (DR : DefAt K mg "_law_mirrors_right" sMirR ["_law_thing"] fR dR) (DS : DefAt K mg "_law_steps_right" sStpR ["_law_thing", "_law_mirrors_here"] fS dS) (B : Bare mg) :
    FnOk P w K mg base CX0 3 f fd ["_law_mirrors_here", "_law_steps_here"] (spDue K) := by
  have GR : FnOk P w K mg base CX0 2 fR dR ["_law_thing"] (spMirA K) := ok_mr DR.fn DM B
  have GS : FnOk P w K mg base CX0 2 fS dS ["_law_thing", "_law_mirrors_here"] (spStpR K) := ok_sr DS.fn DM B
  refine F.ok scDue (fun vs H Q E h => ?_) (fun cdv A outer s H vs Q E hr h => ?_)
  · obtain ⟨v, v', d, d', rfl, _⟩ := h
    rfl
  · obtain ⟨v, v', d, d', rfl, hd, hd', hb, hb', q⟩ := h
    refine ⟨_, pss_cons (ps_if (pt_not (pt_val (pe_call GR hr (by rfl) DR.mg DR.fn.kp DR.bi .nil pass0 (pa_cons (pv 0) pa_nil)))) (pss_one (ps_ret pe_str)) pss_nil)
      (pss_one (ps_ret (pe_ifExp (pt_val (pe_call GS hr (by rfl) DS.mg DS.fn.kp DS.bi .nil pass0 (pa_cons (pv 1) (pa_cons (pv 0) pa_nil)))) pe_non pe_str))), ?_⟩
    refine ⟨v, rfl, v, d, rfl, hd, hb, fun H1 s1 => ⟨_, rfl, ?_⟩⟩
    unfold dueV at q
    cases hm : mirD d with
    | false =>
      rw [hm, if_neg Bool.false_ne_true] at q
      exact iteT (q H1 s1)
    | true =>
    refine iteF ?_
    rw [hm, if_pos rfl] at q
    obtain ⟨ds, rfl, _⟩ := mir_tup hm
    obtain ⟨ed, hM⟩ := mir_of hm
    have en : intsD (.tuple ds) = ds.map RV.intD := rfl
    rw [en] at q
    generalize ds.map RV.intD = ns at ed hM q
    rw [ed] at hd
    obtain ⟨a, rfl, hA⟩ := dq_dI hd
    refine ⟨v', rfl, .ref a, rfl, a, v', ns, d', rfl, sqT_same s1 hA, hM, Dq.same s1 hd', hb', fun H2 s2 => ⟨_, rfl, ?_⟩⟩
    have z := q H2 (s1.trans s2)
    cases hs : stpD ns d' with
    | true =>
      rw [hs, if_pos rfl] at z
      exact iteT z
    | false =>
      rw [hs, if_neg Bool.false_ne_true] at z
      exact iteF z
end
end K2
set_option maxHeartbeats 4000000
namespace K2
open PySem PySem.Spec PyProof.Rows L2 RV
/-- RingError, and what NoRule is -/
structure RErr (K : PySem.W.Frag) (mg : Str → Option Value) (CN CR : Addr) : Prop where
  gR : mg "RingError" = some (.ref CR)
  gV : mg "ValueError" = none
  m : PySem.W.exmOne K (.ref CN) (.ref CN) = some true
  iR : PySem.W.kitOne K (.ref CN) (.ref CR) = some true
  iV : PySem.W.kitOne K (.ref CN) (.type "ValueError") = some true
  xf : XfC K CN
theorem call_reprK {X : Cx} {K : PySem.W.Frag} (hK : X.K = K) (S : ∃ o, K.lookup sysModules = some o) (gd : X.A.guards = some []) (hu : X.A.units + 65 < cLine) : CallR X (.builtin "repr") (fun xs H Q => ∃ (a : Addr) (d : PyData), xs = [.ref a] ∧ Dq K H (.ref a) d ∧ ShowsQ d ∧ Q (.str d.shown) H) := by
  subst hK
  exact call_reprQ S gd hu
section
variable {P : Program} {w : World} {K : PySem.W.Frag} {mg : Str → Option Value} {base : Heap}
/-! ### _law_found -/
abbrev nFound : List Str := ["_law_mirrors_here", "_law_steps_here", "_law_rule", "e"]
theorem scFound : FnScope nFound ["_law_mirrors_here", "_law_steps_here"] (defScope sFound) := ⟨rfl, rfl, rfl, by decide +kernel, rfl, by decide +kernel, by decide +kernel⟩
def spFound (K : PySem.W.Frag) : Sp := fun vs H Q _ => ∃ (v v' : V) (d d' : PyData), vs = [v, v'] ∧ Dq K H v d ∧ Dq K H v' d' ∧ d.bulk ≤ 1000 ∧ d'.bulk ≤ 1000 ∧ ShowsQ (.tuple [d, d']) ∧ ∀ H', Same H H' → Q (dueV d d') H'
theorem ok_found {f fI C CN CR fN cda cc : Addr} {fd dI_ fdN : FuncData} (F : Fun K "_law_found" "_law_found" sFound f fd) (T : Txt K mg C) (N : NRule P K mg CN fN cda cc fdN) (R : RErr K mg CN CR) (Sy : ∃ o, K.lookup sysModules = some o)
    (Mm : Mk K C fI) (bI : Binds K dI_ ["self", "mirrors", "steps"] []) (GI : FnOk P w K mg base (L2.CX P w) 6 fI dI_ ["self", "mirrors", "steps"] (spInitA K C CN)) (B : Bare mg) : FnG P w K mg base CX0 8 f fd ["_law_mirrors_here", "_law_steps_here"] (spFound K) := by
  refine okG F scFound (fun vs H Q E h => ?_) (fun cdv A outer s H vs Q E gd hr h => ?_)
  · obtain ⟨v, v', d, d', rfl, _⟩ := h
    rfl
  · obtain ⟨v, v', d, d', rfl, hd, hd', hb, hb', sh, q⟩ := h
    have hu := un65 hr
    refine ⟨_, pss_cons (ps_try_as (i := 3) rfl rfl scFound.nd rfl rfl ⟨rfl, by decide, .inl N.g⟩ takes0
        (fun W pn xe tk _ => pss_one (ps_set (i := 2) scFound.nd rfl (Or.inl rfl) (pe_makeS Mm GI hr (by rfl) T.mgC bI (fun σ => passAt tk σ) (pa_cons (pv 0) (pa_cons (pv 1) pa_nil)))))
        (fun ea oe cls d pn hz hf => pss_one (ps_ret (pe_ifExp (PW.pt (pw_and (pt_val (pe_callB (call_isY (K := K) rfl hz) (by rfl) B.isinstance (by decide +kernel) (pa_cons (pv 3) (pa_cons (pe_glob (v := .ref CR) rfl R.gR rfl) pa_nil))))
          (pw_and1 (pt_val (pe_callB (call_isY (K := K) rfl hz) (by rfl) B.isinstance (by decide +kernel) (pa_cons (pv 3) (pa_cons (pe_bltn (v := .ty "ValueError") (by rfl) R.gV (by decide +kernel) rfl) pa_nil)))))))
          (pe_xf R.xf N.no hz hf (pv 3)) pe_str))))
      (pss_one (ps_ret (pe_ifExp (pt_cmpR op_eq (pe_callB (call_reprK (K := K) rfl Sy gd hu) (by rfl) B.repr (by decide +kernel) (pa_cons (pe_tup (pa_cons (pe_fld (pv 2) rfl) (pa_cons (pe_fld (pv 2) rfl) pa_nil))) pa_nil)) (pe_callB (call_reprK (K := K) rfl Sy gd hu) (by rfl) B.repr (by decide +kernel) (pa_cons (pe_tup (pa_cons (pv 0) (pa_cons (pv 1) pa_nil))) pa_nil)) (nomark _)) pe_non pe_str))), ?_⟩
    refine ⟨v, rfl, v', rfl, fun x dx nx nd ne => ?_⟩
    have s0 : Same H (upd (upd H dx (.own x)) x (.ins C dx [])) := fun c o e => by
      rw [upd_ne (ne_of_none e nx), upd_ne (ne_of_none e nd)]; exact e
    refine ⟨x, dx, v, v', d, d', rfl, upd_same, Dq.same s0 hd, Dq.same s0 hd', hb, hb', fun hm e H' s' hx => ?_, fun hm hs e H' s' hx => ?_, fun hm hs a b ns ps e1 e2 e3 e4 hA hBT M S H' t k hp hF => ?_⟩
    · refine ⟨true, R.m, fun _ ea hea => ?_, fun z => nomatch z⟩
      have z := q H' (s0.trans s')
      unfold dueV at z
      rw [hm, if_neg Bool.false_ne_true] at z
      exact ⟨.ref ea, rfl, .ref CR, _, rfl, fun u hu => hu, R.iR, true, rfl, iteT ⟨.ref ea, rfl, .ty "ValueError", _, rfl, fun u hu => hu, R.iV, true, rfl, iteT ⟨.ref ea, rfl, rfl, rfl, e, _, .str "mirrors", rfl, hx, rfl, z⟩⟩⟩
    · refine ⟨true, R.m, fun _ ea hea => ?_, fun z => nomatch z⟩
      have z := q H' (s0.trans s')
      unfold dueV at z
      rw [hm, if_pos rfl, hs, if_neg Bool.false_ne_true] at z
      exact ⟨.ref ea, rfl, .ref CR, _, rfl, fun u hu => hu, R.iR, true, rfl, iteT ⟨.ref ea, rfl, .ty "ValueError", _, rfl, fun u hu => hu, R.iV, true, rfl, iteT ⟨.ref ea, rfl, rfl, rfl, e, _, .str "steps", rfl, hx, rfl, z⟩⟩⟩
    · subst e1 e2
      have sH : Same H H' := fun c o z => k c o (s0 c o z) (ne_of_none z nx)
      refine ⟨rfl, ?_⟩
      refine nx_step ?_
      dsimp only
      refine ⟨.ref x, rfl, x, C, dx, _, _, rfl, hp, T.cl, T.nM, flds_m _ _ _, .ref x, rfl, x, C, dx, _, _, rfl, hp, T.cl, T.nS, flds_s _ _ _, (by show 2 ≤ sizeLine; decide), fun U1 nV => ?_⟩
      have sV := same_upd (o := .tup [.ref a, .ref b]) nV
      have sHV := sH.trans sV
      refine ⟨U1, .tuple [d, d'], rfl, .tup (tupNew upd_same) (.cons (Dq.same sHV hd) (.cons (Dq.same sHV hd') .nil)), sh, .ref a, rfl, .ref b, rfl, (by show 2 ≤ sizeLine; decide), fun V2 nV2 => ?_⟩
      have sV2 := same_upd (o := .tup [.ref a, .ref b]) nV2
      have sH2 := sHV.trans sV2
      have z := q _ sH2
      unfold dueV at z
      rw [hm, if_pos rfl, hs, if_pos rfl] at z
      exact ⟨V2, .tuple [d, d'], rfl, .tup (tupNew upd_same) (.cons (Dq.same sH2 hd) (.cons (Dq.same sH2 hd') .nil)), sh, rfl, true, congrArg V.bl (decide_eq_true rfl), iteT z⟩
end
end K2
set_option maxHeartbeats 4000000
namespace K2
open PySem PySem.Spec PyProof.Rows L2 RV
section
variable {P : Program} {w : World} {K : PySem.W.Frag} {mg : Str → Option Value} {base : Heap}
/-! ### _law_odd -/
def topD : PyData → Nat
  | .tuple ds => ds.length
  | _ => 0
theorem scOdd : FnScope ["_law_pail_here", "_law_thing", "_law_some"] ["_law_pail_here", "_law_thing"] (defScope sOdd) := ⟨rfl, rfl, rfl, by decide +kernel, rfl, by decide +kernel, by decide +kernel⟩
/-- a new thing, drawn: it stands whatever the pail does -/
def Gets (K : PySem.W.Frag) (H : Hp) (L : List Addr) (p : Addr) (t : Nat) (Q : VK) (n m c : Nat) (top : Nat) : Prop := ∀ (H' : Hp) (v : V) (d : PyData) (t' : Nat), t' ≤ t + c → PailAt H' p t' → But p H H' → Dq K (rmS L H') v d → Gq d n m → topD d ≤ top → Q v H'
/-- the lists that are left out, the pail among them -/
def Lk (p : Addr) (L : List Addr) (H : Hp) : Prop := p ∈ L ∧ Lis L H
theorem Lk.but {p : Addr} {L : List Addr} {H H' : Hp} {t : Nat} (h : Lk p L H) (b : But p H H') (hp : PailAt H' p t) : Lk p L H' := ⟨h.1, fun c hc => by
  by_cases z : c = p
  · rw [z]
    obtain ⟨x, y, e, _⟩ := hp
    exact ⟨_, e⟩
  · obtain ⟨ys, e⟩ := h.2 c hc
    exact ⟨ys, b _ _ e z⟩⟩
theorem Lk.same {p : Addr} {L : List Addr} {H H' : Hp} (h : Lk p L H) (s : Same H H') : Lk p L H' := ⟨h.1, h.2.same s⟩
theorem Lk.mono {p : Addr} {L : List Addr} {H H' : Hp} (h : Lk p L H) (b : But p H H') : Same (rmS L H) (rmS L H') := rmS_but fun c o e nc => b c o e fun z => nc (by rw [z]; exact h.1)
theorem Lk.add {p D : Addr} {L : List Addr} {H : Hp} {ys : List V} (h : Lk p L H) (e : H D = some (.lst ys)) : Lk p (D :: L) H := ⟨List.mem_cons_of_mem _ h.1, h.2.add e⟩
theorem Lk.set {p D : Addr} {L : List Addr} {H : Hp} {ys : List V} (h : Lk p L H) : Lk p L (upd H D (.lst ys)) := ⟨h.1, h.2.set⟩
def spOdd (K : PySem.W.Frag) : Sp := fun vs H Q _ => ∃ (L : List Addr) (p : Addr) (t : Nat) (i : Int), vs = [.ref p, .int i] ∧ Lk p L H ∧ PailAt H p t ∧ t ≤ 1900 ∧ 0 ≤ i ∧ i < 10 ^ 35 ∧ Gets K H L p t Q 1 60 1 60
theorem ok_odd {f fO fD : Addr} {fd dO dD : FuncData} (F : Fun K "_law_odd" "_law_odd" sOdd f fd) (DO : DefAt K mg "_law_of" sOf ["_law_pail_here", "_law_some"] fO dO) (DD : DefAt K mg "_law_draw" sDraw ["_law_pail_here", "_law_many"] fD dD) (B : Bare mg) : FnOk P w K mg base CX0 3 f fd ["_law_pail_here", "_law_thing"] (spOdd K) := by
  have GO : FnOk P w K mg base CX0 2 fO dO ["_law_pail_here", "_law_some"] (spOf K) := ok_of DO.fn DD B
  refine F.ok scOdd (fun vs H Q E h => ?_) (fun cdv A outer s H vs Q E hr h => ?_)
  · obtain ⟨L, p, t, i, rfl, _⟩ := h
    rfl
  · obtain ⟨L, p, t, i, rfl, hLk, hp, ht, i0, i1, q⟩ := h
    have one : (1 : Nat) ≤ sizeLine := by decide
    refine ⟨_, pss_cons (ps_set (i := 2) scOdd.nd rfl (Or.inl rfl) (pe_lst (pa_cons (pe_op op_add (pv 1) pe_int) (pa_cons (pe_op op_sub (pv 1) pe_int) (pa_cons (pe_op op_sub pe_int (pv 1)) (pa_cons pe_int (pa_cons (pe_op op_pow pe_int pe_int) (pa_cons (pe_cmpR op_eq (pv 1) pe_int (nomark _)) (pa_cons (pe_callTy call_str_int (by rfl) B.str (by decide +kernel) (pa_cons (pv 1) pa_nil)) (pa_cons pe_non
        (pa_cons (pe_tup (pa_cons (pv 1) pa_nil)) (pa_cons (pe_lst (pa_cons (pv 1) pa_nil)) (pa_cons pe_dnewK pa_nil)))))))))))))
      (pss_one (ps_ret (pe_call GO hr (by rfl) DO.mg DO.fn.kp DO.bi .nil pass0 (pa_cons (pv 0) (pa_cons (pv 2) pa_nil))))), ?_⟩
    have lg : i.natAbs.log2 < 1920 := by
      have h1 : i.natAbs < 2 ^ 200 := Nat.lt_of_lt_of_le (show i.natAbs < 10 ^ 35 by omega) (by decide)
      by_cases z : i.natAbs = 0
      · rw [z]; decide
      · exact Nat.lt_of_lt_of_le ((Nat.log2_lt z).mpr h1) (by decide)
    refine ⟨.int i, rfl, _, _, rfl, rfl, .int i, rfl, _, _, rfl, rfl, .int i, rfl, _, _, rfl, rfl, 10, 29, rfl, rfl, ⟨by decide, by decide, by decide⟩, .int i, rfl, rfl, .int i, rfl, i, rfl, lg, .int i, rfl, one, fun T nT => ⟨.int i, rfl, one, fun N nN => fun D nD => ⟨(by show 11 ≤ sizeLine; rw [sizeLine_eq]; omega), fun S nS => ?_⟩⟩⟩
    have sT := same_upd (o := .tup [.int i]) nT
    have sN := same_upd (o := .lst [.int i]) nN
    have sD := same_upd (o := .dK []) nD
    obtain ⟨n, rfl⟩ : ∃ n : Nat, i = (n : Int) := ⟨i.toNat, by omega⟩
    have es : Str.ofString (toString ((n : Nat) : Int)) = num n := rfl
    dsimp only
    rw [es]
    generalize hL : [V.int ((n : Int) + 1), V.int ((n : Int) - 1), V.int (0 - (n : Int)), V.int 8, V.int ((10 : Int) ^ (29 : Int).toNat), V.bl (decide (V.int (n : Int) = V.int 1)), V.str (num n), V.non, V.ref T, V.ref N, V.ref D] = xs
    have sS := same_upd (o := .lst xs) nS
    have hNL : N ∉ L := (hLk.same sT).2.fresh nN
    have hDL : D ∉ L := ((hLk.same sT).same sN).2.fresh nD
    have hSp : S ≠ p := pail_ne (pail_same (pail_same (pail_same hp sT) sN) sD) nS
    have s3 := ((sT.trans sN).trans sD).trans sS
    have hp3 := pail_same hp s3
    have eT3 := ((sN.trans sD).trans sS) _ _ (upd_same (H := H) (a := T) (o := .tup [.int (n : Int)]))
    have eN3 := (sD.trans sS) _ _ (upd_same (H := upd H T (.tup [.int (n : Int)])) (a := N) (o := .lst [.int (n : Int)]))
    have eD3 := sS _ _ (upd_same (H := upd (upd H T (.tup [.int (n : Int)])) N (.lst [.int (n : Int)])) (a := D) (o := .dK []))
    have eS3 : (upd (upd (upd (upd H T (.tup [.int (n : Int)])) N (.lst [.int (n : Int)])) D (.dK [])) S (.lst xs)) S = some (.lst xs) := upd_same
    generalize upd (upd (upd (upd H T (.tup [.int (n : Int)])) N (.lst [.int (n : Int)])) D (.dK [])) S (.lst xs) = H3 at s3 hp3 eT3 eN3 eD3 eS3 ⊢
    have hL3 := hLk.same s3
    have hA : DqAll K (rmS L H3) xs [.int ((n : Int) + 1), .int ((n : Int) - 1), .int (0 - (n : Int)), .int 8, .int ((10 : Int) ^ (29 : Int).toNat), .bool (decide (V.int (n : Int) = V.int 1)), .str (num n), .none, .tuple [.int (n : Int)], .list [.int (n : Int)], .dict []] := by
      rw [← hL]
      exact .cons (.int _) (.cons (.int _) (.cons (.int _) (.cons (.int _) (.cons (.int _) (.cons (.bl _) (.cons (.str _) (.cons .non (.cons (.tup (rmS_tup hL3.2 (tupNew eT3)) (.cons (.int _) .nil)) (.cons (.lst (rmS_at eN3 hNL) (.cons (.int _) .nil)) (.cons (.dct (rmS_at eD3 hDL) .nil) .nil))))))))))
    have lx : xs.length = 11 := by rw [← hL]; rfl
    refine ⟨.ref p, rfl, .ref S, rfl, p, S, t, xs, rfl, hp3, by omega, lstNew eS3, hSp, by omega, by omega, fun j v t' H' gv ht' hp' b' => ?_⟩
    obtain ⟨e, ge, he⟩ := DqAll.at hA gv
    have hN : n < 10 ^ 35 := by omega
    have one_ : ∀ c : Int, c.natAbs < 10 ^ 40 → Gq (.int c) 1 60 ∧ topD (.int c) ≤ 60 := fun c hc => ⟨(gq_int hc).up (by decide) (by decide), Nat.zero_le _⟩
    have good : Gq e 1 60 ∧ topD e ≤ 60 := by
      have hm := List.mem_of_getElem? ge
      simp only [List.mem_cons, List.not_mem_nil, or_false] at hm
      have b1 : Gq (.int (n : Int)) 0 0 := gq_int (by omega)
      rcases hm with rfl | rfl | rfl | rfl | rfl | rfl | rfl | rfl | rfl | rfl | rfl
      · exact one_ _ (by omega)
      · exact one_ _ (by omega)
      · exact one_ _ (by omega)
      · exact one_ _ (by decide)
      · exact one_ _ (by decide)
      · exact ⟨(gq_bool _).up (by decide) (by decide), Nat.zero_le _⟩
      · exact ⟨(gq_str (low_num n) (num_len2 (by omega))).up (by decide) (by decide), Nat.zero_le _⟩
      · exact ⟨gq_none.up (by decide) (by decide), Nat.zero_le _⟩
      · refine ⟨gq_tup.mpr ⟨fun e he => ?_, ?_⟩, by show 1 ≤ 60; decide⟩
        · rw [List.mem_singleton.mp he]; exact b1.up (by decide) (by decide)
        · rw [bulk_one]; have := b1.bk; omega
      · refine ⟨gq_lst.mpr ⟨fun e he => ?_, ?_⟩, Nat.zero_le _⟩
        · rw [List.mem_singleton.mp he]; exact b1.up (by decide) (by decide)
        · rw [bulk_one]; have := b1.bk; omega
      · exact ⟨gq_nil.up (by decide) (by decide), Nat.zero_le _⟩
    exact q H' v e t' (by omega) hp' ((But.of s3).trans b') (Dq.same (hL3.mono b') he) good.1 good.2
end
end K2
set_option maxHeartbeats 4000000
namespace K2
open PySem PySem.Spec PyProof.Rows L2 RV
theorem cut_last (xs : List V) : cutV xs none (some (-1)) = xs.take (xs.length - 1) := by
  unfold cutV
  have e1 : HT.sIx xs.length xs.length (some (-1)) = xs.length - 1 := by
    unfold HT.sIx
    show (if (-1 : Int) < 0 then (-1 + (xs.length : Int)).toNat else _) = _
    rw [if_pos (by decide)]; omega
  have e2 : HT.sIx xs.length 0 none = 0 := rfl
  rw [e1, e2, List.drop_zero, Nat.sub_zero]
/-- things as rings are made of: so deep -/
def LvN : Nat → PyData → Prop
  | 0, _ => False
  | k + 1, d => (∃ i, d = .int i ∧ 0 ≤ i ∧ i < 10 ^ 35) ∨ ∃ ds, d = .tuple ds ∧ ∀ e ∈ ds, LvN k e
theorem eqv_nil (ds : List PyData) : PyData.eqv (.tuple ds) (.tuple []) = decide (ds.length = 0) := by
  cases ds <;> simp [PyData.eqv, PyData.eqvAll]
theorem shaped_nil : SeqAt.shaped (.tuple []) = true := by
  have h1 : (PyData.tuple []).canLay0 = true := by simp only [PyData.canLay0, PyData.canLayAll0]
  have h2 : (PyData.tuple []).depth ≤ 64 := by simp only [PyData.depth, PyData.depthAll]; omega
  show ((PyData.tuple []).canLay0 && decide ((PyData.tuple []).depth ≤ 64)) = true
  rw [h1, decide_eq_true h2]; rfl
theorem LvN.dp {K : PySem.W.Frag} {H : Hp} : ∀ {k : Nat} {d : PyData} {v : V}, LvN k d → Dq K H v d → Dp K H v d
  | 0, _, _, h, _ => h.elim
  | k + 1, _, _, h, hd => by
    rcases h with ⟨i, rfl, _⟩ | ⟨ds, rfl, al⟩
    · cases hd
      exact .int i
    · cases hd with
      | tup hT hA =>
        refine .tup hT ?_
        have go : ∀ {vs : List V} {ds : List PyData}, (∀ e ∈ ds, LvN k e) → DqAll K H vs ds → DpAll K H vs ds := by
          intro vs
          induction vs with
          | nil =>
            intro ds _ h
            cases h
            exact .nil
          | cons v vs ih =>
            intro ds al h
            cases h with
            | cons h1 h2 => exact .cons (LvN.dp (al _ (List.mem_cons_self ..)) h1) (ih (fun e he => al e (List.mem_cons_of_mem _ he)) h2)
        exact go al hA
theorem LvN.lay : ∀ {k : Nat} {d : PyData}, LvN k d → d.canLay0 = true
  | 0, _, h => h.elim
  | k + 1, d, h => by
    rcases h with ⟨i, rfl, _⟩ | ⟨ds, rfl, al⟩
    · simp [PyData.canLay0]
    · simp only [PyData.canLay0]
      exact lay_all.mpr fun e he => LvN.lay (al e he)
theorem LvN.shaped {k n : Nat} {d : PyData} (h : LvN k d) (hd : d.depth ≤ n) (hn : n ≤ 64) : SeqAt.shaped d = true := by
  show (d.canLay0 && decide (d.depth ≤ 64)) = true
  rw [h.lay, decide_eq_true (Nat.le_trans hd hn)]; rfl
section
variable {P : Program} {w : World} {K : PySem.W.Frag} {mg : Str → Option Value} {base : Heap}
/-! ### _law_bent -/
abbrev nBent : List Str := ["_law_pail_here", "_law_thing", "_law_lot", "_law_deep", "_law_at"]
theorem scBent : FnScope nBent ["_law_pail_here", "_law_thing"] (defScope sBent) := ⟨rfl, rfl, rfl, by decide +kernel, rfl, by decide +kernel, by decide +kernel⟩
def spB (K : PySem.W.Frag) : Nat → Sp
  | 0 => fun _ _ _ _ => False
  | k + 1 => fun vs H Q _ => ∃ (L : List Addr) (p : Addr) (t : Nat) (v : V) (d : PyData) (n m : Nat), vs = [.ref p, v] ∧ Lk p L H ∧ PailAt H p t ∧ t + 5 * (k + 1) ≤ 1800 ∧ Dq K (rmS L H) v d ∧ LvN (k + 1) d ∧ Gq d n m ∧ n ≤ 50 ∧ m ≤ 1000 ∧ Gets K H L p t Q (n + 2) (2 * m + 60) (4 * (k + 1)) (2 * topD d + 60)
theorem ok_bent {f fD fO fF : Addr} {fd dD dO dF : FuncData} (D : DefAt K mg "_law_bent" sBent ["_law_pail_here", "_law_thing"] f fd) (DD : DefAt K mg "_law_draw" sDraw ["_law_pail_here", "_law_many"] fD dD) (DO : DefAt K mg "_law_odd" sOdd ["_law_pail_here", "_law_thing"] fO dO) (DF : DefAt K mg "_law_of" sOf ["_law_pail_here", "_law_some"] fF dF) (B : Bare mg) :
    ∀ k, FnOk P w K mg base CX0 (3 + k) f fd ["_law_pail_here", "_law_thing"] (spB K k)
  | 0 => ⟨fun _ _ _ _ h => h.elim, fun _ _ _ _ _ _ _ _ _ _ _ _ _ h => h.elim⟩
  | k + 1 => by
    have G := ok_bent D DD DO DF B k
    have GD : FnOk P w K mg base CX0 1 fD dD ["_law_pail_here", "_law_many"] spDraw := ok_draw DD.fn
    have GO : FnOk P w K mg base CX0 3 fO dO ["_law_pail_here", "_law_thing"] (spOdd K) := ok_odd DO.fn DF DD B
    refine D.fn.ok scBent (fun vs H Q E h => ?_) (fun cdv A outer s H vs Q E hr h => ?_)
    · obtain ⟨L, p, t, v, d, n, m, rfl, _⟩ := h
      rfl
    · obtain ⟨L, p, t, v, d, n, m, rfl, hLk, hp, ht, hd, lv, gd, n50, m1, q⟩ := h
      have r1 := hr.mono (show 1 ≤ 3 + k by omega)
      have r3 := hr.mono (show 3 ≤ 3 + k by omega)
      have one : (1 : Nat) ≤ sizeLine := by decide
      refine ⟨_, pss_cons (ps_par (i := 2) (j := 3) (by rfl) scBent.nd rfl rfl (by decide) rfl rfl (pa_cons (pe_call GD r1 (by rfl) DD.mg DD.fn.kp DD.bi .nil pass0 (pa_cons (pv 0) (pa_cons pe_int pa_nil))) (pa_cons (pe_call GD r1 (by rfl) DD.mg DD.fn.kp DD.bi .nil pass0 (pa_cons (pv 0) (pa_cons pe_int pa_nil))) pa_nil)) (by rfl))
        (pss_cons (ps_if (pt_not (pt_val (pe_callB call_isi (by rfl) B.isinstance (by decide +kernel) (pa_cons (pv 1) (pa_cons (pe_bltn (v := .ty "tuple") (by rfl) B.tuple (by decide +kernel) rfl) pa_nil)))))
          (pss_one (ps_ret (pe_call GO r3 (by rfl) DO.mg DO.fn.kp DO.bi .nil pass0 (pa_cons (pv 0) (pa_cons (pv 1) pa_nil))))) pss_nil)
        (pss_cons (ps_if (PW.pt (pw_and (pt_cmpR (op_neD hr.units) (pv 1) (pe_tup pa_nil) (nomark _)) (pw_and1 (pt_cmpR op_gt (pv 3) pe_int (nomark _)))))
          (pss_cons (ps_set (i := 4) scBent.nd rfl (Or.inl rfl) (pe_call GD r1 (by rfl) DD.mg DD.fn.kp DD.bi .nil pass0 (pa_cons (pv 0) (pa_cons (pe_callB call_len_seq (by rfl) B.len PySem.boot_len (pa_cons (pv 1) pa_nil)) pa_nil))))
          (pss_one (ps_ret (pe_op op_catW (pe_op op_catW (pe_slice sl_tupW (pv 1) po_none (po_some (pv 4))) (pe_tup (pa_cons (pe_call G hr (by rfl) D.mg D.fn.kp D.bi .nil pass0 (pa_cons (pv 0) (pa_cons (pe_ix ix_tup (pv 1) (pv 4) (fun _ _ => rfl)) pa_nil))) pa_nil)))
            (pe_slice sl_tupW (pv 1) (po_some (pe_op op_add (pv 4) pe_int)) po_none))))) pss_nil)
        (pss_one (ps_ret (pe_ix ix_list (pe_lst (pa_cons (pe_slice sl_tupW (pv 1) (po_some pe_int) po_none) (pa_cons (pe_slice sl_tupW (pv 1) po_none (po_some (pe_un un_neg pe_int))) (pa_cons (pe_op op_catW (pv 1) (pe_slice sl_tupW (pv 1) po_none (po_some pe_int))) (pa_cons (pe_backT (pv 1)) (pa_cons (pe_callTy call_list_of (by rfl) B.list (by decide +kernel) (pa_cons (pv 1) pa_nil))
            (pa_cons (pe_tup (pa_cons (pv 1) pa_nil)) (pa_cons (pe_op op_catW (pv 1) (pe_tup (pa_cons pe_int pa_nil))) pa_nil)))))))) (pv 2) (fun _ _ => rfl)))))), ?_⟩
      refine ⟨.ref p, rfl, p, t, 7, rfl, hp, by omega, by decide, by decide, fun lot t1 H1 l0 l7 ht1 hp1 b1 => ⟨.ref p, rfl, p, t1, 4, rfl, hp1, by omega, by decide, by decide, fun deep t2 H2 d0 d5 ht2 hp2 b2 => ?_⟩⟩
      refine ⟨.int lot, .int deep, rfl, ?_⟩
      dsimp only
      have b12 := b1.trans b2
      have hL2 := hLk.but b12 hp2
      have hd2 := Dq.same (hLk.mono b12) hd
      have hdd := Dq.same rmS_same hd2
      refine ⟨v, rfl, v, .ty "tuple", _, _, _, rfl, .ty "tuple", tyQ hdd, kit_D (.inr (.inr (.inl rfl))), _, rfl, ?_⟩
      rw [isi_tup]
      have lv0 := lv
      rcases lv with ⟨i, rfl, i0, i1⟩ | ⟨ds, rfl, lv⟩
      · cases hd
        refine iteT ⟨.ref p, rfl, .int i, rfl, L, p, t2, i, rfl, hL2, hp2, by omega, i0, i1, fun H' v' d' t' ht' hp' b' dp' g' tp' => ?_⟩
        exact q H' v' d' t' (by omega) hp' (b12.trans b') dp' (g'.up (by omega) (by omega)) (by omega)
      · refine iteF ?_
        cases hd2 with
        | tup hT0 hA0 =>
        rename_i a xs
        have hT : SqT K H2 a xs := sqT_same rmS_same hT0
        have hl := DqAll.len hA0
        obtain ⟨n', rfl⟩ : ∃ n', n = n' + 1 := by
          have z := gd.dep
          simp only [PyData.depth] at z
          exact ⟨n - 1, by omega⟩
        have g59 := (gq_tup (n := n')).mp gd
        have bl := bulk_len ds
        have ht2' : topD (.tuple ds) = ds.length := rfl
        rw [ht2'] at q
        obtain ⟨px, py, ep, pz⟩ := hp2
        have hp2 : PailAt H2 p t2 := ⟨px, py, ep, pz⟩
        refine seq_mid (fun σ H' => σ = [some (.ref p), some (.ref a), some (.int lot), some (.int deep), none] ∧ H' = H2) (fun σ H3 h => ?_) (fun tail => tail _ _ ⟨rfl, rfl⟩)
        obtain ⟨rfl, rfl⟩ := h
        refine seq_mid (fun σ H' => σ = [some (.ref p), some (.ref a), some (.int lot), some (.int deep), none] ∧ Same H3 H') (fun σ H4 h => ?_) (fun tail => ?_)
        · obtain ⟨rfl, s3⟩ := h
          have hp4 := pail_same hp2 s3
          have hT4 := sqT_same s3 hT
          have hL4 := hL2.same s3
          have hA4 := DqAll.same (rmS_mono s3) hA0
          have b34 : But p H3 H4 := But.of s3
          refine ⟨.ref a, rfl, _, rfl, a, xs, rfl, hT4, fun w1 H5 s5 h5 => ?_⟩
          rw [show (some (1 : Int)) = some ((1 : Nat) : Int) from rfl, cut_from] at h5
          have hT5 := sqT_same s5 hT4
          refine ⟨.ref a, rfl, 1, rfl, _, rfl, a, xs, rfl, hT5, fun w2 H6 s6 h6 => ?_⟩
          rw [cut_last] at h6
          have hT6 := sqT_same s6 hT5
          refine ⟨.ref a, rfl, .ref a, rfl, _, rfl, a, xs, rfl, hT6, fun w3 H7 s7 h7 => ?_⟩
          rw [show (some (1 : Int)) = some ((1 : Nat) : Int) from rfl, cut_to] at h7
          have hT7 := sqT_same s7 hT6
          refine ⟨a, w3, xs, _, rfl, rfl, hT7, h7, by rw [List.length_take, sizeLine_eq]; omega, fun w4 H8 s8 h8 => ?_⟩
          have hT8 := sqT_same s8 hT7
          refine ⟨.ref a, rfl, a, xs, rfl, hT8, fun w5 n5 => ?_⟩
          have s9 := same_upd (o := .tup xs.reverse) n5
          have h9 : SqT K (upd H8 w5 (.tup xs.reverse)) w5 xs.reverse := tupNew upd_same
          generalize upd H8 w5 (.tup xs.reverse) = H9 at s9 h9 ⊢
          have hT9 := sqT_same s9 hT8
          refine ⟨.ref a, rfl, a, _, rfl, .inr hT9, fun w6 n6 => ?_⟩
          have s48 := ((s5.trans s6).trans s7).trans (s8.trans s9)
          have hw6 : w6 ∉ L := (hL4.same s48).2.fresh n6
          have s10 := same_upd (o := .lst xs) n6
          have h10 : (upd H9 w6 (.lst xs)) w6 = some (.lst xs) := upd_same
          generalize upd H9 w6 (.lst xs) = H10 at s10 h10 ⊢
          have hT10 := sqT_same s10 hT9
          refine ⟨.ref a, rfl, one, fun w7 n7 => ?_⟩
          have s11 := same_upd (o := .tup [.ref a]) n7
          have h11 : SqT K (upd H10 w7 (.tup [.ref a])) w7 [.ref a] := tupNew upd_same
          generalize upd H10 w7 (.tup [.ref a]) = H11 at s11 h11 ⊢
          have hT11 := sqT_same s11 hT10
          refine ⟨.ref a, rfl, one, fun u8 n8 => ?_⟩
          have s12 := same_upd (o := .tup [.int 0]) n8
          have h12 : SqT K (upd H11 u8 (.tup [.int 0])) u8 [.int 0] := tupNew upd_same
          generalize upd H11 u8 (.tup [.int 0]) = H12 at s12 h12 ⊢
          have hT12 := sqT_same s12 hT11
          refine ⟨a, u8, xs, _, rfl, rfl, hT12, h12, by rw [sizeLine_eq]; simp only [List.length_cons, List.length_nil]; omega, fun w8 H13 s13 h13 => ?_⟩
          refine ⟨(by show 7 ≤ sizeLine; decide), fun S nS => ?_⟩
          generalize hL : [V.ref w1, V.ref w2, V.ref w4, V.ref w5, V.ref w6, V.ref w7, V.ref w8] = ys
          have s14 := same_upd (o := .lst ys) nS
          have eS : (upd H13 S (.lst ys)) S = some (.lst ys) := upd_same
          generalize upd H13 S (.lst ys) = H14 at s14 eS ⊢
          have z13 := s13.trans s14
          have z12 := s12.trans z13
          have z11 := s11.trans z12
          have z10 := s10.trans z11
          have z9 := s9.trans z10
          have z8 := s8.trans z9
          have z7 := s7.trans z8
          have z6 := s6.trans z7
          have z5 := s5.trans z6
          have hp14 := pail_same hp4 z5
          have hL14 := hL4.same z5
          have b314 : But p H3 H14 := b34.trans (But.of z5)
          have hA14 := DqAll.same (rmS_mono z5) hA4
          have hT14 := rmS_tup hL14.2 (sqT_same z5 hT4)
          have dA : Dq K (rmS L H14) (.ref a) (.tuple ds) := .tup hT14 hA14
          have hAll : DqAll K (rmS L H14) ys [.tuple (ds.drop 1), .tuple (ds.take (ds.length - 1)), .tuple (ds ++ ds.take 1), .tuple ds.reverse, .list ds, .tuple [.tuple ds], .tuple (ds ++ [.int 0])] := by
            rw [← hL]
            exact .cons (.tup (rmS_tup hL14.2 (sqT_same z6 h5)) (DqAll.drop 1 hA14)) (.cons (.tup (rmS_tup hL14.2 (sqT_same z7 h6)) (by rw [← hl]; exact DqAll.take _ hA14)) (.cons (.tup (rmS_tup hL14.2 (sqT_same z9 h8)) (DqAll.app hA14 (DqAll.take 1 hA14))) (.cons (.tup (rmS_tup hL14.2 (sqT_same z10 h9)) (DqAll.rev hA14)) (.cons (.lst (rmS_at (z11 _ _ h10) hw6) hA14)
              (.cons (.tup (rmS_tup hL14.2 (sqT_same z12 h11)) (.cons dA .nil)) (.cons (.tup (rmS_tup hL14.2 (sqT_same s14 h13)) (DqAll.app hA14 (.cons (.int 0) .nil))) .nil))))))
          obtain ⟨lt, rfl⟩ : ∃ lt : Nat, lot = (lt : Int) := ⟨lot.toNat, by omega⟩
          have ly : ys.length = 7 := by rw [← hL]; rfl
          obtain ⟨y0, gy⟩ : ∃ y, ys[lt]? = some y := ⟨_, List.getElem?_eq_getElem (by omega)⟩
          obtain ⟨e, ge, he⟩ := DqAll.at hAll gy
          refine ⟨.int (lt : Int), rfl, S, ys, _, y0, rfl, rfl, lstNew eS, atI_nat gy, ?_⟩
          have hm := List.mem_of_getElem? ge
          simp only [List.mem_cons, List.not_mem_nil, or_false] at hm
          have up1 : ∀ e ∈ ds, Gq e (n' + 2) (2 * m + 60) := fun e he => (g59.1 e he).up (by omega) (by omega)
          have i1 : Gq (.int 0) (n' + 2) (2 * m + 60) := (gq_int (by decide)).up (by omega) (by omega)
          have tk := fun c => bulk_take c ds
          have good : Gq e (n' + 1 + 2) (2 * m + 60) ∧ topD e ≤ 2 * ds.length + 60 := by
            rcases hm with rfl | rfl | rfl | rfl | rfl | rfl | rfl
            · refine ⟨gq_tup.mpr ⟨fun e he => up1 e (List.mem_of_mem_drop he), ?_⟩, ?_⟩
              · have := tk 1; omega
              · show (ds.drop 1).length ≤ _; rw [List.length_drop]; omega
            · refine ⟨gq_tup.mpr ⟨fun e he => up1 e (List.mem_of_mem_take he), ?_⟩, ?_⟩
              · have := tk (ds.length - 1); omega
              · show (ds.take _).length ≤ _; rw [List.length_take]; omega
            · refine ⟨gq_tup.mpr ⟨fun e he => ?_, ?_⟩, ?_⟩
              · rcases List.mem_append.mp he with z | z
                · exact up1 e z
                · exact up1 e (List.mem_of_mem_take z)
              · rw [bulk_app]; have := tk 1; omega
              · show (ds ++ ds.take 1).length ≤ _; rw [List.length_append, List.length_take]; omega
            · refine ⟨gq_tup.mpr ⟨fun e he => up1 e (List.mem_reverse.mp he), ?_⟩, ?_⟩
              · rw [bulk_rev]; omega
              · show ds.reverse.length ≤ _; rw [List.length_reverse]; omega
            · exact ⟨gq_lst.mpr ⟨up1, by omega⟩, Nat.zero_le _⟩
            · refine ⟨gq_tup.mpr ⟨fun e he => ?_, ?_⟩, by show 1 ≤ _; omega⟩
              · rw [List.mem_singleton.mp he]; exact gd.up (by omega) (by omega)
              · rw [bulk_one]; have := gd.bk; omega
            · refine ⟨gq_tup.mpr ⟨fun e he => ?_, ?_⟩, ?_⟩
              · rcases List.mem_append.mp he with z | z
                · exact up1 e z
                · rw [List.mem_singleton.mp z]; exact i1
              · rw [bulk_app, bulk_one]; have := (gq_int (n := 0) (by decide)).bk; omega
              · show (ds ++ [PyData.int 0]).length ≤ _; rw [List.length_append]; simp only [List.length_cons, List.length_nil]; omega
          exact q H14 y0 e t2 (by omega) hp14 (b12.trans b314) he good.1 good.2
        · refine ⟨.ref a, rfl, Nat.zero_le _, fun T0 nT0 => ?_⟩
          have sT0 := same_upd (o := .tup []) nT0
          refine ⟨.tuple ds, .tuple [], LvN.dp lv0 (.tup (sqT_same sT0 hT) (DqAll.same (rmS_same.trans sT0) hA0)), .tup (tupNew upd_same) .nil, lv0.shaped gd.dep (by omega), shaped_nil, _, rfl, ?_⟩
          rw [eqv_nil]
          by_cases e0 : ds.length = 0
          · rw [decide_eq_true e0]
            exact iteF (iteF (tail _ _ ⟨rfl, sT0⟩))
          rw [decide_eq_false e0]
          refine iteT ⟨.int deep, rfl, deep, 0, rfl, rfl, _, rfl, ?_⟩
          by_cases e1 : deep > 0
          · rw [decide_eq_true e1]
            refine iteT ?_
            have hp4 := pail_same hp2 sT0
            generalize upd H3 T0 (.tup []) = H4 at sT0 hp4 ⊢
            have hT4 := sqT_same sT0 hT
            refine ⟨.ref p, rfl, .ref a, rfl, a, _, rfl, .inr hT4, p, t2, _, rfl, hp4, by omega, by omega, by omega, fun r t3 H5 r0 r1' ht3 hp5 b5 => ?_⟩
            obtain ⟨rn, rfl⟩ : ∃ rn : Nat, r = (rn : Int) := ⟨r.toNat, by omega⟩
            have hT5 := sqT_pail hp4 b5 hT4
            have hrn : rn < xs.length := by omega
            refine ⟨.ref a, rfl, .int (rn : Int), rfl, _, rfl, a, xs, rfl, hT5, fun w1 H6 s6 h6 => ?_⟩
            rw [cut_to] at h6
            obtain ⟨x0, gx0⟩ : ∃ x0, xs[rn]? = some x0 := ⟨_, List.getElem?_eq_getElem hrn⟩
            obtain ⟨e0', ge0, he0⟩ := DqAll.at hA0 gx0
            have me0 := List.mem_of_getElem? ge0
            have hT6 := sqT_same s6 hT5
            have hp6 := pail_same hp5 s6
            have b36 : But p H3 H6 := ((But.of sT0).trans b5).trans (But.of s6)
            refine ⟨.ref p, rfl, .ref a, rfl, .int (rn : Int), rfl, a, xs, _, x0, rfl, rfl, hT6, atI_nat gx0, ?_⟩
            have lve := lv e0' me0
            obtain ⟨j, rfl⟩ : ∃ j, k = j + 1 := by
              cases k with
              | zero => exact lve.elim
              | succ j => exact ⟨j, rfl⟩
            have ge := g59.1 e0' me0
            have bsum : PyData.bulkAll (ds.take rn) + (e0'.bulk + 1) + PyData.bulkAll (ds.drop (rn + 1)) = PyData.bulkAll ds := by
              rw [← bulk_one, ← bulk_app, ← bulk_app]
              congr 1
              have hrd : rn < ds.length := by omega
              have e1 : ds[rn] = e0' := by
                have z := List.getElem?_eq_getElem hrd
                rw [ge0] at z
                exact (Option.some.inj z).symm
              rw [← e1, List.take_append_getElem, List.take_append_drop]
            refine ⟨L, p, t3, x0, e0', n', e0'.bulk, rfl, hL2.but b36 hp6, hp6, by omega, Dq.same (hL2.mono b36) he0, lve, ⟨ge.sh, ge.lv, ge.dep, Nat.le_refl _⟩, by omega, by omega, fun H7 v7 d7 t7 ht7 hp7 b7 dp7 g7 tp7 => ⟨one, fun U nU => ?_⟩⟩
            have sU := same_upd (o := .tup [v7]) nU
            have h67 := sqT_same sU (sqT_pail hp6 b7 h6)
            refine ⟨w1, U, _, _, rfl, rfl, h67, tupNew upd_same, ?_, fun w2 H8 s8 h8 => ?_⟩
            · rw [List.length_take, sizeLine_eq]
              simp only [List.length_cons, List.length_nil]
              omega
            have b68 : But p H6 H8 := b7.trans (But.of (sU.trans s8))
            have hT8 := sqT_pail hp6 b68 hT6
            refine ⟨.ref a, rfl, .int (rn : Int), rfl, (rn : Int), 1, rfl, rfl, _, rfl, a, xs, rfl, hT8, fun w3 H9 s9 h9 => ?_⟩
            rw [show (rn : Int) + 1 = ((rn + 1 : Nat) : Int) by omega, cut_from] at h9
            refine ⟨w2, w3, _, _, rfl, rfl, sqT_same s9 h8, h9, ?_, fun w4 H10 s10 h10 => ?_⟩
            · rw [List.length_append, List.length_take, List.length_drop, sizeLine_eq]
              simp only [List.length_cons, List.length_nil]
              omega
            have s710 := (sU.trans s8).trans (s9.trans s10)
            have hp10 := pail_same hp7 s710
            have b310 : But p H3 H10 := b36.trans (b7.trans (But.of s710))
            have hL10 := hL2.but b310 hp10
            have hA10 := DqAll.same (hL2.mono b310) hA0
            refine q H10 (.ref w4) (.tuple (ds.take rn ++ [d7] ++ ds.drop (rn + 1))) t7 (by omega) hp10 (b12.trans b310) (.tup (rmS_tup hL10.2 h10) (DqAll.app (DqAll.app (DqAll.take rn hA10) (.cons (Dq.same (rmS_mono s710) dp7) .nil)) (DqAll.drop (rn + 1) hA10))) ?_ ?_
            · refine gq_tup.mpr ⟨fun e he => ?_, ?_⟩
              · rcases List.mem_append.mp he with he | he
                · rcases List.mem_append.mp he with he | he
                  · exact (g59.1 e (List.mem_of_mem_take he)).up (by omega) (by omega)
                  · rw [List.mem_singleton.mp he]
                    exact g7.up (by omega) (by omega)
                · exact (g59.1 e (List.mem_of_mem_drop he)).up (by omega) (by omega)
              · rw [bulk_app, bulk_app, bulk_one]
                have := g7.bk
                omega
            · show (ds.take rn ++ [d7] ++ ds.drop (rn + 1)).length ≤ _
              rw [List.length_append, List.length_append, List.length_take, List.length_drop]
              simp only [List.length_cons, List.length_nil]
              omega
          · rw [decide_eq_false e1]
            exact iteF (tail _ _ ⟨rfl, sT0⟩)
end
end K2
set_option maxHeartbeats 4000000
/-! the pairs that the law gathers -/
namespace K2
open PySem PySem.Spec PyProof.Rows L2 RV
theorem dqInts {K : PySem.W.Frag} {H : Hp} : ∀ ns : List Int, DqAll K H (ns.map V.int) (ns.map PyData.int)
  | [] => .nil
  | n :: ns => .cons (.int n) (dqInts ns)
theorem dqI {K : PySem.W.Frag} {H : Hp} {a : Addr} {ns : List Int} (h : SqT K H a (ns.map V.int)) : Dq K H (.ref a) (dI ns) := .tup h (dqInts ns)
theorem dqTT {K : PySem.W.Frag} {H : Hp} {a : Addr} {ps : List (List Int)} (h : Tups K H a ps) : Dq K H (.ref a) (dTT ps) := by
  obtain ⟨ks, rfl, h2, h3⟩ := h
  refine .tup h2 ?_
  clear h2
  induction ks with
  | nil => exact .nil
  | cons k ks ih => exact .cons (dqI (h3 k (List.mem_cons_self ..))) (ih fun q hq => h3 q (List.mem_cons_of_mem _ hq))
theorem gq_dI {ns : List Int} {m : Nat} (h : ∀ n ∈ ns, n.natAbs < 10 ^ 40) (hl : ns.length ≤ m) : Gq (dI ns) 1 m := by
  refine gq_tup.mpr ⟨fun e he => ?_, ?_⟩
  · obtain ⟨n, hn, rfl⟩ := List.mem_map.mp he
    exact (gq_int (h n hn)).up (Nat.le_refl _) (Nat.zero_le _)
  · rw [bulk_ints]; exact hl
theorem bulk_prs : ∀ ps : List (List Int), (∀ p ∈ ps, p.length ≤ 2) → PyData.bulkAll (ps.map dI) ≤ 3 * ps.length := bulk_dIs
theorem gq_dTT {ps : List (List Int)} {b : Int} (hb : b ≤ 64) (h : ∀ p ∈ ps, Pr b p) (hl : ps.length ≤ 64) : Gq (dTT ps) 2 192 := by
  have l2 := bulk_prs ps (pr_len h)
  refine gq_tup.mpr ⟨fun e he => ?_, by omega⟩
  obtain ⟨p, hp, rfl⟩ := List.mem_map.mp he
  have hs := pr_small hb h p hp
  exact (gq_dI (m := 2) (fun n hn => Nat.lt_of_lt_of_le (hs n hn) (by decide)) (pr_len h p hp)).up (Nat.le_refl _) (by omega)
theorem lv_int {k : Nat} {i : Int} (h : 0 ≤ i ∧ i < 64) : LvN (k + 1) (.int i) := .inl ⟨i, rfl, h.1, by omega⟩
theorem lv_dI {k : Nat} {ns : List Int} (h : ∀ n ∈ ns, 0 ≤ n ∧ n < 64) : LvN (k + 2) (dI ns) := .inr ⟨_, rfl, fun e he => by
  obtain ⟨n, hn, rfl⟩ := List.mem_map.mp he
  exact lv_int (h n hn)⟩
theorem lv_dTT {k : Nat} {ps : List (List Int)} (h : ∀ p ∈ ps, Pr 64 p) : LvN (k + 3) (dTT ps) := .inr ⟨_, rfl, fun e he => by
  obtain ⟨p, hp, rfl⟩ := List.mem_map.mp he
  refine lv_dI fun n hn => ?_
  obtain ⟨x, y, rfl, hx, hy⟩ := h p hp
  simp only [List.mem_cons, List.not_mem_nil, or_false] at hn
  rcases hn with rfl | rfl
  · exact hx
  · exact hy⟩
/-- a gathered pair: two things, neither great -/
def FnP (e : PyData) : Prop := ∃ d d', e = .tuple [d, d'] ∧ Gq d 10 1000 ∧ Gq d' 10 1000
theorem FnP.mk {d d' : PyData} {n m n' m' : Nat} (h : Gq d n m) (h' : Gq d' n' m') (a : n ≤ 10) (b : m ≤ 1000) (a' : n' ≤ 10) (b' : m' ≤ 1000) : FnP (.tuple [d, d']) := ⟨d, d', rfl, h.up a b, h'.up a' b'⟩
theorem two_bulk (d d' : PyData) : PyData.bulkAll [d, d'] = d.bulk + 1 + (d'.bulk + 1) := by simp [PyData.bulkAll]
theorem shows_two {d d' : PyData} (h : Gq d 10 1000) (h' : Gq d' 10 1000) : ShowsQ (.tuple [d, d']) := by
  refine Gq.shows (n := 11) (m := 2002) (gq_tup.mpr ⟨fun e he => ?_, ?_⟩) (by decide) (by decide)
  · simp only [List.mem_cons, List.not_mem_nil, or_false] at he
    rcases he with rfl | rfl
    · exact h.up (Nat.le_refl _) (by decide)
    · exact h'.up (Nat.le_refl _) (by decide)
  · have := h.bk
    have := h'.bk
    rw [two_bulk]; omega
/-- where the law stands -/
structure Stt (K : PySem.W.Frag) (p S u c : Addr) (ns : List Int) (ps : List (List Int)) (H : Hp) (t : Nat) (es : List PyData) : Prop where
  hp : PailAt H p t
  L : Lk p [S, p] H
  pl : PileQ K H [S, p] S es
  ne : S ≠ p
  dm : Dq K (rmS [S, p] H) (.ref u) (dI ns)
  ds : Dq K (rmS [S, p] H) (.ref c) (dTT ps)
  fn : ∀ e ∈ es, FnP e
section
variable {K : PySem.W.Frag} {p S u c : Addr} {ns : List Int} {ps : List (List Int)} {H H' : Hp} {t t' : Nat} {es : List PyData}
theorem Stt.same (h : Stt K p S u c ns ps H t es) (s : Same H H') : Stt K p S u c ns ps H' t es :=
  ⟨pail_same h.hp s, h.L.same s, h.pl.same s, h.ne, Dq.same (rmS_mono s) h.dm, Dq.same (rmS_mono s) h.ds, h.fn⟩
theorem Stt.but (h : Stt K p S u c ns ps H t es) (b : But p H H') (hp : PailAt H' p t') : Stt K p S u c ns ps H' t' es := by
  obtain ⟨m, vs, e, a⟩ := h.pl
  exact ⟨hp, h.L.but b hp, ⟨m, vs, b _ _ e h.ne, DqAll.same (h.L.mono b) a⟩, h.ne, Dq.same (h.L.mono b) h.dm, Dq.same (h.L.mono b) h.ds, h.fn⟩
/-- one pair more -/
theorem Stt.push (h : Stt K p S u c ns ps H t es) {U : Addr} {v w : V} {d e : PyData} (nU : H U = none) (hv : Dq K (rmS [S, p] H) v d) (hw : Dq K (rmS [S, p] H) w e) (f : FnP (.tuple [d, e])) :
    ∃ vs, (upd H U (.tup [v, w])) S = some (.lst vs) ∧ vs.length = es.length ∧ Stt K p S u c ns ps (upd (upd H U (.tup [v, w])) S (.lst (vs ++ [.ref U]))) t (es ++ [.tuple [d, e]]) := by
  have sU := same_upd (o := .tup [v, w]) nU
  have h1 := h.same sU
  obtain ⟨m, vs, eS, a⟩ := h1.pl
  have dU : Dq K (rmS [S, p] (upd H U (.tup [v, w]))) (.ref U) (.tuple [d, e]) := .tup (rmS_tup h1.L.2 (tupNew upd_same)) (.cons (Dq.same (rmS_mono sU) hv) (.cons (Dq.same (rmS_mono sU) hw) .nil))
  have pl1 : PileQ K (upd H U (.tup [v, w])) [S, p] S es := ⟨m, vs, eS, a⟩
  have s2 : Same (rmS [S, p] (upd H U (.tup [v, w]))) (rmS [S, p] (upd (upd H U (.tup [v, w])) S (.lst (vs ++ [.ref U])))) := rmS_but fun x o z nx => by
    rw [upd_ne fun q => nx (by rw [q]; exact List.mem_cons_self ..)]; exact z
  refine ⟨vs, eS, DqAll.len a, pail_set h1.hp h1.ne, h1.L.set, pl1.add eS dU, h.ne, Dq.same s2 h1.dm, Dq.same s2 h1.ds, fun x hx => ?_⟩
  rcases List.mem_append.mp hx with z | z
  · exact h.fn x z
  · rw [List.mem_singleton.mp z]; exact f
/-- a list of pairs joined to it -/
theorem Stt.join (h : Stt K p S u c ns ps H t es) {D : Addr} {HA : Hp} {fs : List PyData} {us : List V} (nD : H D = none) (b : But p H HA) (hpA : PailAt HA p t') (hD : DqAll K (rmS [D, S, p] HA) us fs) (ff : ∀ e ∈ fs, FnP e) :
    ∃ vs, HA S = some (.lst vs) ∧ vs.length = es.length ∧ Stt K p S u c ns ps (upd HA S (.lst (vs ++ us))) t' (es ++ fs) := by
  have hA := h.but b hpA
  obtain ⟨_, vs, e1, a⟩ := h.pl
  have eA := b _ _ e1 h.ne
  have s : Same (rmS [D, S, p] H) (rmS [D, S, p] HA) := rmS_but fun x o e nc => b x o e fun z => nc (by rw [z]; simp)
  have a' : DqAll K (rmS [D, S, p] HA) vs es := DqAll.same ((rmS_more nD).trans s) a
  have s2 : Same (rmS [S, p] HA) (rmS [S, p] (upd HA S (.lst (vs ++ us)))) := rmS_but fun x o z nx => by
    rw [upd_ne fun q => nx (by rw [q]; exact List.mem_cons_self ..)]; exact z
  refine ⟨vs, eA, DqAll.len a, pail_set hpA h.ne, hA.L.set, pileQ_join (List.mem_cons_self ..) a' hD, h.ne, Dq.same s2 hA.dm, Dq.same s2 hA.ds, fun x hx => ?_⟩
  rcases List.mem_append.mp hx with z | z
  · exact h.fn x z
  · exact ff x z
end
end K2
set_option maxHeartbeats 4000000
namespace RV
open PySem PySem.Spec PyProof.Rows L2
/-! ### xs.extend(t), t a tuple; t * k of any size -/
theorem ext_tup (l : Addr) (xa : Array Value) (n : Nat) (b : Addr) (xb : Array Value) (n2 : Nat) (dd : Option Addr) (sl : Array (Option Value)) (c1 : ¬(!xa.isEmpty && Builtin.List.listTooLong (xa.size + xb.size)) = true) (c2 : xa.size ≤ sizeLine) (c3 : xa.size + xb.size ≤ sizeLine + 1) :
    Meets (Builtin.«list.extend» ⟨[.ref l, .ref b], []⟩) (fun _ R s => s.heap.get? l = some { cls := .type "list", dict := none, data := .seq xa n, slots := #[] } ∧ s.heap.get? b = some { cls := .type "tuple", dict := dd, data := .seq xb n2, slots := sl } ∧ R (.ok (.ret Value.none)) { s with heap := s.heap.update l (Obj.mapSeq fun x => x ++ xb), toks := s.toks }) :=
  .of_wp fun _ _ _ _ sh hh => by
    obtain ⟨_, _, _, _, _⟩ := sh
    obtain ⟨hl, hb, h⟩ := hh
    have q1 := AutoSeq1.idx_int
    have q2 := AutoSeq1.sub_tuple_tuple
    have q3 := AutoSeq1.sub_list_list
    have q4 := AutoSeq1.sub_tuple_list
    have q5 := AutoSeq1.sub_list_tuple
    have c4 : (xa ++ xb).size ≤ sizeLine + 1 := by
      rw [Array.size_append]
      exact c3
    wp_walk using (wpAny_updateSeq hl rfl (hz := c2) (_hz' := c4)), AutoSeq1.wpAny_loadPart' hl, AutoSeq1.wpAny_loadPart' hb
    exact ⟨_, rfl, h⟩
section
variable {X : Cx} {K : PySem.W.Frag}
def rExtendT (K : PySem.W.Frag) : V → List V → Hp → VK → Prop := fun x vs H Q => ∃ l b xs zs, x = .ref l ∧ vs = [.ref b] ∧ H l = some (.lst xs) ∧ SqT K H b zs ∧ xs.length + zs.length ≤ sizeLine ∧ Q .non (upd H l (.lst (xs ++ zs)))
theorem mt_extendT : MtM X "list.extend" (rExtendT X.K) := by
  intro pins s σ H x vs v us Q I rx rv h
  obtain ⟨l, b, xs, zs, rfl, rfl, hH, hB, hz, q⟩ := h
  cases rx
  obtain ⟨u, rfl, ru⟩ := rv.one
  cases ru
  obtain ⟨z, its, n, r, hl, e⟩ := I.lstM hH
  obtain ⟨jts, r2, ⟨⟨cls, dd, data, sl⟩, e2, hc, n2, hd⟩, hl2⟩ := I.tuple hB
  simp only at hc hd
  subst hc hd
  have le2 := r2.length
  have le1 := r.length
  have hsz : its.toArray.size + jts.toArray.size ≤ sizeLine := by simp only [List.size_toArray]; omega
  have hlong : ¬ (!its.toArray.isEmpty && Builtin.List.listTooLong (its.toArray.size + jts.toArray.size)) = true := by
    rw [notLongL hsz, Bool.and_false]; simp
  refine call_meets F.slot_list_extend ⟨_, e, rfl⟩ F.entry_list_extend (F.args_list_extend_2 _ _) (ext_tup l its.toArray n b jts.toArray n2 dd sl hlong (by rw [List.size_toArray]; omega) (by omega)) ⟨e, e2, ?_⟩
  refine ⟨.non, _, I.lset (its' := its ++ jts) hH e (by simp) (r.append r2) ?_, rfl, q⟩
  rw [List.length_append]; omega
/-- t * k of any size, k from 2 on, t not empty -/
theorem op_repC {Q : VK} {pins : List (Addr × Obj)} {s : Shared} {σ : L2.St} {H : Hp} {l : Addr} {k : Int} {t : Tok} {xs : List V} (I : Inv X pins σ H s) (hT : SqT X.K H l xs) (hne : xs ≠ []) (h1 : 2 ≤ k) (hz : xs.length * k.toNat ≤ 1000000)
    (q : ∀ p, H p = none → Q (.ref p) (upd H p (.tup (List.replicate k.toNat xs).flatten))) : wpAny (model X.prog X.w) X.A (binaryOp .Mult (.ref l) (.int k t)) (EP X pins σ Q) X.xe s := by
  obtain ⟨its, r, ⟨⟨cls, dd, data, sl⟩, ho, hc, n, hd⟩, hs⟩ := I.tuple hT
  simp only at hc hd
  subst hc hd
  have hle : xs.length = its.length := r.length
  have l1 : 1 ≤ xs.length := List.length_pos_iff.mpr hne
  have hk : k.toNat ≤ 1000000 := by
    have : 1 * k.toNat ≤ xs.length * k.toNat := Nat.mul_le_mul_right _ l1
    omega
  have hi : its.toArray.isEmpty = false := by
    cases its with
    | nil => rw [List.length_nil] at hle; omega
    | cons a b => rfl
  have hm : ((its.toArray.size : Nat) : Int) * k ≤ 1000000 := by
    rw [List.size_toArray, ← hle, show k = ((k.toNat : Nat) : Int) by omega, ← Int.natCast_mul]; omega
  have flen : (List.replicate k.toNat its).flatten.length ≤ sizeLine := by
    rw [PyProof.Rows.lm_len_rep_flat, ← hle, sizeLine_eq, Nat.mul_comm]; omega
  have c0 : (decide (k < -(2 ^ 63)) || decide (k ≥ 2 ^ 63)) = false := by
    rw [Bool.or_eq_false_iff]; exact ⟨decide_eq_false (by omega), decide_eq_false (by omega)⟩
  have c1 : (its.toArray.isEmpty || k == 1) = false := by
    rw [Bool.or_eq_false_iff]; exact ⟨hi, beq_eq_false_iff_ne.mpr (by omega)⟩
  have c2 : (decide (k ≤ 0) || its.toArray.isEmpty) = false := by
    rw [Bool.or_eq_false_iff]; exact ⟨decide_eq_false (by omega), hi⟩
  have c4 : Builtin.Tuple.tupleTooMany (((its.toArray.size : Nat) : Int) * k) = false := by
    simp only [Builtin.Tuple.tupleTooMany, sizeLine_eq]; exact decide_eq_false (by omega)
  refine wpAny_binaryOp_repeat_ref (T := "tuple") (U := "int") (by decide) ⟨_, ho, rfl⟩ (fun s' => typeIs_int s' k t) noFill_tuple_mul F.fills_int_mul F.slot_int_rmul repeat_tuple F.slot_int_index.lookup (call_meets F.slot_int_rmul (typeIs_int s k t) F.entry_int_rmul (F.args_int_rmul_2 _ _) (int_rmul_tuple k t l its.toArray n dd sl) ⟨ho, rfl, ⟨_, ho, rfl⟩, ?_⟩)
  refine call_meets F.slot_tuple_mul ⟨_, ho, rfl⟩ F.entry_tuple_mul (F.args_tuple_mul_2 _ _) (tuple_mulW l its.toArray n dd sl k t c0 c1 c2 (by omega) c4 (by rw [size_rep, List.size_toArray]; exact flen)) ⟨ho, ?_⟩
  rw [size_rep]
  refine ⟨.ref s.heap.objs.size, _, I.laid (t' := s.toks) (o := .tup (List.replicate k.toNat xs).flatten) (fun b ob q => Heap.get?_push_of_some _ q) (Nat.le_refl _) ?_, rfl, q _ (I.hok.fresh (Nat.le_refl _))⟩
  refine ⟨?_, _, r.rep k.toNat, IsTup.new _ _⟩
  rw [PyProof.Rows.lm_len_rep_flat, sizeLine_eq, Nat.mul_comm]; omega
/-- t * k of any size, k from 0 on -/
def rRepB (K : PySem.W.Frag) : R2 := fun x y H Q => ∃ l k xs, x = .ref l ∧ y = .int k ∧ SqT K H l xs ∧ 1 ≤ k ∧ xs ≠ [] ∧ xs.length * k.toNat ≤ 1000000 ∧ ∀ (p : Addr) (H' : Hp), Same H H' → SqT K H' p (List.replicate k.toNat xs).flatten → Q (.ref p) H'
theorem op_repB : OpR X (binaryOp .Mult) (rRepB X.K) := by
  intro pins s σ H x y v u Q I rx ry h
  obtain ⟨l, k, xs, rfl, rfl, hT, h0, hne, hz, q⟩ := h
  cases rx
  obtain ⟨t, rfl⟩ := ry
  by_cases h2 : 2 ≤ k
  · exact op_repC I hT hne h2 hz fun p np => q p _ (same_upd np) (tupNew upd_same)
  have e : k = 1 := by omega
  subst e
  obtain ⟨its, r, ⟨⟨cls, dd, data, sl⟩, ho, hc, n, hd⟩, hs⟩ := I.tuple hT
  simp only at hc hd
  subst hc hd
  refine wpAny_binaryOp_repeat_ref (T := "tuple") (U := "int") (by decide) ⟨_, ho, rfl⟩ (fun s' => typeIs_int s' 1 t) noFill_tuple_mul F.fills_int_mul F.slot_int_rmul repeat_tuple F.slot_int_index.lookup (call_meets F.slot_int_rmul (typeIs_int s 1 t) F.entry_int_rmul (F.args_int_rmul_2 _ _) (int_rmul_tuple 1 t l its.toArray n dd sl) ⟨ho, rfl, ⟨_, ho, rfl⟩, ?_⟩)
  refine call_meets F.slot_tuple_mul ⟨_, ho, rfl⟩ F.entry_tuple_mul (F.args_tuple_mul_2 _ _) (tuple_mul1 l its.toArray n dd sl 1 t (by decide) (by simp)) ⟨ho, ?_⟩
  refine ⟨.ref l, H, I, rfl, q l H (fun _ _ e => e) ?_⟩
  show SqT X.K H l ([xs].flatten)
  rw [List.flatten_cons, List.flatten_nil, List.append_nil]; exact hT
end
end RV
set_option maxHeartbeats 4000000
/-! {elt for a in x for b in y}: ints, two clauses, no tests -/
namespace RV
open PySem PySem.Spec PyProof.Rows L2
/-- two clauses, no tests -/
abbrev sc2 (el ta ia tb ib : Expr) (sco : Scope) (p : Pos) : Expr := .SetComp el [⟨ta, ia, [], 0⟩, ⟨tb, ib, [], 0⟩] sco p
/-- the code of a comprehension's turn: store what comes, then body -/
def turnOf (p : Pos) (tg : Expr) (it : Value) (env : Env) (rest : Sem Fin) : Sem Fin := standAt p >>= fun _ => pyNext it >>= fun r => match r with
  | none => pure (.done .next)
  | some v => letOwnedTupleGo tg it v >>= fun _ => assign tg env v >>= fun _ => rest
/-- a loop of a comprehension's block whose turns are of that form -/
theorem walk {Y : Cx} {el ta ia t1 ib tg : Expr} {sco : Scope} {pp : Pos} {d : Nat} {it : Addr} {acc : Value} {p : Pos} {rest : Sem Fin} {fp : List Addr} {tn : Nat → Heap → Prop} {J : It} {pins : List (Addr × Obj)} {σ0 : L2.St} {H0 : Hp} {s0 : Shared} {g : TG} {tb : L2.St → Hp → (Hp → Prop) → Prop} {R : Result → Shared → Prop}
    (hc : Y.calm = true) (T : Turn Y.prog Y.w Y.K tg J fp it tn) (form : compTurn (sc2 el ta ia t1 ib sco pp) d (.ref it) acc Y.env = turnOf p tg (.ref it) Y.env rest)
    (fpok : ∀ {H s}, Inv Y pins σ0 H s → (∀ b ∈ fp, H b = none) → ∀ b ∈ fp, FpOk Y pins H b) (pg : PG Y tg g) (noerr : ∀ e s, Y.xe e s → False)
    (hb : ∀ (pins' : List (Addr × Obj)) (σ2 : L2.St) (H2 : Hp) (s2 : Shared) (Nx : Hp → Prop), Inv Y pins' σ2 H2 s2 → tb σ2 H2 Nx → wpAny (model Y.prog Y.w) Y.A rest (fun fin s3 => fin = .again (.compLoop (sc2 el ta ia t1 ib sco pp) d (.ref it) acc Y.env) ∧ ∃ H3, Inv Y pins' σ0 H3 s3 ∧ Nx H3) (fun _ _ => False) s2)
    (W : Nat → Nat → Hp → Prop) {m0 : Nat} (I0 : Inv Y pins σ0 H0 s0) (t0 : tn 0 s0.heap) (n0 : ∀ b ∈ fp, H0 b = none) (w0 : W 0 m0 H0)
    (turn : ∀ i m H, W i m H → (J.stop i H ∧ ∀ s, Inv Y pins σ0 H s → R (.ok .next) s) ∨ (J.go i H ∧ ∃ Nx : Hp → Prop, (∀ H', Nx H' → ∃ m', m' < m ∧ W (i + 1) m' H') ∧ ∀ x H', J.yld i H x H' → g x σ0 H' fun σ2 H2 => tb σ2 H2 Nx)) :
    codeAny (model Y.prog Y.w) Y.A (.compLoop (sc2 el ta ia t1 ib sco pp) d (.ref it) acc Y.env) R s0 := by
  refine codeAny_loop rfl (fun n s => ∃ i H, Inv Y pins σ0 H s ∧ tn i s.heap ∧ (∀ b ∈ fp, H b = none) ∧ W i n H) (fun n s h => ?_) m0 ⟨0, H0, I0, t0, n0, w0⟩
  obtain ⟨i, H, I, st, nf, hw⟩ := h
  show wpAny (model Y.prog Y.w) Y.A ((compTurn (sc2 el ta ia t1 ib sco pp) d (.ref it) acc Y.env).onRaise fun x => do noteFrame x Y.env; theTreesLotGoes x) _ _ s
  refine wpAny_noted ?_
  rw [form]
  refine wpAny_bind (wpAny_standAt (wpAny_bind ?_))
  rcases turn i n H hw with ⟨stop, fin⟩ | ⟨go, Nx, hNx, step⟩
  · refine thnF (T.done Y rfl rfl rfl hc i pins s σ0 H (fun _ _ => False) I (fpok I nf) st stop) fun r s1 ⟨hr, I1⟩ => ?_
    subst hr
    exact wpAny_pure (fin s1 I1)
  · refine thnF (T.item Y rfl rfl rfl hc i pins s σ0 H (fun _ _ => False) I (fpok I nf) st go) fun r s1 ⟨u, hr, h1⟩ => ?_
    subst hr
    refine wpAny_bind (thnF h1 fun _ s2 ⟨x, H2, I2, rx, yx, st2, nf2⟩ => ?_)
    have J2 := I2.pinned (fpok I2 nf2) (T.obj _ _ st2)
    refine wpAny_bind (wpAny_mono (pg.run _ s2 σ0 H2 x u _ J2 rx (step x H2 yx)) (fun _ s3 h3 => ?_) fun e s' z => (noerr e s' z).elim)
    obtain ⟨σ3, H3, I3, b3⟩ := h3
    refine thnF (hb _ σ3 H3 s3 Nx I3 b3) fun fin s4 ⟨ef, H4, I4, nx⟩ => ?_
    subst ef
    refine ⟨rfl, ?_⟩
    obtain ⟨m', lt, w'⟩ := hNx H4 nx
    have held : ∀ b ∈ fp, ∀ o, s2.heap.get? b = some o → s4.heap.get? b = some o ∧ H4 b = none := fun b hb' o e => by
      have z := I4.pin (b, o) (List.mem_append_right _ (List.mem_append_right _ (mem_pinsAt hb' e)))
      exact ⟨z.1, z.2.1⟩
    refine ⟨m', lt, i + 1, H4, I4.unpinned, T.keep _ _ _ st2 fun b hb' o e => (held b hb' o e).1, fun b hb' => ?_, w'⟩
    obtain ⟨o, e, _⟩ := T.obj _ _ st2 b hb'
    exact (held b hb' o e).2
/-- a clause's start goes to its loop -/
theorem start_of {P : Program} {w : World} {A : Around} {env : Env} {R : Result → Shared → Prop} {s : Shared} {el ta ia t1 ib : Expr} {sco : Scope} {pp : Pos} {d : Nat} {it acc : Value} (hd : d < 2) (self : ∀ (Q : Value → Shared → Prop) (E : Value → Shared → Prop), Q it s → wpAny (model P w) A (pyIter it) Q E s)
    (h : codeAny (model P w) A (.compLoop (sc2 el ta ia t1 ib sco pp) d it acc env) R s) : codeAny (model P w) A (.compStart (sc2 el ta ia t1 ib sco pp) d it acc env) R s := by
  refine codeAny_of_tree ?_
  show wpAny (model P w) A ((compStart (sc2 el ta ia t1 ib sco pp) d it acc env).onRaise fun x => do noteFrame x env; standAt theWindowsPlace) _ _ s
  refine wpAny_notedAt ?_
  have go : ∀ q : Pos, wpAny (model P w) A (standAt q >>= fun _ => pyIter it >>= fun j => again (.compLoop (sc2 el ta ia t1 ib sco pp) d j acc env)) (fun fin s' => match fin with | .done f => R (.ok f) s' | .again c' => c'.quiet = true ∧ codeAny (model P w) A c' R s') (notedBy (model P w) A env fun e s' => R (.error e) s') s := fun q =>
    wpAny_bind (wpAny_standAt (wpAny_bind (self _ _ (wpAny_pure ⟨rfl, h⟩))))
  have now : wpAny (model P w) A (again (.compLoop (sc2 el ta ia t1 ib sco pp) d it acc env)) (fun fin s' => match fin with | .done f => R (.ok f) s' | .again c' => c'.quiet = true ∧ codeAny (model P w) A c' R s') (notedBy (model P w) A env fun e s' => R (.error e) s') s := wpAny_pure ⟨rfl, h⟩
  obtain rfl | rfl : d = 0 ∨ d = 1 := by omega
  all_goals
    unfold compStart
    show wpAny (model P w) A (ask >>= _) _ _ s
    refine wpAny_bind (wpAny_askSetting (wpAny_ite ?_))
    split
    · exact wpAny_bind (wpAny_pure now)
    · exact wpAny_bind (wpAny_rule (go _))
section
variable {el ta ia t1 ib : Expr} {sco : Scope} {pp : Pos}
theorem form0 (it acc : Value) (env : Env) : compTurn (sc2 el ta ia t1 ib sco pp) 0 it acc env = turnOf ia.pos ta it env
    (eval ib env >>= fun x => standAt ib.pos >>= fun _ => foldedSetIterable ib env x >>= fun x => holding [x] (pyIter x) >>= fun j => runOwn (.compStart (sc2 el ta ia t1 ib sco pp) 1 j acc env) env >>= fun _ => again (.compLoop (sc2 el ta ia t1 ib sco pp) 0 it acc env)) := by rfl
theorem form1 (it acc : Value) (env : Env) : compTurn (sc2 el ta ia t1 ib sco pp) 1 it acc env = turnOf ib.pos t1 it env
    ((eval el env >>= fun v => standAt el.pos >>= fun _ => call (.builtin "set.add") [acc, v] >>= fun _ => pure ()) >>= fun _ => again (.compLoop (sc2 el ta ia t1 ib sco pp) 1 it acc env)) := by rfl
end
/-- what the inner loop must do, from what the outer one stored -/
def tInner (w : World) (D : Addr) (wi1 : TI) (g1 : TG) (te : TE) (vs1 : List Nat) : L2.St → Hp → (Hp → Prop) → Prop := fun σ2 H2 Nx => wi1 σ2 H2 fun J1 H4 => ∃ W1 : Nat → Nat → Hp → Prop, (∃ m, W1 0 m H4) ∧ ∀ j k H, W1 j k H →
  (J1.stop j H ∧ Nx H) ∨ (J1.go j H ∧ ∃ Nx1 : Hp → Prop, (∀ H', Nx1 H' → ∃ k', k' < k ∧ W1 (j + 1) k' H') ∧ ∀ x H', J1.yld j H x H' → g1 x (wipe σ2 vs1) H' fun σ3 H5 => wipe σ3 vs1 = wipe σ2 vs1 ∧
    te σ3 H5 fun y H7 => ∃ (c : Int) (S : Int → Bool) (n : Nat), y = .int c ∧ H7 D = some (SetO w D S n) ∧ n + 1 < scanBound ∧ Nx1 (upd H7 D (SetO w D (fun j => S j || decide (j = c)) (if S c = true then n else n + 1))))
/-- {el for ta in ia for t1 in ib}: D the new set, vs the block's names, vs1 those of the second target -/
def tS2 (w : World) (wi : TI) (g : TG) (wi1 : TI) (g1 : TG) (te : TE) (vs vs1 : List Nat) : TE := fun σ H Q => wi σ H fun J H1 => ∀ D, H1 D = none → ∃ W : Nat → Nat → Hp → Prop, (∃ m, W 0 m (upd H1 D (SetO w D (fun _ => false) 0))) ∧ ∀ i m H, W i m H →
  (J.stop i H ∧ Q (.ref D) H) ∨ (J.go i H ∧ ∃ Nx : Hp → Prop, (∀ H', Nx H' → ∃ m', m' < m ∧ W (i + 1) m' H') ∧ ∀ x H', J.yld i H x H' → g x (wipe σ vs) H' fun σ2 H2 => wipe σ2 vs = wipe σ vs ∧ tInner w D wi1 g1 te vs1 σ2 H2 Nx)
theorem wipe_keep {σ : L2.St} {j : Nat} : ∀ {vs : List Nat}, j ∉ vs → (wipe σ vs)[j]? = σ[j]?
  | [], _ => rfl
  | v :: vs, h => by
    have h1 := List.ne_of_not_mem_cons h
    show ((wipe σ vs).set v none)[j]? = _
    rw [List.getElem?_set_ne (Ne.symm h1), wipe_keep (List.not_mem_of_not_mem_cons h)]
section
variable {Y : Cx} {el ta ia t1 ib : Expr} {sco : Scope} {pp : Pos} {D : Addr} {wi1 : TI} {g1 : TG} {te : TE} {vs vs1 : List Nat} {σ0 : L2.St}
/-- the outer loop's body -/
theorem inner {o : Addr} (hc : Y.calm = true) (noerr : ∀ e s, Y.xe e s → False) (hv : ∀ i ∈ vs1, i ∈ vs) (hs : ∀ x, foldedSetIterable ib Y.env x = pure x) (p1 : PI Y t1 ib wi1) (pg1 : PG Y t1 g1) (pe : PE Y el te)
    (pins : List (Addr × Obj)) (σ2 : L2.St) (H2 : Hp) (s2 : Shared) (Nx : Hp → Prop) (I2 : Inv Y pins σ2 H2 s2) (h : wipe σ2 vs = σ0 ∧ tInner Y.w D wi1 g1 te vs1 σ2 H2 Nx) :
    wpAny (model Y.prog Y.w) Y.A (eval ib Y.env >>= fun x => standAt ib.pos >>= fun _ => foldedSetIterable ib Y.env x >>= fun x => holding [x] (pyIter x) >>= fun j => runOwn (.compStart (sc2 el ta ia t1 ib sco pp) 1 j (.ref D) Y.env) Y.env >>= fun _ => again (.compLoop (sc2 el ta ia t1 ib sco pp) 0 (.ref o) (.ref D) Y.env))
      (fun fin s3 => fin = .again (.compLoop (sc2 el ta ia t1 ib sco pp) 0 (.ref o) (.ref D) Y.env) ∧ ∃ H3, Inv Y pins σ0 H3 s3 ∧ Nx H3) (fun _ _ => False) s2 := by
  obtain ⟨hw, h⟩ := h
  refine wpAny_bind (wpAny_mono (p1.run pins s2 σ2 H2 _ I2 h) (fun x s3 hx => ?_) fun e s z => (noerr e s z).elim)
  refine wpAny_bind (wpAny_standAt (wpAny_bind (wpAny_of_eq (hs x) (wpAny_bind (wpAny_holding (wpAny_mono hx (fun j s4 h4 => ?_) fun e s z => (noerr e s z).elim))))))
  obtain ⟨it, fp, tn, J1, H4, e, I4, T, st4, f4, W1, ⟨m1, w1⟩, turn1⟩ := h4
  subst e
  have back : ∀ {H s}, Inv Y pins (wipe σ2 vs1) H s → Inv Y pins σ0 H s := fun I => by
    subst hw
    refine I.weak (by rw [wipe_length, wipe_length]) fun i v e => ?_
    obtain ⟨e1, e2⟩ := wipe_some e
    rw [wipe_keep fun z => e2 (hv i z)]; exact e1
  refine wpAny_bind (wpAny_runOwn ?_)
  rw [Around.mark_none]
  have loop := walk (tb := fun σ3 H5 Nx1 => wipe σ3 vs1 = wipe σ2 vs1 ∧ te σ3 H5 fun y H7 => ∃ (c : Int) (S : Int → Bool) (n : Nat), y = .int c ∧ H7 D = some (SetO Y.w D S n) ∧ n + 1 < scanBound ∧ Nx1 (upd H7 D (SetO Y.w D (fun j => S j || decide (j = c)) (if S c = true then n else n + 1))))
    (R := fun r s' => match r with | .ok _ => ∃ H3, Inv Y pins σ0 H3 s' ∧ Nx H3 | .error _ => False) hc T (form1 (el := el) (ta := ta) (ia := ia) (t1 := t1) (ib := ib) (sco := sco) (pp := pp) (.ref it) (.ref D) Y.env)
    (fun {H s} _ hn b hb => ⟨hn b hb, (f4 b hb).2⟩) pg1 noerr
    (fun pins' σ3 H5 s5 Nx1 I5 ⟨hw5, h5⟩ => by
      refine wpAny_bind (wpAny_bind (wpAny_mono (pe.run pins' s5 σ3 H5 _ I5 h5) (fun z s6 h6 => ?_) fun e s z => (noerr e s z).elim))
      obtain ⟨y, H7, I7, r7, c, S, n, ey, hD, room, nx⟩ := h6
      subst ey
      refine wpAny_bind (wpAny_standAt (wpAny_bind ?_))
      refine wpAny_mono (mt_sadd pins' s6 σ3 H7 (.ref D) [.int c] (.ref D) [z] (fun _ H' => Nx1 H') I7 rfl (.cons r7 .nil) ⟨D, c, S, n, rfl, rfl, hD, room, nx⟩) (fun _ s8 h8 => ?_) fun e s z => (noerr e s z).elim
      obtain ⟨y8, H8, I8, _, q8⟩ := h8
      exact wpAny_pure (wpAny_pure ⟨rfl, H8, I8.weak (by rw [← hw5, wipe_length]) fun i v e => by rw [← hw5] at e; exact (wipe_some e).1, q8⟩))
    W1 (I4.weak (wipe_length _ _) fun i v e => (wipe_some e).1) st4 (fun b hb => (f4 b hb).1) w1
    (fun j k H hW => by
      rcases turn1 j k H hW with ⟨stop, nx⟩ | ⟨go, Nx1, hN1, step⟩
      · exact .inl ⟨stop, fun s I => ⟨H, back I, nx⟩⟩
      · exact .inr ⟨go, Nx1, hN1, step⟩)
  refine codeAny_mono (start_of (by decide) (fun Q E q => T.self _ 0 _ _ _ st4 q) loop) fun r s' hr => ?_
  cases r with
  | ok f => exact wpAny_pure ⟨rfl, hr⟩
  | error e => exact hr.elim
end
section
variable {X : Cx}
abbrev blkEnv (X : Cx) (sco : Scope) (s : Shared) : Env := compEnvC sco (cellsFrom (s.heap.objs.size + 1) sco.names (cloFrom X.env.cells sco.names [])) s.heap.objs.size X.env
theorem block {el ta ia t1 ib : Expr} {sco : Scope} {own : List (PySem.Str × Nat)} {vs1 : List Nat} {pp : Pos} {wi1 : TI} {g g1 : TG} {te : TE} {pins : List (Addr × Obj)} {σ : L2.St} {H : Hp} {s : Shared} {it D : Addr} {fp : List Addr} {tn : Nat → Heap → Prop} {J : It} {Q : VK} {W : Nat → Nat → Hp → Prop} {m0 : Nat} {Z : Result → Shared → Prop}
    (hc : X.calm = true) (hN : X.N.Nodup) (ok : BlkOk X.N X.env.scope sco own) (hv : ∀ i ∈ vs1, i ∈ own.map (·.2)) (hs1 : ∀ env x, foldedSetIterable ib env x = pure x)
    (pg : PG (X.blk s H sco (blkEnv X sco s) fp) ta g) (p1 : PI (X.blk s H sco (blkEnv X sco s) fp) t1 ib wi1) (pg1 : PG (X.blk s H sco (blkEnv X sco s) fp) t1 g1) (pe : PE (X.blk s H sco (blkEnv X sco s) fp) el te)
    (I : Inv X pins σ H s) (T : Turn X.prog X.w X.K ta J fp it tn) (st : tn 0 s.heap) (hf : ∀ b ∈ fp, FpOk X pins H b ∧ b < s.heap.objs.size) (w0 : W 0 m0 H)
    (turn : ∀ i m H, W i m H → (J.stop i H ∧ Q (.ref D) H) ∨ (J.go i H ∧ ∃ Nx : Hp → Prop, (∀ H', Nx H' → ∃ m', m' < m ∧ W (i + 1) m' H') ∧ ∀ x H', J.yld i H x H' → g x (wipe σ (own.map (·.2))) H' fun σ2 H2 => wipe σ2 (own.map (·.2)) = wipe σ (own.map (·.2)) ∧ tInner X.w D wi1 g1 te vs1 σ2 H2 Nx))
    (fin : ∀ s' H' m, Inv X pins σ H' s' → Q (.ref D) H' → s'.heap.Ns s.heap.objs.size m → FpOk X pins H' s.heap.objs.size → Z (.ok .next) s') :
    codeAny (model X.prog X.w) X.A (.compStart (sc2 el ta ia t1 ib sco pp) 0 (.ref it) (.ref D) (blkEnv X sco s)) Z { s with heap := pushCells (s.heap.push { cls := .type "dict", data := .dict #[] }) sco.names } := by
  have I4 := block_start I ok hN hf
  have st4 : tn 0 (pushCells (s.heap.push { cls := .type "dict", data := .dict #[] }) sco.names) := T.keep _ _ _ st fun b _ o e => pushCells_keeps _ _ _ _ (Heap.get?_push_of_some _ e)
  refine start_of (by decide) (fun Q' E q => T.self _ 0 _ _ _ st4 q) ?_
  refine walk (Y := X.blk s H sco (blkEnv X sco s) fp) (tb := fun σ2 H2 Nx => wipe σ2 (own.map (·.2)) = wipe σ (own.map (·.2)) ∧ tInner X.w D wi1 g1 te vs1 σ2 H2 Nx) hc T (form0 (.ref it) (.ref D) (blkEnv X sco s))
    (fun {H' s'} I' hn b hb => ⟨hn b hb, (I'.ok.exf b hb).1, I'.ok.exfs b hb, .inl hb, fun x c e => (I'.ok.exf b hb).2 x c e, fun p hp => nomatch (show p ∈ ([] : List (Addr × Obj)) from hp)⟩) pg (fun _ _ z => z)
    (fun pins' σ2 H2 s2 Nx I2 h2 => inner (Y := X.blk s H sco (blkEnv X sco s) fp) (vs := own.map (·.2)) hc (fun _ _ z => z) hv (hs1 _) p1 pg1 pe pins' σ2 H2 s2 Nx I2 h2) W I4 st4 (fun b hb => (hf b hb).1.1) w0 (fun i m H' hW => ?_)
  rcases turn i m H' hW with ⟨stop, qq⟩ | z
  · refine .inl ⟨stop, fun s6 I6 => ?_⟩
    obtain ⟨m', hn, _⟩ := I6.loc
    exact fin s6 H' m' (I.call' (ch := fp) I6.os I6.base I6.hok I6.bare fun b hb => (hf b hb).1.2.2.2.1 |> fun z => ⟨z, (hf b hb).1.2.1, (hf b hb).1.2.2.2.2.1, (hf b hb).1.2.2.2.2.2⟩) qq hn (I.fpOk (Nat.le_refl _) I6.free)
  · exact .inr z
theorem pe_sc2 {el ta ia t1 ib : Expr} {sco : Scope} {own : List (PySem.Str × Nat)} {vs1 : List Nat} {pp : Pos} {wi wi1 : TI} {g g1 : TG} {te : TE} (hc : X.calm = true) (hN : X.N.Nodup) (hi : PI X ta ia wi) (ok : BlkOk X.N X.env.scope sco own) (hv : ∀ i ∈ vs1, i ∈ own.map (·.2))
    (hg : ∀ s H C cl fp, PG (X.blk s H sco (compEnvC sco cl C X.env) fp) ta g) (hi1 : ∀ s H C cl fp, PI (X.blk s H sco (compEnvC sco cl C X.env) fp) t1 ib wi1) (hg1 : ∀ s H C cl fp, PG (X.blk s H sco (compEnvC sco cl C X.env) fp) t1 g1)
    (he : ∀ s H C cl fp, PE (X.blk s H sco (compEnvC sco cl C X.env) fp) el te) (hs : ∀ x, foldedSetIterable ia X.env x = pure x := by intro _; rfl) (hs1 : ∀ env x, foldedSetIterable ib env x = pure x := by intro _ _; rfl) :
    PE X (.SetComp el [⟨ta, ia, [], 0⟩, ⟨t1, ib, [], 0⟩] sco pp) (tS2 X.w wi g wi1 g1 te (own.map (·.2)) vs1) := by
  refine ⟨fun pins s σ H Q I h => ?_⟩
  rw [PpSet.eval_SetComp]
  have known : ∀ y ∈ sco.names, y.2 = .free → ∃ c, X.env.cells.lookup y.1 = some c := fun y hy e => I.ok.has _ (ok.free y hy e)
  refine wpAny_comprehension_free (use := none) rfl hs (closure_ok known) ok.kind (fun y hy e => by rw [ok.uniq y hy, e]) (thn (hi.run pins s σ H _ I h) fun _ _ hx => thn hx fun iv s2 h2 => ?_)
  obtain ⟨it, fp, tn, J, H2, e, I2, T, st2, f2, q⟩ := h2
  subst e
  refine PpSet.newSet_ok (newEnv_comp ?_)
  have nD : H2 s2.heap.objs.size = none := I2.hok.fresh (Nat.le_refl _)
  obtain ⟨W, ⟨m0, w0⟩, turn⟩ := q _ nD
  have I3 := I2.laid (t' := s2.toks) (o := SetO X.w s2.heap.objs.size (fun _ => false) 0) (fun b o e => Heap.get?_push_of_some { cls := .type "set", dict := none, data := .set #[] 0 (.fresh 0 0 (!X.w.params.followText "set-order")) } e) (Nat.le_refl _) (setO_new (setR_fresh X.w))
  have young : ∀ b ∈ fp, b < s2.heap.objs.size := fun b hb => (T.obj _ _ st2 b hb).elim fun o e => Heap.lt_size e.1
  exact block hc hN ok hv hs1 (hg _ _ _ _ _) (hi1 _ _ _ _ _) (hg1 _ _ _ _ _) (he _ _ _ _ _) I3 T (T.keep _ _ _ st2 fun b _ o e => Heap.get?_push_of_some _ e)
    (fun b hb => ⟨⟨by rw [upd_ne (Nat.ne_of_lt (young b hb))]; exact (f2 b hb).1, (f2 b hb).2⟩, by show b < (Heap.push _ _).objs.size; rw [Heap.size_push]; exact Nat.lt_succ_of_lt (young b hb)⟩) w0 turn
    fun s' H' m I' qq hn ⟨f0, f1, _, f3, f4, f5⟩ => ⟨m, hn, fun h'' sb => ⟨.ref s2.heap.objs.size, H', I'.turned (t' := s'.toks) (fun b o hb e => (sb.2 b hb).trans e) f0 f1 f3 f4 f5, rfl, qq⟩⟩
end
end RV
set_option maxHeartbeats 4000000
/-! the least of all walks: mark by mark, and of all gone through -/
namespace RV
open PyProof.Rows
section
variable {bh : Int → List Int} {N : Nat} {E : List Int}
/-- from where so many steps lead to E -/
def beg (bh : Int → List Int) (N : Nat) (E : List Int) : Nat → List Int
  | 0 => E
  | n + 1 => (upN N).filter fun m => (bh m).any fun c => decide (c ∈ beg bh N E n)
theorem mem_beg {n : Nat} {m : Int} : m ∈ beg bh N E (n + 1) ↔ (0 ≤ m ∧ m < (N : Int)) ∧ ∃ c ∈ bh m, c ∈ beg bh N E n := by
  show m ∈ (upN N).filter _ ↔ _
  rw [List.mem_filter, mem_upN, List.any_eq_true]
  simp only [decide_eq_true_eq]
/-- mark by mark the least that still leads there -/
def Gr (bh : Int → List Int) (B : Nat → List Int) : Nat → Int → List Int → Prop
  | 0, m, w => w = [m]
  | n + 1, m, w => ∃ c w', w = m :: w' ∧ c ∈ bh m ∧ c ∈ B n ∧ (∀ y ∈ bh m, y ∈ B n → c ≤ y) ∧ Gr bh B n c w'
theorem Gr.uniq {B : Nat → List Int} : ∀ {n : Nat} {m : Int} {w v : List Int}, Gr bh B n m w → Gr bh B n m v → w = v
  | 0, m, w, v, h, h' => by rw [show w = [m] from h, show v = [m] from h']
  | n + 1, m, w, v, h, h' => by
    obtain ⟨c, w', rfl, a1, a2, a3, a4⟩ := h
    obtain ⟨d, v', rfl, b1, b2, b3, b4⟩ := h'
    have : c = d := Int.le_antisymm (a3 d b1 b2) (b3 c a1 a2)
    subst this
    rw [a4.uniq b4]
theorem Gr.len {B : Nat → List Int} : ∀ {n : Nat} {m : Int} {w : List Int}, Gr bh B n m w → w.length = n + 1
  | 0, m, w, h => by rw [show w = [m] from h]; rfl
  | n + 1, m, w, h => by
    obtain ⟨c, w', rfl, _, _, _, a4⟩ := h
    rw [List.length_cons, a4.len]
theorem Gr.congr {B B' : Nat → List Int} : ∀ {n : Nat} (_ : ∀ k, k < n → ∀ m, m ∈ B k ↔ m ∈ B' k) {m : Int} {w : List Int}, Gr bh B n m w → Gr bh B' n m w
  | 0, _, m, w, h => h
  | n + 1, e, m, w, h => by
    obtain ⟨c, w', rfl, a1, a2, a3, a4⟩ := h
    exact ⟨c, w', rfl, a1, (e n (by omega) c).mp a2, fun y y1 y2 => a3 y y1 ((e n (by omega) y).mpr y2), a4.congr fun k hk => e k (by omega)⟩
theorem Gr.inn {B : Nat → List Int} {P : Int → Prop} (hb : ∀ m, P m → ∀ c ∈ bh m, P c) : ∀ {n : Nat} {m : Int} {w : List Int}, Gr bh B n m w → P m → ∀ x ∈ w, P x
  | 0, m, w, h, hm, x, hx => by
    rw [show w = [m] from h, List.mem_singleton] at hx
    rw [hx]; exact hm
  | n + 1, m, w, h, hm, x, hx => by
    obtain ⟨c, w', rfl, a1, a2, a3, a4⟩ := h
    rcases List.mem_cons.mp hx with rfl | z
    · exact hm
    · exact a4.inn hb (hb m hm c a1) x z
/-- a walk of so many steps from m to o -/
def WkL (bh : Int → List Int) : Nat → Int → Int → List Int → Prop
  | 0, m, o, w => w = [m] ∧ m = o
  | n + 1, m, o, w => ∃ c w', w = m :: w' ∧ c ∈ bh m ∧ WkL bh n c o w'
theorem WkL.head : ∀ {n : Nat} {m o : Int} {w : List Int}, WkL bh n m o w → ∃ v, w = m :: v
  | 0, m, o, w, h => ⟨[], h.1⟩
  | n + 1, m, o, w, h => by
    obtain ⟨c, w', e, _⟩ := h
    exact ⟨w', e⟩
theorem Gr.head {B : Nat → List Int} : ∀ {n : Nat} {m : Int} {w : List Int}, Gr bh B n m w → ∃ v, w = m :: v
  | 0, m, w, h => ⟨[], h⟩
  | n + 1, m, w, h => by
    obtain ⟨c, w', e, _⟩ := h
    exact ⟨w', e⟩
theorem WkL.beg (hb : ∀ m, (0 ≤ m ∧ m < (N : Int)) → ∀ c ∈ bh m, 0 ≤ c ∧ c < (N : Int)) {o : Int} : ∀ {n : Nat} {m : Int} {w : List Int}, WkL bh n m o w → (0 ≤ m ∧ m < (N : Int)) → m ∈ RV.beg bh N [o] n
  | 0, m, w, h, _ => by rw [h.2]; exact List.mem_singleton.mpr rfl
  | n + 1, m, w, h, hm => by
    obtain ⟨c, w', _, h1, h2⟩ := h
    exact mem_beg.mpr ⟨hm, c, h1, h2.beg hb (hb m hm c h1)⟩
theorem Gr.wk {o : Int} : ∀ {n : Nat} {m : Int} {w : List Int}, Gr bh (RV.beg bh N [o]) n m w → m ∈ RV.beg bh N [o] n → WkL bh n m o w
  | 0, m, w, h, hm => ⟨h, List.mem_singleton.mp hm⟩
  | n + 1, m, w, h, hm => by
    obtain ⟨c, w', e, a1, a2, a3, a4⟩ := h
    exact ⟨c, w', e, a1, a4.wk a2⟩
theorem Gr.least (hb : ∀ m, (0 ≤ m ∧ m < (N : Int)) → ∀ c ∈ bh m, 0 ≤ c ∧ c < (N : Int)) {o : Int} : ∀ {n : Nat} {m : Int} {g w : List Int}, Gr bh (RV.beg bh N [o]) n m g → WkL bh n m o w → (0 ≤ m ∧ m < (N : Int)) → HT.lexLt w g = false
  | 0, m, g, w, h, h', _ => by rw [show g = [m] from h, h'.1]; exact lex_irr _
  | n + 1, m, g, w, h, h', hm => by
    obtain ⟨c, g', rfl, a1, a2, a3, a4⟩ := h
    obtain ⟨d, w', rfl, b1, b2⟩ := h'
    have hd := hb m hm d b1
    have le := a3 d b1 (b2.beg hb hd)
    rw [HT.lexLt_cons, if_pos rfl]
    by_cases e : d = c
    · subst e
      exact a4.least hb b2 hd
    · obtain ⟨x, rfl⟩ := a4.head
      obtain ⟨y, rfl⟩ := b2.head
      rw [HT.lexLt_cons, if_neg e, decide_eq_false (by omega)]
theorem ex_gr : ∀ {n : Nat} {m : Int}, m ∈ RV.beg bh N E n → ∃ w, Gr bh (RV.beg bh N E) n m w
  | 0, m, _ => ⟨[m], rfl⟩
  | n + 1, m, h => by
    obtain ⟨_, c, h1, h2⟩ := mem_beg.mp h
    have lst : ∀ (l : List Int), l ≠ [] → ∃ x ∈ l, ∀ y ∈ l, x ≤ y := by
      intro l
      induction l with
      | nil => intro z; exact absurd rfl z
      | cons a l ih =>
        intro _
        by_cases e : l = []
        · subst e
          exact ⟨a, List.mem_singleton.mpr rfl, fun y hy => by rw [List.mem_singleton.mp hy]; exact Int.le_refl _⟩
        · obtain ⟨x, x1, x2⟩ := ih e
          rcases Int.le_total a x with z | z
          · exact ⟨a, List.mem_cons_self, fun y hy => by
              rcases List.mem_cons.mp hy with rfl | y1
              · exact Int.le_refl _
              · exact Int.le_trans z (x2 y y1)⟩
          · exact ⟨x, List.mem_cons_of_mem _ x1, fun y hy => by
              rcases List.mem_cons.mp hy with rfl | y1
              · exact z
              · exact x2 y y1⟩
    obtain ⟨x, x1, x2⟩ := lst ((bh m).filter fun y => decide (y ∈ RV.beg bh N E n)) (fun z => by
      have : c ∈ (bh m).filter fun y => decide (y ∈ RV.beg bh N E n) := List.mem_filter.mpr ⟨h1, decide_eq_true h2⟩
      rw [z] at this; cases this)
    obtain ⟨x3, x4⟩ := List.mem_filter.mp x1
    have x4 := of_decide_eq_true x4
    obtain ⟨w, hw⟩ := ex_gr x4
    exact ⟨m :: w, x, w, rfl, x3, x4, fun y y1 y2 => x2 y (List.mem_filter.mpr ⟨y1, decide_eq_true y2⟩), hw⟩
/-- the last mark -/
def la (w : List Int) : Int := w.getLast?.getD 0
theorem la_add (w : List Int) (c : Int) : la (w ++ [c]) = c := by unfold la; simp
theorem WkL.snoc {o d : Int} : ∀ {n : Nat} {m : Int} {w : List Int}, WkL bh n m o w → d ∈ bh o → WkL bh (n + 1) m d (w ++ [d])
  | 0, m, w, h, hd => by
    obtain ⟨rfl, rfl⟩ := h
    exact ⟨d, [d], rfl, hd, rfl, rfl⟩
  | n + 1, m, w, h, hd => by
    obtain ⟨c, w', rfl, h1, h2⟩ := h
    exact ⟨c, w' ++ [d], rfl, h1, h2.snoc hd⟩
theorem WkL.unsnoc {d : Int} : ∀ {n : Nat} {m : Int} {w : List Int}, WkL bh (n + 1) m d w → ∃ o v, WkL bh n m o v ∧ d ∈ bh o ∧ w = v ++ [d]
  | 0, m, w, h => by
    obtain ⟨c, w', rfl, h1, h2, rfl⟩ := h
    exact ⟨m, [m], ⟨rfl, rfl⟩, h1, by rw [h2]; rfl⟩
  | n + 1, m, w, h => by
    obtain ⟨c, w', rfl, h1, h2⟩ := h
    obtain ⟨o, v, k1, k2, rfl⟩ := h2.unsnoc
    exact ⟨o, m :: v, ⟨c, v, rfl, h1, k1⟩, k2, rfl⟩
theorem WkL.la : ∀ {n : Nat} {m o : Int} {w : List Int}, WkL bh n m o w → RV.la w = o
  | 0, m, o, w, h => by rw [h.1, h.2]; rfl
  | n + 1, m, o, w, h => by
    obtain ⟨c, v, _, _, rfl⟩ := h.unsnoc
    exact la_add _ _
theorem WkL.len : ∀ {n : Nat} {m o : Int} {w : List Int}, WkL bh n m o w → w.length = n + 1
  | 0, m, o, w, h => by rw [h.1]; rfl
  | n + 1, m, o, w, h => by
    obtain ⟨c, v, rfl, _, h2⟩ := h
    rw [List.length_cons, h2.len]
/-- all walks of so many steps from m, gone through -/
def alw (bh : Int → List Int) (m : Int) : Nat → List (List Int)
  | 0 => [[m]]
  | n + 1 => (alw bh m n).flatMap fun w => (bh (la w)).map fun c => w ++ [c]
theorem mem_alw {m : Int} : ∀ {n : Nat} {w : List Int}, w ∈ alw bh m n ↔ ∃ o, WkL bh n m o w
  | 0, w => by
    show w ∈ [[m]] ↔ _
    rw [List.mem_singleton]
    exact ⟨fun h => ⟨m, h, rfl⟩, fun ⟨o, h, _⟩ => h⟩
  | n + 1, w => by
    show w ∈ (alw bh m n).flatMap _ ↔ _
    rw [List.mem_flatMap]
    constructor
    · rintro ⟨v, h1, h2⟩
      obtain ⟨o, ho⟩ := mem_alw.mp h1
      obtain ⟨c, c1, rfl⟩ := List.mem_map.mp h2
      rw [ho.la] at c1
      exact ⟨c, ho.snoc c1⟩
    · rintro ⟨d, hd⟩
      obtain ⟨o, v, k1, k2, rfl⟩ := hd.unsnoc
      refine ⟨v, mem_alw.mpr ⟨o, k1⟩, List.mem_map.mpr ⟨d, ?_, rfl⟩⟩
      rw [k1.la]; exact k2
theorem alw_len {m : Int} {b : Nat} (hb : ∀ x, (bh x).length ≤ b) : ∀ n, (alw bh m n).length ≤ b ^ n
  | 0 => Nat.le_refl _
  | n + 1 => by
    show ((alw bh m n).flatMap _).length ≤ _
    have h : ∀ L : List (List Int), (L.flatMap fun w => (bh (la w)).map fun c => w ++ [c]).length ≤ L.length * b := by
      intro L
      induction L with
      | nil => simp
      | cons w L ih =>
        rw [List.flatMap_cons, List.length_append, List.length_map, List.length_cons, Nat.succ_mul]
        have := hb (la w)
        omega
    exact Nat.le_trans (h _) (by rw [Nat.pow_succ]; exact Nat.mul_le_mul (alw_len hb n) (Nat.le_refl _))
end
end RV
set_option maxHeartbeats 4000000
namespace RV
open PySem PySem.Spec PyProof.Rows L2
theorem shows_dI7 {ns : List Int} (hn : ∀ n ∈ ns, n.natAbs < 10 ^ 12) (ln : ns.length ≤ 7000) : Shows (dI ns) := by
  have i3 : (dI ns).bulk = ns.length := by simp only [dI, PyData.bulk, bulk_ints]
  refine ⟨by simp only [dI, PyData.showable]; exact show_ints ns hn, PyData.hasDict_of_canLay _ (dI_lay ns), by rw [dI_dep]; decide, ?_⟩
  refine PyData.shown_fits_bulk (B := 13) (by decide) (by decide) (PyData.leavesShort_of_canLay0 13 _ (dI_lay ns) ?_) (by rw [i3]; omega)
  simp only [dI, PyData.intsShort]; exact PyData.intsShortAll_ints ns hn
section
variable {X : Cx}
/-- repr of a tuple or of None -/
def rReprT (K : PySem.W.Frag) : List V → Hp → VK → Prop := fun xs H Q => (∃ (a : Addr) (ns : List Int), xs = [.ref a] ∧ SqT K H a (ns.map V.int) ∧ Shows (dI ns) ∧ Q (.str (dI ns).shown) H) ∨ (xs = [.non] ∧ Q (.str "None") H)
theorem call_reprT (gd : X.A.guards = some []) (hu : X.A.units + 65 < cLine) : CallR X (.builtin "repr") (rReprT X.K) := by
  intro pins s σ H xs us Q I r h
  rcases h with ⟨a, ns, e, hT, sh, q⟩ | ⟨rfl, q⟩
  · exact call_reprD gd hu pins s σ H xs us Q I r ⟨a, dI ns, e, dpT hT, sh.h1, sh.h2, sh.h3, sh.h4, q⟩
  · obtain ⟨u, rfl, rx⟩ := vals1 r
    cases (show u = Value.none from rx)
    exact PySem.P.repr_of_none ⟨.str "None", H, I.tok _, ⟨_, rfl⟩, q⟩
end
/-- unlike numbers below n are at most n -/
theorem few_below : ∀ {n : Nat} {l : List Int}, l.Nodup → (∀ x ∈ l, 0 ≤ x ∧ x < (n : Int)) → l.length ≤ n
  | 0, l, _, h => by
    cases l with
    | nil => exact Nat.le_refl _
    | cons x l => have := h x List.mem_cons_self; omega
  | n + 1, l, nd, h => by
    have nd2 : (l.erase (n : Int)).Nodup := nd.erase _
    have h2 : ∀ x ∈ l.erase (n : Int), 0 ≤ x ∧ x < (n : Int) := fun x hx => by
      have h3 := (List.Nodup.mem_erase_iff nd).mp hx
      have h4 := h x h3.2
      have h5 := h3.1
      omega
    have z := few_below nd2 h2
    rw [List.length_erase] at z
    split at z
    · omega
    · rename_i hno
      omega
end RV
set_option maxHeartbeats 4000000
/-! walks of so many steps, and tables of where they end -/
namespace RV
open PySem PySem.Spec PyProof.Rows L2
section
variable {bh : Int → List Int} {N : Nat}
/-- so many steps lead from the one to the other -/
def lk (bh : Int → List Int) : Nat → Int → Int → Prop
  | 0, a, b => a = b
  | n + 1, a, b => ∃ c, c ∈ bh a ∧ lk bh n c b
theorem lk_add {n : Nat} {b : Int} : ∀ {m : Nat} {a : Int}, lk bh (m + n) a b ↔ ∃ c, lk bh m a c ∧ lk bh n c b
  | 0, a => by
    rw [Nat.zero_add]
    exact ⟨fun h => ⟨a, rfl, h⟩, fun ⟨c, h1, h2⟩ => by rw [show a = c from h1]; exact h2⟩
  | m + 1, a => by
    rw [show m + 1 + n = (m + n) + 1 by omega]
    constructor
    · rintro ⟨c, h1, h2⟩
      obtain ⟨d, h3, h4⟩ := lk_add.mp h2
      exact ⟨d, ⟨c, h1, h3⟩, h4⟩
    · rintro ⟨d, ⟨c, h1, h3⟩, h4⟩
      exact ⟨c, h1, lk_add.mpr ⟨d, h3, h4⟩⟩
theorem lk_one {a b : Int} : lk bh 1 a b ↔ b ∈ bh a :=
  ⟨fun ⟨c, h1, h2⟩ => by rw [← show c = b from h2]; exact h1, fun h => ⟨b, h, rfl⟩⟩
theorem lk_inn (hb : ∀ m, ∀ c ∈ bh m, 0 ≤ c ∧ c < (N : Int)) {b : Int} : ∀ {n : Nat} {a : Int}, lk bh n a b → (0 ≤ a ∧ a < (N : Int)) → 0 ≤ b ∧ b < (N : Int)
  | 0, a, h, ha => by rw [← show a = b from h]; exact ha
  | n + 1, a, ⟨c, h1, h2⟩, _ => lk_inn hb h2 (hb a c h1)
theorem beg_lk (hb : ∀ m, ∀ c ∈ bh m, 0 ≤ c ∧ c < (N : Int)) {b : Int} : ∀ {n : Nat} {a : Int}, (0 ≤ a ∧ a < (N : Int)) → (a ∈ beg bh N [b] n ↔ lk bh n a b)
  | 0, a, _ => by show a ∈ [b] ↔ a = b; rw [List.mem_singleton]
  | n + 1, a, ha => by
    rw [mem_beg]
    exact ⟨fun ⟨_, c, h1, h2⟩ => ⟨c, h1, (beg_lk hb (hb a c h1)).mp h2⟩, fun ⟨c, h1, h2⟩ => ⟨ha, c, h1, (beg_lk hb (hb a c h1)).mpr h2⟩⟩
end
/-- a tuple of rising tuples: x in the row of i just where f i x -/
def Tab (K : PySem.W.Frag) (H : Hp) (t : Addr) (N : Nat) (f : Int → Int → Prop) : Prop := ∃ as : List Addr, SqT K H t (as.map V.ref) ∧ as.length = N ∧
  ∀ (i : Nat) (a : Addr), as[i]? = some a → ∃ xs : List Int, SqT K H a (xs.map V.int) ∧ xs.Pairwise (· < ·) ∧ (∀ x ∈ xs, 0 ≤ x ∧ x < (N : Int)) ∧ ∀ x, x ∈ xs ↔ f (i : Int) x
theorem Tab.same {K : PySem.W.Frag} {H H' : Hp} {t : Addr} {N : Nat} {f : Int → Int → Prop} (h : Tab K H t N f) (s : Same H H') : Tab K H' t N f := by
  obtain ⟨as, h1, h2, h3⟩ := h
  exact ⟨as, sqT_same s h1, h2, fun i a e => (h3 i a e).imp fun xs q => ⟨sqT_same s q.1, q.2⟩⟩
theorem Tab.congr {K : PySem.W.Frag} {H : Hp} {t : Addr} {N : Nat} {f g : Int → Int → Prop} (h : Tab K H t N f) (e : ∀ i x : Int, 0 ≤ i → i < (N : Int) → (f i x ↔ g i x)) : Tab K H t N g := by
  obtain ⟨as, h1, h2, h3⟩ := h
  refine ⟨as, h1, h2, fun i a ea => ?_⟩
  obtain ⟨xs, q1, q2, q3, q4⟩ := h3 i a ea
  have hi := (List.getElem?_eq_some_iff.mp ea).1
  exact ⟨xs, q1, q2, q3, fun x => (q4 x).trans (e i x (by omega) (by omega))⟩
theorem Tab.at {K : PySem.W.Frag} {H : Hp} {t : Addr} {N : Nat} {f : Int → Int → Prop} (h : Tab K H t N f) {m : Int} (h0 : 0 ≤ m) (h1 : m < (N : Int)) : ∃ (vs : List V) (a : Addr) (xs : List Int), SqT K H t vs ∧ atI vs m = some (.ref a) ∧ SqT K H a (xs.map V.int) ∧ xs.Pairwise (· < ·) ∧ (∀ x ∈ xs, 0 ≤ x ∧ x < (N : Int)) ∧ ∀ x, x ∈ xs ↔ f m x := by
  obtain ⟨as, q1, q2, q3⟩ := h
  have hm : m.toNat < as.length := by omega
  have e : ((m.toNat : Nat) : Int) = m := Int.toNat_of_nonneg h0
  obtain ⟨xs, z1, z2, z3, z4⟩ := q3 m.toNat _ (List.getElem?_eq_getElem hm)
  rw [e] at z4
  refine ⟨_, as[m.toNat], xs, q1, ?_, z1, z2, z3, z4⟩
  have := atI_nat (xs := as.map V.ref) (j := m.toNat) (v := .ref as[m.toNat]) (by rw [List.getElem?_map, List.getElem?_eq_getElem hm]; rfl)
  rw [e] at this; exact this
theorem rise_nodup {xs : List Int} (h : xs.Pairwise (· < ·)) : xs.Nodup := h.imp fun {a b} z e => by omega
section
variable {X : Cx} {K : PySem.W.Frag} {w : World}
theorem pe_tupleOfK {a : Expr} {ta : TE} {p pos : Pos} (h : X.K = K) (hg : Gl X "tuple") (hm : X.mg "tuple" = none) (ha : PE X a ta) (na : starEach [a] X.env = (false, eval a X.env) :: starEach [] X.env := by rfl) :
    PE X (.Call (.Name "tuple" p) [a] [] pos) (tThen ta (kTup K)) := h ▸ pe_tupleOf hg hm ha na
theorem cr_sortedSetW (h : X.w = w) (hc : X.calm = true) : CallR X (.builtin "sorted") (rSortedSet w) := h ▸ cr_sortedSet hc
theorem pe_sc2W {el ta ia t1 ib : Expr} {sco : Scope} {own : List (PySem.Str × Nat)} {vs1 : List Nat} {pp : Pos} {wi wi1 : TI} {g g1 : TG} {te : TE} (h : X.w = w) (hc : X.calm = true) (hN : X.N.Nodup) (hi : PI X ta ia wi) (ok : BlkOk X.N X.env.scope sco own) (hv : ∀ i ∈ vs1, i ∈ own.map (·.2))
    (hg : ∀ s H C cl fp, PG (X.blk s H sco (compEnvC sco cl C X.env) fp) ta g) (hi1 : ∀ s H C cl fp, PI (X.blk s H sco (compEnvC sco cl C X.env) fp) t1 ib wi1) (hg1 : ∀ s H C cl fp, PG (X.blk s H sco (compEnvC sco cl C X.env) fp) t1 g1)
    (he : ∀ s H C cl fp, PE (X.blk s H sco (compEnvC sco cl C X.env) fp) el te) (hs : ∀ x, foldedSetIterable ia X.env x = pure x := by intro _; rfl) (hs1 : ∀ env x, foldedSetIterable ib env x = pure x := by intro _ _; rfl) :
    PE X (.SetComp el [⟨ta, ia, [], 0⟩, ⟨t1, ib, [], 0⟩] sco pp) (tS2 w wi g wi1 g1 te (own.map (·.2)) vs1) := h ▸ pe_sc2 hc hN hi ok hv hg hi1 hg1 he hs hs1
end
/-- a loop over a tuple that its turns leave as it is -/
theorem it_tup {K : PySem.W.Frag} {a : Addr} {xs : List V} {H0 : Hp} {Fin : Hp → Prop} {Bd : V → Hp → (Hp → Prop) → Prop} (Pv : Nat → Hp → Prop) (h0 : Pv 0 H0) (hl : ∀ i H, i ≤ xs.length → Pv i H → SqT K H a xs)
    (hs : ∀ i x H, xs[i]? = some x → Pv i H → Bd x H (Pv (i + 1))) (hd : ∀ H, Pv xs.length H → Fin H) :
    ∃ W : Nat → Nat → Hp → Prop, (∃ m, W 0 m H0) ∧ ∀ i m H, W i m H → ((Itt K a).stop i H ∧ Fin H) ∨ ((Itt K a).go i H ∧ ∃ Nx : Hp → Prop, (∀ H', Nx H' → ∃ m', m' < m ∧ W (i + 1) m' H') ∧ ∀ x H', (Itt K a).yld i H x H' → Bd x H' Nx) := by
  refine ⟨fun i m H => i ≤ xs.length ∧ m + i = xs.length ∧ Pv i H, ⟨xs.length, Nat.zero_le _, rfl, h0⟩, fun i m H ⟨hi, hm, hp⟩ => ?_⟩
  have hq := hl i H hi hp
  rcases Nat.lt_or_ge i xs.length with z | z
  · refine .inr ⟨⟨xs, xs[i], hq, List.getElem?_eq_getElem z⟩, Pv (i + 1), fun H' p' => ⟨m - 1, by omega, z, by omega, p'⟩, fun x H' y => ?_⟩
    obtain ⟨rfl, y⟩ := y
    exact hs i x _ (y xs hq) hp
  · obtain rfl : i = xs.length := by omega
    exact .inl ⟨⟨xs, hq, Nat.le_refl _⟩, hd H hp⟩
/-- a set that has just these -/
def SetL (w : World) (H : Hp) (D : Addr) (ls : List Int) : Prop := ∃ S : Int → Bool, H D = some (SetO w D S ls.length) ∧ ls.Nodup ∧ ∀ k, S k = true ↔ k ∈ ls
theorem SetL.nil {w : World} {H : Hp} {D : Addr} : SetL w (upd H D (SetO w D (fun _ => false) 0)) D [] := ⟨_, upd_same, List.nodup_nil, fun k => by simp⟩
theorem SetL.add {w : World} {H : Hp} {D : Addr} {ls : List Int} (h : SetL w H D ls) (c : Int) (room : ls.length ≤ 1000) : ∃ (S : Int → Bool) (n : Nat), H D = some (SetO w D S n) ∧ n + 1 < scanBound ∧ ∃ ls', SetL w (upd H D (SetO w D (fun j => S j || decide (j = c)) (if S c = true then n else n + 1))) D ls' ∧ ∀ k, k ∈ ls' ↔ k ∈ ls ∨ k = c := by
  obtain ⟨S, h1, h2, h3⟩ := h
  refine ⟨S, ls.length, h1, by show ls.length + 1 < 4096; omega, ?_⟩
  by_cases e : S c = true
  · refine ⟨ls, ⟨_, by rw [upd_same, if_pos e], h2, fun k => ?_⟩, fun k => ⟨.inl, fun z => z.elim id fun z => by rw [z]; exact (h3 c).mp e⟩⟩
    rw [Bool.or_eq_true, h3, decide_eq_true_iff]
    exact ⟨fun z => z.elim id fun z => by rw [z]; exact (h3 c).mp e, .inl⟩
  · refine ⟨c :: ls, ⟨_, by rw [upd_same, if_neg e]; rfl, List.nodup_cons.mpr ⟨fun z => e ((h3 c).mpr z), h2⟩, fun k => ?_⟩, fun k => by rw [List.mem_cons, or_comm]⟩
    rw [Bool.or_eq_true, h3, decide_eq_true_iff, List.mem_cons, or_comm]
theorem SetL.same {w : World} {H H' : Hp} {D : Addr} {ls : List Int} (h : SetL w H D ls) (s : Same H H') : SetL w H' D ls := by
  obtain ⟨S, h1, h2⟩ := h
  exact ⟨S, s _ _ h1, h2⟩
theorem sqT_set {w : World} {K : PySem.W.Frag} {H : Hp} {D D' : Addr} {S : Int → Bool} {n : Nat} {o' : HO} (e : H D = some (SetO w D' S n)) {a : Addr} {xs : List V} (h : SqT K H a xs) : SqT K (upd H D o') a xs := by
  rcases h with (h | ⟨o, h⟩) | h
  · exact .inl (.inl (by rw [upd_ne (fun z => by rw [z, e] at h; cases h)]; exact h))
  · exact .inl (.inr ⟨o, by rw [upd_ne (fun z => by rw [z, e] at h; cases h)]; exact h⟩)
  · exact .inr h
end RV
set_option maxHeartbeats 4000000
namespace K2
open PySem PySem.Spec PyProof.Rows L2 RV
/-- repr of None or of a text -/
def rDue : List V → Hp → VK → Prop := fun xs H Q => (xs = [.non] ∧ Q (.str "None") H) ∨ ∃ y : Str, xs = [.str y] ∧ (reprText y).length ≤ sizeLine ∧ Q (.str (reprText y)) H
theorem call_reprDue {X : Cx} : CallR X (.builtin "repr") rDue := by
  intro pins s σ H xs us Q I r h
  rcases h with ⟨rfl, q⟩ | ⟨y, rfl, hz, q⟩
  · exact call_reprO pins s σ H _ us Q I r (.inr ⟨rfl, q⟩)
  · obtain ⟨u, rfl, rx⟩ := vals1 r
    obtain ⟨t, rfl⟩ := (show ∃ t, u = Value.str y t from rx)
    exact PySem.P.repr_of_str ⟨.str _, H, I.tok _, ⟨_, rfl⟩, q⟩ hz
theorem due_cases (d d' : PyData) : dueV d d' = .non ∨ dueV d d' = .str "mirrors" ∨ dueV d d' = .str "steps" := by
  unfold dueV
  split
  · split
    · exact .inl rfl
    · exact .inr (.inr rfl)
  · exact .inr (.inl rfl)
/-- what repr writes of it -/
theorem due_text (d d' : PyData) : ∃ rt : Str, ∀ (H : Hp) (Q : VK), Q (.str rt) H → rDue [dueV d d'] H Q := by
  rcases due_cases d d' with e | e | e
  · exact ⟨"None", fun H Q q => .inl ⟨by rw [e], q⟩⟩
  · exact ⟨reprText "mirrors", fun H Q q => .inr ⟨"mirrors", by rw [e], by rw [sizeLine_eq]; decide +kernel, q⟩⟩
  · exact ⟨reprText "steps", fun H Q q => .inr ⟨"steps", by rw [e], by rw [sizeLine_eq]; decide +kernel, q⟩⟩
section
variable {P : Program} {w : World} {K : PySem.W.Frag} {mg : Str → Option Value} {base : Heap}
/-! ### law -/
abbrev nLaw : List Str := ["_law_script", "_law_k", "_law_pail_here", "_law_mirrors_here", "_law_steps_here", "_law_some", "_law_turn", "_law_size", "_law_thing", "_law_one", "_law_other", "_law_kept"]
theorem scLaw : FnScope nLaw ["_law_script"] (defScope sLaw) := ⟨rfl, rfl, rfl, by decide +kernel, rfl, by decide +kernel, by decide +kernel⟩
def spLaw (K : PySem.W.Frag) : Sp := fun vs H Q _ => ∃ (a : Addr) (ns : List Int), vs = [.ref a] ∧ SqL K H a (ns.map V.int) ∧ ns.length ≤ 63 ∧ ∀ H', Q (.bl true) H'
variable {fP fD fM fS fN fF fE : Addr} {dP dD dM dS dN dF dE : FuncData}
theorem ok_law {f : Addr} {fd : FuncData} (F : Fun K "law" "law" sLaw f fd) (B : Bare mg) (Sy : ∃ o, K.lookup sysModules = some o)
    (DP : DefAt K mg "_law_pail" sPail ["_law_script", "_law_at"] fP dP) (DD : DefAt K mg "_law_draw" sDraw ["_law_pail_here", "_law_many"] fD dD) (DM : DefAt K mg "_law_mirrors" sDMirrors ["_law_pail_here", "_law_many"] fM dM) (GM : FnOk P w K mg base CX0 2 fM dM ["_law_pail_here", "_law_many"] (spDMirrors K))
    (DS : DefAt K mg "_law_steps" sDSteps ["_law_pail_here", "_law_mirrors_here"] fS dS) (GS : FnOk P w K mg base CX0 3 fS dS ["_law_pail_here", "_law_mirrors_here"] (spDSteps K)) (DN : DefAt K mg "_law_bent" sBent ["_law_pail_here", "_law_thing"] fN dN) (GN : FnOk P w K mg base CX0 6 fN dN ["_law_pail_here", "_law_thing"] (spB K 3))
    (DF : DefAt K mg "_law_found" sFound ["_law_mirrors_here", "_law_steps_here"] fF dF) (GF : FnG P w K mg base CX0 8 fF dF ["_law_mirrors_here", "_law_steps_here"] (spFound K)) (DE : DefAt K mg "_law_due" sDue ["_law_mirrors_here", "_law_steps_here"] fE dE) (GE : FnOk P w K mg base CX0 3 fE dE ["_law_mirrors_here", "_law_steps_here"] (spDue K)) :
    FnG P w K mg base CX0 9 f fd ["_law_script"] (spLaw K) := by
  have GP : FnOk P w K mg base CX0 1 fP dP ["_law_script", "_law_at"] (spPail K) := ok_pail DP.fn B
  have GD : FnOk P w K mg base CX0 1 fD dD ["_law_pail_here", "_law_many"] spDraw := ok_draw DD.fn
  refine okG F scLaw (fun vs H Q E h => ?_) (fun cdv A outer s H vs Q E gd hr h => ?_)
  · obtain ⟨a, ns, rfl, _⟩ := h
    rfl
  · obtain ⟨a, cs, rfl, hS, hlen, q⟩ := h
    have r1 := hr.mono (show 1 ≤ 8 by decide)
    have r2 := hr.mono (show 2 ≤ 8 by decide)
    have r3 := hr.mono (show 3 ≤ 8 by decide)
    have r6 := hr.mono (show 6 ≤ 8 by decide)
    have hu := un65 hr
    have one : (1 : Nat) ≤ sizeLine := by decide
    have two : (2 : Nat) ≤ sizeLine := by decide
    refine ⟨_, pss_cons (ps_for PassesOwn.never rfl (pi_range1 (by rfl) B.range (pa_cons (pe_callB (call_max2 rfl) (by rfl) B.max (by decide +kernel) (pa_cons pe_int (pa_cons (pe_callB (call_min2 rfl) (by rfl) B.min (by decide +kernel) (pa_cons pe_int (pa_cons (pe_callB call_len_seq (by rfl) B.len PySem.boot_len (pa_cons (pv 0) pa_nil)) pa_nil))) pa_nil))) pa_nil)) (pg_name (i := 1) scLaw.nd rfl (Or.inl rfl))
        (pss_cons (ps_set (i := 2) scLaw.nd rfl (Or.inl rfl) (pe_call GP r1 (by rfl) DP.mg DP.fn.kp DP.bi .nil pass0 (pa_cons (pv 0) (pa_cons (pv 1) pa_nil))))
        (pss_cons (ps_set (i := 3) scLaw.nd rfl (Or.inr rfl) (pe_call GM r2 (by rfl) DM.mg DM.fn.kp DM.bi .nil pass0 (pa_cons (pv 2) (pa_cons (pe_op op_add pe_int (pe_call GD r1 (by rfl) DD.mg DD.fn.kp DD.bi .nil pass0 (pa_cons (pv 2) (pa_cons pe_int pa_nil)))) pa_nil))))
        (pss_cons (ps_set (i := 4) scLaw.nd rfl (Or.inr rfl) (pe_call GS r3 (by rfl) DS.mg DS.fn.kp DS.bi .nil pass0 (pa_cons (pv 2) (pa_cons (pv 3) pa_nil))))
        (pss_cons (ps_set (i := 5) scLaw.nd rfl (Or.inl rfl) (pe_lst (pa_cons (pe_tup (pa_cons (pv 3) (pa_cons (pv 4) pa_nil))) (pa_cons (pe_tup (pa_cons (pe_op (op_catWK (K := K) rfl) (pv 3) (pe_op (op_repWK (K := K) rfl) (pe_tup (pa_cons pe_int pa_nil)) pe_int)) (pa_cons (pv 4) pa_nil))) (pa_cons (pe_tup (pa_cons (pe_tup pa_nil) (pa_cons (pe_tup pa_nil) pa_nil)))
          (pa_cons (pe_tup (pa_cons (pv 3) (pa_cons (pe_tup pa_nil) pa_nil))) (pa_cons (pe_tup (pa_cons (pe_op (op_repWK (K := K) rfl) (pe_tup (pa_cons pe_int pa_nil)) pe_int) (pa_cons (pe_tup pa_nil) pa_nil))) pa_nil)))))))
        (pss_cons (ps_for PassesOwn.never rfl (pi_range1 (by rfl) B.range (pa_cons pe_int pa_nil)) (pg_name (i := 6) scLaw.nd rfl (Or.inl rfl))
          (pss_cons (ps_expr (pe_bm PySem.F.plainAttrs_list PySem.F.slot_list_append PySem.F.type_list_append mt_append (pv 5) (pa_cons (pe_tup (pa_cons (pe_call GN r6 (by rfl) DN.mg DN.fn.kp DN.bi .nil pass0 (pa_cons (pv 2) (pa_cons (pv 3) pa_nil))) (pa_cons (pv 4) pa_nil))) pa_nil)))
          (pss_one (ps_expr (pe_bm PySem.F.plainAttrs_list PySem.F.slot_list_append PySem.F.type_list_append mt_append (pv 5) (pa_cons (pe_tup (pa_cons (pv 3) (pa_cons (pe_call GN r6 (by rfl) DN.mg DN.fn.kp DN.bi .nil pass0 (pa_cons (pv 2) (pa_cons (pv 4) pa_nil))) pa_nil))) pa_nil))))))
        (pss_cons (ps_expr (pe_bm PySem.F.plainAttrs_list PySem.F.slot_list_append PySem.F.type_list_append mt_append (pv 5) (pa_cons (pe_tup (pa_cons (pe_call GN r6 (by rfl) DN.mg DN.fn.kp DN.bi .nil pass0 (pa_cons (pv 2) (pa_cons (pv 3) pa_nil))) (pa_cons (pe_call GN r6 (by rfl) DN.mg DN.fn.kp DN.bi .nil pass0 (pa_cons (pv 2) (pa_cons (pv 4) pa_nil))) pa_nil))) pa_nil)))
        (pss_cons (ps_expr (pe_bm PySem.F.plainAttrs_list PySem.F.slot_list_extend PySem.F.type_list_extend mt_extend (pv 5) (pa_cons
            (pe_lc (own := [("_law_size", 7)]) (g := gName 7) (tt := tYes) rfl scLaw.nd (pi_tup (pe_tup (pa_cons pe_int (pa_cons pe_int (pa_cons pe_int pa_nil))))) (blkOk_by (N := nLaw) (sc := defScope sLaw) (by decide +kernel)) (fun _ _ _ _ _ => pg_name (i := 7) scLaw.nd rfl (Or.inl rfl)) (fun _ _ _ _ _ => pts_nil)
              (fun _ _ _ _ _ => pe_tup (pa_cons (pe_tupleOfK (K := K) rfl (by rfl) B.tuple (pe_listRg rfl (by rfl) B.list (prg_1 (by rfl) B.range (pv 7)))) (pa_cons (pe_tup pa_nil) pa_nil)))) pa_nil)))
        (pss_cons (ps_expr (pe_bm PySem.F.plainAttrs_list PySem.F.slot_list_extend PySem.F.type_list_extend mt_extend (pv 5) (pa_cons
            (pe_lc (own := [("_law_thing", 8)]) (g := gName 8) (tt := tYes) rfl scLaw.nd (pi_tup (pe_tup (pa_cons pe_non (pa_cons pe_bl (pa_cons pe_int (pa_cons pe_str (pa_cons (pe_lst (pa_cons pe_int pa_nil)) (pa_cons pe_dnewK (pa_cons (pe_disp (pps_cons pe_int pe_int pps_nil) rfl rfl (by decide) (by decide)) (pa_cons (pe_tup (pa_cons (pe_tup (pa_cons pe_int pa_nil)) pa_nil)) pa_nil)))))))))) (blkOk_by (N := nLaw) (sc := defScope sLaw) (by decide +kernel)) (fun _ _ _ _ _ => pg_name (i := 8) scLaw.nd rfl (Or.inl rfl)) (fun _ _ _ _ _ => pts_nil)
              (fun _ _ _ _ _ => pe_tup (pa_cons (pv 8) (pa_cons (pv 4) pa_nil)))) pa_nil)))
        (pss_cons (ps_expr (pe_bm PySem.F.plainAttrs_list PySem.F.slot_list_extend PySem.F.type_list_extend mt_extend (pv 5) (pa_cons
            (pe_lc (own := [("_law_thing", 8)]) (g := gName 8) (tt := tYes) rfl scLaw.nd (pi_tup (pe_tup (pa_cons pe_non (pa_cons pe_bl (pa_cons pe_int (pa_cons pe_str (pa_cons (pe_lst pa_nil) (pa_cons pe_dnewK (pa_cons (pe_tup (pa_cons pe_int (pa_cons pe_int pa_nil))) (pa_cons (pe_tup (pa_cons (pe_tup (pa_cons pe_int (pa_cons pe_int (pa_cons pe_int pa_nil)))) pa_nil)) (pa_cons (pe_tup (pa_cons pe_str pa_nil)) pa_nil))))))))))) (blkOk_by (N := nLaw) (sc := defScope sLaw) (by decide +kernel)) (fun _ _ _ _ _ => pg_name (i := 8) scLaw.nd rfl (Or.inl rfl)) (fun _ _ _ _ _ => pts_nil)
              (fun _ _ _ _ _ => pe_tup (pa_cons (pv 3) (pa_cons (pv 8) pa_nil)))) pa_nil)))
        (pss_one (ps_for PassesOwn.never rfl (pi_list (pv 5)) (pg_tup (by rfl) (pgs_cons (pg_name (i := 9) scLaw.nd rfl (Or.inl rfl)) (pgs_cons (pg_name (i := 10) scLaw.nd rfl (Or.inl rfl)) pgs_nil)))
          (pss_cons (ps_set (i := 11) scLaw.nd rfl (Or.inl rfl) (pe_callB (call_reprK (K := K) rfl Sy gd hu) (by rfl) B.repr (by decide +kernel) (pa_cons (pe_tup (pa_cons (pv 9) (pa_cons (pv 10) pa_nil))) pa_nil)))
          (pss_one (ps_if (PW.pt (pw_or (pt_cmpR op_ne (pe_callB call_reprDue (by rfl) B.repr (by decide +kernel) (pa_cons (pe_callG GF gd hr (by rfl) DF.mg DF.fn.kp DF.bi .nil pass0 (pa_cons (pv 9) (pa_cons (pv 10) pa_nil))) pa_nil))
              (pe_callB call_reprDue (by rfl) B.repr (by decide +kernel) (pa_cons (pe_call GE r3 (by rfl) DE.mg DE.fn.kp DE.bi .nil pass0 (pa_cons (pv 9) (pa_cons (pv 10) pa_nil))) pa_nil)) (nomark _))
            (pw_or1 (pt_cmpR op_ne (pe_callB (call_reprK (K := K) rfl Sy gd hu) (by rfl) B.repr (by decide +kernel) (pa_cons (pe_tup (pa_cons (pv 9) (pa_cons (pv 10) pa_nil))) pa_nil)) (pv 11) (nomark _))))) (pss_one (ps_ret pe_bl)) pss_nil)))))))))))))))
      (pss_one (ps_ret pe_bl)), ?_⟩
    refine ⟨.ref a, rfl, a, _, rfl, .inl hS, 3, _, rfl, 1, _, rfl, ?_⟩
    have vb : ∀ n : Int, 0 ≤ n → n ≤ 63 → 1 ≤ (if (if n < 3 then n else 3) > 1 then (if n < 3 then n else 3) else 1) ∧ (if (if n < 3 then n else 3) > 1 then (if n < 3 then n else 3) else 1) ≤ 3 := fun n _ _ => by
      split <;> split <;> omega
    have vb1 := vb ((cs.map V.int).length : Int) (by omega) (by rw [List.length_map]; omega)
    refine ⟨_, rfl, by omega, by omega, ?_⟩
    refine for_range (lo := 0) (n := _) (fun i σ H' => ∃ (y1 y2 y3 y4 y5 y6 y7 y8 y9 y10 y11 : Option V), σ = [some (.ref a), y1, y2, y3, y4, y5, y6, y7, y8, y9, y10, y11] ∧ Same H H')
      ⟨none, none, none, none, none, none, none, none, none, none, none, rfl, Same.refl H⟩ ?_ ?_
    · rintro i σ H1 hi ⟨y1, y2, y3, y4, y5, y6, y7, y8, y9, y10, y11, rfl, s1⟩
      have hi3 : i < 64 := by omega
      refine ⟨.ref a, rfl, .int (0 + (i : Nat)), rfl, a, cs, i, by rw [Int.zero_add]; rfl, s1.seq hS, hi3, fun H2 p s2 np hp2 => ?_⟩
      refine ⟨.ref p, rfl, .ref p, rfl, p, 0, 8, rfl, hp2, by omega, by decide, by decide, fun m0 t3 H3 m00 m01 ht3 hp3 b3 => ⟨1, m0, rfl, rfl, ?_⟩⟩
      obtain ⟨m, em⟩ : ∃ m : Nat, 1 + m0 = (m : Int) := ⟨(1 + m0).toNat, by omega⟩
      refine ⟨p, t3, m, by rw [← em]; rfl, hp3, by omega, by omega, by omega, fun H4 u t4 ns hp4 ht4 b4 hT4 M => ?_⟩
      have b04 := same_but s2 np (b3.trans b4)
      refine ⟨.ref p, rfl, .ref u, rfl, p, u, t4, ns, rfl, hp4, by omega, hT4, M, fun H5 c t5 ps hp5 ht5 b5 hC5 St => ?_⟩
      have hT5 := sqT_pail hp4 b5 hT4
      have b05 := same_but b04 np b5
      have h8 := M.few
      have m1 := M.pos
      have hC5 := hC5.tups (K := K)
      clear b04 hT4 hp4 hp3 hp2 b3 b4 b5
      -- the first five
      refine ⟨.ref u, rfl, .ref c, rfl, two, fun T1 n1 => ?_⟩
      have z := same_upd (o := .tup [.ref u, .ref c]) n1
      have eT1 : (upd H5 T1 (.tup [.ref u, .ref c])) T1 = some (.tup [.ref u, .ref c]) := upd_same
      generalize upd H5 T1 (.tup [.ref u, .ref c]) = G1 at z eT1 ⊢
      have s5 := z
      refine ⟨.ref u, rfl, one, fun Z nZ => ?_⟩
      have z := same_upd (o := .tup [.int 0]) nZ
      have eZ : SqT K (upd G1 Z (.tup [.int 0])) Z [.int 0] := tupNew upd_same
      have eT1 := z _ _ eT1
      generalize upd G1 Z (.tup [.int 0]) = G2 at z eZ eT1 ⊢
      have s5 := s5.trans z
      have e8 : (List.replicate (8 : Int).toNat [V.int 0]).flatten = (List.replicate 8 (0 : Int)).map V.int := by rfl
      have e9 : (List.replicate (9 : Int).toNat [V.int 0]).flatten = (List.replicate 9 (0 : Int)).map V.int := by rfl
      refine ⟨Z, 8, [.int 0], rfl, rfl, eZ, by decide, by decide, by decide, fun W G3 z hW => ?_⟩
      have eT1 := z _ _ eT1
      have s5 := s5.trans z
      rw [e8] at hW
      refine ⟨u, W, _, _, rfl, rfl, sqT_same s5 hT5, hW, by rw [List.length_map, List.length_map, List.length_replicate, sizeLine_eq]; omega, fun X G4 z hX => ?_⟩
      have eT1 := z _ _ eT1
      have s5 := s5.trans z
      rw [← List.map_append] at hX
      refine ⟨.ref c, rfl, two, fun T2 n2 => ?_⟩
      have z := same_upd (o := .tup [.ref X, .ref c]) n2
      have eT2 : (upd G4 T2 (.tup [.ref X, .ref c])) T2 = some (.tup [.ref X, .ref c]) := upd_same
      have eT1 := z _ _ eT1
      have hX := sqT_same z hX
      generalize upd G4 T2 (.tup [.ref X, .ref c]) = G5 at z eT2 eT1 hX ⊢
      have s5 := s5.trans z
      refine ⟨Nat.zero_le _, fun E1 n0 => ?_⟩
      have z := same_upd (o := .tup []) n0
      have eE1 : (upd G5 E1 (.tup [])) E1 = some (.tup []) := upd_same
      have eT1 := z _ _ eT1
      have eT2 := z _ _ eT2
      have hX := sqT_same z hX
      generalize upd G5 E1 (.tup []) = G6 at z eT2 eT1 eE1 hX ⊢
      have s5 := s5.trans z
      clear n0
      refine ⟨Nat.zero_le _, fun E2 n0 => ?_⟩
      have z := same_upd (o := .tup []) n0
      have eE2 : (upd G6 E2 (.tup [])) E2 = some (.tup []) := upd_same
      have eT1 := z _ _ eT1
      have eT2 := z _ _ eT2
      have eE1 := z _ _ eE1
      have hX := sqT_same z hX
      generalize upd G6 E2 (.tup []) = G7 at z eT2 eT1 eE1 eE2 hX ⊢
      have s5 := s5.trans z
      clear n0
      refine ⟨two, fun T3 n0 => ?_⟩
      have z := same_upd (o := .tup [.ref E1, .ref E2]) n0
      have eT3 : (upd G7 T3 (.tup [.ref E1, .ref E2])) T3 = some (.tup [.ref E1, .ref E2]) := upd_same
      have eT1 := z _ _ eT1
      have eT2 := z _ _ eT2
      have eE1 := z _ _ eE1
      have eE2 := z _ _ eE2
      have hX := sqT_same z hX
      generalize upd G7 T3 (.tup [.ref E1, .ref E2]) = G8 at z eT2 eT1 eE1 eE2 eT3 hX ⊢
      have s5 := s5.trans z
      clear n0
      refine ⟨.ref u, rfl, Nat.zero_le _, fun E3 n0 => ?_⟩
      have z := same_upd (o := .tup []) n0
      have eE3 : (upd G8 E3 (.tup [])) E3 = some (.tup []) := upd_same
      have eT1 := z _ _ eT1
      have eT2 := z _ _ eT2
      have eE1 := z _ _ eE1
      have eE2 := z _ _ eE2
      have eT3 := z _ _ eT3
      have hX := sqT_same z hX
      generalize upd G8 E3 (.tup []) = G9 at z eT2 eT1 eE1 eE2 eT3 eE3 hX ⊢
      have s5 := s5.trans z
      clear n0
      refine ⟨two, fun T4 n0 => ?_⟩
      have z := same_upd (o := .tup [.ref u, .ref E3]) n0
      have eT4 : (upd G9 T4 (.tup [.ref u, .ref E3])) T4 = some (.tup [.ref u, .ref E3]) := upd_same
      have eT1 := z _ _ eT1
      have eT2 := z _ _ eT2
      have eE1 := z _ _ eE1
      have eE2 := z _ _ eE2
      have eT3 := z _ _ eT3
      have eE3 := z _ _ eE3
      have hX := sqT_same z hX
      generalize upd G9 T4 (.tup [.ref u, .ref E3]) = F1 at z eT2 eT1 eE1 eE2 eT3 eE3 eT4 hX ⊢
      have s5 := s5.trans z
      clear n0
      refine ⟨one, fun Z2 n0 => ?_⟩
      have z := same_upd (o := .tup [.int 0]) n0
      have eZ2 : SqT K (upd F1 Z2 (.tup [.int 0])) Z2 [.int 0] := tupNew upd_same
      have eT1 := z _ _ eT1
      have eT2 := z _ _ eT2
      have eE1 := z _ _ eE1
      have eE2 := z _ _ eE2
      have eT3 := z _ _ eT3
      have eE3 := z _ _ eE3
      have eT4 := z _ _ eT4
      have hX := sqT_same z hX
      generalize upd F1 Z2 (.tup [.int 0]) = F2 at z eT2 eT1 eE1 eE2 eT3 eE3 eT4 eZ2 hX ⊢
      have s5 := s5.trans z
      clear n0
      refine ⟨Z2, 9, [.int 0], rfl, rfl, eZ2, by decide, by decide, by decide, fun W2 F3 z hW2 => ?_⟩
      rw [e9] at hW2
      have eT1 := z _ _ eT1
      have eT2 := z _ _ eT2
      have eE1 := z _ _ eE1
      have eE2 := z _ _ eE2
      have eT3 := z _ _ eT3
      have eE3 := z _ _ eE3
      have eT4 := z _ _ eT4
      have hX := sqT_same z hX
      have s5 := s5.trans z
      refine ⟨Nat.zero_le _, fun E4 n0 => ?_⟩
      have z := same_upd (o := .tup []) n0
      have eE4 : (upd F3 E4 (.tup [])) E4 = some (.tup []) := upd_same
      have eT1 := z _ _ eT1
      have eT2 := z _ _ eT2
      have eE1 := z _ _ eE1
      have eE2 := z _ _ eE2
      have eT3 := z _ _ eT3
      have eE3 := z _ _ eE3
      have eT4 := z _ _ eT4
      have hX := sqT_same z hX
      have hW2 := sqT_same z hW2
      generalize upd F3 E4 (.tup []) = F4 at z eT2 eT1 eE1 eE2 eT3 eE3 eT4 eE4 hX hW2 ⊢
      have s5 := s5.trans z
      clear n0
      refine ⟨two, fun T5 n0 => ?_⟩
      have z := same_upd (o := .tup [.ref W2, .ref E4]) n0
      have eT5 : (upd F4 T5 (.tup [.ref W2, .ref E4])) T5 = some (.tup [.ref W2, .ref E4]) := upd_same
      have eT1 := z _ _ eT1
      have eT2 := z _ _ eT2
      have eE1 := z _ _ eE1
      have eE2 := z _ _ eE2
      have eT3 := z _ _ eT3
      have eE3 := z _ _ eE3
      have eT4 := z _ _ eT4
      have eE4 := z _ _ eE4
      have hX := sqT_same z hX
      have hW2 := sqT_same z hW2
      generalize upd F4 T5 (.tup [.ref W2, .ref E4]) = F5 at z eT2 eT1 eE1 eE2 eT3 eE3 eT4 eE4 eT5 hX hW2 ⊢
      have s5 := s5.trans z
      clear n0
      refine ⟨(by show 5 ≤ sizeLine; decide), fun S n0 => ?_⟩
      have z := same_upd (o := .lst [.ref T1, .ref T2, .ref T3, .ref T4, .ref T5]) n0
      have eS : (upd F5 S (.lst [.ref T1, .ref T2, .ref T3, .ref T4, .ref T5])) S = some (.lst [.ref T1, .ref T2, .ref T3, .ref T4, .ref T5]) := upd_same
      have hpS := pail_same hp5 (s5.trans z)
      have hSp : S ≠ p := pail_ne (pail_same hp5 s5) n0
      have nS1 : H1 S = none := (b05.trans s5).free n0
      have eT1 := z _ _ eT1
      have eT2 := z _ _ eT2
      have eE1 := z _ _ eE1
      have eE2 := z _ _ eE2
      have eT3 := z _ _ eT3
      have eE3 := z _ _ eE3
      have eT4 := z _ _ eT4
      have eE4 := z _ _ eE4
      have eT5 := z _ _ eT5
      have hX := sqT_same z hX
      have hW2 := sqT_same z hW2
      generalize upd F5 S (.lst [.ref T1, .ref T2, .ref T3, .ref T4, .ref T5]) = F6 at z eT2 eT1 eE1 eE2 eT3 eE3 eT4 eE4 eT5 hX hW2 eS hpS ⊢
      have s5 := s5.trans z
      clear n0
      have hL : Lk p [S, p] F6 := ⟨List.mem_cons_of_mem _ (List.mem_cons_self ..), fun x hx => by
        simp only [List.mem_cons, List.not_mem_nil, or_false] at hx
        rcases hx with rfl | rfl
        · exact ⟨_, eS⟩
        · obtain ⟨x1, x2, e, _⟩ := hpS
          exact ⟨_, e⟩⟩
      have dm : Dq K (rmS [S, p] F6) (.ref u) (dI ns) := dqI (rmS_tup hL.2 (sqT_same s5 hT5))
      have ds : Dq K (rmS [S, p] F6) (.ref c) (dTT ps) := by
        obtain ⟨ks, e1, e2, e3⟩ := hC5
        exact dqTT ⟨ks, e1, rmS_tup hL.2 (sqT_same s5 e2), fun k hk => rmS_tup hL.2 (sqT_same s5 (e3 k hk))⟩
      have tp : ∀ {A : Addr} {xs : List V}, F6 A = some (.tup xs) → SqT K (rmS [S, p] F6) A xs := fun e => rmS_tup hL.2 (tupNew e)
      have nl : ∀ {A : Addr}, F6 A = some (.tup []) → Dq K (rmS [S, p] F6) (.ref A) (.tuple []) := fun e => .tup (tp e) .nil
      have hpr : ∀ q ∈ ps, Pr 64 q := fun q hq => (show Pr (ns.length : Int) q from St.pair q hq).mono (by omega)
      have gM : Gq (dI ns) 1 8 := gq_dI (fun n hn => by have := M.inn n hn; omega) h8
      have gS : Gq (dTT ps) 2 192 := gq_dTT (b := 64) (by decide) hpr St.few
      have gZ : ∀ k, k ≤ 20 → Gq (dI (List.replicate k (0 : Int))) 1 20 := fun k hk => gq_dI (fun n hn => by rw [List.eq_of_mem_replicate hn]; decide) (by rw [List.length_replicate]; exact hk)
      have g0 : Gq (.tuple []) 1 0 := gq_tup.mpr ⟨(fun e he => by cases he), by simp [PyData.bulkAll]⟩
      have gX : Gq (dI (ns ++ List.replicate 8 0)) 1 20 := gq_dI (fun n hn => by
        rcases List.mem_append.mp hn with z | z
        · have := M.inn n z; omega
        · rw [List.eq_of_mem_replicate z]; decide) (by rw [List.length_append, List.length_replicate]; omega)
      have st : Stt K p S u c ns ps F6 t5 [.tuple [dI ns, dTT ps], .tuple [dI (ns ++ List.replicate 8 0), dTT ps], .tuple [.tuple [], .tuple []], .tuple [dI ns, .tuple []], .tuple [dI (List.replicate 9 0), .tuple []]] := by
        refine ⟨hpS, hL, ⟨List.mem_cons_self .., _, eS, ?_⟩, hSp, dm, ds, fun e he => ?_⟩
        · exact .cons (.tup (tp eT1) (.cons dm (.cons ds .nil))) (.cons (.tup (tp eT2) (.cons (dqI (rmS_tup hL.2 hX)) (.cons ds .nil))) (.cons (.tup (tp eT3) (.cons (nl eE1) (.cons (nl eE2) .nil))) (.cons (.tup (tp eT4) (.cons dm (.cons (nl eE3) .nil))) (.cons (.tup (tp eT5) (.cons (dqI (rmS_tup hL.2 hW2)) (.cons (nl eE4) .nil))) .nil))))
        · simp only [List.mem_cons, List.not_mem_nil, or_false] at he
          rcases he with rfl | rfl | rfl | rfl | rfl
          · exact .mk gM gS (by decide) (by decide) (by decide) (by decide)
          · exact .mk gX gS (by decide) (by decide) (by decide) (by decide)
          · exact .mk g0 g0 (by decide) (by decide) (by decide) (by decide)
          · exact .mk gM g0 (by decide) (by decide) (by decide) (by decide)
          · exact .mk (gZ 9 (by decide)) g0 (by decide) (by decide) (by decide) (by decide)
      have s05 : Same H1 F6 := b05.trans s5
      clear tp nl eT1 eT2 eT3 eT4 eT5 eE1 eE2 eE3 eE4 hX hW hW2 eS hpS hL dm ds gX g0 gZ
      have eE : [PyData.tuple [dI ns, dTT ps], .tuple [dI (ns ++ List.replicate 8 0), dTT ps], .tuple [.tuple [], .tuple []], .tuple [dI ns, .tuple []], .tuple [dI (List.replicate 9 0), .tuple []]].length = 5 := rfl
      generalize [PyData.tuple [dI ns, dTT ps], .tuple [dI (ns ++ List.replicate 8 0), dTT ps], .tuple [.tuple [], .tuple []], .tuple [dI ns, .tuple []], .tuple [dI (List.replicate 9 0), .tuple []]] = es0 at st eE
      have l0 : es0.length = 5 := eE
      dsimp only
      refine seq_mid (fun σ H' => ∃ (es : List PyData) (t' : Nat) (z6 z7 z8 z9 z10 z11 : Option V), σ = [some (.ref a), some (.int (0 + (i : Nat))), some (.ref p), some (.ref u), some (.ref c), some (.ref S), z6, z7, z8, z9, z10, z11] ∧ t' ≤ t5 + 144 ∧ Same H1 H' ∧ Stt K p S u c ns ps H' t' es ∧ es.length ≤ 17) (fun σ H7 h => ?_) (fun tail => ?_)
      · obtain ⟨es, t', z6, z7, z8, z9, z10, z11, rfl, ht', s7, st7, l7⟩ := h
        obtain ⟨_, vs0, e0, _⟩ := st7.pl
        refine ⟨.ref S, rfl, .inl ⟨rfl, _, lstNew e0⟩, .ref p, rfl, .ref u, rfl, [S, p], p, t', .ref u, dI ns, 1, 8, rfl, st7.L, st7.hp, (by show t' + 5 * 3 ≤ 1800; omega), st7.dm, lv_dI (fun n hn => by have := M.inn n hn; omega), gM, by decide, by decide, fun H8 v d t8 ht8 hp8 b8 dq8 g8 _ => ?_⟩
        have st8 := st7.but b8 hp8
        have e8 : t8 ≤ t' + 4 * 3 := ht8
        refine ⟨.ref p, rfl, .ref c, rfl, [S, p], p, t8, .ref c, dTT ps, 2, 192, rfl, st8.L, st8.hp, (by show t8 + 5 * 3 ≤ 1800; omega), st8.ds, lv_dTT hpr, gS, by decide, by decide, fun H9 v2 d2 t9 ht9 hp9 b9 dq9 g9 _ => ⟨two, fun U nU => ?_⟩⟩
        have st9 := st8.but b9 hp9
        obtain ⟨vs, eS, lvs, stA⟩ := st9.push nU (Dq.same (st8.L.mono b9) dq8) dq9 (.mk g8 g9 (by decide) (by decide) (by decide) (by decide))
        refine ⟨S, vs, .ref U, rfl, rfl, eS, by rw [sizeLine_eq]; omega, ?_⟩
        have sA : Same H1 (upd (upd H9 U (.tup [v, v2])) S (.lst (vs ++ [.ref U]))) := fun b o e => by
          rw [upd_ne (ne_of_none e nS1)]; exact same_upd nU b o (same_but (same_but s7 np b8) np b9 b o e)
        have lA : (es ++ [PyData.tuple [d, d2]]).length ≤ 18 := by rw [List.length_append]; simp only [List.length_cons, List.length_nil]; omega
        generalize upd (upd H9 U (.tup [v, v2])) S (.lst (vs ++ [.ref U])) = HA at stA sA ⊢
        generalize es ++ [PyData.tuple [d, d2]] = esA at stA lA
        clear eS lvs nU dq8 dq9 g8 g9 st9 st8 st7 e0 vs l7 b8 b9 hp8 hp9
        -- rules of one, eight and nine marks
        obtain ⟨_, vs0, e0, _⟩ := stA.pl
        refine ⟨.ref S, rfl, .inl ⟨rfl, _, lstNew e0⟩, (by show 3 ≤ sizeLine; decide), fun TT nTT => ⟨TT, rfl, ⟨_, tupNew upd_same⟩, fun D nD => ?_⟩⟩
        have zT := same_upd (o := .tup [.int 1, .int 8, .int 9]) nTT
        have eTT : SqT K (upd HA TT (.tup [.int 1, .int 8, .int 9])) TT [.int 1, .int 8, .int 9] := tupNew upd_same
        have stG := stA.same zT
        have sG := sA.trans zT
        generalize upd HA TT (.tup [.int 1, .int 8, .int 9]) = G at zT eTT stG sG nD ⊢
        have hDp : D ≠ p := pail_ne stG.hp nD
        have sD := same_upd (o := .lst []) nD
        refine lc_tup (K := K) (a := TT) (xs := [.int 1, .int 8, .int 9]) (fun k H' => Same G H' ∧ ∃ fs : List PyData, Lk p [D, S, p] H' ∧ PileQ K H' [D, S, p] D fs ∧ fs.length = k ∧ ∀ e ∈ fs, FnP e)
          ⟨sD, [], (stG.L.same sD).add upd_same, PileQ.nil nD, rfl, fun d hd => by cases hd⟩ (fun k H' _ h => sqT_same h.1 eTT) (fun k x H' hx h => ?_) fun HB h => ?_
        · obtain ⟨s', fs, hL', pl', le', fe'⟩ := h
          obtain ⟨j, rfl, j0, j9⟩ : ∃ j : Int, x = .int j ∧ 0 ≤ j ∧ j ≤ 9 := by
            have z := List.mem_of_getElem? hx
            simp only [List.mem_cons, List.not_mem_nil, or_false] at z
            rcases z with rfl | rfl | rfl
            · exact ⟨1, rfl, by decide, by decide⟩
            · exact ⟨8, rfl, by decide, by decide⟩
            · exact ⟨9, rfl, by decide, by decide⟩
          have k3 : k < 3 := (List.getElem?_eq_some_iff.mp hx).1
          refine ⟨rfl, tt_yes ⟨.int j, rfl, j, rfl, RgOk.of_le (by omega) (by omega) (by omega) (by omega), fun b nb => .inl ⟨b, _, rfl, lstNew upd_same, fun t1 nt1 => ⟨Nat.zero_le _, fun E nE => ⟨two, fun U nU => ?_⟩⟩⟩⟩⟩
          have z1 := same_upd (o := .lst (rgV 0 j)) nb
          have z2 := same_upd (o := .tup (rgV 0 j)) nt1
          have z3 := same_upd (o := .tup []) nE
          have z4 := same_upd (o := .tup [.ref t1, .ref E]) nU
          have et := (z3.trans z4) _ _ (upd_same (H := upd H' b (.lst (rgV 0 j))) (a := t1) (o := .tup (rgV 0 j)))
          have eE0 := z4 _ _ (upd_same (H := upd (upd H' b (.lst (rgV 0 j))) t1 (.tup (rgV 0 j))) (a := E) (o := .tup []))
          have eU : (upd (upd (upd (upd H' b (.lst (rgV 0 j))) t1 (.tup (rgV 0 j))) E (.tup [])) U (.tup [.ref t1, .ref E])) U = some (.tup [.ref t1, .ref E]) := upd_same
          have z := ((z1.trans z2).trans z3).trans z4
          generalize upd (upd (upd (upd H' b (.lst (rgV 0 j))) t1 (.tup (rgV 0 j))) E (.tup [])) U (.tup [.ref t1, .ref E]) = H2 at et eE0 eU z ⊢
          have hL2 := hL'.same z
          have pl2 := pl'.same z
          rw [rgV_rgI] at et
          have dq2 : Dq K (rmS [D, S, p] H2) (.ref U) (.tuple [dI (rgI 0 j), .tuple []]) := .tup (rmS_tup hL2.2 (tupNew eU)) (.cons (dqI (rmS_tup hL2.2 (tupNew et))) (.cons (.tup (rmS_tup hL2.2 (tupNew eE0)) .nil) .nil))
          have f2 : FnP (.tuple [dI (rgI 0 j), .tuple []]) := .mk (m := 20) (gq_dI (fun n hn => by
            obtain ⟨q, hq⟩ := List.mem_iff_getElem?.mp hn
            have := rgI_get.mp hq
            omega) (by rw [rgI_len]; omega)) (gq_tup (n := 0) (m := 0) |>.mpr ⟨(fun e he => by cases he), by simp [PyData.bulkAll]⟩) (by decide) (by decide) (by decide) (by decide)
          obtain ⟨mD, vs, eD2, hA2⟩ := pl2
          have lv2 : vs.length = fs.length := DqAll.len hA2
          have pl2 : PileQ K H2 [D, S, p] D fs := ⟨mD, vs, eD2, hA2⟩
          refine ⟨vs, eD2, by rw [sizeLine_eq]; omega, ?_, fs ++ [_], hL2.set, pl2.add eD2 dq2, by rw [List.length_append, le']; rfl, fun e he => ?_⟩
          · exact fun b o z' => by rw [upd_ne (ne_of_none z' nD)]; exact z b o (s' b o z')
          · rcases List.mem_append.mp he with q | q
            · exact fe' e q
            · rw [List.mem_singleton.mp q]; exact f2
        obtain ⟨s', fs, hLB, plB, leB, feB⟩ := h
        obtain ⟨_, us, eD, hD⟩ := plB
        have lus : us.length = fs.length := DqAll.len hD
        obtain ⟨vs, eSB, lvs, stB⟩ := stG.join nD (But.of s') (pail_same stG.hp s') hD feB
        have leB : fs.length = 3 := leB
        refine ⟨S, D, vs, us, rfl, rfl, eSB, eD, by rw [sizeLine_eq]; omega, ?_⟩
        have sB : Same H1 (upd HB S (.lst (vs ++ us))) := fun b o e => by rw [upd_ne (ne_of_none e nS1)]; exact s' b o (sG b o e)
        have lB : (esA ++ fs).length ≤ 21 := by rw [List.length_append]; omega
        generalize upd HB S (.lst (vs ++ us)) = HC at stB sB ⊢
        generalize esA ++ fs = esB at stB lB
        -- things in the place of the mirrors
        obtain ⟨_, vs0, e0, _⟩ := stB.pl
        refine ⟨.ref S, rfl, .inl ⟨rfl, _, lstNew e0⟩, one, fun A1 n1 => ?_⟩
        have z1 := same_upd (o := .lst [.int 0]) n1
        have eA1 : (upd HC A1 (.lst [.int 0])) A1 = some (.lst [.int 0]) := upd_same
        have stC := stB.same z1
        have sC := sB.trans z1
        have fA1 := stB.L.2.fresh n1
        generalize upd HC A1 (.lst [.int 0]) = G1 at eA1 stC sC ⊢
        refine fun A2 n2 => ?_
        have z2 := same_upd (o := .dK []) n2
        have eA2 : (upd G1 A2 (.dK [])) A2 = some (.dK []) := upd_same
        have fA2 := stC.L.2.fresh n2
        have stC := stC.same z2
        have sC := sC.trans z2
        have eA1 := z2 _ _ eA1
        generalize upd G1 A2 (.dK []) = G2 at eA1 eA2 stC sC ⊢
        refine fun A3 n3 => ⟨upd_same, [(Sum.inl 0, V.int 0)], rfl, by decide, ?_⟩
        have z3 : Same G2 (upd (upd G2 A3 (.dK [])) A3 (.dK (mergeK [] [(Sum.inl 0, V.int 0)]))) := fun b o e => by
          rw [upd_ne (ne_of_none e n3), upd_ne (ne_of_none e n3)]; exact e
        have eA3 : (upd (upd G2 A3 (.dK [])) A3 (.dK (mergeK [] [(Sum.inl 0, V.int 0)]))) A3 = some (.dK [(Sum.inl 0, V.int 0)]) := upd_same
        have fA3 := stC.L.2.fresh n3
        have stC := stC.same z3
        have sC := sC.trans z3
        have eA1 := z3 _ _ eA1
        have eA2 := z3 _ _ eA2
        generalize upd (upd G2 A3 (.dK [])) A3 (.dK (mergeK [] [(Sum.inl 0, V.int 0)])) = G3 at eA1 eA2 eA3 stC sC ⊢
        refine ⟨one, fun A4 n4 => ⟨one, fun A5 n5 => ⟨(by show 8 ≤ sizeLine; decide), fun TT nTT => ?_⟩⟩⟩
        have z4 := same_upd (o := .tup [.int 0]) n4
        have z5 := same_upd (o := .tup [.ref A4]) n5
        have zT := same_upd (o := .tup [.non, .bl true, .int 0, .str "0", .ref A1, .ref A2, .ref A3, .ref A5]) nTT
        have eA4 := (z5.trans zT) _ _ (upd_same (H := G3) (a := A4) (o := .tup [.int 0]))
        have eA5 := zT _ _ (upd_same (H := upd G3 A4 (.tup [.int 0])) (a := A5) (o := .tup [.ref A4]))
        have eTT : SqT K (upd (upd (upd G3 A4 (.tup [.int 0])) A5 (.tup [.ref A4])) TT (.tup [.non, .bl true, .int 0, .str "0", .ref A1, .ref A2, .ref A3, .ref A5])) TT [.non, .bl true, .int 0, .str "0", .ref A1, .ref A2, .ref A3, .ref A5] := tupNew upd_same
        have z := (z4.trans z5).trans zT
        have stG := stC.same z
        have sG := sC.trans z
        have eA1 := z _ _ eA1
        have eA2 := z _ _ eA2
        have eA3 := z _ _ eA3
        refine ⟨TT, rfl, ⟨_, eTT⟩, fun D nD => ?_⟩
        generalize upd (upd (upd G3 A4 (.tup [.int 0])) A5 (.tup [.ref A4])) TT (.tup [.non, .bl true, .int 0, .str "0", .ref A1, .ref A2, .ref A3, .ref A5]) = G at eA1 eA2 eA3 eA4 eA5 eTT stG sG nD ⊢
        have hAll : DqAll K (rmS [S, p] G) [.non, .bl true, .int 0, .str "0", .ref A1, .ref A2, .ref A3, .ref A5] [.none, .bool true, .int 0, .str "0", .list [.int 0], .dict [], .dict [(.int 0, .int 0)], .tuple [.tuple [.int 0]]] :=
          .cons .non (.cons (.bl _) (.cons (.int _) (.cons (.str _) (.cons (.lst (rmS_at eA1 fA1) (.cons (.int _) .nil)) (.cons (.dct (rmS_at eA2 fA2) .nil) (.cons (.dct (rmS_at eA3 fA3) (.one 0 0)) (.cons (.tup (rmS_tup stG.L.2 (tupNew eA5)) (.cons (.tup (rmS_tup stG.L.2 (tupNew eA4)) (.cons (.int _) .nil)) .nil)) .nil)))))))
        have i0 : Gq (.int 0) 0 0 := gq_int (by decide)
        have gAll : ∀ e ∈ [PyData.none, .bool true, .int 0, .str "0", .list [.int 0], .dict [], .dict [(.int 0, .int 0)], .tuple [.tuple [.int 0]]], Gq e 10 1000 := fun e he => by
          simp only [List.mem_cons, List.not_mem_nil, or_false] at he
          rcases he with rfl | rfl | rfl | rfl | rfl | rfl | rfl | rfl
          · exact gq_none.up (by decide) (by decide)
          · exact (gq_bool _).up (by decide) (by decide)
          · exact i0.up (by decide) (by decide)
          · exact (gq_str (m := 1) (by decide) (by decide)).up (by decide) (by decide)
          · exact (gq_lst (n := 0) (m := 1) |>.mpr ⟨fun e he => by rw [List.mem_singleton.mp he]; exact i0.up (by decide) (by decide), by rw [bulk_one]; simp [PyData.bulk]⟩).up (by decide) (by decide)
          · exact gq_nil.up (by decide) (by decide)
          · exact gq_zero.up (by decide) (by decide)
          · refine (gq_tup (n := 1) (m := 3) |>.mpr ⟨fun e he => ?_, ?_⟩).up (by decide) (by decide)
            · rw [List.mem_singleton.mp he]
              exact gq_tup (n := 0) (m := 3) |>.mpr ⟨fun e he => by rw [List.mem_singleton.mp he]; exact i0.up (by decide) (by decide), by rw [bulk_one]; simp [PyData.bulk]⟩
            · simp [PyData.bulk, PyData.bulkAll]
        generalize hds : [PyData.none, .bool true, .int 0, .str "0", .list [.int 0], .dict [], .dict [(.int 0, .int 0)], .tuple [.tuple [.int 0]]] = dsT at hAll gAll
        generalize hxs : [V.non, .bl true, .int 0, .str "0", .ref A1, .ref A2, .ref A3, .ref A5] = xsT at hAll eTT
        have lxT : xsT.length = 8 := by rw [← hxs]; rfl
        have hDp : D ≠ p := pail_ne stG.hp nD
        have sD := same_upd (o := .lst []) nD
        refine lc_tup (K := K) (a := TT) (xs := xsT) (fun k H' => Same G H' ∧ ∃ fs : List PyData, Lk p [D, S, p] H' ∧ PileQ K H' [D, S, p] D fs ∧ fs.length = k ∧ ∀ e ∈ fs, FnP e)
          ⟨sD, [], (stG.L.same sD).add upd_same, PileQ.nil nD, rfl, fun d hd => by cases hd⟩ (fun k H' _ h => sqT_same h.1 eTT) (fun k x H' hx h => ?_) fun HB h => ?_
        · obtain ⟨s', fs, hL', pl', le', fe'⟩ := h
          obtain ⟨ex, gx, hdx⟩ := DqAll.at hAll hx
          have k8 : k < 8 := by have := (List.getElem?_eq_some_iff.mp hx).1; omega
          refine ⟨rfl, tt_yes ⟨x, rfl, .ref c, rfl, two, fun U nU => ?_⟩⟩
          have z := same_upd (o := .tup [x, .ref c]) nU
          have eU : (upd H' U (.tup [x, .ref c])) U = some (.tup [x, .ref c]) := upd_same
          generalize upd H' U (.tup [x, .ref c]) = H2 at eU z ⊢
          have hL2 := hL'.same z
          have pl2 := pl'.same z
          have up : Same (rmS [S, p] G) (rmS [D, S, p] H2) := (rmS_more nD).trans (rmS_mono (s'.trans z))
          have dq2 : Dq K (rmS [D, S, p] H2) (.ref U) (.tuple [ex, dTT ps]) := .tup (rmS_tup hL2.2 (tupNew eU)) (.cons (Dq.same up hdx) (.cons (Dq.same up stG.ds) .nil))
          have f2 : FnP (.tuple [ex, dTT ps]) := .mk (gAll ex (List.mem_of_getElem? gx)) gS (by decide) (by decide) (by decide) (by decide)
          obtain ⟨mD, vs, eD2, hA2⟩ := pl2
          have lv2 : vs.length = fs.length := DqAll.len hA2
          have pl2 : PileQ K H2 [D, S, p] D fs := ⟨mD, vs, eD2, hA2⟩
          refine ⟨vs, eD2, by rw [sizeLine_eq]; omega, ?_, fs ++ [_], hL2.set, pl2.add eD2 dq2, by rw [List.length_append, le']; rfl, fun e he => ?_⟩
          · exact fun b o z' => by rw [upd_ne (ne_of_none z' nD)]; exact z b o (s' b o z')
          · rcases List.mem_append.mp he with q | q
            · exact fe' e q
            · rw [List.mem_singleton.mp q]; exact f2
        obtain ⟨s', fs, hLB, plB, leB, feB⟩ := h
        obtain ⟨_, us, eD, hD⟩ := plB
        have lus : us.length = fs.length := DqAll.len hD
        obtain ⟨vs, eSB, lvs, stD⟩ := stG.join nD (But.of s') (pail_same stG.hp s') hD feB
        rw [lxT] at leB
        refine ⟨S, D, vs, us, rfl, rfl, eSB, eD, by rw [sizeLine_eq]; omega, ?_⟩
        have sE : Same H1 (upd HB S (.lst (vs ++ us))) := fun b o e => by rw [upd_ne (ne_of_none e nS1)]; exact s' b o (sG b o e)
        have lD : (esB ++ fs).length ≤ 29 := by rw [List.length_append]; omega
        generalize upd HB S (.lst (vs ++ us)) = HD at stD sE ⊢
        generalize esB ++ fs = esD at stD lD
        -- things in the place of the steps
        obtain ⟨_, vs1, e1, _⟩ := stD.pl
        refine ⟨.ref S, rfl, .inl ⟨rfl, _, lstNew e1⟩, Nat.zero_le _, fun B1 n1 => ?_⟩
        have z1 := same_upd (o := .lst []) n1
        have eB1 : (upd HD B1 (.lst [])) B1 = some (.lst []) := upd_same
        have fB1 := stD.L.2.fresh n1
        have stE := stD.same z1
        have sE := sE.trans z1
        generalize upd HD B1 (.lst []) = J1 at eB1 stE sE ⊢
        refine fun B2 n2 => ?_
        have z2 := same_upd (o := .dK []) n2
        have eB2 : (upd J1 B2 (.dK [])) B2 = some (.dK []) := upd_same
        have fB2 := stE.L.2.fresh n2
        have stE := stE.same z2
        have sE := sE.trans z2
        have eB1 := z2 _ _ eB1
        generalize upd J1 B2 (.dK []) = J2 at eB1 eB2 stE sE ⊢
        refine ⟨two, fun B3 n3 => ⟨(by show 3 ≤ sizeLine; decide), fun B4 n4 => ⟨one, fun B5 n5 => ⟨one, fun B6 n6 => ⟨(by show 9 ≤ sizeLine; decide), fun TT2 nTT => ?_⟩⟩⟩⟩⟩
        have z3 := same_upd (o := .tup [.int 0, .int 1]) n3
        have z4 := same_upd (o := .tup [.int 0, .int 0, .int 0]) n4
        have z5 := same_upd (o := .tup [.ref B4]) n5
        have z6 := same_upd (o := .tup [.str "00"]) n6
        have zT := same_upd (o := .tup [.non, .bl true, .int 0, .str "", .ref B1, .ref B2, .ref B3, .ref B5, .ref B6]) nTT
        have eB3 := (((z4.trans z5).trans z6).trans zT) _ _ (upd_same (H := J2) (a := B3) (o := .tup [.int 0, .int 1]))
        have eB4 := ((z5.trans z6).trans zT) _ _ (upd_same (H := upd J2 B3 (.tup [.int 0, .int 1])) (a := B4) (o := .tup [.int 0, .int 0, .int 0]))
        have eB5 := (z6.trans zT) _ _ (upd_same (H := upd (upd J2 B3 (.tup [.int 0, .int 1])) B4 (.tup [.int 0, .int 0, .int 0])) (a := B5) (o := .tup [.ref B4]))
        have eB6 := zT _ _ (upd_same (H := upd (upd (upd J2 B3 (.tup [.int 0, .int 1])) B4 (.tup [.int 0, .int 0, .int 0])) B5 (.tup [.ref B4])) (a := B6) (o := .tup [.str "00"]))
        have eTT2 : SqT K (upd (upd (upd (upd (upd J2 B3 (.tup [.int 0, .int 1])) B4 (.tup [.int 0, .int 0, .int 0])) B5 (.tup [.ref B4])) B6 (.tup [.str "00"])) TT2 (.tup [.non, .bl true, .int 0, .str "", .ref B1, .ref B2, .ref B3, .ref B5, .ref B6])) TT2 [.non, .bl true, .int 0, .str "", .ref B1, .ref B2, .ref B3, .ref B5, .ref B6] := tupNew upd_same
        have z := (((z3.trans z4).trans z5).trans z6).trans zT
        have stJ := stE.same z
        have sJ := sE.trans z
        have eB1 := z _ _ eB1
        have eB2 := z _ _ eB2
        refine ⟨TT2, rfl, ⟨_, eTT2⟩, fun D2 nD2 => ?_⟩
        generalize upd (upd (upd (upd (upd J2 B3 (.tup [.int 0, .int 1])) B4 (.tup [.int 0, .int 0, .int 0])) B5 (.tup [.ref B4])) B6 (.tup [.str "00"])) TT2 (.tup [.non, .bl true, .int 0, .str "", .ref B1, .ref B2, .ref B3, .ref B5, .ref B6]) = J at eB1 eB2 eB3 eB4 eB5 eB6 eTT2 stJ sJ nD2 ⊢
        have hAll2 : DqAll K (rmS [S, p] J) [.non, .bl true, .int 0, .str "", .ref B1, .ref B2, .ref B3, .ref B5, .ref B6] [.none, .bool true, .int 0, .str "", .list [], .dict [], .tuple [.int 0, .int 1], .tuple [.tuple [.int 0, .int 0, .int 0]], .tuple [.str "00"]] :=
          .cons .non (.cons (.bl _) (.cons (.int _) (.cons (.str _) (.cons (.lst (rmS_at eB1 fB1) .nil) (.cons (.dct (rmS_at eB2 fB2) .nil) (.cons (.tup (rmS_tup stJ.L.2 (tupNew eB3)) (.cons (.int _) (.cons (.int _) .nil))) (.cons (.tup (rmS_tup stJ.L.2 (tupNew eB5)) (.cons (.tup (rmS_tup stJ.L.2 (tupNew eB4)) (.cons (.int _) (.cons (.int _) (.cons (.int _) .nil)))) .nil)) (.cons (.tup (rmS_tup stJ.L.2 (tupNew eB6)) (.cons (.str _) .nil)) .nil))))))))
        have i1 : Gq (.int 1) 0 0 := gq_int (by decide)
        have gAll2 : ∀ e ∈ [PyData.none, .bool true, .int 0, .str "", .list [], .dict [], .tuple [.int 0, .int 1], .tuple [.tuple [.int 0, .int 0, .int 0]], .tuple [.str "00"]], Gq e 10 1000 := fun e he => by
          simp only [List.mem_cons, List.not_mem_nil, or_false] at he
          rcases he with rfl | rfl | rfl | rfl | rfl | rfl | rfl | rfl | rfl
          · exact gq_none.up (by decide) (by decide)
          · exact (gq_bool _).up (by decide) (by decide)
          · exact i0.up (by decide) (by decide)
          · exact (gq_str (m := 0) (by decide) (by decide)).up (by decide) (by decide)
          · exact (gq_lst (n := 0) (m := 0) |>.mpr ⟨(fun e he => by cases he), by simp [PyData.bulkAll]⟩).up (by decide) (by decide)
          · exact gq_nil.up (by decide) (by decide)
          · refine (gq_tup (n := 0) (m := 2) |>.mpr ⟨fun e he => ?_, by simp [PyData.bulk, PyData.bulkAll]⟩).up (by decide) (by decide)
            simp only [List.mem_cons, List.not_mem_nil, or_false] at he
            rcases he with rfl | rfl
            · exact i0.up (by decide) (by decide)
            · exact i1.up (by decide) (by decide)
          · refine (gq_tup (n := 1) (m := 5) |>.mpr ⟨fun e he => ?_, by simp [PyData.bulk, PyData.bulkAll]⟩).up (by decide) (by decide)
            rw [List.mem_singleton.mp he]
            refine gq_tup (n := 0) (m := 5) |>.mpr ⟨fun e he => ?_, by simp [PyData.bulk, PyData.bulkAll]⟩
            simp only [List.mem_cons, List.not_mem_nil, or_false] at he
            rcases he with rfl | rfl | rfl <;> exact i0.up (by decide) (by decide)
          · refine (gq_tup (n := 0) (m := 5) |>.mpr ⟨fun e he => ?_, by simp [PyData.bulk, PyData.bulkAll]; decide⟩).up (by decide) (by decide)
            rw [List.mem_singleton.mp he]
            exact (gq_str (m := 2) (by decide) (by decide)).up (by decide) (by decide)
        generalize [PyData.none, .bool true, .int 0, .str "", .list [], .dict [], .tuple [.int 0, .int 1], .tuple [.tuple [.int 0, .int 0, .int 0]], .tuple [.str "00"]] = dsU at hAll2 gAll2
        generalize hxs2 : [V.non, .bl true, .int 0, .str "", .ref B1, .ref B2, .ref B3, .ref B5, .ref B6] = xsU at hAll2 eTT2
        have lxU : xsU.length = 9 := by rw [← hxs2]; rfl
        have hDp2 : D2 ≠ p := pail_ne stJ.hp nD2
        have sD2 := same_upd (o := .lst []) nD2
        refine lc_tup (K := K) (a := TT2) (xs := xsU) (fun k H' => Same J H' ∧ ∃ fs : List PyData, Lk p [D2, S, p] H' ∧ PileQ K H' [D2, S, p] D2 fs ∧ fs.length = k ∧ ∀ e ∈ fs, FnP e)
          ⟨sD2, [], (stJ.L.same sD2).add upd_same, PileQ.nil nD2, rfl, fun d hd => by cases hd⟩ (fun k H' _ h => sqT_same h.1 eTT2) (fun k x H' hx h => ?_) fun HB2 h => ?_
        · obtain ⟨s', fs, hL', pl', le', fe'⟩ := h
          obtain ⟨ex, gx, hdx⟩ := DqAll.at hAll2 hx
          have k9 : k < 9 := by have := (List.getElem?_eq_some_iff.mp hx).1; omega
          refine ⟨rfl, tt_yes ⟨.ref u, rfl, x, rfl, two, fun U nU => ?_⟩⟩
          have z := same_upd (o := .tup [.ref u, x]) nU
          have eU : (upd H' U (.tup [.ref u, x])) U = some (.tup [.ref u, x]) := upd_same
          generalize upd H' U (.tup [.ref u, x]) = H2 at eU z ⊢
          have hL2 := hL'.same z
          have pl2 := pl'.same z
          have up : Same (rmS [S, p] J) (rmS [D2, S, p] H2) := (rmS_more nD2).trans (rmS_mono (s'.trans z))
          have dq2 : Dq K (rmS [D2, S, p] H2) (.ref U) (.tuple [dI ns, ex]) := .tup (rmS_tup hL2.2 (tupNew eU)) (.cons (Dq.same up stJ.dm) (.cons (Dq.same up hdx) .nil))
          have f2 : FnP (.tuple [dI ns, ex]) := .mk gM (gAll2 ex (List.mem_of_getElem? gx)) (by decide) (by decide) (by decide) (by decide)
          obtain ⟨mD, vs, eD2, hA2⟩ := pl2
          have lv2 : vs.length = fs.length := DqAll.len hA2
          have pl2 : PileQ K H2 [D2, S, p] D2 fs := ⟨mD, vs, eD2, hA2⟩
          refine ⟨vs, eD2, by rw [sizeLine_eq]; omega, ?_, fs ++ [_], hL2.set, pl2.add eD2 dq2, by rw [List.length_append, le']; rfl, fun e he => ?_⟩
          · exact fun b o z' => by rw [upd_ne (ne_of_none z' nD2)]; exact z b o (s' b o z')
          · rcases List.mem_append.mp he with q | q
            · exact fe' e q
            · rw [List.mem_singleton.mp q]; exact f2
        obtain ⟨s2', fs2, hLB2, plB2, leB2, feB2⟩ := h
        obtain ⟨_, us2, eD2, hD2⟩ := plB2
        have lus2 : us2.length = fs2.length := DqAll.len hD2
        obtain ⟨vs2, eSB2, lvs2, stF⟩ := stJ.join nD2 (But.of s2') (pail_same stJ.hp s2') hD2 feB2
        rw [lxU] at leB2
        refine ⟨S, D2, vs2, us2, rfl, rfl, eSB2, eD2, by rw [sizeLine_eq]; omega, ?_⟩
        have sF : Same H1 (upd HB2 S (.lst (vs2 ++ us2))) := fun b o e => by rw [upd_ne (ne_of_none e nS1)]; exact s2' b o (sJ b o e)
        have lF : (esD ++ fs2).length ≤ 38 := by rw [List.length_append]; omega
        generalize upd HB2 S (.lst (vs2 ++ us2)) = HF at stF sF ⊢
        generalize esD ++ fs2 = esF at stF lF
        -- each of them asked
        obtain ⟨_, xsF, eSF, hF⟩ := stF.pl
        refine ⟨.ref S, rfl, S, rfl, ⟨_, lstNew eSF⟩, ?_⟩
        refine for_list (K := K) (a := S) (xs := xsF) (fun k σ H' => ∃ (z6 z7 z8 z9 z10 z11 : Option V), σ = [some (.ref a), some (.int (0 + (i : Nat))), some (.ref p), some (.ref u), some (.ref c), some (.ref S), z6, z7, z8, z9, z10, z11] ∧ Same HF H')
          ⟨_, _, _, _, _, _, rfl, Same.refl HF⟩ (fun k σ H' _ h => ?_) (fun k x σ H' hx h => ?_) (fun σ H' h => ?_)
        · obtain ⟨_, _, _, _, _, _, _, s'⟩ := h
          exact lstNew (s' _ _ eSF)
        · obtain ⟨w6, w7, w8, w9, w10, w11, rfl, s'⟩ := h
          obtain ⟨ex, gx, hdx⟩ := DqAll.at hF hx
          obtain ⟨d, d', rfl, gd1, gd2⟩ := stF.fn ex (List.mem_of_getElem? gx)
          have hdx := Dq.same (rmS_same.trans s') hdx
          obtain ⟨U, v, w2, rfl, hU, hv, hw⟩ : ∃ U v w2, x = .ref U ∧ SqT K H' U [v, w2] ∧ Dq K H' v d ∧ Dq K H' w2 d' := by
            cases hdx with
            | tup hT hA =>
              cases hA with
              | cons h1 h2 =>
                cases h2 with
                | cons h3 h4 =>
                  cases h4
                  exact ⟨_, _, _, rfl, hT, h1, h3⟩
          have sh := shows_two gd1 gd2
          obtain ⟨rt, hrt⟩ := due_text d d'
          refine ⟨U, _, rfl, hU, rfl, _, _, rfl, _, _, rfl, rfl, ?_⟩
          refine ⟨v, rfl, w2, rfl, two, fun W nW => ?_⟩
          have zW := same_upd (o := .tup [v, w2]) nW
          refine ⟨W, .tuple [d, d'], rfl, .tup (tupNew upd_same) (.cons (Dq.same zW hv) (.cons (Dq.same zW hw) .nil)), sh, ?_⟩
          generalize upd H' W (.tup [v, w2]) = L1 at zW ⊢
          refine ⟨v, rfl, w2, rfl, v, w2, d, d', rfl, Dq.same zW hv, Dq.same zW hw, gd1.bk, gd2.bk, sh, fun L2 y2 => ?_⟩
          dsimp only [tNil]
          refine hrt L2 _ ?_
          have y2 := zW.trans y2
          refine ⟨v, rfl, w2, rfl, v, w2, d, d', rfl, Dq.same y2 hv, Dq.same y2 hw, gd1.bk, gd2.bk, fun L3 y3 => ?_⟩
          dsimp only [tNil]
          refine hrt L3 _ ?_
          have y3 := y2.trans y3
          refine ⟨rfl, false, congrArg V.bl (by rw [decide_eq_true rfl]; rfl), iteF ?_⟩
          refine ⟨v, rfl, w2, rfl, two, fun W2 nW2 => ?_⟩
          have zW2 := same_upd (o := .tup [v, w2]) nW2
          have y4 := y3.trans zW2
          refine ⟨W2, .tuple [d, d'], rfl, .tup (tupNew upd_same) (.cons (Dq.same y4 hv) (.cons (Dq.same y4 hw) .nil)), sh, .str (PyData.tuple [d, d']).shown, rfl, rfl, false, congrArg V.bl (by rw [decide_eq_true rfl]; rfl), iteF ?_⟩
          exact ⟨_, _, _, _, _, _, rfl, s'.trans y4⟩
        · obtain ⟨w6, w7, w8, w9, w10, w11, rfl, s'⟩ := h
          exact ⟨_, _, _, _, _, _, _, _, _, _, _, rfl, s1.trans (sF.trans s')⟩
      · refine ⟨6, rfl, by decide, by decide, ?_⟩
        refine for_range (lo := 0) (n := _) (fun k σ H' => ∃ (es : List PyData) (t' : Nat) (z6 z7 z8 z9 z10 z11 : Option V), σ = [some (.ref a), some (.int (0 + (i : Nat))), some (.ref p), some (.ref u), some (.ref c), some (.ref S), z6, z7, z8, z9, z10, z11] ∧ t' ≤ t5 + 24 * k ∧ Same H1 H' ∧ Stt K p S u c ns ps H' t' es ∧ es.length = 5 + 2 * k)
          ⟨es0, t5, _, _, _, _, _, _, rfl, Nat.le_refl _, s05, st, l0⟩ ?_ ?_
        · rintro k σ H7 hk ⟨es, t', z6, z7, z8, z9, z10, z11, rfl, ht', s7, st7, l7⟩
          have hk6 : k < 6 := hk
          obtain ⟨_, vs0, e0, _⟩ := st7.pl
          refine ⟨.ref S, rfl, .inl ⟨rfl, _, lstNew e0⟩, .ref p, rfl, .ref u, rfl, [S, p], p, t', .ref u, dI ns, 1, 8, rfl, st7.L, st7.hp, (by show t' + 5 * 3 ≤ 1800; omega), st7.dm, lv_dI (fun n hn => by have := M.inn n hn; omega), gM, by decide, by decide, fun H8 v d t8 ht8 hp8 b8 dq8 g8 _ => ⟨.ref c, rfl, two, fun U nU => ?_⟩⟩
          have st8 := st7.but b8 hp8
          obtain ⟨vs, eS, lvs, st9⟩ := st8.push nU dq8 st8.ds (.mk g8 gS (by decide) (by decide) (by decide) (by decide))
          refine ⟨S, vs, .ref U, rfl, rfl, eS, by rw [sizeLine_eq]; omega, ?_⟩
          have e8 : t8 ≤ t' + 4 * 3 := ht8
          have s9 : Same H1 (upd (upd H8 U (.tup [v, .ref c])) S (.lst (vs ++ [.ref U]))) := fun b o e => by
            rw [upd_ne (ne_of_none e nS1)]; exact same_upd nU b o (same_but s7 np b8 b o e)
          generalize upd (upd H8 U (.tup [v, .ref c])) S (.lst (vs ++ [.ref U])) = H9 at st9 s9 ⊢
          clear eS lvs dq8 g8 nU st8 e0 st7
          obtain ⟨_, vs0, e0, _⟩ := st9.pl
          refine ⟨.ref S, rfl, .inl ⟨rfl, _, lstNew e0⟩, .ref u, rfl, .ref p, rfl, .ref c, rfl, [S, p], p, t8, .ref c, dTT ps, 2, 192, rfl, st9.L, st9.hp, (by show t8 + 5 * 3 ≤ 1800; omega), st9.ds, lv_dTT hpr, gS, by decide, by decide, fun HA v2 d2 tA htA hpA bA dqA gA _ => ⟨two, fun U2 nU2 => ?_⟩⟩
          have stA := st9.but bA hpA
          obtain ⟨vsA, eSA, lvsA, stB⟩ := stA.push nU2 stA.dm dqA (.mk gM gA (by decide) (by decide) (by decide) (by decide))
          have lB : (es ++ [PyData.tuple [d, dTT ps]]).length = 5 + 2 * k + 1 := by rw [List.length_append, l7]; rfl
          refine ⟨S, vsA, .ref U2, rfl, rfl, eSA, by rw [sizeLine_eq]; omega, ?_⟩
          refine ⟨_, tA, _, _, _, _, _, _, rfl, ?_, fun b o e => ?_, stB, ?_⟩
          · have eA : tA ≤ t8 + 4 * 3 := htA
            omega
          · rw [upd_ne (ne_of_none e nS1)]; exact same_upd nU2 b o (same_but s9 np bA b o e)
          · rw [List.length_append, lB]; simp only [List.length_cons, List.length_nil]; omega
        · rintro σ H7 ⟨es, t', z6, z7, z8, z9, z10, z11, rfl, ht', s7, st7, l7⟩
          exact tail _ _ ⟨es, t', z6, z7, z8, z9, z10, z11, rfl, by omega, s7, st7, by omega⟩
    · rintro σ H' ⟨y1, y2, y3, y4, y5, y6, y7, y8, y9, y10, y11, rfl, s1⟩
      exact q H'
end
end K2
set_option maxHeartbeats 4000000
namespace K2
open PySem PySem.Spec PyProof.Rows L2 RV
theorem all_x {l : PySem.W.OpenLaw} {w : World} {K : PySem.W.Frag} {h : Heap} {mg : Str → Option Value} {fa : Addr} (X : K.In h) (G : h.Ns mainGlobals mg) (hfa : mg "law" = some (.ref fa)) (cS : RV.SaysS hdFa hdFn hdEx hdSn K) (hfile : ((l.prog.main.file : Str) == ("/claim/cut.py" : Str)) = true) (htop : (l.prog.main.scope.names.lookup ("super" : Str)).isSome = false) :
    ∃ (fd : FuncData) (sp : Sp), (∀ (s : Shared) (v : Value), BindsTo s fd ⟨[v], []⟩ [("_law_script", v)]) ∧ (∀ (H : Hp) (a : Addr) (ns : List Int), ns.length ≤ 63 → Only H → SqL K H a (ns.map V.int) → sp [.ref a] H (fun v _ => v = .bl true) fun _ _ _ => False) ∧ ∀ base : Heap, K.In base → base.Ns mainGlobals mg → FnG l.prog w K mg base CX0 9 fa fd ["_law_script"] sp := by
  have c := cS.x
  obtain ⟨f21, fd21, F21, bL, mL⟩ := RV.law_x (st := sLaw) (x := "law") (q := "_law_script") X G c 20 (by kernel_rfl) (by kernel_rfl) (by kernel_rfl) fun _ _ _ _ _ _ _ _ => .of_eq rfl
  have e := hfa.symm.trans mL
  cases e
  obtain ⟨C, hC⟩ : ∃ C : Addr, He.ga K "Rule" = C := ⟨_, rfl⟩
  obtain ⟨CN, hCN⟩ : ∃ C : Addr, He.ga K "NoRule" = C := ⟨_, rfl⟩
  obtain ⟨CR, hCR⟩ : ∃ C : Addr, He.ga K "RingError" = C := ⟨_, rfl⟩
  obtain ⟨f1, fd1, p1, r1, m1⟩ := RV.def_x (st := sWhole) (x := "is_whole") (ps := ["thing"]) X G c 0 (by kernel_rfl) (by kernel_rfl) (by kernel_rfl) fun _ _ _ _ _ _ us hl => match us, hl with | [_], _ => rfl
  have D1 : DefAt K mg "is_whole" sWhole ["thing"] f1 fd1 := ⟨p1, r1, m1⟩
  obtain ⟨f2, fd2, p2, r2, m2⟩ := RV.def_x (st := sMark) (x := "is_below") (ps := ["thing", "many"]) X G c 1 (by kernel_rfl) (by kernel_rfl) (by kernel_rfl) fun _ _ _ _ _ _ us hl => match us, hl with | [_, _], _ => rfl
  have D2 : DefAt K mg "is_below" sMark ["thing", "many"] f2 fd2 := ⟨p2, r2, m2⟩
  obtain ⟨f3, fd3, p3, r3, m3⟩ := RV.def_x (st := sMarks) (x := "are_marks") (ps := ["thing", "many"]) X G c 2 (by kernel_rfl) (by kernel_rfl) (by kernel_rfl) fun _ _ _ _ _ _ us hl => match us, hl with | [_, _], _ => rfl
  have D3 : DefAt K mg "are_marks" sMarks ["thing", "many"] f3 fd3 := ⟨p3, r3, m3⟩
  obtain ⟨f4, fd4, p4, r4, m4⟩ := RV.def_x (st := sMirrors) (x := "are_mirrors") (ps := ["thing"]) X G c 3 (by kernel_rfl) (by kernel_rfl) (by kernel_rfl) fun _ _ _ _ _ _ us hl => match us, hl with | [_], _ => rfl
  have D4 : DefAt K mg "are_mirrors" sMirrors ["thing"] f4 fd4 := ⟨p4, r4, m4⟩
  obtain ⟨f5, fd5, p5, r5, m5⟩ := RV.def_x (st := sSteps) (x := "are_steps") (ps := ["mirrors", "thing"]) X G c 4 (by kernel_rfl) (by kernel_rfl) (by kernel_rfl) fun _ _ _ _ _ _ us hl => match us, hl with | [_, _], _ => rfl
  have D5 : DefAt K mg "are_steps" sSteps ["mirrors", "thing"] f5 fd5 := ⟨p5, r5, m5⟩
  obtain ⟨f6, fd6, p6, r6, m6⟩ := RV.def_x (st := sStep) (x := "is_step") (ps := ["thing", "many"]) X G c 5 (by kernel_rfl) (by kernel_rfl) (by kernel_rfl) fun _ _ _ _ _ _ us hl => match us, hl with | [_, _], _ => rfl
  have D6 : DefAt K mg "is_step" sStep ["thing", "many"] f6 fd6 := ⟨p6, r6, m6⟩
  obtain ⟨f7, fd7, p7, r7, m7⟩ := RV.def_x (st := sRising) (x := "is_rising") (ps := ["pairs"]) X G c 6 (by kernel_rfl) (by kernel_rfl) (by kernel_rfl) fun _ _ _ _ _ _ us hl => match us, hl with | [_], _ => rfl
  have D7 : DefAt K mg "is_rising" sRising ["pairs"] f7 fd7 := ⟨p7, r7, m7⟩
  obtain ⟨f8, fd8, p8, r8, m8⟩ := RV.def_x (st := sBehind) (x := "marks_behind") (ps := ["steps", "mark"]) X G c 7 (by kernel_rfl) (by kernel_rfl) (by kernel_rfl) fun _ _ _ _ _ _ us hl => match us, hl with | [_, _], _ => rfl
  have D8 : DefAt K mg "marks_behind" sBehind ["steps", "mark"] f8 fd8 := ⟨p8, r8, m8⟩
  obtain ⟨f9, fd9, p9, r9, m9⟩ := RV.def_x (st := sPail) (x := "_law_pail") (ps := ["_law_script", "_law_at"]) X G c 8 (by kernel_rfl) (by kernel_rfl) (by kernel_rfl) fun _ _ _ _ _ _ us hl => match us, hl with | [_, _], _ => rfl
  have D9 : DefAt K mg "_law_pail" sPail ["_law_script", "_law_at"] f9 fd9 := ⟨p9, r9, m9⟩
  obtain ⟨f10, fd10, p10, r10, m10⟩ := RV.def_x (st := sDraw) (x := "_law_draw") (ps := ["_law_pail_here", "_law_many"]) X G c 9 (by kernel_rfl) (by kernel_rfl) (by kernel_rfl) fun _ _ _ _ _ _ us hl => match us, hl with | [_, _], _ => rfl
  have D10 : DefAt K mg "_law_draw" sDraw ["_law_pail_here", "_law_many"] f10 fd10 := ⟨p10, r10, m10⟩
  obtain ⟨f11, fd11, p11, r11, m11⟩ := RV.def_x (st := sOf) (x := "_law_of") (ps := ["_law_pail_here", "_law_some"]) X G c 10 (by kernel_rfl) (by kernel_rfl) (by kernel_rfl) fun _ _ _ _ _ _ us hl => match us, hl with | [_, _], _ => rfl
  have D11 : DefAt K mg "_law_of" sOf ["_law_pail_here", "_law_some"] f11 fd11 := ⟨p11, r11, m11⟩
  obtain ⟨f12, fd12, p12, r12, m12⟩ := RV.def_x (st := sDMirrors) (x := "_law_mirrors") (ps := ["_law_pail_here", "_law_many"]) X G c 11 (by kernel_rfl) (by kernel_rfl) (by kernel_rfl) fun _ _ _ _ _ _ us hl => match us, hl with | [_, _], _ => rfl
  have D12 : DefAt K mg "_law_mirrors" sDMirrors ["_law_pail_here", "_law_many"] f12 fd12 := ⟨p12, r12, m12⟩
  obtain ⟨f13, fd13, p13, r13, m13⟩ := RV.def_x (st := sDSteps) (x := "_law_steps") (ps := ["_law_pail_here", "_law_mirrors_here"]) X G c 12 (by kernel_rfl) (by kernel_rfl) (by kernel_rfl) fun _ _ _ _ _ _ us hl => match us, hl with | [_, _], _ => rfl
  have D13 : DefAt K mg "_law_steps" sDSteps ["_law_pail_here", "_law_mirrors_here"] f13 fd13 := ⟨p13, r13, m13⟩
  obtain ⟨f14, fd14, p14, r14, m14⟩ := RV.def_x (st := sLIsMark) (x := "_law_is_mark") (ps := ["_law_thing", "_law_many"]) X G c 13 (by kernel_rfl) (by kernel_rfl) (by kernel_rfl) fun _ _ _ _ _ _ us hl => match us, hl with | [_, _], _ => rfl
  have D14 : DefAt K mg "_law_is_mark" sLIsMark ["_law_thing", "_law_many"] f14 fd14 := ⟨p14, r14, m14⟩
  obtain ⟨f15, fd15, p15, r15, m15⟩ := RV.def_x (st := sMirR) (x := "_law_mirrors_right") (ps := ["_law_thing"]) X G c 14 (by kernel_rfl) (by kernel_rfl) (by kernel_rfl) fun _ _ _ _ _ _ us hl => match us, hl with | [_], _ => rfl
  have D15 : DefAt K mg "_law_mirrors_right" sMirR ["_law_thing"] f15 fd15 := ⟨p15, r15, m15⟩
  obtain ⟨f16, fd16, p16, r16, m16⟩ := RV.def_x (st := sStpR) (x := "_law_steps_right") (ps := ["_law_thing", "_law_mirrors_here"]) X G c 15 (by kernel_rfl) (by kernel_rfl) (by kernel_rfl) fun _ _ _ _ _ _ us hl => match us, hl with | [_, _], _ => rfl
  have D16 : DefAt K mg "_law_steps_right" sStpR ["_law_thing", "_law_mirrors_here"] f16 fd16 := ⟨p16, r16, m16⟩
  obtain ⟨f17, fd17, p17, r17, m17⟩ := RV.def_x (st := sDue) (x := "_law_due") (ps := ["_law_mirrors_here", "_law_steps_here"]) X G c 16 (by kernel_rfl) (by kernel_rfl) (by kernel_rfl) fun _ _ _ _ _ _ us hl => match us, hl with | [_, _], _ => rfl
  have D17 : DefAt K mg "_law_due" sDue ["_law_mirrors_here", "_law_steps_here"] f17 fd17 := ⟨p17, r17, m17⟩
  obtain ⟨f18, fd18, p18, r18, m18⟩ := RV.def_x (st := sFound) (x := "_law_found") (ps := ["_law_mirrors_here", "_law_steps_here"]) X G c 17 (by kernel_rfl) (by kernel_rfl) (by kernel_rfl) fun _ _ _ _ _ _ us hl => match us, hl with | [_, _], _ => rfl
  have D18 : DefAt K mg "_law_found" sFound ["_law_mirrors_here", "_law_steps_here"] f18 fd18 := ⟨p18, r18, m18⟩
  obtain ⟨f19, fd19, p19, r19, m19⟩ := RV.def_x (st := sOdd) (x := "_law_odd") (ps := ["_law_pail_here", "_law_thing"]) X G c 18 (by kernel_rfl) (by kernel_rfl) (by kernel_rfl) fun _ _ _ _ _ _ us hl => match us, hl with | [_, _], _ => rfl
  have D19 : DefAt K mg "_law_odd" sOdd ["_law_pail_here", "_law_thing"] f19 fd19 := ⟨p19, r19, m19⟩
  obtain ⟨f20, fd20, p20, r20, m20⟩ := RV.def_x (st := sBent) (x := "_law_bent") (ps := ["_law_pail_here", "_law_thing"]) X G c 19 (by kernel_rfl) (by kernel_rfl) (by kernel_rfl) fun _ _ _ _ _ _ us hl => match us, hl with | [_, _], _ => rfl
  have D20 : DefAt K mg "_law_bent" sBent ["_law_pail_here", "_law_thing"] f20 fd20 := ⟨p20, r20, m20⟩
  obtain ⟨f22, fd22, F22, b22, a22, i22, k22⟩ := RV.meth_x (st := sInit) (x := "Rule") (m := "__init__") (q := "Rule.__init__") (ps := ["self", "mirrors", "steps"]) c hC 21 42 (by kernel_rfl) (by kernel_rfl) fun _ _ _ _ _ _ us hl => match us, hl with | [_, _, _], _ => rfl
  have pg : PySem.W.plainGet K C Str.empty = true := by
    rw [← hC]
    skip
    skip
    exact c.dec (P := fun K => PySem.W.plainGet K (He.ga K "Rule") Str.empty = true) 0 (by kernel_rfl)
  have hd : PySem.W.hasDictIn K C = true := by
    rw [← hC]
    skip
    skip
    exact c.dec (P := fun K => PySem.W.hasDictIn K (He.ga K "Rule") = true) 1 (by kernel_rfl)
  have po : PySem.W.plainOver K C = true := by
    rw [← hC]
    skip
    skip
    exact c.dec (P := fun K => PySem.W.plainOver K (He.ga K "Rule") = true) 2 (by kernel_rfl)
  have sa : PySem.W.findIn K (.ref C) "__setattr__" = some (some (.builtin "object.__setattr__")) := by
    rw [← hC]
    skip
    skip
    exact c.dec (P := fun K => PySem.W.findIn K (.ref (He.ga K "Rule")) "__setattr__" = some (some (.builtin "object.__setattr__"))) 3 (by kernel_rfl)
  have mk : PySem.W.makesIn K C = true := by
    rw [← hC]
    skip
    skip
    exact c.dec (P := fun K => PySem.W.makesIn K (He.ga K "Rule") = true) 4 (by kernel_rfl)
  have kc : PySem.W.keepIn K (.ref C) = true := by
    rw [← hC]
    skip
    skip
    exact c.dec (P := fun K => PySem.W.keepIn K (.ref (He.ga K "Rule")) = true) 5 (by kernel_rfl)
  have nM : PySem.W.findIn K (.ref C) "mirrors" = some none := by
    rw [← hC]
    skip
    skip
    exact c.dec (P := fun K => PySem.W.findIn K (.ref (He.ga K "Rule")) "mirrors" = some none) 6 (by kernel_rfl)
  have nS : PySem.W.findIn K (.ref C) "steps" = some none := by
    rw [← hC]
    skip
    skip
    exact c.dec (P := fun K => PySem.W.findIn K (.ref (He.ga K "Rule")) "steps" = some none) 7 (by kernel_rfl)
  have nF : PySem.W.findIn K (.ref C) "followers" = some none := by
    rw [← hC]
    skip
    skip
    exact c.dec (P := fun K => PySem.W.findIn K (.ref (He.ga K "Rule")) "followers" = some none) 8 (by kernel_rfl)
  have t1 : PySem.W.findIn K (.ref C) "__class__" = some (some (.builtin "object.__class__")) := by
    rw [← hC]
    skip
    skip
    exact c.dec (P := fun K => PySem.W.findIn K (.ref (He.ga K "Rule")) "__class__" = some (some (.builtin "object.__class__"))) 9 (by kernel_rfl)
  have t2 : PySem.W.specialIn K (.builtin "object.__class__") "__get__" = some (some (.builtin "getset_descriptor.__get__")) := by
    skip
    skip
    skip
    exact c.dec (P := fun K => PySem.W.specialIn K (.builtin "object.__class__") "__get__" = some (some (.builtin "getset_descriptor.__get__"))) 10 (by kernel_rfl)
  have t3 : PySem.W.takesIn K (.builtin "object.__class__") = some true := by
    skip
    skip
    skip
    exact c.dec (P := fun K => PySem.W.takesIn K (.builtin "object.__class__") = some true) 11 (by kernel_rfl)
  have t4 : PySem.W.mroIn K C (.type "object") = some true := by
    rw [← hC]
    skip
    skip
    exact c.dec (P := fun K => PySem.W.mroIn K (He.ga K "Rule") (.type "object") = some true) 12 (by kernel_rfl)
  obtain ⟨tk, mM⟩ := RV.intX_ok (x := "MOST_MARKS") (i := 8) (c.look 13 (by kernel_rfl))
  have x1 : PySem.W.ks_superIn K CN CN "__init__" = some (some (.builtin "ValueError.__init__")) := by
    skip
    rw [← hCN]
    skip
    exact c.dec (P := fun K => PySem.W.ks_superIn K (He.ga K "NoRule") (He.ga K "NoRule") "__init__" = some (some (.builtin "ValueError.__init__"))) 14 (by kernel_rfl)
  have x2 : PySem.W.subIn K (.ref CN) (.type "ValueError") = some true := by
    skip
    rw [← hCN]
    skip
    exact c.dec (P := fun K => PySem.W.subIn K (.ref (He.ga K "NoRule")) (.type "ValueError") = some true) 15 (by kernel_rfl)
  have x3 : PySem.W.mroIn K CN (.ref CN) = some true := by
    skip
    rw [← hCN]
    skip
    exact c.dec (P := fun K => PySem.W.mroIn K (He.ga K "NoRule") (.ref (He.ga K "NoRule")) = some true) 16 (by kernel_rfl)
  have x4 : PySem.W.nsIn K cStatics "thirdparty.any" = some none := by
    skip
    skip
    skip
    exact c.dec (P := fun K => PySem.W.nsIn K cStatics "thirdparty.any" = some none) 17 (by kernel_rfl)
  have x5 : PySem.W.subIn K (.ref CN) (.type "BaseException") = some true := by
    skip
    rw [← hCN]
    skip
    exact c.dec (P := fun K => PySem.W.subIn K (.ref (He.ga K "NoRule")) (.type "BaseException") = some true) 18 (by kernel_rfl)
  have x6 : PySem.W.findIn K (.ref CN) "__setattr__" = some (some (.builtin "object.__setattr__")) := by
    skip
    rw [← hCN]
    skip
    exact c.dec (P := fun K => PySem.W.findIn K (.ref (He.ga K "NoRule")) "__setattr__" = some (some (.builtin "object.__setattr__"))) 19 (by kernel_rfl)
  have x7 : PySem.W.typeIn K (.ref CN) = some (.type "type") := by
    skip
    rw [← hCN]
    skip
    exact c.dec (P := fun K => PySem.W.typeIn K (.ref (He.ga K "NoRule")) = some (.type "type")) 20 (by kernel_rfl)
  have x8 : PySem.W.keepIn K (.ref CN) = true := by
    skip
    rw [← hCN]
    skip
    exact c.dec (P := fun K => PySem.W.keepIn K (.ref (He.ga K "NoRule")) = true) 21 (by kernel_rfl)
  have x9 : PySem.W.findIn K (.ref CN) "field" = some none := by
    skip
    rw [← hCN]
    skip
    exact c.dec (P := fun K => PySem.W.findIn K (.ref (He.ga K "NoRule")) "field" = some none) 22 (by kernel_rfl)
  have y1 : PySem.W.exmOne K (.ref CN) (.ref CN) = some true := by
    skip
    rw [← hCN]
    skip
    exact c.dec (P := fun K => PySem.W.exmOne K (.ref (He.ga K "NoRule")) (.ref (He.ga K "NoRule")) = some true) 23 (by kernel_rfl)
  have y2 : PySem.W.kitOne K (.ref CN) (.ref CR) = some true := by
    skip
    rw [← hCN]
    rw [← hCR]
    exact c.dec (P := fun K => PySem.W.kitOne K (.ref (He.ga K "NoRule")) (.ref (He.ga K "RingError")) = some true) 24 (by kernel_rfl)
  have y3 : PySem.W.kitOne K (.ref CN) (.type "ValueError") = some true := by
    skip
    rw [← hCN]
    skip
    exact c.dec (P := fun K => PySem.W.kitOne K (.ref (He.ga K "NoRule")) (.type "ValueError") = some true) 25 (by kernel_rfl)
  have zS : PySem.W.nsIn K mainGlobals "super" = some none := by
    skip
    skip
    skip
    exact c.dec (P := fun K => PySem.W.nsIn K mainGlobals "super" = some none) 26 (by kernel_rfl)
  have zV : PySem.W.nsIn K mainGlobals "ValueError" = some none := by
    skip
    skip
    skip
    exact c.dec (P := fun K => PySem.W.nsIn K mainGlobals "ValueError" = some none) 27 (by kernel_rfl)
  have aC : PySem.W.nsIn K mainGlobals "Rule" = some (some (.ref C)) := by
    rw [← hC]
    skip
    skip
    exact c.dec (P := fun K => PySem.W.nsIn K mainGlobals "Rule" = some (some (.ref (He.ga K "Rule")))) 46 (by kernel_rfl)
  have aCN : PySem.W.nsIn K mainGlobals "NoRule" = some (some (.ref CN)) := by
    skip
    rw [← hCN]
    skip
    exact c.dec (P := fun K => PySem.W.nsIn K mainGlobals "NoRule" = some (some (.ref (He.ga K "NoRule")))) 47 (by kernel_rfl)
  have aCR : PySem.W.nsIn K mainGlobals "RingError" = some (some (.ref CR)) := by
    skip
    skip
    rw [← hCR]
    exact c.dec (P := fun K => PySem.W.nsIn K mainGlobals "RingError" = some (some (.ref (He.ga K "RingError")))) 48 (by kernel_rfl)
  have z0 : PySem.W.nsIn K mainGlobals "len" = some none := by
    skip
    skip
    skip
    exact c.dec (P := fun K => PySem.W.nsIn K mainGlobals "len" = some none) 28 (by kernel_rfl)
  have z1 : PySem.W.nsIn K mainGlobals "isinstance" = some none := by
    skip
    skip
    skip
    exact c.dec (P := fun K => PySem.W.nsIn K mainGlobals "isinstance" = some none) 29 (by kernel_rfl)
  have z2 : PySem.W.nsIn K mainGlobals "int" = some none := by
    skip
    skip
    skip
    exact c.dec (P := fun K => PySem.W.nsIn K mainGlobals "int" = some none) 30 (by kernel_rfl)
  have z3 : PySem.W.nsIn K mainGlobals "bool" = some none := by
    skip
    skip
    skip
    exact c.dec (P := fun K => PySem.W.nsIn K mainGlobals "bool" = some none) 31 (by kernel_rfl)
  have z4 : PySem.W.nsIn K mainGlobals "tuple" = some none := by
    skip
    skip
    skip
    exact c.dec (P := fun K => PySem.W.nsIn K mainGlobals "tuple" = some none) 32 (by kernel_rfl)
  have z5 : PySem.W.nsIn K mainGlobals "all" = some none := by
    skip
    skip
    skip
    exact c.dec (P := fun K => PySem.W.nsIn K mainGlobals "all" = some none) 33 (by kernel_rfl)
  have z6 : PySem.W.nsIn K mainGlobals "enumerate" = some none := by
    skip
    skip
    skip
    exact c.dec (P := fun K => PySem.W.nsIn K mainGlobals "enumerate" = some none) 34 (by kernel_rfl)
  have z7 : PySem.W.nsIn K mainGlobals "zip" = some none := by
    skip
    skip
    skip
    exact c.dec (P := fun K => PySem.W.nsIn K mainGlobals "zip" = some none) 35 (by kernel_rfl)
  have z8 : PySem.W.nsIn K mainGlobals "range" = some none := by
    skip
    skip
    skip
    exact c.dec (P := fun K => PySem.W.nsIn K mainGlobals "range" = some none) 36 (by kernel_rfl)
  have z9 : PySem.W.nsIn K mainGlobals "list" = some none := by
    skip
    skip
    skip
    exact c.dec (P := fun K => PySem.W.nsIn K mainGlobals "list" = some none) 37 (by kernel_rfl)
  have z10 : PySem.W.nsIn K mainGlobals "set" = some none := by
    skip
    skip
    skip
    exact c.dec (P := fun K => PySem.W.nsIn K mainGlobals "set" = some none) 38 (by kernel_rfl)
  have z11 : PySem.W.nsIn K mainGlobals "sorted" = some none := by
    skip
    skip
    skip
    exact c.dec (P := fun K => PySem.W.nsIn K mainGlobals "sorted" = some none) 39 (by kernel_rfl)
  have z12 : PySem.W.nsIn K mainGlobals "abs" = some none := by
    skip
    skip
    skip
    exact c.dec (P := fun K => PySem.W.nsIn K mainGlobals "abs" = some none) 40 (by kernel_rfl)
  have z13 : PySem.W.nsIn K mainGlobals "max" = some none := by
    skip
    skip
    skip
    exact c.dec (P := fun K => PySem.W.nsIn K mainGlobals "max" = some none) 41 (by kernel_rfl)
  have z14 : PySem.W.nsIn K mainGlobals "min" = some none := by
    skip
    skip
    skip
    exact c.dec (P := fun K => PySem.W.nsIn K mainGlobals "min" = some none) 42 (by kernel_rfl)
  have z15 : PySem.W.nsIn K mainGlobals "repr" = some none := by
    skip
    skip
    skip
    exact c.dec (P := fun K => PySem.W.nsIn K mainGlobals "repr" = some none) 43 (by kernel_rfl)
  have z16 : PySem.W.nsIn K mainGlobals "dict" = some none := by
    skip
    skip
    skip
    exact c.dec (P := fun K => PySem.W.nsIn K mainGlobals "dict" = some none) 44 (by kernel_rfl)
  have z17 : PySem.W.nsIn K mainGlobals "str" = some none := by
    skip
    skip
    skip
    exact c.dec (P := fun K => PySem.W.nsIn K mainGlobals "str" = some none) 45 (by kernel_rfl)
  have B : Bare mg := ⟨PySem.W.mg_none_of X G z0, PySem.W.mg_none_of X G z1, PySem.W.mg_none_of X G z2, PySem.W.mg_none_of X G z3, PySem.W.mg_none_of X G z4, PySem.W.mg_none_of X G z5, PySem.W.mg_none_of X G z6, PySem.W.mg_none_of X G z7, PySem.W.mg_none_of X G z8, PySem.W.mg_none_of X G z9, PySem.W.mg_none_of X G z10, PySem.W.mg_none_of X G z11, PySem.W.mg_none_of X G z12, PySem.W.mg_none_of X G z13, PySem.W.mg_none_of X G z14, PySem.W.mg_none_of X G z15, PySem.W.mg_none_of X G z16, PySem.W.mg_none_of X G z17⟩
  obtain ⟨fN, cdN, ccN, fdN, nl, nf, nc, nfi, nce, nb, ni, nt⟩ := RV.sup_x (st := sNRInit) (file := "/claim/cut.py") (q := "NoRule.__init__") (x := "NoRule") (ps := ["self", "field"]) cS hCN 0 49 (by kernel_rfl) (by kernel_rfl) fun _ _ _ _ _ _ _ us hl => match us, hl with | [_, _], _ => rfl
  have nfi' : ∃ ccl cdd vs ccs g tf, K.lookup cdN = some ⟨ccl, cdd, .fields vs, ccs⟩ ∧ vs[2]? = some (.str g tf) ∧ ((l.prog.main.file : Str) == g) = true := by
    obtain ⟨a1, a2, a3, a4, a5, e1, e2⟩ := nfi
    exact ⟨a1, a2, a3, a4, _, a5, e1, e2, hfile⟩
  have oN : RV.oexB CN K = true := by
    rw [← hCN]
    exact c.look (p := fun K => RV.oexB (He.ga K "NoRule") K) 50 (by kernel_rfl)
  have Sy : ∃ o, K.lookup sysModules = some o := Option.isSome_iff_exists.mp (c.look (p := fun K => (K.lookup sysModules).isSome) 51 (by kernel_rfl))
  have y4 : xfB K CN = true := by
    rw [← hCN]
    exact c.look (p := fun K => xfB K (He.ga K "NoRule")) 52 (by kernel_rfl)
  have T : Txt K mg C := ⟨⟨pg, hd, po, sa⟩, nM, nS, nF, PySem.W.mg_of X G aC, t1, t2, t3, t4, kit_self⟩
  have mm := PySem.W.mg_of X G mM
  refine ⟨fd21, (spLaw K), bL, fun _ a ns hl _ hS => ⟨a, ns, rfl, hS, hl, fun _ => rfl⟩, fun base _ _ => ?_⟩
  have GA4 : FnOk l.prog w K mg base CX0 4 f4 _ ["thing"] (spMirA K) := ok_mirA D4.fn D3 D2 D1 B mm
  have GA5 : FnOk l.prog w K mg base CX0 5 f5 _ ["mirrors", "thing"] (spStpA K) := ok_stpA D5.fn D6 D7 D3 D2 D1 B
  have N : NRule l.prog K mg CN fN cdN ccN fdN := ⟨⟨RV.oexB_ok oN, x6, x5, x7, x8⟩, ⟨nl, nf, nc, nfi', nce, x1, x2, x3, x4, htop⟩, nb, ni, nt, x9, PySem.W.mg_of X G aCN, PySem.W.mg_none_of X G zS⟩
  have GI : FnOk l.prog w K mg base (L2.CX l.prog w) 6 f22 _ ["self", "mirrors", "steps"] (spInitA K C CN) := ok_initA F22 T N D4 GA4 D5 GA5 D8 B
  have RE : RErr K mg CN CR := ⟨PySem.W.mg_of X G aCR, PySem.W.mg_none_of X G zV, y1, y2, y3, xfB_ok y4⟩
  have GM : FnOk l.prog w K mg base CX0 2 f12 _ ["_law_pail_here", "_law_many"] (spDMirrors K) := ok_dmirrors D12.fn D10 B
  have GS : FnOk l.prog w K mg base CX0 3 f13 _ ["_law_pail_here", "_law_mirrors_here"] (spDSteps K) := ok_dsteps D13.fn D10 D11 B
  have GN : FnOk l.prog w K mg base CX0 6 f20 _ ["_law_pail_here", "_law_thing"] (spB K 3) := ok_bent D20 D10 D19 D11 B 3
  have GF : FnG l.prog w K mg base CX0 8 f18 _ ["_law_mirrors_here", "_law_steps_here"] (spFound K) := ok_found D18.fn T N RE Sy ⟨mk, a22, i22, kc⟩ b22 GI B
  have GE : FnOk l.prog w K mg base CX0 3 f17 _ ["_law_mirrors_here", "_law_steps_here"] (spDue K) := ok_due D17.fn D14 D15 D16 B
  exact ok_law F21 B Sy D9 D10 D12 GM D13 GS D20 GN D18 GF D17 GE
end K2
open PySem PySem.W PyProof.Rows
set_option maxRecDepth 100000 in
set_option maxHeartbeats 0 in
theorem PySem.Challenge.cw_ringvouch_k02_rules_refused_holds : PySem.Challenge.rw_ringvouch_k02_rules_refused.Holds := by
  refine K2.hdHolds ?hc
  case hc =>
    refine RV.walk_GE (l := PySem.Challenge.rw_ringvouch_k02_rules_refused) (n := 63) (k := 9) (x := "_law_script") rfl (by decide) (by kernel_rfl) ⟨rfl, by decide, by decide⟩ ?F
    intro w mg fa h Y G hmg0
    obtain ⟨K, KX, c⟩ := Y
    have hmg : mg ("law" : PySem.Str) = some (.ref fa) := by
      rw [← K2.hdName]
      exact hmg0
    obtain ⟨fd, sp, hb, hs, hF⟩ := K2.all_x (l := PySem.Challenge.rw_ringvouch_k02_rules_refused) (w := w) KX G hmg c (by kernel_rfl) (by kernel_rfl)
    exact ⟨K, fd, sp, KX, hb, hs, hF⟩
