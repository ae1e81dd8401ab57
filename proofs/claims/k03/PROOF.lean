import PyProof.Rows.All
import Wide.All
import OpenK.AllK
import Wide.FinOn
import HandS.ForMost
import KE.GoesEnum
import HandS.Style
import KE.KRevSl
import PyProof.ReprRoads
import HandS.OwnEq
import PyProof.InstNe
import HandS.TupSets
import HandS.IsInst
import HandS.Walk
import HandS.Zip
import HandS.TupAny
import HandS.Deep
import HandS.Conv
import HandS.More
import HandS.Wide
import PyProof.ReprBulk
import PySem.Challenge.RW_ringvouch_k03_plain_and_one_way
set_option Elab.async false
set_option linter.all false
set_option maxRecDepth 100000
namespace RV
open PySem PySem.Spec PyProof.Rows L2
set_option maxHeartbeats 4000000 in
theorem meets_en1 {val : Value} {ob : Obj} {HH : Heap → Prop} (B : Begins val ob HH) :
    Meets (Builtin.«enumerate.__new__» ⟨[.type "enumerate", val], []⟩) (fun _ R st => HH st.heap ∧
      R (.ok (.ret (.ref (st.heap.push ob).objs.size)))
        { st with heap := (st.heap.push ob).push { cls := .type "enumerate", data := .fields #[.none, .bool false, .ref st.heap.objs.size, rawInt 0, .none, .none] } }) :=
  .of_wp fun prog w A R st hyp => by
    obtain ⟨hp, gs, dr, tk, os⟩ := st
    obtain ⟨hyp1, hyp2⟩ := hyp
    have hsub := sub_enumerate
    have it1 : ∀ {A' : Around} {E : Value → Shared → Prop} {Q : Value → Shared → Prop}, Q (.ref hp.objs.size) ⟨hp.push ob, gs, dr, tk, os⟩ →
        wpAny (model prog w) A' (pyIter val) Q E ⟨hp, gs, dr, tk, os⟩ := fun q => B.iter prog w _ _ ⟨hp, gs, dr, tk, os⟩ _ hyp1 q
    wp_walk using it1
    refine wpAny_stack_any fun sk => wpAny_pure ?_
    split
    · rename_i cc _ _ _ _ _
      cases (cc == Value.type "enumerate") <;> (wp_walk using it1; exact ⟨_, rfl, hyp2⟩)
    · wp_walk using it1
      exact ⟨_, rfl, hyp2⟩
section
variable {prog : Program} {w : World} {A : Around} {E : Value → Shared → Prop} {s : Shared}
theorem call_en1 {val : Value} {ob : Obj} {HH : Heap → Prop} {Q : Value → Shared → Prop} (B : Begins val ob HH) (hh : HH s.heap)
    (k : ∀ h', IsEnum h' (s.heap.objs.size + 1) s.heap.objs.size 0 .none → h'.get? s.heap.objs.size = some ob → h'.objs.size = s.heap.objs.size + 2 →
      (∀ b o, s.heap.get? b = some o → h'.get? b = some o) → Q (.ref (s.heap.objs.size + 1)) { s with heap := h' }) :
    wpAny (model prog w) A (call (.type "enumerate") [val]) Q E s := by
  refine callType_new F.called_enumerate (by decide) (F.typeCall_enumerate_1 _) (F.newCall_enumerate_1 _) (fun oo => F.args_object_init_2 oo _) F.entry_enumerate_new (meets_en1 B) ⟨hh, ?_⟩
  have z1 : (s.heap.push ob).objs.size = s.heap.objs.size + 1 := Heap.size_push ..
  show _ ∧ _
  rw [z1]
  have z2 : IsEnum ((s.heap.push ob).push { cls := .type "enumerate", data := .fields #[.none, .bool false, .ref s.heap.objs.size, rawInt 0, .none, .none] }) (s.heap.objs.size + 1) s.heap.objs.size 0 .none := by
    have z3 := Heap.get?_push_size (s.heap.push ob) (o := { cls := .type "enumerate", data := .fields #[.none, .bool false, .ref s.heap.objs.size, rawInt 0, .none, .none] }) rfl
    rw [z1] at z3; exact z3
  refine ⟨⟨_, z2, rfl⟩, k _ z2 (Heap.get?_push_of_some _ (Heap.get?_push_size _ B.free)) (by rw [Heap.size_push, z1]) fun b o x => ?_⟩
  exact Heap.get?_push_of_some _ (Heap.get?_push_of_some _ x)
end
/-- enumerate of a tuple: the items in new pairs -/
def IteT (K : PySem.W.Frag) (a : Addr) : It where
  go i H := ∃ (xs : List V) (x : V), SqT K H a xs ∧ xs[i]? = some x
  yld i H v H' := ∃ T x, v = .ref T ∧ H T = none ∧ H' = upd H T (.tup [.int (i : Nat), x]) ∧ ∀ xs, SqT K H a xs → xs[i]? = some x
  stop i H := ∃ xs : List V, SqT K H a xs ∧ xs.length ≤ i
theorem turn_enT {P : Program} {w : World} {K : PySem.W.Frag} {elts : List Expr} {kk : Nat} {tpos : Pos} (a e it : Addr) :
    Turn P w K (.Tuple elts kk tpos) (IteT K a) [e, it] e (fun i h => (∃ old, IsEnum h e it ((i : Nat) : Int) old) ∧ h.IsTupleIter it a i ∧ e ≠ it ∧ a ≠ it ∧ a ≠ e) where
  mem := by simp
  obj := fun i h st b hb => by
    obtain ⟨⟨old, he⟩, ⟨o, ho, hc, hd⟩, _, _⟩ := st
    have eb : b = e ∨ b = it := by simpa using hb
    rcases eb with rfl | rfl
    · exact ⟨_, he, fun v q => nomatch q⟩
    · exact ⟨o, ho, fun v q => by rw [hd] at q; cases q⟩
  keep := fun i h h' st k => let ⟨⟨old, he⟩, hi, hne⟩ := st; ⟨⟨old, k e (by simp) _ he⟩, hi.at fun o q => k it (by simp) o q, hne⟩
  item := by
    intro X hP hw hK hc i pins s σ H E I hf st hg
    subst hP hw hK
    obtain ⟨⟨old, he⟩, hit, hne, hai, hae⟩ := st
    obtain ⟨xs, x, hq, hx⟩ := hg
    obtain ⟨its, rv, p, hz⟩ := I.tuple hq
    obtain ⟨u, hu, ru⟩ := rv.get hx
    have hel : e < s.heap.objs.size := Heap.lt_size he
    have hil : it < s.heap.objs.size := by obtain ⟨_, q, _⟩ := hit; exact Heap.lt_size q
    have hi : i < its.toArray.size := by
      have := (List.getElem?_eq_some_iff.mp hu).1
      simpa using this
    refine wpAny_pyNext_enum_itemD (A := X.A) (Draws.tuple (A := X.A.in1) (show X.A.in1.handled = none from I.ok.hd hc) it a hai its.toArray) he ⟨hit, p⟩ hi hne (by simp [hne, Ne.symm hae]) fun y h' tk hy ho hst hT hsz hk => ?_
    have hyu : y = u := by
      have e1 : its[i]? = some y := by simpa using hy
      rw [hu] at e1
      exact (Option.some.inj e1).symm
    subst hyu
    refine ⟨_, rfl, wpAny_letOwnedTupleGo_enum (s := { s with heap := h', toks := tk + 1 }) ho fun h'' he' sb => ?_⟩
    have hT2 : h''.get? s.heap.objs.size = some { cls := .type "tuple", data := .seq #[.int i tk, y] } := (sb.2 _ (Nat.ne_of_gt hel)).trans hT
    have new : ObjOk X.prog X.w (upd H s.heap.objs.size (.tup [.int (i : Nat), x])) h'' s.heap.objs.size (.tup [.int (i : Nat), x]) :=
      ⟨by show 2 ≤ sizeLine; decide, [.int i tk, y], .cons ⟨_, rfl⟩ (.cons ru .nil), ⟨_, hT2, rfl, _, rfl⟩⟩
    have I1 : Inv X pins σ (upd H s.heap.objs.size (.tup [.int (i : Nat), x])) { s with heap := h'', toks := tk + 1 } := by
      refine I.turnedNew (ch := [e, it]) (fun b ob hb q => ?_) hf (Nat.le_refl _) new
      exact (sb.2 b (fun z => hb (by simp [z]))).trans (hk b ob (fun z => hb (by simp [z])) (fun z => hb (by simp [z])) q)
    refine ⟨.ref s.heap.objs.size, _, I1, rfl, ⟨_, x, rfl, I.hok.fresh (Nat.le_refl _), rfl, fun ys hy => ?_⟩, ⟨⟨y, ?_⟩, hst.1.at fun o q => (sb.2 it (Ne.symm hne)).trans q, hne, hai, hae⟩, fun b hb => ?_⟩
    · rw [I.tuple_inj hy hq]; exact hx
    · rw [show ((i + 1 : Nat) : Int) = (i : Int) + 1 by omega]; exact he'
    · have eb : b = e ∨ b = it := by simpa using hb
      have hb' : b < s.heap.objs.size := by
        rcases eb with z | z <;> rw [z] <;> assumption
      rw [upd_ne (Nat.ne_of_lt hb')]
      exact (hf b hb).1
  done := by
    intro X hP hw hK hc i pins s σ H E I hf st hg
    subst hP hw hK
    obtain ⟨⟨old, he⟩, hit, hne, hai, hae⟩ := st
    obtain ⟨xs, hq, hx⟩ := hg
    obtain ⟨its, rv, p, hz⟩ := I.tuple hq
    obtain ⟨f0, f1, f2, f3, f4, f5⟩ := hf it (by simp)
    have hl := rv.length
    have hT : s.TypeIs (.ref e) "enumerate" := ⟨_, he, rfl⟩
    unfold pyNext
    refine wpAny_bind (wpAny_attempt (wpAny_callSpecial?_slot (name := Str.ofString "__next__") hT F.slot_enumerate_next (wpAny_call_entry F.slot_enumerate_next hT F.entry_enumerate_next ?_ (F.args_enumerate_next_1 _))))
    show wpAny _ _ (field (.ref e) 2 >>= _) _ _ _
    refine wpAny_bind (wpAny_field he rfl (x := .ref it) rfl ?_)
    refine wpAny_bind (wpAny_nextOf_tuple_end (I.ok.hd hc) hit p (by simp; omega) fun h' x he' hx' => ?_)
    obtain ⟨o, ho, hco⟩ := hx'
    refine wpAny_bind (wpAny_isInstance (T := "StopIteration") (b := true) ⟨o, ho, hco⟩ isSubtype_stop ?_)
    exact wpAny_pure ⟨rfl, I.turned (t' := s.toks) (fun b o hb q => he' b o hb q) f0 f1 f3 f4 f5⟩
  self := fun A i s Q E st h => let ⟨⟨_, he⟩, _⟩ := st; wpAny_pyIter_enum he h
def iEnT (K : PySem.W.Frag) (ta : TA) : TI := fun σ H R => ta σ H fun vs H1 => ∃ a xs, vs = [.ref a] ∧ SqT K H1 a xs ∧ R (IteT K a) H1
theorem pi_enT {X : Cx} {e : Expr} {ta : TA} {p pos tpos : Pos} {elts : List Expr} {kk : Nat} (hg : Gl X "enumerate") (hm : X.mg "enumerate" = none) (ha : PA X [e] ta)
    (hs : starEach [e] X.env = [(false, eval e X.env)] := by rfl) : PI X (.Tuple elts kk tpos) (.Call (.Name "enumerate" p) [e] [] pos) (iEnT X.K ta) := by
  refine ⟨fun pins s σ H R I h => Call_ (ld_blt I hg hm boot_enumerate (PyProof.Rows.callWith_type1 (thn (ha.run pos pins s σ H _ I h) fun us s1 ⟨vs, H1, I1, r1, q1⟩ => ?_) hs rfl))⟩
  obtain ⟨a, xs, ex, hq, q⟩ := q1
  subst ex
  cases r1 with
  | cons r rr =>
    cases rr
    cases r
    obtain ⟨its, rv, p', hz⟩ := I1.tuple hq
    have ha0 : a < s1.heap.objs.size := by
      obtain ⟨o, ho, _⟩ := p'
      exact Heap.lt_size ho
    refine call_en1 (begins_tuple a its.toArray) p' fun h' he hit hsz hk => wpAny_pyIter_enum he ?_
    have I2 : Inv X pins σ H1 { s1 with heap := h' } := I1.kept (t' := s1.toks) hk
    refine ⟨s1.heap.objs.size + 1, [s1.heap.objs.size + 1, s1.heap.objs.size], _, _, H1, rfl, I2, turn_enT a (s1.heap.objs.size + 1) s1.heap.objs.size,
      ⟨⟨.none, he⟩, ⟨_, hit, rfl, rfl⟩, Nat.succ_ne_self _, Nat.ne_of_lt ha0, Nat.ne_of_lt (Nat.lt_succ_of_lt ha0)⟩, fun b hb => ?_, q⟩
    have eb : b = s1.heap.objs.size + 1 ∨ b = s1.heap.objs.size := by simpa using hb
    have hle : s1.heap.objs.size ≤ b := by
      rcases eb with z | z
      · rw [z]; exact Nat.le_add_right _ _
      · rw [z]; exact Nat.le_refl _
    exact I1.fpOk hle (I1.hok.fresh hle)
end RV
set_option maxHeartbeats 4000000
namespace RV
open PySem PySem.Spec PyProof.Rows L2 HT
theorem back_places (n : Nat) : Builtin.Slice.slicePlaces ((n : Int) - 1) (-1) (-1) = n := by
  unfold Builtin.Slice.slicePlaces
  rw [if_neg (show ¬ ((-1 : Int) > 0) by decide)]
  by_cases hn : (n : Int) - 1 > -1
  · rw [if_pos hn, show (- -1 : Int) = 1 from rfl, Int.ediv_one]; omega
  · rw [if_neg hn]; omega
theorem back_pick (xs : Array Value) : ((List.range xs.size).filterMap fun (m : Nat) => xs[((xs.size : Int) - 1 + (m : Int) * (-1)).toNat]?).toArray = xs.toList.reverse.toArray := by
  have e0 : ∀ (l : List Nat), (∀ m ∈ l, m < xs.size) → l.filterMap (fun (m : Nat) => xs[((xs.size : Int) - 1 + (m : Int) * (-1)).toNat]?) = (l.map fun k => xs.size - 1 - k).filterMap (xs[·]?) := by
    intro l
    induction l with
    | nil => intro _; rfl
    | cons m r ih =>
      intro hm
      have h1 := hm m (List.mem_cons_self ..)
      have h2 := ih fun z hz => hm z (List.mem_cons_of_mem _ hz)
      rw [List.map_cons, List.filterMap_cons, List.filterMap_cons, h2, show ((xs.size : Int) - 1 + (m : Int) * (-1)).toNat = xs.size - 1 - m by omega]
  have e1 := e0 (List.range xs.size) fun m hm => List.mem_range.mp hm
  rw [e1, PySem.W.krv_range, List.filterMap_reverse, PySem.W.krv_all]
section
variable {prog : Program} {w : World} {A : Around} {E : Value → Shared → Prop} {s : Shared}
theorem applied_back {sl : Addr} {vl vu vs : Value} {n : Nat} {Q : Int × Int × Nat → Shared → Prop} (hs : s.heap.IsSliceOf sl vl vu vs) (pl : IsPart vl none) (pu : IsPart vu none) (ps : IsPart vs (some (-1)))
    (k : Q ((n : Int) - 1, -1, n) s) : wpAny (model prog w) A (Builtin.Slice.sliceApplied (.ref sl) (pure (n : Int))) Q E s := by
  obtain ⟨os, o1, o2, o3⟩ := id hs
  unfold Builtin.Slice.sliceApplied Builtin.Slice.sliceFields
  refine wpAny_bind (wpAny_bind (wpAny_field o1 o3 (x := vl) rfl (wpAny_bind (wpAny_field o1 o3 (x := vu) rfl (wpAny_bind (wpAny_field o1 o3 (x := vs) rfl (wpAny_pure ?_)))))))
  refine wpAny_bind (slicePart_ ps ?_)
  show wpAny _ _ (if ((-1 : Int) == 0) = true then _ else _) _ _ s
  rw [if_neg (by decide)]
  refine wpAny_bind (slicePart_ pl (wpAny_bind (slicePart_ pu (wpAny_bind (wpAny_pure ?_)))))
  show wpAny _ _ (pure ((n : Int) - 1, (-1 : Int), Builtin.Slice.slicePlaces ((n : Int) - 1) (-1) (-1))) _ _ s
  rw [back_places]
  exact wpAny_pure k
theorem item_back {t sl : Addr} {items : Array Value} {vl vu vs : Value} {Q : Value → Shared → Prop} (ht : IsTup s.heap t items) (hs : s.heap.IsSliceOf sl vl vu vs) (pl : IsPart vl none) (pu : IsPart vu none) (ps : IsPart vs (some (-1)))
    (k : Q (.ref s.heap.objs.size) { s with heap := s.heap.push { cls := .type "tuple", data := .seq items.toList.reverse.toArray } })
    (hsz : items.size ≤ sizeLine) : wpAny (model prog w) A (getItem (.ref t) (.ref sl)) Q E s := by
  have hok : sizeOk (.seq items.toList.reverse.toArray) := by
    show items.toList.reverse.toArray.size ≤ sizeLine
    simpa using hsz
  obtain ⟨os, o1, o2, o3⟩ := id hs
  have hTs : s.TypeIs (.ref sl) "slice" := ⟨os, o1, o2⟩
  unfold getItem
  try with_reducible refine wpAny_holding ?_
  first | refine wpAny_bind (wpAny_pure ?_) | skip
  refine wpAny_bind (wpAny_sequenceKey ht.typeIs (by decide) ?_)
  refine wpAny_bind (wpAny_callSpecial?_slot (name := Str.ofString "__getitem__") ht.typeIs PyProof.Rows.slot_tuple_getitem (wpAny_call_entry PyProof.Rows.slot_tuple_getitem ht.typeIs entry_tuple_getitem ?_ (args_tuple_getitem _ _)))
  show wpAny _ _ (Builtin.Tuple.tupleItemsOf (.ref t) >>= _) _ _ s
  refine wpAny_bind (tupleItemsOf_ ht (wpAny_bind (wpAny_typeOf hTs ?_)))
  rw [if_pos (by decide)]
  refine wpAny_bind (applied_back hs pl pu ps ?_)
  show wpAny _ _ (if (((items.size : Int) - 1) == 0 && (-1 : Int) == 1 && items.size == items.size) = true then _ else _) _ _ s
  rw [if_neg (by simp), back_pick]
  first
    | exact wpAny_bind (m := Builtin.Tuple.tupleExact _) (wpAny_newObj_type (wpAny_pure ⟨_, rfl, wpAny_pure k⟩) hok)
    | exact wpAny_bind (wpAny_bind (m := Builtin.Tuple.tupleExact _) (wpAny_newObj_type (wpAny_pure (wpAny_pure ⟨_, rfl, wpAny_pure k⟩)) hok))
    | exact wpAny_bind (wpAny_bind (m := Builtin.Tuple.tupleExact _) (wpAny_newObj_type (wpAny_pure ⟨_, rfl, wpAny_pure k⟩) hok))
    | exact wpAny_bind (m := Builtin.Tuple.tupleExact _) (wpAny_newObj_type (wpAny_bind (wpAny_pure (wpAny_pure ⟨_, rfl, wpAny_pure k⟩))) hok)
end
section
variable {X : Cx}
/-- t[::-1] of a tuple -/
def tBackT (K : PySem.W.Frag) (te : TE) : TE := fun σ H Q => te σ H fun x H1 => ∃ a xs, x = .ref a ∧ SqT K H1 a xs ∧ ∀ p, H1 p = none → Q (.ref p) (upd H1 p (.tup xs.reverse))
theorem pe_backT {e : Expr} {te : TE} {k : Nat} {p1 p2 p3 pos : Pos} (he : PE X e te) : PE X (.Subscript e (.Slice none none (some (.UnaryOp .USub (.Constant (.int 1) k p1) p2)) p3) pos) (tBackT X.K te) := by
  refine ⟨fun pins s σ H Q I h => Subscript_ (thn (he.run pins s σ H _ I h) fun v s1 ⟨x, H1, I1, r1, q1⟩ => ?_)⟩
  obtain ⟨a, xs, ex, hx, q⟩ := q1
  subst ex
  cases r1
  have hst : PO X (some (.UnaryOp .USub (.Constant (.int 1) k p1) p2)) (tPart (tUn (rU fun i => .int (-i)) (tC (.int 1)))) := po_some (pe_un un_neg pe_int)
  refine wpAny_Slice (thn (po_none.run pins s1 σ H1 (fun o H2 => o = none ∧ H2 = H1) I1 ⟨rfl, rfl⟩) fun vl s2 ⟨l, H2, I2, pl, el, e2⟩ => ?_)
  subst el e2
  refine thn (po_none.run pins s2 σ H2 (fun o H3 => o = none ∧ H3 = H2) I2 ⟨rfl, rfl⟩) fun vu s3 ⟨u, H3, I3, pu, eu, e3⟩ => ?_
  subst eu e3
  refine thn (hst.run pins s3 σ H3 (fun o H4 => o = some (-1) ∧ H4 = H3) I3 ⟨1, rfl, -1, rfl, rfl, rfl⟩) fun vs s4 ⟨o, H4, I4, ps, eo, e4⟩ => ?_
  subst eo e4
  have I5 : Inv X pins σ H4 { s4 with heap := s4.heap.push { cls := .type "slice", data := .fields #[vl, vu, vs] } } := I4.kept (t' := s4.toks) fun b ob q => Heap.get?_push_of_some _ q
  obtain ⟨its, r, ht, hz⟩ := I5.tuple hx
  have hlen := r.length
  show wpAny (model X.prog X.w) X.A (subscriptTail e _ (.ref a) (.ref s4.heap.objs.size)) (EP X pins σ Q) X.xe { s4 with heap := s4.heap.push { cls := .type "slice", data := .fields #[vl, vu, vs] } }
  refine tail_any (ops := [.ref a, .ref s4.heap.objs.size]) ht.typeIs (PyProof.Rows.slot_tuple_getitem.lookup) ?_ (by with_unfolding_all rfl)
  refine item_back ht (Heap.IsSliceOf.new _ vl vu vs) pl pu ps ?_ (by rw [List.size_toArray]; omega)
  refine ⟨.ref _, _, I5.laid (t' := s4.toks) (o := .tup xs.reverse) (fun b ob q => Heap.get?_push_of_some _ q) (Nat.le_refl _) ?_, rfl, q _ (I5.hok.fresh (Nat.le_refl _))⟩
  exact ⟨by rw [List.length_reverse]; exact hz, its.reverse, r.reverse, IsTup.new _ _⟩
end
end RV
set_option maxHeartbeats 4000000
namespace RV
open PySem PySem.Spec PyProof.Rows L2
/-- as the layer's promise of a def, where no repr runs around -/
structure FnG (P : Program) (w : World) (K : PySem.W.Frag) (mg : Str → Option Value) (base : Heap) (CX : CXT) (k : Nat) (f : Addr) (fd : FuncData) (ps : List Str) (sp : Sp) : Prop where
  many : ∀ vs H Q E, sp vs H Q E → vs.length = ps.length
  goes : ∀ (A : Around) (outer : List Env) (s : Shared) (H : Hp) (args : Args) (us : List Value) (vs : List V) (Q : VK) (E : XK), A.guards = some [] → Room k A → Env0 P w K mg base A outer s H →
    BindsTo s fd args (ps.zip us) → Vals vs us → sp vs H Q E → codeAny (model P w) A (.call (.ref f) args) (CR CX outer P w H s Q E) s
section
variable {P : Program} {w : World} {K : PySem.W.Frag} {mg : Str → Option Value} {base : Heap} {CX : CXT} {k : Nat} {f : Addr} {fd : FuncData} {N ps : List Str} {sp : Sp} {x qual : Str} {st : Stmt}
theorem okG (F : Fun K x qual st f fd) (S : FnScope N ps (defScope st)) (len : ∀ vs H Q E, sp vs H Q E → vs.length = ps.length)
    (body : ∀ (cdv : Value) (A : Around) (outer : List Env) (s : Shared) (H : Hp) (vs : List V) (Q : VK) (E : XK), A.guards = some [] → Room k (A.deeper (envOfC qual (defScope st) s.heap.objs.size f cdv)) → sp vs H Q E →
      ∃ t, PSs (cxOf CX0 P w K mg base N qual (defScope st) f cdv A outer s H E).nox (defBody st) t ∧ t { nx := fun _ H' => Q .non H', rt := Q } (start N vs) H) : FnG P w K mg base CX0 (k + 1) f fd ps sp := by
  obtain ⟨oc, od, kV, doc, pm, an, cdv, ct, osl, rfl, lk, hcd⟩ := F.ex
  refine ⟨len, fun A outer s H args us vs Q E gd hr e0 hb r hsp => ?_⟩
  have KX : K.In s.heap := e0.mod.kin.keeps fun b o z => (e0.bs b o z).1
  have lim : s.heap.NoLimit := e0.mod.nolimit.keeps fun b o z => (e0.bs b o z).1
  have kinds : ∀ y ∈ ps.zip us, (defScope st).names.lookup y.1 = some .local ∨ ((defScope st).names.lookup y.1 = some .cell ∧ ((cellsFrom (s.heap.objs.size + 1) (defScope st).names []).lookup y.1).isSome = true) := by
    rintro ⟨n, v⟩ hy
    exact (S.par n (List.of_mem_zip hy).1).imp id fun q => ⟨q, PySem.W.cellsFrom_some _ _ _ (.inl q)⟩
  refine codeAny_call_function hr.depth (KX _ _ lk) rfl S.co S.gen rfl (PySem.W.codeRec_of KX hcd) (hb _ _ _ _ (wpAny_newFunctionEnv_cells S.kind kinds fun env he s1 z => ?_))
  subst he
  refine ⟨lim.keeps z.toInCall.keep, codeAny_func ?_⟩
  obtain ⟨t, ht, hq⟩ := body cdv A outer s H vs Q E gd (hr.deeper _) hsp
  have I : Inv (cxOf CX0 P w K mg base N qual (defScope st) f cdv A outer s H E) [] (start N vs) H s1 := inv_start S hr.hd e0 (len _ _ _ _ hsp) r z
  refine wpAny_mono (ht.nox.run [] s1 (start N vs) H _ I hq) (fun fl s' hs => ?_) fun e s' hs => hs
  cases fl with
  | ret u =>
    obtain ⟨v, σ', H', J, rv, q⟩ := hs
    exact ⟨v, H', J.os, J.bare, J.base, J.hok, rv, q⟩
  | next =>
    obtain ⟨σ', H', J, q⟩ := hs
    exact ⟨V.non, H', J.os, J.bare, J.base, J.hok, rfl, q⟩
  | brk => exact hs.elim fun _ z => z.elim fun _ y => False.elim y.2
  | cont => exact hs.elim fun _ z => z.elim fun _ y => False.elim y.2
end
section
variable {X : Cx} {CX : CXT} {k : Nat} {f : Addr} {fd : FuncData} {ps : List Str} {sp : Sp} {dvs : List V} {ds : List Value} {E : XK} {x : Str} {p pos : Pos} {e : Expr} {es : List Expr} {t : TA}
/-- f(e, ..) of such a def -/
theorem pe_callG (F : FnG X.prog X.w X.K X.mg X.base CX k f fd ps sp) (gd : X.A.guards = some []) (hr : Room k X.A) (hg : Gl X x) (hm : X.mg x = some (.ref f)) (hk : PySem.W.keepIn X.K (.ref f) = true) (hb : Binds X.K fd ps ds) (hd : Vals dvs ds) (hx : Passes CX X E)
    (ha : PA X (e :: es) t) (hdb : (x == ("__debug__" : Str)) = false := by decide) (he : starEach (e :: es) X.env = (false, eval e X.env) :: starEach es X.env := by rfl) (hpl : (backTo pos (starEach es X.env)).any (·.1) = false := by rfl) :
    PE X (.Call (.Name x p) (e :: es) [] pos) (tCall sp dvs E t) := by
  refine ⟨fun pins s σ H Q I h => wpAny_Call_Name_kw (ld_glob I hg hm ?_ hdb)⟩
  refine PySem.W.callWith_K (h₀ := X.base) I.ok.mod.kin hk (thn (ha.run pos pins s σ H _ I h) fun us s1 ⟨vs, H1, I1, r, q⟩ => ⟨I1.kIn, ?_⟩) he hpl
  have r2 : Vals (vs ++ dvs) (us ++ ds) := r.append hd
  have hl : (us ++ ds).length = ps.length := r2.length ▸ F.many _ _ _ _ q
  refine wpAny_call (codeAny_mono (F.goes X.A X.stack s1 H1 ⟨us, []⟩ (us ++ ds) (vs ++ dvs) Q E gd hr I1.env0 (hb s1 us I1.kIn hl) r2 q) fun rr s' hq => ?_)
  cases rr with
  | error ee => exact hx pins σ H1 s1 ee s' I1 hq
  | ok fl => cases fl <;> first | exact I1.after hq | exact False.elim hq
/-- repr(x), x an object read as data -/
theorem call_reprD (gd : X.A.guards = some []) (hu : X.A.units + 65 < cLine) : CallR X (.builtin "repr") (fun xs H Q => ∃ (a : Addr) (d : PyData), xs = [.ref a] ∧ Dp X.K H (.ref a) d ∧ d.showable = true ∧ d.hasDict = false ∧ d.depth ≤ 64 ∧ d.shown.length ≤ sizeLine ∧ Q (.str d.shown) H) := by
  intro pins s σ H xs us Q I r h
  obtain ⟨a, d, rfl, hd, h1, h2, h3, h4, q⟩ := h
  obtain ⟨u, rfl, ru⟩ := vals1 r
  cases ru
  obtain ⟨as, rd⟩ := Dp.reads I d (.ref a) (.ref a) hd rfl
  refine repr_of_reads' rd h1 (fun z => by rw [h2] at z; cases z) gd (by omega) (fun _ _ z => z) (fun h' uu tk k => ?_) h4
  exact ⟨.str d.shown, H, I.kept k, ⟨uu, rfl⟩, q⟩
end
section
/-- the law's call, from such a promise -/
theorem law_callG {P : Program} {w : World} {K : PySem.W.Frag} {mg mb : Str → Option Value} {k : Nat} {fa a : Addr} {fd : FuncData} {x : Str} {sp : Sp} {st : Shared} {vs : List Value} {ns : List Int}
    (KX : K.In st.heap) (n1 : st.heap.Ns mainGlobals mg) (n2 : st.heap.Ns builtinsNs mb) (n3 : ∀ x : Str, x ≠ "__name__" → mb x = bootBuiltins x) (n4 : st.heap.NoLimit) (n5 : st.gens = #[])
    (ha : st.heap.get? a = some { cls := .type "list", data := .seq vs.toArray }) (hi : IntsAre vs ns) (hl : ns.length ≤ sizeLine) (hr : Room k callerA)
    (F : ∀ base : Heap, K.In base → base.Ns mainGlobals mg → FnG P w K mg base CX0 k fa fd [x] sp) (bnd : ∀ (s : Shared) (u : Value), BindsTo s fd ⟨[u], []⟩ [(x, u)])
    (hsp : ∀ H : Hp, Only H → SqL K H a (ns.map V.int) → sp [.ref a] H (fun v _ => v = .bl true) fun _ _ _ => False) :
    codeAny (model P w) callerA (.call (.ref fa) ⟨[.ref a], []⟩) (fun r s' => r = .ok (.ret (.bool true)) ∧ OldK st.heap s'.heap ∧ s'.os = st.os ∧ AllBare s'.gens) st := by
  have rv := vals_ints hi
  have lv := hi.length
  have key : ∀ H : Hp, Only H → SqL K H a (ns.map V.int) → HOk P w H st.heap → (∀ b, H b ≠ none → b = a) → (H a ≠ none → K.lookup a = none) →
      codeAny (model P w) callerA (.call (.ref fa) ⟨[.ref a], []⟩) (fun r s' => r = .ok (.ret (.bool true)) ∧ OldK st.heap s'.heap ∧ s'.os = st.os ∧ AllBare s'.gens) st := by
    intro H hO hS hok hA hK
    have noA : ∀ {b : Addr} {o : Obj} {es : Array DictEntry} {ep : Nat}, st.heap.get? b = some o → o.data = .dict es ep → H b = none := by
      intro b o es ep e d
      cases q : H b with
      | none => rfl
      | some u =>
        obtain rfl : b = a := hA b (by rw [q]; simp)
        rw [ha] at e
        cases e
        cases (show Data.seq vs.toArray _ = Data.dict es ep from d)
    have nsK : ∀ {b : Addr} {m : Str → Option Value}, st.heap.Ns b m → (hidT st.heap H).Ns b m := fun {b m} ⟨o, es, ep, e, d, r⟩ => ⟨o, es, ep, hidT_get e (noA e d), d, r⟩
    have kb : K.In (hidT st.heap H) := fun b o e => hidT_get (KX b o e) (by
      cases q : H b with
      | none => rfl
      | some u =>
        obtain rfl : b = a := hA b (by rw [q]; simp)
        rw [hK (by rw [q]; simp)] at e
        cases e)
    obtain ⟨mc, l1, l2⟩ := n4
    have e0 : Env0 P w K mg (hidT st.heap H) callerA [] st H :=
      ⟨rfl, ⟨kb, nsK n1, ⟨mb, nsK n2, n3⟩, ⟨mc, nsK l1, l2⟩⟩, fun b o e => of_hidT e, Nat.le_of_eq (hidT_size _ _), trivial, fun b hb => absurd (show b ∈ ([] : List Addr) from hb) (by simp), hok, .of_eq n5⟩
    refine codeAny_mono ((F _ kb (nsK n1)).goes callerA [] st H ⟨[.ref a], []⟩ [.ref a] [.ref a] _ _ rfl hr e0 (bnd st (.ref a)) (.cons rfl .nil) (hsp H hO hS)) fun r s' h => ?_
    cases r with
    | error e => exact False.elim h
    | ok fl =>
      cases fl with
      | next => exact False.elim h
      | brk => exact False.elim h
      | cont => exact False.elim h
      | ret u =>
        obtain ⟨v, H', os, bare, un, hok', r', q⟩ := h
        obtain rfl : v = .bl true := q
        obtain rfl : u = Value.bool true := r'
        refine ⟨rfl, OldK.of_keep fun b o e => ?_, os, bare⟩
        rcases hO b with z | ⟨ob, xs, z⟩
        · exact un.keep b o e z (fun y => absurd (show b ∈ ([] : List Addr) from y) (by simp)) (by simp)
        · have z2 := un.frzs b ob _ z
          obtain ⟨e1, _⟩ := hok b _ z
          obtain ⟨e2, _⟩ := hok' b _ z2
          rw [e] at e1
          cases e1
          exact e2
  cases hk : K.lookup a with
  | some o =>
    have e := KX a o hk
    rw [ha] at e
    cases e
    exact key (fun _ => none) (fun _ => .inl rfl) (.inr ⟨_, vs.toArray, _, hk, rfl, rfl, rfl, by rw [List.size_toArray, lv]; exact hl, by simpa using rv⟩)
      (fun b u z => by cases (show (none : Option HO) = some u from z)) (fun b z => absurd rfl z) fun z => absurd rfl z
  | none =>
    refine key (fun b => if b = a then some (.frz { cls := .type "list", data := .seq vs.toArray } (.lst (ns.map V.int))) else none) (fun b => ?_) (.inl (.inr ⟨{ cls := .type "list", data := .seq vs.toArray }, if_pos rfl⟩)) (fun b u z => ?_) (fun b z => ?_) fun _ => hk
    · by_cases hb : b = a
      · exact .inr ⟨_, _, if_pos hb⟩
      · exact .inl (if_neg hb)
    · by_cases hb : b = a
      · cases (if_pos hb).symm.trans z
        subst hb
        exact ⟨ha, by rw [List.length_map]; exact hl, vs, _, rv, ha⟩
      · cases (if_neg hb).symm.trans z
    · exact Classical.byContradiction fun hb => z (if_neg hb)
theorem walk_G {l : PySem.W.OpenLaw} {n k : Nat} {q : Program} {loose : List Str} {XP : (Str → Option Value) → Heap → Prop} {YP : World → Heap → Prop} {d : DefRec} {K : Params → PySem.W.Frag} {sp : World → Sp} {x : Str}
    (hn : l.most = some n) (hn2 : n ≤ sizeLine) (hdf : d.params.defaults = []) (hr : Room k callerA) (hY : ∀ (w : World) (h : Heap), YP w h → (K w.params).In h)
    (F : ∀ (w : World) (mg : Str → Option Value) (fa : Addr) (h : Heap), (K w.params).In h → h.Ns mainGlobals mg → mg d.name = some (.ref fa) →
      ∃ fd : FuncData, (∀ (s : Shared) (u : Value), BindsTo s fd ⟨[u], []⟩ [(x, u)]) ∧ ∀ base : Heap, (K w.params).In base → base.Ns mainGlobals mg → FnG l.prog w (K w.params) mg base CX0 k fa fd [x] (sp w))
    (hsp : ∀ (w : World) (H : Hp) (a : Addr) (ns : List Int), ns.length ≤ n → Only H → SqL (K w.params) H a (ns.map V.int) → sp w [.ref a] H (fun v _ => v = .bl true) fun _ _ _ => False) :
    PySem.W.WalkO q loose XP YP l.row.toRowW d [] (fun f vs => PySem.call f vs) := by
  refine Att.attach_call hn hdf fun w s₀ st mg mb fa o pm cd doc a vs ns G Y ho hd hcd hmg hobj hints hlen hg => ?_
  obtain ⟨fd, hb, hF⟩ := F w mg fa _ (hY w _ Y) G.T.g hmg
  exact law_callG (hY w _ Y) G.T.g G.T.b G.T.builtins G.T.nolimit hg hobj hints (Nat.le_trans hlen hn2) hr hF hb fun H hO hS => hsp w H a ns hlen hO hS
end
end RV
set_option maxHeartbeats 4000000
namespace RV
open PySem PySem.Spec PyProof.Rows L2 PySem.W
section
variable {prog : Program} {w : World} {A : Around} {E : Value → Shared → Prop} {s : Shared} {K : Frag} {x C L f : Addr} {h₀ : Heap} {m : Str → Option Value} {ox : Obj} {od : Option Obj} {b tb : Value}
theorem ne_bound {Q : Option Value → Shared → Prop} (X : K.In s.heap) (I : InstAt s.heap x ox C od) (hs : findIn K (.ref C) "__ne__" = some (some (.builtin "object.__ne__")))
    (h : wpAny (model prog w) A (call (.builtin "object.__ne__") [.ref x, b]) (fun v => Q (some v)) E s) : wpAny (model prog w) A (callSpecialIfBound? (.ref x) "__ne__" [b]) Q E s := by
  simp only [callSpecialIfBound?, bindSpecialIfBound?]
  refine wpAny_holding (wpAny_bind (wpAny_bind (wpAny_bind (I.type.here ((looks_findIn X hs).here ?_)))))
  refine wpAny_bind (wpAny_askSetting (wpAny_ite ?_))
  have fin : wpAny (model prog w) A (call (.builtin "object.__ne__") ([.ref x] ++ [b]) >>= fun v => pure (some v)) Q E s :=
    wpAny_bind (wpAny_mono h (fun v s' z => wpAny_pure z) fun _ _ z => z)
  split
  · rw [F.cmp_object.ne.bind]
    exact wpAny_bind (wpAny_pure (wpAny_pure fin))
  · rw [F.cmp_object.ne.bind]
    exact wpAny_tryCatch (wpAny_bind (wpAny_pure (wpAny_pure fin)))
theorem obj_ne {Q : Fin → Shared → Prop} (X : K.In s.heap) (hu : A.units < cLine) (I : InstAt s.heap x ox C od) (hs : findIn K (.ref C) "__eq__" = some (some (.ref f))) (hf : isFn K (.ref f) = true)
    (h : wpAny (model prog w) A (call (.ref f) [.ref x, b]) (fun v s' => ∃ c, v = .bool c ∧ Q (.done (.ret (.bool (!c)))) s') E s) :
    wpAny (model prog w) A (Builtin.«object.__ne__» ⟨[.ref x, b], []⟩) Q E s := by
  unfold Builtin.«object.__ne__»
  repeat (first
    | with_reducible refine wpAny_cRoomFor hu ?_
    | (refine wpAny_bind (m := callSpecialIfBound? (.ref x) (Str.ofString "__eq__") [b])
        (ifBound_K X I hs hf (wpAny_mono h (fun r s' hr => by
          obtain ⟨c, rfl, hq⟩ := hr
          repeat (first | exact hq | exact wpAny_pure hq | exact wpAny_truthy_bool hq | (refine wpAny_bind (m := truthy (.bool _)) (wpAny_truthy_bool ?_)) | wp_step)) fun _ _ z => z)))
    | wp_step)
theorem cmp_ne {Q : Value → Shared → Prop} (hu : A.units + 1 < cLine) (F0 : Fr h₀ L s.heap m) (X₀ : K.In h₀) (I : InstAt s.heap x ox C od) (hb : Looks (model prog w) s.heap (typeOf b) (.ref C))
    (hn : findIn K (.ref C) "__ne__" = some (some (.builtin "object.__ne__"))) (hm : mroIn K C (.type "object") = some true)
    (hs : findIn K (.ref C) "__eq__" = some (some (.ref f))) (hf : isFn K (.ref f) = true)
    (h : wpAny (model prog w) A.in1 (call (.ref f) [.ref x, b]) (fun v s' => ∃ c, v = .bool c ∧ Q (.bool (!c)) s') E s) : wpAny (model prog w) A (richCompare .NotEq (.ref x) b) Q E s := by
  have X := X₀.keeps F0.keep
  have one : wpAny (model prog w) A (tryCompare (.ref x) "__ne__" b) (fun r s' => ∃ v, r = some v ∧ Q v s') E s := by
    unfold tryCompare
    refine wpAny_bind (ne_bound X I hn (wpAny_call (codeAny_call_builtin F.cmp_object.ne.plain F.cmpEntry_ne ?_)))
    refine check_slot F.cmpKind_ne F.cmpSplit_ne ?_ (F.cmpArgs_ne _ _) ?_
    · exact I.type.andThen (looks_mroIn X hm)
    · refine obj_ne (A := A.in1) X hu I hs hf (wpAny_mono h (fun v s' hv => ?_) fun _ _ z => z)
      obtain ⟨c, rfl, hq⟩ := hv
      exact ⟨c, rfl, wpAny_pure ⟨_, rfl, hq⟩⟩
  unfold richCompare
  simp only [oneThing_ref]
  refine wpAny_holding (wpAny_bind (wpAny_cRoomFor (Nat.lt_of_succ_lt hu) ?_))
  rw [cmpInfo_NotEq]
  dsimp only
  refine wpAny_bind (I.type.here (wpAny_bind (hb.here ?_)))
  rw [show (Value.ref C != Value.ref C) = false from by simp]
  simp only [Bool.false_eq_true, if_false]
  refine wpAny_bind (wpAny_pure ?_)
  simp only [Bool.false_eq_true, if_false]
  refine wpAny_bind (wpAny_mono one (fun r s' z => ?_) fun _ _ z => z)
  obtain ⟨v, rfl, hq⟩ := z
  exact wpAny_pure hq
end
section
variable {X : Cx} {CX : CXT} {n : Nat} {C f : Addr} {fd : FuncData} {ps : List Str} {sp : Sp} {E : XK}
/-- x != y, instances of the class at C, by the text's own == -/
def rNeI (C : Addr) (sp : Sp) (E : XK) : R2 := fun x y H Q => ∃ a b dx dy fs gs, x = .ref a ∧ y = .ref b ∧ H a = some (.ins C dx fs) ∧ H b = some (.ins C dy gs) ∧ sp [.ref a, .ref b] H (fun v H' => ∃ c, v = .bl c ∧ Q (.bl (!c)) H') E
def rEqI (C : Addr) (sp : Sp) (E : XK) : R2 := fun x y H Q => ∃ a b dx dy fs gs, x = .ref a ∧ y = .ref b ∧ H a = some (.ins C dx fs) ∧ H b = some (.ins C dy gs) ∧ sp [.ref a, .ref b] H (fun v H' => ∃ c, v = .bl c ∧ Q (.bl c) H') E
theorem op_neI (G : FnOk X.prog X.w X.K X.mg X.base CX n f fd ps sp) (hr : Room (n + 1) X.A) (hn : findIn X.K (.ref C) "__ne__" = some (some (.builtin "object.__ne__"))) (hm : mroIn X.K C (.type "object") = some true)
    (hs : findIn X.K (.ref C) "__eq__" = some (some (.ref f))) (hf : isFn X.K (.ref f) = true) (hb : Binds X.K fd ps []) (hx : Passes CX X E) : OpR X (compareOp .NotEq) (rNeI C sp E) := by
  intro pins s σ H x y v u Q I rx ry hq
  obtain ⟨a, b, dx, dy, fs, gs, rfl, rfl, ha, hb', q⟩ := hq
  cases rx
  cases ry
  obtain ⟨mA, J, _⟩ := ins_get I.hok ha
  obtain ⟨mB, J', _⟩ := ins_get I.hok hb'
  obtain ⟨od, J, _⟩ := J.look
  obtain ⟨od', J', _⟩ := J'.look
  obtain ⟨m, hF⟩ := I.fr
  show wpAny (model X.prog X.w) X.A (richCompare .NotEq (.ref a) (.ref b)) (EP X pins σ Q) X.xe s
  refine cmp_ne (by have := hr.un; omega) hF I.ok.mod.kin J J'.type hn hm hs hf ?_
  have hl := G.len _ _ _ _ q
  have r2 : Vals [V.ref a, V.ref b] [Value.ref a, Value.ref b] := .cons rfl (.cons rfl .nil)
  refine wpAny_call (codeAny_mono (G.run X.A.in1 X.stack s H ⟨[.ref a, .ref b], []⟩ [.ref a, .ref b] [.ref a, .ref b] _ E hr.in1 I.env0.in1 (by simpa using hb s [.ref a, .ref b] I.kIn (by simpa using hl)) r2 q) fun r s' hq => ?_)
  cases r with
  | error e => exact hx pins σ H s e s' I hq
  | ok fl =>
    cases fl with
    | ret w =>
      obtain ⟨z, H', I', rz, c, ez, ex⟩ := I.after hq
      subst ez
      cases rz
      exact ⟨c, rfl, .bl (!c), H', I', rfl, ex⟩
    | next => exact False.elim hq
    | brk => exact False.elim hq
    | cont => exact False.elim hq
theorem op_eqI (G : FnOk X.prog X.w X.K X.mg X.base CX n f fd ps sp) (hr : Room n X.A)
    (hs : findIn X.K (.ref C) "__eq__" = some (some (.ref f))) (hf : isFn X.K (.ref f) = true) (hb : Binds X.K fd ps []) (hx : Passes CX X E) : OpR X (compareOp .Eq) (rEqI C sp E) := by
  intro pins s σ H x y v u Q I rx ry hq
  obtain ⟨a, b, dx, dy, fs, gs, rfl, rfl, ha, hb', q⟩ := hq
  cases rx
  cases ry
  obtain ⟨mA, J, _⟩ := ins_get I.hok ha
  obtain ⟨mB, J', _⟩ := ins_get I.hok hb'
  obtain ⟨od, J, _⟩ := J.look
  obtain ⟨od', J', _⟩ := J'.look
  obtain ⟨m, hF⟩ := I.fr
  show wpAny (model X.prog X.w) X.A (richCompare .Eq (.ref a) (.ref b)) (EP X pins σ Q) X.xe s
  refine PySem.W.cmp_K (op := .Eq) (tb := .ref C) hr.units0 hF I.ok.mod.kin J J'.type (by simp [PySem.W.notFirst]) hs hf ?_
  have hl := G.len _ _ _ _ q
  have r2 : Vals [V.ref a, V.ref b] [Value.ref a, Value.ref b] := .cons rfl (.cons rfl .nil)
  refine wpAny_call (codeAny_mono (G.run X.A X.stack s H ⟨[.ref a, .ref b], []⟩ [.ref a, .ref b] [.ref a, .ref b] _ E hr I.env0 (by simpa using hb s [.ref a, .ref b] I.kIn (by simpa using hl)) r2 q) fun r s' hq => ?_)
  cases r with
  | error e => exact hx pins σ H s e s' I hq
  | ok fl =>
    cases fl with
    | ret w =>
      obtain ⟨z, H', I', rz, c, ez, ex⟩ := I.after hq
      subst ez
      cases rz
      exact ⟨.bl c, H', I', rfl, ex⟩
    | next => exact False.elim hq
    | brk => exact False.elim hq
    | cont => exact False.elim hq
end
end RV
set_option maxHeartbeats 4000000
/-! set(xs) of tuples of ints, xs of any length, where few of them are unlike -/
namespace RV
open PySem PySem.Spec PyProof.Rows L2
/-- fewer than 63 unlike ones -/
def FewUnlike (ks : List (Addr × List Int)) : Prop := ∀ L : List (Addr × List Int), (L.map (·.2)).Nodup → (∀ p ∈ L, p ∈ ks) → L.length + 1 < 64
abbrev noneYet (w : World) : Obj := { cls := .type "set", dict := none, data := .set #[] 0 (.fresh 0 0 (!w.params.followText "set-order")) }
section
variable {P : Program} {w : World} {A : Around} {E : Value → Shared → Prop} {s : Shared}
theorem setN_loop {R : Result → Shared → Prop} (hh : A.in1.handled = none) (S l it : Addr) (hSl : S ≠ l) (hSi : S ≠ it) (hli : l ≠ it) (items : Array Value) (ks : List (Addr × List Int)) (few : FewUnlike ks)
    (refs : ∀ (i : Nat) (p : Addr × List Int), ks[i]? = some p → items[i]? = some (Value.ref p.1)) (size : items.size = ks.length) (old : Heap) (tups : ∀ p ∈ ks, IsT P w old p.2 p.1) (o1 : old.get? S = none) (o2 : old.get? it = none) (hu : A.in1.units < cLine) :
    ∀ (k i : Nat) (s : Shared), ks.length - i = k → i ≤ ks.length → s.heap.IsListIter it l i → s.heap.IsList l items → (∀ b o, old.get? b = some o → s.heap.get? b = some o) → (∃ L es ep t, SetTR P w s.heap S L es ep t ∧ Got ks i L) →
      (∀ h' tk L es ep t, SetTR P w h' S L es ep t → Got ks ks.length L → (∀ b o, old.get? b = some o → h'.get? b = some o) → R (.ok (.ret .none)) { s with heap := h', toks := tk }) →
      codeAny (model P w) A (.builtin "set.update.loop" ⟨[.ref S, .ref it], []⟩) R s
  | 0, i, s, hk, hi, hit, hl, keep, ⟨L, es, ep, t, hS, got⟩, fin => by
    obtain rfl : i = ks.length := by omega
    refine codeAny_builtin F.entry_set_update_loop ?_
    rw [Around.under_plainId F.plain_set_update_loop _]
    show wpAny _ A.in1 (pyNext (.ref it) >>= _) _ _ s
    refine wpAny_bind (wpAny_pyNext_list_end hh hit hl (by simp [size]) fun h' ext => ?_)
    have keep' : ∀ b o, old.get? b = some o → h'.get? b = some o := fun b o e => ext b o (fun z => by rw [z, o2] at e; cases e) (keep b o e)
    exact wpAny_pure (fin h' s.toks L es ep t (hS.keep (fun o e => ext S o hSi e) fun p hp => isT_keep (tups p (List.mem_of_mem_take (got.sub p hp))) keep') got keep')
  | k + 1, i, s, hk, hi, hit, hl, keep, ⟨L, es, ep, t, hS, got⟩, fin => by
    obtain ⟨p, hp⟩ : ∃ p, ks[i]? = some p := ⟨_, List.getElem?_eq_getElem (by omega)⟩
    refine codeAny_builtin F.entry_set_update_loop ?_
    rw [Around.under_plainId F.plain_set_update_loop _]
    show wpAny _ A.in1 (pyNext (.ref it) >>= _) _ _ s
    refine wpAny_bind (wpAny_pyNext_list_item hit hl (refs i p hp) fun h1 hit1 sb1 => ?_)
    have keep1 : ∀ b o, old.get? b = some o → h1.get? b = some o := fun b o e => (sb1.2 b fun z => by rw [z, o2] at e; cases e).trans (keep b o e)
    have inKs : ∀ q ∈ L, q ∈ ks := fun q hq => List.mem_of_mem_take (got.sub q hq)
    have hS1 : SetTR P w h1 S L es ep t := hS.keep (fun o e => (sb1.2 S hSi).trans e) fun q hq => isT_keep (tups q (inKs q hq)) keep1
    have hT : IsT P w h1 p.2 p.1 := isT_keep (tups p (List.mem_of_getElem? hp)) keep1
    show wpAny _ A.in1 (holding [Value.ref p.1] (setAdd S (.ref p.1)) >>= _) _ _ _
    refine wpAny_bind (wpAny_holding ?_)
    unfold setAdd
    refine wpAny_holding (wpAny_bind (wpAny_pyHash_tuple hu hT ?_))
    refine add_at (s := { s with heap := h1, toks := s.toks + (p.2.length + 1) }) hS1 hT hu (few L hS1.nd inKs) fun b h2 L2 es2 ep2 t2 sb2 hS2 yes no => ?_
    have got2 : Got ks (i + 1) L2 := by
      by_cases c : p.2 ∈ L.map (·.2)
      · rw [yes c]; exact got.same hp c
      · exact got.more hp (no c)
    have keep2 : ∀ b o, old.get? b = some o → h2.get? b = some o := fun b o e => (sb2.2 b fun z => by rw [z, o1] at e; cases e).trans (keep1 b o e)
    refine wpAny_pure ⟨plainId_quiet F.plain_set_update_loop _, setN_loop hh S l it hSl hSi hli items ks few refs size old tups o1 o2 hu k (i + 1) _ (by omega) (by omega)
      (hit1.at fun o e => (sb2.2 it (Ne.symm hSi)).trans e) ((hl.at fun o e => (sb1.2 l hli).trans e).at fun o e => (sb2.2 l (Ne.symm hSl)).trans e) keep2 ⟨L2, es2, ep2, t2, hS2, got2⟩ fun h' tk L' es' ep' t' z1 z2 z3 => ?_⟩
    exact fin h' tk L' es' ep' t' z1 z2 z3
set_option maxHeartbeats 8000000 in
theorem call_setN {l : Addr} {items : Array Value} (ks : List (Addr × List Int)) {Q : Value → Shared → Prop} (hh : A.handled = none) (hl : s.heap.IsList l items) (refs : items.toList = ks.map fun p => Value.ref p.1)
    (tups : ∀ p ∈ ks, IsT P w s.heap p.2 p.1) (few : FewUnlike ks) (hu : A.units + 3 < cLine)
    (k : ∀ (h' : Heap) (tk : Nat) L es ep t, SetTR P w h' s.heap.objs.size L es ep t → Got ks ks.length L → (∀ b o, s.heap.get? b = some o → h'.get? b = some o) → Q (.ref s.heap.objs.size) { s with heap := h', toks := tk }) :
    wpAny (model P w) A (call (.type "set") [.ref l]) Q E s := by
  have size : items.size = ks.length := by simpa using congrArg List.length refs
  have refs' : ∀ (i : Nat) (p : Addr × List Int), ks[i]? = some p → items[i]? = some (Value.ref p.1) := fun i p e => by
    rw [← Array.getElem?_toList, refs, List.getElem?_map, e]; rfl
  obtain ⟨c, tl, hm⟩ := F.called_set.mro
  have a1 := F.called_set.made
  have a2 := F.called_set.sub
  have a3 := F.called_set.notType
  have a4 := F.called_set.canCreate
  have a5 := F.typeCall_set_1 (.ref l)
  refine wpAny_call (codeAny_of_tree ?_)
  show wpAny _ _ (callAny (.type "set") _) _ _ _
  refine wpAny_pure ⟨Code.quiet_builtin _ (by decide +kernel), codeAny_builtin F.entry_type_call ?_⟩
  rw [Around.under_plain (weight_type_call_type "set" [.ref l] []) rfl]
  repeat (any_goals (first | assumption | wp_step))
  refine codeAny_mono (code_set_led1 (.ref l) (E := E) (Q₁ := fun obj s₁ => obj = .ref s.heap.objs.size ∧ s₁ = { s with heap := s.heap.push (noneYet w) }) ⟨rfl, rfl⟩) fun r s₁ hr => ?_
  match r, hr with
  | .error e, hr => exact hr
  | .ok .next, hr => exact hr.elim
  | .ok .brk, hr => exact hr.elim
  | .ok .cont, hr => exact hr.elim
  | .ok (.ret obj), hr =>
    obtain ⟨rfl, rfl⟩ := hr
    have hS : (s.heap.push (noneYet w)).get? s.heap.objs.size = some (noneYet w) := Heap.get?_push_size _ rfl
    have hT : Shared.TypeIs { s with heap := s.heap.push (noneYet w) } (.ref s.heap.objs.size) "set" := ⟨_, hS, rfl⟩
    have b1 := F.called_set.init.lookup
    have b2 := F.called_set.init.bind (.ref s.heap.objs.size)
    repeat (any_goals (first | assumption | wp_step))
    refine codeAny_mono (codeAny_call_builtin (R := wants (fun r s₂ => r = .none ∧ ∃ h' tk L es ep t, s₂ = { s with heap := h', toks := tk } ∧ SetTR P w h' s.heap.objs.size L es ep t ∧ Got ks ks.length L ∧
        (∀ b o, s.heap.get? b = some o → h'.get? b = some o)) E) F.called_set.init.plain F.entry_set_init (check_set_init_1 hT ?_)) fun r₂ s₂ hr₂ => ?_
    · obtain ⟨⟨oc, od, dt, os⟩, g1, g2, nl, g3⟩ := hl
      simp only at g2 g3
      subst g2 g3
      have g4 : (s.heap.push (noneYet w)).get? l = some { cls := .type "list", dict := od, data := .seq items nl, slots := os } := Heap.get?_push_of_some _ g1
      have c1 := F.sub_list_set
      have c2 := F.sub_list_frozenset
      have c3 : (Value.type "list" == Value.type "dict") = false := by decide
      have isl : (s.heap.push (noneYet w)).IsList l items := ⟨_, g4, rfl, nl, rfl⟩
      unfold Builtin.«set.__init__» noKeywords Builtin.Frozenset.updateFrom
      generalize hpi : pyIter = pI
      wp_walk
      subst hpi
      refine wpAny_pyIter_list isl (wpAny_bind (wpAny_runValue ?_))
      have lt : l < s.heap.objs.size := Heap.lt_size g1
      have z1 : (s.heap.push (noneYet w)).objs.size = s.heap.objs.size + 1 := Heap.size_push ..
      have none1 : ∀ b, s.heap.objs.size ≤ b → s.heap.get? b = none := fun b hb => by
        cases q : s.heap.get? b with
        | none => rfl
        | some o => exact absurd (Nat.lt_of_lt_of_le (Heap.lt_size q) hb) (Nat.lt_irrefl _)
      refine setN_loop (A := A.in1.in1) (by simp [hh]) s.heap.objs.size l (s.heap.push (noneYet w)).objs.size (Nat.ne_of_gt lt) (by rw [z1]; exact Nat.ne_of_lt (Nat.lt_succ_self _)) (by rw [z1]; exact Nat.ne_of_lt (Nat.lt_succ_of_lt lt)) items ks few refs' size s.heap tups (none1 _ (Nat.le_refl _)) (none1 _ (by rw [z1]; exact Nat.le_succ _)) hu (ks.length - 0) 0 _ rfl (Nat.zero_le _)
        ⟨_, Heap.get?_push_size _ rfl, rfl, rfl⟩ (isl.push _) (fun b o e => Heap.get?_push_of_some _ (Heap.get?_push_of_some _ e)) ⟨[], #[], 0, _, setTR_fresh (Heap.get?_push_of_some _ hS), Got.zero ks⟩ fun h' tk L es ep t q1 q2 q3 => ?_
      show wpAny _ _ _ _ _ _
      refine wpAny_pure ?_
      show wpAny _ _ (ret Value.none) _ _ _
      exact wpAny_pure ⟨rfl, h', tk, L, es, ep, t, rfl, q1, q2, q3⟩
    · match r₂, hr₂ with
      | .error e, hr₂ => exact hr₂
      | .ok .next, hr₂ => exact hr₂.elim
      | .ok .brk, hr₂ => exact hr₂.elim
      | .ok .cont, hr₂ => exact hr₂.elim
      | .ok (.ret r), hr₂ =>
        obtain ⟨rfl, h', tk, L, es, ep, t, rfl, q1, q2, q3⟩ := hr₂
        repeat (any_goals (first | assumption | wp_step))
        exact k _ _ _ _ _ _ q1 q2 q3
end
section
variable {X : Cx}
def rSetN (K : PySem.W.Frag) (P : Program) (w : World) : List V → Hp → VK → Prop := fun xs H Q => ∃ (l : Addr) (ks : List (Addr × List Int)), xs = [V.ref l] ∧ SqL K H l (ks.map fun p => V.ref p.1) ∧ (∀ p ∈ ks, SqT K H p.1 (p.2.map V.int)) ∧ FewUnlike ks ∧
  ∀ a L, H a = none → (∀ p ∈ L, p ∈ ks) → (∀ p ∈ ks, p.2 ∈ L.map (·.2)) → Q (.ref a) (upd H a (SetTO P w a L))
theorem cr_setN (hc : X.calm = true) (hu : X.A.units + 64 < cLine) : CallR X (.type "set") (rSetN X.K X.prog X.w) := by
  intro pins s σ H xs us Q I r h
  obtain ⟨l, ks, rfl, hl, hk, few, q⟩ := h
  rw [Vals.ref1 r]
  obtain ⟨its, rv, pl, hz⟩ := I.list hl
  refine call_setN ks (I.ok.hd hc) pl.isList (by simpa using refs_of_vals rv) (fun p hp => I.isT (hk p hp)) few (by omega) fun h' tk L es ep t R g kp => ?_
  refine ⟨.ref s.heap.objs.size, upd H s.heap.objs.size (SetTO X.prog X.w s.heap.objs.size L), I.laid (t' := tk) kp (Nat.le_refl _) (setTO_new R.t0), rfl, ?_⟩
  exact q _ L (I.hok.fresh (Nat.le_refl _)) (fun p hp => List.mem_of_mem_take (g.sub p hp)) fun p hp => g.all p (by rw [List.take_length]; exact hp)
end
end RV
set_option maxHeartbeats 4000000
namespace RV
open PySem PySem.Spec PyProof.Rows L2
/-! ### heaps -/
theorem same_upd {H : Hp} {p : Addr} {o : HO} (h : H p = none) : Same H (upd H p o) := fun b x e => by
  rw [upd_ne (ne_of_none e h)]
  exact e
theorem sqT_same {K : PySem.W.Frag} {H H' : Hp} {a : Addr} {xs : List V} (e : Same H H') (h : SqT K H a xs) : SqT K H' a xs := SqT.ext h e
theorem sqL_same {K : PySem.W.Frag} {H H' : Hp} {a : Addr} {xs : List V} (e : Same H H') (h : SqL K H a xs) : SqL K H' a xs := SqL.ext h e
theorem tyT {K : PySem.W.Frag} {H : Hp} {a : Addr} {xs : List V} (h : SqT K H a xs) : TyX K H (.ref a) (.type "tuple") := by
  rcases h with (h | ⟨o, h⟩) | ⟨o, its, n, h1, h2, _⟩
  · exact .base (.tup h)
  · exact .fTuple h
  · exact .kTuple h1 h2
theorem tupNew {K : PySem.W.Frag} {H : Hp} {a : Addr} {xs : List V} (h : H a = some (.tup xs)) : SqT K H a xs := .inl (.inl h)
theorem lstNew {K : PySem.W.Frag} {H : Hp} {a : Addr} {xs : List V} (h : H a = some (.lst xs)) : SqL K H a xs := .inl (.inl h)
theorem walk_enT {K : PySem.W.Frag} {a : Addr} {xs : List V} : Walk (IteT K a) xs.length (fun H => SqT K H a xs) (YPair (fun i => some (.int (i : Nat))) (fun i => xs[i]?)) := by
  refine ⟨fun i _ hi q => ⟨xs, xs[i], q, by simp [hi]⟩, fun _ q => ⟨xs, q, Nat.le_refl _⟩, fun i H v H' _ q y => ?_⟩
  obtain ⟨T, x, h1, h2, h3, h4⟩ := y
  exact ⟨T, .int (i : Nat), x, h1, h2, h3, rfl, h4 xs q⟩
theorem walk_zipT {K : PySem.W.Frag} {a b : Addr} {xs ys : List V} {n : Nat} (hn : n = min xs.length ys.length) : Walk (RZ.ItzT K a b) n (fun H => SqT K H a xs ∧ SqT K H b ys) (YPair (fun i => xs[i]?) (fun i => ys[i]?)) := by
  subst hn
  refine ⟨fun i _ hi q => ⟨xs, ys, xs[i]'(by omega), ys[i]'(by omega), q.1, q.2, List.getElem?_eq_getElem _, List.getElem?_eq_getElem _⟩, fun _ q => ⟨xs, ys, q.1, q.2, by omega⟩, fun i H v H' _ q y => ?_⟩
  obtain ⟨T, x, z, h1, h2, h3, h4, h5⟩ := y
  exact ⟨T, x, z, h1, h2, h3, h4 xs q.1, h5 ys q.2⟩
/-- a tuple of tuples of ints -/
def Tups (K : PySem.W.Frag) (H : Hp) (a : Addr) (ps : List (List Int)) : Prop := ∃ ks : List (Addr × List Int), ks.map (·.2) = ps ∧ SqT K H a (ks.map fun p => V.ref p.1) ∧ ∀ p ∈ ks, SqT K H p.1 (p.2.map V.int)
/-- a list of tuples of ints -/
def Lots (K : PySem.W.Frag) (H : Hp) (a : Addr) (ps : List (List Int)) : Prop := ∃ ks : List (Addr × List Int), ks.map (·.2) = ps ∧ SqL K H a (ks.map fun p => V.ref p.1) ∧ ∀ p ∈ ks, SqT K H p.1 (p.2.map V.int)
theorem Tups.same {K : PySem.W.Frag} {H H' : Hp} {a : Addr} {ps : List (List Int)} (h : Tups K H a ps) (e : Same H H') : Tups K H' a ps :=
  let ⟨ks, h1, h2, h3⟩ := h; ⟨ks, h1, sqT_same e h2, fun p hp => sqT_same e (h3 p hp)⟩
theorem Lots.same {K : PySem.W.Frag} {H H' : Hp} {a : Addr} {ps : List (List Int)} (h : Lots K H a ps) (e : Same H H') : Lots K H' a ps :=
  let ⟨ks, h1, h2, h3⟩ := h; ⟨ks, h1, sqL_same e h2, fun p hp => sqT_same e (h3 p hp)⟩
theorem dpInts {K : PySem.W.Frag} {H : Hp} : ∀ ns : List Int, DpAll K H (ns.map V.int) (ns.map PyData.int)
  | [] => .nil
  | n :: r => .cons (.int n) (dpInts r)
def dI (ns : List Int) : PyData := .tuple (ns.map PyData.int)
def dTT (ps : List (List Int)) : PyData := .tuple (ps.map dI)
theorem dpT {K : PySem.W.Frag} {H : Hp} {a : Addr} {ns : List Int} (h : SqT K H a (ns.map V.int)) : Dp K H (.ref a) (dI ns) := .tup h (dpInts ns)
theorem dpTs {K : PySem.W.Frag} {H : Hp} : ∀ ks : List (Addr × List Int), (∀ p ∈ ks, SqT K H p.1 (p.2.map V.int)) → DpAll K H (ks.map fun p => V.ref p.1) ((ks.map (·.2)).map dI)
  | [], _ => .nil
  | p :: r, h => .cons (dpT (h p (List.mem_cons_self ..))) (dpTs r fun q hq => h q (List.mem_cons_of_mem _ hq))
theorem Tups.dp {K : PySem.W.Frag} {H : Hp} {a : Addr} {ps : List (List Int)} (h : Tups K H a ps) : Dp K H (.ref a) (dTT ps) := by
  obtain ⟨ks, rfl, h2, h3⟩ := h
  exact .tup h2 (dpTs ks h3)
theorem map_at {α β : Type} {f : α → β} {l : List α} {i : Nat} {y : β} (h : (l.map f)[i]? = some y) : ∃ x, l[i]? = some x ∧ y = f x := by
  rw [List.getElem?_map] at h
  cases e : l[i]? with
  | none => rw [e] at h; cases h
  | some x => rw [e] at h; exact ⟨x, rfl, (Option.some.inj h).symm⟩
theorem all_true : ∀ n : Nat, (List.replicate n true).all id = true
  | 0 => rfl
  | n + 1 => by rw [List.replicate_succ, List.all_cons, all_true n]; rfl
theorem rep_bl (n : Nat) : List.replicate n (V.bl true) = (List.replicate n true).map V.bl := by rw [List.map_replicate]
theorem rep_next {α : Type} (n : Nat) (x : α) : List.replicate n x ++ [x] = List.replicate (n + 1) x := by rw [List.replicate_succ', ]
theorem tt_yes {σ : L2.St} {H : Hp} {A B : Hp → Prop} (h : A H) : tYes σ H (fun b H3 => if b = true then A H3 else B H3) := iteT (A := A H) (B := B H) h
theorem un65 {k : Nat} {A : Around} (r : Room k A) : A.units + 65 < cLine := by have := r.un; omega
theorem few1 {n : Nat} (h : n ≤ 1000) : n < sizeLine := small1000 h
/-! ### data of ints, tuples of these -/
theorem lay_ints : ∀ ns : List Int, PyData.canLayAll0 (ns.map PyData.int) = true
  | [] => by simp [PyData.canLayAll0]
  | n :: r => by simp [PyData.canLayAll0, PyData.canLay0, lay_ints r]
theorem dep_ints : ∀ ns : List Int, PyData.depthAll (ns.map PyData.int) = 0
  | [] => by simp [PyData.depthAll]
  | n :: r => by simp [PyData.depthAll, PyData.depth, dep_ints r]
theorem dI_lay (ns : List Int) : (dI ns).canLay0 = true := by simp only [dI, PyData.canLay0]; exact lay_ints ns
theorem dI_dep (ns : List Int) : (dI ns).depth = 1 := by simp only [dI, PyData.depth, dep_ints]
theorem lay_dI : ∀ ps : List (List Int), PyData.canLayAll0 (ps.map dI) = true
  | [] => by simp [PyData.canLayAll0]
  | n :: r => by simp [PyData.canLayAll0, dI_lay, lay_dI r]
theorem dep_dI : ∀ ps : List (List Int), PyData.depthAll (ps.map dI) ≤ 1
  | [] => by simp [PyData.depthAll]
  | n :: r => by
    have h := dep_dI r
    simp only [List.map_cons, PyData.depthAll, dI_dep]
    omega
theorem shapedI (ns : List Int) : SeqAt.shaped (dI ns) = true := by
  show ((dI ns).canLay0 && decide ((dI ns).depth ≤ 64)) = true
  rw [dI_lay, dI_dep]; rfl
theorem shapedTT (ps : List (List Int)) : SeqAt.shaped (dTT ps) = true := by
  have h := dep_dI ps
  have e : (dTT ps).depth ≤ 64 := by simp only [dTT, PyData.depth]; omega
  show ((dTT ps).canLay0 && decide ((dTT ps).depth ≤ 64)) = true
  rw [decide_eq_true e, Bool.and_true]
  simp only [dTT, PyData.canLay0]; exact lay_dI ps
theorem eqv_ints : ∀ ns ms : List Int, PyData.eqvAll (ns.map PyData.int) (ms.map PyData.int) = decide (ns = ms)
  | [], [] => by simp [PyData.eqvAll]
  | [], m :: r => by simp [PyData.eqvAll]
  | n :: r, [] => by simp [PyData.eqvAll]
  | n :: r, m :: q => by
    have h := eqv_ints r q
    simp only [List.map_cons, PyData.eqvAll, PyData.eqv, h]
    by_cases e : n = m
    · subst e; by_cases e2 : r = q <;> simp [e2]
    · simp [e]
theorem eqvI (ns ms : List Int) : PyData.eqv (dI ns) (dI ms) = decide (ns = ms) := by simp only [dI, PyData.eqv, eqv_ints]
theorem eqv_dIs : ∀ ns ms : List (List Int), PyData.eqvAll (ns.map dI) (ms.map dI) = decide (ns = ms)
  | [], [] => by simp [PyData.eqvAll]
  | [], m :: r => by simp [PyData.eqvAll]
  | n :: r, [] => by simp [PyData.eqvAll]
  | n :: r, m :: q => by
    have h := eqv_dIs r q
    simp only [List.map_cons, PyData.eqvAll, eqvI, h]
    by_cases e : n = m
    · subst e; by_cases e2 : r = q <;> simp [e2]
    · simp [e]
theorem eqvTT (ns ms : List (List Int)) : PyData.eqv (dTT ns) (dTT ms) = decide (ns = ms) := by simp only [dTT, PyData.eqv, eqv_dIs]
theorem any_dI (p : List Int) : ∀ ps : List (List Int), (ps.map dI).any (fun y => PyData.eqv y (dI p)) = decide (p ∈ ps)
  | [] => rfl
  | q :: r => by
    rw [List.map_cons, List.any_cons, any_dI p r, eqvI]
    by_cases e : q = p
    · subst e; simp
    · have e' : ¬ p = q := fun z => e z.symm
      by_cases e2 : p ∈ r <;> simp [e, e', e2]
section
variable {X : Cx}
/-- t in ts, of tuples of ints -/
def rInTs (K : PySem.W.Frag) : R2 := fun x y H Q => ∃ (a b : Addr) (p : List Int) (ps : List (List Int)), x = .ref a ∧ y = .ref b ∧ SqT K H a (p.map V.int) ∧ Tups K H b ps ∧ Q (.bl (decide (p ∈ ps))) H
theorem op_inTs (hu : X.A.units + 65 < cLine) : OpR X (compareOp .In) (rInTs X.K) := by
  intro pins s σ H x y v u Q I rx ry h
  obtain ⟨a, b, p, ps, rfl, rfl, h1, h2, q⟩ := h
  obtain ⟨as, r1⟩ := Dp.reads I (dI p) (.ref a) v (dpT h1) rx
  obtain ⟨bs, r2⟩ := Dp.reads I (dTT ps) (.ref b) u h2.dp ry
  refine SeqAt.in_tuple_reads (xs := ps.map dI) r2 r1 (lay_dI ps) (dI_lay p) ?_ ⟨.bl _, H, I, rfl, ?_⟩
  · have := Nat.min_le_right (PyData.depthAll (ps.map dI)) (dI p).depth
    have e := dI_dep p
    omega
  · rw [any_dI]; exact q
/-- two tuples of ints, two tuples of tuples of ints compared -/
def rEqI1 (K : PySem.W.Frag) : R2 := fun x y H Q => ∃ (a b : Addr) (p q : List Int), x = .ref a ∧ y = .ref b ∧ SqT K H a (p.map V.int) ∧ SqT K H b (q.map V.int) ∧ Q (.bl (decide (p = q))) H
def rEqTs (K : PySem.W.Frag) : R2 := fun x y H Q => ∃ (a b : Addr) (p q : List (List Int)), x = .ref a ∧ y = .ref b ∧ Tups K H a p ∧ Tups K H b q ∧ Q (.bl (decide (p = q))) H
theorem op_eqI1 (hu : X.A.units + 64 < cLine) : OpR X (compareOp .Eq) (rEqI1 X.K) := by
  intro pins s σ H x y v u Q I rx ry h
  obtain ⟨a, b, p, ps, rfl, rfl, h1, h2, q⟩ := h
  refine op_eqD hu pins s σ H _ _ v u Q I rx ry ⟨dI p, dI ps, dpT h1, dpT h2, shapedI p, shapedI ps, ?_⟩
  rw [eqvI]; exact q
theorem op_eqTs (hu : X.A.units + 64 < cLine) : OpR X (compareOp .Eq) (rEqTs X.K) := by
  intro pins s σ H x y v u Q I rx ry h
  obtain ⟨a, b, p, ps, rfl, rfl, h1, h2, q⟩ := h
  refine op_eqD hu pins s σ H _ _ v u Q I rx ry ⟨dTT p, dTT ps, h1.dp, h2.dp, shapedTT p, shapedTT ps, ?_⟩
  rw [eqvTT]; exact q
end
section
variable {X : Cx} {K : PySem.W.Frag}
/-! the rules whose reading names the written part, for a comprehension's block -/
theorem ix_tupK (h : X.K = K) : IxR X (rIxT K) := h ▸ ix_tup
theorem pg_tupK {es : List Expr} {k : Nat} {t : TGs} {n : Nat} {pos : Pos} (h : X.K = K) (hc : X.calm = true) (hg : PGs X es t)
    (hn : (assignEach es X.env).length = n := by rfl) (hst : (assignEach es X.env).findIdx? (·.1) = none := by rfl) : PG X (.Tuple es k pos) (gTup K n t) := h ▸ pg_tup hc hg hn hst
theorem op_inTsK (h : X.K = K) (hu : X.A.units + 65 < cLine) : OpR X (compareOp .In) (rInTs K) := h ▸ op_inTs hu
theorem op_ltTK (h : X.K = K) (hu : X.A.units < cLine) : OpR X (compareOp .Lt) (rLtT K) := h ▸ op_ltT hu
def rLenS (K : PySem.W.Frag) : List V → Hp → VK → Prop := fun xs H Q => ∃ p ys, xs = [.ref p] ∧ (SqL K H p ys ∨ SqT K H p ys) ∧ Q (.int ys.length) H
theorem call_lenK (h : X.K = K) : CallR X (.builtin "len") (rLenS K) := h ▸ call_len_seq
end
end RV
set_option maxHeartbeats 4000000
namespace K3
open PySem PySem.Spec PyProof.Rows L2 RV
/-! ### the text by places -/
def topS (i : Nat) : Stmt := PySem.Challenge.pw_ringvouch_k03_plain_and_one_way.main.body.getD i (.Pass ⟨0, 0, 0, 0⟩)
abbrev sWhole : Stmt := topS 5
abbrev sMark : Stmt := topS 6
abbrev sMarks : Stmt := topS 7
abbrev sInit : Stmt := inClass (topS 10) 0
abbrev sEq : Stmt := inClass (topS 10) 4
abbrev sMirrors : Stmt := topS 11
abbrev sSteps : Stmt := topS 12
abbrev sStep : Stmt := topS 13
abbrev sRising : Stmt := topS 14
abbrev sBehind : Stmt := topS 15
abbrev sPlain : Stmt := topS 16
abbrev sOneWay : Stmt := topS 17
abbrev sPail : Stmt := topS 19
abbrev sDraw : Stmt := topS 20
abbrev sPairs : Stmt := topS 21
abbrev sStepsOf : Stmt := topS 22
abbrev sLaw : Stmt := topS 23
/-- a def of the text as the top has left it -/
structure DefAt (K : PySem.W.Frag) (mg : Str → Option Value) (x : Str) (st : Stmt) (ps : List Str) (f : Addr) (fd : FuncData) : Prop where
  fn : Fun K x x st f fd
  bi : Binds K fd ps []
  mg : mg x = some (.ref f)
/-- the names that are the interpreter's own -/
structure Bare (mg : Str → Option Value) : Prop where
  len : mg "len" = none
  isinstance : mg "isinstance" = none
  int : mg "int" = none
  bool : mg "bool" = none
  tuple : mg "tuple" = none
  all : mg "all" = none
  enumerate : mg "enumerate" = none
  zip : mg "zip" = none
  range : mg "range" = none
  list : mg "list" = none
  set : mg "set" = none
  sorted : mg "sorted" = none
  abs : mg "abs" = none
  max : mg "max" = none
  min : mg "min" = none
  repr : mg "repr" = none
section
variable {P : Program} {w : World} {K : PySem.W.Frag} {mg : Str → Option Value} {base : Heap}
/-! ### is_whole -/
theorem scWhole : FnScope ["thing"] ["thing"] (defScope sWhole) := ⟨rfl, rfl, rfl, by decide +kernel, rfl, by decide +kernel, by decide +kernel⟩
def spWhole : Sp := fun vs H Q _ => ∃ i : Int, vs = [.int i] ∧ Q (.bl true) H
theorem ok_whole {f : Addr} {fd : FuncData} (F : Fun K "is_whole" "is_whole" sWhole f fd) (B : Bare mg) : FnOk P w K mg base CX0 1 f fd ["thing"] spWhole := by
  refine F.ok scWhole (fun vs H Q E h => ?_) (fun cdv A outer s H vs Q E hr h => ?_)
  · obtain ⟨i, rfl, _⟩ := h
    rfl
  · obtain ⟨i, rfl, q⟩ := h
    refine ⟨_, pss_one (ps_ret (pe_and (pe_callB call_isi (by rfl) B.isinstance (by decide +kernel) (pa_cons (pv 0) (pa_cons (pe_bltn (v := .ty "int") (by rfl) B.int boot_int rfl) pa_nil)))
      (pe_one (pe_not (pe_callB call_isi (by rfl) B.isinstance (by decide +kernel) (pa_cons (pv 0) (pa_cons (pe_bltn (v := .ty "bool") (by rfl) B.bool (by decide +kernel) rfl) pa_nil))))))), ?_⟩
    refine ⟨.int i, rfl, .int i, .ty "int", _, _, true, rfl, .ty "int", .base (.int i), kit_ty (by decide +kernel), true, rfl, iteT ?_⟩
    exact ⟨.int i, rfl, .int i, .ty "bool", _, _, false, rfl, .ty "bool", .base (.int i), kit_ty (by decide +kernel), false, rfl, q⟩
/-! ### is_below -/
theorem scMark : FnScope ["thing", "many"] ["thing", "many"] (defScope sMark) := ⟨rfl, rfl, rfl, by decide +kernel, rfl, by decide +kernel, by decide +kernel⟩
def spMark : Sp := fun vs H Q _ => ∃ i n : Int, vs = [.int i, .int n] ∧ 0 ≤ i ∧ i < n ∧ Q (.bl true) H
theorem ok_mark {f fW : Addr} {fd fdW : FuncData} (F : Fun K "is_below" "is_below" sMark f fd) (D : DefAt K mg "is_whole" sWhole ["thing"] fW fdW) (B : Bare mg) : FnOk P w K mg base CX0 2 f fd ["thing", "many"] spMark := by
  have GW : FnOk P w K mg base CX0 1 fW fdW ["thing"] spWhole := ok_whole D.fn B
  refine F.ok scMark (fun vs H Q E h => ?_) (fun cdv A outer s H vs Q E hr h => ?_)
  · obtain ⟨i, n, rfl, _⟩ := h
    rfl
  · obtain ⟨i, n, rfl, h1, h2, q⟩ := h
    refine ⟨_, pss_one (ps_ret (pe_and (pe_call GW hr (by rfl) D.mg D.fn.kp D.bi .nil pass0 (pa_cons (pv 0) pa_nil)) (pe_one (pe_chain op_le op_lt pe_int (pv 0) (pv 1))))), ?_⟩
    refine ⟨.int i, rfl, i, rfl, true, rfl, iteT ?_⟩
    refine ⟨.int i, rfl, 0, i, rfl, rfl, _, rfl, ?_⟩
    rw [decide_eq_true h1]
    refine iteT ⟨.int n, rfl, i, n, rfl, rfl, ?_⟩
    show Q (.bl (decide (i < n))) H
    rw [decide_eq_true h2]
    exact q
/-! ### are_marks -/
theorem scMarks : FnScope ["thing", "many", "mark"] ["thing", "many"] (defScope sMarks) := ⟨rfl, rfl, rfl, by decide +kernel, rfl, by decide +kernel, by decide +kernel⟩
def spMarks (K : PySem.W.Frag) : Sp := fun vs H Q _ => ∃ (a : Addr) (ns : List Int) (n : Int), vs = [.ref a, .int n] ∧ SqT K H a (ns.map V.int) ∧ 0 < ns.length ∧ ns.length ≤ 1000 ∧ (∀ i ∈ ns, 0 ≤ i ∧ i < n) ∧ ∀ H', Same H H' → Q (.bl true) H'
theorem ok_marks {f fM fW : Addr} {fd fdM fdW : FuncData} (F : Fun K "are_marks" "are_marks" sMarks f fd) (DM : DefAt K mg "is_below" sMark ["thing", "many"] fM fdM) (DW : DefAt K mg "is_whole" sWhole ["thing"] fW fdW) (B : Bare mg) :
    FnOk P w K mg base CX0 3 f fd ["thing", "many"] (spMarks K) := by
  have GM : FnOk P w K mg base CX0 2 fM fdM ["thing", "many"] spMark := ok_mark DM.fn DW B
  refine F.ok scMarks (fun vs H Q E h => ?_) (fun cdv A outer s H vs Q E hr h => ?_)
  · obtain ⟨a, ns, n, rfl, _⟩ := h
    rfl
  · obtain ⟨a, ns, n, rfl, hT, h0, hm, hin, q⟩ := h
    refine ⟨_, pss_one (ps_ret (pe_and (pe_callB call_isi (by rfl) B.isinstance (by decide +kernel) (pa_cons (pv 0) (pa_cons (pe_bltn (v := .ty "tuple") (by rfl) B.tuple (by decide +kernel) rfl) pa_nil)))
      (pe_and (pe_cmpR op_gt (pe_callB call_len_seq (by rfl) B.len PySem.boot_len (pa_cons (pv 0) pa_nil)) pe_int (nomark _))
      (pe_one (pe_callB (cr_all rfl) (by rfl) B.all (by decide +kernel) (pa_cons
        (pe_lc (own := [("mark", 2)]) (g := gName 2) (tt := tYes) rfl scMarks.nd (pi_tup (pv 0)) (blkOk_by (N := ["thing", "many", "mark"]) (sc := defScope sMarks) (by decide +kernel)) (fun _ _ _ _ _ => pg_name (i := 2) scMarks.nd rfl (Or.inl rfl)) (fun _ _ _ _ _ => pts_nil)
          (fun _ _ _ _ _ => pe_call GM hr (by rfl) DM.mg DM.fn.kp DM.bi .nil pass0 (pa_cons (pv 2) (pa_cons (pv 1) pa_nil)))) pa_nil)))))), ?_⟩
    refine ⟨.ref a, rfl, .ref a, .ty "tuple", _, _, true, rfl, .ty "tuple", tyT hT, kit_ty (by decide +kernel), true, rfl, iteT ?_⟩
    refine ⟨.ref a, rfl, a, _, rfl, .inr hT, _, _, rfl, rfl, decide (((ns.map V.int).length : Int) > 0), rfl, ?_⟩
    rw [decide_eq_true (show ((ns.map V.int).length : Int) > 0 by rw [List.length_map]; omega)]
    refine iteT ⟨.ref a, rfl, a, rfl, ⟨_, hT⟩, fun D nD => ?_⟩
    refine lc_tup (K := K) (a := a) (xs := ns.map V.int) (fun i H' => Same H H' ∧ H' D = some (.lst (List.replicate i (V.bl true)))) ⟨same_upd nD, upd_same⟩ (fun i H' _ p => sqT_same p.1 hT) (fun i x H' hx p => ?_) fun H' p => ?_
    · obtain ⟨m, hm', rfl⟩ := map_at hx
      have hi : i < ns.length := (List.getElem?_eq_some_iff.mp hm').1
      have hr' := hin m (List.mem_of_getElem? hm')
      refine ⟨rfl, tt_yes ⟨.int m, rfl, .int n, rfl, m, n, rfl, hr'.1, hr'.2, _, p.2, ?_, ?_, ?_⟩⟩
      · rw [List.length_replicate]; exact few1 (by omega)
      · exact fun b o e => by rw [upd_ne (ne_of_none e nD)]; exact p.1 b o e
      · rw [upd_same, rep_next]
    · rw [List.length_map, rep_bl] at p
      refine ⟨D, _, rfl, lstNew p.2, ?_⟩
      rw [all_true]
      exact q H' p.1
end
end K3
set_option maxHeartbeats 4000000
namespace K3
open PySem PySem.Spec PyProof.Rows L2 RV
/-- mirrors of one to eight marks -/
structure Mir (ns : List Int) : Prop where
  pos : 0 < ns.length
  few : ns.length ≤ 8
  inn : ∀ i ∈ ns, 0 ≤ i ∧ i < (ns.length : Int)
  back : ∀ (k : Nat) (m : Int), ns[k]? = some m → ns[m.toNat]? = some (k : Int)
/-- a rising tuple of steps, with their mirror steps -/
structure Stp (ns : List Int) (ps : List (List Int)) : Prop where
  few : ps.length ≤ 64
  pair : ∀ p ∈ ps, ∃ x y : Int, p = [x, y] ∧ (0 ≤ x ∧ x < (ns.length : Int)) ∧ (0 ≤ y ∧ y < (ns.length : Int))
  rise : ∀ (i : Nat) (p q : List Int), ps[i]? = some p → ps[i + 1]? = some q → HT.lexLt p q = true
  mirr : ∀ x y mx my : Int, [x, y] ∈ ps → ns[x.toNat]? = some mx → ns[y.toNat]? = some my → [my, mx] ∈ ps
section
variable {P : Program} {w : World} {K : PySem.W.Frag} {mg : Str → Option Value} {base : Heap}
/-! ### are_mirrors -/
theorem scMirrors : FnScope ["thing", "mark", "mirror"] ["thing"] (defScope sMirrors) := ⟨rfl, rfl, rfl, by decide +kernel, rfl, by decide +kernel, by decide +kernel⟩
def spMirrors (K : PySem.W.Frag) : Sp := fun vs H Q _ => ∃ (a : Addr) (ns : List Int), vs = [.ref a] ∧ SqT K H a (ns.map V.int) ∧ Mir ns ∧ ∀ H', Same H H' → Q (.bl true) H'
theorem ok_mirrors {f fA : Addr} {fd fdA : FuncData} {t : Tok} (F : Fun K "are_mirrors" "are_mirrors" sMirrors f fd) (DA : DefAt K mg "are_marks" sMarks ["thing", "many"] fA fdA) (GA : FnOk P w K mg base CX0 3 fA fdA ["thing", "many"] (spMarks K)) (B : Bare mg)
    (mM : mg "MOST_MARKS" = some (.int 8 t)) : FnOk P w K mg base CX0 4 f fd ["thing"] (spMirrors K) := by
  refine F.ok scMirrors (fun vs H Q E h => ?_) (fun cdv A outer s H vs Q E hr h => ?_)
  · obtain ⟨a, ns, rfl, _⟩ := h
    rfl
  · obtain ⟨a, ns, rfl, hT, hM, q⟩ := h
    refine ⟨_, pss_cons (ps_if (PW.pt (pw_or (pt_not (pt_val (pe_callB call_isi (by rfl) B.isinstance (by decide +kernel) (pa_cons (pv 0) (pa_cons (pe_bltn (v := .ty "tuple") (by rfl) B.tuple (by decide +kernel) rfl) pa_nil)))))
        (pw_or1 (pt_cmpR op_gt (pe_callB call_len_seq (by rfl) B.len PySem.boot_len (pa_cons (pv 0) pa_nil)) (pe_glob (v := .int 8) rfl mM ⟨_, rfl⟩) (nomark _))))) (pss_one (ps_ret pe_bl)) pss_nil)
      (pss_cons (ps_if (pt_not (pt_val (pe_call GA hr (by rfl) DA.mg DA.fn.kp DA.bi .nil pass0 (pa_cons (pv 0) (pa_cons (pe_callB call_len_seq (by rfl) B.len PySem.boot_len (pa_cons (pv 0) pa_nil)) pa_nil))))) (pss_one (ps_ret pe_bl)) pss_nil)
      (pss_one (ps_ret (pe_callB (cr_all rfl) (by rfl) B.all (by decide +kernel) (pa_cons
        (pe_lc (own := [("mark", 1), ("mirror", 2)]) (g := gTup K 2 (gCons (gName 1) (gCons (gName 2) gNil))) (tt := tYes) rfl scMirrors.nd (pi_enT (by rfl) B.enumerate (pa_cons (pv 0) pa_nil)) (blkOk_by (N := ["thing", "mark", "mirror"]) (sc := defScope sMirrors) (by decide +kernel))
          (fun _ _ _ _ _ => pg_tupK rfl rfl (pgs_cons (pg_name (i := 1) scMirrors.nd rfl (Or.inl rfl)) (pgs_cons (pg_name (i := 2) scMirrors.nd rfl (Or.inl rfl)) pgs_nil))) (fun _ _ _ _ _ => pts_nil)
          (fun _ _ _ _ _ => pe_cmpR op_eq (pe_ix (ix_tupK (K := K) rfl) (pv 0) (pv 2) (fun _ _ => rfl)) (pv 1) (nomark _))) pa_nil))))), ?_⟩
    refine ⟨.ref a, rfl, .ref a, .ty "tuple", _, _, true, rfl, .ty "tuple", tyT hT, kit_ty (by decide +kernel), true, rfl, iteF ?_⟩
    refine ⟨.ref a, rfl, a, _, rfl, .inr hT, _, _, rfl, rfl, decide (((ns.map V.int).length : Int) > 8), rfl, ?_⟩
    have h8 := hM.few
    rw [decide_eq_false (show ¬ ((ns.map V.int).length : Int) > 8 by rw [List.length_map]; omega)]
    refine iteF ?_
    refine ⟨.ref a, rfl, .ref a, rfl, a, _, rfl, .inr hT, a, ns, _, rfl, hT, hM.pos, by omega, fun i hi => ?_, fun H1 s1 => ⟨true, rfl, iteF ?_⟩⟩
    · rw [List.length_map]; exact hM.inn i hi
    · refine ⟨.ref a, rfl, a, _, rfl, sqT_same s1 hT, fun D nD => ?_⟩
      refine lc_it (walk_enT (K := K) (a := a) (xs := ns.map V.int)) (fun i H' => Same H1 H' ∧ H' D = some (.lst (List.replicate i (V.bl true)))) ⟨same_upd nD, upd_same⟩ (fun i H' _ p => sqT_same p.1 (sqT_same s1 hT)) (fun i x H2 H3 hi p y => ?_) fun H' p => ?_
      · obtain ⟨T, x1, x2, rfl, nT, rfl, e1, e2⟩ := y
        have e1' : x1 = .int (i : Nat) := (Option.some.inj e1).symm
        subst e1'
        obtain ⟨m, hm, rfl⟩ := map_at e2
        have hin := hM.inn m (List.mem_of_getElem? hm)
        have hil : i < ns.length := (List.getElem?_eq_some_iff.mp hm).1
        have hDT : D ≠ T := ne_of_none p.2 nT
        have sT : Same H2 (upd H2 T (.tup [.int (i : Nat), .int m])) := same_upd nT
        have hA : SqT K (upd H2 T (.tup [.int (i : Nat), .int m])) a (ns.map V.int) := sqT_same sT (sqT_same p.1 (sqT_same s1 hT))
        have gm : (ns.map V.int)[m.toNat]? = some (.int (i : Nat)) := by
          rw [List.getElem?_map, hM.back i m hm]; rfl
        refine ⟨T, _, rfl, tupNew upd_same, rfl, _, _, rfl, _, _, rfl, rfl, rfl, tt_yes ⟨.ref a, rfl, .int m, rfl, a, _, m, .int (i : Nat), rfl, rfl, hA, ?_, .int (i : Nat), rfl, rfl, _, (sT _ _ p.2), ?_, ?_, ?_⟩⟩
        · have e : m = ((m.toNat : Nat) : Int) := by omega
          rw [e]; exact atI_nat gm
        · rw [List.length_replicate]; exact few1 (by omega)
        · exact fun b o e => by rw [upd_ne (ne_of_none e nD)]; exact sT b o (p.1 b o e)
        · rw [upd_same, decide_eq_true rfl, rep_next]
      · rw [List.length_map, rep_bl] at p
        refine ⟨D, _, rfl, lstNew p.2, ?_⟩
        rw [all_true]
        exact q H' (s1.trans p.1)
end
end K3
set_option maxHeartbeats 4000000
namespace K3
open PySem PySem.Spec PyProof.Rows L2 RV
section
variable {P : Program} {w : World} {K : PySem.W.Frag} {mg : Str → Option Value} {base : Heap}
/-! ### is_step -/
theorem scStep : FnScope ["thing", "many"] ["thing", "many"] (defScope sStep) := ⟨rfl, rfl, rfl, by decide +kernel, rfl, by decide +kernel, by decide +kernel⟩
def spStep (K : PySem.W.Frag) : Sp := fun vs H Q _ => ∃ (a : Addr) (x y n : Int), vs = [.ref a, .int n] ∧ SqT K H a ([x, y].map V.int) ∧ (0 ≤ x ∧ x < n) ∧ (0 ≤ y ∧ y < n) ∧ ∀ H', Same H H' → Q (.bl true) H'
theorem ok_step {f fA : Addr} {fd fdA : FuncData} (F : Fun K "is_step" "is_step" sStep f fd) (DA : DefAt K mg "are_marks" sMarks ["thing", "many"] fA fdA) (GA : FnOk P w K mg base CX0 3 fA fdA ["thing", "many"] (spMarks K)) (B : Bare mg) :
    FnOk P w K mg base CX0 4 f fd ["thing", "many"] (spStep K) := by
  refine F.ok scStep (fun vs H Q E h => ?_) (fun cdv A outer s H vs Q E hr h => ?_)
  · obtain ⟨a, x, y, n, rfl, _⟩ := h
    rfl
  · obtain ⟨a, x, y, n, rfl, hT, hx, hy, q⟩ := h
    refine ⟨_, pss_one (ps_ret (pe_and (pe_call GA hr (by rfl) DA.mg DA.fn.kp DA.bi .nil pass0 (pa_cons (pv 0) (pa_cons (pv 1) pa_nil))) (pe_one (pe_cmpR op_eq (pe_callB call_len_seq (by rfl) B.len PySem.boot_len (pa_cons (pv 0) pa_nil)) pe_int (nomark _))))), ?_⟩
    refine ⟨.ref a, rfl, .int n, rfl, a, [x, y], n, rfl, hT, by simp, by simp, fun i hi => ?_, fun H1 s1 => ⟨true, rfl, iteT ?_⟩⟩
    · simp only [List.mem_cons, List.mem_nil_iff, or_false, List.not_mem_nil] at hi
      rcases hi with rfl | rfl
      · exact hx
      · exact hy
    · refine ⟨.ref a, rfl, a, _, rfl, .inr (sqT_same s1 hT), rfl, ?_⟩
      exact q H1 s1
/-! ### is_rising -/
theorem scRising : FnScope ["pairs", "one", "other"] ["pairs"] (defScope sRising) := ⟨rfl, rfl, rfl, by decide +kernel, rfl, by decide +kernel, by decide +kernel⟩
def spRising (K : PySem.W.Frag) : Sp := fun vs H Q _ => ∃ (a : Addr) (ps : List (List Int)), vs = [.ref a] ∧ Tups K H a ps ∧ ps.length ≤ 1000 ∧ (∀ (i : Nat) (p q : List Int), ps[i]? = some p → ps[i + 1]? = some q → HT.lexLt p q = true) ∧ ∀ H', Same H H' → Q (.bl true) H'
theorem cut1 (xs : List V) : cutV xs (some 1) none = xs.drop 1 := by
  unfold cutV
  rw [show HT.sIx xs.length 0 (some 1) = min 1 xs.length from HT.sIx_nat xs.length 0 1, HT.sIx_none]
  cases xs with
  | nil => rfl
  | cons x r =>
    rw [show min 1 (x :: r).length = 1 by rw [List.length_cons]; omega]
    show (List.take ((x :: r).length - 1) r) = r
    rw [List.length_cons, Nat.add_sub_cancel]
    exact List.take_length
theorem ok_rising {f : Addr} {fd : FuncData} (F : Fun K "is_rising" "is_rising" sRising f fd) (B : Bare mg) : FnOk P w K mg base CX0 1 f fd ["pairs"] (spRising K) := by
  refine F.ok scRising (fun vs H Q E h => ?_) (fun cdv A outer s H vs Q E hr h => ?_)
  · obtain ⟨a, ps, rfl, _⟩ := h
    rfl
  · obtain ⟨a, ps, rfl, hTT, hl, hrise, q⟩ := h
    obtain ⟨ks, rfl, hT, hks⟩ := hTT
    refine ⟨_, pss_one (ps_ret (pe_callB (cr_all rfl) (by rfl) B.all (by decide +kernel) (pa_cons
        (pe_lc (own := [("one", 1), ("other", 2)]) (g := gTup K 2 (gCons (gName 1) (gCons (gName 2) gNil))) (tt := tYes) rfl scRising.nd (RZ.pi_zipA (by rfl) B.zip (pa_cons (pv 0) (pa_cons (pe_slice sl_tupA (pv 0) (po_some pe_int) po_none) pa_nil))) (blkOk_by (N := ["pairs", "one", "other"]) (sc := defScope sRising) (by decide +kernel))
          (fun _ _ _ _ _ => pg_tupK rfl rfl (pgs_cons (pg_name (i := 1) scRising.nd rfl (Or.inl rfl)) (pgs_cons (pg_name (i := 2) scRising.nd rfl (Or.inl rfl)) pgs_nil))) (fun _ _ _ _ _ => pts_nil)
          (fun _ _ _ _ _ => pe_cmpR (op_ltTK (K := K) rfl hr.units0) (pv 1) (pv 2) (nomark _))) pa_nil))), ?_⟩
    have go : ∀ (b : Addr) (H1 : Hp) (Qc : VK), Same H H1 → SqT K H1 b ((ks.map fun p => V.ref p.1).drop 1) → (∀ D H', Same H1 H' → H' D = some (.lst (List.replicate (ks.length - 1) (V.bl true))) → Qc (.ref D) H') →
        tLc (fun _ H2 R => R (RZ.ItzT K a b) H2) (gTup K 2 (gCons (gName 1) (gCons (gName 2) gNil))) tYes (tOp (rLtT K) (tVar 1) (tVar 2)) [1, 2] (start ["pairs", "one", "other"] [.ref a]) H1 Qc := by
      intro b H1 Qc s1 hb fin D nD
      refine lc_it (walk_zipT (K := K) (a := a) (b := b) (xs := ks.map fun p => V.ref p.1) (ys := (ks.map fun p => V.ref p.1).drop 1) (n := ks.length - 1) (by rw [List.length_drop, List.length_map]; omega))
        (fun i H' => Same H1 H' ∧ H' D = some (.lst (List.replicate i (V.bl true)))) ⟨same_upd nD, upd_same⟩ (fun i H' _ p => ⟨sqT_same p.1 (sqT_same s1 hT), sqT_same p.1 hb⟩) (fun i x H2 H3 hi p y => ?_) fun H' p => fin D H' p.1 p.2
      obtain ⟨T, x1, x2, rfl, nT, rfl, e1, e2⟩ := y
      have e3 : ((ks.map fun p => V.ref p.1).drop 1)[i]? = some x2 := e2
      rw [List.getElem?_drop] at e3
      obtain ⟨k1, g1, rfl⟩ := map_at e1
      obtain ⟨k2, g2, rfl⟩ := map_at e3
      have sT : Same H2 (upd H2 T (.tup [V.ref k1.1, V.ref k2.1])) := same_upd nT
      have sA : Same H (upd H2 T (.tup [V.ref k1.1, V.ref k2.1])) := (s1.trans p.1).trans sT
      have lt : HT.lexLt k1.2 k2.2 = true := by
        refine hrise i k1.2 k2.2 ?_ ?_
        · rw [List.getElem?_map, g1]; rfl
        · rw [Nat.add_comm, List.getElem?_map, g2]; rfl
      refine ⟨T, _, rfl, tupNew upd_same, rfl, _, _, rfl, _, _, rfl, rfl, rfl, tt_yes ⟨.ref k1.1, rfl, .ref k2.1, rfl, k1.1, k2.1, k1.2, k2.2, rfl, rfl, sqT_same sA (hks k1 (List.mem_of_getElem? g1)), sqT_same sA (hks k2 (List.mem_of_getElem? g2)), _, sT _ _ p.2, ?_, ?_, ?_⟩⟩
      · rw [List.length_replicate]; rw [List.length_map] at hl; exact few1 (by omega)
      · exact fun b o e => by rw [upd_ne (ne_of_none e nD)]; exact sT b o (p.1 b o e)
      · rw [upd_same, lt, rep_next]
    have fin : ∀ (H1 : Hp), Same H H1 → ∀ D H', Same H1 H' → H' D = some (.lst (List.replicate (ks.length - 1) (V.bl true))) → ∃ (a : Addr) (bs : List Bool), [V.ref D] = [V.ref a] ∧ SqL K H' a (bs.map V.bl) ∧ Q (.bl (bs.all id)) H' := by
      intro H1 s1 D H' s2 e
      refine ⟨D, List.replicate (ks.length - 1) true, rfl, lstNew (by rw [e, rep_bl]), ?_⟩
      rw [all_true]
      exact q H' (s1.trans s2)
    refine ⟨.ref a, rfl, .ref a, rfl, 1, rfl, a, _, rfl, hT, fun hw => ?_, fun hw c nc => ?_⟩
    · have e0 : ks.map (fun p => V.ref p.1) = [] := by
        cases hk : ks.map (fun p => V.ref p.1) with
        | nil => rfl
        | cons x r =>
          rw [hk] at hw
          have h1 := hw.1
          rw [show HT.sIx (x :: r).length 0 (some 1) = min 1 (x :: r).length from HT.sIx_nat _ 0 1, List.length_cons] at h1
          omega
      refine ⟨a, a, _, _, rfl, .inr ⟨hT, hT, ?_⟩⟩
      refine go a H (fun v H2 => ∃ (a : Addr) (bs : List Bool), [v] = [V.ref a] ∧ SqL K H2 a (bs.map V.bl) ∧ Q (.bl (bs.all id)) H2) (Same.refl H) ?_ ?_
      · rw [e0]; rw [e0] at hT; exact hT
      · exact fin H (Same.refl H)
    · have s1 : Same H (upd H c (.tup (cutV (ks.map fun p => V.ref p.1) (some 1) none))) := same_upd nc
      refine ⟨a, c, _, _, rfl, .inr ⟨sqT_same s1 hT, tupNew upd_same, ?_⟩⟩
      refine go c _ (fun v H2 => ∃ (a : Addr) (bs : List Bool), [v] = [V.ref a] ∧ SqL K H2 a (bs.map V.bl) ∧ Q (.bl (bs.all id)) H2) s1 ?_ ?_
      · exact tupNew (by rw [upd_same, cut1])
      · exact fin _ s1
end
end K3
set_option maxHeartbeats 4000000
namespace K3
open PySem PySem.Spec PyProof.Rows L2 RV
/-- the marks behind m by the steps ps -/
def behindOf (ps : List (List Int)) (m : Int) : List Int := (ps.filter fun p => decide (p.getD 0 0 = m)).map fun p => p.getD 1 0
section
variable {P : Program} {w : World} {K : PySem.W.Frag} {mg : Str → Option Value} {base : Heap}
/-! ### marks_behind -/
theorem scBehind : FnScope ["steps", "mark", "a", "b"] ["steps", "mark"] (defScope sBehind) := ⟨rfl, rfl, rfl, by decide +kernel, rfl, by decide +kernel, by decide +kernel⟩
def spBehind (K : PySem.W.Frag) : Sp := fun vs H Q _ => ∃ (a : Addr) (ps : List (List Int)) (m : Int), vs = [.ref a, .int m] ∧ Tups K H a ps ∧ ps.length ≤ 1000 ∧ (∀ p ∈ ps, ∃ x y : Int, p = [x, y]) ∧
  ∀ H' t, Same H H' → H t = none → H' t = some (.tup ((behindOf ps m).map V.int)) → Q (.ref t) H'
theorem behind_next {ps : List (List Int)} {m : Int} {i : Nat} {x y : Int} (h : ps[i]? = some [x, y]) : behindOf (ps.take (i + 1)) m = behindOf (ps.take i) m ++ (if x = m then [y] else []) := by
  unfold behindOf
  rw [List.take_add_one, h]
  show List.map _ (List.filter _ (ps.take i ++ [[x, y]])) = _
  rw [List.filter_append, List.map_append]
  by_cases e : x = m
  · simp [e]
  · simp [e]
theorem behind_len (ps : List (List Int)) (m : Int) : (behindOf ps m).length ≤ ps.length := by
  unfold behindOf
  rw [List.length_map]
  exact List.length_filter_le _ _
theorem ok_behind {f : Addr} {fd : FuncData} (F : Fun K "marks_behind" "marks_behind" sBehind f fd) (B : Bare mg) : FnOk P w K mg base CX0 1 f fd ["steps", "mark"] (spBehind K) := by
  refine F.ok scBehind (fun vs H Q E h => ?_) (fun cdv A outer s H vs Q E hr h => ?_)
  · obtain ⟨a, ps, m, rfl, _⟩ := h
    rfl
  · obtain ⟨a, ps, m, rfl, hTT, hl, hp, q⟩ := h
    obtain ⟨ks, rfl, hT, hks⟩ := hTT
    refine ⟨_, pss_one (ps_ret (pe_tupleOf (by rfl) B.tuple
        (pe_lc (own := [("a", 2), ("b", 3)]) (g := gTup K 2 (gCons (gName 2) (gCons (gName 3) gNil))) rfl scBehind.nd (pi_tup (pv 0)) (blkOk_by (N := ["steps", "mark", "a", "b"]) (sc := defScope sBehind) (by decide +kernel))
          (fun _ _ _ _ _ => pg_tupK rfl rfl (pgs_cons (pg_name (i := 2) scBehind.nd rfl (Or.inl rfl)) (pgs_cons (pg_name (i := 3) scBehind.nd rfl (Or.inl rfl)) pgs_nil))) (fun _ _ _ _ _ => pts_one (pt_cmpR op_eq (pv 2) (pv 1) (nomark _)))
          (fun _ _ _ _ _ => pv 3)))), ?_⟩
    refine ⟨.ref a, rfl, a, rfl, ⟨_, hT⟩, fun D nD => ?_⟩
    refine lc_tup (K := K) (a := a) (xs := ks.map fun p => V.ref p.1) (fun i H' => Same H H' ∧ H' D = some (.lst ((behindOf ((ks.map (·.2)).take i) m).map V.int))) ⟨same_upd nD, by rw [upd_same]; rfl⟩ (fun i H' _ p => sqT_same p.1 hT) (fun i x H' hx p => ?_) fun H' p => ?_
    · obtain ⟨k, g, rfl⟩ := map_at hx
      have hk : k ∈ ks := List.mem_of_getElem? g
      obtain ⟨x, y, e⟩ := hp k.2 (List.mem_map_of_mem hk)
      have hkT : SqT K H' k.1 ([x, y].map V.int) := by rw [← e]; exact sqT_same p.1 (hks k hk)
      have gi : (ks.map (·.2))[i]? = some [x, y] := by rw [List.getElem?_map, g, ← e]; rfl
      refine ⟨k.1, _, rfl, hkT, rfl, _, _, rfl, _, _, rfl, rfl, rfl, .int x, rfl, .int m, rfl, rfl, _, rfl, ?_⟩
      have hle := behind_len ((ks.map (·.2)).take i) m
      rw [List.length_take] at hle
      by_cases e : x = m
      · subst e
        rw [decide_eq_true rfl]
        refine iteT ⟨.int y, rfl, _, p.2, ?_, ?_, ?_⟩
        · rw [List.length_map]; exact few1 (by omega)
        · exact fun b o z => by rw [upd_ne (ne_of_none z nD)]; exact p.1 b o z
        · rw [upd_same, behind_next gi, if_pos rfl, List.map_append]; rfl
      · rw [decide_eq_false (fun z => e (V.int.inj z))]
        refine iteF ⟨p.1, ?_⟩
        rw [p.2, behind_next gi, if_neg e, List.append_nil]
    · rw [List.length_map] at p
      have e : (ks.map (·.2)).take ks.length = ks.map (·.2) := List.take_of_length_le (by rw [List.length_map]; exact Nat.le_refl _)
      rw [e] at p
      refine .inl ⟨D, _, rfl, lstNew p.2, fun t nt => ?_⟩
      exact q _ t (p.1.trans (same_upd nt)) (p.1.free nt) upd_same
/-! ### are_steps -/
theorem scSteps : FnScope ["mirrors", "thing", "pair", "a", "b"] ["mirrors", "thing"] (defScope sSteps) := ⟨rfl, rfl, rfl, by decide +kernel, rfl, by decide +kernel, by decide +kernel⟩
def spSteps (K : PySem.W.Frag) : Sp := fun vs H Q _ => ∃ (a b : Addr) (ns : List Int) (ps : List (List Int)), vs = [.ref a, .ref b] ∧ SqT K H a (ns.map V.int) ∧ Tups K H b ps ∧ Mir ns ∧ Stp ns ps ∧ ∀ H', Same H H' → Q (.bl true) H'
theorem ok_steps {f fS fR : Addr} {fd fdS fdR : FuncData} (F : Fun K "are_steps" "are_steps" sSteps f fd) (DS : DefAt K mg "is_step" sStep ["thing", "many"] fS fdS) (GS : FnOk P w K mg base CX0 4 fS fdS ["thing", "many"] (spStep K))
    (DR : DefAt K mg "is_rising" sRising ["pairs"] fR fdR) (B : Bare mg) : FnOk P w K mg base CX0 5 f fd ["mirrors", "thing"] (spSteps K) := by
  have GR : FnOk P w K mg base CX0 1 fR fdR ["pairs"] (spRising K) := ok_rising DR.fn B
  refine F.ok scSteps (fun vs H Q E h => ?_) (fun cdv A outer s H vs Q E hr h => ?_)
  · obtain ⟨a, b, ns, ps, rfl, _⟩ := h
    rfl
  · obtain ⟨a, b, ns, ps, rfl, hA, hTT, hM, hS, q⟩ := h
    have hTT0 := hTT
    obtain ⟨ks, rfl, hT, hks⟩ := hTT
    have h64 := hS.few
    rw [List.length_map] at h64
    refine ⟨_, pss_cons (ps_if (pt_not (pt_val (pe_callB call_isi (by rfl) B.isinstance (by decide +kernel) (pa_cons (pv 1) (pa_cons (pe_bltn (v := .ty "tuple") (by rfl) B.tuple (by decide +kernel) rfl) pa_nil))))) (pss_one (ps_ret pe_bl)) pss_nil)
      (pss_cons (ps_if (pt_not (pt_val (pe_callB (cr_all rfl) (by rfl) B.all (by decide +kernel) (pa_cons
        (pe_lc (own := [("pair", 2)]) (g := gName 2) (tt := tYes) rfl scSteps.nd (pi_tup (pv 1)) (blkOk_by (N := ["mirrors", "thing", "pair", "a", "b"]) (sc := defScope sSteps) (by decide +kernel)) (fun _ _ _ _ _ => pg_name (i := 2) scSteps.nd rfl (Or.inl rfl)) (fun _ _ _ _ _ => pts_nil)
          (fun _ _ _ _ _ => pe_call GS hr (by rfl) DS.mg DS.fn.kp DS.bi .nil pass0 (pa_cons (pv 2) (pa_cons (pe_callB (call_lenK (K := K) rfl) (by rfl) B.len PySem.boot_len (pa_cons (pv 0) pa_nil)) pa_nil)))) pa_nil)))) (pss_one (ps_ret pe_bl)) pss_nil)
      (pss_cons (ps_if (pt_not (pt_val (pe_call GR (hr.mono (by decide)) (by rfl) DR.mg DR.fn.kp DR.bi .nil pass0 (pa_cons (pv 1) pa_nil)))) (pss_one (ps_ret pe_bl)) pss_nil)
      (pss_one (ps_ret (pe_callB (cr_all rfl) (by rfl) B.all (by decide +kernel) (pa_cons
        (pe_lc (own := [("a", 3), ("b", 4)]) (g := gTup K 2 (gCons (gName 3) (gCons (gName 4) gNil))) (tt := tYes) rfl scSteps.nd (pi_tup (pv 1)) (blkOk_by (N := ["mirrors", "thing", "pair", "a", "b"]) (sc := defScope sSteps) (by decide +kernel))
          (fun _ _ _ _ _ => pg_tupK rfl rfl (pgs_cons (pg_name (i := 3) scSteps.nd rfl (Or.inl rfl)) (pgs_cons (pg_name (i := 4) scSteps.nd rfl (Or.inl rfl)) pgs_nil))) (fun _ _ _ _ _ => pts_nil)
          (fun _ _ _ _ _ => pe_cmpR (op_inTsK (K := K) rfl (un65 hr)) (pe_tup (pa_cons (pe_ix (ix_tupK (K := K) rfl) (pv 0) (pv 4) (fun _ _ => rfl)) (pa_cons (pe_ix (ix_tupK (K := K) rfl) (pv 0) (pv 3) (fun _ _ => rfl)) pa_nil))) (pv 1) (by rfl))) pa_nil)))))), ?_⟩
    -- isinstance(thing, tuple)
    refine ⟨.ref b, rfl, .ref b, .ty "tuple", _, _, true, rfl, .ty "tuple", tyT hT, kit_ty (by decide +kernel), true, rfl, iteF ?_⟩
    -- all of them are steps
    refine ⟨.ref b, rfl, b, rfl, ⟨_, hT⟩, fun D nD => ?_⟩
    refine lc_tup (K := K) (a := b) (xs := ks.map fun p => V.ref p.1) (fun i H' => Same H H' ∧ H' D = some (.lst (List.replicate i (V.bl true)))) ⟨same_upd nD, upd_same⟩ (fun i H' _ p => sqT_same p.1 hT) (fun i x H' hx p => ?_) fun H1 p => ?_
    · obtain ⟨k, g, rfl⟩ := map_at hx
      have hk : k ∈ ks := List.mem_of_getElem? g
      have hi : i < ks.length := (List.getElem?_eq_some_iff.mp g).1
      obtain ⟨x, y, e, hx1, hy1⟩ := hS.pair k.2 (List.mem_map_of_mem hk)
      have hkT : SqT K H' k.1 ([x, y].map V.int) := by rw [← e]; exact sqT_same p.1 (hks k hk)
      refine ⟨rfl, tt_yes ⟨.ref k.1, rfl, .ref a, rfl, a, _, rfl, .inr (sqT_same p.1 hA), k.1, x, y, _, rfl, hkT, ?_, ?_, fun H2 s2 => ⟨_, s2 _ _ p.2, ?_, ?_, ?_⟩⟩⟩
      · rw [List.length_map]; exact hx1
      · rw [List.length_map]; exact hy1
      · rw [List.length_replicate]; exact few1 (by omega)
      · exact fun c o z => by rw [upd_ne (ne_of_none z nD)]; exact s2 c o (p.1 c o z)
      · rw [upd_same, rep_next]
    · rw [rep_bl] at p
      refine ⟨D, _, rfl, lstNew p.2, ?_⟩
      rw [all_true]
      refine ⟨true, rfl, iteF ?_⟩
      -- they rise
      refine ⟨.ref b, rfl, b, _, rfl, hTT0.same p.1, by rw [List.length_map]; omega, hS.rise, fun H2 s2 => ⟨true, rfl, iteF ?_⟩⟩
      have s02 : Same H H2 := p.1.trans s2
      -- their mirror steps
      refine ⟨.ref b, rfl, b, rfl, ⟨_, sqT_same s02 hT⟩, fun D2 nD2 => ?_⟩
      refine lc_tup (K := K) (a := b) (xs := ks.map fun p => V.ref p.1) (fun i H' => Same H2 H' ∧ H' D2 = some (.lst (List.replicate i (V.bl true)))) ⟨same_upd nD2, upd_same⟩ (fun i H' _ p => sqT_same p.1 (sqT_same s02 hT)) (fun i x H' hx p => ?_) fun H3 p => ?_
      · obtain ⟨k, g, rfl⟩ := map_at hx
        have hk : k ∈ ks := List.mem_of_getElem? g
        have hi : i < ks.length := (List.getElem?_eq_some_iff.mp g).1
        obtain ⟨x, y, e, hx1, hy1⟩ := hS.pair k.2 (List.mem_map_of_mem hk)
        have s0' : Same H H' := s02.trans p.1
        have hkT : SqT K H' k.1 ([x, y].map V.int) := by rw [← e]; exact sqT_same s0' (hks k hk)
        obtain ⟨mx, gx⟩ : ∃ mx, ns[x.toNat]? = some mx := ⟨_, List.getElem?_eq_getElem (by omega)⟩
        obtain ⟨my, gy⟩ : ∃ my, ns[y.toNat]? = some my := ⟨_, List.getElem?_eq_getElem (by omega)⟩
        have hin : [my, mx] ∈ ks.map (·.2) := hS.mirr x y mx my (by rw [← e]; exact List.mem_map_of_mem hk) gx gy
        have ax : atI (ns.map V.int) x = some (.int mx) := by
          rw [show x = ((x.toNat : Nat) : Int) by omega]; exact atI_nat (by rw [List.getElem?_map, gx]; rfl)
        have ay : atI (ns.map V.int) y = some (.int my) := by
          rw [show y = ((y.toNat : Nat) : Int) by omega]; exact atI_nat (by rw [List.getElem?_map, gy]; rfl)
        refine ⟨k.1, _, rfl, hkT, rfl, _, _, rfl, _, _, rfl, rfl, rfl, tt_yes ⟨.ref a, rfl, .int y, rfl, a, _, y, _, rfl, rfl, sqT_same s0' hA, ay, .ref a, rfl, .int x, rfl, a, _, x, _, rfl, rfl, sqT_same s0' hA, ax, (by show 2 ≤ sizeLine; decide), fun T nT => ?_⟩⟩
        have sT : Same H' (upd H' T (.tup [.int my, .int mx])) := same_upd nT
        refine ⟨.ref b, rfl, T, b, [my, mx], _, rfl, rfl, tupNew upd_same, (hTT0.same s0').same sT, _, sT _ _ p.2, ?_, ?_, ?_⟩
        · rw [List.length_replicate]; exact few1 (by omega)
        · exact fun c o z => by rw [upd_ne (ne_of_none z nD2)]; exact sT c o (p.1 c o z)
        · rw [upd_same, decide_eq_true hin, rep_next]
      · rw [rep_bl] at p
        refine ⟨D2, _, rfl, lstNew p.2, ?_⟩
        rw [all_true]
        exact q H3 (s02.trans p.1)
end
end K3
set_option maxHeartbeats 4000000
namespace K3
open PySem PySem.Spec PyProof.Rows L2 RV
/-! ### a Rule's fields -/
theorem n1 : ¬ (("mirrors" : Str) = "steps") := by decide +kernel
theorem n2 : ¬ (("mirrors" : Str) = "followers") := by decide +kernel
theorem n3 : ¬ (("steps" : Str) = "followers") := by decide +kernel
def flds (a b t : Addr) : List (Str × V) := putF "followers" (.ref t) (putF "steps" (.ref b) (putF "mirrors" (.ref a) []))
theorem flds_m (a b t : Addr) : (flds a b t).lookup ("mirrors" : Str) = some (.ref a) := by
  unfold flds
  rw [lookup_putF, if_neg n2, lookup_putF, if_neg n1, lookup_putF, if_pos rfl]
theorem flds_s (a b t : Addr) : (flds a b t).lookup ("steps" : Str) = some (.ref b) := by
  unfold flds
  rw [lookup_putF, if_neg n3, lookup_putF, if_pos rfl]
/-- all that a mark is followed by, mark by mark -/
def follow (n : Nat) (ps : List (List Int)) : List (List Int) := (List.range n).map fun (i : Nat) => behindOf ps (i : Int)
/-- a Rule stands at p -/
structure RuleAt (K : PySem.W.Frag) (C : Addr) (H : Hp) (p : Addr) (ns : List Int) (ps : List (List Int)) : Prop where
  ex : ∃ dx a b t, H p = some (.ins C dx (flds a b t)) ∧ SqT K H a (ns.map V.int) ∧ Tups K H b ps ∧ Tups K H t (follow ns.length ps)
theorem RuleAt.same {K : PySem.W.Frag} {C : Addr} {H H' : Hp} {p : Addr} {ns : List Int} {ps : List (List Int)} (r : RuleAt K C H p ns ps) (s : Same H H') : RuleAt K C H' p ns ps := by
  obtain ⟨dx, a, b, t, h1, h2, h3, h4⟩ := r.ex
  exact ⟨dx, a, b, t, s _ _ h1, sqT_same s h2, h3.same s, h4.same s⟩
/-- what the class is, behind the top -/
structure Txt (K : PySem.W.Frag) (mg : Str → Option Value) (C : Addr) : Prop where
  cl : Cls K C
  nM : NoAttr K C "mirrors"
  nS : NoAttr K C "steps"
  nF : NoAttr K C "followers"
  mgC : mg "Rule" = some (.ref C)
  c1 : PySem.W.findIn K (.ref C) "__class__" = some (some (.builtin "object.__class__"))
  c2 : PySem.W.specialIn K (.builtin "object.__class__") "__get__" = some (some (.builtin "getset_descriptor.__get__"))
  c3 : PySem.W.takesIn K (.builtin "object.__class__") = some true
  c4 : PySem.W.mroIn K C (.type "object") = some true
  c5 : PySem.W.kitOne K (.ref C) (.ref C) = some true
section
variable {P : Program} {w : World} {K : PySem.W.Frag} {mg : Str → Option Value} {base : Heap}
/-! ### __init__ -/
theorem scInit : FnScope ["self", "mirrors", "steps", "mark"] ["self", "mirrors", "steps"] (defScope sInit) := ⟨rfl, rfl, rfl, by decide +kernel, rfl, by decide +kernel, by decide +kernel⟩
def spInit (K : PySem.W.Frag) (C : Addr) : Sp := fun vs H Q _ => ∃ (p dx a b : Addr) (ns : List Int) (ps : List (List Int)), vs = [.ref p, .ref a, .ref b] ∧ H p = some (.ins C dx []) ∧ SqT K H a (ns.map V.int) ∧ Tups K H b ps ∧ Mir ns ∧ Stp ns ps ∧
  ∀ H' t, (∀ c o, H c = some o → c ≠ p → H' c = some o) → H' p = some (.ins C dx (flds a b t)) → Tups K H' t (follow ns.length ps) → Q .non H'
theorem sqT_but {H H' : Hp} {p C dx : Addr} {fs : List (Str × V)} (hp : H p = some (.ins C dx fs)) (k : ∀ c o, H c = some o → c ≠ p → H' c = some o) {a : Addr} {xs : List V} (h : SqT K H a xs) : SqT K H' a xs := by
  rcases h with (h | ⟨o, h⟩) | h
  · exact .inl (.inl (k _ _ h fun z => by rw [z, hp] at h; cases h))
  · exact .inl (.inr ⟨o, k _ _ h fun z => by rw [z, hp] at h; cases h⟩)
  · exact .inr h
theorem tups_but {H H' : Hp} {p C dx : Addr} {fs : List (Str × V)} (hp : H p = some (.ins C dx fs)) (k : ∀ c o, H c = some o → c ≠ p → H' c = some o) {a : Addr} {ps : List (List Int)} (h : Tups K H a ps) : Tups K H' a ps := by
  obtain ⟨ks, h1, h2, h3⟩ := h
  exact ⟨ks, h1, sqT_but hp k h2, fun q hq => sqT_but hp k (h3 q hq)⟩
theorem follow_next (i : Nat) (ps : List (List Int)) : follow (i + 1) ps = follow i ps ++ [behindOf ps (i : Int)] := by
  unfold follow
  rw [List.range_succ, List.map_append]; rfl
theorem ok_init {f fM fS fB C : Addr} {fd fdM fdS fdB : FuncData} (F : Fun K "__init__" "Rule.__init__" sInit f fd) (T : Txt K mg C)
    (DM : DefAt K mg "are_mirrors" sMirrors ["thing"] fM fdM) (GM : FnOk P w K mg base CX0 4 fM fdM ["thing"] (spMirrors K)) (DS : DefAt K mg "are_steps" sSteps ["mirrors", "thing"] fS fdS) (GS : FnOk P w K mg base CX0 5 fS fdS ["mirrors", "thing"] (spSteps K))
    (DB : DefAt K mg "marks_behind" sBehind ["steps", "mark"] fB fdB) (B : Bare mg) : FnOk P w K mg base CX0 6 f fd ["self", "mirrors", "steps"] (spInit K C) := by
  have GB : FnOk P w K mg base CX0 1 fB fdB ["steps", "mark"] (spBehind K) := ok_behind DB.fn B
  refine F.ok scInit (fun vs H Q E h => ?_) (fun cdv A outer s H vs Q E hr h => ?_)
  · obtain ⟨p, dx, a, b, ns, ps, rfl, _⟩ := h
    rfl
  · obtain ⟨p, dx, a, b, ns, ps, rfl, hp, hA, hB, hM, hS, q⟩ := h
    refine ⟨_, pss_cons (ps_if (pt_not (pt_val (pe_call GM (hr.mono (by decide)) (by rfl) DM.mg DM.fn.kp DM.bi .nil pass0 (pa_cons (pv 1) pa_nil)))) (pss_one ps_never) pss_nil)
      (pss_cons (ps_if (pt_not (pt_val (pe_call GS hr (by rfl) DS.mg DS.fn.kp DS.bi .nil pass0 (pa_cons (pv 1) (pa_cons (pv 2) pa_nil))))) (pss_one ps_never) pss_nil)
      (pss_cons (ps_fld (pv 0) (pv 1) rfl)
      (pss_cons (ps_fld (pv 0) (pv 2) rfl)
      (pss_one (ps_fld (pv 0) (pe_tupleOf (by rfl) B.tuple
        (pe_lc (own := [("mark", 3)]) (g := gName 3) (tt := tYes) rfl scInit.nd (pi_range1 (by rfl) B.range (pa_cons (pe_callB call_len_seq (by rfl) B.len PySem.boot_len (pa_cons (pv 1) pa_nil)) pa_nil)) (blkOk_by (N := ["self", "mirrors", "steps", "mark"]) (sc := defScope sInit) (by decide +kernel))
          (fun _ _ _ _ _ => pg_name (i := 3) scInit.nd rfl (Or.inl rfl)) (fun _ _ _ _ _ => pts_nil)
          (fun _ _ _ _ _ => pe_call GB (hr.mono (by decide)) (by rfl) DB.mg DB.fn.kp DB.bi .nil pass0 (pa_cons (pv 2) (pa_cons (pv 3) pa_nil))))) rfl))))), ?_⟩
    refine ⟨.ref a, rfl, a, ns, rfl, hA, hM, fun H1 s1 => ⟨true, rfl, iteF ?_⟩⟩
    refine ⟨.ref a, rfl, .ref b, rfl, a, b, ns, ps, rfl, sqT_same s1 hA, hB.same s1, hM, hS, fun H2 s2 => ⟨true, rfl, iteF ?_⟩⟩
    have s02 : Same H H2 := s1.trans s2
    have hp2 := s02 _ _ hp
    refine ⟨.ref a, rfl, .ref p, rfl, p, C, dx, [], rfl, hp2, T.cl, T.nM, (by show 0 < 1000; decide), ?_⟩
    refine ⟨.ref b, rfl, .ref p, rfl, p, C, dx, _, rfl, upd_same, T.cl, T.nS, (by show 1 < 1000; decide), ?_⟩
    -- the heap behind both stores
    have k4 : ∀ c o, H2 c = some o → c ≠ p → (upd (upd H2 p (.ins C dx (putF "mirrors" (.ref a) []))) p (.ins C dx (putF "steps" (.ref b) (putF "mirrors" (.ref a) [])))) c = some o := fun c o e z => by
      rw [upd_ne z, upd_ne z]; exact e
    generalize e4 : upd (upd H2 p (.ins C dx (putF "mirrors" (.ref a) []))) p (.ins C dx (putF "steps" (.ref b) (putF "mirrors" (.ref a) []))) = H4 at k4 ⊢
    have hp4 : H4 p = some (.ins C dx (putF "steps" (.ref b) (putF "mirrors" (.ref a) []))) := by rw [← e4, upd_same]
    have hA4 : SqT K H4 a (ns.map V.int) := sqT_but hp2 k4 (sqT_same s02 hA)
    have hB4 : Tups K H4 b ps := tups_but hp2 k4 (hB.same s02)
    have h8 := hM.few
    refine ⟨.ref a, rfl, a, _, rfl, .inr hA4, _, rfl, ?_, ?_, fun D nD => ?_⟩
    · rw [List.length_map]; omega
    · rw [List.length_map]; omega
    rw [List.length_map, Int.toNat_natCast]
    refine lc_range (lo := 0) (n := ns.length) (fun i H' => Same H4 H' ∧ ∃ ks : List (Addr × List Int), ks.map (·.2) = follow i ps ∧ H' D = some (.lst (ks.map fun p => V.ref p.1)) ∧ ∀ q ∈ ks, SqT K H' q.1 (q.2.map V.int)) ⟨same_upd nD, [], rfl, upd_same, fun _ z => nomatch z⟩ (fun i H' hi z => ?_) fun H' z => ?_
    · obtain ⟨s5, ks, e1, e2, e3⟩ := z
      have hkl : ks.length = i := by
        have := congrArg List.length e1
        rw [List.length_map] at this
        rw [this]; unfold follow; rw [List.length_map, List.length_range]
      refine ⟨rfl, tt_yes ⟨.ref b, rfl, .int (0 + (i : Nat)), rfl, b, ps, _, rfl, hB4.same s5, by have := hS.few; omega, fun q hq => ?_, fun H6 t s6 nt et => ⟨_, s6 _ _ e2, ?_, ?_, ?_⟩⟩⟩
      · obtain ⟨x, y, e, _⟩ := hS.pair q hq
        exact ⟨x, y, e⟩
      · rw [List.length_map]; exact few1 (by omega)
      · exact fun c o e => by rw [upd_ne (ne_of_none e nD)]; exact s6 c o (s5 c o e)
      · have hk6 : ∀ c o, H6 c = some o → c ≠ D → (upd H6 D (.lst ((ks.map fun p => V.ref p.1) ++ [V.ref t]))) c = some o := fun c o e z => by rw [upd_ne z]; exact e
        have tk : ∀ {c : Addr} {xs : List V}, SqT K H6 c xs → SqT K (upd H6 D (.lst ((ks.map fun p => V.ref p.1) ++ [V.ref t]))) c xs := by
          intro c xs h
          have eD := s6 _ _ e2
          rcases h with (h | ⟨o, h⟩) | h
          · exact .inl (.inl (hk6 _ _ h fun z => by rw [z, eD] at h; cases h))
          · exact .inl (.inr ⟨o, hk6 _ _ h fun z => by rw [z, eD] at h; cases h⟩)
          · exact .inr h
        refine ⟨ks ++ [(t, behindOf ps (i : Int))], ?_, ?_, fun q hq => ?_⟩
        · rw [List.map_append, e1, follow_next]; rfl
        · rw [upd_same, List.map_append]; rfl
        · rcases List.mem_append.mp hq with z | z
          · exact tk (sqT_same s6 (e3 q z))
          · rw [List.mem_singleton.mp z]
            refine tk (tupNew ?_)
            rw [et, show (0 + ((i : Nat) : Int)) = (i : Int) by omega]
    · obtain ⟨s5, ks, e1, e2, e3⟩ := z
      refine .inl ⟨D, _, rfl, lstNew e2, fun t nt => ?_⟩
      have sT : Same H' (upd H' t (.tup (ks.map fun p => V.ref p.1))) := same_upd nt
      have hpT := sT _ _ (s5 _ _ hp4)
      refine ⟨.ref p, rfl, p, C, dx, _, rfl, hpT, T.cl, T.nF, (by
        show (putF "steps" (V.ref b) (putF "mirrors" (V.ref a) [])).length < 1000
        show (if ("mirrors" : Str) = "steps" then [(("mirrors" : Str), V.ref b)] else (("mirrors" : Str), V.ref a) :: putF "steps" (V.ref b) []).length < 1000
        rw [if_neg n1]; show 2 < 1000; decide), ?_⟩
      refine q _ t (fun c o e z => ?_) upd_same ?_
      · rw [upd_ne z]
        exact sT _ _ (s5 _ _ (k4 _ _ (s02 _ _ e) z))
      · have tt : Tups K (upd H' t (.tup (ks.map fun p => V.ref p.1))) t (follow ns.length ps) := ⟨ks, e1, tupNew upd_same, fun q hq => sqT_same sT (e3 q hq)⟩
        exact tups_but hpT (fun c o e z => by rw [upd_ne z]; exact e) tt
end
end K3
namespace RV
open PySem L2
/-! ### lists that rise -/
theorem sorted_eq {α : Type} {f : α → Int} : ∀ {l l' : List α}, l.Pairwise (fun a b => f a < f b) → l'.Pairwise (fun a b => f a < f b) → (∀ x, x ∈ l ↔ x ∈ l') → l = l'
  | [], [], _, _, _ => rfl
  | [], y :: r, _, _, h => nomatch (h y).mpr (List.mem_cons_self ..)
  | x :: r, [], _, _, h => nomatch (h x).mp (List.mem_cons_self ..)
  | x :: l, y :: l', h1, h2, h => by
    rw [List.pairwise_cons] at h1 h2
    have exy : x = y := by
      rcases List.mem_cons.mp ((h x).mp (List.mem_cons_self ..)) with e | e
      · exact e
      · rcases List.mem_cons.mp ((h y).mpr (List.mem_cons_self ..)) with e' | e'
        · exact e'.symm
        · have := h2.1 x e
          have := h1.1 y e'
          omega
    subst exy
    rw [sorted_eq h1.2 h2.2 fun z => ⟨fun hz => ?_, fun hz => ?_⟩]
    · rcases List.mem_cons.mp ((h z).mp (List.mem_cons_of_mem _ hz)) with e | e
      · have := h1.1 z hz
        rw [e] at this; omega
      · exact e
    · rcases List.mem_cons.mp ((h z).mpr (List.mem_cons_of_mem _ hz)) with e | e
      · have := h2.1 z hz
        rw [e] at this; omega
      · exact e
theorem nodup_le {α : Type} [DecidableEq α] : ∀ {l us : List α}, l.Nodup → (∀ x ∈ l, x ∈ us) → l.length ≤ us.length
  | [], _, _, _ => Nat.zero_le _
  | x :: l, us, h, hs => by
    rw [List.nodup_cons] at h
    have hx := hs x (List.mem_cons_self ..)
    have ih : l.length ≤ (us.erase x).length := nodup_le h.2 fun z hz => by
      refine (List.mem_erase_of_ne fun e => ?_).mpr (hs z (List.mem_cons_of_mem _ hz))
      subst e; exact h.1 hz
    have hl := List.length_erase_of_mem hx
    have hp : 0 < us.length := List.length_pos_of_mem hx
    rw [List.length_cons]; omega
/-! ### pairs -/
/-- a pair of marks below b -/
def Pr (b : Int) (p : List Int) : Prop := ∃ x y : Int, p = [x, y] ∧ (0 ≤ x ∧ x < b) ∧ (0 ≤ y ∧ y < b)
abbrev cd (p : List Int) : Int := TS.code 64 p
theorem cd_pair (x y : Int) : cd [x, y] = x * 64 + y := code_pair x y
theorem lt_lex {p q : List Int} (hp : Pr 64 p) (hq : Pr 64 q) (h : cd p < cd q) : HT.lexLt p q = true := by
  obtain ⟨x, y, rfl, hx, hy⟩ := hp
  obtain ⟨x', y', rfl, hx', hy'⟩ := hq
  rw [cd_pair, cd_pair] at h
  rw [HT.lexLt_cons, HT.lexLt_cons, HT.lexLt_nil_nil]
  by_cases e : x = x'
  · rw [if_pos e]
    have : y < y' := by omega
    rw [if_neg (by omega)]; exact decide_eq_true this
  · rw [if_neg e]; exact decide_eq_true (by omega)
theorem lt_of {p q : List Int} (hp : Pr 64 p) (hq : Pr 64 q) (h : cd p ≤ cd q) (ne : p ≠ q) : cd p < cd q := by
  obtain ⟨x, y, rfl, hx, hy⟩ := hp
  obtain ⟨x', y', rfl, hx', hy'⟩ := hq
  have z := pair_lt h ne hx hy hx' hy'
  rw [cd_pair, cd_pair]
  omega
theorem Pr.mono {b c : Int} {p : List Int} (h : Pr b p) (hbc : b ≤ c) : Pr c p := by
  obtain ⟨x, y, e, hx, hy⟩ := h
  exact ⟨x, y, e, by omega, by omega⟩
theorem sorted_lt {l : List (List Int)} (hb : ∀ p ∈ l, Pr 64 p) (nd : l.Nodup) (h : l.Pairwise fun p q => cd p ≤ cd q) : l.Pairwise fun p q => cd p < cd q := by
  have h2 := List.Pairwise.and h nd
  exact List.Pairwise.imp_of_mem (fun {p q} hp hq z => lt_of (hb p hp) (hb q hq) z.1 z.2) h2
theorem adj_rise {l : List (List Int)} (hb : ∀ p ∈ l, Pr 64 p) (h : l.Pairwise fun p q => cd p < cd q) (i : Nat) (p q : List Int) (h1 : l[i]? = some p) (h2 : l[i + 1]? = some q) : HT.lexLt p q = true := by
  obtain ⟨l1, e1⟩ := List.getElem?_eq_some_iff.mp h1
  obtain ⟨l2, e2⟩ := List.getElem?_eq_some_iff.mp h2
  have := List.pairwise_iff_getElem.mp h i (i + 1) l1 l2 (Nat.lt_succ_self _)
  rw [e1, e2] at this
  exact lt_lex (hb p (List.mem_of_getElem? h1)) (hb q (List.mem_of_getElem? h2)) this
/-! ### all pairs, row by row -/
def rowOf (d : Int) (Pd : Int → Int → Bool) (i n : Nat) : List (List Int) := ((List.range n).filter fun (j : Nat) => Pd (i : Int) (j : Int)).map fun (j : Nat) => [d + (i : Int), d + (j : Int)]
def gridOf (d : Int) (Pd : Int → Int → Bool) (m n : Nat) : List (List Int) := (List.range n).flatMap fun (i : Nat) => rowOf d Pd i m
theorem row_next (d : Int) (Pd : Int → Int → Bool) (i n : Nat) : rowOf d Pd i (n + 1) = rowOf d Pd i n ++ (if Pd (i : Int) (n : Int) = true then [[d + (i : Int), d + (n : Int)]] else []) := by
  unfold rowOf
  rw [List.range_succ, List.filter_append, List.map_append]
  by_cases h : Pd (i : Int) (n : Int) = true <;> simp [h]
theorem grid_next (d : Int) (Pd : Int → Int → Bool) (m n : Nat) : gridOf d Pd m (n + 1) = gridOf d Pd m n ++ rowOf d Pd n m := by
  unfold gridOf
  rw [List.range_succ, List.flatMap_append]; simp
theorem row_len (d : Int) (Pd : Int → Int → Bool) (i n : Nat) : (rowOf d Pd i n).length ≤ n := by
  unfold rowOf
  rw [List.length_map]
  exact Nat.le_trans (List.length_filter_le _ _) (by rw [List.length_range]; exact Nat.le_refl _)
theorem grid_len (d : Int) (Pd : Int → Int → Bool) (m : Nat) : ∀ n, (gridOf d Pd m n).length ≤ n * m
  | 0 => by simp [gridOf]
  | n + 1 => by
    have h := grid_len d Pd m n
    have h2 := row_len d Pd n m
    rw [grid_next, List.length_append, Nat.succ_mul]; omega
theorem mem_row {d : Int} {Pd : Int → Int → Bool} {i n : Nat} {p : List Int} : p ∈ rowOf d Pd i n ↔ ∃ j : Nat, j < n ∧ Pd (i : Int) (j : Int) = true ∧ p = [d + (i : Int), d + (j : Int)] := by
  unfold rowOf
  rw [List.mem_map]
  constructor
  · rintro ⟨j, hj, e⟩
    rw [List.mem_filter, List.mem_range] at hj
    exact ⟨j, hj.1, hj.2, e.symm⟩
  · rintro ⟨j, h1, h2, e⟩
    exact ⟨j, List.mem_filter.mpr ⟨List.mem_range.mpr h1, h2⟩, e.symm⟩
theorem mem_grid {d : Int} {Pd : Int → Int → Bool} {m n : Nat} {p : List Int} : p ∈ gridOf d Pd m n ↔ ∃ i j : Nat, i < n ∧ j < m ∧ Pd (i : Int) (j : Int) = true ∧ p = [d + (i : Int), d + (j : Int)] := by
  unfold gridOf
  rw [List.mem_flatMap]
  constructor
  · rintro ⟨i, hi, hp⟩
    obtain ⟨j, h1, h2, h3⟩ := mem_row.mp hp
    exact ⟨i, j, List.mem_range.mp hi, h1, h2, h3⟩
  · rintro ⟨i, j, h1, h2, h3, h4⟩
    exact ⟨i, List.mem_range.mpr h1, mem_row.mpr ⟨j, h2, h3, h4⟩⟩
theorem grid_rise {d : Int} {Pd : Int → Int → Bool} {m n : Nat} (hd : 0 ≤ d) (hm : d + (m : Int) ≤ 64) : (gridOf d Pd m n).Pairwise fun p q => cd p < cd q := by
  unfold gridOf
  rw [List.pairwise_flatMap]
  refine ⟨fun i _ => ?_, ?_⟩
  · unfold rowOf
    rw [List.pairwise_map]
    refine List.Pairwise.imp (fun {a b} (h : a < b) => ?_) (List.Pairwise.filter _ List.pairwise_lt_range)
    rw [cd_pair, cd_pair]; omega
  · refine List.Pairwise.imp (fun {a b} (h : a < b) x hx y hy => ?_) List.pairwise_lt_range
    obtain ⟨j, h1, _, rfl⟩ := mem_row.mp hx
    obtain ⟨k, h2, _, rfl⟩ := mem_row.mp hy
    rw [cd_pair, cd_pair]; omega
theorem grid_pr {d : Int} {Pd : Int → Int → Bool} {m n : Nat} {b : Int} (hd : 0 ≤ d) (hm : d + (m : Int) ≤ b) (hn : d + (n : Int) ≤ b) : ∀ p ∈ gridOf d Pd m n, Pr b p := by
  intro p hp
  obtain ⟨i, j, h1, h2, _, rfl⟩ := mem_grid.mp hp
  exact ⟨_, _, rfl, by omega, by omega⟩
end RV
namespace K3
open PySem PySem.Spec PyProof.Rows L2 RV
def rgI (a b : Int) : List Int := (List.range (b - a).toNat).map fun (i : Nat) => a + (i : Int)
theorem rgV_rgI (a b : Int) : rgV a b = (rgI a b).map V.int := by
  unfold rgV rgI
  rw [List.map_map]; rfl
theorem rgI_len (a b : Int) : (rgI a b).length = (b - a).toNat := by unfold rgI; rw [List.length_map, List.length_range]
theorem rgI_get {a b : Int} {k : Nat} {m : Int} : (rgI a b)[k]? = some m ↔ k < (b - a).toNat ∧ m = a + (k : Int) := by
  unfold rgI
  rw [List.getElem?_map]
  by_cases h : k < (b - a).toNat
  · rw [List.getElem?_range h]
    simp [h, eq_comm]
  · rw [List.getElem?_eq_none (by rw [List.length_range]; omega)]
    simp [h]
def idM (m : Nat) : List Int := rgI 0 (m : Int)
def owM (m : Nat) : List Int := rgI (m : Int) (2 * (m : Int)) ++ rgI 0 (m : Int)
theorem idM_len (m : Nat) : (idM m).length = m := by unfold idM; rw [rgI_len]; omega
theorem owM_len (m : Nat) : (owM m).length = 2 * m := by unfold owM; rw [List.length_append, rgI_len, rgI_len]; omega
theorem idM_get {m k : Nat} {x : Int} : (idM m)[k]? = some x ↔ k < m ∧ x = (k : Int) := by
  unfold idM
  rw [rgI_get]
  constructor <;> rintro ⟨h1, h2⟩ <;> exact ⟨by omega, by omega⟩
theorem owM_get {m k : Nat} {x : Int} : (owM m)[k]? = some x ↔ (k < m ∧ x = (m : Int) + (k : Int)) ∨ (m ≤ k ∧ k < 2 * m ∧ x = (k : Int) - (m : Int)) := by
  unfold owM
  by_cases h : k < m
  · rw [List.getElem?_append_left (by rw [rgI_len]; omega), rgI_get]
    constructor
    · rintro ⟨h1, h2⟩; exact .inl ⟨h, h2⟩
    · rintro (⟨h1, h2⟩ | ⟨h1, _⟩)
      · exact ⟨by omega, h2⟩
      · omega
  · rw [List.getElem?_append_right (by rw [rgI_len]; omega), rgI_len, rgI_get]
    constructor
    · rintro ⟨h1, h2⟩; exact .inr ⟨by omega, by omega, by omega⟩
    · rintro (⟨h1, h2⟩ | ⟨h1, h2, h3⟩)
      · omega
      · exact ⟨by omega, by omega⟩
theorem mem_at {l : List Int} {x : Int} (h : x ∈ l) : ∃ k : Nat, l[k]? = some x := by
  obtain ⟨k, hk, e⟩ := List.getElem_of_mem h
  exact ⟨k, by rw [List.getElem?_eq_getElem hk, e]⟩
theorem mir_id {m : Nat} (h1 : 1 ≤ m) (h2 : m ≤ 8) : Mir (idM m) := by
  refine ⟨by rw [idM_len]; omega, by rw [idM_len]; omega, fun i hi => ?_, fun k x hk => ?_⟩
  · obtain ⟨k, hk⟩ := mem_at hi
    rw [idM_get] at hk
    rw [idM_len]; omega
  · rw [idM_get] at hk ⊢
    omega
theorem mir_ow {m : Nat} (h1 : 1 ≤ m) (h2 : m ≤ 4) : Mir (owM m) := by
  refine ⟨by rw [owM_len]; omega, by rw [owM_len]; omega, fun i hi => ?_, fun k x hk => ?_⟩
  · obtain ⟨k, hk⟩ := mem_at hi
    rw [owM_get] at hk
    rw [owM_len]; omega
  · rw [owM_get] at hk ⊢
    omega
/-! ### the steps -/
def pPlain (ps : List (List Int)) : Int → Int → Bool := fun i j => decide ([i, j] ∈ ps) || decide ([j, i] ∈ ps)
def pAhead (ps : List (List Int)) : Int → Int → Bool := fun i j => decide ([i, j] ∈ ps)
def pBack (ps : List (List Int)) : Int → Int → Bool := fun i j => decide ([j, i] ∈ ps)
def plainSteps (m : Nat) (ps : List (List Int)) : List (List Int) := gridOf 0 (pPlain ps) m m
def aheadSteps (m : Nat) (ps : List (List Int)) : List (List Int) := gridOf 0 (pAhead ps) m m
def backSteps (m : Nat) (ps : List (List Int)) : List (List Int) := gridOf (m : Int) (pBack ps) m m
theorem mem_plain {m : Nat} {ps : List (List Int)} {x y : Int} : [x, y] ∈ plainSteps m ps ↔ (0 ≤ x ∧ x < (m : Int)) ∧ (0 ≤ y ∧ y < (m : Int)) ∧ ([x, y] ∈ ps ∨ [y, x] ∈ ps) := by
  unfold plainSteps
  rw [mem_grid]
  constructor
  · rintro ⟨i, j, h1, h2, h3, h4⟩
    obtain ⟨e1, e2⟩ : x = 0 + (i : Int) ∧ y = 0 + (j : Int) := by simpa using h4
    rw [Int.zero_add] at e1 e2
    subst e1 e2
    refine ⟨by omega, by omega, ?_⟩
    simpa [pPlain] using h3
  · rintro ⟨hx, hy, h⟩
    have ex : x = ((x.toNat : Nat) : Int) := by omega
    have ey : y = ((y.toNat : Nat) : Int) := by omega
    refine ⟨x.toNat, y.toNat, by omega, by omega, ?_, by rw [Int.zero_add, Int.zero_add, ← ex, ← ey]⟩
    rw [← ex, ← ey]
    simpa [pPlain] using h
theorem mem_ahead {m : Nat} {ps : List (List Int)} {x y : Int} : [x, y] ∈ aheadSteps m ps ↔ (0 ≤ x ∧ x < (m : Int)) ∧ (0 ≤ y ∧ y < (m : Int)) ∧ [x, y] ∈ ps := by
  unfold aheadSteps
  rw [mem_grid]
  constructor
  · rintro ⟨i, j, h1, h2, h3, h4⟩
    obtain ⟨e1, e2⟩ : x = 0 + (i : Int) ∧ y = 0 + (j : Int) := by simpa using h4
    rw [Int.zero_add] at e1 e2
    subst e1 e2
    refine ⟨by omega, by omega, ?_⟩
    simpa [pAhead] using h3
  · rintro ⟨hx, hy, h⟩
    have ex : x = ((x.toNat : Nat) : Int) := by omega
    have ey : y = ((y.toNat : Nat) : Int) := by omega
    refine ⟨x.toNat, y.toNat, by omega, by omega, ?_, by rw [Int.zero_add, Int.zero_add, ← ex, ← ey]⟩
    rw [← ex, ← ey]
    simpa [pAhead] using h
theorem mem_back {m : Nat} {ps : List (List Int)} {x y : Int} : [x, y] ∈ backSteps m ps ↔ ((m : Int) ≤ x ∧ x < 2 * (m : Int)) ∧ ((m : Int) ≤ y ∧ y < 2 * (m : Int)) ∧ [y - (m : Int), x - (m : Int)] ∈ ps := by
  unfold backSteps
  rw [mem_grid]
  constructor
  · rintro ⟨i, j, h1, h2, h3, h4⟩
    obtain ⟨e1, e2⟩ : x = (m : Int) + (i : Int) ∧ y = (m : Int) + (j : Int) := by simpa using h4
    subst e1 e2
    refine ⟨by omega, by omega, ?_⟩
    rw [show (m : Int) + (j : Int) - (m : Int) = (j : Int) by omega, show (m : Int) + (i : Int) - (m : Int) = (i : Int) by omega]
    simpa [pBack] using h3
  · rintro ⟨hx, hy, h⟩
    have ex : x = (m : Int) + (((x - (m : Int)).toNat : Nat) : Int) := by omega
    have ey : y = (m : Int) + (((y - (m : Int)).toNat : Nat) : Int) := by omega
    refine ⟨(x - (m : Int)).toNat, (y - (m : Int)).toNat, by omega, by omega, ?_, by rw [← ex, ← ey]⟩
    rw [show (((x - (m : Int)).toNat : Nat) : Int) = x - (m : Int) by omega, show (((y - (m : Int)).toNat : Nat) : Int) = y - (m : Int) by omega]
    simpa [pBack] using h
theorem plain_pr {m : Nat} (h : m ≤ 8) {ps : List (List Int)} : ∀ p ∈ plainSteps m ps, Pr (m : Int) p := grid_pr (by omega) (by omega) (by omega)
theorem plain_rise {m : Nat} (h : m ≤ 8) {ps : List (List Int)} : (plainSteps m ps).Pairwise fun p q => cd p < cd q := grid_rise (by omega) (by omega)
theorem one_pr {m : Nat} (h : m ≤ 4) {ps : List (List Int)} : ∀ p ∈ aheadSteps m ps ++ backSteps m ps, Pr (2 * (m : Int)) p := by
  intro p hp
  rcases List.mem_append.mp hp with z | z
  · exact (grid_pr (b := (m : Int)) (by omega) (by omega) (by omega) p z).mono (by omega)
  · exact grid_pr (by omega) (by omega) (by omega) p z
theorem one_rise {m : Nat} (h : m ≤ 4) {ps : List (List Int)} : (aheadSteps m ps ++ backSteps m ps).Pairwise fun p q => cd p < cd q := by
  rw [List.pairwise_append]
  refine ⟨grid_rise (by omega) (by omega), grid_rise (by omega) (by omega), fun p hp q hq => ?_⟩
  obtain ⟨i, j, h1, h2, _, rfl⟩ := mem_grid.mp hp
  obtain ⟨i', j', h3, h4, _, rfl⟩ := mem_grid.mp hq
  rw [cd_pair, cd_pair]; omega
theorem stp_plain {m : Nat} (h1 : 1 ≤ m) (h2 : m ≤ 8) (ps : List (List Int)) : Stp (idM m) (plainSteps m ps) := by
  refine ⟨?_, fun p hp => ?_, adj_rise (fun p hp => (plain_pr h2 p hp).mono (by omega)) (plain_rise h2), fun x y mx my h hx hy => ?_⟩
  · have h := grid_len 0 (pPlain ps) m m
    have h3 : m * m ≤ 8 * 8 := Nat.mul_le_mul h2 h2
    exact Nat.le_trans h h3
  · rw [idM_len]; exact plain_pr h2 p hp
  · rw [mem_plain] at h
    rw [idM_get] at hx hy
    have e1 : mx = x := by omega
    have e2 : my = y := by omega
    subst e1 e2
    exact mem_plain.mpr ⟨h.2.1, h.1, h.2.2.symm⟩
theorem stp_one {m : Nat} (h1 : 1 ≤ m) (h2 : m ≤ 4) (ps : List (List Int)) : Stp (owM m) (aheadSteps m ps ++ backSteps m ps) := by
  refine ⟨?_, fun p hp => ?_, adj_rise (fun p hp => (one_pr h2 p hp).mono (by omega)) (one_rise h2), fun x y mx my h hx hy => ?_⟩
  · have h := grid_len 0 (pAhead ps) m m
    have h' := grid_len (m : Int) (pBack ps) m m
    have h3 : m * m ≤ 4 * 4 := Nat.mul_le_mul h2 h2
    rw [List.length_append]
    show (gridOf 0 (pAhead ps) m m).length + (gridOf (m : Int) (pBack ps) m m).length ≤ 64
    omega
  · obtain ⟨x, y, e, hx, hy⟩ := one_pr h2 p hp
    rw [owM_len]
    exact ⟨x, y, e, by omega, by omega⟩
  · rw [List.mem_append] at h ⊢
    rw [owM_get] at hx hy
    rcases h with h | h
    · rw [mem_ahead] at h
      obtain ⟨a1, a2, a3⟩ := h
      have e1 : mx = (m : Int) + x := by omega
      have e2 : my = (m : Int) + y := by omega
      subst e1 e2
      refine .inr (mem_back.mpr ⟨by omega, by omega, ?_⟩)
      rw [show (m : Int) + x - (m : Int) = x by omega, show (m : Int) + y - (m : Int) = y by omega]
      exact a3
    · rw [mem_back] at h
      obtain ⟨a1, a2, a3⟩ := h
      have e1 : mx = x - (m : Int) := by omega
      have e2 : my = y - (m : Int) := by omega
      subst e1 e2
      exact .inl (mem_ahead.mpr ⟨by omega, by omega, a3⟩)
/-! ### what sorted(set(..)) gives -/
def swp (p : List Int) : List Int := [p.getD 1 0, p.getD 0 0]
def shf (m : Int) (p : List Int) : List Int := [p.getD 1 0 + m, p.getD 0 0 + m]
theorem got_plain {m : Nat} (h2 : m ≤ 8) {ps L : List (List Int)} (hp : ∀ p ∈ ps, Pr (m : Int) p) (nd : L.Nodup) (srt : L.Pairwise fun p q => cd p ≤ cd q) (sub : ∀ p ∈ L, p ∈ ps ++ ps.map swp) (all : ∀ p ∈ ps ++ ps.map swp, p ∈ L) : L = plainSteps m ps := by
  have hb : ∀ p ∈ ps ++ ps.map swp, Pr (m : Int) p := by
    intro p h
    rcases List.mem_append.mp h with z | z
    · exact hp p z
    · obtain ⟨q, hq, rfl⟩ := List.mem_map.mp z
      obtain ⟨x, y, rfl, hx, hy⟩ := hp q hq
      exact ⟨y, x, rfl, hy, hx⟩
  refine sorted_eq (f := cd) (sorted_lt (fun p h => (hb p (sub p h)).mono (by omega)) nd srt) (plain_rise h2) fun p => ⟨fun h => ?_, fun h => ?_⟩
  · have h' := sub p h
    obtain ⟨x, y, rfl, hx, hy⟩ := hb p h'
    refine mem_plain.mpr ⟨hx, hy, ?_⟩
    rcases List.mem_append.mp h' with z | z
    · exact .inl z
    · obtain ⟨q, hq, e⟩ := List.mem_map.mp z
      obtain ⟨x', y', rfl, _⟩ := hp q hq
      have e' : ([y', x'] : List Int) = [x, y] := e
      injection e' with e1 e2
      injection e2 with e2 _
      subst e1 e2
      exact .inr hq
  · obtain ⟨x, y, rfl, _⟩ := plain_pr h2 p h
    rw [mem_plain] at h
    refine all _ (List.mem_append.mpr ?_)
    rcases h.2.2 with z | z
    · exact .inl z
    · exact .inr (List.mem_map.mpr ⟨[y, x], z, rfl⟩)
theorem got_one {m : Nat} (h2 : m ≤ 4) {ps L : List (List Int)} (hp : ∀ p ∈ ps, Pr (m : Int) p) (nd : L.Nodup) (srt : L.Pairwise fun p q => cd p ≤ cd q) (sub : ∀ p ∈ L, p ∈ ps ++ ps.map (shf m)) (all : ∀ p ∈ ps ++ ps.map (shf m), p ∈ L) : L = aheadSteps m ps ++ backSteps m ps := by
  have hb : ∀ p ∈ ps ++ ps.map (shf m), Pr (2 * (m : Int)) p := by
    intro p h
    rcases List.mem_append.mp h with z | z
    · exact (hp p z).mono (by omega)
    · obtain ⟨q, hq, rfl⟩ := List.mem_map.mp z
      obtain ⟨x, y, rfl, hx, hy⟩ := hp q hq
      exact ⟨y + m, x + m, rfl, by omega, by omega⟩
  refine sorted_eq (f := cd) (sorted_lt (fun p h => (hb p (sub p h)).mono (by omega)) nd srt) (one_rise h2) fun p => ⟨fun h => ?_, fun h => ?_⟩
  · have h' := sub p h
    rcases List.mem_append.mp h' with z | z
    · obtain ⟨x, y, rfl, hx, hy⟩ := hp p z
      exact List.mem_append.mpr (.inl (mem_ahead.mpr ⟨hx, hy, z⟩))
    · obtain ⟨q, hq, rfl⟩ := List.mem_map.mp z
      obtain ⟨x, y, rfl, hx, hy⟩ := hp q hq
      refine List.mem_append.mpr (.inr (mem_back (x := y + m) (y := x + m) |>.mpr ⟨by omega, by omega, ?_⟩))
      rw [show y + (m : Int) - (m : Int) = y by omega, show x + (m : Int) - (m : Int) = x by omega]
      exact hq
  · refine all _ (List.mem_append.mpr ?_)
    rcases List.mem_append.mp h with z | z
    · obtain ⟨i, j, _, _, _, rfl⟩ := mem_grid.mp z
      exact .inl (mem_ahead.mp z).2.2
    · obtain ⟨i, j, _, _, _, rfl⟩ := mem_grid.mp z
      have z2 := (mem_back.mp z).2.2
      refine .inr (List.mem_map.mpr ⟨_, z2, ?_⟩)
      show [(m : Int) + (i : Int) - m + m, (m : Int) + (j : Int) - m + m] = [(m : Int) + (i : Int), (m : Int) + (j : Int)]
      rw [show (m : Int) + (i : Int) - m + m = (m : Int) + (i : Int) by omega, show (m : Int) + (j : Int) - m + m = (m : Int) + (j : Int) by omega]
end K3
set_option maxHeartbeats 4000000
namespace K3
open PySem PySem.Spec PyProof.Rows L2 RV
/-- pairs of marks below m, drawn: at most eleven and these turned about -/
structure Drw (m : Nat) (ps : List (List Int)) : Prop where
  pr : ∀ p ∈ ps, Pr (m : Int) p
  len : ps.length ≤ 33
  ex : ∃ bs : List (List Int), bs.length ≤ 11 ∧ ∀ p ∈ ps, p ∈ bs ∨ p ∈ bs.map swp
theorem drw_all {m : Nat} {ps : List (List Int)} (d : Drw m ps) : ∃ us : List (List Int), us.length ≤ 22 ∧ ∀ p ∈ ps, p ∈ us := by
  obtain ⟨bs, h1, h2⟩ := d.ex
  refine ⟨bs ++ bs.map swp, by rw [List.length_append, List.length_map]; omega, fun p hp => List.mem_append.mpr (h2 p hp)⟩
theorem few_by {ks : List (Addr × List Int)} {us : List (List Int)} (h : us.length ≤ 60) (hs : ∀ p ∈ ks, p.2 ∈ us) : FewUnlike ks := by
  intro L nd sub
  have := nodup_le nd fun x hx => by
    obtain ⟨p, hp, rfl⟩ := List.mem_map.mp hx
    exact hs p (sub p hp)
  rw [List.length_map] at this
  omega
section
variable {P : Program} {w : World} {K : PySem.W.Frag} {mg : Str → Option Value} {base : Heap}
/-! ### __eq__ -/
theorem scEq : FnScope ["self", "other"] ["self", "other"] (defScope sEq) := ⟨rfl, rfl, rfl, by decide +kernel, rfl, by decide +kernel, by decide +kernel⟩
def spEq (K : PySem.W.Frag) (C : Addr) : Sp := fun vs H Q _ => ∃ (p q : Addr) (ns ns' : List Int) (ps ps' : List (List Int)), vs = [.ref p, .ref q] ∧ RuleAt K C H p ns ps ∧ RuleAt K C H q ns' ps' ∧ Q (.bl (decide (ns = ns') && decide (ps = ps'))) H
theorem ok_eq {f C : Addr} {fd : FuncData} (F : Fun K "__eq__" "Rule.__eq__" sEq f fd) (T : Txt K mg C) (B : Bare mg) : FnOk P w K mg base CX0 1 f fd ["self", "other"] (spEq K C) := by
  refine F.ok scEq (fun vs H Q E h => ?_) (fun cdv A outer s H vs Q E hr h => ?_)
  · obtain ⟨p, q, ns, ns', ps, ps', rfl, _⟩ := h
    rfl
  · obtain ⟨p, q, ns, ns', ps, ps', rfl, R1, R2, k⟩ := h
    obtain ⟨dx, a, b, t, h1, h2, h3, h4⟩ := R1.ex
    obtain ⟨dx', a', b', t', g1, g2, g3, g4⟩ := R2.ex
    refine ⟨_, pss_one (ps_ret (pe_and (pe_callB call_isi (by rfl) B.isinstance (by decide +kernel) (pa_cons (pv 1) (pa_cons (pe_glob (v := .ref C) rfl T.mgC rfl) pa_nil)))
      (pe_and (pe_cmpR (op_eqI1 hr.units) (pe_fld (pv 0) rfl) (pe_fld (pv 1) rfl) (nomark _)) (pe_one (pe_cmpR (op_eqTs hr.units) (pe_fld (pv 0) rfl) (pe_fld (pv 1) rfl) (nomark _)))))), ?_⟩
    refine ⟨.ref q, rfl, .ref q, .ref C, _, _, true, rfl, .own C, .base (.ins g1 T.cl T.c1 T.c2 T.c3 T.c4), T.c5, true, rfl, iteT ?_⟩
    refine ⟨.ref p, rfl, p, C, dx, _, _, rfl, h1, T.cl, T.nM, flds_m _ _ _, .ref q, rfl, q, C, dx', _, _, rfl, g1, T.cl, T.nM, flds_m _ _ _, a, a', ns, ns', rfl, rfl, h2, g2, _, rfl, ?_⟩
    by_cases e : ns = ns'
    · rw [decide_eq_true e] at k ⊢
      refine iteT ⟨.ref p, rfl, p, C, dx, _, _, rfl, h1, T.cl, T.nS, flds_s _ _ _, .ref q, rfl, q, C, dx', _, _, rfl, g1, T.cl, T.nS, flds_s _ _ _, b, b', ps, ps', rfl, rfl, h3, g3, ?_⟩
      rw [Bool.true_and] at k
      exact k
    · rw [decide_eq_false e] at k ⊢
      rw [Bool.false_and] at k
      exact iteF k
/-- a new Rule of these -/
def newRule (K : PySem.W.Frag) (C : Addr) (H : Hp) (Q : VK) (ns : List Int) (ps : List (List Int)) : Prop := ∀ H' p, Same H H' → RuleAt K C H' p ns ps → Q (.ref p) H'
/-- what a call Rule(a, b) comes to -/
theorem make_rule {C a b x dx : Addr} {H : Hp} {Qh : Hp → Prop} {E : XK} {ns : List Int} {ps : List (List Int)} (hA : SqT K H a (ns.map V.int)) (hB : Tups K H b ps) (hM : Mir ns) (hS : Stp ns ps) (nx : H x = none) (nd : H dx = none) (ne : dx ≠ x)
    (k : ∀ H', Same H H' → RuleAt K C H' x ns ps → Qh H') :
    spInit K C (.ref x :: ([.ref a, .ref b] ++ [])) (upd (upd H dx (.own x)) x (.ins C dx [])) (fun v H2 => v = .non ∧ Qh H2) E := by
  have s0 : Same H (upd (upd H dx (.own x)) x (.ins C dx [])) := fun c o e => by
    rw [upd_ne (ne_of_none e nx), upd_ne (ne_of_none e nd)]; exact e
  refine ⟨x, dx, a, b, ns, ps, rfl, upd_same, sqT_same s0 hA, hB.same s0, hM, hS, fun H' t k1 k2 k3 => ⟨rfl, ?_⟩⟩
  have s1 : Same H H' := fun c o e => k1 c o (s0 c o e) (ne_of_none e nx)
  exact k H' s1 ⟨dx, a, b, t, k2, sqT_same s1 hA, hB.same s1, k3⟩
/-! ### plain_rule -/
theorem scPlain : FnScope ["many", "pairs", "both_ways", "a", "b"] ["many", "pairs"] (defScope sPlain) := ⟨rfl, rfl, rfl, by decide +kernel, rfl, by decide +kernel, by decide +kernel⟩
def spPlain (K : PySem.W.Frag) (C : Addr) : Sp := fun vs H Q _ => ∃ (m : Nat) (t : Addr) (ps : List (List Int)), vs = [.int (m : Int), .ref t] ∧ 1 ≤ m ∧ m ≤ 8 ∧ Tups K H t ps ∧ Drw m ps ∧ newRule K C H Q (idM m) (plainSteps m ps)
theorem ok_plain {f fI C : Addr} {fd fdI : FuncData} (F : Fun K "plain_rule" "plain_rule" sPlain f fd) (T : Txt K mg C) (M : Mk K C fI) (bI : Binds K fdI ["self", "mirrors", "steps"] []) (GI : FnOk P w K mg base CX0 6 fI fdI ["self", "mirrors", "steps"] (spInit K C)) (B : Bare mg) :
    FnOk P w K mg base CX0 8 f fd ["many", "pairs"] (spPlain K C) := by
  refine F.ok scPlain (fun vs H Q E h => ?_) (fun cdv A outer s H vs Q E hr h => ?_)
  · obtain ⟨m, t, ps, rfl, _⟩ := h
    rfl
  · obtain ⟨m, t, ps, rfl, m1, m8, hTT, hD, q⟩ := h
    have hTT0 := hTT
    obtain ⟨ks, rfl, hT, hks⟩ := hTT
    have h33 := hD.len
    rw [List.length_map] at h33
    refine ⟨_, pss_cons (ps_set (i := 2) scPlain.nd rfl (Or.inl rfl) (pe_op op_cat (pe_callTy call_list_of (by rfl) B.list (by decide +kernel) (pa_cons (pv 1) pa_nil))
        (pe_lc (own := [("a", 3), ("b", 4)]) (g := gTup K 2 (gCons (gName 3) (gCons (gName 4) gNil))) (tt := tYes) rfl scPlain.nd (pi_tup (pv 1)) (blkOk_by (N := ["many", "pairs", "both_ways", "a", "b"]) (sc := defScope sPlain) (by decide +kernel))
          (fun _ _ _ _ _ => pg_tupK rfl rfl (pgs_cons (pg_name (i := 3) scPlain.nd rfl (Or.inl rfl)) (pgs_cons (pg_name (i := 4) scPlain.nd rfl (Or.inl rfl)) pgs_nil))) (fun _ _ _ _ _ => pts_nil)
          (fun _ _ _ _ _ => pe_tup (pa_cons (pv 4) (pa_cons (pv 3) pa_nil))))))
      (pss_one (ps_ret (pe_make M GI hr (by rfl) T.mgC bI .nil pass0 (pa_cons (pe_tupRg rfl (by rfl) B.tuple (prg_1 (by rfl) B.range (pv 0)))
        (pa_cons (pe_tupleOf (by rfl) B.tuple (pe_callB (cr_sortedT rfl) (by rfl) B.sorted (by decide +kernel) (pa_cons (pe_callTy (cr_setN rfl hr.units) (by rfl) B.set (by decide +kernel) (pa_cons (pv 2) pa_nil)) pa_nil))) pa_nil))))), ?_⟩
    -- list(pairs)
    refine ⟨.ref t, rfl, t, _, rfl, .inr hT, fun l nl => ?_⟩
    have s1 : Same H (upd H l (.lst (ks.map fun p => V.ref p.1))) := same_upd nl
    -- [(b, a) for a, b in pairs]
    refine ⟨.ref t, rfl, t, rfl, ⟨_, sqT_same s1 hT⟩, fun D nD => ?_⟩
    have hlD : l ≠ D := ne_of_none (upd_same) nD
    refine lc_tup (K := K) (a := t) (xs := ks.map fun p => V.ref p.1) (fun i H' => Same (upd H l (.lst (ks.map fun p => V.ref p.1))) H' ∧ ∃ js : List (Addr × List Int), js.map (·.2) = ((ks.map (·.2)).take i).map swp ∧ H' D = some (.lst (js.map fun p => V.ref p.1)) ∧ ∀ q ∈ js, H' q.1 = some (.tup (q.2.map V.int)))
      ⟨same_upd nD, [], rfl, upd_same, fun _ z => nomatch z⟩ (fun i H' _ p => sqT_same p.1 (sqT_same s1 hT)) (fun i x H' hx p => ?_) fun H2 p => ?_
    · obtain ⟨k, g, rfl⟩ := map_at hx
      have hk : k ∈ ks := List.mem_of_getElem? g
      have hi : i < ks.length := (List.getElem?_eq_some_iff.mp g).1
      obtain ⟨s2, js, e1, e2, e3⟩ := p
      obtain ⟨x, y, e, _⟩ := hD.pr k.2 (List.mem_map_of_mem hk)
      have hkT : SqT K H' k.1 ([x, y].map V.int) := by rw [← e]; exact sqT_same (s1.trans s2) (hks k hk)
      have gi : (ks.map (·.2))[i]? = some [x, y] := by rw [List.getElem?_map, g, ← e]; rfl
      have hjl : js.length = i := by
        have z := congrArg List.length e1
        rw [List.length_map, List.length_map, List.length_take, List.length_map] at z
        omega
      refine ⟨k.1, _, rfl, hkT, rfl, _, _, rfl, _, _, rfl, rfl, rfl, tt_yes ⟨.int y, rfl, .int x, rfl, (by show 2 ≤ sizeLine; decide), fun U nU => ⟨_, (same_upd nU) _ _ e2, ?_, ?_, ?_⟩⟩⟩
      · rw [List.length_map]; exact few1 (by omega)
      · exact fun c o z => by rw [upd_ne (ne_of_none z nD)]; exact same_upd nU c o (s2 c o z)
      · have hUD : D ≠ U := ne_of_none e2 nU
        refine ⟨js ++ [(U, [y, x])], ?_, ?_, fun q hq => ?_⟩
        · rw [List.map_append, e1, List.take_add_one, gi, List.map_append]; rfl
        · rw [upd_same, List.map_append]; rfl
        · rcases List.mem_append.mp hq with z | z
          · have e4 := e3 q z
            have n1 : q.1 ≠ D := ne_of e4 e2 (by intro z; cases z)
            rw [upd_ne n1]; exact same_upd nU _ _ e4
          · rw [List.mem_singleton.mp z]
            show (upd (upd H' U (.tup [.int y, .int x])) D _) U = _
            rw [upd_ne hUD.symm, upd_same]; rfl
    · obtain ⟨s2, js, e1, e2, e3⟩ := p
      rw [List.length_map, List.take_of_length_le (by rw [List.length_map]; exact Nat.le_refl _)] at e1
      have hjl : js.length = ks.length := by
        have z := congrArg List.length e1
        rwa [List.length_map, List.length_map, List.length_map] at z
      have el := s2 _ _ (upd_same (H := H) (a := l) (o := .lst (ks.map fun p => V.ref p.1)))
      refine ⟨l, D, _, _, rfl, rfl, el, e2, ?_, fun o no => ?_⟩
      · rw [List.length_map, List.length_map, hjl]; exact Nat.le_of_lt (few1 (by omega))
      have s3 : Same H2 (upd H2 o (.lst ((ks.map fun p => V.ref p.1) ++ (js.map fun p => V.ref p.1)))) := same_upd no
      have s03 := (s1.trans s2).trans s3
      -- Rule(tuple(range(many)), ..)
      refine ⟨.int (m : Int), rfl, (m : Int), rfl, RgOk.of_le (by omega) (by omega) (by omega) (by omega), fun c nc => ?_⟩
      have s4 : Same (upd H2 o (.lst ((ks.map fun p => V.ref p.1) ++ (js.map fun p => V.ref p.1)))) (upd (upd H2 o (.lst ((ks.map fun p => V.ref p.1) ++ (js.map fun p => V.ref p.1)))) c (.tup (rgV 0 (m : Int)))) := same_upd nc
      have s04 := s03.trans s4
      have s24 := s3.trans s4
      generalize e5 : upd (upd H2 o (.lst ((ks.map fun p => V.ref p.1) ++ (js.map fun p => V.ref p.1)))) c (.tup (rgV 0 (m : Int))) = H4 at s4 s04 s24 ⊢
      have hc4 : H4 c = some (.tup ((idM m).map V.int)) := by rw [← e5, upd_same]; unfold idM; rw [rgV_rgI]
      have ho4 : H4 o = some (.lst ((ks ++ js).map fun p => V.ref p.1)) := by
        rw [s4 _ _ upd_same, List.map_append]
      have tk : ∀ p ∈ ks ++ js, SqT K H4 p.1 (p.2.map V.int) := fun p hp => by
        rcases List.mem_append.mp hp with z | z
        · exact sqT_same s04 (hks p z)
        · exact tupNew (s24 _ _ (e3 p z))
      have kk : (ks ++ js).map (·.2) = ks.map (·.2) ++ (ks.map (·.2)).map swp := by rw [List.map_append, e1]
      -- sorted(set(both_ways))
      refine ⟨.ref o, rfl, o, ks ++ js, rfl, lstNew ho4, tk, ?_, fun S L nS hsub hall => ?_⟩
      · obtain ⟨us, u1, u2⟩ := drw_all hD
        refine few_by (us := us ++ us.map swp) (by rw [List.length_append, List.length_map]; omega) fun p hp => ?_
        have hp2 : p.2 ∈ ks.map (·.2) ++ (ks.map (·.2)).map swp := by rw [← kk]; exact List.mem_map_of_mem hp
        rcases List.mem_append.mp hp2 with z | z
        · exact List.mem_append.mpr (.inl (u2 _ z))
        · obtain ⟨r, hr1, hr2⟩ := List.mem_map.mp z
          exact List.mem_append.mpr (.inr (List.mem_map.mpr ⟨r, u2 _ hr1, hr2⟩))
      have s5 : Same H4 (upd H4 S (SetTO P w S L)) := same_upd nS
      have prs : ∀ p ∈ ks.map (·.2) ++ (ks.map (·.2)).map swp, Pr (m : Int) p := by
        intro p hp
        rcases List.mem_append.mp hp with z | z
        · exact hD.pr p z
        · obtain ⟨r, hr1, rfl⟩ := List.mem_map.mp z
          obtain ⟨x, y, rfl, hx, hy⟩ := hD.pr r hr1
          exact ⟨y, x, rfl, hy, hx⟩
      have inL : ∀ p ∈ L, p.2 ∈ ks.map (·.2) ++ (ks.map (·.2)).map swp := fun p hp => by rw [← kk]; exact List.mem_map_of_mem (hsub p hp)
      refine ⟨S, L, 2, 64, rfl, upd_same, fun p hp => sqT_same s5 (tk p (hsub p hp)), by decide, fun p hp => ?_, fun L' z pm nd _ pw nz => ?_⟩
      · obtain ⟨x, y, e, hx, hy⟩ := prs _ (inL p hp)
        rw [e]
        refine ⟨rfl, fun i hi => ?_⟩
        simp only [List.mem_cons, List.not_mem_nil, or_false] at hi
        rcases hi with rfl | rfl <;> omega
      have s6 : Same (upd H4 S (SetTO P w S L)) (upd (upd H4 S (SetTO P w S L)) z (.lst (L'.map fun q => V.ref q.1))) := same_upd nz
      have eL : L'.map (·.2) = plainSteps m (ks.map (·.2)) := by
        refine got_plain m8 hD.pr nd (by rw [List.pairwise_map]; exact pw) (fun p hp => ?_) fun p hp => ?_
        · obtain ⟨r, hr1, rfl⟩ := List.mem_map.mp hp
          exact inL r (pm.mem_iff.mp hr1)
        · rw [← kk] at hp
          obtain ⟨r, hr1, rfl⟩ := List.mem_map.mp hp
          exact (pm.map (·.2)).mem_iff.mpr (hall r hr1)
      -- tuple(..)
      refine .inl ⟨z, _, rfl, lstNew upd_same, fun u nu => ?_⟩
      have s7 := same_upd (o := .tup (L'.map fun q => V.ref q.1)) nu
      have s47 := (s5.trans s6).trans s7
      refine fun x dx nx nd ne => make_rule (ns := idM m) (ps := plainSteps m (ks.map (·.2))) (tupNew (s47 _ _ hc4)) ⟨L', eL, tupNew upd_same, fun p hp => sqT_same s47 (tk p (hsub p (pm.mem_iff.mp hp)))⟩ (mir_id m1 m8) (stp_plain m1 m8 _) nx nd ne fun H' s8 R => ?_
      exact q H' x ((s04.trans s47).trans s8) R
end
end K3
set_option maxHeartbeats 4000000
namespace K3
open PySem PySem.Spec PyProof.Rows L2 RV
section
variable {P : Program} {w : World} {K : PySem.W.Frag} {mg : Str → Option Value} {base : Heap}
/-! ### one_way_rule -/
theorem scOne : FnScope ["many", "pairs", "mirrors", "both_sides", "a", "b"] ["many", "pairs"] (defScope sOneWay) := ⟨rfl, rfl, rfl, by decide +kernel, rfl, by decide +kernel, by decide +kernel⟩
def spOne (K : PySem.W.Frag) (C : Addr) : Sp := fun vs H Q _ => ∃ (m : Nat) (t : Addr) (ps : List (List Int)), vs = [.int (m : Int), .ref t] ∧ 1 ≤ m ∧ m ≤ 4 ∧ Tups K H t ps ∧ Drw m ps ∧ newRule K C H Q (owM m) (aheadSteps m ps ++ backSteps m ps)
theorem ok_one {f fI C : Addr} {fd fdI : FuncData} (F : Fun K "one_way_rule" "one_way_rule" sOneWay f fd) (T : Txt K mg C) (M : Mk K C fI) (bI : Binds K fdI ["self", "mirrors", "steps"] []) (GI : FnOk P w K mg base CX0 6 fI fdI ["self", "mirrors", "steps"] (spInit K C)) (B : Bare mg) :
    FnOk P w K mg base CX0 8 f fd ["many", "pairs"] (spOne K C) := by
  refine F.ok scOne (fun vs H Q E h => ?_) (fun cdv A outer s H vs Q E hr h => ?_)
  · obtain ⟨m, t, ps, rfl, _⟩ := h
    rfl
  · obtain ⟨m, t, ps, rfl, m1, m4, hTT, hD, q⟩ := h
    have hTT0 := hTT
    obtain ⟨ks, rfl, hT, hks⟩ := hTT
    have h33 := hD.len
    rw [List.length_map] at h33
    refine ⟨_, pss_cons (ps_set (i := 2) scOne.nd rfl (Or.inl rfl) (pe_op op_catA (pe_tupRg rfl (by rfl) B.tuple (prg_2 (by rfl) B.range (pv 0) (pe_op op_mul pe_int (pv 0)))) (pe_tupRg rfl (by rfl) B.tuple (prg_1 (by rfl) B.range (pv 0)))))
      (pss_cons (ps_set (i := 3) scOne.nd rfl (Or.inl rfl) (pe_op op_cat (pe_callTy call_list_of (by rfl) B.list (by decide +kernel) (pa_cons (pv 1) pa_nil))
        (pe_lc (own := [("a", 4), ("b", 5)]) (g := gTup K 2 (gCons (gName 4) (gCons (gName 5) gNil))) (tt := tYes) rfl scOne.nd (pi_tup (pv 1)) (blkOk_by (N := ["many", "pairs", "mirrors", "both_sides", "a", "b"]) (sc := defScope sOneWay) (by decide +kernel))
          (fun _ _ _ _ _ => pg_tupK rfl rfl (pgs_cons (pg_name (i := 4) scOne.nd rfl (Or.inl rfl)) (pgs_cons (pg_name (i := 5) scOne.nd rfl (Or.inl rfl)) pgs_nil))) (fun _ _ _ _ _ => pts_nil)
          (fun _ _ _ _ _ => pe_tup (pa_cons (pe_op op_add (pv 5) (pv 0)) (pa_cons (pe_op op_add (pv 4) (pv 0)) pa_nil))))))
      (pss_one (ps_ret (pe_make M GI hr (by rfl) T.mgC bI .nil pass0 (pa_cons (pv 2)
        (pa_cons (pe_tupleOf (by rfl) B.tuple (pe_callB (cr_sortedT rfl) (by rfl) B.sorted (by decide +kernel) (pa_cons (pe_callTy (cr_setN rfl hr.units) (by rfl) B.set (by decide +kernel) (pa_cons (pv 3) pa_nil)) pa_nil))) pa_nil)))))), ?_⟩
    -- mirrors
    refine ⟨.int (m : Int), rfl, .int (m : Int), rfl, 2, (m : Int), rfl, rfl, .inl ⟨by decide, by decide⟩, (m : Int), 2 * (m : Int), rfl, rfl, RgOk.of_le (by omega) (by omega) (by omega) (by omega), fun r1 nr1 => ?_⟩
    refine ⟨.int (m : Int), rfl, (m : Int), rfl, RgOk.of_le (by omega) (by omega) (by omega) (by omega), fun r2 nr2 => ?_⟩
    have q1 := same_upd (o := .tup (rgV (m : Int) (2 * (m : Int)))) nr1
    have q2 := same_upd (o := .tup (rgV 0 (m : Int))) nr2
    have ne1 : rgV (m : Int) (2 * (m : Int)) ≠ [] := fun z => by
      have := congrArg List.length z
      rw [rgV_length, List.length_nil] at this; omega
    have ne2 : rgV 0 (m : Int) ≠ [] := fun z => by
      have := congrArg List.length z
      rw [rgV_length, List.length_nil] at this; omega
    refine ⟨r1, r2, _, _, rfl, rfl, tupNew (q2 _ _ upd_same), tupNew upd_same, by rw [rgV_length, rgV_length]; exact Nat.le_of_lt (few1 (by omega)), fun z => absurd z ne1, fun _ z => absurd z ne2, fun _ _ c nc => ?_⟩
    have q3 := same_upd (o := .tup (rgV (m : Int) (2 * (m : Int)) ++ rgV 0 (m : Int))) nc
    have q03 := (q1.trans q2).trans q3
    generalize e9 : upd (upd (upd H r1 (.tup (rgV (m : Int) (2 * (m : Int))))) r2 (.tup (rgV 0 (m : Int)))) c (.tup (rgV (m : Int) (2 * (m : Int)) ++ rgV 0 (m : Int))) = H0 at q3 q03 ⊢
    have hc0 : H0 c = some (.tup ((owM m).map V.int)) := by
      rw [← e9, upd_same]; unfold owM; rw [List.map_append, rgV_rgI, rgV_rgI]
    have hT' := sqT_same q03 hT
    have hks' : ∀ p ∈ ks, SqT K H0 p.1 (p.2.map V.int) := fun p hp => sqT_same q03 (hks p hp)
    -- list(pairs)
    refine ⟨.ref t, rfl, t, _, rfl, .inr hT', fun l nl => ?_⟩
    have s1 : Same H0 (upd H0 l (.lst (ks.map fun p => V.ref p.1))) := same_upd nl
    -- [(b, a) for a, b in pairs]
    refine ⟨.ref t, rfl, t, rfl, ⟨_, sqT_same s1 hT'⟩, fun D nD => ?_⟩
    have hlD : l ≠ D := ne_of_none (upd_same) nD
    refine lc_tup (K := K) (a := t) (xs := ks.map fun p => V.ref p.1) (fun i H' => Same (upd H0 l (.lst (ks.map fun p => V.ref p.1))) H' ∧ ∃ js : List (Addr × List Int), js.map (·.2) = ((ks.map (·.2)).take i).map (shf (m : Int)) ∧ H' D = some (.lst (js.map fun p => V.ref p.1)) ∧ ∀ q ∈ js, H' q.1 = some (.tup (q.2.map V.int)))
      ⟨same_upd nD, [], rfl, upd_same, fun _ z => nomatch z⟩ (fun i H' _ p => sqT_same p.1 (sqT_same s1 hT')) (fun i x H' hx p => ?_) fun H2 p => ?_
    · obtain ⟨k, g, rfl⟩ := map_at hx
      have hk : k ∈ ks := List.mem_of_getElem? g
      have hi : i < ks.length := (List.getElem?_eq_some_iff.mp g).1
      obtain ⟨s2, js, e1, e2, e3⟩ := p
      obtain ⟨x, y, e, _⟩ := hD.pr k.2 (List.mem_map_of_mem hk)
      have hkT : SqT K H' k.1 ([x, y].map V.int) := by rw [← e]; exact sqT_same (s1.trans s2) (hks' k hk)
      have gi : (ks.map (·.2))[i]? = some [x, y] := by rw [List.getElem?_map, g, ← e]; rfl
      have hjl : js.length = i := by
        have z := congrArg List.length e1
        rw [List.length_map, List.length_map, List.length_take, List.length_map] at z
        omega
      refine ⟨k.1, _, rfl, hkT, rfl, _, _, rfl, _, _, rfl, rfl, rfl, tt_yes ⟨.int y, rfl, .int (m : Int), rfl, y, (m : Int), rfl, rfl, .int x, rfl, .int (m : Int), rfl, x, (m : Int), rfl, rfl, (by show 2 ≤ sizeLine; decide), fun U nU => ⟨_, (same_upd nU) _ _ e2, ?_, ?_, ?_⟩⟩⟩
      · rw [List.length_map]; exact few1 (by omega)
      · exact fun c o z => by rw [upd_ne (ne_of_none z nD)]; exact same_upd nU c o (s2 c o z)
      · have hUD : D ≠ U := ne_of_none e2 nU
        refine ⟨js ++ [(U, [y + (m : Int), x + (m : Int)])], ?_, ?_, fun q hq => ?_⟩
        · rw [List.map_append, e1, List.take_add_one, gi, List.map_append]; rfl
        · rw [upd_same, List.map_append]; rfl
        · rcases List.mem_append.mp hq with z | z
          · have e4 := e3 q z
            have n1 : q.1 ≠ D := ne_of e4 e2 (by intro z; cases z)
            rw [upd_ne n1]; exact same_upd nU _ _ e4
          · rw [List.mem_singleton.mp z]
            show (upd (upd H' U (.tup [.int (y + (m : Int)), .int (x + (m : Int))])) D _) U = _
            rw [upd_ne hUD.symm, upd_same]; rfl
    · obtain ⟨s2, js, e1, e2, e3⟩ := p
      rw [List.length_map, List.take_of_length_le (by rw [List.length_map]; exact Nat.le_refl _)] at e1
      have hjl : js.length = ks.length := by
        have z := congrArg List.length e1
        rwa [List.length_map, List.length_map, List.length_map] at z
      have el := s2 _ _ (upd_same (H := H0) (a := l) (o := .lst (ks.map fun p => V.ref p.1)))
      refine ⟨l, D, _, _, rfl, rfl, el, e2, ?_, fun o no => ?_⟩
      · rw [List.length_map, List.length_map, hjl]; exact Nat.le_of_lt (few1 (by omega))
      have s3 : Same H2 (upd H2 o (.lst ((ks.map fun p => V.ref p.1) ++ (js.map fun p => V.ref p.1)))) := same_upd no
      have s03 := (s1.trans s2).trans s3
      -- Rule(mirrors, ..)
      refine ⟨.ref c, rfl, ?_⟩
      have hc4 := s3 _ _ (s2 _ _ (s1 _ _ hc0))
      generalize e5 : upd H2 o (.lst ((ks.map fun p => V.ref p.1) ++ (js.map fun p => V.ref p.1))) = H4 at s3 s03 hc4 ⊢
      have ho4 : H4 o = some (.lst ((ks ++ js).map fun p => V.ref p.1)) := by
        rw [← e5, upd_same, List.map_append]
      have tk : ∀ p ∈ ks ++ js, SqT K H4 p.1 (p.2.map V.int) := fun p hp => by
        rcases List.mem_append.mp hp with z | z
        · exact sqT_same s03 (hks' p z)
        · exact tupNew (s3 _ _ (e3 p z))
      have kk : (ks ++ js).map (·.2) = ks.map (·.2) ++ (ks.map (·.2)).map (shf (m : Int)) := by rw [List.map_append, e1]
      -- sorted(set(both_ways))
      refine ⟨.ref o, rfl, o, ks ++ js, rfl, lstNew ho4, tk, ?_, fun S L nS hsub hall => ?_⟩
      · obtain ⟨us, u1, u2⟩ := drw_all hD
        refine few_by (us := us ++ us.map (shf (m : Int))) (by rw [List.length_append, List.length_map]; omega) fun p hp => ?_
        have hp2 : p.2 ∈ ks.map (·.2) ++ (ks.map (·.2)).map (shf (m : Int)) := by rw [← kk]; exact List.mem_map_of_mem hp
        rcases List.mem_append.mp hp2 with z | z
        · exact List.mem_append.mpr (.inl (u2 _ z))
        · obtain ⟨r, hr1, hr2⟩ := List.mem_map.mp z
          exact List.mem_append.mpr (.inr (List.mem_map.mpr ⟨r, u2 _ hr1, hr2⟩))
      have s5 : Same H4 (upd H4 S (SetTO P w S L)) := same_upd nS
      have prs : ∀ p ∈ ks.map (·.2) ++ (ks.map (·.2)).map (shf (m : Int)), Pr (2 * (m : Int)) p := by
        intro p hp
        rcases List.mem_append.mp hp with z | z
        · exact (hD.pr p z).mono (by omega)
        · obtain ⟨r, hr1, rfl⟩ := List.mem_map.mp z
          obtain ⟨x, y, rfl, hx, hy⟩ := hD.pr r hr1
          exact ⟨y + m, x + m, rfl, by omega, by omega⟩
      have inL : ∀ p ∈ L, p.2 ∈ ks.map (·.2) ++ (ks.map (·.2)).map (shf (m : Int)) := fun p hp => by rw [← kk]; exact List.mem_map_of_mem (hsub p hp)
      refine ⟨S, L, 2, 64, rfl, upd_same, fun p hp => sqT_same s5 (tk p (hsub p hp)), by decide, fun p hp => ?_, fun L' z pm nd _ pw nz => ?_⟩
      · obtain ⟨x, y, e, hx, hy⟩ := prs _ (inL p hp)
        rw [e]
        refine ⟨rfl, fun i hi => ?_⟩
        simp only [List.mem_cons, List.not_mem_nil, or_false] at hi
        rcases hi with rfl | rfl <;> omega
      have s6 : Same (upd H4 S (SetTO P w S L)) (upd (upd H4 S (SetTO P w S L)) z (.lst (L'.map fun q => V.ref q.1))) := same_upd nz
      have eL : L'.map (·.2) = (aheadSteps m (ks.map (·.2)) ++ backSteps m (ks.map (·.2))) := by
        refine got_one m4 hD.pr nd (by rw [List.pairwise_map]; exact pw) (fun p hp => ?_) fun p hp => ?_
        · obtain ⟨r, hr1, rfl⟩ := List.mem_map.mp hp
          exact inL r (pm.mem_iff.mp hr1)
        · rw [← kk] at hp
          obtain ⟨r, hr1, rfl⟩ := List.mem_map.mp hp
          exact (pm.map (·.2)).mem_iff.mpr (hall r hr1)
      -- tuple(..)
      refine .inl ⟨z, _, rfl, lstNew upd_same, fun u nu => ?_⟩
      have s7 := same_upd (o := .tup (L'.map fun q => V.ref q.1)) nu
      have s47 := (s5.trans s6).trans s7
      refine fun x dx nx nd ne => make_rule (ns := owM m) (ps := (aheadSteps m (ks.map (·.2)) ++ backSteps m (ks.map (·.2)))) (tupNew (s47 _ _ hc4)) ⟨L', eL, tupNew upd_same, fun p hp => sqT_same s47 (tk p (hsub p (pm.mem_iff.mp hp)))⟩ (mir_ow m1 m4) (stp_one m1 m4 _) nx nd ne fun H' s8 R => ?_
      exact q H' x (((q03.trans s03).trans s47).trans s8) R
end
end K3
set_option maxHeartbeats 4000000
namespace K3
open PySem PySem.Spec PyProof.Rows L2 RV
/-- a pail of numbers stands at p, t have been mixed -/
def PailAt (H : Hp) (p : Addr) (t : Nat) : Prop := ∃ x y : Int, H p = some (.lst [.int x, .int y, .int (t : Int)]) ∧ 0 ≤ x ∧ 0 ≤ y ∧ y < 2147483629
/-- all stands but what is at p -/
def But (p : Addr) (H H' : Hp) : Prop := ∀ c o, H c = some o → c ≠ p → H' c = some o
theorem But.refl (p : Addr) (H : Hp) : But p H H := fun _ _ e _ => e
theorem But.trans {p : Addr} {H H1 H2 : Hp} (a : But p H H1) (b : But p H1 H2) : But p H H2 := fun c o e z => b c o (a c o e z) z
theorem But.of {p : Addr} {H H' : Hp} (s : Same H H') : But p H H' := fun c o e _ => s c o e
section
variable {P : Program} {w : World} {K : PySem.W.Frag} {mg : Str → Option Value} {base : Heap}
/-! ### _law_pail -/
theorem scPail : FnScope ["_law_script", "_law_at", "_law_cell", "_law_own"] ["_law_script", "_law_at"] (defScope sPail) := ⟨rfl, rfl, rfl, by decide +kernel, rfl, by decide +kernel, by decide +kernel⟩
def spPail (K : PySem.W.Frag) : Sp := fun vs H Q _ => ∃ (a : Addr) (ns : List Int) (k : Nat), vs = [.ref a, .int (k : Int)] ∧ SqL K H a (ns.map V.int) ∧ k < 64 ∧ ∀ H' p, Same H H' → H p = none → PailAt H' p 0 → Q (.ref p) H'
theorem flag01 (b : Bool) : -(2 ^ 64) < (if b = true then (1 : Int) else 0) ∧ (if b = true then (1 : Int) else 0) < 2 ^ 64 := by cases b <;> decide
theorem mul_flag {x : Int} (h : 0 ≤ x) (b : Bool) : 0 ≤ x * (if b = true then (1 : Int) else 0) := by
  cases b
  · show 0 ≤ x * 0
    rw [Int.mul_zero]; exact Int.le_refl _
  · show 0 ≤ x * 1
    rw [Int.mul_one]; exact h
theorem pow60 : ((10 : Int) ^ (60 : Int).toNat).natAbs < 2 ^ 200 := by decide +kernel
theorem pow120 : ((10 : Int) ^ (60 : Int).toNat * (10 : Int) ^ (60 : Int).toNat).natAbs < 2 ^ 400 := by decide +kernel
theorem pow180 : (0 : Int) < (10 : Int) ^ (60 : Int).toNat * (10 : Int) ^ (60 : Int).toNat * (10 : Int) ^ (60 : Int).toNat := by decide +kernel
theorem ok_pail {f : Addr} {fd : FuncData} (F : Fun K "_law_pail" "_law_pail" sPail f fd) (B : Bare mg) : FnOk P w K mg base CX0 1 f fd ["_law_script", "_law_at"] (spPail K) := by
  refine F.ok scPail (fun vs H Q E h => ?_) (fun cdv A outer s H vs Q E hr h => ?_)
  · obtain ⟨a, ns, k, rfl, _⟩ := h
    rfl
  · obtain ⟨a, ns, k, rfl, hS, hk, q⟩ := h
    refine ⟨_, pss_cons (ps_set (i := 2) scPail.nd rfl (Or.inl rfl) (pe_ifExp (pt_cmpR op_lt (pv 1) (pe_callB call_len_seq (by rfl) B.len PySem.boot_len (pa_cons (pv 0) pa_nil)) (nomark _)) (pe_ix ix_list (pv 0) (pv 1) (fun _ _ => rfl)) (pe_op op_add (pe_op op_mul pe_int (pv 1)) pe_int)))
      (pss_cons (ps_set (i := 3) scPail.nd rfl (Or.inl rfl) (pe_op op_mod (pe_callB call_abs (by rfl) B.abs (by decide +kernel) (pa_cons (pv 2) pa_nil)) (pe_op op_mulW (pe_op op_mulW (pe_op op_pow pe_int pe_int) (pe_op op_pow pe_int pe_int)) (pe_op op_pow pe_int pe_int))))
      (pss_one (ps_ret (pe_lst (pa_cons (pe_op op_mul (pv 3) (pe_callTy call_int1 (by rfl) B.int boot_int (pa_cons (pe_cmpR op_ge (pe_callB call_abs (by rfl) B.abs (by decide +kernel) (pa_cons (pv 2) pa_nil)) (pe_op op_pow pe_int pe_int) (nomark _)) pa_nil)))
        (pa_cons (pe_op op_mod (pe_op op_mul (pe_op op_add (pe_op op_add (pe_op op_mod (pv 2) pe_int) (pe_op op_mul pe_int (pv 1))) pe_int) pe_int) pe_int) (pa_cons pe_int pa_nil))))))), ?_⟩
    refine ⟨.int (k : Int), rfl, .ref a, rfl, a, _, rfl, .inl hS, (k : Int), _, rfl, rfl, _, rfl, ?_⟩
    refine ite2 (fun hlt => ?_) (fun _ => ?_)
    · have hkl : k < ns.length := by
        have z := of_decide_eq_true hlt
        rw [List.length_map] at z; omega
      refine ⟨.ref a, rfl, .int (k : Int), rfl, a, _, (k : Int), .int ns[k], rfl, rfl, hS, atI_nat (by rw [List.getElem?_map, List.getElem?_eq_getElem hkl]; rfl), ?_⟩
      refine ⟨_, rfl, ns[k], rfl, 10, 60, rfl, rfl, ⟨by decide, by decide, by decide⟩, 10, 60, rfl, rfl, ⟨by decide, by decide, by decide⟩, _, _, rfl, rfl, wide_mul pow60 pow60 (by decide) (by decide) (by decide), 10, 60, rfl, rfl, ⟨by decide, by decide, by decide⟩, _, _, rfl, rfl, wide_mul pow120 pow60 (by decide) (by decide) (by decide), _, _, rfl, rfl, pow180, ?_⟩
      have own0 := Int.emod_nonneg (if ns[k] < 0 then -ns[k] else ns[k]) (Int.ne_of_gt pow180)
      refine ⟨_, rfl, _, rfl, ns[k], rfl, 10, 18, rfl, rfl, ⟨by decide, by decide, by decide⟩, _, _, rfl, rfl, .inr ⟨_, rfl, _, _, rfl, rfl, .inr ?_, _, rfl, ns[k], 2305843009213693951, rfl, rfl, (show (0 : Int) < 2305843009213693951 by decide), .int (k : Int), rfl, 7877, (k : Int), rfl, rfl, .inl ⟨by decide, by decide⟩, _, _, rfl, rfl, _, 29, rfl, rfl, _, 39373, rfl, rfl, .inr ⟨by decide, by decide⟩, _, 2147483629, rfl, rfl, (show (0 : Int) < 2147483629 by decide), ?_, fun p np => ?_⟩⟩
      · exact flag01 _
      · show 3 ≤ sizeLine; decide
      · refine q _ p (same_upd np) np ⟨_, _, upd_same, ?_, Int.emod_nonneg _ (by decide), Int.emod_lt_of_pos _ (by decide)⟩
        exact mul_flag own0 _
    · refine ⟨.int (k : Int), rfl, 11, (k : Int), rfl, rfl, .inl ⟨by decide, by decide⟩, _, 5, rfl, rfl, ?_⟩
      refine ⟨_, rfl, (11 * (k : Int) + 5), rfl, 10, 60, rfl, rfl, ⟨by decide, by decide, by decide⟩, 10, 60, rfl, rfl, ⟨by decide, by decide, by decide⟩, _, _, rfl, rfl, wide_mul pow60 pow60 (by decide) (by decide) (by decide), 10, 60, rfl, rfl, ⟨by decide, by decide, by decide⟩, _, _, rfl, rfl, wide_mul pow120 pow60 (by decide) (by decide) (by decide), _, _, rfl, rfl, pow180, ?_⟩
      have own0 := Int.emod_nonneg (if (11 * (k : Int) + 5) < 0 then -(11 * (k : Int) + 5) else (11 * (k : Int) + 5)) (Int.ne_of_gt pow180)
      refine ⟨_, rfl, _, rfl, (11 * (k : Int) + 5), rfl, 10, 18, rfl, rfl, ⟨by decide, by decide, by decide⟩, _, _, rfl, rfl, .inr ⟨_, rfl, _, _, rfl, rfl, .inr ?_, _, rfl, (11 * (k : Int) + 5), 2305843009213693951, rfl, rfl, (show (0 : Int) < 2305843009213693951 by decide), .int (k : Int), rfl, 7877, (k : Int), rfl, rfl, .inl ⟨by decide, by decide⟩, _, _, rfl, rfl, _, 29, rfl, rfl, _, 39373, rfl, rfl, .inr ⟨by decide, by decide⟩, _, 2147483629, rfl, rfl, (show (0 : Int) < 2147483629 by decide), ?_, fun p np => ?_⟩⟩
      · exact flag01 _
      · show 3 ≤ sizeLine; decide
      · refine q _ p (same_upd np) np ⟨_, _, upd_same, ?_, Int.emod_nonneg _ (by decide), Int.emod_lt_of_pos _ (by decide)⟩
        exact mul_flag own0 _
end
end K3
set_option maxHeartbeats 4000000
namespace K3
open PySem PySem.Spec PyProof.Rows L2 RV
section
variable {P : Program} {w : World} {K : PySem.W.Frag} {mg : Str → Option Value} {base : Heap}
/-! ### _law_draw -/
theorem scDraw : FnScope ["_law_pail_here", "_law_many", "_law_told", "_law_turn", "_law_prime", "_law_mixed"] ["_law_pail_here", "_law_many"] (defScope sDraw) := ⟨rfl, rfl, rfl, by decide +kernel, rfl, by decide +kernel, by decide +kernel⟩
def spDraw : Sp := fun vs H Q _ => ∃ (p : Addr) (t : Nat) (m : Int), vs = [.ref p, .int m] ∧ PailAt H p t ∧ t ≤ 2000 ∧ 1 ≤ m ∧ m ≤ 1000 ∧
  ∀ (r : Int) (t' : Nat) (H' : Hp), 0 ≤ r → r < m → t' ≤ t + 1 → PailAt H' p t' → But p H H' → Q (.int r) H'
theorem primes_at (t : Int) (h : 0 ≤ t) : ∃ v : Int, atI [V.int 2147483587, V.int 2147483579, V.int 2147483563, V.int 2147483549, V.int 2147483543] (t % 5) = some (.int v) ∧ 0 < v ∧ v < 2147483648 := by
  have h5 : t % 5 = 0 ∨ t % 5 = 1 ∨ t % 5 = 2 ∨ t % 5 = 3 ∨ t % 5 = 4 := by omega
  rcases h5 with e | e | e | e | e <;> rw [e] <;> exact ⟨_, rfl, by decide, by decide⟩
theorem ix3 (j : Nat) (h : j < 3) : ixN 3 (j : Int) = some j := by
  rcases (show j = 0 ∨ j = 1 ∨ j = 2 by omega) with e | e | e <;> subst e <;> rfl
theorem ok_draw {f : Addr} {fd : FuncData} (F : Fun K "_law_draw" "_law_draw" sDraw f fd) : FnOk P w K mg base CX0 1 f fd ["_law_pail_here", "_law_many"] spDraw := by
  refine F.ok scDraw (fun vs H Q E h => ?_) (fun cdv A outer s H vs Q E hr h => ?_)
  · obtain ⟨p, t, m, rfl, _⟩ := h
    rfl
  · obtain ⟨p, t, m, rfl, ⟨x, y, hp, hx, hy0, hy1⟩, ht, hm1, hm2, q⟩ := h
    refine ⟨_, pss_cons (ps_if (pt_cmpR op_gt (pe_ix ix_list (pv 0) pe_int (fun _ _ => rfl)) pe_int (nomark _))
        (pss_cons (ps_set (i := 2) scDraw.nd rfl (Or.inl rfl) (pe_op op_mod (pe_ix ix_list (pv 0) pe_int (fun _ _ => rfl)) (pv 1)))
        (pss_cons (ps_asg (pe_op op_fdiv (pe_ix ix_list (pv 0) pe_int (fun _ _ => rfl)) (pv 1)) (pg_sub (pv 0) pe_int set_list))
        (pss_one (ps_ret (pv 2))))) pss_nil)
      (pss_cons (ps_asg (pe_op op_add (pe_ix ix_list (pv 0) pe_int (fun _ _ => rfl)) pe_int) (pg_sub (pv 0) pe_int set_list))
      (pss_cons (ps_set (i := 3) scDraw.nd rfl (Or.inl rfl) (pe_ix ix_list (pv 0) pe_int (fun _ _ => rfl)))
      (pss_cons (ps_set (i := 4) scDraw.nd rfl (Or.inl rfl) (pe_ix ix_list (pe_lst (pa_cons pe_int (pa_cons pe_int (pa_cons pe_int (pa_cons pe_int (pa_cons pe_int pa_nil)))))) (pe_op op_mod (pv 3) pe_int) (fun _ _ => rfl)))
      (pss_cons (ps_set (i := 5) scDraw.nd rfl (Or.inl rfl) (pe_op op_mod (pe_op op_pow (pe_op op_add (pe_op op_add (pe_ix ix_list (pv 0) pe_int (fun _ _ => rfl)) (pe_op op_mul (pe_op op_mul pe_int (pv 3)) (pv 3))) (pe_op op_mul pe_int (pv 3))) pe_int) (pv 4)))
      (pss_one (ps_ret (pe_op op_mod (pe_op op_fdiv (pe_op op_mod (pe_op op_mul (pv 5) (pe_op op_add (pe_op op_add (pe_op op_mod (pv 5) pe_int) (pv 3)) pe_int)) (pv 4)) pe_int) (pv 1)))))))), ?_⟩
    refine ⟨.ref p, rfl, p, _, 0, .int x, rfl, rfl, lstNew hp, rfl, x, 0, rfl, rfl, _, rfl, ite2 (fun hx0 => ?_) (fun _ => ?_)⟩
    · refine ⟨.ref p, rfl, p, _, 0, .int x, rfl, rfl, lstNew hp, rfl, .int m, rfl, x, m, rfl, rfl, (show 0 < m by omega), ?_⟩
      refine ⟨.ref p, rfl, p, _, 0, .int x, rfl, rfl, lstNew hp, rfl, .int m, rfl, x, m, rfl, rfl, ⟨by omega, by omega⟩, .ref p, rfl, p, _, 0, 0, rfl, rfl, hp, rfl, ?_⟩
      refine ⟨_, rfl, ?_⟩
      exact q (x % m) t _ (Int.emod_nonneg _ (by omega)) (Int.emod_lt_of_pos _ (by omega)) (by omega) ⟨x / m, y, upd_same, Int.ediv_nonneg hx (by omega), hy0, hy1⟩ fun c o e z => by rw [upd_ne z]; exact e
    · refine ⟨.ref p, rfl, p, _, 2, .int (t : Int), rfl, rfl, lstNew hp, rfl, (t : Int), 1, rfl, rfl, .ref p, rfl, p, _, 2, 2, rfl, rfl, hp, rfl, ?_⟩
      have hp1 : (upd H p (.lst [.int x, .int y, .int ((t : Int) + 1)])) p = some (.lst [.int x, .int y, .int ((t : Int) + 1)]) := upd_same
      have b1 : But p H (upd H p (.lst [.int x, .int y, .int ((t : Int) + 1)])) := fun c o e z => by rw [upd_ne z]; exact e
      refine ⟨.ref p, rfl, p, _, 2, .int ((t : Int) + 1), rfl, rfl, lstNew upd_same, rfl, ?_⟩
      obtain ⟨v, hv, v0, v1⟩ := primes_at ((t : Int) + 1) (by omega)
      refine ⟨(by show 5 ≤ sizeLine; decide), fun l nl => ⟨.int ((t : Int) + 1), rfl, (t : Int) + 1, 5, rfl, rfl, (show (0 : Int) < 5 by decide), l, _, _, .int v, rfl, rfl, lstNew upd_same, hv, ?_⟩⟩
      have s2 := same_upd (H := upd H p (.lst [.int x, .int y, .int ((t : Int) + 1)])) (o := .lst [.int 2147483587, .int 2147483579, .int 2147483563, .int 2147483549, .int 2147483543]) nl
      have hp2 := s2 _ _ hp1
      have tt : 0 ≤ ((t : Int) + 1) ∧ ((t : Int) + 1) ≤ 2001 := by omega
      have sq : 6151 * ((t : Int) + 1) * ((t : Int) + 1) ≤ 6151 * 2001 * 2001 := by
        have h1 : 6151 * ((t : Int) + 1) ≤ 6151 * 2001 := by omega
        exact Int.mul_le_mul h1 tt.2 tt.1 (by decide)
      have sq0 : 0 ≤ 6151 * ((t : Int) + 1) * ((t : Int) + 1) := Int.mul_nonneg (by omega) tt.1
      refine ⟨.ref p, rfl, p, _, 1, .int y, rfl, rfl, lstNew hp2, rfl, .int ((t : Int) + 1), rfl, 6151, _, rfl, rfl, .inl ⟨by decide, by decide⟩, .int ((t : Int) + 1), rfl, _, _, rfl, rfl, .inl ⟨by omega, by omega⟩, y, _, rfl, rfl, .int ((t : Int) + 1), rfl, 17, _, rfl, rfl, .inl ⟨by decide, by decide⟩, _, _, rfl, rfl, _, 3, rfl, rfl, ⟨by decide, by decide, ?_⟩, .int v, rfl, _, v, rfl, rfl, v0, ?_⟩
      · show (y + 6151 * ((t : Int) + 1) * ((t : Int) + 1) + 17 * ((t : Int) + 1)).natAbs < 2 ^ 64
        omega
      have z0 := Int.emod_nonneg ((y + 6151 * ((t : Int) + 1) * ((t : Int) + 1) + 17 * ((t : Int) + 1)) ^ (3 : Int).toNat) (show v ≠ 0 by omega)
      have z1 := Int.emod_lt_of_pos ((y + 6151 * ((t : Int) + 1) * ((t : Int) + 1) + 17 * ((t : Int) + 1)) ^ (3 : Int).toNat) v0
      refine ⟨_, rfl, _, rfl, _, 1009, rfl, rfl, (show (0 : Int) < 1009 by decide), .int ((t : Int) + 1), rfl, _, _, rfl, rfl, _, 1, rfl, rfl, _, _, rfl, rfl, .inl ?_, .int v, rfl, _, v, rfl, rfl, v0, _, 19, rfl, rfl, ⟨by decide, by decide⟩, .int m, rfl, _, m, rfl, rfl, (show 0 < m by omega), ?_⟩
      · exact ⟨by omega, by omega⟩
      · exact q _ (t + 1) _ (Int.emod_nonneg _ (by omega)) (Int.emod_lt_of_pos _ (by omega)) (Nat.le_refl _) ⟨x, y, hp2, hx, hy0, hy1⟩ (b1.trans (But.of s2))
end
end K3
set_option maxHeartbeats 4000000
namespace K3
open PySem PySem.Spec PyProof.Rows L2 RV
/-- the list at l holds the pairs ks, over the heap H but for the pail at p -/
structure Core (p l : Addr) (H H' : Hp) (ks : List (Addr × List Int)) : Prop where
  but : But p H H'
  li : H' l = some (.lst (ks.map fun q => V.ref q.1))
  tu : ∀ q ∈ ks, H' q.1 = some (.tup (q.2.map V.int))
theorem Core.draw {p l : Addr} {H H' H2 : Hp} {ks : List (Addr × List Int)} {t : Nat} (c : Core p l H H' ks) (hl : l ≠ p) (hp : PailAt H' p t) (b : But p H' H2) : Core p l H H2 ks := by
  obtain ⟨x, y, e, _⟩ := hp
  refine ⟨c.but.trans b, b _ _ c.li hl, fun q hq => b _ _ (c.tu q hq) fun z => ?_⟩
  have := c.tu q hq
  rw [z, e] at this; cases this
theorem Core.new {p l a : Addr} {H H' : Hp} {o : HO} {ks : List (Addr × List Int)} (c : Core p l H H' ks) (h : H' a = none) : Core p l H (upd H' a o) ks :=
  ⟨c.but.trans (But.of (same_upd h)), same_upd h _ _ c.li, fun q hq => same_upd h _ _ (c.tu q hq)⟩
theorem Core.set {p l : Addr} {H H' : Hp} {ks ks' : List (Addr × List Int)} (c : Core p l H H' ks) (hl : H l = none) (tu : ∀ q ∈ ks', H' q.1 = some (.tup (q.2.map V.int))) : Core p l H (upd H' l (.lst (ks'.map fun q => V.ref q.1))) ks' := by
  refine ⟨fun a o e z => ?_, upd_same, fun q hq => ?_⟩
  · rw [upd_ne (ne_of_none e hl)]; exact c.but a o e z
  · have e := tu q hq
    rw [upd_ne (ne_of e c.li (by intro z; cases z))]; exact e
theorem pail_new {p a : Addr} {H : Hp} {o : HO} {t : Nat} (h : PailAt H p t) (n : H a = none) : PailAt (upd H a o) p t := by
  obtain ⟨x, y, e, r⟩ := h
  exact ⟨x, y, same_upd n _ _ e, r⟩
theorem pail_set {p l : Addr} {H : Hp} {o : HO} {t : Nat} (h : PailAt H p t) (n : l ≠ p) : PailAt (upd H l o) p t := by
  obtain ⟨x, y, e, r⟩ := h
  exact ⟨x, y, by rw [upd_ne n.symm]; exact e, r⟩
/-- what the pairs so far are -/
structure Sof (m i : Nat) (ks : List (Addr × List Int)) : Prop where
  pr : ∀ q ∈ ks, Pr (m : Int) q.2
  len : ks.length ≤ 3 * i
  ex : ∃ bs : List (List Int), bs.length ≤ i ∧ ∀ q ∈ ks, q.2 ∈ bs ∨ q.2 ∈ bs.map swp
theorem Sof.nil (m : Nat) : Sof m 0 [] := ⟨(fun _ h => nomatch h), Nat.le_refl _, [], Nat.le_refl _, (fun _ h => nomatch h)⟩
/-- one turn's pairs: all of ks, and others that are b or b turned about -/
theorem Sof.turn {m i : Nat} {ks ks' : List (Addr × List Int)} {b : List Int} (s : Sof m i ks) (hb : Pr (m : Int) b) (hl : ks'.length ≤ ks.length + 3) (h : ∀ q ∈ ks', q ∈ ks ∨ q.2 = b ∨ q.2 = swp b) : Sof m (i + 1) ks' := by
  obtain ⟨bs, h1, h2⟩ := s.ex
  have hl0 := s.len
  refine ⟨fun q hq => ?_, by omega, b :: bs, by rw [List.length_cons]; omega, fun q hq => ?_⟩
  · rcases h q hq with z | z | z
    · exact s.pr q z
    · rw [z]; exact hb
    · rw [z]
      obtain ⟨x, y, rfl, hx, hy⟩ := hb
      exact ⟨y, x, rfl, hy, hx⟩
  · rcases h q hq with z | z | z
    · rcases h2 q z with w | w
      · exact .inl (List.mem_cons_of_mem _ w)
      · exact .inr (by rw [List.map_cons]; exact List.mem_cons_of_mem _ w)
    · exact .inl (by rw [z]; exact List.mem_cons_self ..)
    · exact .inr (by rw [z, List.map_cons]; exact List.mem_cons_self ..)
section
variable {P : Program} {w : World} {K : PySem.W.Frag} {mg : Str → Option Value} {base : Heap}
/-! ### _law_pairs -/
theorem scPairs : FnScope ["_law_pail_here", "_law_many", "_law_found", "_law_turn", "_law_pair"] ["_law_pail_here", "_law_many"] (defScope sPairs) := ⟨rfl, rfl, rfl, by decide +kernel, rfl, by decide +kernel, by decide +kernel⟩
def spPairs (K : PySem.W.Frag) : Sp := fun vs H Q _ => ∃ (p : Addr) (t m : Nat), vs = [.ref p, .int (m : Int)] ∧ PailAt H p t ∧ t ≤ 1000 ∧ 1 ≤ m ∧ m ≤ 8 ∧
  ∀ (H' : Hp) (u : Addr) (t' : Nat) (ps : List (List Int)), PailAt H' p t' → t' ≤ t + 60 → But p H H' → Tups K H' u ps → Drw m ps → Q (.ref u) H'
theorem ok_pairs {f fD : Addr} {fd fdD : FuncData} (F : Fun K "_law_pairs" "_law_pairs" sPairs f fd) (DD : DefAt K mg "_law_draw" sDraw ["_law_pail_here", "_law_many"] fD fdD) (B : Bare mg) : FnOk P w K mg base CX0 2 f fd ["_law_pail_here", "_law_many"] (spPairs K) := by
  have GD : FnOk P w K mg base CX0 1 fD fdD ["_law_pail_here", "_law_many"] spDraw := ok_draw DD.fn
  refine F.ok scPairs (fun vs H Q E h => ?_) (fun cdv A outer s H vs Q E hr h => ?_)
  · obtain ⟨p, t, m, rfl, _⟩ := h
    rfl
  · obtain ⟨p, t, m, rfl, hp, ht, m1, m8, q⟩ := h
    refine ⟨_, pss_cons (ps_set (i := 2) scPairs.nd rfl (Or.inl rfl) (pe_lst pa_nil))
      (pss_cons (ps_for PassesOwn.never rfl (pi_range1 (by rfl) B.range (pa_cons (pe_call GD hr (by rfl) DD.mg DD.fn.kp DD.bi .nil pass0 (pa_cons (pv 0) (pa_cons pe_int pa_nil))) pa_nil)) (pg_name (i := 3) scPairs.nd rfl (Or.inl rfl))
        (pss_cons (ps_set (i := 4) scPairs.nd rfl (Or.inl rfl) (pe_tup (pa_cons (pe_call GD hr (by rfl) DD.mg DD.fn.kp DD.bi .nil pass0 (pa_cons (pv 0) (pa_cons (pv 1) pa_nil))) (pa_cons (pe_call GD hr (by rfl) DD.mg DD.fn.kp DD.bi .nil pass0 (pa_cons (pv 0) (pa_cons (pv 1) pa_nil))) pa_nil))))
        (pss_cons (ps_expr (pe_bm PySem.F.plainAttrs_list PySem.F.slot_list_append PySem.F.type_list_append mt_append (pv 2) (pa_cons (pv 4) pa_nil)))
        (pss_cons (ps_if (pt_cmpR op_eq (pe_call GD hr (by rfl) DD.mg DD.fn.kp DD.bi .nil pass0 (pa_cons (pv 0) (pa_cons pe_int pa_nil))) pe_int (nomark _))
          (pss_one (ps_expr (pe_bm PySem.F.plainAttrs_list PySem.F.slot_list_append PySem.F.type_list_append mt_append (pv 2) (pa_cons (pe_backT (pv 4)) pa_nil)))) pss_nil)
        (pss_one (ps_if (pt_cmpR op_eq (pe_call GD hr (by rfl) DD.mg DD.fn.kp DD.bi .nil pass0 (pa_cons (pv 0) (pa_cons pe_int pa_nil))) pe_int (nomark _))
          (pss_one (ps_expr (pe_bm PySem.F.plainAttrs_list PySem.F.slot_list_insert PySem.F.type_list_insert mt_insert (pv 2) (pa_cons (pe_call GD hr (by rfl) DD.mg DD.fn.kp DD.bi .nil pass0 (pa_cons (pv 0) (pa_cons (pe_callB call_len_seq (by rfl) B.len PySem.boot_len (pa_cons (pv 2) pa_nil)) pa_nil))) (pa_cons (pv 4) pa_nil))))) pss_nil))))))
      (pss_one (ps_ret (pe_tupleOf (by rfl) B.tuple (pv 2))))), ?_⟩
    -- found = []
    refine ⟨Nat.zero_le _, fun l nl => ?_⟩
    have hlp : l ≠ p := by
      obtain ⟨x, y, e, _⟩ := hp
      exact (ne_of_none e nl).symm
    have c0 : Core p l H (upd H l (.lst [])) [] := ⟨But.of (same_upd nl), upd_same, fun _ z => nomatch z⟩
    -- range(draw(pail, 12))
    refine ⟨.ref p, rfl, p, t, 12, rfl, pail_new hp nl, by omega, by decide, by decide, fun r t1 H1 r0 r1 ht1 hp1 b1 => ?_⟩
    have c1 := c0.draw hlp (pail_new hp nl) b1
    refine ⟨r, rfl, by omega, by omega, ?_⟩
    refine for_range (lo := 0) (n := r.toNat) (fun i σ H' => ∃ (ks : List (Addr × List Int)) (t' : Nat) (y3 y4 : Option V), σ = [some (.ref p), some (.int (m : Int)), some (.ref l), y3, y4] ∧ Core p l H H' ks ∧ PailAt H' p t' ∧ t' ≤ t + 1 + 5 * i ∧ Sof m i ks)
      ⟨[], t1, none, none, rfl, c1, hp1, by omega, Sof.nil m⟩ ?_ ?_
    · rintro i σ H2 hi ⟨ks, t2, y3, y4, rfl, c2, hp2, ht2, so⟩
      have hi11 : i < 11 := by omega
      have hkl := so.len
      -- pair = (draw, draw)
      refine ⟨.ref p, rfl, .int (m : Int), rfl, p, t2, (m : Int), rfl, hp2, by omega, by omega, by omega, fun x t3 H3 x0 x1 ht3 hp3 b3 => ?_⟩
      have c3 := c2.draw hlp hp2 b3
      refine ⟨.ref p, rfl, .int (m : Int), rfl, p, t3, (m : Int), rfl, hp3, by omega, by omega, by omega, fun y t4 H4 y0 y1 ht4 hp4 b4 => ?_⟩
      have c4 := c3.draw hlp hp3 b4
      refine ⟨(by show 2 ≤ sizeLine; decide), fun T nT => ?_⟩
      have c5 := c4.new (o := .tup [.int x, .int y]) nT
      have hp5 := pail_new (o := .tup [.int x, .int y]) hp4 nT
      have eT : (upd H4 T (.tup [.int x, .int y])) T = some (.tup (([x, y] : List Int).map V.int)) := upd_same
      generalize upd H4 T (.tup [.int x, .int y]) = H5 at c5 hp5 eT ⊢
      -- found.append(pair)
      refine ⟨.ref l, rfl, .inl ⟨rfl, _, lstNew c5.li⟩, .ref T, rfl, l, _, _, rfl, rfl, c5.li, by rw [List.length_map]; exact few1 (by omega), ?_⟩
      have c6 : Core p l H (upd H5 l (.lst ((ks.map fun q => V.ref q.1) ++ [.ref T]))) (ks ++ [(T, [x, y])]) := by
        have z := c5.set (ks' := ks ++ [(T, [x, y])]) nl fun q hq => by
          rcases List.mem_append.mp hq with w | w
          · exact c5.tu q w
          · rw [List.mem_singleton.mp w]; exact eT
        rw [List.map_append] at z; exact z
      have hp6 := pail_set (o := .lst ((ks.map fun q => V.ref q.1) ++ [.ref T])) hp5 hlp
      generalize upd H5 l (.lst ((ks.map fun q => V.ref q.1) ++ [.ref T])) = H6 at c6 hp6 ⊢
      have eT6 : H6 T = some (.tup (([x, y] : List Int).map V.int)) := c6.tu (T, [x, y]) (List.mem_append.mpr (.inr (List.mem_singleton.mpr rfl)))
      have hbase : ∀ q ∈ ks ++ [(T, [x, y])], q ∈ ks ∨ q.2 = [x, y] ∨ q.2 = swp [x, y] := fun q hq => by
        rcases List.mem_append.mp hq with w | w
        · exact .inl w
        · rw [List.mem_singleton.mp w]; exact .inr (.inl rfl)
      -- if draw(pail, 4) == 0
      refine ⟨.ref p, rfl, p, t4, 4, rfl, hp6, by omega, by decide, by decide, fun z t7 H7 z0 z1 ht7 k2 b7 => ⟨rfl, _, rfl, ite2 (fun _ => ?_) (fun _ => ?_)⟩⟩
      · have c7 := c6.draw hlp hp6 b7
        have eT7 := c7.tu (T, [x, y]) (List.mem_append.mpr (.inr (List.mem_singleton.mpr rfl)))
        refine ⟨.ref l, rfl, .inl ⟨rfl, _, lstNew c7.li⟩, .ref T, rfl, T, _, rfl, tupNew eT7, fun U nU => ?_⟩
        have cU := c7.new (o := .tup (([x, y] : List Int).map V.int).reverse) nU
        have eU : (upd H7 U (.tup (([x, y] : List Int).map V.int).reverse)) U = some (.tup (([y, x] : List Int).map V.int)) := upd_same
        have hpU := pail_new (o := .tup (([x, y] : List Int).map V.int).reverse) k2 nU
        generalize upd H7 U (.tup (([x, y] : List Int).map V.int).reverse) = H8' at cU eU hpU ⊢
        refine ⟨l, _, _, rfl, rfl, cU.li, by rw [List.length_map, List.length_append, List.length_singleton]; exact few1 (by omega), ?_⟩
        have k1 : Core p l H (upd H8' l (.lst (((ks ++ [(T, [x, y])]).map fun q => V.ref q.1) ++ [.ref U]))) (ks ++ [(T, [x, y])] ++ [(U, [y, x])]) := by
          have zz := cU.set (ks' := ks ++ [(T, [x, y])] ++ [(U, [y, x])]) nl fun q hq => by
            rcases List.mem_append.mp hq with w | w
            · exact cU.tu q w
            · rw [List.mem_singleton.mp w]; exact eU
          rw [List.map_append (l₂ := [(U, [y, x])])] at zz; exact zz
        have k2 := pail_set (o := .lst (((ks ++ [(T, [x, y])]).map fun q => V.ref q.1) ++ [.ref U])) hpU hlp
        have k7 := k1.tu (T, [x, y]) (List.mem_append.mpr (.inl (List.mem_append.mpr (.inr (List.mem_singleton.mpr rfl)))))
        have k5 : ∀ q ∈ ks ++ [(T, [x, y])] ++ [(U, [y, x])], q ∈ ks ∨ q.2 = [x, y] ∨ q.2 = swp [x, y] := fun q hq => by
          rcases List.mem_append.mp hq with w | w
          · exact hbase q w
          · rw [List.mem_singleton.mp w]; exact .inr (.inr rfl)
        have k4 : (ks ++ [(T, [x, y])] ++ [(U, [y, x])]).length = ks.length + 2 := by rw [List.length_append, List.length_append]; rfl
        generalize upd H8' l (.lst (((ks ++ [(T, [x, y])]).map fun q => V.ref q.1) ++ [.ref U])) = H7' at k1 k2 k7 ⊢
        generalize ks ++ [(T, [x, y])] ++ [(U, [y, x])] = js at k1 k5 k4 k7 ⊢
        refine ⟨.ref p, rfl, p, t7, 6, rfl, k2, by omega, by decide, by decide, fun z t8 H8 z0 z1 ht8 hp8 b8 => ⟨rfl, _, rfl, ite2 (fun _ => ?_) (fun _ => ?_)⟩⟩
        · have c8 := k1.draw hlp k2 b8
          refine ⟨.ref l, rfl, .inl ⟨rfl, _, lstNew c8.li⟩, .ref p, rfl, .ref l, rfl, l, _, rfl, .inl (lstNew c8.li), p, t8, _, rfl, hp8, by omega, ?_, ?_, fun z2 t9 H9 z20 z21 ht9 hp9 b9 => ?_⟩
          · rw [List.length_map]; omega
          · rw [List.length_map]; omega
          rw [List.length_map] at z21
          have c9 := c8.draw hlp hp8 b9
          refine ⟨.ref T, rfl, l, _, z2, .ref T, rfl, rfl, c9.li, by rw [List.length_map]; exact few1 (by omega), z20, by omega, ?_⟩
          have eJ : (js.map fun q => V.ref q.1).take z2.toNat ++ [.ref T] ++ (js.map fun q => V.ref q.1).drop z2.toNat = (js.take z2.toNat ++ [(T, [x, y])] ++ js.drop z2.toNat).map fun q => V.ref q.1 := by
            rw [List.map_append, List.map_append, List.map_take, List.map_drop]; rfl
          have mem9 : ∀ q ∈ js.take z2.toNat ++ [(T, [x, y])] ++ js.drop z2.toNat, q ∈ js ∨ q = (T, [x, y]) := fun q hq => by
            rcases List.mem_append.mp hq with w | w
            · rcases List.mem_append.mp w with w | w
              · exact .inl (List.mem_of_mem_take w)
              · exact .inr (List.mem_singleton.mp w)
            · exact .inl (List.mem_of_mem_drop w)
          have eT9 : H9 T = some (.tup (([x, y] : List Int).map V.int)) := by
            obtain ⟨x', y', e', _⟩ := hp8
            obtain ⟨x7, y7, e7, _⟩ := k2
            have w8 := b8 _ _ k7 fun z => by rw [z, e7] at k7; cases k7
            exact b9 _ _ w8 fun z => by rw [z, e'] at w8; cases w8
          refine ⟨js.take z2.toNat ++ [(T, [x, y])] ++ js.drop z2.toNat, t9, _, _, rfl, ?_, pail_set hp9 hlp, by omega, so.turn (b := [x, y]) ⟨x, y, rfl, ⟨x0, x1⟩, ⟨y0, y1⟩⟩ ?_ fun q hq => ?_⟩
          · rw [eJ]
            refine c9.set nl fun q hq => ?_
            rcases mem9 q hq with w | w
            · exact c9.tu q w
            · rw [w]; exact eT9
          · rw [List.length_append, List.length_append, List.length_take, List.length_drop, List.length_singleton]; omega
          · rcases mem9 q hq with w | w
            · exact k5 q w
            · rw [w]; exact .inr (.inl rfl)
        · exact ⟨js, t8, _, _, rfl, k1.draw hlp k2 b8, hp8, by omega, so.turn (b := [x, y]) ⟨x, y, rfl, ⟨x0, x1⟩, ⟨y0, y1⟩⟩ (by omega) k5⟩
      · have k1 := c6.draw hlp hp6 b7
        have k7 := k1.tu (T, [x, y]) (List.mem_append.mpr (.inr (List.mem_singleton.mpr rfl)))
        have k4 : (ks ++ [(T, [x, y])]).length = ks.length + 1 := by rw [List.length_append]; rfl
        have k5 := hbase
        generalize ks ++ [(T, [x, y])] = js at k1 k5 k4 k7 ⊢
        refine ⟨.ref p, rfl, p, t7, 6, rfl, k2, by omega, by decide, by decide, fun z t8 H8 z0 z1 ht8 hp8 b8 => ⟨rfl, _, rfl, ite2 (fun _ => ?_) (fun _ => ?_)⟩⟩
        · have c8 := k1.draw hlp k2 b8
          refine ⟨.ref l, rfl, .inl ⟨rfl, _, lstNew c8.li⟩, .ref p, rfl, .ref l, rfl, l, _, rfl, .inl (lstNew c8.li), p, t8, _, rfl, hp8, by omega, ?_, ?_, fun z2 t9 H9 z20 z21 ht9 hp9 b9 => ?_⟩
          · rw [List.length_map]; omega
          · rw [List.length_map]; omega
          rw [List.length_map] at z21
          have c9 := c8.draw hlp hp8 b9
          refine ⟨.ref T, rfl, l, _, z2, .ref T, rfl, rfl, c9.li, by rw [List.length_map]; exact few1 (by omega), z20, by omega, ?_⟩
          have eJ : (js.map fun q => V.ref q.1).take z2.toNat ++ [.ref T] ++ (js.map fun q => V.ref q.1).drop z2.toNat = (js.take z2.toNat ++ [(T, [x, y])] ++ js.drop z2.toNat).map fun q => V.ref q.1 := by
            rw [List.map_append, List.map_append, List.map_take, List.map_drop]; rfl
          have mem9 : ∀ q ∈ js.take z2.toNat ++ [(T, [x, y])] ++ js.drop z2.toNat, q ∈ js ∨ q = (T, [x, y]) := fun q hq => by
            rcases List.mem_append.mp hq with w | w
            · rcases List.mem_append.mp w with w | w
              · exact .inl (List.mem_of_mem_take w)
              · exact .inr (List.mem_singleton.mp w)
            · exact .inl (List.mem_of_mem_drop w)
          have eT9 : H9 T = some (.tup (([x, y] : List Int).map V.int)) := by
            obtain ⟨x', y', e', _⟩ := hp8
            obtain ⟨x7, y7, e7, _⟩ := k2
            have w8 := b8 _ _ k7 fun z => by rw [z, e7] at k7; cases k7
            exact b9 _ _ w8 fun z => by rw [z, e'] at w8; cases w8
          refine ⟨js.take z2.toNat ++ [(T, [x, y])] ++ js.drop z2.toNat, t9, _, _, rfl, ?_, pail_set hp9 hlp, by omega, so.turn (b := [x, y]) ⟨x, y, rfl, ⟨x0, x1⟩, ⟨y0, y1⟩⟩ ?_ fun q hq => ?_⟩
          · rw [eJ]
            refine c9.set nl fun q hq => ?_
            rcases mem9 q hq with w | w
            · exact c9.tu q w
            · rw [w]; exact eT9
          · rw [List.length_append, List.length_append, List.length_take, List.length_drop, List.length_singleton]; omega
          · rcases mem9 q hq with w | w
            · exact k5 q w
            · rw [w]; exact .inr (.inl rfl)
        · exact ⟨js, t8, _, _, rfl, k1.draw hlp k2 b8, hp8, by omega, so.turn (b := [x, y]) ⟨x, y, rfl, ⟨x0, x1⟩, ⟨y0, y1⟩⟩ (by omega) k5⟩
    · rintro σ H2 ⟨ks, t2, y3, y4, rfl, c2, hp2, ht2, so⟩
      refine ⟨.ref l, rfl, .inl ⟨l, _, rfl, lstNew c2.li, fun u nu => ?_⟩⟩
      have hkl := so.len
      have hr12 : r.toNat ≤ 11 := by omega
      refine q _ u t2 (ks.map (·.2)) (pail_new hp2 nu) (by omega) (c2.but.trans (But.of (same_upd nu))) ⟨ks, rfl, tupNew upd_same, fun q hq => tupNew (same_upd nu _ _ (c2.tu q hq))⟩ ⟨fun z hz => ?_, by rw [List.length_map]; omega, ?_⟩
      · obtain ⟨k, hk, rfl⟩ := List.mem_map.mp hz
        exact so.pr k hk
      · obtain ⟨bs, h1, h2⟩ := so.ex
        refine ⟨bs, by omega, fun z hz => ?_⟩
        obtain ⟨k, hk, rfl⟩ := List.mem_map.mp hz
        exact h2 k hk
end
end K3
set_option maxHeartbeats 4000000
namespace K3
open PySem PySem.Spec PyProof.Rows L2 RV
/-- the list at l holds the pairs ks, over the heap H -/
structure Bag (l : Addr) (H H' : Hp) (ks : List (Addr × List Int)) : Prop where
  sm : Same H H'
  li : H' l = some (.lst (ks.map fun q => V.ref q.1))
  tu : ∀ q ∈ ks, H' q.1 = some (.tup (q.2.map V.int))
theorem Bag.new {l a : Addr} {H H' : Hp} {o : HO} {ks : List (Addr × List Int)} (c : Bag l H H' ks) (h : H' a = none) : Bag l H (upd H' a o) ks :=
  ⟨c.sm.trans (same_upd h), same_upd h _ _ c.li, fun q hq => same_upd h _ _ (c.tu q hq)⟩
theorem Bag.add {l a : Addr} {H H' : Hp} {ks : List (Addr × List Int)} {p : List Int} (c : Bag l H H' ks) (hl : H l = none) (ha : H' a = some (.tup (p.map V.int))) : Bag l H (upd H' l (.lst ((ks.map fun q => V.ref q.1) ++ [.ref a]))) (ks ++ [(a, p)]) := by
  refine ⟨fun b o e => ?_, by rw [upd_same, List.map_append]; rfl, fun q hq => ?_⟩
  · rw [upd_ne (ne_of_none e hl)]; exact c.sm b o e
  · have e : H' q.1 = some (.tup (q.2.map V.int)) := by
      rcases List.mem_append.mp hq with w | w
      · exact c.tu q w
      · rw [List.mem_singleton.mp w]; exact ha
    rw [upd_ne (ne_of e c.li (by intro z; cases z))]; exact e
def Kind (z : Str) (m : Nat) (ps : List (List Int)) (d : Int) (Pd : Int → Int → Bool) : Prop :=
  (z = "plain" ∧ d = 0 ∧ Pd = pPlain ps) ∨ (z = "ahead" ∧ d = 0 ∧ Pd = pAhead ps) ∨ (z = "back" ∧ d = (m : Int) ∧ Pd = pBack ps)
theorem s1 : ¬ (V.str ("plain" : Str) = V.str "ahead") := by intro h; injection h with h; revert h; decide +kernel
theorem s2 : ¬ (V.str ("plain" : Str) = V.str "back") := by intro h; injection h with h; revert h; decide +kernel
theorem s3 : ¬ (V.str ("ahead" : Str) = V.str "plain") := by intro h; injection h with h; revert h; decide +kernel
theorem s4 : ¬ (V.str ("ahead" : Str) = V.str "back") := by intro h; injection h with h; revert h; decide +kernel
theorem s5 : ¬ (V.str ("back" : Str) = V.str "plain") := by intro h; injection h with h; revert h; decide +kernel
theorem s6 : ¬ (V.str ("back" : Str) = V.str "ahead") := by intro h; injection h with h; revert h; decide +kernel
section
variable {P : Program} {w : World} {K : PySem.W.Frag} {mg : Str → Option Value} {base : Heap}
/-! ### _law_steps_of -/
theorem scOf : FnScope ["_law_many", "_law_pairs_here", "_law_which", "_law_found", "_law_one", "_law_other"] ["_law_many", "_law_pairs_here", "_law_which"] (defScope sStepsOf) := ⟨rfl, rfl, rfl, by decide +kernel, rfl, by decide +kernel, by decide +kernel⟩
def spOf (K : PySem.W.Frag) : Sp := fun vs H Q _ => ∃ (m : Nat) (t : Addr) (z : Str) (ps : List (List Int)) (d : Int) (Pd : Int → Int → Bool), vs = [.int (m : Int), .ref t, .str z] ∧ m ≤ 8 ∧ Tups K H t ps ∧ Kind z m ps d Pd ∧
  ∀ (H' : Hp) (l : Addr) (ks : List (Addr × List Int)), Bag l H H' ks → H l = none → ks.map (·.2) = gridOf d Pd m m → Q (.ref l) H'
theorem ok_of {f : Addr} {fd : FuncData} (F : Fun K "_law_steps_of" "_law_steps_of" sStepsOf f fd) (B : Bare mg) : FnOk P w K mg base CX0 1 f fd ["_law_many", "_law_pairs_here", "_law_which"] (spOf K) := by
  refine F.ok scOf (fun vs H Q E h => ?_) (fun cdv A outer s H vs Q E hr h => ?_)
  · obtain ⟨m, t, z, ps, d, Pd, rfl, _⟩ := h
    rfl
  · obtain ⟨m, t, z, ps, d, Pd, rfl, m8, hTT, hK, q⟩ := h
    refine ⟨_, pss_cons (ps_set (i := 3) scOf.nd rfl (Or.inl rfl) (pe_lst pa_nil))
      (pss_cons (ps_for PassesOwn.never rfl (pi_range1 (by rfl) B.range (pa_cons (pv 0) pa_nil)) (pg_name (i := 4) scOf.nd rfl (Or.inl rfl))
        (pss_one (ps_for PassesOwn.never rfl (pi_range1 (by rfl) B.range (pa_cons (pv 0) pa_nil)) (pg_name (i := 5) scOf.nd rfl (Or.inl rfl))
          (pss_cons (ps_if (PW.pt (pw_and (pt_cmpR op_eq (pv 2) pe_str (nomark _)) (pw_and1 (PW.pt (pw_or (pt_cmpR (op_inTs (un65 hr)) (pe_tup (pa_cons (pv 4) (pa_cons (pv 5) pa_nil))) (pv 1) (by rfl)) (pw_or1 (pt_cmpR (op_inTs (un65 hr)) (pe_tup (pa_cons (pv 5) (pa_cons (pv 4) pa_nil))) (pv 1) (by rfl))))))))
            (pss_one (ps_expr (pe_bm PySem.F.plainAttrs_list PySem.F.slot_list_append PySem.F.type_list_append mt_append (pv 3) (pa_cons (pe_tup (pa_cons (pv 4) (pa_cons (pv 5) pa_nil))) pa_nil)))) pss_nil)
          (pss_cons (ps_if (PW.pt (pw_and (pt_cmpR op_eq (pv 2) pe_str (nomark _)) (pw_and1 (pt_cmpR (op_inTs (un65 hr)) (pe_tup (pa_cons (pv 4) (pa_cons (pv 5) pa_nil))) (pv 1) (by rfl)))))
            (pss_one (ps_expr (pe_bm PySem.F.plainAttrs_list PySem.F.slot_list_append PySem.F.type_list_append mt_append (pv 3) (pa_cons (pe_tup (pa_cons (pv 4) (pa_cons (pv 5) pa_nil))) pa_nil)))) pss_nil)
          (pss_one (ps_if (PW.pt (pw_and (pt_cmpR op_eq (pv 2) pe_str (nomark _)) (pw_and1 (pt_cmpR (op_inTs (un65 hr)) (pe_tup (pa_cons (pv 5) (pa_cons (pv 4) pa_nil))) (pv 1) (by rfl)))))
            (pss_one (ps_expr (pe_bm PySem.F.plainAttrs_list PySem.F.slot_list_append PySem.F.type_list_append mt_append (pv 3) (pa_cons (pe_tup (pa_cons (pe_op op_add (pv 0) (pv 4)) (pa_cons (pe_op op_add (pv 0) (pv 5)) pa_nil))) pa_nil)))) pss_nil)))))))
      (pss_one (ps_ret (pv 3)))), ?_⟩
    refine ⟨Nat.zero_le _, fun l nl => ?_⟩
    have b0 : Bag l H (upd H l (.lst [])) [] := ⟨same_upd nl, upd_same, fun _ z => nomatch z⟩
    refine ⟨.int (m : Int), rfl, (m : Int), rfl, by omega, by omega, ?_⟩
    refine for_range (lo := 0) (n := (m : Int).toNat) (fun i σ H' => ∃ (ks : List (Addr × List Int)) (y4 y5 : Option V), σ = [some (.int (m : Int)), some (.ref t), some (.str z), some (.ref l), y4, y5] ∧ Bag l H H' ks ∧ ks.map (·.2) = gridOf d Pd m i)
      ⟨[], none, none, rfl, b0, rfl⟩ ?_ ?_
    · rintro i σ H1 hi ⟨ks, y4, y5, rfl, b1, e1⟩
      have hig := grid_len d Pd m i
      have him : i < m := by omega
      have him2 : i * m ≤ 8 * 8 := Nat.mul_le_mul (by omega) m8
      refine ⟨.int (m : Int), rfl, (m : Int), rfl, by omega, by omega, ?_⟩
      refine for_range (lo := 0) (n := (m : Int).toNat) (fun j σ H' => ∃ (ks : List (Addr × List Int)) (y5 : Option V), σ = [some (.int (m : Int)), some (.ref t), some (.str z), some (.ref l), some (.int (0 + (i : Nat))), y5] ∧ Bag l H H' ks ∧ ks.map (·.2) = gridOf d Pd m i ++ rowOf d Pd i j)
        ⟨ks, y5, rfl, b1, by rw [e1]; unfold rowOf; simp⟩ ?_ ?_
      · rintro j σ H2 hj ⟨ks, y5, rfl, b2, e2⟩
        have hjm : j < m := by omega
        have hrow := row_len d Pd i j
        have hkl : ks.length ≤ 100 := by
          have z := congrArg List.length e2
          rw [List.length_map, List.length_append] at z
          omega
        have hlen : (ks.map fun q => V.ref q.1).length < sizeLine := by rw [List.length_map]; exact few1 (by omega)
        have ei : (0 + ((i : Nat) : Int)) = (i : Int) := by omega
        have ej : (0 + ((j : Nat) : Int)) = (j : Int) := by omega
        -- how a turn ends
        have yes : ∀ (H' : Hp) (ks' : List (Addr × List Int)) (y : Option V), Bag l H H' ks' → ks'.map (·.2) = ks.map (·.2) ++ [[d + (i : Int), d + (j : Int)]] → Pd (i : Int) (j : Int) = true →
            ∃ (ks : List (Addr × List Int)) (y5 : Option V), [some (.int (m : Int)), some (.ref t), some (.str z), some (.ref l), some (.int (0 + (i : Nat))), y] = [some (V.int (m : Int)), some (.ref t), some (.str z), some (.ref l), some (.int (0 + (i : Nat))), y5] ∧ Bag l H H' ks ∧ ks.map (·.2) = gridOf d Pd m i ++ rowOf d Pd i (j + 1) := fun H' ks' y b e hp =>
          ⟨ks', y, rfl, b, by rw [e, e2, row_next, if_pos hp, List.append_assoc]⟩
        have no : ∀ (H' : Hp) (y : Option V), Bag l H H' ks → Pd (i : Int) (j : Int) = false →
            ∃ (ks : List (Addr × List Int)) (y5 : Option V), [some (.int (m : Int)), some (.ref t), some (.str z), some (.ref l), some (.int (0 + (i : Nat))), y] = [some (V.int (m : Int)), some (.ref t), some (.str z), some (.ref l), some (.int (0 + (i : Nat))), y5] ∧ Bag l H H' ks ∧ ks.map (·.2) = gridOf d Pd m i ++ rowOf d Pd i (j + 1) := fun H' y b hp =>
          ⟨ks, y, rfl, b, by rw [e2, row_next, if_neg (by rw [hp]; exact Bool.false_ne_true), List.append_nil]⟩
        rcases hK with ⟨rfl, rfl, rfl⟩ | ⟨rfl, rfl, rfl⟩ | ⟨rfl, rfl, rfl⟩
        · refine ⟨.str "plain", rfl, rfl, _, rfl, ?_⟩
          rw [decide_eq_true rfl]
          refine iteT ?_
          refine ⟨.int (0 + (i : Nat)), rfl, .int (0 + (j : Nat)), rfl, (by show 2 ≤ sizeLine; decide), fun T nT => ?_⟩
          have b3 := b2.new (o := .tup [.int (0 + (i : Nat)), .int (0 + (j : Nat))]) nT
          refine ⟨.ref t, rfl, T, t, [0 + (i : Nat), 0 + (j : Nat)], ps, rfl, rfl, tupNew upd_same, hTT.same b3.sm, _, rfl, ?_⟩
          generalize upd H2 T (.tup [.int (0 + (i : Nat)), .int (0 + (j : Nat))]) = H3 at b3 ⊢
          by_cases h1 : [0 + ((i : Nat) : Int), 0 + ((j : Nat) : Int)] ∈ ps
          · rw [decide_eq_true h1]
            refine iteT (iteT ?_)
            refine ⟨.ref l, rfl, .inl ⟨rfl, _, lstNew b3.li⟩, .int (0 + (i : Nat)), rfl, .int (0 + (j : Nat)), rfl, (by show 2 ≤ sizeLine; decide), fun U nU => ?_⟩
            have b4 := b3.new (o := .tup [.int (0 + (i : Nat)), .int (0 + (j : Nat))]) nU
            refine ⟨l, _, _, rfl, rfl, b4.li, hlen, ?_⟩
            have b5 := b4.add (a := U) (p := [0 + (i : Nat), 0 + (j : Nat)]) nl upd_same
            refine ⟨.str "plain", rfl, rfl, _, rfl, ?_⟩
            rw [decide_eq_false s1]
            refine iteF (iteF ?_)
            refine ⟨.str "plain", rfl, rfl, _, rfl, ?_⟩
            rw [decide_eq_false s2]
            refine iteF (iteF ?_)
            exact yes _ _ _ b5 (by rw [List.map_append]; rfl) (by rw [ei, ej] at h1; simp [pPlain, h1])
          · rw [decide_eq_false h1]
            refine iteF ?_
            refine ⟨.int (0 + (j : Nat)), rfl, .int (0 + (i : Nat)), rfl, (by show 2 ≤ sizeLine; decide), fun T2 nT2 => ?_⟩
            have b4 := b3.new (o := .tup [.int (0 + (j : Nat)), .int (0 + (i : Nat))]) nT2
            refine ⟨.ref t, rfl, T2, t, [0 + (j : Nat), 0 + (i : Nat)], ps, rfl, rfl, tupNew upd_same, hTT.same b4.sm, _, rfl, ?_⟩
            generalize upd H3 T2 (.tup [.int (0 + (j : Nat)), .int (0 + (i : Nat))]) = H4 at b4 ⊢
            by_cases h2 : [0 + ((j : Nat) : Int), 0 + ((i : Nat) : Int)] ∈ ps
            · rw [decide_eq_true h2]
              refine iteT ?_
              refine ⟨.ref l, rfl, .inl ⟨rfl, _, lstNew b4.li⟩, .int (0 + (i : Nat)), rfl, .int (0 + (j : Nat)), rfl, (by show 2 ≤ sizeLine; decide), fun U nU => ?_⟩
              have b5 := b4.new (o := .tup [.int (0 + (i : Nat)), .int (0 + (j : Nat))]) nU
              refine ⟨l, _, _, rfl, rfl, b5.li, hlen, ?_⟩
              have b6 := b5.add (a := U) (p := [0 + (i : Nat), 0 + (j : Nat)]) nl upd_same
              refine ⟨.str "plain", rfl, rfl, _, rfl, ?_⟩
              rw [decide_eq_false s1]
              refine iteF (iteF ?_)
              refine ⟨.str "plain", rfl, rfl, _, rfl, ?_⟩
              rw [decide_eq_false s2]
              refine iteF (iteF ?_)
              exact yes _ _ _ b6 (by rw [List.map_append]; rfl) (by rw [ei, ej] at h2; simp [pPlain, h2])
            · rw [decide_eq_false h2]
              refine iteF ?_
              refine ⟨.str "plain", rfl, rfl, _, rfl, ?_⟩
              rw [decide_eq_false s1]
              refine iteF (iteF ?_)
              refine ⟨.str "plain", rfl, rfl, _, rfl, ?_⟩
              rw [decide_eq_false s2]
              refine iteF (iteF ?_)
              exact no _ _ b4 (by rw [ei, ej] at h1 h2; simp [pPlain, h1, h2])
        · refine ⟨.str "ahead", rfl, rfl, _, rfl, ?_⟩
          rw [decide_eq_false s3]
          refine iteF (iteF ?_)
          refine ⟨.str "ahead", rfl, rfl, _, rfl, ?_⟩
          rw [decide_eq_true rfl]
          refine iteT ?_
          refine ⟨.int (0 + (i : Nat)), rfl, .int (0 + (j : Nat)), rfl, (by show 2 ≤ sizeLine; decide), fun T nT => ?_⟩
          have b3 := b2.new (o := .tup [.int (0 + (i : Nat)), .int (0 + (j : Nat))]) nT
          refine ⟨.ref t, rfl, T, t, [0 + (i : Nat), 0 + (j : Nat)], ps, rfl, rfl, tupNew upd_same, hTT.same b3.sm, _, rfl, ?_⟩
          generalize upd H2 T (.tup [.int (0 + (i : Nat)), .int (0 + (j : Nat))]) = H3 at b3 ⊢
          by_cases h1 : [0 + ((i : Nat) : Int), 0 + ((j : Nat) : Int)] ∈ ps
          · rw [decide_eq_true h1]
            refine iteT ?_
            refine ⟨.ref l, rfl, .inl ⟨rfl, _, lstNew b3.li⟩, .int (0 + (i : Nat)), rfl, .int (0 + (j : Nat)), rfl, (by show 2 ≤ sizeLine; decide), fun U nU => ?_⟩
            have b4 := b3.new (o := .tup [.int (0 + (i : Nat)), .int (0 + (j : Nat))]) nU
            refine ⟨l, _, _, rfl, rfl, b4.li, hlen, ?_⟩
            have b5 := b4.add (a := U) (p := [0 + (i : Nat), 0 + (j : Nat)]) nl upd_same
            refine ⟨.str "ahead", rfl, rfl, _, rfl, ?_⟩
            rw [decide_eq_false s4]
            refine iteF (iteF ?_)
            exact yes _ _ _ b5 (by rw [List.map_append]; rfl) (by rw [ei, ej] at h1; simp [pAhead, h1])
          · rw [decide_eq_false h1]
            refine iteF ?_
            refine ⟨.str "ahead", rfl, rfl, _, rfl, ?_⟩
            rw [decide_eq_false s4]
            refine iteF (iteF ?_)
            exact no _ _ b3 (by rw [ei, ej] at h1; simp [pAhead, h1])
        · refine ⟨.str "back", rfl, rfl, _, rfl, ?_⟩
          rw [decide_eq_false s5]
          refine iteF (iteF ?_)
          refine ⟨.str "back", rfl, rfl, _, rfl, ?_⟩
          rw [decide_eq_false s6]
          refine iteF (iteF ?_)
          refine ⟨.str "back", rfl, rfl, _, rfl, ?_⟩
          rw [decide_eq_true rfl]
          refine iteT ?_
          refine ⟨.int (0 + (j : Nat)), rfl, .int (0 + (i : Nat)), rfl, (by show 2 ≤ sizeLine; decide), fun T nT => ?_⟩
          have b3 := b2.new (o := .tup [.int (0 + (j : Nat)), .int (0 + (i : Nat))]) nT
          refine ⟨.ref t, rfl, T, t, [0 + (j : Nat), 0 + (i : Nat)], ps, rfl, rfl, tupNew upd_same, hTT.same b3.sm, _, rfl, ?_⟩
          generalize upd H2 T (.tup [.int (0 + (j : Nat)), .int (0 + (i : Nat))]) = H3 at b3 ⊢
          by_cases h1 : [0 + ((j : Nat) : Int), 0 + ((i : Nat) : Int)] ∈ ps
          · rw [decide_eq_true h1]
            refine iteT ?_
            refine ⟨.ref l, rfl, .inl ⟨rfl, _, lstNew b3.li⟩, .int (m : Int), rfl, .int (0 + (i : Nat)), rfl, _, _, rfl, rfl, .int (m : Int), rfl, .int (0 + (j : Nat)), rfl, _, _, rfl, rfl, (by show 2 ≤ sizeLine; decide), fun U nU => ?_⟩
            have b4 := b3.new (o := .tup [.int ((m : Int) + (0 + (i : Nat))), .int ((m : Int) + (0 + (j : Nat)))]) nU
            refine ⟨l, _, _, rfl, rfl, b4.li, hlen, ?_⟩
            have b5 := b4.add (a := U) (p := [(m : Int) + (0 + (i : Nat)), (m : Int) + (0 + (j : Nat))]) nl upd_same
            exact yes _ _ _ b5 (by rw [List.map_append, ei, ej]; rfl) (by rw [ei, ej] at h1; simp [pBack, h1])
          · rw [decide_eq_false h1]
            refine iteF ?_
            exact no _ _ b3 (by rw [ei, ej] at h1; simp [pBack, h1])
      · rintro σ H2 ⟨ks, y5, rfl, b2, e2⟩
        refine ⟨ks, _, _, rfl, b2, ?_⟩
        rw [e2, grid_next, Int.toNat_natCast]
    · rintro σ H1 ⟨ks, y4, y5, rfl, b1, e1⟩
      refine ⟨.ref l, rfl, q H1 l ks b1 nl ?_⟩
      rw [e1, Int.toNat_natCast]
end
end K3
namespace RV
open PySem PySem.Spec PyProof.Rows L2
/-! ### what repr asks of tuples of pairs -/
theorem small_log {i : Int} (h : i.natAbs < 10 ^ 12) : i.natAbs.log2 < 1920 := by
  rcases Nat.eq_zero_or_pos i.natAbs with e | e
  · rw [e]; decide
  · have h1 : i.natAbs < 2 ^ 64 := Nat.lt_of_lt_of_le h (by decide)
    have h2 : i.natAbs.log2 < 64 := (Nat.log2_lt (by omega)).mpr h1
    omega
theorem show_ints : ∀ ns : List Int, (∀ n ∈ ns, n.natAbs < 10 ^ 12) → PyData.showableAll (ns.map PyData.int) = true
  | [], _ => by simp [PyData.showableAll]
  | n :: r, h => by
    have h1 := small_log (h n (List.mem_cons_self ..))
    have h2 := show_ints r fun m hm => h m (List.mem_cons_of_mem _ hm)
    simp [PyData.showableAll, PyData.showable, h1, h2]
theorem show_dIs : ∀ ps : List (List Int), (∀ p ∈ ps, ∀ n ∈ p, n.natAbs < 10 ^ 12) → PyData.showableAll (ps.map dI) = true
  | [], _ => by simp [PyData.showableAll]
  | p :: r, h => by
    have h1 := show_ints p (h p (List.mem_cons_self ..))
    have h2 := show_dIs r fun m hm => h m (List.mem_cons_of_mem _ hm)
    have h3 : (dI p).showable = true := by simp only [dI, PyData.showable]; exact h1
    simp [PyData.showableAll, h3, h2]
theorem short_dIs : ∀ ps : List (List Int), (∀ p ∈ ps, ∀ n ∈ p, n.natAbs < 10 ^ 12) → PyData.intsShortAll 13 (ps.map dI) = true
  | [], _ => by simp [PyData.intsShortAll]
  | p :: r, h => by
    have h1 := PyData.intsShortAll_ints p (h p (List.mem_cons_self ..))
    have h2 := short_dIs r fun m hm => h m (List.mem_cons_of_mem _ hm)
    have h3 : (dI p).intsShort 13 = true := by simp only [dI, PyData.intsShort]; exact h1
    simp [PyData.intsShortAll, h3, h2]
theorem bulk_ints : ∀ ns : List Int, PyData.bulkAll (ns.map PyData.int) = ns.length
  | [] => by simp [PyData.bulkAll]
  | n :: r => by simp [PyData.bulkAll, PyData.bulk, bulk_ints r]; omega
theorem bulk_dIs : ∀ ps : List (List Int), (∀ p ∈ ps, p.length ≤ 2) → PyData.bulkAll (ps.map dI) ≤ 3 * ps.length
  | [], _ => by simp [PyData.bulkAll]
  | p :: r, h => by
    have h1 : (dI p).bulk = p.length := by simp only [dI, PyData.bulk, bulk_ints]
    have h2 := bulk_dIs r fun m hm => h m (List.mem_cons_of_mem _ hm)
    have h3 := h p (List.mem_cons_self ..)
    simp only [List.map_cons, PyData.bulkAll, h1, List.length_cons]
    omega
/-- (ps, os), two tuples of pairs -/
def d2 (ps os : List (List Int)) : PyData := .tuple [dTT ps, dTT os]
theorem pr_small {b : Int} (hb : b ≤ 64) {ps : List (List Int)} (h : ∀ p ∈ ps, Pr b p) : ∀ p ∈ ps, ∀ n ∈ p, n.natAbs < 10 ^ 12 := fun p hp n hn => by
  obtain ⟨x, y, rfl, hx, hy⟩ := h p hp
  simp only [List.mem_cons, List.not_mem_nil, or_false] at hn
  rcases hn with rfl | rfl <;> omega
theorem pr_len {b : Int} {ps : List (List Int)} (h : ∀ p ∈ ps, Pr b p) : ∀ p ∈ ps, p.length ≤ 2 := fun p hp => by
  obtain ⟨x, y, rfl, _⟩ := h p hp
  simp
structure Reprs (ps os : List (List Int)) : Prop where
  h1 : (d2 ps os).showable = true
  h2 : (d2 ps os).hasDict = false
  h3 : (d2 ps os).depth ≤ 64
  h4 : (d2 ps os).shown.length ≤ sizeLine
theorem reprs {b c : Int} (hb : b ≤ 64) (hc : c ≤ 64) {ps os : List (List Int)} (h : ∀ p ∈ ps, Pr b p) (h' : ∀ p ∈ os, Pr c p) (l1 : ps.length ≤ 1000) (l2 : os.length ≤ 1000) : Reprs ps os := by
  have lay : (d2 ps os).canLay0 = true := by
    simp only [d2, dTT, PyData.canLay0, PyData.canLayAll0, lay_dI, Bool.and_self]
  refine ⟨?_, PyData.hasDict_of_canLay _ lay, ?_, ?_⟩
  · simp only [d2, dTT, PyData.showable, PyData.showableAll, show_dIs ps (pr_small hb h), show_dIs os (pr_small hc h'), Bool.and_self]
  · have h1 := dep_dI ps
    have h2 := dep_dI os
    simp only [d2, dTT, PyData.depth, PyData.depthAll]
    omega
  · refine PyData.shown_fits_bulk (B := 13) (by decide) (by decide) (PyData.leavesShort_of_canLay0 13 _ lay ?_) ?_
    · simp only [d2, dTT, PyData.intsShort, PyData.intsShortAll, short_dIs ps (pr_small hb h), short_dIs os (pr_small hc h'), Bool.and_self]
    · have h1 := bulk_dIs ps (pr_len h)
      have h2 := bulk_dIs os (pr_len h')
      simp only [d2, dTT, PyData.bulk, PyData.bulkAll]
      omega
theorem d2_dp {K : PySem.W.Frag} {H : Hp} {T a b : Addr} {ps os : List (List Int)} (h : H T = some (.tup [.ref a, .ref b])) (h1 : Tups K H a ps) (h2 : Tups K H b os) : Dp K H (.ref T) (d2 ps os) :=
  .tup (.inl (.inl h)) (.cons h1.dp (.cons h2.dp .nil))
end RV
set_option maxHeartbeats 4000000
namespace K3
open PySem PySem.Spec PyProof.Rows L2 RV
theorem sqT_pail {K : PySem.W.Frag} {H H' : Hp} {p : Addr} {t : Nat} (hp : PailAt H p t) (b : But p H H') {a : Addr} {xs : List V} (h : SqT K H a xs) : SqT K H' a xs := by
  obtain ⟨x, y, e, _⟩ := hp
  rcases h with (h | ⟨o, h⟩) | h
  · exact .inl (.inl (b _ _ h fun z => by rw [z, e] at h; cases h))
  · exact .inl (.inr ⟨o, b _ _ h fun z => by rw [z, e] at h; cases h⟩)
  · exact .inr h
theorem tups_pail {K : PySem.W.Frag} {H H' : Hp} {p : Addr} {t : Nat} (hp : PailAt H p t) (b : But p H H') {a : Addr} {ps : List (List Int)} (h : Tups K H a ps) : Tups K H' a ps := by
  obtain ⟨ks, h1, h2, h3⟩ := h
  exact ⟨ks, h1, sqT_pail hp b h2, fun q hq => sqT_pail hp b (h3 q hq)⟩
theorem same_but {p : Addr} {H H1 H2 : Hp} (s : Same H H1) (n : H p = none) (b : But p H1 H2) : Same H H2 := fun c o e => b c o (s c o e) (ne_of_none e n)
theorem pail_same {p : Addr} {H H' : Hp} {t : Nat} (h : PailAt H p t) (s : Same H H') : PailAt H' p t := by
  obtain ⟨x, y, e, r⟩ := h
  exact ⟨x, y, s _ _ e, r⟩
theorem Bag.tups {K : PySem.W.Frag} {l : Addr} {H H' H2 : Hp} {ks : List (Addr × List Int)} (b : Bag l H H' ks) (s : Same H' H2) : ∀ q ∈ ks, SqT K H2 q.1 (q.2.map V.int) := fun q hq => tupNew (s _ _ (b.tu q hq))
section
variable {P : Program} {w : World} {K : PySem.W.Frag} {mg : Str → Option Value} {base : Heap}
/-! ### law -/
theorem scLaw : FnScope ["_law_script", "_law_k", "_law_pail_here", "_law_turn", "_law_many", "_law_few", "_law_pairs_here", "_law_others", "_law_kept", "_law_due", "_law_twice", "_law_mirrors"] ["_law_script"] (defScope sLaw) := ⟨rfl, rfl, rfl, by decide +kernel, rfl, by decide +kernel, by decide +kernel⟩
def spLaw (K : PySem.W.Frag) : Sp := fun vs H Q _ => ∃ (a : Addr) (ns : List Int), vs = [.ref a] ∧ SqL K H a (ns.map V.int) ∧ ns.length ≤ 63 ∧ ∀ H', Q (.bl true) H'
/-- the defs that law calls -/
structure Defs (K : PySem.W.Frag) (mg : Str → Option Value) (C fP fD fR fO f1 f2 fI fE : Addr) (dP dD dR dO d1 d2 dI dE : FuncData) : Prop where
  T : Txt K mg C
  B : Bare mg
  pail : DefAt K mg "_law_pail" sPail ["_law_script", "_law_at"] fP dP
  draw : DefAt K mg "_law_draw" sDraw ["_law_pail_here", "_law_many"] fD dD
  pairs : DefAt K mg "_law_pairs" sPairs ["_law_pail_here", "_law_many"] fR dR
  stepsOf : DefAt K mg "_law_steps_of" sStepsOf ["_law_many", "_law_pairs_here", "_law_which"] fO dO
  plain : DefAt K mg "plain_rule" sPlain ["many", "pairs"] f1 d1
  oneway : DefAt K mg "one_way_rule" sOneWay ["many", "pairs"] f2 d2
  M : Mk K C fI
  init : Fun K "__init__" "Rule.__init__" sInit fI dI
  binit : Binds K dI ["self", "mirrors", "steps"] []
  eq : Fun K "__eq__" "Rule.__eq__" sEq fE dE
  beq : Binds K dE ["self", "other"] []
  fEq : PySem.W.findIn K (.ref C) "__eq__" = some (some (.ref fE))
  iEq : PySem.W.isFn K (.ref fE) = true
  fNe : PySem.W.findIn K (.ref C) "__ne__" = some (some (.builtin "object.__ne__"))
theorem ok_law {f C fP fD fR fO f1 f2 fI fE : Addr} {fd dP dD dR dO d1 d2' dI dE : FuncData} (F : Fun K "law" "law" sLaw f fd) (X : Defs K mg C fP fD fR fO f1 f2 fI fE dP dD dR dO d1 d2' dI dE)
    (GI : FnOk P w K mg base CX0 6 fI dI ["self", "mirrors", "steps"] (spInit K C)) : FnG P w K mg base CX0 9 f fd ["_law_script"] (spLaw K) := by
  obtain ⟨T, B, DP, DD, DR, DO, D1, D2, M, FI, bI, FE, bE, e1, e2, e3⟩ := X
  have GP : FnOk P w K mg base CX0 1 fP dP ["_law_script", "_law_at"] (spPail K) := ok_pail DP.fn B
  have GD : FnOk P w K mg base CX0 1 fD dD ["_law_pail_here", "_law_many"] spDraw := ok_draw DD.fn
  have GR : FnOk P w K mg base CX0 2 fR dR ["_law_pail_here", "_law_many"] (spPairs K) := ok_pairs DR.fn DD B
  have GO : FnOk P w K mg base CX0 1 fO dO ["_law_many", "_law_pairs_here", "_law_which"] (spOf K) := ok_of DO.fn B
  have G1 : FnOk P w K mg base CX0 8 f1 d1 ["many", "pairs"] (spPlain K C) := ok_plain D1.fn T M bI GI B
  have G2 : FnOk P w K mg base CX0 8 f2 d2' ["many", "pairs"] (spOne K C) := ok_one D2.fn T M bI GI B
  have GE : FnOk P w K mg base CX0 1 fE dE ["self", "other"] (spEq K C) := ok_eq FE T B
  refine okG F scLaw (fun vs H Q E h => ?_) (fun cdv A outer s H vs Q E gd hr h => ?_)
  · obtain ⟨a, ns, rfl, _⟩ := h
    rfl
  · obtain ⟨a, ns, rfl, hS, hlen, q⟩ := h
    have hr1 := hr.mono (show 1 ≤ 8 by decide)
    have hr2 := hr.mono (show 2 ≤ 8 by decide)
    have hr7 := hr.mono (show 7 ≤ 8 by decide)
    refine ⟨_, pss_cons (ps_for PassesOwn.never rfl (pi_range1 (by rfl) B.range (pa_cons (pe_callB (call_max2 rfl) (by rfl) B.max (by decide +kernel) (pa_cons pe_int (pa_cons (pe_callB (call_min2 rfl) (by rfl) B.min (by decide +kernel) (pa_cons pe_int (pa_cons (pe_callB call_len_seq (by rfl) B.len PySem.boot_len (pa_cons (pv 0) pa_nil)) pa_nil))) pa_nil))) pa_nil)) (pg_name (i := 1) scLaw.nd rfl (Or.inl rfl))
        (pss_cons (ps_set (i := 2) scLaw.nd rfl (Or.inl rfl) (pe_call GP hr1 (by rfl) DP.mg DP.fn.kp DP.bi .nil pass0 (pa_cons (pv 0) (pa_cons (pv 1) pa_nil))))
        (pss_one (ps_for PassesOwn.never rfl (pi_range1 (by rfl) B.range (pa_cons pe_int pa_nil)) (pg_name (i := 3) scLaw.nd rfl (Or.inl rfl))
          (pss_cons (ps_par (i := 4) (j := 5) (by rfl) scLaw.nd rfl rfl (by decide) rfl rfl (pa_cons (pe_op op_add pe_int (pe_call GD hr1 (by rfl) DD.mg DD.fn.kp DD.bi .nil pass0 (pa_cons (pv 2) (pa_cons pe_int pa_nil)))) (pa_cons (pe_op op_add pe_int (pe_call GD hr1 (by rfl) DD.mg DD.fn.kp DD.bi .nil pass0 (pa_cons (pv 2) (pa_cons pe_int pa_nil)))) pa_nil)) (by rfl))
          (pss_cons (ps_par (i := 6) (j := 7) (by rfl) scLaw.nd rfl rfl (by decide) rfl rfl (pa_cons (pe_call GR hr2 (by rfl) DR.mg DR.fn.kp DR.bi .nil pass0 (pa_cons (pv 2) (pa_cons (pv 4) pa_nil))) (pa_cons (pe_call GR hr2 (by rfl) DR.mg DR.fn.kp DR.bi .nil pass0 (pa_cons (pv 2) (pa_cons (pv 5) pa_nil))) pa_nil)) (by rfl))
          (pss_cons (ps_set (i := 8) scLaw.nd rfl (Or.inl rfl) (pe_callB (call_reprD gd (un65 hr)) (by rfl) B.repr (by decide +kernel) (pa_cons (pe_tup (pa_cons (pv 6) (pa_cons (pv 7) pa_nil))) pa_nil)))
          (pss_cons (ps_set (i := 9) scLaw.nd rfl (Or.inl rfl) (pe_make M GI hr7 (by rfl) T.mgC bI .nil pass0 (pa_cons (pe_tupleOf (by rfl) B.tuple (pe_listRg rfl (by rfl) B.list (prg_1 (by rfl) B.range (pv 4)))) (pa_cons (pe_tupleOf (by rfl) B.tuple (pe_call GO hr1 (by rfl) DO.mg DO.fn.kp DO.bi .nil pass0 (pa_cons (pv 4) (pa_cons (pv 6) (pa_cons pe_str pa_nil))))) pa_nil))))
          (pss_cons (ps_set (i := 10) scLaw.nd rfl (Or.inl rfl) (pe_op op_cat (pe_call GO hr1 (by rfl) DO.mg DO.fn.kp DO.bi .nil pass0 (pa_cons (pv 5) (pa_cons (pv 7) (pa_cons pe_str pa_nil)))) (pe_call GO hr1 (by rfl) DO.mg DO.fn.kp DO.bi .nil pass0 (pa_cons (pv 5) (pa_cons (pv 7) (pa_cons pe_str pa_nil))))))
          (pss_cons (ps_set (i := 11) scLaw.nd rfl (Or.inl rfl) (pe_tupleOf (by rfl) B.tuple (pe_op op_cat (pe_listRg rfl (by rfl) B.list (prg_2 (by rfl) B.range (pv 5) (pe_op op_mul pe_int (pv 5)))) (pe_listRg rfl (by rfl) B.list (prg_1 (by rfl) B.range (pv 5))))))
          (pss_cons (ps_if (PW.pt (pw_or (pt_cmpR (op_neI GE hr2 e3 T.c4 e1 e2 bE pass0) (pe_call G1 hr (by rfl) D1.mg D1.fn.kp D1.bi .nil pass0 (pa_cons (pv 4) (pa_cons (pv 6) pa_nil))) (pv 9) (nomark _))
              (pw_or1 (pt_cmpR (op_neI GE hr2 e3 T.c4 e1 e2 bE pass0) (pe_call G2 hr (by rfl) D2.mg D2.fn.kp D2.bi .nil pass0 (pa_cons (pv 5) (pa_cons (pv 7) pa_nil))) (pe_make M GI hr7 (by rfl) T.mgC bI .nil pass0 (pa_cons (pv 11) (pa_cons (pe_tupleOf (by rfl) B.tuple (pv 10)) pa_nil))) (nomark _))))) (pss_one (ps_ret pe_bl)) pss_nil)
          (pss_one (ps_if (pt_cmpR op_ne (pe_callB (call_reprD gd (un65 hr)) (by rfl) B.repr (by decide +kernel) (pa_cons (pe_tup (pa_cons (pv 6) (pa_cons (pv 7) pa_nil))) pa_nil)) (pv 8) (nomark _)) (pss_one (ps_ret pe_bl)) pss_nil)))))))))))))
      (pss_one (ps_ret pe_bl)), ?_⟩
    refine ⟨.ref a, rfl, a, _, rfl, .inl hS, 3, _, rfl, 1, _, rfl, ?_⟩
    have vb : ∀ n : Int, 0 ≤ n → n ≤ 63 → 1 ≤ (if (if n < 3 then n else 3) > 1 then (if n < 3 then n else 3) else 1) ∧ (if (if n < 3 then n else 3) > 1 then (if n < 3 then n else 3) else 1) ≤ 3 := fun n _ _ => by
      split <;> split <;> omega
    have vb1 := vb ((ns.map V.int).length : Int) (by omega) (by rw [List.length_map]; omega)
    refine ⟨_, rfl, by omega, by omega, ?_⟩
    refine for_range (lo := 0) (n := _) (fun i σ H' => ∃ (y1 y2 y3 y4 y5 y6 y7 y8 y9 y10 y11 : Option V), σ = [some (.ref a), y1, y2, y3, y4, y5, y6, y7, y8, y9, y10, y11] ∧ Same H H')
      ⟨none, none, none, none, none, none, none, none, none, none, none, rfl, Same.refl H⟩ ?_ ?_
    · rintro i σ H1 hi ⟨y1, y2, y3, y4, y5, y6, y7, y8, y9, y10, y11, rfl, s1⟩
      have hi3 : i < 64 := by omega
      -- the pail
      refine ⟨.ref a, rfl, .int (0 + (i : Nat)), rfl, a, ns, i, by rw [Int.zero_add]; rfl, s1.seq hS, hi3, fun H2 p s2 np1 hp2 => ?_⟩
      have np : H p = none := s1.free np1
      have s02 := s1.trans s2
      -- three times
      refine ⟨3, rfl, by decide, by decide, ?_⟩
      refine for_range (lo := 0) (n := 3) (fun j σ H' => ∃ (y3 y4 y5 y6 y7 y8 y9 y10 y11 : Option V) (t : Nat), σ = [some (.ref a), some (.int (0 + (i : Nat))), some (.ref p), y3, y4, y5, y6, y7, y8, y9, y10, y11] ∧ Same H H' ∧ PailAt H' p t ∧ t ≤ 200 * j)
        ⟨y3, y4, y5, y6, y7, y8, y9, y10, y11, 0, rfl, s02, hp2, Nat.le_refl _⟩ ?_ ?_
      · rintro j σ H3 hj ⟨y3, y4, y5, y6, y7, y8, y9, y10, y11, t, rfl, s3, hp3, ht⟩
        have ht400 : t ≤ 400 := by omega
        -- many, few
        refine ⟨.ref p, rfl, p, t, 8, rfl, hp3, by omega, by decide, by decide, fun r1 t4 H4 r10 r11 ht4 hp4 b4 => ⟨1, r1, rfl, rfl, ?_⟩⟩
        refine ⟨.ref p, rfl, p, t4, 4, rfl, hp4, by omega, by decide, by decide, fun r2 t5 H5 r20 r21 ht5 hp5 b5 => ⟨1, r2, rfl, rfl, ?_⟩⟩
        obtain ⟨m, em⟩ : ∃ m : Nat, 1 + r1 = (m : Int) := ⟨(1 + r1).toNat, by omega⟩
        obtain ⟨n, en⟩ : ∃ n : Nat, 1 + r2 = (n : Int) := ⟨(1 + r2).toNat, by omega⟩
        refine ⟨.int (m : Int), .int (n : Int), by rw [← em, ← en], ?_⟩
        have s5 : Same H H5 := same_but (same_but s3 np b4) np b5
        have m1 : 1 ≤ m := by omega
        have m8 : m ≤ 8 := by omega
        have n1 : 1 ≤ n := by omega
        have n4 : n ≤ 4 := by omega
        clear b4 b5 hp3 hp4 s3 em en
        -- pairs, others
        refine ⟨.ref p, rfl, .int (m : Int), rfl, p, t5, m, rfl, hp5, by omega, m1, m8, fun H6 u1 t6 ps hp6 ht6 b6 hT1 hD1 => ?_⟩
        refine ⟨.ref p, rfl, .int (n : Int), rfl, p, t6, n, rfl, hp6, by omega, n1, by omega, fun H7 u2 t7 os hp7 ht7 b7 hT2 hD2 => ?_⟩
        have s7 : Same H H7 := same_but (same_but s5 np b6) np b7
        have hT1 := tups_pail hp6 b7 hT1
        refine ⟨.ref u1, .ref u2, rfl, ?_⟩
        clear b6 b7 hp5 hp6
        have rp := reprs (b := (m : Int)) (c := (n : Int)) (by omega) (by omega) hD1.pr hD2.pr (by have := hD1.len; omega) (by have := hD2.len; omega)
        -- kept
        refine ⟨.ref u1, rfl, .ref u2, rfl, (by show 2 ≤ sizeLine; decide), fun U nU => ?_⟩
        have s8 := same_upd (o := .tup [.ref u1, .ref u2]) nU
        refine ⟨U, RV.d2 ps os, rfl, d2_dp upd_same (hT1.same s8) (hT2.same s8), rp.h1, rp.h2, rp.h3, rp.h4, ?_⟩
        have s08 := s7.trans s8
        replace hT1 := hT1.same s8
        replace hT2 := hT2.same s8
        replace hp7 := pail_same hp7 s8
        generalize upd H7 U (.tup [.ref u1, .ref u2]) = H8 at s8 s08 hT1 hT2 hp7 ⊢
        -- due
        refine ⟨.int (m : Int), rfl, (m : Int), rfl, RgOk.of_le (by omega) (by omega) (by omega) (by omega), fun l1 nl1 => .inl ⟨l1, _, rfl, lstNew upd_same, fun c1 nc1 => ?_⟩⟩
        have s9 := (same_upd (o := .lst (rgV 0 (m : Int))) nl1).trans (same_upd (o := .tup (rgV 0 (m : Int))) nc1)
        have ec1 : (upd (upd H8 l1 (.lst (rgV 0 (m : Int)))) c1 (.tup (rgV 0 (m : Int)))) c1 = some (.tup ((idM m).map V.int)) := by rw [upd_same]; unfold idM; rw [rgV_rgI]
        generalize upd (upd H8 l1 (.lst (rgV 0 (m : Int)))) c1 (.tup (rgV 0 (m : Int))) = H9 at s9 ec1 ⊢
        refine ⟨.int (m : Int), rfl, .ref u1, rfl, m, u1, "plain", ps, 0, pPlain ps, rfl, m8, hT1.same s9, .inl ⟨rfl, rfl, rfl⟩, fun H10 l2 ks1 bg1 nl2 ek1 => .inl ⟨l2, _, rfl, lstNew bg1.li, fun c2 nc2 => ?_⟩⟩
        have s11 := same_upd (o := .tup (ks1.map fun q => V.ref q.1)) nc2
        refine fun x dx nx nd ne => make_rule (ns := idM m) (ps := plainSteps m ps) (tupNew (s11 _ _ (bg1.sm _ _ ec1))) ⟨ks1, ek1, tupNew upd_same, bg1.tups s11⟩ (mir_id m1 m8) (stp_plain m1 m8 ps) nx nd ne fun H11 s12 Rd => ?_
        have s811 := ((s9.trans bg1.sm).trans s11).trans s12
        have s011 := s08.trans s811
        have hT1 := hT1.same s811
        have hT2 := hT2.same s811
        have hp11 := pail_same hp7 s811
        clear s9 s11 s12 bg1 ec1 nl1 nc1 nl2 nc2 nx nd ne s811 ek1
        -- twice
        refine ⟨.int (n : Int), rfl, .ref u2, rfl, n, u2, "ahead", os, 0, pAhead os, rfl, by omega, hT2, .inr (.inl ⟨rfl, rfl, rfl⟩), fun H12 l3 ks2 bg2 nl3 ek2 => ?_⟩
        refine ⟨.int (n : Int), rfl, .ref u2, rfl, n, u2, "back", os, (n : Int), pBack os, rfl, by omega, hT2.same bg2.sm, .inr (.inr ⟨rfl, rfl, rfl⟩), fun H13 l4 ks3 bg3 nl4 ek3 => ?_⟩
        have len2 : ks2.length ≤ 16 := by
          have z := congrArg List.length ek2
          rw [List.length_map] at z
          have z2 := grid_len 0 (pAhead os) n n
          have z3 : n * n ≤ 4 * 4 := Nat.mul_le_mul n4 n4
          omega
        have len3 : ks3.length ≤ 16 := by
          have z := congrArg List.length ek3
          rw [List.length_map] at z
          have z2 := grid_len (n : Int) (pBack os) n n
          have z3 : n * n ≤ 4 * 4 := Nat.mul_le_mul n4 n4
          omega
        refine ⟨l3, l4, _, _, rfl, rfl, bg3.sm _ _ bg2.li, bg3.li, by rw [List.length_map, List.length_map]; exact Nat.le_of_lt (few1 (by omega)), fun l5 nl5 => ?_⟩
        have s14 := same_upd (o := .lst ((ks2.map fun q => V.ref q.1) ++ (ks3.map fun q => V.ref q.1))) nl5
        have el5 : (upd H13 l5 (.lst ((ks2.map fun q => V.ref q.1) ++ (ks3.map fun q => V.ref q.1)))) l5 = some (.lst ((ks2 ++ ks3).map fun q => V.ref q.1)) := by rw [upd_same, List.map_append]
        have tu23 : ∀ q ∈ ks2 ++ ks3, SqT K (upd H13 l5 (.lst ((ks2.map fun q => V.ref q.1) ++ (ks3.map fun q => V.ref q.1)))) q.1 (q.2.map V.int) := fun q hq => by
          rcases List.mem_append.mp hq with z | z
          · exact bg2.tups (bg3.sm.trans s14) q z
          · exact bg3.tups s14 q z
        have ek23 : (ks2 ++ ks3).map (·.2) = aheadSteps n os ++ backSteps n os := by rw [List.map_append, ek2, ek3]; rfl
        have s1114 := (bg2.sm.trans bg3.sm).trans s14
        generalize upd H13 l5 (.lst ((ks2.map fun q => V.ref q.1) ++ (ks3.map fun q => V.ref q.1))) = H14 at s14 el5 tu23 s1114 ⊢
        generalize ks2 ++ ks3 = ks5 at el5 tu23 ek23
        have s014 := s011.trans s1114
        have hT1 := hT1.same s1114
        have hT2 := hT2.same s1114
        have hp14 := pail_same hp11 s1114
        have Rd := Rd.same s1114
        clear bg2 bg3 s14 s1114 ek2 ek3 len2 len3 nl3 nl4 nl5 hp11 s011
        -- mirrors
        refine ⟨.int (n : Int), rfl, .int (n : Int), rfl, 2, (n : Int), rfl, rfl, .inl ⟨by decide, by decide⟩, (n : Int), 2 * (n : Int), rfl, rfl, RgOk.of_le (by omega) (by omega) (by omega) (by omega), fun l6 nl6 => ?_⟩
        refine ⟨.int (n : Int), rfl, (n : Int), rfl, RgOk.of_le (by omega) (by omega) (by omega) (by omega), fun l7 nl7 => ?_⟩
        have q1 := same_upd (o := .lst (rgV (n : Int) (2 * (n : Int)))) nl6
        have q2 := same_upd (o := .lst (rgV 0 (n : Int))) nl7
        refine ⟨l6, l7, _, _, rfl, rfl, q2 _ _ upd_same, upd_same, by rw [rgV_length, rgV_length]; exact Nat.le_of_lt (few1 (by omega)), fun l8 nl8 => .inl ⟨l8, _, rfl, lstNew upd_same, fun c3 nc3 => ?_⟩⟩
        have q4 := ((q1.trans q2).trans (same_upd (o := .lst (rgV (n : Int) (2 * (n : Int)) ++ rgV 0 (n : Int))) nl8)).trans (same_upd (o := .tup (rgV (n : Int) (2 * (n : Int)) ++ rgV 0 (n : Int))) nc3)
        have ec3 : (upd (upd (upd (upd H14 l6 (.lst (rgV (n : Int) (2 * (n : Int))))) l7 (.lst (rgV 0 (n : Int)))) l8 (.lst (rgV (n : Int) (2 * (n : Int)) ++ rgV 0 (n : Int)))) c3 (.tup (rgV (n : Int) (2 * (n : Int)) ++ rgV 0 (n : Int)))) c3 = some (.tup ((owM n).map V.int)) := by
          rw [upd_same]; unfold owM; rw [List.map_append, rgV_rgI, rgV_rgI]
        generalize upd (upd (upd (upd H14 l6 (.lst (rgV (n : Int) (2 * (n : Int))))) l7 (.lst (rgV 0 (n : Int)))) l8 (.lst (rgV (n : Int) (2 * (n : Int)) ++ rgV 0 (n : Int)))) c3 (.tup (rgV (n : Int) (2 * (n : Int)) ++ rgV 0 (n : Int))) = H15 at q4 ec3 ⊢
        have s015 := s014.trans q4
        have hT1 := hT1.same q4
        have hT2 := hT2.same q4
        have hp15 := pail_same hp14 q4
        have Rd := Rd.same q4
        have el5 := q4 _ _ el5
        have tu5 : ∀ q ∈ ks5, SqT K H15 q.1 (q.2.map V.int) := fun q hq => sqT_same q4 (tu23 q hq)
        clear q1 q2 q4 nl6 nl7 nl8 nc3 tu23 hp14 s014
        -- plain_rule(..) != due
        refine ⟨.int (m : Int), rfl, .ref u1, rfl, m, u1, ps, rfl, m1, m8, hT1, hD1, fun H16 x1 s16 R1 => ?_⟩
        have Rd16 := Rd.same s16
        obtain ⟨dx1, a1, b1, c1', g1, _⟩ := R1.ex
        obtain ⟨dx2, a2, b2, c2', g2, _⟩ := Rd16.ex
        refine ⟨.ref x, rfl, x1, x, _, _, _, _, rfl, rfl, g1, g2, x1, x, idM m, idM m, plainSteps m ps, plainSteps m ps, rfl, R1, Rd16, true, by rw [decide_eq_true rfl, decide_eq_true rfl]; rfl, false, rfl, iteF ?_⟩
        -- one_way_rule(..) != Rule(..)
        refine ⟨.int (n : Int), rfl, .ref u2, rfl, n, u2, os, rfl, n1, n4, hT2.same s16, hD2, fun H17 x3 s17 R3 => ?_⟩
        have s1517 := s16.trans s17
        refine ⟨.ref c3, rfl, .ref l5, rfl, .inl ⟨l5, _, rfl, lstNew (s1517 _ _ el5), fun c4 nc4 => ?_⟩⟩
        have s18 := same_upd (o := .tup (ks5.map fun q => V.ref q.1)) nc4
        refine fun x4 dx4 nx4 nd4 ne4 => make_rule (ns := owM n) (ps := aheadSteps n os ++ backSteps n os) (tupNew (s18 _ _ (s1517 _ _ ec3))) ⟨ks5, ek23, tupNew upd_same, fun q hq => sqT_same (s1517.trans s18) (tu5 q hq)⟩ (mir_ow n1 n4) (stp_one n1 n4 os) nx4 nd4 ne4 fun H19 s19 R4 => ?_
        have s1719 := s18.trans s19
        have R3' := R3.same s1719
        obtain ⟨dx5, a5, b5, c5, g5, _⟩ := R3'.ex
        obtain ⟨dx6, a6, b6, c6, g6, _⟩ := R4.ex
        refine ⟨x3, x4, _, _, _, _, rfl, rfl, g5, g6, x3, x4, owM n, owM n, aheadSteps n os ++ backSteps n os, aheadSteps n os ++ backSteps n os, rfl, R3', R4, true, by rw [decide_eq_true rfl, decide_eq_true rfl]; rfl, false, rfl, iteF ?_⟩
        have s1519 := s1517.trans s1719
        -- repr(..) != kept
        refine ⟨.ref u1, rfl, .ref u2, rfl, (by show 2 ≤ sizeLine; decide), fun U2 nU2 => ?_⟩
        have s20 := same_upd (o := .tup [.ref u1, .ref u2]) nU2
        have s1520 := s1519.trans s20
        refine ⟨U2, RV.d2 ps os, rfl, d2_dp upd_same (hT1.same s1520) (hT2.same s1520), rp.h1, rp.h2, rp.h3, rp.h4, .str (RV.d2 ps os).shown, rfl, rfl, _, rfl, iteNS rfl ?_⟩
        exact ⟨_, _, _, _, _, _, _, _, _, t7, rfl, s015.trans s1520, pail_same hp15 s1520, by omega⟩
      · rintro σ H3 ⟨y3, y4, y5, y6, y7, y8, y9, y10, y11, t, rfl, s3, hp3, ht⟩
        exact ⟨_, _, _, _, _, _, _, _, _, _, _, rfl, s3⟩
    · rintro σ H1 ⟨y1, y2, y3, y4, y5, y6, y7, y8, y9, y10, y11, rfl, s1⟩
      exact q H1
end
end K3
set_option maxHeartbeats 4000000
namespace K3
open PySem PySem.Spec PyProof.Rows L2 RV
theorem kit_self {K : PySem.W.Frag} {C : Addr} : PySem.W.kitOne K (.ref C) (.ref C) = some true := by
  unfold PySem.W.kitOne
  simp
theorem def_mk {K : PySem.W.Frag} {h : Heap} {mg : Str → Option Value} {x : Str} {st : Stmt} {ps : List Str} {f : Addr} {oc : Value} {od an : Option Addr} {sl : Array (Option Value)} {kV dc pm cd ct : Value} (X : K.In h) (G : h.Ns mainGlobals mg)
    (a : PySem.W.nsIn K mainGlobals x = some (some (.ref f))) (l : K.lookup f = some ⟨oc, od, .func (PySem.W.fnOf x x (defArgs st) (defBody st) (defScope st) .none kV dc pm an cd ct), sl⟩) (c : PySem.W.codeIn K cd x = true) (k : PySem.W.keepIn K (.ref f) = true)
    (hb : ∀ (kV doc pm : Value) (an : Option Addr) (cdv ct : Value) (us : List Value), us.length = ps.length → bindArgs (PySem.W.fnOf x x (defArgs st) (defBody st) (defScope st) .none kV doc pm an cdv ct) ⟨us, []⟩ = pure (ps.zip us)) :
    DefAt K mg x st ps f (PySem.W.fnOf x x (defArgs st) (defBody st) (defScope st) .none kV dc pm an cd ct) :=
  let F := fun_mk (st := st) l c k
  ⟨F, F.binds hb, PySem.W.mg_of X G a⟩
theorem all_mk {l : PySem.W.OpenLaw} {w : World} {K : PySem.W.Frag} {h : Heap} {mg : Str → Option Value} {fa C f1 f2 f3 f4 f5 f6 f7 f8 f9 f10 f11 f12 f13 f14 f15 f16 f17 : Addr} {tk : Tok} (X : K.In h) (G : h.Ns mainGlobals mg) (hfa : mg "law" = some (.ref fa))
    {od1 an1 od2 an2 od3 an3 od4 an4 od5 an5 od6 an6 od7 an7 od8 an8 od9 an9 od10 an10 od11 an11 od12 an12 od13 an13 od14 an14 od15 an15 od16 an16 od17 an17 : Option Addr} {sl1 sl2 sl3 sl4 sl5 sl6 sl7 sl8 sl9 sl10 sl11 sl12 sl13 sl14 sl15 sl16 sl17 : Array (Option Value)}
    {oc1 kV1 dc1 pm1 cd1 ct1 oc2 kV2 dc2 pm2 cd2 ct2 oc3 kV3 dc3 pm3 cd3 ct3 oc4 kV4 dc4 pm4 cd4 ct4 oc5 kV5 dc5 pm5 cd5 ct5 oc6 kV6 dc6 pm6 cd6 ct6 oc7 kV7 dc7 pm7 cd7 ct7 oc8 kV8 dc8 pm8 cd8 ct8 oc9 kV9 dc9 pm9 cd9 ct9 oc10 kV10 dc10 pm10 cd10 ct10 oc11 kV11 dc11 pm11 cd11 ct11 oc12 kV12 dc12 pm12 cd12 ct12 oc13 kV13 dc13 pm13 cd13 ct13 oc14 kV14 dc14 pm14 cd14 ct14 oc15 kV15 dc15 pm15 cd15 ct15 oc16 kV16 dc16 pm16 cd16 ct16 oc17 kV17 dc17 pm17 cd17 ct17 : Value}
    (a1 : PySem.W.nsIn K mainGlobals "is_whole" = some (some (.ref f1)))
    (l1 : K.lookup f1 = some ⟨oc1, od1, .func (PySem.W.fnOf "is_whole" "is_whole" (defArgs sWhole) (defBody sWhole) (defScope sWhole) .none kV1 dc1 pm1 an1 cd1 ct1), sl1⟩)
    (c1 : PySem.W.codeIn K cd1 "is_whole" = true)
    (k1 : PySem.W.keepIn K (.ref f1) = true)
    (a2 : PySem.W.nsIn K mainGlobals "is_below" = some (some (.ref f2)))
    (l2 : K.lookup f2 = some ⟨oc2, od2, .func (PySem.W.fnOf "is_below" "is_below" (defArgs sMark) (defBody sMark) (defScope sMark) .none kV2 dc2 pm2 an2 cd2 ct2), sl2⟩)
    (c2 : PySem.W.codeIn K cd2 "is_below" = true)
    (k2 : PySem.W.keepIn K (.ref f2) = true)
    (a3 : PySem.W.nsIn K mainGlobals "are_marks" = some (some (.ref f3)))
    (l3 : K.lookup f3 = some ⟨oc3, od3, .func (PySem.W.fnOf "are_marks" "are_marks" (defArgs sMarks) (defBody sMarks) (defScope sMarks) .none kV3 dc3 pm3 an3 cd3 ct3), sl3⟩)
    (c3 : PySem.W.codeIn K cd3 "are_marks" = true)
    (k3 : PySem.W.keepIn K (.ref f3) = true)
    (a4 : PySem.W.nsIn K mainGlobals "are_mirrors" = some (some (.ref f4)))
    (l4 : K.lookup f4 = some ⟨oc4, od4, .func (PySem.W.fnOf "are_mirrors" "are_mirrors" (defArgs sMirrors) (defBody sMirrors) (defScope sMirrors) .none kV4 dc4 pm4 an4 cd4 ct4), sl4⟩)
    (c4 : PySem.W.codeIn K cd4 "are_mirrors" = true)
    (k4 : PySem.W.keepIn K (.ref f4) = true)
    (a5 : PySem.W.nsIn K mainGlobals "are_steps" = some (some (.ref f5)))
    (l5 : K.lookup f5 = some ⟨oc5, od5, .func (PySem.W.fnOf "are_steps" "are_steps" (defArgs sSteps) (defBody sSteps) (defScope sSteps) .none kV5 dc5 pm5 an5 cd5 ct5), sl5⟩)
    (c5 : PySem.W.codeIn K cd5 "are_steps" = true)
    (k5 : PySem.W.keepIn K (.ref f5) = true)
    (a6 : PySem.W.nsIn K mainGlobals "is_step" = some (some (.ref f6)))
    (l6 : K.lookup f6 = some ⟨oc6, od6, .func (PySem.W.fnOf "is_step" "is_step" (defArgs sStep) (defBody sStep) (defScope sStep) .none kV6 dc6 pm6 an6 cd6 ct6), sl6⟩)
    (c6 : PySem.W.codeIn K cd6 "is_step" = true)
    (k6 : PySem.W.keepIn K (.ref f6) = true)
    (a7 : PySem.W.nsIn K mainGlobals "is_rising" = some (some (.ref f7)))
    (l7 : K.lookup f7 = some ⟨oc7, od7, .func (PySem.W.fnOf "is_rising" "is_rising" (defArgs sRising) (defBody sRising) (defScope sRising) .none kV7 dc7 pm7 an7 cd7 ct7), sl7⟩)
    (c7 : PySem.W.codeIn K cd7 "is_rising" = true)
    (k7 : PySem.W.keepIn K (.ref f7) = true)
    (a8 : PySem.W.nsIn K mainGlobals "marks_behind" = some (some (.ref f8)))
    (l8 : K.lookup f8 = some ⟨oc8, od8, .func (PySem.W.fnOf "marks_behind" "marks_behind" (defArgs sBehind) (defBody sBehind) (defScope sBehind) .none kV8 dc8 pm8 an8 cd8 ct8), sl8⟩)
    (c8 : PySem.W.codeIn K cd8 "marks_behind" = true)
    (k8 : PySem.W.keepIn K (.ref f8) = true)
    (a9 : PySem.W.nsIn K mainGlobals "plain_rule" = some (some (.ref f9)))
    (l9 : K.lookup f9 = some ⟨oc9, od9, .func (PySem.W.fnOf "plain_rule" "plain_rule" (defArgs sPlain) (defBody sPlain) (defScope sPlain) .none kV9 dc9 pm9 an9 cd9 ct9), sl9⟩)
    (c9 : PySem.W.codeIn K cd9 "plain_rule" = true)
    (k9 : PySem.W.keepIn K (.ref f9) = true)
    (a10 : PySem.W.nsIn K mainGlobals "one_way_rule" = some (some (.ref f10)))
    (l10 : K.lookup f10 = some ⟨oc10, od10, .func (PySem.W.fnOf "one_way_rule" "one_way_rule" (defArgs sOneWay) (defBody sOneWay) (defScope sOneWay) .none kV10 dc10 pm10 an10 cd10 ct10), sl10⟩)
    (c10 : PySem.W.codeIn K cd10 "one_way_rule" = true)
    (k10 : PySem.W.keepIn K (.ref f10) = true)
    (a11 : PySem.W.nsIn K mainGlobals "_law_pail" = some (some (.ref f11)))
    (l11 : K.lookup f11 = some ⟨oc11, od11, .func (PySem.W.fnOf "_law_pail" "_law_pail" (defArgs sPail) (defBody sPail) (defScope sPail) .none kV11 dc11 pm11 an11 cd11 ct11), sl11⟩)
    (c11 : PySem.W.codeIn K cd11 "_law_pail" = true)
    (k11 : PySem.W.keepIn K (.ref f11) = true)
    (a12 : PySem.W.nsIn K mainGlobals "_law_draw" = some (some (.ref f12)))
    (l12 : K.lookup f12 = some ⟨oc12, od12, .func (PySem.W.fnOf "_law_draw" "_law_draw" (defArgs sDraw) (defBody sDraw) (defScope sDraw) .none kV12 dc12 pm12 an12 cd12 ct12), sl12⟩)
    (c12 : PySem.W.codeIn K cd12 "_law_draw" = true)
    (k12 : PySem.W.keepIn K (.ref f12) = true)
    (a13 : PySem.W.nsIn K mainGlobals "_law_pairs" = some (some (.ref f13)))
    (l13 : K.lookup f13 = some ⟨oc13, od13, .func (PySem.W.fnOf "_law_pairs" "_law_pairs" (defArgs sPairs) (defBody sPairs) (defScope sPairs) .none kV13 dc13 pm13 an13 cd13 ct13), sl13⟩)
    (c13 : PySem.W.codeIn K cd13 "_law_pairs" = true)
    (k13 : PySem.W.keepIn K (.ref f13) = true)
    (a14 : PySem.W.nsIn K mainGlobals "_law_steps_of" = some (some (.ref f14)))
    (l14 : K.lookup f14 = some ⟨oc14, od14, .func (PySem.W.fnOf "_law_steps_of" "_law_steps_of" (defArgs sStepsOf) (defBody sStepsOf) (defScope sStepsOf) .none kV14 dc14 pm14 an14 cd14 ct14), sl14⟩)
    (c14 : PySem.W.codeIn K cd14 "_law_steps_of" = true)
    (k14 : PySem.W.keepIn K (.ref f14) = true)
    (a15 : PySem.W.nsIn K mainGlobals "law" = some (some (.ref f15)))
    (l15 : K.lookup f15 = some ⟨oc15, od15, .func (PySem.W.fnOf "law" "law" (defArgs sLaw) (defBody sLaw) (defScope sLaw) .none kV15 dc15 pm15 an15 cd15 ct15), sl15⟩)
    (c15 : PySem.W.codeIn K cd15 "law" = true)
    (k15 : PySem.W.keepIn K (.ref f15) = true)
    (aC : PySem.W.nsIn K mainGlobals "Rule" = some (some (.ref C)))
    (a16 : PySem.W.findIn K (.ref C) "__init__" = some (some (.ref f16)))
    (i16 : PySem.W.isFn K (.ref f16) = true)
    (l16 : K.lookup f16 = some ⟨oc16, od16, .func (PySem.W.fnOf "__init__" "Rule.__init__" (defArgs sInit) (defBody sInit) (defScope sInit) .none kV16 dc16 pm16 an16 cd16 ct16), sl16⟩)
    (c16 : PySem.W.codeIn K cd16 "Rule.__init__" = true)
    (k16 : PySem.W.keepIn K (.ref f16) = true)
    (a17 : PySem.W.findIn K (.ref C) "__eq__" = some (some (.ref f17)))
    (i17 : PySem.W.isFn K (.ref f17) = true)
    (l17 : K.lookup f17 = some ⟨oc17, od17, .func (PySem.W.fnOf "__eq__" "Rule.__eq__" (defArgs sEq) (defBody sEq) (defScope sEq) .none kV17 dc17 pm17 an17 cd17 ct17), sl17⟩)
    (c17 : PySem.W.codeIn K cd17 "Rule.__eq__" = true)
    (k17 : PySem.W.keepIn K (.ref f17) = true)
    (pg : PySem.W.plainGet K C Str.empty = true)
    (hd : PySem.W.hasDictIn K C = true)
    (po : PySem.W.plainOver K C = true)
    (sa : PySem.W.findIn K (.ref C) "__setattr__" = some (some (.builtin "object.__setattr__")))
    (mk : PySem.W.makesIn K C = true)
    (kc : PySem.W.keepIn K (.ref C) = true)
    (nM : PySem.W.findIn K (.ref C) "mirrors" = some none)
    (nS : PySem.W.findIn K (.ref C) "steps" = some none)
    (nF : PySem.W.findIn K (.ref C) "followers" = some none)
    (t1 : PySem.W.findIn K (.ref C) "__class__" = some (some (.builtin "object.__class__")))
    (t2 : PySem.W.specialIn K (.builtin "object.__class__") "__get__" = some (some (.builtin "getset_descriptor.__get__")))
    (t3 : PySem.W.takesIn K (.builtin "object.__class__") = some true)
    (t4 : PySem.W.mroIn K C (.type "object") = some true)
    (t5 : PySem.W.kitOne K (.ref C) (.ref C) = some true)
    (fNe : PySem.W.findIn K (.ref C) "__ne__" = some (some (.builtin "object.__ne__")))
    (mM : PySem.W.nsIn K mainGlobals "MOST_MARKS" = some (some (.int 8 tk)))
    (z0 : PySem.W.nsIn K mainGlobals "len" = some none)
    (z1 : PySem.W.nsIn K mainGlobals "isinstance" = some none)
    (z2 : PySem.W.nsIn K mainGlobals "int" = some none)
    (z3 : PySem.W.nsIn K mainGlobals "bool" = some none)
    (z4 : PySem.W.nsIn K mainGlobals "tuple" = some none)
    (z5 : PySem.W.nsIn K mainGlobals "all" = some none)
    (z6 : PySem.W.nsIn K mainGlobals "enumerate" = some none)
    (z7 : PySem.W.nsIn K mainGlobals "zip" = some none)
    (z8 : PySem.W.nsIn K mainGlobals "range" = some none)
    (z9 : PySem.W.nsIn K mainGlobals "list" = some none)
    (z10 : PySem.W.nsIn K mainGlobals "set" = some none)
    (z11 : PySem.W.nsIn K mainGlobals "sorted" = some none)
    (z12 : PySem.W.nsIn K mainGlobals "abs" = some none)
    (z13 : PySem.W.nsIn K mainGlobals "max" = some none)
    (z14 : PySem.W.nsIn K mainGlobals "min" = some none)
    (z15 : PySem.W.nsIn K mainGlobals "repr" = some none) :
    ∃ fd : FuncData, (∀ (s : Shared) (v : Value), BindsTo s fd ⟨[v], []⟩ [("_law_script", v)]) ∧ ∀ base : Heap, K.In base → base.Ns mainGlobals mg → FnG l.prog w K mg base CX0 9 fa fd ["_law_script"] (spLaw K) := by
  have e := hfa.symm.trans (PySem.W.mg_of X G a15)
  cases e
  have T : Txt K mg C := ⟨⟨pg, hd, po, sa⟩, nM, nS, nF, PySem.W.mg_of X G aC, t1, t2, t3, t4, t5⟩
  have B : Bare mg := ⟨PySem.W.mg_none_of X G z0, PySem.W.mg_none_of X G z1, PySem.W.mg_none_of X G z2, PySem.W.mg_none_of X G z3, PySem.W.mg_none_of X G z4, PySem.W.mg_none_of X G z5, PySem.W.mg_none_of X G z6, PySem.W.mg_none_of X G z7, PySem.W.mg_none_of X G z8, PySem.W.mg_none_of X G z9, PySem.W.mg_none_of X G z10, PySem.W.mg_none_of X G z11, PySem.W.mg_none_of X G z12, PySem.W.mg_none_of X G z13, PySem.W.mg_none_of X G z14, PySem.W.mg_none_of X G z15⟩
  have D1 := def_mk (st := sWhole) (ps := ["thing"]) X G a1 l1 c1 k1 fun _ _ _ _ _ _ us hl => match us, hl with | [_], _ => rfl
  have D2 := def_mk (st := sMark) (ps := ["thing", "many"]) X G a2 l2 c2 k2 fun _ _ _ _ _ _ us hl => match us, hl with | [_, _], _ => rfl
  have D3 := def_mk (st := sMarks) (ps := ["thing", "many"]) X G a3 l3 c3 k3 fun _ _ _ _ _ _ us hl => match us, hl with | [_, _], _ => rfl
  have D4 := def_mk (st := sMirrors) (ps := ["thing"]) X G a4 l4 c4 k4 fun _ _ _ _ _ _ us hl => match us, hl with | [_], _ => rfl
  have D5 := def_mk (st := sSteps) (ps := ["mirrors", "thing"]) X G a5 l5 c5 k5 fun _ _ _ _ _ _ us hl => match us, hl with | [_, _], _ => rfl
  have D6 := def_mk (st := sStep) (ps := ["thing", "many"]) X G a6 l6 c6 k6 fun _ _ _ _ _ _ us hl => match us, hl with | [_, _], _ => rfl
  have D7 := def_mk (st := sRising) (ps := ["pairs"]) X G a7 l7 c7 k7 fun _ _ _ _ _ _ us hl => match us, hl with | [_], _ => rfl
  have D8 := def_mk (st := sBehind) (ps := ["steps", "mark"]) X G a8 l8 c8 k8 fun _ _ _ _ _ _ us hl => match us, hl with | [_, _], _ => rfl
  have D9 := def_mk (st := sPlain) (ps := ["many", "pairs"]) X G a9 l9 c9 k9 fun _ _ _ _ _ _ us hl => match us, hl with | [_, _], _ => rfl
  have D10 := def_mk (st := sOneWay) (ps := ["many", "pairs"]) X G a10 l10 c10 k10 fun _ _ _ _ _ _ us hl => match us, hl with | [_, _], _ => rfl
  have D11 := def_mk (st := sPail) (ps := ["_law_script", "_law_at"]) X G a11 l11 c11 k11 fun _ _ _ _ _ _ us hl => match us, hl with | [_, _], _ => rfl
  have D12 := def_mk (st := sDraw) (ps := ["_law_pail_here", "_law_many"]) X G a12 l12 c12 k12 fun _ _ _ _ _ _ us hl => match us, hl with | [_, _], _ => rfl
  have D13 := def_mk (st := sPairs) (ps := ["_law_pail_here", "_law_many"]) X G a13 l13 c13 k13 fun _ _ _ _ _ _ us hl => match us, hl with | [_, _], _ => rfl
  have D14 := def_mk (st := sStepsOf) (ps := ["_law_many", "_law_pairs_here", "_law_which"]) X G a14 l14 c14 k14 fun _ _ _ _ _ _ us hl => match us, hl with | [_, _, _], _ => rfl
  have F15 := fun_mk (st := sLaw) l15 c15 k15
  have F16 := fun_mk (st := sInit) l16 c16 k16
  have b16 := F16.binds (ps := ["self", "mirrors", "steps"]) fun _ _ _ _ _ _ us hl => match us, hl with | [_, _, _], _ => rfl
  have F17 := fun_mk (st := sEq) l17 c17 k17
  have b17 := F17.binds (ps := ["self", "other"]) fun _ _ _ _ _ _ us hl => match us, hl with | [_, _], _ => rfl
  have mm := PySem.W.mg_of X G mM
  refine ⟨PySem.W.fnOf "law" "law" (defArgs sLaw) (defBody sLaw) (defScope sLaw) .none kV15 dc15 pm15 an15 cd15 ct15, fun s v => .of_eq rfl, fun base _ _ => ?_⟩
  have G3 : FnOk l.prog w K mg base CX0 3 f3 _ ["thing", "many"] (spMarks K) := ok_marks D3.fn D2 D1 B
  have G4 : FnOk l.prog w K mg base CX0 4 f4 _ ["thing"] (spMirrors K) := ok_mirrors D4.fn D3 G3 B mm
  have G6 : FnOk l.prog w K mg base CX0 4 f6 _ ["thing", "many"] (spStep K) := ok_step D6.fn D3 G3 B
  have G5 : FnOk l.prog w K mg base CX0 5 f5 _ ["mirrors", "thing"] (spSteps K) := ok_steps D5.fn D6 G6 D7 B
  have GI : FnOk l.prog w K mg base CX0 6 f16 _ ["self", "mirrors", "steps"] (spInit K C) := ok_init F16 T D4 G4 D5 G5 D8 B
  exact ok_law F15 ⟨T, B, D11, D12, D13, D14, D9, D10, ⟨mk, a16, i16, kc⟩, F16, b16, F17, b17, a17, i17, fNe⟩ GI
end K3
open PySem PySem.W PyProof.Rows
set_option maxRecDepth 100000 in
set_option maxHeartbeats 0 in
theorem PySem.Challenge.cw_ringvouch_k03_plain_and_one_way_holds : PySem.Challenge.rw_ringvouch_k03_plain_and_one_way.Holds := by
  w_on; o_law; k_head; (case hw => w_witness2)
  k_fill
  refine RV.walk_G (l := PySem.Challenge.rw_ringvouch_k03_plain_and_one_way) (n := 63) (k := 9) (x := "_law_script") (sp := fun w => K3.spLaw _) rfl (by decide) rfl ⟨rfl, by decide, by decide⟩ (fun w h Y => PySem.W.kIn_of Y) ?F (fun _ _ a ns hl _ hS => ⟨a, ns, rfl, hS, hl, fun _ => rfl⟩)
  case F =>
    intro w mg fa h KX G hmg
    refine' K3.all_mk KX G hmg ?a1 ?l1 ?c1 ?k1 ?a2 ?l2 ?c2 ?k2 ?a3 ?l3 ?c3 ?k3 ?a4 ?l4 ?c4 ?k4 ?a5 ?l5 ?c5 ?k5 ?a6 ?l6 ?c6 ?k6 ?a7 ?l7 ?c7 ?k7 ?a8 ?l8 ?c8 ?k8 ?a9 ?l9 ?c9 ?k9 ?a10 ?l10 ?c10 ?k10 ?a11 ?l11 ?c11 ?k11 ?a12 ?l12 ?c12 ?k12 ?a13 ?l13 ?c13 ?k13 ?a14 ?l14 ?c14 ?k14 ?a15 ?l15 ?c15 ?k15 ?aC ?a16 ?i16 ?l16 ?c16 ?k16 ?a17 ?i17 ?l17 ?c17 ?k17 ?pg ?hd ?po ?sa ?mk ?kc ?nM ?nS ?nF ?t1 ?t2 ?t3 ?t4 ?t5 ?fNe ?mM ?z0 ?z1 ?z2 ?z3 ?z4 ?z5 ?z6 ?z7 ?z8 ?z9 ?z10 ?z11 ?z12 ?z13 ?z14 ?z15
    (case a1 => k_is)
    (case l1 => k_is)
    (case c1 => k_is)
    (case k1 => k_is)
    (case a2 => k_is)
    (case l2 => k_is)
    (case c2 => k_is)
    (case k2 => k_is)
    (case a3 => k_is)
    (case l3 => k_is)
    (case c3 => k_is)
    (case k3 => k_is)
    (case a4 => k_is)
    (case l4 => k_is)
    (case c4 => k_is)
    (case k4 => k_is)
    (case a5 => k_is)
    (case l5 => k_is)
    (case c5 => k_is)
    (case k5 => k_is)
    (case a6 => k_is)
    (case l6 => k_is)
    (case c6 => k_is)
    (case k6 => k_is)
    (case a7 => k_is)
    (case l7 => k_is)
    (case c7 => k_is)
    (case k7 => k_is)
    (case a8 => k_is)
    (case l8 => k_is)
    (case c8 => k_is)
    (case k8 => k_is)
    (case a9 => k_is)
    (case l9 => k_is)
    (case c9 => k_is)
    (case k9 => k_is)
    (case a10 => k_is)
    (case l10 => k_is)
    (case c10 => k_is)
    (case k10 => k_is)
    (case a11 => k_is)
    (case l11 => k_is)
    (case c11 => k_is)
    (case k11 => k_is)
    (case a12 => k_is)
    (case l12 => k_is)
    (case c12 => k_is)
    (case k12 => k_is)
    (case a13 => k_is)
    (case l13 => k_is)
    (case c13 => k_is)
    (case k13 => k_is)
    (case a14 => k_is)
    (case l14 => k_is)
    (case c14 => k_is)
    (case k14 => k_is)
    (case a15 => k_is)
    (case l15 => k_is)
    (case c15 => k_is)
    (case k15 => k_is)
    (case aC => k_is)
    (case a16 => k_is)
    (case i16 => k_is)
    (case l16 => k_is)
    (case c16 => k_is)
    (case k16 => k_is)
    (case a17 => k_is)
    (case i17 => k_is)
    (case l17 => k_is)
    (case c17 => k_is)
    (case k17 => k_is)
    (case pg => k_is)
    (case hd => k_is)
    (case po => k_is)
    (case sa => k_is)
    (case mk => k_is)
    (case kc => k_is)
    (case nM => k_is)
    (case nS => k_is)
    (case nF => k_is)
    (case t1 => k_is)
    (case t2 => k_is)
    (case t3 => k_is)
    (case t4 => k_is)
    (case t5 => exact K3.kit_self)
    (case fNe => k_is)
    (case mM => k_is)
    (case z0 => k_is)
    (case z1 => k_is)
    (case z2 => k_is)
    (case z3 => k_is)
    (case z4 => k_is)
    (case z5 => k_is)
    (case z6 => k_is)
    (case z7 => k_is)
    (case z8 => k_is)
    (case z9 => k_is)
    (case z10 => k_is)
    (case z11 => k_is)
    (case z12 => k_is)
    (case z13 => k_is)
    (case z14 => k_is)
    (case z15 => k_is)
