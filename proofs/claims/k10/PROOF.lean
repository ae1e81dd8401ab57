import PyProof.Rows.All
import Wide.All
import OpenK.AllK
import Wide.FinOn
import HandS.ForMost
import HandS.TupSets
import KE.GoesEnum
import HandS.Style
import KE.KRevSl
import PyProof.ReprRoads
import HandS.OwnEq
import PyProof.InstNe
import HandS.IsInst
import HandS.Walk
import HandS.Zip
import HandS.TupAny
import HandS.Deep
import HandS.Conv
import HandS.More
import HandS.Wide
import HandS.SortRule
import HandS.SortOrd
import KE.KDictSum
import KE.KDictPairs
import PyProof.ReprBulk
import HandS.Strs
import HandS.RaiseMore
import HandS.Flow
import HandS.SortInts
import HandS.TupMul
import HandS.SetBool
import KE.DataMinMax
import HandS.NamedTupSort
import HandS.Rev
import PySem.Challenge.RW_ringvouch_k10_sizes_near_and_far
set_option Elab.async false
set_option linter.all false
set_option maxRecDepth 100000
namespace RV
open PySem L2
/-! ### lists that rise -/
theorem sorted_eq {α : Type} {f : α → Int} : ∀ {l l' : List α}, l.Pairwise (fun a b => f a < f b) → l'.Pairwise (fun a b => f a < f b) → (∀ x, x ∈ l ↔ x ∈ l') → l = l'
  | [], [], _, _, _ => rfl
  | [], y :: r, _, _, h => nomatch (h y).mpr (List.mem_cons_self ..)
  | x :: r, [], _, _, h => nomatch (h x).mp (List.mem_cons_self ..)
  | x :: l, y :: l', h1, h2, h => by
    rw [List.pairwise_cons] at h1 h2
    have exy : x = y := by
      rcases List.mem_cons.mp ((h x).mp (List.mem_cons_self ..)) with e | e
      · exact e
      · rcases List.mem_cons.mp ((h y).mpr (List.mem_cons_self ..)) with e' | e'
        · exact e'.symm
        · have := h2.1 x e
          have := h1.1 y e'
          omega
    subst exy
    rw [sorted_eq h1.2 h2.2 fun z => ⟨fun hz => ?_, fun hz => ?_⟩]
    · rcases List.mem_cons.mp ((h z).mp (List.mem_cons_of_mem _ hz)) with e | e
      · have := h1.1 z hz
        rw [e] at this; omega
      · exact e
    · rcases List.mem_cons.mp ((h z).mpr (List.mem_cons_of_mem _ hz)) with e | e
      · have := h2.1 z hz
        rw [e] at this; omega
      · exact e
theorem nodup_le {α : Type} [DecidableEq α] : ∀ {l us : List α}, l.Nodup → (∀ x ∈ l, x ∈ us) → l.length ≤ us.length
  | [], _, _, _ => Nat.zero_le _
  | x :: l, us, h, hs => by
    rw [List.nodup_cons] at h
    have hx := hs x (List.mem_cons_self ..)
    have ih : l.length ≤ (us.erase x).length := nodup_le h.2 fun z hz => by
      refine (List.mem_erase_of_ne fun e => ?_).mpr (hs z (List.mem_cons_of_mem _ hz))
      subst e; exact h.1 hz
    have hl := List.length_erase_of_mem hx
    have hp : 0 < us.length := List.length_pos_of_mem hx
    rw [List.length_cons]; omega
/-! ### pairs -/
/-- a pair of marks below b -/
def Pr (b : Int) (p : List Int) : Prop := ∃ x y : Int, p = [x, y] ∧ (0 ≤ x ∧ x < b) ∧ (0 ≤ y ∧ y < b)
abbrev cd (p : List Int) : Int := TS.code 64 p
theorem cd_pair (x y : Int) : cd [x, y] = x * 64 + y := code_pair x y
theorem lt_lex {p q : List Int} (hp : Pr 64 p) (hq : Pr 64 q) (h : cd p < cd q) : HT.lexLt p q = true := by
  obtain ⟨x, y, rfl, hx, hy⟩ := hp
  obtain ⟨x', y', rfl, hx', hy'⟩ := hq
  rw [cd_pair, cd_pair] at h
  rw [HT.lexLt_cons, HT.lexLt_cons, HT.lexLt_nil_nil]
  by_cases e : x = x'
  · rw [if_pos e]
    have : y < y' := by omega
    rw [if_neg (by omega)]; exact decide_eq_true this
  · rw [if_neg e]; exact decide_eq_true (by omega)
theorem lt_of {p q : List Int} (hp : Pr 64 p) (hq : Pr 64 q) (h : cd p ≤ cd q) (ne : p ≠ q) : cd p < cd q := by
  obtain ⟨x, y, rfl, hx, hy⟩ := hp
  obtain ⟨x', y', rfl, hx', hy'⟩ := hq
  have z := pair_lt h ne hx hy hx' hy'
  rw [cd_pair, cd_pair]
  omega
theorem Pr.mono {b c : Int} {p : List Int} (h : Pr b p) (hbc : b ≤ c) : Pr c p := by
  obtain ⟨x, y, e, hx, hy⟩ := h
  exact ⟨x, y, e, by omega, by omega⟩
theorem sorted_lt {l : List (List Int)} (hb : ∀ p ∈ l, Pr 64 p) (nd : l.Nodup) (h : l.Pairwise fun p q => cd p ≤ cd q) : l.Pairwise fun p q => cd p < cd q := by
  have h2 := List.Pairwise.and h nd
  exact List.Pairwise.imp_of_mem (fun {p q} hp hq z => lt_of (hb p hp) (hb q hq) z.1 z.2) h2
theorem adj_rise {l : List (List Int)} (hb : ∀ p ∈ l, Pr 64 p) (h : l.Pairwise fun p q => cd p < cd q) (i : Nat) (p q : List Int) (h1 : l[i]? = some p) (h2 : l[i + 1]? = some q) : HT.lexLt p q = true := by
  obtain ⟨l1, e1⟩ := List.getElem?_eq_some_iff.mp h1
  obtain ⟨l2, e2⟩ := List.getElem?_eq_some_iff.mp h2
  have := List.pairwise_iff_getElem.mp h i (i + 1) l1 l2 (Nat.lt_succ_self _)
  rw [e1, e2] at this
  exact lt_lex (hb p (List.mem_of_getElem? h1)) (hb q (List.mem_of_getElem? h2)) this
/-! ### all pairs, row by row -/
def rowOf (d : Int) (Pd : Int → Int → Bool) (i n : Nat) : List (List Int) := ((List.range n).filter fun (j : Nat) => Pd (i : Int) (j : Int)).map fun (j : Nat) => [d + (i : Int), d + (j : Int)]
def gridOf (d : Int) (Pd : Int → Int → Bool) (m n : Nat) : List (List Int) := (List.range n).flatMap fun (i : Nat) => rowOf d Pd i m
theorem row_next (d : Int) (Pd : Int → Int → Bool) (i n : Nat) : rowOf d Pd i (n + 1) = rowOf d Pd i n ++ (if Pd (i : Int) (n : Int) = true then [[d + (i : Int), d + (n : Int)]] else []) := by
  unfold rowOf
  rw [List.range_succ, List.filter_append, List.map_append]
  by_cases h : Pd (i : Int) (n : Int) = true <;> simp [h]
theorem grid_next (d : Int) (Pd : Int → Int → Bool) (m n : Nat) : gridOf d Pd m (n + 1) = gridOf d Pd m n ++ rowOf d Pd n m := by
  unfold gridOf
  rw [List.range_succ, List.flatMap_append]; simp
theorem row_len (d : Int) (Pd : Int → Int → Bool) (i n : Nat) : (rowOf d Pd i n).length ≤ n := by
  unfold rowOf
  rw [List.length_map]
  exact Nat.le_trans (List.length_filter_le _ _) (by rw [List.length_range]; exact Nat.le_refl _)
theorem grid_len (d : Int) (Pd : Int → Int → Bool) (m : Nat) : ∀ n, (gridOf d Pd m n).length ≤ n * m
  | 0 => by simp [gridOf]
  | n + 1 => by
    have h := grid_len d Pd m n
    have h2 := row_len d Pd n m
    rw [grid_next, List.length_append, Nat.succ_mul]; omega
theorem mem_row {d : Int} {Pd : Int → Int → Bool} {i n : Nat} {p : List Int} : p ∈ rowOf d Pd i n ↔ ∃ j : Nat, j < n ∧ Pd (i : Int) (j : Int) = true ∧ p = [d + (i : Int), d + (j : Int)] := by
  unfold rowOf
  rw [List.mem_map]
  constructor
  · rintro ⟨j, hj, e⟩
    rw [List.mem_filter, List.mem_range] at hj
    exact ⟨j, hj.1, hj.2, e.symm⟩
  · rintro ⟨j, h1, h2, e⟩
    exact ⟨j, List.mem_filter.mpr ⟨List.mem_range.mpr h1, h2⟩, e.symm⟩
theorem mem_grid {d : Int} {Pd : Int → Int → Bool} {m n : Nat} {p : List Int} : p ∈ gridOf d Pd m n ↔ ∃ i j : Nat, i < n ∧ j < m ∧ Pd (i : Int) (j : Int) = true ∧ p = [d + (i : Int), d + (j : Int)] := by
  unfold gridOf
  rw [List.mem_flatMap]
  constructor
  · rintro ⟨i, hi, hp⟩
    obtain ⟨j, h1, h2, h3⟩ := mem_row.mp hp
    exact ⟨i, j, List.mem_range.mp hi, h1, h2, h3⟩
  · rintro ⟨i, j, h1, h2, h3, h4⟩
    exact ⟨i, List.mem_range.mpr h1, mem_row.mpr ⟨j, h2, h3, h4⟩⟩
theorem grid_rise {d : Int} {Pd : Int → Int → Bool} {m n : Nat} (hd : 0 ≤ d) (hm : d + (m : Int) ≤ 64) : (gridOf d Pd m n).Pairwise fun p q => cd p < cd q := by
  unfold gridOf
  rw [List.pairwise_flatMap]
  refine ⟨fun i _ => ?_, ?_⟩
  · unfold rowOf
    rw [List.pairwise_map]
    refine List.Pairwise.imp (fun {a b} (h : a < b) => ?_) (List.Pairwise.filter _ List.pairwise_lt_range)
    rw [cd_pair, cd_pair]; omega
  · refine List.Pairwise.imp (fun {a b} (h : a < b) x hx y hy => ?_) List.pairwise_lt_range
    obtain ⟨j, h1, _, rfl⟩ := mem_row.mp hx
    obtain ⟨k, h2, _, rfl⟩ := mem_row.mp hy
    rw [cd_pair, cd_pair]; omega
theorem grid_pr {d : Int} {Pd : Int → Int → Bool} {m n : Nat} {b : Int} (hd : 0 ≤ d) (hm : d + (m : Int) ≤ b) (hn : d + (n : Int) ≤ b) : ∀ p ∈ gridOf d Pd m n, Pr b p := by
  intro p hp
  obtain ⟨i, j, h1, h2, _, rfl⟩ := mem_grid.mp hp
  exact ⟨_, _, rfl, by omega, by omega⟩
end RV
namespace RV
open PySem PySem.Spec PyProof.Rows L2
set_option maxHeartbeats 4000000 in
theorem meets_en1 {val : Value} {ob : Obj} {HH : Heap → Prop} (B : Begins val ob HH) :
    Meets (Builtin.«enumerate.__new__» ⟨[.type "enumerate", val], []⟩) (fun _ R st => HH st.heap ∧
      R (.ok (.ret (.ref (st.heap.push ob).objs.size)))
        { st with heap := (st.heap.push ob).push { cls := .type "enumerate", data := .fields #[.none, .bool false, .ref st.heap.objs.size, rawInt 0, .none, .none] } }) :=
  .of_wp fun prog w A R st hyp => by
    obtain ⟨hp, gs, dr, tk, os⟩ := st
    obtain ⟨hyp1, hyp2⟩ := hyp
    have hsub := sub_enumerate
    have it1 : ∀ {A' : Around} {E : Value → Shared → Prop} {Q : Value → Shared → Prop}, Q (.ref hp.objs.size) ⟨hp.push ob, gs, dr, tk, os⟩ →
        wpAny (model prog w) A' (pyIter val) Q E ⟨hp, gs, dr, tk, os⟩ := fun q => B.iter prog w _ _ ⟨hp, gs, dr, tk, os⟩ _ hyp1 q
    wp_walk using it1
    refine wpAny_stack_any fun sk => wpAny_pure ?_
    split
    · rename_i cc _ _ _ _ _
      cases (cc == Value.type "enumerate") <;> (wp_walk using it1; exact ⟨_, rfl, hyp2⟩)
    · wp_walk using it1
      exact ⟨_, rfl, hyp2⟩
section
variable {prog : Program} {w : World} {A : Around} {E : Value → Shared → Prop} {s : Shared}
theorem call_en1 {val : Value} {ob : Obj} {HH : Heap → Prop} {Q : Value → Shared → Prop} (B : Begins val ob HH) (hh : HH s.heap)
    (k : ∀ h', IsEnum h' (s.heap.objs.size + 1) s.heap.objs.size 0 .none → h'.get? s.heap.objs.size = some ob → h'.objs.size = s.heap.objs.size + 2 →
      (∀ b o, s.heap.get? b = some o → h'.get? b = some o) → Q (.ref (s.heap.objs.size + 1)) { s with heap := h' }) :
    wpAny (model prog w) A (call (.type "enumerate") [val]) Q E s := by
  refine callType_new F.called_enumerate (by decide) (F.typeCall_enumerate_1 _) (F.newCall_enumerate_1 _) (fun oo => F.args_object_init_2 oo _) F.entry_enumerate_new (meets_en1 B) ⟨hh, ?_⟩
  have z1 : (s.heap.push ob).objs.size = s.heap.objs.size + 1 := Heap.size_push ..
  show _ ∧ _
  rw [z1]
  have z2 : IsEnum ((s.heap.push ob).push { cls := .type "enumerate", data := .fields #[.none, .bool false, .ref s.heap.objs.size, rawInt 0, .none, .none] }) (s.heap.objs.size + 1) s.heap.objs.size 0 .none := by
    have z3 := Heap.get?_push_size (s.heap.push ob) (o := { cls := .type "enumerate", data := .fields #[.none, .bool false, .ref s.heap.objs.size, rawInt 0, .none, .none] }) rfl
    rw [z1] at z3; exact z3
  refine ⟨⟨_, z2, rfl⟩, k _ z2 (Heap.get?_push_of_some _ (Heap.get?_push_size _ B.free)) (by rw [Heap.size_push, z1]) fun b o x => ?_⟩
  exact Heap.get?_push_of_some _ (Heap.get?_push_of_some _ x)
end
/-- enumerate of a tuple: the items in new pairs -/
def IteT (K : PySem.W.Frag) (a : Addr) : It where
  go i H := ∃ (xs : List V) (x : V), SqT K H a xs ∧ xs[i]? = some x
  yld i H v H' := ∃ T x, v = .ref T ∧ H T = none ∧ H' = upd H T (.tup [.int (i : Nat), x]) ∧ ∀ xs, SqT K H a xs → xs[i]? = some x
  stop i H := ∃ xs : List V, SqT K H a xs ∧ xs.length ≤ i
theorem turn_enT {P : Program} {w : World} {K : PySem.W.Frag} {elts : List Expr} {kk : Nat} {tpos : Pos} (a e it : Addr) :
    Turn P w K (.Tuple elts kk tpos) (IteT K a) [e, it] e (fun i h => (∃ old, IsEnum h e it ((i : Nat) : Int) old) ∧ h.IsTupleIter it a i ∧ e ≠ it ∧ a ≠ it ∧ a ≠ e) where
  mem := by simp
  obj := fun i h st b hb => by
    obtain ⟨⟨old, he⟩, ⟨o, ho, hc, hd⟩, _, _⟩ := st
    have eb : b = e ∨ b = it := by simpa using hb
    rcases eb with rfl | rfl
    · exact ⟨_, he, fun v q => nomatch q⟩
    · exact ⟨o, ho, fun v q => by rw [hd] at q; cases q⟩
  keep := fun i h h' st k => let ⟨⟨old, he⟩, hi, hne⟩ := st; ⟨⟨old, k e (by simp) _ he⟩, hi.at fun o q => k it (by simp) o q, hne⟩
  item := by
    intro X hP hw hK hc i pins s σ H E I hf st hg
    subst hP hw hK
    obtain ⟨⟨old, he⟩, hit, hne, hai, hae⟩ := st
    obtain ⟨xs, x, hq, hx⟩ := hg
    obtain ⟨its, rv, p, hz⟩ := I.tuple hq
    obtain ⟨u, hu, ru⟩ := rv.get hx
    have hel : e < s.heap.objs.size := Heap.lt_size he
    have hil : it < s.heap.objs.size := by obtain ⟨_, q, _⟩ := hit; exact Heap.lt_size q
    have hi : i < its.toArray.size := by
      have := (List.getElem?_eq_some_iff.mp hu).1
      simpa using this
    refine wpAny_pyNext_enum_itemD (A := X.A) (Draws.tuple (A := X.A.in1) (show X.A.in1.handled = none from I.ok.hd hc) it a hai its.toArray) he ⟨hit, p⟩ hi hne (by simp [hne, Ne.symm hae]) fun y h' tk hy ho hst hT hsz hk => ?_
    have hyu : y = u := by
      have e1 : its[i]? = some y := by simpa using hy
      rw [hu] at e1
      exact (Option.some.inj e1).symm
    subst hyu
    refine ⟨_, rfl, wpAny_letOwnedTupleGo_enum (s := { s with heap := h', toks := tk + 1 }) ho fun h'' he' sb => ?_⟩
    have hT2 : h''.get? s.heap.objs.size = some { cls := .type "tuple", data := .seq #[.int i tk, y] } := (sb.2 _ (Nat.ne_of_gt hel)).trans hT
    have new : ObjOk X.prog X.w (upd H s.heap.objs.size (.tup [.int (i : Nat), x])) h'' s.heap.objs.size (.tup [.int (i : Nat), x]) :=
      ⟨by show 2 ≤ sizeLine; decide, [.int i tk, y], .cons ⟨_, rfl⟩ (.cons ru .nil), ⟨_, hT2, rfl, _, rfl⟩⟩
    have I1 : Inv X pins σ (upd H s.heap.objs.size (.tup [.int (i : Nat), x])) { s with heap := h'', toks := tk + 1 } := by
      refine I.turnedNew (ch := [e, it]) (fun b ob hb q => ?_) hf (Nat.le_refl _) new
      exact (sb.2 b (fun z => hb (by simp [z]))).trans (hk b ob (fun z => hb (by simp [z])) (fun z => hb (by simp [z])) q)
    refine ⟨.ref s.heap.objs.size, _, I1, rfl, ⟨_, x, rfl, I.hok.fresh (Nat.le_refl _), rfl, fun ys hy => ?_⟩, ⟨⟨y, ?_⟩, hst.1.at fun o q => (sb.2 it (Ne.symm hne)).trans q, hne, hai, hae⟩, fun b hb => ?_⟩
    · rw [I.tuple_inj hy hq]; exact hx
    · rw [show ((i + 1 : Nat) : Int) = (i : Int) + 1 by omega]; exact he'
    · have eb : b = e ∨ b = it := by simpa using hb
      have hb' : b < s.heap.objs.size := by
        rcases eb with z | z <;> rw [z] <;> assumption
      rw [upd_ne (Nat.ne_of_lt hb')]
      exact (hf b hb).1
  done := by
    intro X hP hw hK hc i pins s σ H E I hf st hg
    subst hP hw hK
    obtain ⟨⟨old, he⟩, hit, hne, hai, hae⟩ := st
    obtain ⟨xs, hq, hx⟩ := hg
    obtain ⟨its, rv, p, hz⟩ := I.tuple hq
    obtain ⟨f0, f1, f2, f3, f4, f5⟩ := hf it (by simp)
    have hl := rv.length
    have hT : s.TypeIs (.ref e) "enumerate" := ⟨_, he, rfl⟩
    unfold pyNext
    refine wpAny_bind (wpAny_attempt (wpAny_callSpecial?_slot (name := Str.ofString "__next__") hT F.slot_enumerate_next (wpAny_call_entry F.slot_enumerate_next hT F.entry_enumerate_next ?_ (F.args_enumerate_next_1 _))))
    show wpAny _ _ (field (.ref e) 2 >>= _) _ _ _
    refine wpAny_bind (wpAny_field he rfl (x := .ref it) rfl ?_)
    refine wpAny_bind (wpAny_nextOf_tuple_end (I.ok.hd hc) hit p (by simp; omega) fun h' x he' hx' => ?_)
    obtain ⟨o, ho, hco⟩ := hx'
    refine wpAny_bind (wpAny_isInstance (T := "StopIteration") (b := true) ⟨o, ho, hco⟩ isSubtype_stop ?_)
    exact wpAny_pure ⟨rfl, I.turned (t' := s.toks) (fun b o hb q => he' b o hb q) f0 f1 f3 f4 f5⟩
  self := fun A i s Q E st h => let ⟨⟨_, he⟩, _⟩ := st; wpAny_pyIter_enum he h
def iEnT (K : PySem.W.Frag) (ta : TA) : TI := fun σ H R => ta σ H fun vs H1 => ∃ a xs, vs = [.ref a] ∧ SqT K H1 a xs ∧ R (IteT K a) H1
theorem pi_enT {X : Cx} {e : Expr} {ta : TA} {p pos tpos : Pos} {elts : List Expr} {kk : Nat} (hg : Gl X "enumerate") (hm : X.mg "enumerate" = none) (ha : PA X [e] ta)
    (hs : starEach [e] X.env = [(false, eval e X.env)] := by rfl) : PI X (.Tuple elts kk tpos) (.Call (.Name "enumerate" p) [e] [] pos) (iEnT X.K ta) := by
  refine ⟨fun pins s σ H R I h => Call_ (ld_blt I hg hm boot_enumerate (PyProof.Rows.callWith_type1 (thn (ha.run pos pins s σ H _ I h) fun us s1 ⟨vs, H1, I1, r1, q1⟩ => ?_) hs rfl))⟩
  obtain ⟨a, xs, ex, hq, q⟩ := q1
  subst ex
  cases r1 with
  | cons r rr =>
    cases rr
    cases r
    obtain ⟨its, rv, p', hz⟩ := I1.tuple hq
    have ha0 : a < s1.heap.objs.size := by
      obtain ⟨o, ho, _⟩ := p'
      exact Heap.lt_size ho
    refine call_en1 (begins_tuple a its.toArray) p' fun h' he hit hsz hk => wpAny_pyIter_enum he ?_
    have I2 : Inv X pins σ H1 { s1 with heap := h' } := I1.kept (t' := s1.toks) hk
    refine ⟨s1.heap.objs.size + 1, [s1.heap.objs.size + 1, s1.heap.objs.size], _, _, H1, rfl, I2, turn_enT a (s1.heap.objs.size + 1) s1.heap.objs.size,
      ⟨⟨.none, he⟩, ⟨_, hit, rfl, rfl⟩, Nat.succ_ne_self _, Nat.ne_of_lt ha0, Nat.ne_of_lt (Nat.lt_succ_of_lt ha0)⟩, fun b hb => ?_, q⟩
    have eb : b = s1.heap.objs.size + 1 ∨ b = s1.heap.objs.size := by simpa using hb
    have hle : s1.heap.objs.size ≤ b := by
      rcases eb with z | z
      · rw [z]; exact Nat.le_add_right _ _
      · rw [z]; exact Nat.le_refl _
    exact I1.fpOk hle (I1.hok.fresh hle)
end RV
set_option maxHeartbeats 4000000
namespace RV
open PySem PySem.Spec PyProof.Rows L2 HT
theorem back_places (n : Nat) : Builtin.Slice.slicePlaces ((n : Int) - 1) (-1) (-1) = n := by
  unfold Builtin.Slice.slicePlaces
  rw [if_neg (show ¬ ((-1 : Int) > 0) by decide)]
  by_cases hn : (n : Int) - 1 > -1
  · rw [if_pos hn, show (- -1 : Int) = 1 from rfl, Int.ediv_one]; omega
  · rw [if_neg hn]; omega
theorem back_pick (xs : Array Value) : ((List.range xs.size).filterMap fun (m : Nat) => xs[((xs.size : Int) - 1 + (m : Int) * (-1)).toNat]?).toArray = xs.toList.reverse.toArray := by
  have e0 : ∀ (l : List Nat), (∀ m ∈ l, m < xs.size) → l.filterMap (fun (m : Nat) => xs[((xs.size : Int) - 1 + (m : Int) * (-1)).toNat]?) = (l.map fun k => xs.size - 1 - k).filterMap (xs[·]?) := by
    intro l
    induction l with
    | nil => intro _; rfl
    | cons m r ih =>
      intro hm
      have h1 := hm m (List.mem_cons_self ..)
      have h2 := ih fun z hz => hm z (List.mem_cons_of_mem _ hz)
      rw [List.map_cons, List.filterMap_cons, List.filterMap_cons, h2, show ((xs.size : Int) - 1 + (m : Int) * (-1)).toNat = xs.size - 1 - m by omega]
  have e1 := e0 (List.range xs.size) fun m hm => List.mem_range.mp hm
  rw [e1, PySem.W.krv_range, List.filterMap_reverse, PySem.W.krv_all]
section
variable {prog : Program} {w : World} {A : Around} {E : Value → Shared → Prop} {s : Shared}
theorem applied_back {sl : Addr} {vl vu vs : Value} {n : Nat} {Q : Int × Int × Nat → Shared → Prop} (hs : s.heap.IsSliceOf sl vl vu vs) (pl : IsPart vl none) (pu : IsPart vu none) (ps : IsPart vs (some (-1)))
    (k : Q ((n : Int) - 1, -1, n) s) : wpAny (model prog w) A (Builtin.Slice.sliceApplied (.ref sl) (pure (n : Int))) Q E s := by
  obtain ⟨os, o1, o2, o3⟩ := id hs
  unfold Builtin.Slice.sliceApplied Builtin.Slice.sliceFields
  refine wpAny_bind (wpAny_bind (wpAny_field o1 o3 (x := vl) rfl (wpAny_bind (wpAny_field o1 o3 (x := vu) rfl (wpAny_bind (wpAny_field o1 o3 (x := vs) rfl (wpAny_pure ?_)))))))
  refine wpAny_bind (slicePart_ ps ?_)
  show wpAny _ _ (if ((-1 : Int) == 0) = true then _ else _) _ _ s
  rw [if_neg (by decide)]
  refine wpAny_bind (slicePart_ pl (wpAny_bind (slicePart_ pu (wpAny_bind (wpAny_pure ?_)))))
  show wpAny _ _ (pure ((n : Int) - 1, (-1 : Int), Builtin.Slice.slicePlaces ((n : Int) - 1) (-1) (-1))) _ _ s
  rw [back_places]
  exact wpAny_pure k
theorem item_back {t sl : Addr} {items : Array Value} {vl vu vs : Value} {Q : Value → Shared → Prop} (ht : IsTup s.heap t items) (hs : s.heap.IsSliceOf sl vl vu vs) (pl : IsPart vl none) (pu : IsPart vu none) (ps : IsPart vs (some (-1)))
    (k : Q (.ref s.heap.objs.size) { s with heap := s.heap.push { cls := .type "tuple", data := .seq items.toList.reverse.toArray } })
    (hsz : items.size ≤ sizeLine) : wpAny (model prog w) A (getItem (.ref t) (.ref sl)) Q E s := by
  have hok : sizeOk (.seq items.toList.reverse.toArray) := by
    show items.toList.reverse.toArray.size ≤ sizeLine
    simpa using hsz
  obtain ⟨os, o1, o2, o3⟩ := id hs
  have hTs : s.TypeIs (.ref sl) "slice" := ⟨os, o1, o2⟩
  unfold getItem
  try with_reducible refine wpAny_holding ?_
  first | refine wpAny_bind (wpAny_pure ?_) | skip
  refine wpAny_bind (wpAny_sequenceKey ht.typeIs (by decide) ?_)
  refine wpAny_bind (wpAny_callSpecial?_slot (name := Str.ofString "__getitem__") ht.typeIs PyProof.Rows.slot_tuple_getitem (wpAny_call_entry PyProof.Rows.slot_tuple_getitem ht.typeIs entry_tuple_getitem ?_ (args_tuple_getitem _ _)))
  show wpAny _ _ (Builtin.Tuple.tupleItemsOf (.ref t) >>= _) _ _ s
  refine wpAny_bind (tupleItemsOf_ ht (wpAny_bind (wpAny_typeOf hTs ?_)))
  rw [if_pos (by decide)]
  refine wpAny_bind (applied_back hs pl pu ps ?_)
  show wpAny _ _ (if (((items.size : Int) - 1) == 0 && (-1 : Int) == 1 && items.size == items.size) = true then _ else _) _ _ s
  rw [if_neg (by simp), back_pick]
  first
    | exact wpAny_bind (m := Builtin.Tuple.tupleExact _) (wpAny_newObj_type (wpAny_pure ⟨_, rfl, wpAny_pure k⟩) hok)
    | exact wpAny_bind (wpAny_bind (m := Builtin.Tuple.tupleExact _) (wpAny_newObj_type (wpAny_pure (wpAny_pure ⟨_, rfl, wpAny_pure k⟩)) hok))
    | exact wpAny_bind (wpAny_bind (m := Builtin.Tuple.tupleExact _) (wpAny_newObj_type (wpAny_pure ⟨_, rfl, wpAny_pure k⟩) hok))
    | exact wpAny_bind (m := Builtin.Tuple.tupleExact _) (wpAny_newObj_type (wpAny_bind (wpAny_pure (wpAny_pure ⟨_, rfl, wpAny_pure k⟩))) hok)
end
section
variable {X : Cx}
/-- t[::-1] of a tuple -/
def tBackT (K : PySem.W.Frag) (te : TE) : TE := fun σ H Q => te σ H fun x H1 => ∃ a xs, x = .ref a ∧ SqT K H1 a xs ∧ ∀ p, H1 p = none → Q (.ref p) (upd H1 p (.tup xs.reverse))
theorem pe_backT {e : Expr} {te : TE} {k : Nat} {p1 p2 p3 pos : Pos} (he : PE X e te) : PE X (.Subscript e (.Slice none none (some (.UnaryOp .USub (.Constant (.int 1) k p1) p2)) p3) pos) (tBackT X.K te) := by
  refine ⟨fun pins s σ H Q I h => Subscript_ (thn (he.run pins s σ H _ I h) fun v s1 ⟨x, H1, I1, r1, q1⟩ => ?_)⟩
  obtain ⟨a, xs, ex, hx, q⟩ := q1
  subst ex
  cases r1
  have hst : PO X (some (.UnaryOp .USub (.Constant (.int 1) k p1) p2)) (tPart (tUn (rU fun i => .int (-i)) (tC (.int 1)))) := po_some (pe_un un_neg pe_int)
  refine wpAny_Slice (thn (po_none.run pins s1 σ H1 (fun o H2 => o = none ∧ H2 = H1) I1 ⟨rfl, rfl⟩) fun vl s2 ⟨l, H2, I2, pl, el, e2⟩ => ?_)
  subst el e2
  refine thn (po_none.run pins s2 σ H2 (fun o H3 => o = none ∧ H3 = H2) I2 ⟨rfl, rfl⟩) fun vu s3 ⟨u, H3, I3, pu, eu, e3⟩ => ?_
  subst eu e3
  refine thn (hst.run pins s3 σ H3 (fun o H4 => o = some (-1) ∧ H4 = H3) I3 ⟨1, rfl, -1, rfl, rfl, rfl⟩) fun vs s4 ⟨o, H4, I4, ps, eo, e4⟩ => ?_
  subst eo e4
  have I5 : Inv X pins σ H4 { s4 with heap := s4.heap.push { cls := .type "slice", data := .fields #[vl, vu, vs] } } := I4.kept (t' := s4.toks) fun b ob q => Heap.get?_push_of_some _ q
  obtain ⟨its, r, ht, hz⟩ := I5.tuple hx
  have hlen := r.length
  show wpAny (model X.prog X.w) X.A (subscriptTail e _ (.ref a) (.ref s4.heap.objs.size)) (EP X pins σ Q) X.xe { s4 with heap := s4.heap.push { cls := .type "slice", data := .fields #[vl, vu, vs] } }
  refine tail_any (ops := [.ref a, .ref s4.heap.objs.size]) ht.typeIs (PyProof.Rows.slot_tuple_getitem.lookup) ?_ (by with_unfolding_all rfl)
  refine item_back ht (Heap.IsSliceOf.new _ vl vu vs) pl pu ps ?_ (by rw [List.size_toArray]; omega)
  refine ⟨.ref _, _, I5.laid (t' := s4.toks) (o := .tup xs.reverse) (fun b ob q => Heap.get?_push_of_some _ q) (Nat.le_refl _) ?_, rfl, q _ (I5.hok.fresh (Nat.le_refl _))⟩
  exact ⟨by rw [List.length_reverse]; exact hz, its.reverse, r.reverse, IsTup.new _ _⟩
end
end RV
set_option maxHeartbeats 4000000
namespace RV
open PySem PySem.Spec PyProof.Rows L2
/-- as the layer's promise of a def, where no repr runs around -/
structure FnG (P : Program) (w : World) (K : PySem.W.Frag) (mg : Str → Option Value) (base : Heap) (CX : CXT) (k : Nat) (f : Addr) (fd : FuncData) (ps : List Str) (sp : Sp) : Prop where
  many : ∀ vs H Q E, sp vs H Q E → vs.length = ps.length
  goes : ∀ (A : Around) (outer : List Env) (s : Shared) (H : Hp) (args : Args) (us : List Value) (vs : List V) (Q : VK) (E : XK), A.guards = some [] → Room k A → Env0 P w K mg base A outer s H →
    BindsTo s fd args (ps.zip us) → Vals vs us → sp vs H Q E → codeAny (model P w) A (.call (.ref f) args) (CR CX outer P w H s Q E) s
section
variable {P : Program} {w : World} {K : PySem.W.Frag} {mg : Str → Option Value} {base : Heap} {CX : CXT} {k : Nat} {f : Addr} {fd : FuncData} {N ps : List Str} {sp : Sp} {x qual : Str} {st : Stmt}
theorem okG (F : Fun K x qual st f fd) (S : FnScope N ps (defScope st)) (len : ∀ vs H Q E, sp vs H Q E → vs.length = ps.length)
    (body : ∀ (cdv : Value) (A : Around) (outer : List Env) (s : Shared) (H : Hp) (vs : List V) (Q : VK) (E : XK), A.guards = some [] → Room k (A.deeper (envOfC qual (defScope st) s.heap.objs.size f cdv)) → sp vs H Q E →
      ∃ t, PSs (cxOf CX0 P w K mg base N qual (defScope st) f cdv A outer s H E).nox (defBody st) t ∧ t { nx := fun _ H' => Q .non H', rt := Q } (start N vs) H) : FnG P w K mg base CX0 (k + 1) f fd ps sp := by
  obtain ⟨oc, od, kV, doc, pm, an, cdv, ct, osl, rfl, lk, hcd⟩ := F.ex
  refine ⟨len, fun A outer s H args us vs Q E gd hr e0 hb r hsp => ?_⟩
  have KX : K.In s.heap := e0.mod.kin.keeps fun b o z => (e0.bs b o z).1
  have lim : s.heap.NoLimit := e0.mod.nolimit.keeps fun b o z => (e0.bs b o z).1
  have kinds : ∀ y ∈ ps.zip us, (defScope st).names.lookup y.1 = some .local ∨ ((defScope st).names.lookup y.1 = some .cell ∧ ((cellsFrom (s.heap.objs.size + 1) (defScope st).names []).lookup y.1).isSome = true) := by
    rintro ⟨n, v⟩ hy
    exact (S.par n (List.of_mem_zip hy).1).imp id fun q => ⟨q, PySem.W.cellsFrom_some _ _ _ (.inl q)⟩
  refine codeAny_call_function hr.depth (KX _ _ lk) rfl S.co S.gen rfl (PySem.W.codeRec_of KX hcd) (hb _ _ _ _ (wpAny_newFunctionEnv_cells S.kind kinds fun env he s1 z => ?_))
  subst he
  refine ⟨lim.keeps z.toInCall.keep, codeAny_func ?_⟩
  obtain ⟨t, ht, hq⟩ := body cdv A outer s H vs Q E gd (hr.deeper _) hsp
  have I : Inv (cxOf CX0 P w K mg base N qual (defScope st) f cdv A outer s H E) [] (start N vs) H s1 := inv_start S hr.hd e0 (len _ _ _ _ hsp) r z
  refine wpAny_mono (ht.nox.run [] s1 (start N vs) H _ I hq) (fun fl s' hs => ?_) fun e s' hs => hs
  cases fl with
  | ret u =>
    obtain ⟨v, σ', H', J, rv, q⟩ := hs
    exact ⟨v, H', J.os, J.bare, J.base, J.hok, rv, q⟩
  | next =>
    obtain ⟨σ', H', J, q⟩ := hs
    exact ⟨V.non, H', J.os, J.bare, J.base, J.hok, rfl, q⟩
  | brk => exact hs.elim fun _ z => z.elim fun _ y => False.elim y.2
  | cont => exact hs.elim fun _ z => z.elim fun _ y => False.elim y.2
end
section
variable {X : Cx} {CX : CXT} {k : Nat} {f : Addr} {fd : FuncData} {ps : List Str} {sp : Sp} {dvs : List V} {ds : List Value} {E : XK} {x : Str} {p pos : Pos} {e : Expr} {es : List Expr} {t : TA}
/-- f(e, ..) of such a def -/
theorem pe_callG (F : FnG X.prog X.w X.K X.mg X.base CX k f fd ps sp) (gd : X.A.guards = some []) (hr : Room k X.A) (hg : Gl X x) (hm : X.mg x = some (.ref f)) (hk : PySem.W.keepIn X.K (.ref f) = true) (hb : Binds X.K fd ps ds) (hd : Vals dvs ds) (hx : Passes CX X E)
    (ha : PA X (e :: es) t) (hdb : (x == ("__debug__" : Str)) = false := by decide) (he : starEach (e :: es) X.env = (false, eval e X.env) :: starEach es X.env := by rfl) (hpl : (backTo pos (starEach es X.env)).any (·.1) = false := by rfl) :
    PE X (.Call (.Name x p) (e :: es) [] pos) (tCall sp dvs E t) := by
  refine ⟨fun pins s σ H Q I h => wpAny_Call_Name_kw (ld_glob I hg hm ?_ hdb)⟩
  refine PySem.W.callWith_K (h₀ := X.base) I.ok.mod.kin hk (thn (ha.run pos pins s σ H _ I h) fun us s1 ⟨vs, H1, I1, r, q⟩ => ⟨I1.kIn, ?_⟩) he hpl
  have r2 : Vals (vs ++ dvs) (us ++ ds) := r.append hd
  have hl : (us ++ ds).length = ps.length := r2.length ▸ F.many _ _ _ _ q
  refine wpAny_call (codeAny_mono (F.goes X.A X.stack s1 H1 ⟨us, []⟩ (us ++ ds) (vs ++ dvs) Q E gd hr I1.env0 (hb s1 us I1.kIn hl) r2 q) fun rr s' hq => ?_)
  cases rr with
  | error ee => exact hx pins σ H1 s1 ee s' I1 hq
  | ok fl => cases fl <;> first | exact I1.after hq | exact False.elim hq
/-- repr(x), x an object read as data -/
theorem call_reprD (gd : X.A.guards = some []) (hu : X.A.units + 65 < cLine) : CallR X (.builtin "repr") (fun xs H Q => ∃ (a : Addr) (d : PyData), xs = [.ref a] ∧ Dp X.K H (.ref a) d ∧ d.showable = true ∧ d.hasDict = false ∧ d.depth ≤ 64 ∧ d.shown.length ≤ sizeLine ∧ Q (.str d.shown) H) := by
  intro pins s σ H xs us Q I r h
  obtain ⟨a, d, rfl, hd, h1, h2, h3, h4, q⟩ := h
  obtain ⟨u, rfl, ru⟩ := vals1 r
  cases ru
  obtain ⟨as, rd⟩ := Dp.reads I d (.ref a) (.ref a) hd rfl
  refine repr_of_reads' rd h1 (fun z => by rw [h2] at z; cases z) gd (by omega) (fun _ _ z => z) (fun h' uu tk k => ?_) h4
  exact ⟨.str d.shown, H, I.kept k, ⟨uu, rfl⟩, q⟩
end
section
/-- the law's call, from such a promise -/
theorem law_callG {P : Program} {w : World} {K : PySem.W.Frag} {mg mb : Str → Option Value} {k : Nat} {fa a : Addr} {fd : FuncData} {x : Str} {sp : Sp} {st : Shared} {vs : List Value} {ns : List Int}
    (KX : K.In st.heap) (n1 : st.heap.Ns mainGlobals mg) (n2 : st.heap.Ns builtinsNs mb) (n3 : ∀ x : Str, x ≠ "__name__" → mb x = bootBuiltins x) (n4 : st.heap.NoLimit) (n5 : st.gens = #[])
    (ha : st.heap.get? a = some { cls := .type "list", data := .seq vs.toArray }) (hi : IntsAre vs ns) (hl : ns.length ≤ sizeLine) (hr : Room k callerA)
    (F : ∀ base : Heap, K.In base → base.Ns mainGlobals mg → FnG P w K mg base CX0 k fa fd [x] sp) (bnd : ∀ (s : Shared) (u : Value), BindsTo s fd ⟨[u], []⟩ [(x, u)])
    (hsp : ∀ H : Hp, Only H → SqL K H a (ns.map V.int) → sp [.ref a] H (fun v _ => v = .bl true) fun _ _ _ => False) :
    codeAny (model P w) callerA (.call (.ref fa) ⟨[.ref a], []⟩) (fun r s' => r = .ok (.ret (.bool true)) ∧ OldK st.heap s'.heap ∧ s'.os = st.os ∧ AllBare s'.gens) st := by
  have rv := vals_ints hi
  have lv := hi.length
  have key : ∀ H : Hp, Only H → SqL K H a (ns.map V.int) → HOk P w H st.heap → (∀ b, H b ≠ none → b = a) → (H a ≠ none → K.lookup a = none) →
      codeAny (model P w) callerA (.call (.ref fa) ⟨[.ref a], []⟩) (fun r s' => r = .ok (.ret (.bool true)) ∧ OldK st.heap s'.heap ∧ s'.os = st.os ∧ AllBare s'.gens) st := by
    intro H hO hS hok hA hK
    have noA : ∀ {b : Addr} {o : Obj} {es : Array DictEntry} {ep : Nat}, st.heap.get? b = some o → o.data = .dict es ep → H b = none := by
      intro b o es ep e d
      cases q : H b with
      | none => rfl
      | some u =>
        obtain rfl : b = a := hA b (by rw [q]; simp)
        rw [ha] at e
        cases e
        cases (show Data.seq vs.toArray _ = Data.dict es ep from d)
    have nsK : ∀ {b : Addr} {m : Str → Option Value}, st.heap.Ns b m → (hidT st.heap H).Ns b m := fun {b m} ⟨o, es, ep, e, d, r⟩ => ⟨o, es, ep, hidT_get e (noA e d), d, r⟩
    have kb : K.In (hidT st.heap H) := fun b o e => hidT_get (KX b o e) (by
      cases q : H b with
      | none => rfl
      | some u =>
        obtain rfl : b = a := hA b (by rw [q]; simp)
        rw [hK (by rw [q]; simp)] at e
        cases e)
    obtain ⟨mc, l1, l2⟩ := n4
    have e0 : Env0 P w K mg (hidT st.heap H) callerA [] st H :=
      ⟨rfl, ⟨kb, nsK n1, ⟨mb, nsK n2, n3⟩, ⟨mc, nsK l1, l2⟩⟩, fun b o e => of_hidT e, Nat.le_of_eq (hidT_size _ _), trivial, fun b hb => absurd (show b ∈ ([] : List Addr) from hb) (by simp), hok, .of_eq n5⟩
    refine codeAny_mono ((F _ kb (nsK n1)).goes callerA [] st H ⟨[.ref a], []⟩ [.ref a] [.ref a] _ _ rfl hr e0 (bnd st (.ref a)) (.cons rfl .nil) (hsp H hO hS)) fun r s' h => ?_
    cases r with
    | error e => exact False.elim h
    | ok fl =>
      cases fl with
      | next => exact False.elim h
      | brk => exact False.elim h
      | cont => exact False.elim h
      | ret u =>
        obtain ⟨v, H', os, bare, un, hok', r', q⟩ := h
        obtain rfl : v = .bl true := q
        obtain rfl : u = Value.bool true := r'
        refine ⟨rfl, OldK.of_keep fun b o e => ?_, os, bare⟩
        rcases hO b with z | ⟨ob, xs, z⟩
        · exact un.keep b o e z (fun y => absurd (show b ∈ ([] : List Addr) from y) (by simp)) (by simp)
        · have z2 := un.frzs b ob _ z
          obtain ⟨e1, _⟩ := hok b _ z
          obtain ⟨e2, _⟩ := hok' b _ z2
          rw [e] at e1
          cases e1
          exact e2
  cases hk : K.lookup a with
  | some o =>
    have e := KX a o hk
    rw [ha] at e
    cases e
    exact key (fun _ => none) (fun _ => .inl rfl) (.inr ⟨_, vs.toArray, _, hk, rfl, rfl, rfl, by rw [List.size_toArray, lv]; exact hl, by simpa using rv⟩)
      (fun b u z => by cases (show (none : Option HO) = some u from z)) (fun b z => absurd rfl z) fun z => absurd rfl z
  | none =>
    refine key (fun b => if b = a then some (.frz { cls := .type "list", data := .seq vs.toArray } (.lst (ns.map V.int))) else none) (fun b => ?_) (.inl (.inr ⟨{ cls := .type "list", data := .seq vs.toArray }, if_pos rfl⟩)) (fun b u z => ?_) (fun b z => ?_) fun _ => hk
    · by_cases hb : b = a
      · exact .inr ⟨_, _, if_pos hb⟩
      · exact .inl (if_neg hb)
    · by_cases hb : b = a
      · cases (if_pos hb).symm.trans z
        subst hb
        exact ⟨ha, by rw [List.length_map]; exact hl, vs, _, rv, ha⟩
      · cases (if_neg hb).symm.trans z
    · exact Classical.byContradiction fun hb => z (if_neg hb)
theorem walk_G {l : PySem.W.OpenLaw} {n k : Nat} {q : Program} {loose : List Str} {XP : (Str → Option Value) → Heap → Prop} {YP : World → Heap → Prop} {d : DefRec} {K : Params → PySem.W.Frag} {sp : World → Sp} {x : Str}
    (hn : l.most = some n) (hn2 : n ≤ sizeLine) (hdf : d.params.defaults = []) (hr : Room k callerA) (hY : ∀ (w : World) (h : Heap), YP w h → (K w.params).In h)
    (F : ∀ (w : World) (mg : Str → Option Value) (fa : Addr) (h : Heap), (K w.params).In h → h.Ns mainGlobals mg → mg d.name = some (.ref fa) →
      ∃ fd : FuncData, (∀ (s : Shared) (u : Value), BindsTo s fd ⟨[u], []⟩ [(x, u)]) ∧ ∀ base : Heap, (K w.params).In base → base.Ns mainGlobals mg → FnG l.prog w (K w.params) mg base CX0 k fa fd [x] (sp w))
    (hsp : ∀ (w : World) (H : Hp) (a : Addr) (ns : List Int), ns.length ≤ n → Only H → SqL (K w.params) H a (ns.map V.int) → sp w [.ref a] H (fun v _ => v = .bl true) fun _ _ _ => False) :
    PySem.W.WalkO q loose XP YP l.row.toRowW d [] (fun f vs => PySem.call f vs) := by
  refine Att.attach_call hn hdf fun w s₀ st mg mb fa o pm cd doc a vs ns G Y ho hd hcd hmg hobj hints hlen hg => ?_
  obtain ⟨fd, hb, hF⟩ := F w mg fa _ (hY w _ Y) G.T.g hmg
  exact law_callG (hY w _ Y) G.T.g G.T.b G.T.builtins G.T.nolimit hg hobj hints (Nat.le_trans hlen hn2) hr hF hb fun H hO hS => hsp w H a ns hlen hO hS
end
end RV
set_option maxHeartbeats 4000000
namespace RV
open PySem PySem.Spec PyProof.Rows L2 PySem.W
section
variable {prog : Program} {w : World} {A : Around} {E : Value → Shared → Prop} {s : Shared} {K : Frag} {x C L f : Addr} {h₀ : Heap} {m : Str → Option Value} {ox : Obj} {od : Option Obj} {b tb : Value}
theorem ne_bound {Q : Option Value → Shared → Prop} (X : K.In s.heap) (I : InstAt s.heap x ox C od) (hs : findIn K (.ref C) "__ne__" = some (some (.builtin "object.__ne__")))
    (h : wpAny (model prog w) A (call (.builtin "object.__ne__") [.ref x, b]) (fun v => Q (some v)) E s) : wpAny (model prog w) A (callSpecialIfBound? (.ref x) "__ne__" [b]) Q E s := by
  simp only [callSpecialIfBound?, bindSpecialIfBound?]
  refine wpAny_holding (wpAny_bind (wpAny_bind (wpAny_bind (I.type.here ((looks_findIn X hs).here ?_)))))
  refine wpAny_bind (wpAny_askSetting (wpAny_ite ?_))
  have fin : wpAny (model prog w) A (call (.builtin "object.__ne__") ([.ref x] ++ [b]) >>= fun v => pure (some v)) Q E s :=
    wpAny_bind (wpAny_mono h (fun v s' z => wpAny_pure z) fun _ _ z => z)
  split
  · rw [F.cmp_object.ne.bind]
    exact wpAny_bind (wpAny_pure (wpAny_pure fin))
  · rw [F.cmp_object.ne.bind]
    exact wpAny_tryCatch (wpAny_bind (wpAny_pure (wpAny_pure fin)))
theorem obj_ne {Q : Fin → Shared → Prop} (X : K.In s.heap) (hu : A.units < cLine) (I : InstAt s.heap x ox C od) (hs : findIn K (.ref C) "__eq__" = some (some (.ref f))) (hf : isFn K (.ref f) = true)
    (h : wpAny (model prog w) A (call (.ref f) [.ref x, b]) (fun v s' => ∃ c, v = .bool c ∧ Q (.done (.ret (.bool (!c)))) s') E s) :
    wpAny (model prog w) A (Builtin.«object.__ne__» ⟨[.ref x, b], []⟩) Q E s := by
  unfold Builtin.«object.__ne__»
  repeat (first
    | with_reducible refine wpAny_cRoomFor hu ?_
    | (refine wpAny_bind (m := callSpecialIfBound? (.ref x) (Str.ofString "__eq__") [b])
        (ifBound_K X I hs hf (wpAny_mono h (fun r s' hr => by
          obtain ⟨c, rfl, hq⟩ := hr
          repeat (first | exact hq | exact wpAny_pure hq | exact wpAny_truthy_bool hq | (refine wpAny_bind (m := truthy (.bool _)) (wpAny_truthy_bool ?_)) | wp_step)) fun _ _ z => z)))
    | wp_step)
theorem cmp_ne {Q : Value → Shared → Prop} (hu : A.units + 1 < cLine) (F0 : Fr h₀ L s.heap m) (X₀ : K.In h₀) (I : InstAt s.heap x ox C od) (hb : Looks (model prog w) s.heap (typeOf b) (.ref C))
    (hn : findIn K (.ref C) "__ne__" = some (some (.builtin "object.__ne__"))) (hm : mroIn K C (.type "object") = some true)
    (hs : findIn K (.ref C) "__eq__" = some (some (.ref f))) (hf : isFn K (.ref f) = true)
    (h : wpAny (model prog w) A.in1 (call (.ref f) [.ref x, b]) (fun v s' => ∃ c, v = .bool c ∧ Q (.bool (!c)) s') E s) : wpAny (model prog w) A (richCompare .NotEq (.ref x) b) Q E s := by
  have X := X₀.keeps F0.keep
  have one : wpAny (model prog w) A (tryCompare (.ref x) "__ne__" b) (fun r s' => ∃ v, r = some v ∧ Q v s') E s := by
    unfold tryCompare
    refine wpAny_bind (ne_bound X I hn (wpAny_call (codeAny_call_builtin F.cmp_object.ne.plain F.cmpEntry_ne ?_)))
    refine check_slot F.cmpKind_ne F.cmpSplit_ne ?_ (F.cmpArgs_ne _ _) ?_
    · exact I.type.andThen (looks_mroIn X hm)
    · refine obj_ne (A := A.in1) X hu I hs hf (wpAny_mono h (fun v s' hv => ?_) fun _ _ z => z)
      obtain ⟨c, rfl, hq⟩ := hv
      exact ⟨c, rfl, wpAny_pure ⟨_, rfl, hq⟩⟩
  unfold richCompare
  simp only [oneThing_ref]
  refine wpAny_holding (wpAny_bind (wpAny_cRoomFor (Nat.lt_of_succ_lt hu) ?_))
  rw [cmpInfo_NotEq]
  dsimp only
  refine wpAny_bind (I.type.here (wpAny_bind (hb.here ?_)))
  rw [show (Value.ref C != Value.ref C) = false from by simp]
  simp only [Bool.false_eq_true, if_false]
  refine wpAny_bind (wpAny_pure ?_)
  simp only [Bool.false_eq_true, if_false]
  refine wpAny_bind (wpAny_mono one (fun r s' z => ?_) fun _ _ z => z)
  obtain ⟨v, rfl, hq⟩ := z
  exact wpAny_pure hq
end
section
variable {X : Cx} {CX : CXT} {n : Nat} {C f : Addr} {fd : FuncData} {ps : List Str} {sp : Sp} {E : XK}
/-- x != y, instances of the class at C, by the text's own == -/
def rNeI (C : Addr) (sp : Sp) (E : XK) : R2 := fun x y H Q => ∃ a b dx dy fs gs, x = .ref a ∧ y = .ref b ∧ H a = some (.ins C dx fs) ∧ H b = some (.ins C dy gs) ∧ sp [.ref a, .ref b] H (fun v H' => ∃ c, v = .bl c ∧ Q (.bl (!c)) H') E
def rEqI (C : Addr) (sp : Sp) (E : XK) : R2 := fun x y H Q => ∃ a b dx dy fs gs, x = .ref a ∧ y = .ref b ∧ H a = some (.ins C dx fs) ∧ H b = some (.ins C dy gs) ∧ sp [.ref a, .ref b] H (fun v H' => ∃ c, v = .bl c ∧ Q (.bl c) H') E
theorem op_neI (G : FnOk X.prog X.w X.K X.mg X.base CX n f fd ps sp) (hr : Room (n + 1) X.A) (hn : findIn X.K (.ref C) "__ne__" = some (some (.builtin "object.__ne__"))) (hm : mroIn X.K C (.type "object") = some true)
    (hs : findIn X.K (.ref C) "__eq__" = some (some (.ref f))) (hf : isFn X.K (.ref f) = true) (hb : Binds X.K fd ps []) (hx : Passes CX X E) : OpR X (compareOp .NotEq) (rNeI C sp E) := by
  intro pins s σ H x y v u Q I rx ry hq
  obtain ⟨a, b, dx, dy, fs, gs, rfl, rfl, ha, hb', q⟩ := hq
  cases rx
  cases ry
  obtain ⟨mA, J, _⟩ := ins_get I.hok ha
  obtain ⟨mB, J', _⟩ := ins_get I.hok hb'
  obtain ⟨od, J, _⟩ := J.look
  obtain ⟨od', J', _⟩ := J'.look
  obtain ⟨m, hF⟩ := I.fr
  show wpAny (model X.prog X.w) X.A (richCompare .NotEq (.ref a) (.ref b)) (EP X pins σ Q) X.xe s
  refine cmp_ne (by have := hr.un; omega) hF I.ok.mod.kin J J'.type hn hm hs hf ?_
  have hl := G.len _ _ _ _ q
  have r2 : Vals [V.ref a, V.ref b] [Value.ref a, Value.ref b] := .cons rfl (.cons rfl .nil)
  refine wpAny_call (codeAny_mono (G.run X.A.in1 X.stack s H ⟨[.ref a, .ref b], []⟩ [.ref a, .ref b] [.ref a, .ref b] _ E hr.in1 I.env0.in1 (by simpa using hb s [.ref a, .ref b] I.kIn (by simpa using hl)) r2 q) fun r s' hq => ?_)
  cases r with
  | error e => exact hx pins σ H s e s' I hq
  | ok fl =>
    cases fl with
    | ret w =>
      obtain ⟨z, H', I', rz, c, ez, ex⟩ := I.after hq
      subst ez
      cases rz
      exact ⟨c, rfl, .bl (!c), H', I', rfl, ex⟩
    | next => exact False.elim hq
    | brk => exact False.elim hq
    | cont => exact False.elim hq
theorem op_eqI (G : FnOk X.prog X.w X.K X.mg X.base CX n f fd ps sp) (hr : Room n X.A)
    (hs : findIn X.K (.ref C) "__eq__" = some (some (.ref f))) (hf : isFn X.K (.ref f) = true) (hb : Binds X.K fd ps []) (hx : Passes CX X E) : OpR X (compareOp .Eq) (rEqI C sp E) := by
  intro pins s σ H x y v u Q I rx ry hq
  obtain ⟨a, b, dx, dy, fs, gs, rfl, rfl, ha, hb', q⟩ := hq
  cases rx
  cases ry
  obtain ⟨mA, J, _⟩ := ins_get I.hok ha
  obtain ⟨mB, J', _⟩ := ins_get I.hok hb'
  obtain ⟨od, J, _⟩ := J.look
  obtain ⟨od', J', _⟩ := J'.look
  obtain ⟨m, hF⟩ := I.fr
  show wpAny (model X.prog X.w) X.A (richCompare .Eq (.ref a) (.ref b)) (EP X pins σ Q) X.xe s
  refine PySem.W.cmp_K (op := .Eq) (tb := .ref C) hr.units0 hF I.ok.mod.kin J J'.type (by simp [PySem.W.notFirst]) hs hf ?_
  have hl := G.len _ _ _ _ q
  have r2 : Vals [V.ref a, V.ref b] [Value.ref a, Value.ref b] := .cons rfl (.cons rfl .nil)
  refine wpAny_call (codeAny_mono (G.run X.A X.stack s H ⟨[.ref a, .ref b], []⟩ [.ref a, .ref b] [.ref a, .ref b] _ E hr I.env0 (by simpa using hb s [.ref a, .ref b] I.kIn (by simpa using hl)) r2 q) fun r s' hq => ?_)
  cases r with
  | error e => exact hx pins σ H s e s' I hq
  | ok fl =>
    cases fl with
    | ret w =>
      obtain ⟨z, H', I', rz, c, ez, ex⟩ := I.after hq
      subst ez
      cases rz
      exact ⟨.bl c, H', I', rfl, ex⟩
    | next => exact False.elim hq
    | brk => exact False.elim hq
    | cont => exact False.elim hq
end
end RV
set_option maxHeartbeats 4000000
/-! set(xs) of tuples of ints, xs of any length, where few of them are unlike -/
namespace RV
open PySem PySem.Spec PyProof.Rows L2
/-- fewer than 63 unlike ones -/
def FewUnlike (ks : List (Addr × List Int)) : Prop := ∀ L : List (Addr × List Int), (L.map (·.2)).Nodup → (∀ p ∈ L, p ∈ ks) → L.length + 1 < 64
abbrev noneYet (w : World) : Obj := { cls := .type "set", dict := none, data := .set #[] 0 (.fresh 0 0 (!w.params.followText "set-order")) }
section
variable {P : Program} {w : World} {A : Around} {E : Value → Shared → Prop} {s : Shared}
theorem setN_loop {R : Result → Shared → Prop} (hh : A.in1.handled = none) (S l it : Addr) (hSl : S ≠ l) (hSi : S ≠ it) (hli : l ≠ it) (items : Array Value) (ks : List (Addr × List Int)) (few : FewUnlike ks)
    (refs : ∀ (i : Nat) (p : Addr × List Int), ks[i]? = some p → items[i]? = some (Value.ref p.1)) (size : items.size = ks.length) (old : Heap) (tups : ∀ p ∈ ks, IsT P w old p.2 p.1) (o1 : old.get? S = none) (o2 : old.get? it = none) (hu : A.in1.units < cLine) :
    ∀ (k i : Nat) (s : Shared), ks.length - i = k → i ≤ ks.length → s.heap.IsListIter it l i → s.heap.IsList l items → (∀ b o, old.get? b = some o → s.heap.get? b = some o) → (∃ L es ep t, SetTR P w s.heap S L es ep t ∧ Got ks i L) →
      (∀ h' tk L es ep t, SetTR P w h' S L es ep t → Got ks ks.length L → (∀ b o, old.get? b = some o → h'.get? b = some o) → R (.ok (.ret .none)) { s with heap := h', toks := tk }) →
      codeAny (model P w) A (.builtin "set.update.loop" ⟨[.ref S, .ref it], []⟩) R s
  | 0, i, s, hk, hi, hit, hl, keep, ⟨L, es, ep, t, hS, got⟩, fin => by
    obtain rfl : i = ks.length := by omega
    refine codeAny_builtin F.entry_set_update_loop ?_
    rw [Around.under_plainId F.plain_set_update_loop _]
    show wpAny _ A.in1 (pyNext (.ref it) >>= _) _ _ s
    refine wpAny_bind (wpAny_pyNext_list_end hh hit hl (by simp [size]) fun h' ext => ?_)
    have keep' : ∀ b o, old.get? b = some o → h'.get? b = some o := fun b o e => ext b o (fun z => by rw [z, o2] at e; cases e) (keep b o e)
    exact wpAny_pure (fin h' s.toks L es ep t (hS.keep (fun o e => ext S o hSi e) fun p hp => isT_keep (tups p (List.mem_of_mem_take (got.sub p hp))) keep') got keep')
  | k + 1, i, s, hk, hi, hit, hl, keep, ⟨L, es, ep, t, hS, got⟩, fin => by
    obtain ⟨p, hp⟩ : ∃ p, ks[i]? = some p := ⟨_, List.getElem?_eq_getElem (by omega)⟩
    refine codeAny_builtin F.entry_set_update_loop ?_
    rw [Around.under_plainId F.plain_set_update_loop _]
    show wpAny _ A.in1 (pyNext (.ref it) >>= _) _ _ s
    refine wpAny_bind (wpAny_pyNext_list_item hit hl (refs i p hp) fun h1 hit1 sb1 => ?_)
    have keep1 : ∀ b o, old.get? b = some o → h1.get? b = some o := fun b o e => (sb1.2 b fun z => by rw [z, o2] at e; cases e).trans (keep b o e)
    have inKs : ∀ q ∈ L, q ∈ ks := fun q hq => List.mem_of_mem_take (got.sub q hq)
    have hS1 : SetTR P w h1 S L es ep t := hS.keep (fun o e => (sb1.2 S hSi).trans e) fun q hq => isT_keep (tups q (inKs q hq)) keep1
    have hT : IsT P w h1 p.2 p.1 := isT_keep (tups p (List.mem_of_getElem? hp)) keep1
    show wpAny _ A.in1 (holding [Value.ref p.1] (setAdd S (.ref p.1)) >>= _) _ _ _
    refine wpAny_bind (wpAny_holding ?_)
    unfold setAdd
    refine wpAny_holding (wpAny_bind (wpAny_pyHash_tuple hu hT ?_))
    refine add_at (s := { s with heap := h1, toks := s.toks + (p.2.length + 1) }) hS1 hT hu (few L hS1.nd inKs) fun b h2 L2 es2 ep2 t2 sb2 hS2 yes no => ?_
    have got2 : Got ks (i + 1) L2 := by
      by_cases c : p.2 ∈ L.map (·.2)
      · rw [yes c]; exact got.same hp c
      · exact got.more hp (no c)
    have keep2 : ∀ b o, old.get? b = some o → h2.get? b = some o := fun b o e => (sb2.2 b fun z => by rw [z, o1] at e; cases e).trans (keep1 b o e)
    refine wpAny_pure ⟨plainId_quiet F.plain_set_update_loop _, setN_loop hh S l it hSl hSi hli items ks few refs size old tups o1 o2 hu k (i + 1) _ (by omega) (by omega)
      (hit1.at fun o e => (sb2.2 it (Ne.symm hSi)).trans e) ((hl.at fun o e => (sb1.2 l hli).trans e).at fun o e => (sb2.2 l (Ne.symm hSl)).trans e) keep2 ⟨L2, es2, ep2, t2, hS2, got2⟩ fun h' tk L' es' ep' t' z1 z2 z3 => ?_⟩
    exact fin h' tk L' es' ep' t' z1 z2 z3
set_option maxHeartbeats 8000000 in
theorem call_setN {l : Addr} {items : Array Value} (ks : List (Addr × List Int)) {Q : Value → Shared → Prop} (hh : A.handled = none) (hl : s.heap.IsList l items) (refs : items.toList = ks.map fun p => Value.ref p.1)
    (tups : ∀ p ∈ ks, IsT P w s.heap p.2 p.1) (few : FewUnlike ks) (hu : A.units + 3 < cLine)
    (k : ∀ (h' : Heap) (tk : Nat) L es ep t, SetTR P w h' s.heap.objs.size L es ep t → Got ks ks.length L → (∀ b o, s.heap.get? b = some o → h'.get? b = some o) → Q (.ref s.heap.objs.size) { s with heap := h', toks := tk }) :
    wpAny (model P w) A (call (.type "set") [.ref l]) Q E s := by
  have size : items.size = ks.length := by simpa using congrArg List.length refs
  have refs' : ∀ (i : Nat) (p : Addr × List Int), ks[i]? = some p → items[i]? = some (Value.ref p.1) := fun i p e => by
    rw [← Array.getElem?_toList, refs, List.getElem?_map, e]; rfl
  obtain ⟨c, tl, hm⟩ := F.called_set.mro
  have a1 := F.called_set.made
  have a2 := F.called_set.sub
  have a3 := F.called_set.notType
  have a4 := F.called_set.canCreate
  have a5 := F.typeCall_set_1 (.ref l)
  refine wpAny_call (codeAny_of_tree ?_)
  show wpAny _ _ (callAny (.type "set") _) _ _ _
  refine wpAny_pure ⟨Code.quiet_builtin _ (by decide +kernel), codeAny_builtin F.entry_type_call ?_⟩
  rw [Around.under_plain (weight_type_call_type "set" [.ref l] []) rfl]
  repeat (any_goals (first | assumption | wp_step))
  refine codeAny_mono (code_set_led1 (.ref l) (E := E) (Q₁ := fun obj s₁ => obj = .ref s.heap.objs.size ∧ s₁ = { s with heap := s.heap.push (noneYet w) }) ⟨rfl, rfl⟩) fun r s₁ hr => ?_
  match r, hr with
  | .error e, hr => exact hr
  | .ok .next, hr => exact hr.elim
  | .ok .brk, hr => exact hr.elim
  | .ok .cont, hr => exact hr.elim
  | .ok (.ret obj), hr =>
    obtain ⟨rfl, rfl⟩ := hr
    have hS : (s.heap.push (noneYet w)).get? s.heap.objs.size = some (noneYet w) := Heap.get?_push_size _ rfl
    have hT : Shared.TypeIs { s with heap := s.heap.push (noneYet w) } (.ref s.heap.objs.size) "set" := ⟨_, hS, rfl⟩
    have b1 := F.called_set.init.lookup
    have b2 := F.called_set.init.bind (.ref s.heap.objs.size)
    repeat (any_goals (first | assumption | wp_step))
    refine codeAny_mono (codeAny_call_builtin (R := wants (fun r s₂ => r = .none ∧ ∃ h' tk L es ep t, s₂ = { s with heap := h', toks := tk } ∧ SetTR P w h' s.heap.objs.size L es ep t ∧ Got ks ks.length L ∧
        (∀ b o, s.heap.get? b = some o → h'.get? b = some o)) E) F.called_set.init.plain F.entry_set_init (check_set_init_1 hT ?_)) fun r₂ s₂ hr₂ => ?_
    · obtain ⟨⟨oc, od, dt, os⟩, g1, g2, nl, g3⟩ := hl
      simp only at g2 g3
      subst g2 g3
      have g4 : (s.heap.push (noneYet w)).get? l = some { cls := .type "list", dict := od, data := .seq items nl, slots := os } := Heap.get?_push_of_some _ g1
      have c1 := F.sub_list_set
      have c2 := F.sub_list_frozenset
      have c3 : (Value.type "list" == Value.type "dict") = false := by decide
      have isl : (s.heap.push (noneYet w)).IsList l items := ⟨_, g4, rfl, nl, rfl⟩
      unfold Builtin.«set.__init__» noKeywords Builtin.Frozenset.updateFrom
      generalize hpi : pyIter = pI
      wp_walk
      subst hpi
      refine wpAny_pyIter_list isl (wpAny_bind (wpAny_runValue ?_))
      have lt : l < s.heap.objs.size := Heap.lt_size g1
      have z1 : (s.heap.push (noneYet w)).objs.size = s.heap.objs.size + 1 := Heap.size_push ..
      have none1 : ∀ b, s.heap.objs.size ≤ b → s.heap.get? b = none := fun b hb => by
        cases q : s.heap.get? b with
        | none => rfl
        | some o => exact absurd (Nat.lt_of_lt_of_le (Heap.lt_size q) hb) (Nat.lt_irrefl _)
      refine setN_loop (A := A.in1.in1) (by simp [hh]) s.heap.objs.size l (s.heap.push (noneYet w)).objs.size (Nat.ne_of_gt lt) (by rw [z1]; exact Nat.ne_of_lt (Nat.lt_succ_self _)) (by rw [z1]; exact Nat.ne_of_lt (Nat.lt_succ_of_lt lt)) items ks few refs' size s.heap tups (none1 _ (Nat.le_refl _)) (none1 _ (by rw [z1]; exact Nat.le_succ _)) hu (ks.length - 0) 0 _ rfl (Nat.zero_le _)
        ⟨_, Heap.get?_push_size _ rfl, rfl, rfl⟩ (isl.push _) (fun b o e => Heap.get?_push_of_some _ (Heap.get?_push_of_some _ e)) ⟨[], #[], 0, _, setTR_fresh (Heap.get?_push_of_some _ hS), Got.zero ks⟩ fun h' tk L es ep t q1 q2 q3 => ?_
      show wpAny _ _ _ _ _ _
      refine wpAny_pure ?_
      show wpAny _ _ (ret Value.none) _ _ _
      exact wpAny_pure ⟨rfl, h', tk, L, es, ep, t, rfl, q1, q2, q3⟩
    · match r₂, hr₂ with
      | .error e, hr₂ => exact hr₂
      | .ok .next, hr₂ => exact hr₂.elim
      | .ok .brk, hr₂ => exact hr₂.elim
      | .ok .cont, hr₂ => exact hr₂.elim
      | .ok (.ret r), hr₂ =>
        obtain ⟨rfl, h', tk, L, es, ep, t, rfl, q1, q2, q3⟩ := hr₂
        repeat (any_goals (first | assumption | wp_step))
        exact k _ _ _ _ _ _ q1 q2 q3
end
section
variable {X : Cx}
def rSetN (K : PySem.W.Frag) (P : Program) (w : World) : List V → Hp → VK → Prop := fun xs H Q => ∃ (l : Addr) (ks : List (Addr × List Int)), xs = [V.ref l] ∧ SqL K H l (ks.map fun p => V.ref p.1) ∧ (∀ p ∈ ks, SqT K H p.1 (p.2.map V.int)) ∧ FewUnlike ks ∧
  ∀ a L, H a = none → (∀ p ∈ L, p ∈ ks) → (∀ p ∈ ks, p.2 ∈ L.map (·.2)) → Q (.ref a) (upd H a (SetTO P w a L))
theorem cr_setN (hc : X.calm = true) (hu : X.A.units + 64 < cLine) : CallR X (.type "set") (rSetN X.K X.prog X.w) := by
  intro pins s σ H xs us Q I r h
  obtain ⟨l, ks, rfl, hl, hk, few, q⟩ := h
  rw [Vals.ref1 r]
  obtain ⟨its, rv, pl, hz⟩ := I.list hl
  refine call_setN ks (I.ok.hd hc) pl.isList (by simpa using refs_of_vals rv) (fun p hp => I.isT (hk p hp)) few (by omega) fun h' tk L es ep t R g kp => ?_
  refine ⟨.ref s.heap.objs.size, upd H s.heap.objs.size (SetTO X.prog X.w s.heap.objs.size L), I.laid (t' := tk) kp (Nat.le_refl _) (setTO_new R.t0), rfl, ?_⟩
  exact q _ L (I.hok.fresh (Nat.le_refl _)) (fun p hp => List.mem_of_mem_take (g.sub p hp)) fun p hp => g.all p (by rw [List.take_length]; exact hp)
end
end RV
set_option maxHeartbeats 4000000
namespace RV
open PySem PySem.Spec PyProof.Rows L2
/-! ### heaps -/
theorem same_upd {H : Hp} {p : Addr} {o : HO} (h : H p = none) : Same H (upd H p o) := fun b x e => by
  rw [upd_ne (ne_of_none e h)]
  exact e
theorem sqT_same {K : PySem.W.Frag} {H H' : Hp} {a : Addr} {xs : List V} (e : Same H H') (h : SqT K H a xs) : SqT K H' a xs := SqT.ext h e
theorem sqL_same {K : PySem.W.Frag} {H H' : Hp} {a : Addr} {xs : List V} (e : Same H H') (h : SqL K H a xs) : SqL K H' a xs := SqL.ext h e
theorem tyT {K : PySem.W.Frag} {H : Hp} {a : Addr} {xs : List V} (h : SqT K H a xs) : TyX K H (.ref a) (.type "tuple") := by
  rcases h with (h | ⟨o, h⟩) | ⟨o, its, n, h1, h2, _⟩
  · exact .base (.tup h)
  · exact .fTuple h
  · exact .kTuple h1 h2
theorem tupNew {K : PySem.W.Frag} {H : Hp} {a : Addr} {xs : List V} (h : H a = some (.tup xs)) : SqT K H a xs := .inl (.inl h)
theorem lstNew {K : PySem.W.Frag} {H : Hp} {a : Addr} {xs : List V} (h : H a = some (.lst xs)) : SqL K H a xs := .inl (.inl h)
theorem walk_enT {K : PySem.W.Frag} {a : Addr} {xs : List V} : Walk (IteT K a) xs.length (fun H => SqT K H a xs) (YPair (fun i => some (.int (i : Nat))) (fun i => xs[i]?)) := by
  refine ⟨fun i _ hi q => ⟨xs, xs[i], q, by simp [hi]⟩, fun _ q => ⟨xs, q, Nat.le_refl _⟩, fun i H v H' _ q y => ?_⟩
  obtain ⟨T, x, h1, h2, h3, h4⟩ := y
  exact ⟨T, .int (i : Nat), x, h1, h2, h3, rfl, h4 xs q⟩
theorem walk_zipT {K : PySem.W.Frag} {a b : Addr} {xs ys : List V} {n : Nat} (hn : n = min xs.length ys.length) : Walk (RZ.ItzT K a b) n (fun H => SqT K H a xs ∧ SqT K H b ys) (YPair (fun i => xs[i]?) (fun i => ys[i]?)) := by
  subst hn
  refine ⟨fun i _ hi q => ⟨xs, ys, xs[i]'(by omega), ys[i]'(by omega), q.1, q.2, List.getElem?_eq_getElem _, List.getElem?_eq_getElem _⟩, fun _ q => ⟨xs, ys, q.1, q.2, by omega⟩, fun i H v H' _ q y => ?_⟩
  obtain ⟨T, x, z, h1, h2, h3, h4, h5⟩ := y
  exact ⟨T, x, z, h1, h2, h3, h4 xs q.1, h5 ys q.2⟩
/-- a tuple of tuples of ints -/
def Tups (K : PySem.W.Frag) (H : Hp) (a : Addr) (ps : List (List Int)) : Prop := ∃ ks : List (Addr × List Int), ks.map (·.2) = ps ∧ SqT K H a (ks.map fun p => V.ref p.1) ∧ ∀ p ∈ ks, SqT K H p.1 (p.2.map V.int)
/-- a list of tuples of ints -/
def Lots (K : PySem.W.Frag) (H : Hp) (a : Addr) (ps : List (List Int)) : Prop := ∃ ks : List (Addr × List Int), ks.map (·.2) = ps ∧ SqL K H a (ks.map fun p => V.ref p.1) ∧ ∀ p ∈ ks, SqT K H p.1 (p.2.map V.int)
theorem Tups.same {K : PySem.W.Frag} {H H' : Hp} {a : Addr} {ps : List (List Int)} (h : Tups K H a ps) (e : Same H H') : Tups K H' a ps :=
  let ⟨ks, h1, h2, h3⟩ := h; ⟨ks, h1, sqT_same e h2, fun p hp => sqT_same e (h3 p hp)⟩
theorem Lots.same {K : PySem.W.Frag} {H H' : Hp} {a : Addr} {ps : List (List Int)} (h : Lots K H a ps) (e : Same H H') : Lots K H' a ps :=
  let ⟨ks, h1, h2, h3⟩ := h; ⟨ks, h1, sqL_same e h2, fun p hp => sqT_same e (h3 p hp)⟩
theorem dpInts {K : PySem.W.Frag} {H : Hp} : ∀ ns : List Int, DpAll K H (ns.map V.int) (ns.map PyData.int)
  | [] => .nil
  | n :: r => .cons (.int n) (dpInts r)
def dI (ns : List Int) : PyData := .tuple (ns.map PyData.int)
def dTT (ps : List (List Int)) : PyData := .tuple (ps.map dI)
theorem dpT {K : PySem.W.Frag} {H : Hp} {a : Addr} {ns : List Int} (h : SqT K H a (ns.map V.int)) : Dp K H (.ref a) (dI ns) := .tup h (dpInts ns)
theorem dpTs {K : PySem.W.Frag} {H : Hp} : ∀ ks : List (Addr × List Int), (∀ p ∈ ks, SqT K H p.1 (p.2.map V.int)) → DpAll K H (ks.map fun p => V.ref p.1) ((ks.map (·.2)).map dI)
  | [], _ => .nil
  | p :: r, h => .cons (dpT (h p (List.mem_cons_self ..))) (dpTs r fun q hq => h q (List.mem_cons_of_mem _ hq))
theorem Tups.dp {K : PySem.W.Frag} {H : Hp} {a : Addr} {ps : List (List Int)} (h : Tups K H a ps) : Dp K H (.ref a) (dTT ps) := by
  obtain ⟨ks, rfl, h2, h3⟩ := h
  exact .tup h2 (dpTs ks h3)
theorem map_at {α β : Type} {f : α → β} {l : List α} {i : Nat} {y : β} (h : (l.map f)[i]? = some y) : ∃ x, l[i]? = some x ∧ y = f x := by
  rw [List.getElem?_map] at h
  cases e : l[i]? with
  | none => rw [e] at h; cases h
  | some x => rw [e] at h; exact ⟨x, rfl, (Option.some.inj h).symm⟩
theorem all_true : ∀ n : Nat, (List.replicate n true).all id = true
  | 0 => rfl
  | n + 1 => by rw [List.replicate_succ, List.all_cons, all_true n]; rfl
theorem rep_bl (n : Nat) : List.replicate n (V.bl true) = (List.replicate n true).map V.bl := by rw [List.map_replicate]
theorem rep_next {α : Type} (n : Nat) (x : α) : List.replicate n x ++ [x] = List.replicate (n + 1) x := by rw [List.replicate_succ', ]
theorem tt_yes {σ : L2.St} {H : Hp} {A B : Hp → Prop} (h : A H) : tYes σ H (fun b H3 => if b = true then A H3 else B H3) := iteT (A := A H) (B := B H) h
theorem un65 {k : Nat} {A : Around} (r : Room k A) : A.units + 65 < cLine := by have := r.un; omega
theorem few1 {n : Nat} (h : n ≤ 1000) : n < sizeLine := small1000 h
/-! ### data of ints, tuples of these -/
theorem lay_ints : ∀ ns : List Int, PyData.canLayAll0 (ns.map PyData.int) = true
  | [] => by simp [PyData.canLayAll0]
  | n :: r => by simp [PyData.canLayAll0, PyData.canLay0, lay_ints r]
theorem dep_ints : ∀ ns : List Int, PyData.depthAll (ns.map PyData.int) = 0
  | [] => by simp [PyData.depthAll]
  | n :: r => by simp [PyData.depthAll, PyData.depth, dep_ints r]
theorem dI_lay (ns : List Int) : (dI ns).canLay0 = true := by simp only [dI, PyData.canLay0]; exact lay_ints ns
theorem dI_dep (ns : List Int) : (dI ns).depth = 1 := by simp only [dI, PyData.depth, dep_ints]
theorem lay_dI : ∀ ps : List (List Int), PyData.canLayAll0 (ps.map dI) = true
  | [] => by simp [PyData.canLayAll0]
  | n :: r => by simp [PyData.canLayAll0, dI_lay, lay_dI r]
theorem dep_dI : ∀ ps : List (List Int), PyData.depthAll (ps.map dI) ≤ 1
  | [] => by simp [PyData.depthAll]
  | n :: r => by
    have h := dep_dI r
    simp only [List.map_cons, PyData.depthAll, dI_dep]
    omega
theorem shapedI (ns : List Int) : SeqAt.shaped (dI ns) = true := by
  show ((dI ns).canLay0 && decide ((dI ns).depth ≤ 64)) = true
  rw [dI_lay, dI_dep]; rfl
theorem shapedTT (ps : List (List Int)) : SeqAt.shaped (dTT ps) = true := by
  have h := dep_dI ps
  have e : (dTT ps).depth ≤ 64 := by simp only [dTT, PyData.depth]; omega
  show ((dTT ps).canLay0 && decide ((dTT ps).depth ≤ 64)) = true
  rw [decide_eq_true e, Bool.and_true]
  simp only [dTT, PyData.canLay0]; exact lay_dI ps
theorem eqv_ints : ∀ ns ms : List Int, PyData.eqvAll (ns.map PyData.int) (ms.map PyData.int) = decide (ns = ms)
  | [], [] => by simp [PyData.eqvAll]
  | [], m :: r => by simp [PyData.eqvAll]
  | n :: r, [] => by simp [PyData.eqvAll]
  | n :: r, m :: q => by
    have h := eqv_ints r q
    simp only [List.map_cons, PyData.eqvAll, PyData.eqv, h]
    by_cases e : n = m
    · subst e; by_cases e2 : r = q <;> simp [e2]
    · simp [e]
theorem eqvI (ns ms : List Int) : PyData.eqv (dI ns) (dI ms) = decide (ns = ms) := by simp only [dI, PyData.eqv, eqv_ints]
theorem eqv_dIs : ∀ ns ms : List (List Int), PyData.eqvAll (ns.map dI) (ms.map dI) = decide (ns = ms)
  | [], [] => by simp [PyData.eqvAll]
  | [], m :: r => by simp [PyData.eqvAll]
  | n :: r, [] => by simp [PyData.eqvAll]
  | n :: r, m :: q => by
    have h := eqv_dIs r q
    simp only [List.map_cons, PyData.eqvAll, eqvI, h]
    by_cases e : n = m
    · subst e; by_cases e2 : r = q <;> simp [e2]
    · simp [e]
theorem eqvTT (ns ms : List (List Int)) : PyData.eqv (dTT ns) (dTT ms) = decide (ns = ms) := by simp only [dTT, PyData.eqv, eqv_dIs]
theorem any_dI (p : List Int) : ∀ ps : List (List Int), (ps.map dI).any (fun y => PyData.eqv y (dI p)) = decide (p ∈ ps)
  | [] => rfl
  | q :: r => by
    rw [List.map_cons, List.any_cons, any_dI p r, eqvI]
    by_cases e : q = p
    · subst e; simp
    · have e' : ¬ p = q := fun z => e z.symm
      by_cases e2 : p ∈ r <;> simp [e, e', e2]
section
variable {X : Cx}
/-- t in ts, of tuples of ints -/
def rInTs (K : PySem.W.Frag) : R2 := fun x y H Q => ∃ (a b : Addr) (p : List Int) (ps : List (List Int)), x = .ref a ∧ y = .ref b ∧ SqT K H a (p.map V.int) ∧ Tups K H b ps ∧ Q (.bl (decide (p ∈ ps))) H
theorem op_inTs (hu : X.A.units + 65 < cLine) : OpR X (compareOp .In) (rInTs X.K) := by
  intro pins s σ H x y v u Q I rx ry h
  obtain ⟨a, b, p, ps, rfl, rfl, h1, h2, q⟩ := h
  obtain ⟨as, r1⟩ := Dp.reads I (dI p) (.ref a) v (dpT h1) rx
  obtain ⟨bs, r2⟩ := Dp.reads I (dTT ps) (.ref b) u h2.dp ry
  refine SeqAt.in_tuple_reads (xs := ps.map dI) r2 r1 (lay_dI ps) (dI_lay p) ?_ ⟨.bl _, H, I, rfl, ?_⟩
  · have := Nat.min_le_right (PyData.depthAll (ps.map dI)) (dI p).depth
    have e := dI_dep p
    omega
  · rw [any_dI]; exact q
/-- two tuples of ints, two tuples of tuples of ints compared -/
def rEqI1 (K : PySem.W.Frag) : R2 := fun x y H Q => ∃ (a b : Addr) (p q : List Int), x = .ref a ∧ y = .ref b ∧ SqT K H a (p.map V.int) ∧ SqT K H b (q.map V.int) ∧ Q (.bl (decide (p = q))) H
def rEqTs (K : PySem.W.Frag) : R2 := fun x y H Q => ∃ (a b : Addr) (p q : List (List Int)), x = .ref a ∧ y = .ref b ∧ Tups K H a p ∧ Tups K H b q ∧ Q (.bl (decide (p = q))) H
theorem op_eqI1 (hu : X.A.units + 64 < cLine) : OpR X (compareOp .Eq) (rEqI1 X.K) := by
  intro pins s σ H x y v u Q I rx ry h
  obtain ⟨a, b, p, ps, rfl, rfl, h1, h2, q⟩ := h
  refine op_eqD hu pins s σ H _ _ v u Q I rx ry ⟨dI p, dI ps, dpT h1, dpT h2, shapedI p, shapedI ps, ?_⟩
  rw [eqvI]; exact q
theorem op_eqTs (hu : X.A.units + 64 < cLine) : OpR X (compareOp .Eq) (rEqTs X.K) := by
  intro pins s σ H x y v u Q I rx ry h
  obtain ⟨a, b, p, ps, rfl, rfl, h1, h2, q⟩ := h
  refine op_eqD hu pins s σ H _ _ v u Q I rx ry ⟨dTT p, dTT ps, h1.dp, h2.dp, shapedTT p, shapedTT ps, ?_⟩
  rw [eqvTT]; exact q
end
section
variable {X : Cx} {K : PySem.W.Frag}
/-! the rules whose reading names the written part, for a comprehension's block -/
theorem ix_tupK (h : X.K = K) : IxR X (rIxT K) := h ▸ ix_tup
theorem pg_tupK {es : List Expr} {k : Nat} {t : TGs} {n : Nat} {pos : Pos} (h : X.K = K) (hc : X.calm = true) (hg : PGs X es t)
    (hn : (assignEach es X.env).length = n := by rfl) (hst : (assignEach es X.env).findIdx? (·.1) = none := by rfl) : PG X (.Tuple es k pos) (gTup K n t) := h ▸ pg_tup hc hg hn hst
theorem op_inTsK (h : X.K = K) (hu : X.A.units + 65 < cLine) : OpR X (compareOp .In) (rInTs K) := h ▸ op_inTs hu
theorem op_ltTK (h : X.K = K) (hu : X.A.units < cLine) : OpR X (compareOp .Lt) (rLtT K) := h ▸ op_ltT hu
def rLenS (K : PySem.W.Frag) : List V → Hp → VK → Prop := fun xs H Q => ∃ p ys, xs = [.ref p] ∧ (SqL K H p ys ∨ SqT K H p ys) ∧ Q (.int ys.length) H
theorem call_lenK (h : X.K = K) : CallR X (.builtin "len") (rLenS K) := h ▸ call_len_seq
end
end RV
set_option maxHeartbeats 4000000
namespace K10
open PySem PySem.Spec PyProof.Rows L2 RV
/-! ### the text by places -/
def topS (i : Nat) : Stmt := PySem.Challenge.pw_ringvouch_k10_sizes_near_and_far.main.body.getD i (.Pass ⟨0, 0, 0, 0⟩)
abbrev sLed : Stmt := topS 1
abbrev sParts : Stmt := topS 2
abbrev sAtOnce : Stmt := topS 4
abbrev sOfSteps : Stmt := topS 5
abbrev sEndsBehind : Stmt := topS 6
abbrev sOfWalks : Stmt := topS 7
abbrev sComeBack : Stmt := topS 9
abbrev sIsSize : Stmt := topS 10
abbrev sSizes : Stmt := topS 11
abbrev sWhole : Stmt := topS 16
abbrev sMark : Stmt := topS 17
abbrev sMarks : Stmt := topS 18
abbrev sMirrors : Stmt := topS 22
abbrev sSteps : Stmt := topS 23
abbrev sStep : Stmt := topS 24
abbrev sRising : Stmt := topS 25
abbrev sBehind : Stmt := topS 26
abbrev sHand : Stmt := topS 28
abbrev sDraw : Stmt := topS 29
abbrev sOf : Stmt := topS 30
abbrev sClosed : Stmt := topS 31
abbrev sDrawn : Stmt := topS 32
abbrev sKinds : Stmt := topS 33
abbrev sWheel : Stmt := topS 34
abbrev sSide : Stmt := topS 35
abbrev sRule : Stmt := topS 36
abbrev sRound : Stmt := topS 37
abbrev sCome : Stmt := topS 38
abbrev sLParts : Stmt := topS 39
abbrev sLBehind : Stmt := topS 40
abbrev sLAt : Stmt := topS 41
abbrev sOwnSets : Stmt := topS 42
abbrev sLIsSize : Stmt := topS 43
abbrev sMade : Stmt := topS 44
abbrev sDRound : Stmt := topS 45
abbrev sPlaces : Stmt := topS 46
abbrev sRight : Stmt := topS 47
abbrev sLaw : Stmt := topS 48
abbrev sInit : Stmt := inClass (topS 21) 0
abbrev sEq : Stmt := inClass (topS 21) 4
abbrev sMarksM : Stmt := inClass (topS 21) 1
abbrev sMirrorM : Stmt := inClass (topS 21) 2
abbrev sBehindM : Stmt := inClass (topS 21) 3
/-- a def of the text as the top has left it -/
structure DefAt (K : PySem.W.Frag) (mg : Str → Option Value) (x : Str) (st : Stmt) (ps : List Str) (f : Addr) (fd : FuncData) : Prop where
  fn : Fun K x x st f fd
  bi : Binds K fd ps []
  mg : mg x = some (.ref f)
/-- the names that are the interpreter's own -/
structure Bare (mg : Str → Option Value) : Prop where
  len : mg "len" = none
  isinstance : mg "isinstance" = none
  int : mg "int" = none
  bool : mg "bool" = none
  tuple : mg "tuple" = none
  all : mg "all" = none
  enumerate : mg "enumerate" = none
  zip : mg "zip" = none
  range : mg "range" = none
  list : mg "list" = none
  set : mg "set" = none
  sorted : mg "sorted" = none
  abs : mg "abs" = none
  max : mg "max" = none
  min : mg "min" = none
  repr : mg "repr" = none
  dict : mg "dict" = none
  any : mg "any" = none
section
variable {P : Program} {w : World} {K : PySem.W.Frag} {mg : Str → Option Value} {base : Heap}
/-! ### is_whole -/
theorem scWhole : FnScope ["thing"] ["thing"] (defScope sWhole) := ⟨rfl, rfl, rfl, by decide +kernel, rfl, by decide +kernel, by decide +kernel⟩
def spWhole : Sp := fun vs H Q _ => ∃ i : Int, vs = [.int i] ∧ Q (.bl true) H
theorem ok_whole {f : Addr} {fd : FuncData} (F : Fun K "is_whole" "is_whole" sWhole f fd) (B : Bare mg) : FnOk P w K mg base CX0 1 f fd ["thing"] spWhole := by
  refine F.ok scWhole (fun vs H Q E h => ?_) (fun cdv A outer s H vs Q E hr h => ?_)
  · obtain ⟨i, rfl, _⟩ := h
    rfl
  · obtain ⟨i, rfl, q⟩ := h
    refine ⟨_, pss_one (ps_ret (pe_and (pe_callB call_isi (by rfl) B.isinstance (by decide +kernel) (pa_cons (pv 0) (pa_cons (pe_bltn (v := .ty "int") (by rfl) B.int boot_int rfl) pa_nil)))
      (pe_one (pe_not (pe_callB call_isi (by rfl) B.isinstance (by decide +kernel) (pa_cons (pv 0) (pa_cons (pe_bltn (v := .ty "bool") (by rfl) B.bool (by decide +kernel) rfl) pa_nil))))))), ?_⟩
    refine ⟨.int i, rfl, .int i, .ty "int", _, _, true, rfl, .ty "int", .base (.int i), kit_ty (by decide +kernel), true, rfl, iteT ?_⟩
    exact ⟨.int i, rfl, .int i, .ty "bool", _, _, false, rfl, .ty "bool", .base (.int i), kit_ty (by decide +kernel), false, rfl, q⟩
/-! ### is_below -/
theorem scMark : FnScope ["thing", "many"] ["thing", "many"] (defScope sMark) := ⟨rfl, rfl, rfl, by decide +kernel, rfl, by decide +kernel, by decide +kernel⟩
def spMark : Sp := fun vs H Q _ => ∃ i n : Int, vs = [.int i, .int n] ∧ 0 ≤ i ∧ i < n ∧ Q (.bl true) H
theorem ok_mark {f fW : Addr} {fd fdW : FuncData} (F : Fun K "is_below" "is_below" sMark f fd) (D : DefAt K mg "is_whole" sWhole ["thing"] fW fdW) (B : Bare mg) : FnOk P w K mg base CX0 2 f fd ["thing", "many"] spMark := by
  have GW : FnOk P w K mg base CX0 1 fW fdW ["thing"] spWhole := ok_whole D.fn B
  refine F.ok scMark (fun vs H Q E h => ?_) (fun cdv A outer s H vs Q E hr h => ?_)
  · obtain ⟨i, n, rfl, _⟩ := h
    rfl
  · obtain ⟨i, n, rfl, h1, h2, q⟩ := h
    refine ⟨_, pss_one (ps_ret (pe_and (pe_call GW hr (by rfl) D.mg D.fn.kp D.bi .nil pass0 (pa_cons (pv 0) pa_nil)) (pe_one (pe_chain op_le op_lt pe_int (pv 0) (pv 1))))), ?_⟩
    refine ⟨.int i, rfl, i, rfl, true, rfl, iteT ?_⟩
    refine ⟨.int i, rfl, 0, i, rfl, rfl, _, rfl, ?_⟩
    rw [decide_eq_true h1]
    refine iteT ⟨.int n, rfl, i, n, rfl, rfl, ?_⟩
    show Q (.bl (decide (i < n))) H
    rw [decide_eq_true h2]
    exact q
/-! ### are_marks -/
theorem scMarks : FnScope ["thing", "many", "mark"] ["thing", "many"] (defScope sMarks) := ⟨rfl, rfl, rfl, by decide +kernel, rfl, by decide +kernel, by decide +kernel⟩
def spMarks (K : PySem.W.Frag) : Sp := fun vs H Q _ => ∃ (a : Addr) (ns : List Int) (n : Int), vs = [.ref a, .int n] ∧ SqT K H a (ns.map V.int) ∧ 0 < ns.length ∧ ns.length ≤ 1000 ∧ (∀ i ∈ ns, 0 ≤ i ∧ i < n) ∧ ∀ H', Same H H' → Q (.bl true) H'
theorem ok_marks {f fM fW : Addr} {fd fdM fdW : FuncData} (F : Fun K "are_marks" "are_marks" sMarks f fd) (DM : DefAt K mg "is_below" sMark ["thing", "many"] fM fdM) (DW : DefAt K mg "is_whole" sWhole ["thing"] fW fdW) (B : Bare mg) :
    FnOk P w K mg base CX0 3 f fd ["thing", "many"] (spMarks K) := by
  have GM : FnOk P w K mg base CX0 2 fM fdM ["thing", "many"] spMark := ok_mark DM.fn DW B
  refine F.ok scMarks (fun vs H Q E h => ?_) (fun cdv A outer s H vs Q E hr h => ?_)
  · obtain ⟨a, ns, n, rfl, _⟩ := h
    rfl
  · obtain ⟨a, ns, n, rfl, hT, h0, hm, hin, q⟩ := h
    refine ⟨_, pss_one (ps_ret (pe_and (pe_callB call_isi (by rfl) B.isinstance (by decide +kernel) (pa_cons (pv 0) (pa_cons (pe_bltn (v := .ty "tuple") (by rfl) B.tuple (by decide +kernel) rfl) pa_nil)))
      (pe_and (pe_cmpR op_gt (pe_callB call_len_seq (by rfl) B.len PySem.boot_len (pa_cons (pv 0) pa_nil)) pe_int (nomark _))
      (pe_one (pe_callB (cr_all rfl) (by rfl) B.all (by decide +kernel) (pa_cons
        (pe_lc (own := [("mark", 2)]) (g := gName 2) (tt := tYes) rfl scMarks.nd (pi_tup (pv 0)) (blkOk_by (N := ["thing", "many", "mark"]) (sc := defScope sMarks) (by decide +kernel)) (fun _ _ _ _ _ => pg_name (i := 2) scMarks.nd rfl (Or.inl rfl)) (fun _ _ _ _ _ => pts_nil)
          (fun _ _ _ _ _ => pe_call GM hr (by rfl) DM.mg DM.fn.kp DM.bi .nil pass0 (pa_cons (pv 2) (pa_cons (pv 1) pa_nil)))) pa_nil)))))), ?_⟩
    refine ⟨.ref a, rfl, .ref a, .ty "tuple", _, _, true, rfl, .ty "tuple", tyT hT, kit_ty (by decide +kernel), true, rfl, iteT ?_⟩
    refine ⟨.ref a, rfl, a, _, rfl, .inr hT, _, _, rfl, rfl, decide (((ns.map V.int).length : Int) > 0), rfl, ?_⟩
    rw [decide_eq_true (show ((ns.map V.int).length : Int) > 0 by rw [List.length_map]; omega)]
    refine iteT ⟨.ref a, rfl, a, rfl, ⟨_, hT⟩, fun D nD => ?_⟩
    refine lc_tup (K := K) (a := a) (xs := ns.map V.int) (fun i H' => Same H H' ∧ H' D = some (.lst (List.replicate i (V.bl true)))) ⟨same_upd nD, upd_same⟩ (fun i H' _ p => sqT_same p.1 hT) (fun i x H' hx p => ?_) fun H' p => ?_
    · obtain ⟨m, hm', rfl⟩ := map_at hx
      have hi : i < ns.length := (List.getElem?_eq_some_iff.mp hm').1
      have hr' := hin m (List.mem_of_getElem? hm')
      refine ⟨rfl, tt_yes ⟨.int m, rfl, .int n, rfl, m, n, rfl, hr'.1, hr'.2, _, p.2, ?_, ?_, ?_⟩⟩
      · rw [List.length_replicate]; exact few1 (by omega)
      · exact fun b o e => by rw [upd_ne (ne_of_none e nD)]; exact p.1 b o e
      · rw [upd_same, rep_next]
    · rw [List.length_map, rep_bl] at p
      refine ⟨D, _, rfl, lstNew p.2, ?_⟩
      rw [all_true]
      exact q H' p.1
end
end K10
set_option maxHeartbeats 4000000
namespace K10
open PySem PySem.Spec PyProof.Rows L2 RV
/-- mirrors of one to eight marks -/
structure Mir (ns : List Int) : Prop where
  pos : 0 < ns.length
  few : ns.length ≤ 8
  inn : ∀ i ∈ ns, 0 ≤ i ∧ i < (ns.length : Int)
  back : ∀ (k : Nat) (m : Int), ns[k]? = some m → ns[m.toNat]? = some (k : Int)
/-- a rising tuple of steps, with their mirror steps -/
structure Stp (ns : List Int) (ps : List (List Int)) : Prop where
  few : ps.length ≤ 64
  pair : ∀ p ∈ ps, ∃ x y : Int, p = [x, y] ∧ (0 ≤ x ∧ x < (ns.length : Int)) ∧ (0 ≤ y ∧ y < (ns.length : Int))
  rise : ∀ (i : Nat) (p q : List Int), ps[i]? = some p → ps[i + 1]? = some q → HT.lexLt p q = true
  mirr : ∀ x y mx my : Int, [x, y] ∈ ps → ns[x.toNat]? = some mx → ns[y.toNat]? = some my → [my, mx] ∈ ps
  nd : ps.Nodup
section
variable {P : Program} {w : World} {K : PySem.W.Frag} {mg : Str → Option Value} {base : Heap}
/-! ### are_mirrors -/
theorem scMirrors : FnScope ["thing", "mark", "mirror"] ["thing"] (defScope sMirrors) := ⟨rfl, rfl, rfl, by decide +kernel, rfl, by decide +kernel, by decide +kernel⟩
def spMirrors (K : PySem.W.Frag) : Sp := fun vs H Q _ => ∃ (a : Addr) (ns : List Int), vs = [.ref a] ∧ SqT K H a (ns.map V.int) ∧ Mir ns ∧ ∀ H', Same H H' → Q (.bl true) H'
theorem ok_mirrors {f fA : Addr} {fd fdA : FuncData} {t : Tok} (F : Fun K "are_mirrors" "are_mirrors" sMirrors f fd) (DA : DefAt K mg "are_marks" sMarks ["thing", "many"] fA fdA) (GA : FnOk P w K mg base CX0 3 fA fdA ["thing", "many"] (spMarks K)) (B : Bare mg)
    (mM : mg "MOST_MARKS" = some (.int 8 t)) : FnOk P w K mg base CX0 4 f fd ["thing"] (spMirrors K) := by
  refine F.ok scMirrors (fun vs H Q E h => ?_) (fun cdv A outer s H vs Q E hr h => ?_)
  · obtain ⟨a, ns, rfl, _⟩ := h
    rfl
  · obtain ⟨a, ns, rfl, hT, hM, q⟩ := h
    refine ⟨_, pss_cons (ps_if (PW.pt (pw_or (pt_not (pt_val (pe_callB call_isi (by rfl) B.isinstance (by decide +kernel) (pa_cons (pv 0) (pa_cons (pe_bltn (v := .ty "tuple") (by rfl) B.tuple (by decide +kernel) rfl) pa_nil)))))
        (pw_or1 (pt_cmpR op_gt (pe_callB call_len_seq (by rfl) B.len PySem.boot_len (pa_cons (pv 0) pa_nil)) (pe_glob (v := .int 8) rfl mM ⟨_, rfl⟩) (nomark _))))) (pss_one (ps_ret pe_bl)) pss_nil)
      (pss_cons (ps_if (pt_not (pt_val (pe_call GA hr (by rfl) DA.mg DA.fn.kp DA.bi .nil pass0 (pa_cons (pv 0) (pa_cons (pe_callB call_len_seq (by rfl) B.len PySem.boot_len (pa_cons (pv 0) pa_nil)) pa_nil))))) (pss_one (ps_ret pe_bl)) pss_nil)
      (pss_one (ps_ret (pe_callB (cr_all rfl) (by rfl) B.all (by decide +kernel) (pa_cons
        (pe_lc (own := [("mark", 1), ("mirror", 2)]) (g := gTup K 2 (gCons (gName 1) (gCons (gName 2) gNil))) (tt := tYes) rfl scMirrors.nd (pi_enT (by rfl) B.enumerate (pa_cons (pv 0) pa_nil)) (blkOk_by (N := ["thing", "mark", "mirror"]) (sc := defScope sMirrors) (by decide +kernel))
          (fun _ _ _ _ _ => pg_tupK rfl rfl (pgs_cons (pg_name (i := 1) scMirrors.nd rfl (Or.inl rfl)) (pgs_cons (pg_name (i := 2) scMirrors.nd rfl (Or.inl rfl)) pgs_nil))) (fun _ _ _ _ _ => pts_nil)
          (fun _ _ _ _ _ => pe_cmpR op_eq (pe_ix (ix_tupK (K := K) rfl) (pv 0) (pv 2) (fun _ _ => rfl)) (pv 1) (nomark _))) pa_nil))))), ?_⟩
    refine ⟨.ref a, rfl, .ref a, .ty "tuple", _, _, true, rfl, .ty "tuple", tyT hT, kit_ty (by decide +kernel), true, rfl, iteF ?_⟩
    refine ⟨.ref a, rfl, a, _, rfl, .inr hT, _, _, rfl, rfl, decide (((ns.map V.int).length : Int) > 8), rfl, ?_⟩
    have h8 := hM.few
    rw [decide_eq_false (show ¬ ((ns.map V.int).length : Int) > 8 by rw [List.length_map]; omega)]
    refine iteF ?_
    refine ⟨.ref a, rfl, .ref a, rfl, a, _, rfl, .inr hT, a, ns, _, rfl, hT, hM.pos, by omega, fun i hi => ?_, fun H1 s1 => ⟨true, rfl, iteF ?_⟩⟩
    · rw [List.length_map]; exact hM.inn i hi
    · refine ⟨.ref a, rfl, a, _, rfl, sqT_same s1 hT, fun D nD => ?_⟩
      refine lc_it (walk_enT (K := K) (a := a) (xs := ns.map V.int)) (fun i H' => Same H1 H' ∧ H' D = some (.lst (List.replicate i (V.bl true)))) ⟨same_upd nD, upd_same⟩ (fun i H' _ p => sqT_same p.1 (sqT_same s1 hT)) (fun i x H2 H3 hi p y => ?_) fun H' p => ?_
      · obtain ⟨T, x1, x2, rfl, nT, rfl, e1, e2⟩ := y
        have e1' : x1 = .int (i : Nat) := (Option.some.inj e1).symm
        subst e1'
        obtain ⟨m, hm, rfl⟩ := map_at e2
        have hin := hM.inn m (List.mem_of_getElem? hm)
        have hil : i < ns.length := (List.getElem?_eq_some_iff.mp hm).1
        have hDT : D ≠ T := ne_of_none p.2 nT
        have sT : Same H2 (upd H2 T (.tup [.int (i : Nat), .int m])) := same_upd nT
        have hA : SqT K (upd H2 T (.tup [.int (i : Nat), .int m])) a (ns.map V.int) := sqT_same sT (sqT_same p.1 (sqT_same s1 hT))
        have gm : (ns.map V.int)[m.toNat]? = some (.int (i : Nat)) := by
          rw [List.getElem?_map, hM.back i m hm]; rfl
        refine ⟨T, _, rfl, tupNew upd_same, rfl, _, _, rfl, _, _, rfl, rfl, rfl, tt_yes ⟨.ref a, rfl, .int m, rfl, a, _, m, .int (i : Nat), rfl, rfl, hA, ?_, .int (i : Nat), rfl, rfl, _, (sT _ _ p.2), ?_, ?_, ?_⟩⟩
        · have e : m = ((m.toNat : Nat) : Int) := by omega
          rw [e]; exact atI_nat gm
        · rw [List.length_replicate]; exact few1 (by omega)
        · exact fun b o e => by rw [upd_ne (ne_of_none e nD)]; exact sT b o (p.1 b o e)
        · rw [upd_same, decide_eq_true rfl, rep_next]
      · rw [List.length_map, rep_bl] at p
        refine ⟨D, _, rfl, lstNew p.2, ?_⟩
        rw [all_true]
        exact q H' (s1.trans p.1)
end
end K10
namespace K10
open PySem PySem.Spec PyProof.Rows L2 RV
def rgI (a b : Int) : List Int := (List.range (b - a).toNat).map fun (i : Nat) => a + (i : Int)
theorem rgV_rgI (a b : Int) : rgV a b = (rgI a b).map V.int := by
  unfold rgV rgI
  rw [List.map_map]; rfl
theorem rgI_len (a b : Int) : (rgI a b).length = (b - a).toNat := by unfold rgI; rw [List.length_map, List.length_range]
theorem rgI_get {a b : Int} {k : Nat} {m : Int} : (rgI a b)[k]? = some m ↔ k < (b - a).toNat ∧ m = a + (k : Int) := by
  unfold rgI
  rw [List.getElem?_map]
  by_cases h : k < (b - a).toNat
  · rw [List.getElem?_range h]
    simp [h, eq_comm]
  · rw [List.getElem?_eq_none (by rw [List.length_range]; omega)]
    simp [h]
/-! ### mirrors drawn: fs so far, ls the marks left -/
structure Half (m : Nat) (fs ls : List Int) : Prop where
  len : fs.length = m
  inn : ∀ (k : Nat) (x : Int), fs[k]? = some x → 0 ≤ x ∧ x < (m : Int)
  back : ∀ (k : Nat) (x : Int), fs[k]? = some x → fs[x.toNat]? = some (k : Int)
  nd : ls.Nodup
  lin : ∀ x ∈ ls, 0 ≤ x ∧ x < (m : Int)
  self : ∀ x ∈ ls, fs[x.toNat]? = some x
theorem half_start (m : Nat) : Half m (rgI 0 (m : Int)) (rgI 0 (m : Int)) := by
  have mem : ∀ x ∈ rgI 0 (m : Int), 0 ≤ x ∧ x < (m : Int) := fun x hx => by
    obtain ⟨k, hk, e⟩ := List.getElem_of_mem hx
    have z : (rgI 0 (m : Int))[k]? = some x := by rw [List.getElem?_eq_getElem hk, e]
    rw [rgI_get] at z; omega
  refine ⟨by rw [rgI_len]; omega, fun k x h => ?_, fun k x h => ?_, ?_, mem, fun x hx => ?_⟩
  · rw [rgI_get] at h; omega
  · rw [rgI_get] at h ⊢; omega
  · unfold rgI
    refine List.Pairwise.map _ (fun a b (h : a < b) => ?_) List.pairwise_lt_range
    omega
  · have := mem x hx
    rw [rgI_get]; omega
theorem half_drop {m : Nat} {fs ls : List Int} {x : Int} (h : Half m fs (x :: ls)) : Half m fs ls :=
  ⟨h.len, h.inn, h.back, (List.nodup_cons.mp h.nd).2, fun y hy => h.lin y (List.mem_cons_of_mem _ hy), fun y hy => h.self y (List.mem_cons_of_mem _ hy)⟩
theorem not_in_erase : ∀ {ls : List Int} {r : Nat} {z : Int}, ls.Nodup → ls[r]? = some z → z ∉ ls.eraseIdx r
  | [], _, _, _, h => by simp at h
  | a :: l, 0, z, nd, h => by
    have e : a = z := Option.some.inj h
    subst e
    exact (List.nodup_cons.mp nd).1
  | a :: l, r + 1, z, nd, h => by
    have h' : l[r]? = some z := h
    intro hz
    rcases List.mem_cons.mp (show z ∈ a :: l.eraseIdx r from hz) with e | e
    · exact (List.nodup_cons.mp nd).1 (e ▸ List.mem_of_getElem? h')
    · exact not_in_erase (List.nodup_cons.mp nd).2 h' e
theorem half_pair {m : Nat} {fs ls : List Int} {x y : Int} {r : Nat} (h : Half m fs (x :: ls)) (hy : ls[r]? = some y) : Half m ((fs.set x.toNat y).set y.toNat x) (ls.eraseIdx r) := by
  have hx := h.lin x (List.mem_cons_self ..)
  have hyl : y ∈ ls := List.mem_of_getElem? hy
  have hy1 := h.lin y (List.mem_cons_of_mem _ hyl)
  have hxy : x ≠ y := fun e => (List.nodup_cons.mp h.nd).1 (e ▸ hyl)
  have sx := h.self x (List.mem_cons_self ..)
  have sy := h.self y (List.mem_cons_of_mem _ hyl)
  have hl := h.len
  have nxy : x.toNat ≠ y.toNat := by omega
  have get : ∀ k : Nat, ((fs.set x.toNat y).set y.toNat x)[k]? = if y.toNat = k then (if k < m then some x else none) else if x.toNat = k then (if k < m then some y else none) else fs[k]? := fun k => by
    rw [List.getElem?_set, List.getElem?_set, List.length_set, hl]
    by_cases e1 : y.toNat = k
    · simp [e1]
    · by_cases e2 : x.toNat = k
      · simp [e1, e2]
      · simp [e1, e2]
  have sub : ∀ z ∈ ls.eraseIdx r, z ∈ ls := fun z hz => List.mem_of_mem_eraseIdx hz
  refine ⟨by rw [List.length_set, List.length_set]; exact hl, fun k z hz => ?_, fun k z hz => ?_, ?_, fun z hz => h.lin z (List.mem_cons_of_mem _ (sub z hz)), fun z hz => ?_⟩
  · rw [get] at hz
    split at hz
    · split at hz
      · cases hz; exact hx
      · cases hz
    · split at hz
      · split at hz
        · cases hz; exact hy1
        · cases hz
      · exact h.inn k z hz
  · rw [get] at hz
    split at hz
    · rename_i e1
      split at hz
      · cases hz
        rw [get, if_neg (by omega), if_pos rfl, if_pos (by omega)]
        congr 1; omega
      · cases hz
    · rename_i e1
      split at hz
      · rename_i e2
        split at hz
        · cases hz
          rw [get, if_pos rfl, if_pos (by omega)]
          congr 1; omega
        · cases hz
      · rename_i e2
        have b1 := h.back k z hz
        have i1 := h.inn k z hz
        have n1 : y.toNat ≠ z.toNat := fun e => by
          have : z = y := by omega
          subst this
          rw [sy] at b1
          have := Option.some.inj b1
          omega
        have n2 : x.toNat ≠ z.toNat := fun e => by
          have : z = x := by omega
          subst this
          rw [sx] at b1
          have := Option.some.inj b1
          omega
        rw [get, if_neg n1, if_neg n2]; exact b1
  · exact List.Nodup.sublist (List.eraseIdx_sublist ls r) (List.nodup_cons.mp h.nd).2
  · have hzl := sub z hz
    have z1 := h.lin z (List.mem_cons_of_mem _ hzl)
    have zx : z ≠ x := fun e => (List.nodup_cons.mp h.nd).1 (e ▸ hzl)
    have zy : z ≠ y := fun e => by
      subst e
      exact not_in_erase (List.nodup_cons.mp h.nd).2 hy hz
    rw [get, if_neg (by omega), if_neg (by omega)]
    exact h.self z (List.mem_cons_of_mem _ hzl)
theorem half_mir {m : Nat} {fs : List Int} (h : Half m fs []) (h1 : 1 ≤ m) (h8 : m ≤ 8) : Mir fs := by
  have hl := h.len
  refine ⟨by omega, by omega, fun x hx => ?_, h.back⟩
  obtain ⟨k, hk, e⟩ := List.getElem_of_mem hx
  have := h.inn k x (by rw [List.getElem?_eq_getElem hk, e])
  omega
end K10
set_option maxHeartbeats 4000000
namespace K10
open PySem PySem.Spec PyProof.Rows L2 RV
/-- a pail of numbers stands at p, t have been mixed -/
def PailAt (H : Hp) (p : Addr) (t : Nat) : Prop := ∃ x y : Int, H p = some (.lst [.int x, .int y, .int (t : Int)]) ∧ 0 ≤ x ∧ 0 ≤ y ∧ y < 2305843009213693951
/-- all stands but what is at p -/
def But (p : Addr) (H H' : Hp) : Prop := ∀ c o, H c = some o → c ≠ p → H' c = some o
theorem But.refl (p : Addr) (H : Hp) : But p H H := fun _ _ e _ => e
theorem But.trans {p : Addr} {H H1 H2 : Hp} (a : But p H H1) (b : But p H1 H2) : But p H H2 := fun c o e z => b c o (a c o e z) z
theorem But.of {p : Addr} {H H' : Hp} (s : Same H H') : But p H H' := fun c o e _ => s c o e
theorem flag01 (b : Bool) : -(2 ^ 64) < (if b = true then (1 : Int) else 0) ∧ (if b = true then (1 : Int) else 0) < 2 ^ 64 := by cases b <;> decide
theorem mul_flag {x : Int} (h : 0 ≤ x) (b : Bool) : 0 ≤ x * (if b = true then (1 : Int) else 0) := by
  cases b
  · show 0 ≤ x * 0
    rw [Int.mul_zero]; exact Int.le_refl _
  · show 0 ≤ x * 1
    rw [Int.mul_one]; exact h
theorem pow60 : ((10 : Int) ^ (60 : Int).toNat).natAbs < 2 ^ 200 := by decide +kernel
theorem pow120 : ((10 : Int) ^ (60 : Int).toNat * (10 : Int) ^ (60 : Int).toNat).natAbs < 2 ^ 400 := by decide +kernel
theorem pow180 : (0 : Int) < (10 : Int) ^ (60 : Int).toNat * (10 : Int) ^ (60 : Int).toNat * (10 : Int) ^ (60 : Int).toNat := by decide +kernel
section
variable {P : Program} {w : World} {K : PySem.W.Frag} {mg : Str → Option Value} {base : Heap}
/-! ### _law_hand -/
theorem scHand : FnScope ["_law_script", "_law_k", "_law_cell", "_law_great"] ["_law_script", "_law_k"] (defScope sHand) := ⟨rfl, rfl, rfl, by decide +kernel, rfl, by decide +kernel, by decide +kernel⟩
def spHand (K : PySem.W.Frag) : Sp := fun vs H Q _ => ∃ (a : Addr) (ns : List Int) (k : Nat), vs = [.ref a, .int (k : Int)] ∧ SqL K H a (ns.map V.int) ∧ k < 64 ∧ ∀ H' p, Same H H' → H p = none → PailAt H' p 0 → Q (.ref p) H'
theorem ok_hand {f : Addr} {fd : FuncData} (F : Fun K "_law_hand" "_law_hand" sHand f fd) (B : Bare mg) : FnOk P w K mg base CX0 1 f fd ["_law_script", "_law_k"] (spHand K) := by
  refine F.ok scHand (fun vs H Q E h => ?_) (fun cdv A outer s H vs Q E hr h => ?_)
  · obtain ⟨a, ns, k, rfl, _⟩ := h
    rfl
  · obtain ⟨a, ns, k, rfl, hS, hk, q⟩ := h
    refine ⟨_, pss_cons (ps_set (i := 2) scHand.nd rfl (Or.inl rfl) (pe_ifExp (pt_cmpR op_lt (pv 1) (pe_callB call_len_seq (by rfl) B.len PySem.boot_len (pa_cons (pv 0) pa_nil)) (nomark _)) (pe_ix ix_list (pv 0) (pv 1) (fun _ _ => rfl)) pe_int))
      (pss_cons (ps_set (i := 3) scHand.nd rfl (Or.inl rfl) (pe_op op_mul (pe_op op_mod (pe_callB call_abs (by rfl) B.abs (by decide +kernel) (pa_cons (pv 2) pa_nil)) (pe_op op_mulW (pe_op op_mulW (pe_op op_pow pe_int pe_int) (pe_op op_pow pe_int pe_int)) (pe_op op_pow pe_int pe_int))) (pe_callTy call_int1 (by rfl) B.int boot_int (pa_cons (pe_cmpR op_ge (pe_callB call_abs (by rfl) B.abs (by decide +kernel) (pa_cons (pv 2) pa_nil)) (pe_op op_pow pe_int pe_int) (nomark _)) pa_nil))))
      (pss_one (ps_ret (pe_lst (pa_cons (pv 3) (pa_cons (pe_op op_mod (pe_op op_add (pe_op op_add (pe_op op_mod (pv 2) pe_int) (pe_op op_mul pe_int (pv 1))) pe_int) pe_int) (pa_cons pe_int pa_nil))))))), ?_⟩
    have go : ∀ (cell : Int), ∃ great : Int, great = ((if cell < 0 then -cell else cell) % ((10 : Int) ^ (60 : Int).toNat * (10 : Int) ^ (60 : Int).toNat * (10 : Int) ^ (60 : Int).toNat)) := fun cell => ⟨_, rfl⟩
    refine ⟨.int (k : Int), rfl, .ref a, rfl, a, _, rfl, .inl hS, (k : Int), _, rfl, rfl, _, rfl, ite2 (fun hlt => ?_) (fun _ => ?_)⟩
    · have hkl : k < ns.length := by
        have z := of_decide_eq_true hlt
        rw [List.length_map] at z; omega
      refine ⟨.ref a, rfl, .int (k : Int), rfl, a, _, (k : Int), .int ns[k], rfl, rfl, hS, atI_nat (by rw [List.getElem?_map, List.getElem?_eq_getElem hkl]; rfl), ?_⟩
      generalize ns[k] = cell
      have own0 := Int.emod_nonneg (if cell < 0 then -cell else cell) (Int.ne_of_gt pow180)
      refine ⟨_, rfl, cell, rfl, 10, 60, rfl, rfl, ⟨by decide, by decide, by decide⟩, 10, 60, rfl, rfl, ⟨by decide, by decide, by decide⟩, _, _, rfl, rfl, wide_mul pow60 pow60 (by decide) (by decide) (by decide), 10, 60, rfl, rfl, ⟨by decide, by decide, by decide⟩, _, _, rfl, rfl, wide_mul pow120 pow60 (by decide) (by decide) (by decide), _, _, rfl, rfl, pow180, _, rfl, cell, rfl, 10, 18, rfl, rfl, ⟨by decide, by decide, by decide⟩, _, _, rfl, rfl, .inr ⟨_, rfl, _, _, rfl, rfl, .inr ?_, ?_⟩⟩
      · exact flag01 _
      · refine ⟨_, rfl, _, rfl, cell, 2305843009213693951, rfl, rfl, (show (0 : Int) < 2305843009213693951 by decide), .int (k : Int), rfl, 104729, (k : Int), rfl, rfl, .inl ⟨by decide, by decide⟩, _, _, rfl, rfl, _, 61, rfl, rfl, _, 2305843009213693951, rfl, rfl, (show (0 : Int) < 2305843009213693951 by decide), (by show 3 ≤ sizeLine; decide), fun p np => ?_⟩
        exact q _ p (same_upd np) np ⟨_, _, upd_same, mul_flag own0 _, Int.emod_nonneg _ (by decide), Int.emod_lt_of_pos _ (by decide)⟩
    · have own0 := Int.emod_nonneg (if (0 : Int) < 0 then -0 else 0) (Int.ne_of_gt pow180)
      refine ⟨_, rfl, 0, rfl, 10, 60, rfl, rfl, ⟨by decide, by decide, by decide⟩, 10, 60, rfl, rfl, ⟨by decide, by decide, by decide⟩, _, _, rfl, rfl, wide_mul pow60 pow60 (by decide) (by decide) (by decide), 10, 60, rfl, rfl, ⟨by decide, by decide, by decide⟩, _, _, rfl, rfl, wide_mul pow120 pow60 (by decide) (by decide) (by decide), _, _, rfl, rfl, pow180, _, rfl, 0, rfl, 10, 18, rfl, rfl, ⟨by decide, by decide, by decide⟩, _, _, rfl, rfl, .inr ⟨_, rfl, _, _, rfl, rfl, .inr ?_, ?_⟩⟩
      · exact flag01 _
      · refine ⟨_, rfl, _, rfl, 0, 2305843009213693951, rfl, rfl, (show (0 : Int) < 2305843009213693951 by decide), .int (k : Int), rfl, 104729, (k : Int), rfl, rfl, .inl ⟨by decide, by decide⟩, _, _, rfl, rfl, _, 61, rfl, rfl, _, 2305843009213693951, rfl, rfl, (show (0 : Int) < 2305843009213693951 by decide), (by show 3 ≤ sizeLine; decide), fun p np => ?_⟩
        exact q _ p (same_upd np) np ⟨_, _, upd_same, mul_flag own0 _, Int.emod_nonneg _ (by decide), Int.emod_lt_of_pos _ (by decide)⟩
end
end K10
set_option maxHeartbeats 4000000
namespace K10
open PySem PySem.Spec PyProof.Rows L2 RV
section
variable {P : Program} {w : World} {K : PySem.W.Frag} {mg : Str → Option Value} {base : Heap}
/-! ### _law_take -/
theorem scDraw : FnScope ["_law_pot", "_law_many", "_law_digit", "_law_prime", "_law_mixed"] ["_law_pot", "_law_many"] (defScope sDraw) := ⟨rfl, rfl, rfl, by decide +kernel, rfl, by decide +kernel, by decide +kernel⟩
def spDraw : Sp := fun vs H Q _ => ∃ (p : Addr) (t : Nat) (m : Int), vs = [.ref p, .int m] ∧ PailAt H p t ∧ t ≤ 4000 ∧ 1 ≤ m ∧ m ≤ 1000000000000000000000000000000 ∧
  ∀ (r : Int) (t' : Nat) (H' : Hp), 0 ≤ r → r < m → t' ≤ t + 1 → PailAt H' p t' → But p H H' → Q (.int r) H'
theorem primes_at (t : Int) (h : 0 ≤ t) : ∃ v : Int, atI [V.int 2305843009213693951, V.int 999999999989, V.int 1000000000039, V.int 67280421310721] (t % 4) = some (.int v) ∧ 0 < v ∧ v < 2305843009213693952 := by
  have h4 : t % 4 = 0 ∨ t % 4 = 1 ∨ t % 4 = 2 ∨ t % 4 = 3 := by omega
  rcases h4 with e | e | e | e <;> rw [e] <;> exact ⟨_, rfl, by decide, by decide⟩
theorem ok_draw {f : Addr} {fd : FuncData} (F : Fun K "_law_take" "_law_take" sDraw f fd) : FnOk P w K mg base CX0 1 f fd ["_law_pot", "_law_many"] spDraw := by
  refine F.ok scDraw (fun vs H Q E h => ?_) (fun cdv A outer s H vs Q E hr h => ?_)
  · obtain ⟨p, t, m, rfl, _⟩ := h
    rfl
  · obtain ⟨p, t, m, rfl, ⟨x, y, hp, hx, hy0, hy1⟩, ht, hm1, hm2, q⟩ := h
    refine ⟨_, pss_cons (ps_if (pt_cmpR op_gt (pe_ix ix_list (pv 0) pe_int (fun _ _ => rfl)) pe_int (nomark _))
        (pss_cons (ps_set (i := 2) scDraw.nd rfl (Or.inl rfl) (pe_op op_mod (pe_ix ix_list (pv 0) pe_int (fun _ _ => rfl)) (pv 1)))
        (pss_cons (ps_asg (pe_op op_fdivW (pe_ix ix_list (pv 0) pe_int (fun _ _ => rfl)) (pv 1)) (pg_sub (pv 0) pe_int set_list))
        (pss_one (ps_ret (pv 2))))) pss_nil)
      (pss_cons (ps_asg (pe_op op_add (pe_ix ix_list (pv 0) pe_int (fun _ _ => rfl)) pe_int) (pg_sub (pv 0) pe_int set_list))
      (pss_cons (ps_set (i := 3) scDraw.nd rfl (Or.inl rfl) (pe_ix ix_list (pe_lst (pa_cons pe_int (pa_cons pe_int (pa_cons pe_int (pa_cons pe_int pa_nil))))) (pe_op op_mod (pe_ix ix_list (pv 0) pe_int (fun _ _ => rfl)) pe_int) (fun _ _ => rfl)))
      (pss_cons (ps_set (i := 4) scDraw.nd rfl (Or.inl rfl) (pe_op op_mod (pe_op op_add (pe_op op_add (pe_ix ix_list (pv 0) pe_int (fun _ _ => rfl)) (pe_op op_mul (pe_op op_mul pe_int (pe_ix ix_list (pv 0) pe_int (fun _ _ => rfl))) (pe_ix ix_list (pv 0) pe_int (fun _ _ => rfl)))) (pe_op op_mul pe_int (pe_ix ix_list (pv 0) pe_int (fun _ _ => rfl)))) (pv 3)))
      (pss_cons (ps_set (i := 4) scDraw.nd rfl (Or.inl rfl) (pe_op op_mod (pe_op op_pow (pv 4) pe_int) (pv 3)))
      (pss_one (ps_ret (pe_op op_mod (pe_op op_add (pe_op op_fdiv (pv 4) pe_int) (pe_op op_mul (pe_op op_fdiv (pv 4) pe_int) pe_int)) (pv 1)))))))), ?_⟩
    refine ⟨.ref p, rfl, p, _, 0, .int x, rfl, rfl, lstNew hp, rfl, x, 0, rfl, rfl, _, rfl, ite2 (fun hx0 => ?_) (fun _ => ?_)⟩
    · refine ⟨.ref p, rfl, p, _, 0, .int x, rfl, rfl, lstNew hp, rfl, .int m, rfl, x, m, rfl, rfl, (show 0 < m by omega), ?_⟩
      refine ⟨.ref p, rfl, p, _, 0, .int x, rfl, rfl, lstNew hp, rfl, .int m, rfl, x, m, rfl, rfl, wide_div (b := 100) (by omega) (by omega) (by decide) (by decide), .ref p, rfl, p, _, 0, 0, rfl, rfl, hp, rfl, ?_⟩
      refine ⟨_, rfl, ?_⟩
      exact q (x % m) t _ (Int.emod_nonneg _ (by omega)) (Int.emod_lt_of_pos _ (by omega)) (by omega) ⟨x / m, y, upd_same, Int.ediv_nonneg hx (by omega), hy0, hy1⟩ fun c o e z => by rw [upd_ne z]; exact e
    · refine ⟨.ref p, rfl, p, _, 2, .int (t : Int), rfl, rfl, lstNew hp, rfl, (t : Int), 1, rfl, rfl, .ref p, rfl, p, _, 2, 2, rfl, rfl, hp, rfl, ?_⟩
      have hp1 : (upd H p (.lst [.int x, .int y, .int ((t : Int) + 1)])) p = some (.lst [.int x, .int y, .int ((t : Int) + 1)]) := upd_same
      have b1 : But p H (upd H p (.lst [.int x, .int y, .int ((t : Int) + 1)])) := fun c o e z => by rw [upd_ne z]; exact e
      obtain ⟨v, hv, v0, v1⟩ := primes_at ((t : Int) + 1) (by omega)
      refine ⟨(by show 4 ≤ sizeLine; decide), fun l nl => ?_⟩
      have s2 := same_upd (H := upd H p (.lst [.int x, .int y, .int ((t : Int) + 1)])) (o := .lst [.int 2305843009213693951, .int 999999999989, .int 1000000000039, .int 67280421310721]) nl
      have hp2 := s2 _ _ hp1
      refine ⟨.ref p, rfl, p, _, 2, .int ((t : Int) + 1), rfl, rfl, lstNew hp2, rfl, (t : Int) + 1, 4, rfl, rfl, (show (0 : Int) < 4 by decide), l, _, _, .int v, rfl, rfl, lstNew upd_same, hv, ?_⟩
      have tt : 0 ≤ ((t : Int) + 1) ∧ ((t : Int) + 1) ≤ 4001 := by omega
      have sq0 : 0 ≤ 7919 * ((t : Int) + 1) * ((t : Int) + 1) := Int.mul_nonneg (by omega) tt.1
      refine ⟨.ref p, rfl, p, _, 1, .int y, rfl, rfl, lstNew hp2, rfl, .ref p, rfl, p, _, 2, .int ((t : Int) + 1), rfl, rfl, lstNew hp2, rfl, 7919, _, rfl, rfl, .inl ⟨by decide, by decide⟩, .ref p, rfl, p, _, 2, .int ((t : Int) + 1), rfl, rfl, lstNew hp2, rfl, _, _, rfl, rfl, .inl ⟨by omega, by omega⟩, y, _, rfl, rfl, .ref p, rfl, p, _, 2, .int ((t : Int) + 1), rfl, rfl, lstNew hp2, rfl, 65537, _, rfl, rfl, .inl ⟨by decide, by decide⟩, _, _, rfl, rfl, .int v, rfl, _, v, rfl, rfl, v0, ?_⟩
      have z0 := Int.emod_nonneg (y + 7919 * ((t : Int) + 1) * ((t : Int) + 1) + 65537 * ((t : Int) + 1)) (show v ≠ 0 by omega)
      have z1 := Int.emod_lt_of_pos (y + 7919 * ((t : Int) + 1) * ((t : Int) + 1) + 65537 * ((t : Int) + 1)) v0
      refine ⟨_, rfl, _, 5, rfl, rfl, ⟨by decide, by decide, ?_⟩, .int v, rfl, _, v, rfl, rfl, v0, ?_⟩
      · show ((y + 7919 * ((t : Int) + 1) * ((t : Int) + 1) + 65537 * ((t : Int) + 1)) % v).natAbs < 2 ^ 64
        omega
      refine ⟨_, rfl, _, 4099, rfl, rfl, ⟨by decide, by decide⟩, _, rfl, _, 1000003, rfl, rfl, ⟨by decide, by decide⟩, _, 7, rfl, rfl, .inr ⟨by decide, by decide⟩, _, _, rfl, rfl, .int m, rfl, _, m, rfl, rfl, (show 0 < m by omega), ?_⟩
      exact q _ (t + 1) _ (Int.emod_nonneg _ (by omega)) (Int.emod_lt_of_pos _ (by omega)) (Nat.le_refl _) ⟨x, y, hp2, hx, hy0, hy1⟩ (b1.trans (But.of s2))
end
end K10
set_option maxHeartbeats 4000000
namespace K10
open PySem PySem.Spec PyProof.Rows L2 RV
/-! ### what a draw leaves -/
theorem sqT_pail {K : PySem.W.Frag} {H H' : Hp} {p : Addr} {t : Nat} (hp : PailAt H p t) (b : But p H H') {a : Addr} {xs : List V} (h : SqT K H a xs) : SqT K H' a xs := by
  obtain ⟨x, y, e, _⟩ := hp
  rcases h with (h | ⟨o, h⟩) | h
  · exact .inl (.inl (b _ _ h fun z => by rw [z, e] at h; cases h))
  · exact .inl (.inr ⟨o, b _ _ h fun z => by rw [z, e] at h; cases h⟩)
  · exact .inr h
theorem sqL_but {K : PySem.W.Frag} {H H' : Hp} {p a : Addr} (b : But p H H') (n : a ≠ p) {xs : List V} (h : SqL K H a xs) : SqL K H' a xs := by
  rcases h with (h | ⟨o, h⟩) | h
  · exact .inl (.inl (b _ _ h n))
  · exact .inl (.inr ⟨o, b _ _ h n⟩)
  · exact .inr h
theorem tups_pail {K : PySem.W.Frag} {H H' : Hp} {p : Addr} {t : Nat} (hp : PailAt H p t) (b : But p H H') {a : Addr} {ps : List (List Int)} (h : Tups K H a ps) : Tups K H' a ps := by
  obtain ⟨ks, h1, h2, h3⟩ := h
  exact ⟨ks, h1, sqT_pail hp b h2, fun q hq => sqT_pail hp b (h3 q hq)⟩
theorem same_but {p : Addr} {H H1 H2 : Hp} (s : Same H H1) (n : H p = none) (b : But p H1 H2) : Same H H2 := fun c o e => b c o (s c o e) (ne_of_none e n)
theorem pail_same {p : Addr} {H H' : Hp} {t : Nat} (h : PailAt H p t) (s : Same H H') : PailAt H' p t := by
  obtain ⟨x, y, e, r⟩ := h
  exact ⟨x, y, s _ _ e, r⟩
theorem pail_new {p a : Addr} {H : Hp} {o : HO} {t : Nat} (h : PailAt H p t) (n : H a = none) : PailAt (upd H a o) p t := pail_same h (same_upd n)
theorem pail_set {p l : Addr} {H : Hp} {o : HO} {t : Nat} (h : PailAt H p t) (n : l ≠ p) : PailAt (upd H l o) p t := by
  obtain ⟨x, y, e, r⟩ := h
  exact ⟨x, y, by rw [upd_ne n.symm]; exact e, r⟩
theorem pail_ne {p a : Addr} {H : Hp} {t : Nat} (h : PailAt H p t) (n : H a = none) : a ≠ p := by
  obtain ⟨x, y, e, r⟩ := h
  exact (ne_of_none e n).symm
section
variable {P : Program} {w : World} {K : PySem.W.Frag} {mg : Str → Option Value} {base : Heap}
/-! ### _law_of -/
theorem scOf : FnScope ["_law_pot", "_law_some"] ["_law_pot", "_law_some"] (defScope sOf) := ⟨rfl, rfl, rfl, by decide +kernel, rfl, by decide +kernel, by decide +kernel⟩
def spOf (K : PySem.W.Frag) : Sp := fun vs H Q _ => ∃ (p a : Addr) (t : Nat) (xs : List V), vs = [.ref p, .ref a] ∧ PailAt H p t ∧ t ≤ 4000 ∧ SqL K H a xs ∧ a ≠ p ∧ 0 < xs.length ∧ xs.length ≤ 1000 ∧
  ∀ (j : Nat) (v : V) (t' : Nat) (H' : Hp), xs[j]? = some v → t' ≤ t + 1 → PailAt H' p t' → But p H H' → Q v H'
theorem ok_of {f fD : Addr} {fd fdD : FuncData} (F : Fun K "_law_of" "_law_of" sOf f fd) (DD : DefAt K mg "_law_take" sDraw ["_law_pot", "_law_many"] fD fdD) (B : Bare mg) : FnOk P w K mg base CX0 2 f fd ["_law_pot", "_law_some"] (spOf K) := by
  have GD : FnOk P w K mg base CX0 1 fD fdD ["_law_pot", "_law_many"] spDraw := ok_draw DD.fn
  refine F.ok scOf (fun vs H Q E h => ?_) (fun cdv A outer s H vs Q E hr h => ?_)
  · obtain ⟨p, a, t, xs, rfl, _⟩ := h
    rfl
  · obtain ⟨p, a, t, xs, rfl, hp, ht, hS, hne, h0, h1, q⟩ := h
    refine ⟨_, pss_one (ps_ret (pe_ix ix_list (pv 1) (pe_call GD hr (by rfl) DD.mg DD.fn.kp DD.bi .nil pass0 (pa_cons (pv 0) (pa_cons (pe_callB call_len_seq (by rfl) B.len PySem.boot_len (pa_cons (pv 1) pa_nil)) pa_nil))) (fun _ _ => rfl))), ?_⟩
    refine ⟨.ref a, rfl, .ref p, rfl, .ref a, rfl, a, xs, rfl, .inl hS, p, t, (xs.length : Int), rfl, hp, ht, by omega, by omega, fun r t1 H1 r0 r1 ht1 hp1 b1 => ?_⟩
    obtain ⟨v, hv⟩ : ∃ v, xs[r.toNat]? = some v := ⟨_, List.getElem?_eq_getElem (by omega)⟩
    refine ⟨a, xs, r, v, rfl, rfl, sqL_but b1 hne hS, ?_, q r.toNat v t1 H1 hv ht1 hp1 b1⟩
    rw [show r = ((r.toNat : Nat) : Int) by omega]
    exact atI_nat hv
theorem erase_map {α β : Type} (f : α → β) : ∀ (l : List α) (i : Nat), (l.map f).eraseIdx i = (l.eraseIdx i).map f
  | [], _ => rfl
  | a :: l, 0 => rfl
  | a :: l, i + 1 => by
    show f a :: (l.map f).eraseIdx i = f a :: (l.eraseIdx i).map f
    rw [erase_map f l i]
theorem ix_at {n : Nat} {i : Int} (h1 : i < (n : Int)) (h0 : 0 ≤ i) : ixN n i = some i.toNat := by
  unfold ixN
  rw [if_pos h0, if_pos h1]
def lenAt (H : Hp) (a : Addr) : Nat := match H a with
  | some (.lst xs) => xs.length
  | _ => 0
theorem lenAt_eq {H : Hp} {a : Addr} {xs : List V} (h : H a = some (.lst xs)) : lenAt H a = xs.length := by unfold lenAt; rw [h]
theorem shapedL (ns : List Int) : SeqAt.shaped (.list (ns.map PyData.int)) = true := by
  have h1 : (PyData.list (ns.map PyData.int)).canLay0 = true := by simp only [PyData.canLay0]; exact lay_ints ns
  have h2 : (PyData.list (ns.map PyData.int)).depth ≤ 64 := by simp only [PyData.depth, dep_ints]; omega
  show ((PyData.list (ns.map PyData.int)).canLay0 && decide ((PyData.list (ns.map PyData.int)).depth ≤ 64)) = true
  rw [h1, decide_eq_true h2]; rfl
theorem eqvL (ns ms : List Int) : PyData.eqv (.list (ns.map PyData.int)) (.list (ms.map PyData.int)) = decide (ns = ms) := by simp only [PyData.eqv, eqv_ints]
end
end K10
set_option maxHeartbeats 4000000
/-! sorted(d), d a dict whose keys are pairs of ints -/
namespace RV
open PySem PySem.Spec PyProof.Rows L2
/-- a pair of ints as a key, and back -/
def keyP (p : List Int) : List L2.Key := p.map Sum.inl
def pairOf (k : List L2.Key) : List Int := k.map fun x => match x with | .inl i => i | .inr _ => 0
theorem pairOf_keyP (p : List Int) : pairOf (keyP p) = p := by
  unfold pairOf keyP
  rw [List.map_map]
  exact List.map_id p
theorem kV_keyP (p : List Int) : (keyP p).map kV = p.map V.int := by
  unfold keyP
  rw [List.map_map]; rfl
abbrev two (p : List Int) : Int × Int := (p.getD 0 0, p.getD 1 0)
open Classical in
noncomputable def readP (h : Heap) (v : Value) : Int × Int := if e : ∃ p : Int × Int, Srt.IsPair h v p.1 p.2 then Classical.choose e else (0, 0)
theorem readP_eq {h : Heap} {v : Value} {x y : Int} (e : Srt.IsPair h v x y) : readP h v = (x, y) := by
  have ex : ∃ p : Int × Int, Srt.IsPair h v p.1 p.2 := ⟨(x, y), e⟩
  unfold readP
  rw [dif_pos ex]
  have c := Classical.choose_spec ex
  generalize Classical.choose ex = p at c
  obtain ⟨a, o, t, u, n, e1, e2, e3, e4⟩ := c
  obtain ⟨a', o', t', u', n', f1, f2, f3, f4⟩ := e
  rw [e1] at f1
  cases f1
  rw [e2] at f2
  cases f2
  rw [e4] at f4
  injection f4 with g1 g2
  have g3 : [Value.int p.1 t, Value.int p.2 u] = [Value.int x t', Value.int y u'] := by
    have := congrArg Array.toList g1
    simpa using this
  injection g3 with g4 g5
  injection g5 with g5 _
  injection g4 with g4 _
  injection g5 with g5 _
  obtain ⟨p1, p2⟩ := p
  simp only at g4 g5
  rw [g4, g5]
theorem paired_mem {α β : Type} {F : α → β → Prop} : ∀ {l : List α} {m : List β}, Paired F l m → ∀ y ∈ m, ∃ x ∈ l, F x y
  | _, _, .nil, y, h => nomatch h
  | _, _, .cons f t, y, h => by
    rcases List.mem_cons.mp h with e | e
    · rw [e]; exact ⟨_, List.mem_cons_self .., f⟩
    · obtain ⟨x, hx, fx⟩ := paired_mem t y e
      exact ⟨x, List.mem_cons_of_mem _ hx, fx⟩
theorem paired_map {α β γ : Type} {F : α → β → Prop} {f : α → γ} {g : β → γ} (h : ∀ a b, F a b → f a = g b) : ∀ {l : List α} {m : List β}, Paired F l m → l.map f = m.map g
  | _, _, .nil => rfl
  | _, _, .cons e t => by rw [List.map_cons, List.map_cons, h _ _ e, paired_map h t]
section
variable {X : Cx}
/-- sorted(d) -/
def rSortDT : List V → Hp → VK → Prop := fun xs H Q => ∃ (d : Addr) (kvs : List (List L2.Key × V)) (ps : List (List Int)), xs = [.ref d] ∧ Rd H d (.dT kvs) ∧ kvs.map (·.1) = ps.map keyP ∧ (∀ p ∈ ps, ∃ x y : Int, p = [x, y]) ∧ kvs.length ≤ 1000 ∧
  ∀ (L : List (Addr × List Int)) (q : Addr), H q = none → (L.map (·.2)).Perm ps → L.Pairwise (fun a b => SrtO.lexB (two b.2) (two a.2) = false) → (∀ a ∈ L, H a.1 = some (.tup (a.2.map V.int))) → Q (.ref q) (upd H q (.lst (L.map fun a => V.ref a.1)))
theorem cr_sortedDT (hc : X.calm = true) : CallR X (.builtin "sorted") rSortDT := by
  intro pins s σ H xs us Q I r h
  obtain ⟨d, kvs, ps, rfl, hd, hks, hpr, h1000, q⟩ := h
  obtain ⟨u, rfl, rx⟩ := vals1 r
  cases rx
  obtain ⟨z, hs, ks, pr, o, es, ep, ho, hx, hdt, he, hn⟩ := (show ObjOk X.prog X.w H s.heap d (.dT kvs) from hd.ok I.hok)
  have l1 : es.size = ks.length := size_of_entries he
  have l2 : kvs.length = ks.length := Paired.length pr
  refine Calls.call_function_entry kind_sorted plain_sorted entry_sorted (args_sorted1 _) ?_
  unfold Builtin.«sorted»
  refine wpAny_bind (m := checkCount "sorted" 1 1 _) (wpAny_pure ?_)
  refine wpAny_bind (PySem.W.kdu_collect (A := X.A.in1) (kdl_raw hs hx hdt) (I.ok.hd hc) ho (by rw [l1, ← l2]; exact Nat.le_of_lt (small1000 h1000)) fun h' tk acc kp it => ?_)
  -- what was collected
  have ea : acc.toList = ks.map fun x => Value.ref x.2.1 := by
    have hl : acc.toList.length = ks.length := by rw [Array.length_toList, it.1, l1]
    refine List.ext_getElem (by rw [hl, List.length_map]) fun j j1 j2 => ?_
    have ja : acc.toList[j]? = some acc.toList[j] := List.getElem?_eq_getElem j1
    obtain ⟨en, hen, hv⟩ := it.2 j _ (by rw [← Array.getElem?_toList]; exact ja)
    have qe := entry_at he j
    have jk : j < ks.length := by rw [List.length_map] at j2; exact j2
    rw [hen, List.getElem?_eq_getElem jk] at qe
    have e2 : en = entryOfKey (tupleKind (mixKind X.prog X.w)) ks[j] := Option.some.inj qe
    rw [hv, e2, List.getElem_map]; rfl
  have I1 : Inv X pins σ H { s with heap := h', toks := tk } := I.kept kp
  have hal : acc.toList.length = ks.length := by rw [ea, List.length_map]
  refine wpAny_bind (wpAny_newList ?_ (by rw [hal, ← l2]; exact Nat.le_of_lt (small1000 h1000)))
  have hoL : (h'.push (seqObj "list" acc.toList.toArray 0)).get? h'.objs.size = some (seqObj "list" acc.toList.toArray 0) := Heap.get?_push_size _ rfl
  show wpAny _ _ _ _ _ { s with heap := h'.push (seqObj "list" acc.toList.toArray 0), toks := tk }
  -- each is a pair
  have ent : ∀ v ∈ acc.toList, ∃ (b : Addr) (p : List Int), v = .ref b ∧ p ∈ ps ∧ H b = some (.tup (p.map V.int)) ∧ ∃ x y : Int, p = [x, y] ∧ Srt.IsPair h' v x y := by
    intro v hv
    rw [ea] at hv
    obtain ⟨x, hx1, rfl⟩ := List.mem_map.mp hv
    obtain ⟨kv, hkv, q1, q2, _⟩ := paired_mem pr x hx1
    have hk2 : kv.1 ∈ ps.map keyP := by rw [← hks]; exact List.mem_map_of_mem hkv
    obtain ⟨p, hp, ep⟩ := List.mem_map.mp hk2
    have hb : H x.2.1 = some (.tup (p.map V.int)) := by rw [q2, ← ep, kV_keyP]
    obtain ⟨x', y', e'⟩ := hpr p hp
    refine ⟨x.2.1, p, rfl, hp, hb, x', y', e', ?_⟩
    obtain ⟨_, its2, r2, oo, ho2, hc2, n2, hd2⟩ := (show ObjOk X.prog X.w H s.heap x.2.1 (.tup (p.map V.int)) from I.hok _ _ hb)
    rw [e'] at r2
    obtain ⟨u1, u2, rfl, ri, rj⟩ := vals2 r2
    obtain ⟨t1, rfl⟩ := ri
    obtain ⟨t2, rfl⟩ := rj
    exact ⟨x.2.1, oo, t1, t2, n2, rfl, kp _ _ ho2, hc2, hd2⟩
  have isp : ∀ v ∈ acc.toList, Srt.IsPair h' v (readP h' v).1 (readP h' v).2 := fun v hv => by
    obtain ⟨b, p, _, _, _, x, y, _, e⟩ := ent v hv
    rw [readP_eq e]; exact e
  refine wpAny_bind (wpAny_holding (wpAny_call_entry slot_list_sort ⟨_, hoL, rfl⟩ entry_list_sort (SrtO.list_sort_ord (s := { s with heap := h'.push (seqObj "list" acc.toList.toArray 0), toks := tk }) (ltv := fun v u => SrtO.lexB (readP h' v) (readP h' u)) (SrtO.swo_lex (readP h')) hoL
    (by rw [hal, ← l2]; exact Nat.le_of_lt (small1000 h1000)) (fun h2 => ?_) fun out g1 g2 => ⟨_, rfl, ?_⟩) (args_list_sort _)))
  · refine SrtO.pairs_sortableO (k := readP h') (s := { s with heap := h'.push (seqObj "list" acc.toList.toArray 0), toks := tk }) (by omega) (fun v hm => (isp v hm).keeps fun b o e _ => Heap.get?_push_of_some _ e) fun o e => ?_
    have e' : some o = some (seqObj "list" acc.toList.toArray 0) := e.symm.trans hoL
    cases e'
    intro c
    exact absurd (Value.type.inj c) (by decide)
  · obtain ⟨e', he'⟩ := sortedHeap_at (vs := acc.toList) (out := out.toArray) hoL
    -- as addresses with their ints
    have inV : ∀ v ∈ out, v ∈ acc.toList := fun v hv => g2.perm.mem_iff.mp hv
    let ad : Value → Addr := fun v => match v with | .ref b => b | _ => 0
    let L : List (Addr × List Int) := out.map fun v => (ad v, [(readP h' v).1, (readP h' v).2])
    have tell : ∀ v ∈ out, v = .ref (ad v) ∧ [(readP h' v).1, (readP h' v).2] ∈ ps ∧ H (ad v) = some (.tup (([(readP h' v).1, (readP h' v).2] : List Int).map V.int)) := fun v hv => by
      obtain ⟨b, p, rfl, hp, hb, x, y, rfl, e⟩ := ent v (inV v hv)
      rw [readP_eq e]
      exact ⟨rfl, hp, hb⟩
    have eo : out = L.map fun a => Value.ref a.1 := by
      show out = (out.map _).map _
      rw [List.map_map]
      conv => lhs; rw [← List.map_id out]
      exact List.map_congr_left fun v hv => (tell v hv).1
    have eks : ∀ v ∈ acc.toList, True := fun _ _ => trivial
    have hLlen : (L.map fun a => V.ref a.1).length ≤ sizeLine := by
      rw [List.length_map, List.length_map, g2.len, hal, ← l2]; exact Nat.le_of_lt (small1000 h1000)
    have rv : Vals (L.map fun a => V.ref a.1) out := by
      rw [eo]
      have : ∀ M : List (Addr × List Int), Vals (M.map fun a => V.ref a.1) (M.map fun a => Value.ref a.1) := fun M => by
        induction M with
        | nil => exact .nil
        | cons m r ih => exact .cons rfl ih
      exact this L
    have e2 : L.map (·.2) = out.map fun v => [(readP h' v).1, (readP h' v).2] := by
      show (out.map _).map _ = _
      rw [List.map_map]; rfl
    have e3 : (acc.toList.map fun v => [(readP h' v).1, (readP h' v).2]) = ps := by
      have w1 : ks.map (fun x => pairOf x.1) = ps := by
        rw [← paired_map (f := fun (a : List L2.Key × V) => pairOf a.1) (g := fun (b : List L2.Key × Addr × Value) => pairOf b.1) (fun a b f => by rw [f.1]) pr]
        have w2 : kvs.map (fun a => pairOf a.1) = (kvs.map (·.1)).map pairOf := by rw [List.map_map]; rfl
        rw [w2, hks, List.map_map]
        conv => rhs; rw [← List.map_id ps]
        exact List.map_congr_left fun p _ => pairOf_keyP p
      rw [← w1, ea, List.map_map]
      refine List.map_congr_left fun x hx1 => ?_
      obtain ⟨kv, hkv, q1, q2, _⟩ := paired_mem pr x hx1
      obtain ⟨b, p, eb, hp, hb, x', y', e', isP⟩ := ent (.ref x.2.1) (by rw [ea]; exact List.mem_map.mpr ⟨x, hx1, rfl⟩)
      cases eb
      show [(readP h' (.ref x.2.1)).1, (readP h' (.ref x.2.1)).2] = pairOf x.1
      rw [readP_eq isP, ← q1]
      have hk2 : kv.1 ∈ ps.map keyP := by rw [← hks]; exact List.mem_map_of_mem hkv
      obtain ⟨p2, hp2, ep2⟩ := List.mem_map.mp hk2
      rw [← ep2, pairOf_keyP]
      rw [hb, ← ep2, kV_keyP] at q2
      have q3 : p.map V.int = p2.map V.int := by
        injection q2 with q2
        injection q2
      have q4 : p = p2 := by
        have inj : ∀ l m : List Int, l.map V.int = m.map V.int → l = m := fun l => by
          induction l with
          | nil => intro m e; cases m with | nil => rfl | cons => cases e
          | cons a r ih =>
            intro m e
            cases m with
            | nil => cases e
            | cons b t =>
              rw [List.map_cons, List.map_cons] at e
              injection e with e1 e2
              injection e1 with e1
              rw [e1, ih t e2]
        exact inj p p2 q3
      rw [← q4, e']
    refine wpAny_pure ⟨_, rfl, .ref h'.objs.size, upd H h'.objs.size (.lst (L.map fun a => V.ref a.1)), I1.laid (t' := tk) (fun b u e => ?_) (Nat.le_refl _)
      (show ObjOk X.prog X.w _ _ _ (.lst (L.map fun a => V.ref a.1)) from ⟨hLlen, out, e', rv, he'⟩), rfl, q L _ (I1.hok.fresh (Nat.le_refl _)) ?_ ?_ fun a ha => ?_⟩
    · have hb : b < h'.objs.size := Heap.lt_size e
      rw [sortedHeap_old (Nat.ne_of_lt hb) (by rw [size_push']; exact Nat.lt_succ_of_lt hb)]
      exact Heap.get?_push_of_some _ e
    · rw [e2, ← e3]
      exact g2.perm.map _
    · show (out.map _).Pairwise _
      rw [List.pairwise_map]
      exact g1
    · obtain ⟨v, hv, rfl⟩ := List.mem_map.mp ha
      exact (tell v hv).2.2
end
end RV
set_option maxHeartbeats 4000000
namespace K10
open PySem PySem.Spec PyProof.Rows L2 RV
/-! ### a dict of pairs, by its keys -/
def addP (ps : List (List Int)) (p : List Int) : List (List Int) := if p ∈ ps then ps else ps ++ [p]
theorem keyP_inj {p q : List Int} (h : keyP p = keyP q) : p = q := by
  have := congrArg pairOf h
  rwa [pairOf_keyP, pairOf_keyP] at this
theorem key_mem {p : List Int} {ps : List (List Int)} : keyP p ∈ ps.map keyP ↔ p ∈ ps := by
  constructor
  · intro h
    obtain ⟨q, hq, e⟩ := List.mem_map.mp h
    rw [← keyP_inj e]; exact hq
  · exact fun h => List.mem_map_of_mem h
theorem put_keys {kvs : List (List L2.Key × V)} {ps : List (List Int)} {p : List Int} {v : V} (h : kvs.map (·.1) = ps.map keyP) : (putK kvs (keyP p) v).map (·.1) = (addP ps p).map keyP := by
  unfold addP
  cases e : valV kvs (keyP p) with
  | none =>
    have n : p ∉ ps := fun z => valV_not e (by rw [h]; exact key_mem.mpr z)
    rw [putK_new v e, if_neg n, List.map_append, List.map_append, h]; rfl
  | some x =>
    have y : p ∈ ps := key_mem.mp (by rw [← h]; exact valV_in e)
    rw [if_pos y, ← h]
    unfold putK
    rw [valV_any, e]
    show (kvs.map fun kv => if kv.1 = keyP p then (kv.1, v) else kv).map (·.1) = kvs.map (·.1)
    rw [List.map_map]
    refine List.map_congr_left fun kv _ => ?_
    show (if kv.1 = keyP p then (kv.1, v) else kv).1 = kv.1
    split <;> rfl
theorem mem_addP {ps : List (List Int)} {p q : List Int} : q ∈ addP ps p ↔ q ∈ ps ∨ q = p := by
  unfold addP
  split
  · rename_i h
    constructor
    · exact .inl
    · rintro (z | rfl)
      · exact z
      · exact h
  · rw [List.mem_append, List.mem_singleton]
theorem nd_addP {ps : List (List Int)} {p : List Int} (h : ps.Nodup) : (addP ps p).Nodup := by
  unfold addP
  split
  · exact h
  · rename_i n
    rw [List.nodup_append]
    exact ⟨h, by simp, fun a ha b hb e => n (by rw [← List.mem_singleton.mp hb, ← e]; exact ha)⟩
/-- a tuple of tuples of ints, all of them seen -/
def TupsH (H : Hp) (a : Addr) (ps : List (List Int)) : Prop := ∃ ks : List (Addr × List Int), ks.map (·.2) = ps ∧ H a = some (.tup (ks.map fun p => V.ref p.1)) ∧ ∀ p ∈ ks, H p.1 = some (.tup (p.2.map V.int))
theorem TupsH.tups {K : PySem.W.Frag} {H : Hp} {a : Addr} {ps : List (List Int)} (h : TupsH H a ps) : Tups K H a ps :=
  let ⟨ks, h1, h2, h3⟩ := h; ⟨ks, h1, tupNew h2, fun p hp => tupNew (h3 p hp)⟩
theorem TupsH.same {H H' : Hp} {a : Addr} {ps : List (List Int)} (h : TupsH H a ps) (e : Same H H') : TupsH H' a ps :=
  let ⟨ks, h1, h2, h3⟩ := h; ⟨ks, h1, e _ _ h2, fun p hp => e _ _ (h3 p hp)⟩
theorem TupsH.but {H H' : Hp} {p a : Addr} {t : Nat} {ps : List (List Int)} (h : TupsH H a ps) (hp : PailAt H p t) (b : But p H H') : TupsH H' a ps := by
  obtain ⟨ks, h1, h2, h3⟩ := h
  obtain ⟨x, y, e, _⟩ := hp
  exact ⟨ks, h1, b _ _ h2 fun z => (by rw [z, e] at h2; cases h2), fun q hq => b _ _ (h3 q hq) fun z => (by have h := h3 q hq; rw [z, e] at h; cases h)⟩
/-- steps drawn so far -/
structure Part (ns : List Int) (ps : List (List Int)) : Prop where
  nd : ps.Nodup
  pr : ∀ p ∈ ps, Pr (ns.length : Int) p
  mi : ∀ x y mx my : Int, [x, y] ∈ ps → ns[x.toNat]? = some mx → ns[y.toNat]? = some my → [my, mx] ∈ ps
theorem Part.nil (ns : List Int) : Part ns [] := ⟨List.nodup_nil, (fun _ h => nomatch h), fun _ _ _ _ h => nomatch h⟩
theorem Part.add {ns : List Int} {ps : List (List Int)} {x y mx my : Int} (M : Mir ns) (h : Part ns ps) (hx : 0 ≤ x ∧ x < (ns.length : Int)) (hy : 0 ≤ y ∧ y < (ns.length : Int)) (ex : ns[x.toNat]? = some mx) (ey : ns[y.toNat]? = some my) :
    Part ns (addP (addP ps [x, y]) [my, mx]) := by
  have bx := M.back _ _ ex
  have bY := M.back _ _ ey
  have ix := M.inn mx (List.mem_of_getElem? ex)
  have iy := M.inn my (List.mem_of_getElem? ey)
  refine ⟨nd_addP (nd_addP h.nd), fun p hp => ?_, fun a b ma mb hab ha hb => ?_⟩
  · rcases mem_addP.mp hp with z | rfl
    · rcases mem_addP.mp z with z | rfl
      · exact h.pr p z
      · exact ⟨x, y, rfl, hx, hy⟩
    · exact ⟨my, mx, rfl, iy, ix⟩
  · rw [mem_addP, mem_addP] at hab ⊢
    rcases hab with (z | z) | z
    · exact .inl (.inl (h.mi a b ma mb z ha hb))
    · injection z with z1 z2
      injection z2 with z2 _
      subst z1 z2
      rw [ex] at ha
      rw [ey] at hb
      cases ha
      cases hb
      exact .inr rfl
    · injection z with z1 z2
      injection z2 with z2 _
      subst z1 z2
      rw [bY] at ha
      rw [bx] at hb
      cases ha
      cases hb
      refine .inl (.inr ?_)
      rw [show ((x.toNat : Nat) : Int) = x by omega, show ((y.toNat : Nat) : Int) = y by omega]
theorem Part.len {ns : List Int} {ps : List (List Int)} (h : Part ns ps) (M : Mir ns) : ps.length ≤ 64 := by
  have := nodup_le (us := gridOf 0 (fun _ _ => true) ns.length ns.length) h.nd fun p hp => by
    obtain ⟨x, y, rfl, hx, hy⟩ := h.pr p hp
    refine mem_grid.mpr ⟨x.toNat, y.toNat, by omega, by omega, rfl, ?_⟩
    rw [show (0 + ((x.toNat : Nat) : Int)) = x by omega, show (0 + ((y.toNat : Nat) : Int)) = y by omega]
  have g := grid_len 0 (fun _ _ => true) ns.length ns.length
  have m8 : ns.length * ns.length ≤ 8 * 8 := Nat.mul_le_mul M.few M.few
  omega
theorem le_of_two {p q : List Int} (hp : Pr 64 p) (hq : Pr 64 q) (h : SrtO.lexB (two q) (two p) = false) : cd p ≤ cd q := by
  obtain ⟨x, y, rfl, hx, hy⟩ := hp
  obtain ⟨x', y', rfl, hx', hy'⟩ := hq
  have z := SrtO.lexB_no.mp h
  have z' : ¬ (x' < x ∨ (x' = x ∧ y' < y)) := z
  rw [cd_pair, cd_pair]; omega
/-- sorted, they are a rule's steps -/
theorem Part.stp {ns : List Int} {ps : List (List Int)} {L : List (Addr × List Int)} (M : Mir ns) (h : Part ns ps) (pm : (L.map (·.2)).Perm ps) (pw : L.Pairwise fun a b => SrtO.lexB (two b.2) (two a.2) = false) : Stp ns (L.map (·.2)) := by
  have h8 := M.few
  have pr : ∀ p ∈ L.map (·.2), Pr (ns.length : Int) p := fun p hp => h.pr p (pm.mem_iff.mp hp)
  have pr64 : ∀ p ∈ L.map (·.2), Pr 64 p := fun p hp => (pr p hp).mono (by omega)
  have le : (L.map (·.2)).Pairwise fun p q => cd p ≤ cd q := by
    rw [List.pairwise_map]
    exact List.Pairwise.imp_of_mem (fun {a b} ha hb z => le_of_two (pr64 _ (List.mem_map_of_mem ha)) (pr64 _ (List.mem_map_of_mem hb)) z) pw
  refine ⟨by rw [pm.length_eq]; exact h.len M, fun p hp => pr p hp, adj_rise pr64 (sorted_lt pr64 (pm.nodup_iff.mpr h.nd) le), fun x y mx my hxy hx hy => ?_, pm.nodup_iff.mpr h.nd⟩
  exact pm.mem_iff.mpr (h.mi x y mx my (pm.mem_iff.mp hxy) hx hy)
end K10
set_option maxHeartbeats 4000000
/-! dict(xs), xs a list of pairs (pair of ints, True) -/
namespace RV
open PySem PySem.Spec PyProof.Rows L2
/-- the dict that comes of these keys, one behind the other -/
def dictOfP (acc : List (List L2.Key × V)) (ps : List (List Int)) : List (List L2.Key × V) := ps.foldl (fun a p => putK a (keyP p) (.bl true)) acc
def addK (ps : List (List Int)) (p : List Int) : List (List Int) := if p ∈ ps then ps else ps ++ [p]
section
variable {X : Cx}
def rDictPT : List V → Hp → VK → Prop := fun xs H Q => ∃ (l : Addr) (qs : List (Addr × Addr × List Int)), xs = [.ref l] ∧ H l = some (.lst ((qs.map (·.1)).map V.ref)) ∧ (∀ q ∈ qs, H q.1 = some (.tup [.ref q.2.1, .bl true]) ∧ H q.2.1 = some (.tup (q.2.2.map V.int))) ∧ qs.length ≤ 1000 ∧
  ∀ d, H d = none → Q (.ref d) (upd H d (.dT (dictOfP [] (qs.map (·.2.2)))))
theorem kt_all {H : Hp} : ∀ (qs : List (Addr × Addr × List Int)) {kvs : List (List L2.Key × V)} {xs : List (List L2.Key × Addr × Value)}, KT H kvs xs → (∀ q ∈ qs, H q.2.1 = some (.tup (q.2.2.map V.int))) →
    KT H (dictOfP kvs (qs.map (·.2.2))) (storedAllH xs (qs.map fun q => (keyP q.2.2, q.2.1, Value.bool true)))
  | [], _, _, r, _ => r
  | q :: qs, kvs, xs, r, h => by
    have h1 : H q.2.1 = some (.tup ((keyP q.2.2).map kV)) := by rw [kV_keyP]; exact h q (List.mem_cons_self ..)
    exact kt_all qs (r.put (keyP q.2.2) (y := .bl true) h1 rfl) fun z hz => h z (List.mem_cons_of_mem _ hz)
theorem len_dictOfP : ∀ (ps : List (List Int)) (acc : List (List L2.Key × V)), (dictOfP acc ps).length ≤ acc.length + ps.length
  | [], acc => Nat.le_refl _
  | p :: ps, acc => by
    have h := len_dictOfP ps (putK acc (keyP p) (.bl true))
    have h2 := length_putK acc (keyP p) (.bl true)
    show (dictOfP (putK acc (keyP p) (.bl true)) ps).length ≤ _
    rw [List.length_cons]; omega
theorem cr_dictPT (hc : X.calm = true) (hu : X.A.units + 65 < cLine) : CallR X (.type "dict") rDictPT := by
  intro pins s σ H xs us Q I r h
  obtain ⟨l, qs, rfl, hl, hq, hlen, q⟩ := h
  obtain ⟨u, rfl, rx⟩ := vals1 r
  cases rx
  obtain ⟨its, rv, pl, hz⟩ := I.list (show SqL X.K H l _ from .inl (.inl hl))
  have ei := refs_at rv
  subst ei
  obtain ⟨o, n, ho, hco, hdo, hdat⟩ := pl
  have at_ : ∀ (j : Nat) (z : Addr × Addr × List Int), qs[j]? = some z → ((qs.map (·.1)).map Value.ref).toArray[j]? = some (.ref z.1) := fun j z e => by
    simp [e]
  let Ts : Nat → Addr := fun j => (qs.map (·.1)).getD j 0
  have hTs : ∀ (j : Nat) (z : Addr × Addr × List Int), qs[j]? = some z → Ts j = z.1 := fun j z e => by
    show (qs.map (·.1)).getD j 0 = z.1
    rw [List.getD_eq_getElem?_getD, List.getElem?_map, e]; rfl
  let prs : List (Value × Value) := qs.map fun z => (Value.ref z.2.1, Value.bool true)
  have hprs : ∀ (j : Nat) (k v : Value), prs[j]? = some (k, v) → ∃ z, qs[j]? = some z ∧ k = .ref z.2.1 ∧ v = .bool true := fun j k v e => by
    have e' : (qs.map fun z => (Value.ref z.2.1, Value.bool true))[j]? = some (k, v) := e
    rw [List.getElem?_map] at e'
    cases ez : qs[j]? with
    | none => rw [ez] at e'; cases e'
    | some z =>
      rw [ez] at e'
      have e2 : (Value.ref z.2.1, Value.bool true) = (k, v) := Option.some.inj e'
      injection e2 with e3 e4
      exact ⟨z, rfl, e3.symm, e4.symm⟩
  have items : PairItems s.heap ((qs.map (·.1)).map Value.ref).toArray Ts prs := by
    refine ⟨by show _ = (qs.map _).length; simp, fun j k v e => ?_⟩
    obtain ⟨z, ez, rfl, rfl⟩ := hprs j k v e
    rw [hTs j z ez]
    refine ⟨at_ j z ez, .inl ?_⟩
    obtain ⟨its2, r2, p2, _⟩ := I.tuple (show SqT X.K H z.1 _ from .inl (.inl (hq z (List.mem_of_getElem? ez)).1))
    obtain ⟨u1, u2, rfl, ra, rb⟩ := vals2 r2
    cases ra
    cases rb
    exact p2
  have room : (tupleKind (mixKind X.prog X.w)).room X.A.in1.in1 := tupleKind_room_in1 (A := X.A.in1) (by show X.A.units + 1 + 1 < cLine; omega)
  have keys : ∀ z ∈ qs, (tupleKind (mixKind X.prog X.w)).is s.heap (keyP z.2.2) z.2.1 := fun z hz => key_of I.hok (by rw [kV_keyP]; exact (hq z hz).2)
  refine call_dict_pairsH (knd := tupleKind (mixKind X.prog X.w)) (ps := qs.map fun z => (keyP z.2.2, z.2.1, Value.bool true)) (PairArg.list l _ Ts prs) (I.ok.hd hc) room ⟨⟨o, n, ho, hco, hdo, hdat⟩, items⟩ ⟨?_, fun j k v e => ?_⟩ (fun h' hk x hx => ?_) ?_ fun h' tk hd' kp => ?_
  · show (qs.map _).length = (qs.map _).length
    rw [List.length_map, List.length_map]
  · obtain ⟨z, ez, rfl, rfl⟩ := hprs j k v e
    exact ⟨keyP z.2.2, z.2.1, by rw [List.getElem?_map, ez]; rfl, rfl⟩
  · obtain ⟨z, hz1, rfl⟩ := List.mem_map.mp hx
    obtain ⟨o1, i1, n1, g1, g2, g3, g4⟩ := keys z hz1
    exact ⟨o1, i1, n1, hk _ _ (Nat.ne_of_lt (Heap.lt_size g1)) (by simp) g1, g2, g3, g4⟩
  · show (qs.map _).length ≤ sizeLine
    rw [List.length_map]; exact Nat.le_of_lt (small1000 hlen)
  · have hm : (s.heap.objs.size == sysModules) = false := beq_eq_false_iff_ne.mpr (Nat.ne_of_gt I.big)
    have nf : H s.heap.objs.size = none := I.hok.fresh (Nat.le_refl _)
    have rel := kt_all (H := H) qs (kvs := []) (xs := []) .nil fun z hz => (hq z hz).2
    have hl2 : (dictOfP [] (qs.map (·.2.2))).length ≤ sizeLine := by
      have := len_dictOfP (qs.map (·.2.2)) []
      rw [List.length_map, List.length_nil] at this
      exact Nat.le_trans this (by rw [Nat.zero_add]; exact Nat.le_of_lt (small1000 hlen))
    obtain ⟨q1, es, ep, w1, w2, w3, w4, _, w5⟩ := hd'
    refine ⟨.ref s.heap.objs.size, upd H s.heap.objs.size (.dT (dictOfP [] (qs.map (·.2.2)))), I.laid (t' := tk) (fun b u e => kp b u (by simp) e) (Nat.le_refl _) ⟨hl2, hm, _, rel.keeps fun c ys ec => ?_, q1, es, ep, w1, w2, w3, w4, w5⟩, rfl, q _ nf⟩
    rw [upd_ne (ne_of_none ec nf)]; exact ec
end
end RV
namespace K10
open PySem PySem.Spec PyProof.Rows L2 RV
/-! ### a dict of a list of pairs, by its keys -/
def addAll (ps : List (List Int)) : List (List Int) := ps.foldl addP []
theorem dict_keys : ∀ (ps : List (List Int)) {kvs : List (List L2.Key × V)} {qs : List (List Int)}, kvs.map (·.1) = qs.map keyP → (dictOfP kvs ps).map (·.1) = (ps.foldl addP qs).map keyP
  | [], _, _, h => h
  | p :: ps, kvs, qs, h => dict_keys ps (kvs := putK kvs (keyP p) (.bl true)) (qs := addP qs p) (put_keys h)
theorem mem_fold {q : List Int} : ∀ (ps qs : List (List Int)), q ∈ ps.foldl addP qs ↔ q ∈ qs ∨ q ∈ ps
  | [], qs => by simp
  | p :: ps, qs => by
    show q ∈ ps.foldl addP (addP qs p) ↔ _
    rw [mem_fold ps, mem_addP, List.mem_cons]
    constructor
    · rintro ((h | h) | h)
      · exact .inl h
      · exact .inr (.inl h)
      · exact .inr (.inr h)
    · rintro (h | h | h)
      · exact .inl (.inl h)
      · exact .inl (.inr h)
      · exact .inr h
theorem nd_fold : ∀ (ps qs : List (List Int)), qs.Nodup → (ps.foldl addP qs).Nodup
  | [], _, h => h
  | _ :: ps, _, h => nd_fold ps _ (nd_addP h)
theorem mem_all {q : List Int} {ps : List (List Int)} : q ∈ addAll ps ↔ q ∈ ps := by
  unfold addAll
  rw [mem_fold]; simp
/-- steps of which some are left -/
theorem part_of {ns : List Int} {ps : List (List Int)} (pr : ∀ p ∈ ps, Pr (ns.length : Int) p) (mi : ∀ x y mx my : Int, [x, y] ∈ ps → ns[x.toNat]? = some mx → ns[y.toNat]? = some my → [my, mx] ∈ ps) : Part ns (addAll ps) :=
  ⟨nd_fold ps [] List.nodup_nil, fun p hp => pr p (mem_all.mp hp), fun x y mx my h e1 e2 => mem_all.mpr (mi x y mx my (mem_all.mp h) e1 e2)⟩
theorem part_all {ns : List Int} {ps : List (List Int)} (S : Stp ns ps) : Part ns (addAll ps) := part_of S.pair S.mirr
theorem part_without {ns : List Int} {ps : List (List Int)} {g1 g2 m1 m2 : Int} (M : Mir ns) (S : Stp ns ps) (hg : [g1, g2] ∈ ps) (e1 : ns[g1.toNat]? = some m1) (e2 : ns[g2.toNat]? = some m2) : Part ns (addAll (ps.filter fun p => decide (p ∉ [[g1, g2], [m2, m1]]))) := by
  refine part_of (fun p hp => S.pair p (List.mem_filter.mp hp).1) fun x y mx my h ex ey => ?_
  obtain ⟨h1, h2⟩ := List.mem_filter.mp h
  have h2 := of_decide_eq_true h2
  refine List.mem_filter.mpr ⟨S.mirr x y mx my h1 ex ey, decide_eq_true fun z => h2 ?_⟩
  obtain ⟨x', y', exy, hx, hy⟩ := S.pair _ h1
  injection exy with exx exy
  injection exy with exy _
  subst exx exy
  obtain ⟨a', b', eab, ha, hb⟩ := S.pair _ hg
  injection eab with eaa eab
  injection eab with eab _
  subst eaa eab
  have bx := M.back _ _ ex
  have bY := M.back _ _ ey
  have b1 := M.back _ _ e1
  have b2 := M.back _ _ e2
  rcases List.mem_cons.mp z with z | z
  · injection z with z1 z2
    injection z2 with z2 _
    subst z1 z2
    rw [e1] at bY
    rw [e2] at bx
    have y1 := Option.some.inj bY
    have x1 := Option.some.inj bx
    refine List.mem_cons_of_mem _ (List.mem_cons.mpr (.inl ?_))
    rw [y1, x1, Int.toNat_of_nonneg hx.1, Int.toNat_of_nonneg hy.1]
  · have z := List.mem_singleton.mp z
    injection z with z1 z2
    injection z2 with z2 _
    subst z1 z2
    rw [b2] at bY
    rw [b1] at bx
    have y1 := Option.some.inj bY
    have x1 := Option.some.inj bx
    refine List.mem_cons.mpr (.inl ?_)
    rw [show x = g1 by omega, show y = g2 by omega]
theorem mir_more {ns : List Int} (M : Mir ns) (h : ns.length < 8) : Mir (ns ++ [(ns.length : Int)]) := by
  have hl : (ns ++ [(ns.length : Int)]).length = ns.length + 1 := by rw [List.length_append]; rfl
  refine ⟨by omega, by omega, fun i hi => ?_, fun k m hk => ?_⟩
  · rw [hl]
    rcases List.mem_append.mp hi with z | z
    · have := M.inn i z; omega
    · have := List.mem_singleton.mp z; omega
  · by_cases e : k < ns.length
    · rw [List.getElem?_append_left e] at hk
      have b := M.back k m hk
      have i := M.inn m (List.mem_of_getElem? hk)
      rw [List.getElem?_append_left (by omega)]; exact b
    · have hk2 := (List.getElem?_eq_some_iff.mp hk).1
      have ek : k = ns.length := by omega
      subst ek
      rw [List.getElem?_append_right (Nat.le_refl _), Nat.sub_self] at hk
      have em : (ns.length : Int) = m := Option.some.inj hk
      subst em
      rw [Int.toNat_natCast, List.getElem?_append_right (Nat.le_refl _), Nat.sub_self]; rfl
theorem part_more {ns : List Int} {ps : List (List Int)} (h : Part ns ps) : Part (ns ++ [(ns.length : Int)]) ps := by
  have hl : (ns ++ [(ns.length : Int)]).length = ns.length + 1 := by rw [List.length_append]; rfl
  refine ⟨h.nd, fun p hp => (h.pr p hp).mono (by omega), fun x y mx my hxy ex ey => ?_⟩
  obtain ⟨a, b, e, ha, hb⟩ := h.pr _ hxy
  injection e with e1 e2
  injection e2 with e2 _
  subst e1 e2
  rw [List.getElem?_append_left (by omega)] at ex ey
  exact h.mi x y mx my hxy ex ey
theorem mir_range {n : Nat} (h1 : 0 < n) (h8 : n ≤ 8) : Mir (rgI 0 (n : Int)) := by
  have h := half_start n
  refine ⟨by rw [h.len]; exact h1, by rw [h.len]; exact h8, fun i hi => ?_, h.back⟩
  rw [h.len]; exact h.lin i hi
theorem part_both {n : Nat} {ns : List Int} {ps : List (List Int)} (S : Stp ns ps) (hn : ns.length ≤ n) : Part (rgI 0 (n : Int)) (addAll (ps.filter fun p => decide (p.reverse ∈ ps))) := by
  have hl : (rgI 0 (n : Int)).length = n := (half_start n).len
  refine part_of (fun p hp => ?_) fun x y mx my h ex ey => ?_
  · obtain ⟨x, y, e, hx, hy⟩ := S.pair p (List.mem_filter.mp hp).1
    exact ⟨x, y, e, by omega, by omega⟩
  · obtain ⟨h1, h2⟩ := List.mem_filter.mp h
    have h2 : [y, x] ∈ ps := of_decide_eq_true h2
    obtain ⟨a, b, e, ha, hb⟩ := S.pair _ h1
    injection e with e1 e2
    injection e2 with e2 _
    subst e1 e2
    rw [rgI_get] at ex ey
    have e1 : mx = x := by omega
    have e2 : my = y := by omega
    subst e1 e2
    exact List.mem_filter.mpr ⟨h2, decide_eq_true h1⟩
/-! ### the list of pairs (step, True) -/
def Bagged (H : Hp) (D : Addr) (ks : List (Addr × List Int)) : Prop := ∃ qs : List (Addr × Addr × List Int), qs.map (·.2) = ks ∧ H D = some (.lst ((qs.map (·.1)).map V.ref)) ∧ ∀ q ∈ qs, H q.1 = some (.tup [.ref q.2.1, .bl true])
theorem Bagged.nil {H : Hp} {D : Addr} : Bagged (upd H D (.lst [])) D [] := ⟨[], rfl, upd_same, fun _ h => nomatch h⟩
theorem Bagged.add {H : Hp} {D T : Addr} {ks : List (Addr × List Int)} {k : Addr × List Int} {acc : List V} (h : Bagged H D ks) (nT : H T = none) (ha : H D = some (.lst acc)) :
    Bagged (upd (upd H T (.tup [.ref k.1, .bl true])) D (.lst (acc ++ [.ref T]))) D (ks ++ [k]) := by
  obtain ⟨qs, h1, h2, h3⟩ := h
  rw [h2] at ha
  have ea : (qs.map (·.1)).map V.ref = acc := by
    have z := Option.some.inj ha
    injection z
  have hDT : T ≠ D := (ne_of_none h2 nT).symm
  refine ⟨qs ++ [(T, k)], by rw [List.map_append, h1]; rfl, by rw [upd_same, ← ea, List.map_append, List.map_append]; rfl, fun q hq => ?_⟩
  rcases List.mem_append.mp hq with z | z
  · have z1 := h3 q z
    rw [upd_ne (fun e => by rw [e, h2] at z1; cases z1), upd_ne (ne_of_none z1 nT)]; exact z1
  · have z := List.mem_singleton.mp z
    subst z
    rw [upd_ne hDT, upd_same]
theorem Bagged.len {H : Hp} {D : Addr} {ks : List (Addr × List Int)} {acc : List V} (h : Bagged H D ks) (ha : H D = some (.lst acc)) : acc.length = ks.length := by
  obtain ⟨qs, h1, h2, h3⟩ := h
  rw [h2] at ha
  have ea : (qs.map (·.1)).map V.ref = acc := by
    have z := Option.some.inj ha
    injection z
  rw [← ea, ← h1]; simp
theorem Bagged.list {H : Hp} {D : Addr} {ks : List (Addr × List Int)} (h : Bagged H D ks) : ∃ acc, H D = some (.lst acc) := by
  obtain ⟨qs, h1, h2, h3⟩ := h
  exact ⟨_, h2⟩
theorem take_filter_next {α : Type} {c : α → Bool} {ks : List α} {k : α} {i : Nat} (g : ks[i]? = some k) : (ks.take (i + 1)).filter c = (ks.take i).filter c ++ (if c k = true then [k] else []) := by
  rw [List.take_add_one, g]
  show (ks.take i ++ [k]).filter c = _
  rw [List.filter_append]
  by_cases e : c k = true
  · rw [if_pos e]; simp [e]
  · rw [if_neg e]; simp [e]
theorem bag_dict {H : Hp} {D : Addr} {ks : List (Addr × List Int)} {R : List (Addr × Addr × List Int) → Addr → Prop} (h : Bagged H D ks) (hk : ∀ k ∈ ks, H k.1 = some (.tup (k.2.map V.int))) (hl : ks.length ≤ 1000)
    (q : ∀ qs d, qs.map (·.2.2) = ks.map (·.2) → H d = none → R qs d) : ∃ (l : Addr) (qs : List (Addr × Addr × List Int)), [V.ref D] = [V.ref l] ∧ H l = some (.lst ((qs.map (·.1)).map V.ref)) ∧ (∀ q ∈ qs, H q.1 = some (.tup [.ref q.2.1, .bl true]) ∧ H q.2.1 = some (.tup (q.2.2.map V.int))) ∧ qs.length ≤ 1000 ∧
      ∀ d, H d = none → R qs d := by
  obtain ⟨qs, h1, h2, h3⟩ := h
  refine ⟨D, qs, rfl, h2, fun z hz => ⟨h3 z hz, hk z.2 (by rw [← h1]; exact List.mem_map_of_mem hz)⟩, by rw [← h1, List.length_map] at hl; exact hl, fun d nd => q qs d ?_ nd⟩
  rw [← h1, List.map_map]; rfl
theorem filt_map {f : List Int → Bool} (ks : List (Addr × List Int)) : (ks.filter fun k => f k.2).map (·.2) = (ks.map (·.2)).filter f := by
  rw [List.filter_map]; rfl
end K10
set_option maxHeartbeats 4000000
namespace K10
open PySem PySem.Spec PyProof.Rows L2 RV
section
variable {P : Program} {w : World} {K : PySem.W.Frag} {mg : Str → Option Value} {base : Heap}
/-! ### is_step -/
theorem scStep : FnScope ["thing", "many"] ["thing", "many"] (defScope sStep) := ⟨rfl, rfl, rfl, by decide +kernel, rfl, by decide +kernel, by decide +kernel⟩
def spStep (K : PySem.W.Frag) : Sp := fun vs H Q _ => ∃ (a : Addr) (x y n : Int), vs = [.ref a, .int n] ∧ SqT K H a ([x, y].map V.int) ∧ (0 ≤ x ∧ x < n) ∧ (0 ≤ y ∧ y < n) ∧ ∀ H', Same H H' → Q (.bl true) H'
theorem ok_step {f fA : Addr} {fd fdA : FuncData} (F : Fun K "is_step" "is_step" sStep f fd) (DA : DefAt K mg "are_marks" sMarks ["thing", "many"] fA fdA) (GA : FnOk P w K mg base CX0 3 fA fdA ["thing", "many"] (spMarks K)) (B : Bare mg) :
    FnOk P w K mg base CX0 4 f fd ["thing", "many"] (spStep K) := by
  refine F.ok scStep (fun vs H Q E h => ?_) (fun cdv A outer s H vs Q E hr h => ?_)
  · obtain ⟨a, x, y, n, rfl, _⟩ := h
    rfl
  · obtain ⟨a, x, y, n, rfl, hT, hx, hy, q⟩ := h
    refine ⟨_, pss_one (ps_ret (pe_and (pe_call GA hr (by rfl) DA.mg DA.fn.kp DA.bi .nil pass0 (pa_cons (pv 0) (pa_cons (pv 1) pa_nil))) (pe_one (pe_cmpR op_eq (pe_callB call_len_seq (by rfl) B.len PySem.boot_len (pa_cons (pv 0) pa_nil)) pe_int (nomark _))))), ?_⟩
    refine ⟨.ref a, rfl, .int n, rfl, a, [x, y], n, rfl, hT, by simp, by simp, fun i hi => ?_, fun H1 s1 => ⟨true, rfl, iteT ?_⟩⟩
    · simp only [List.mem_cons, List.mem_nil_iff, or_false, List.not_mem_nil] at hi
      rcases hi with rfl | rfl
      · exact hx
      · exact hy
    · refine ⟨.ref a, rfl, a, _, rfl, .inr (sqT_same s1 hT), rfl, ?_⟩
      exact q H1 s1
/-! ### is_rising -/
theorem scRising : FnScope ["pairs", "one", "other"] ["pairs"] (defScope sRising) := ⟨rfl, rfl, rfl, by decide +kernel, rfl, by decide +kernel, by decide +kernel⟩
def spRising (K : PySem.W.Frag) : Sp := fun vs H Q _ => ∃ (a : Addr) (ps : List (List Int)), vs = [.ref a] ∧ Tups K H a ps ∧ ps.length ≤ 1000 ∧ (∀ (i : Nat) (p q : List Int), ps[i]? = some p → ps[i + 1]? = some q → HT.lexLt p q = true) ∧ ∀ H', Same H H' → Q (.bl true) H'
theorem cut1 (xs : List V) : cutV xs (some 1) none = xs.drop 1 := by
  unfold cutV
  rw [show HT.sIx xs.length 0 (some 1) = min 1 xs.length from HT.sIx_nat xs.length 0 1, HT.sIx_none]
  cases xs with
  | nil => rfl
  | cons x r =>
    rw [show min 1 (x :: r).length = 1 by rw [List.length_cons]; omega]
    show (List.take ((x :: r).length - 1) r) = r
    rw [List.length_cons, Nat.add_sub_cancel]
    exact List.take_length
theorem ok_rising {f : Addr} {fd : FuncData} (F : Fun K "is_rising" "is_rising" sRising f fd) (B : Bare mg) : FnOk P w K mg base CX0 1 f fd ["pairs"] (spRising K) := by
  refine F.ok scRising (fun vs H Q E h => ?_) (fun cdv A outer s H vs Q E hr h => ?_)
  · obtain ⟨a, ps, rfl, _⟩ := h
    rfl
  · obtain ⟨a, ps, rfl, hTT, hl, hrise, q⟩ := h
    obtain ⟨ks, rfl, hT, hks⟩ := hTT
    refine ⟨_, pss_one (ps_ret (pe_callB (cr_all rfl) (by rfl) B.all (by decide +kernel) (pa_cons
        (pe_lc (own := [("one", 1), ("other", 2)]) (g := gTup K 2 (gCons (gName 1) (gCons (gName 2) gNil))) (tt := tYes) rfl scRising.nd (RZ.pi_zipA (by rfl) B.zip (pa_cons (pv 0) (pa_cons (pe_slice sl_tupA (pv 0) (po_some pe_int) po_none) pa_nil))) (blkOk_by (N := ["pairs", "one", "other"]) (sc := defScope sRising) (by decide +kernel))
          (fun _ _ _ _ _ => pg_tupK rfl rfl (pgs_cons (pg_name (i := 1) scRising.nd rfl (Or.inl rfl)) (pgs_cons (pg_name (i := 2) scRising.nd rfl (Or.inl rfl)) pgs_nil))) (fun _ _ _ _ _ => pts_nil)
          (fun _ _ _ _ _ => pe_cmpR (op_ltTK (K := K) rfl hr.units0) (pv 1) (pv 2) (nomark _))) pa_nil))), ?_⟩
    have go : ∀ (b : Addr) (H1 : Hp) (Qc : VK), Same H H1 → SqT K H1 b ((ks.map fun p => V.ref p.1).drop 1) → (∀ D H', Same H1 H' → H' D = some (.lst (List.replicate (ks.length - 1) (V.bl true))) → Qc (.ref D) H') →
        tLc (fun _ H2 R => R (RZ.ItzT K a b) H2) (gTup K 2 (gCons (gName 1) (gCons (gName 2) gNil))) tYes (tOp (rLtT K) (tVar 1) (tVar 2)) [1, 2] (start ["pairs", "one", "other"] [.ref a]) H1 Qc := by
      intro b H1 Qc s1 hb fin D nD
      refine lc_it (walk_zipT (K := K) (a := a) (b := b) (xs := ks.map fun p => V.ref p.1) (ys := (ks.map fun p => V.ref p.1).drop 1) (n := ks.length - 1) (by rw [List.length_drop, List.length_map]; omega))
        (fun i H' => Same H1 H' ∧ H' D = some (.lst (List.replicate i (V.bl true)))) ⟨same_upd nD, upd_same⟩ (fun i H' _ p => ⟨sqT_same p.1 (sqT_same s1 hT), sqT_same p.1 hb⟩) (fun i x H2 H3 hi p y => ?_) fun H' p => fin D H' p.1 p.2
      obtain ⟨T, x1, x2, rfl, nT, rfl, e1, e2⟩ := y
      have e3 : ((ks.map fun p => V.ref p.1).drop 1)[i]? = some x2 := e2
      rw [List.getElem?_drop] at e3
      obtain ⟨k1, g1, rfl⟩ := map_at e1
      obtain ⟨k2, g2, rfl⟩ := map_at e3
      have sT : Same H2 (upd H2 T (.tup [V.ref k1.1, V.ref k2.1])) := same_upd nT
      have sA : Same H (upd H2 T (.tup [V.ref k1.1, V.ref k2.1])) := (s1.trans p.1).trans sT
      have lt : HT.lexLt k1.2 k2.2 = true := by
        refine hrise i k1.2 k2.2 ?_ ?_
        · rw [List.getElem?_map, g1]; rfl
        · rw [Nat.add_comm, List.getElem?_map, g2]; rfl
      refine ⟨T, _, rfl, tupNew upd_same, rfl, _, _, rfl, _, _, rfl, rfl, rfl, tt_yes ⟨.ref k1.1, rfl, .ref k2.1, rfl, k1.1, k2.1, k1.2, k2.2, rfl, rfl, sqT_same sA (hks k1 (List.mem_of_getElem? g1)), sqT_same sA (hks k2 (List.mem_of_getElem? g2)), _, sT _ _ p.2, ?_, ?_, ?_⟩⟩
      · rw [List.length_replicate]; rw [List.length_map] at hl; exact few1 (by omega)
      · exact fun b o e => by rw [upd_ne (ne_of_none e nD)]; exact sT b o (p.1 b o e)
      · rw [upd_same, lt, rep_next]
    have fin : ∀ (H1 : Hp), Same H H1 → ∀ D H', Same H1 H' → H' D = some (.lst (List.replicate (ks.length - 1) (V.bl true))) → ∃ (a : Addr) (bs : List Bool), [V.ref D] = [V.ref a] ∧ SqL K H' a (bs.map V.bl) ∧ Q (.bl (bs.all id)) H' := by
      intro H1 s1 D H' s2 e
      refine ⟨D, List.replicate (ks.length - 1) true, rfl, lstNew (by rw [e, rep_bl]), ?_⟩
      rw [all_true]
      exact q H' (s1.trans s2)
    refine ⟨.ref a, rfl, .ref a, rfl, 1, rfl, a, _, rfl, hT, fun hw => ?_, fun hw c nc => ?_⟩
    · have e0 : ks.map (fun p => V.ref p.1) = [] := by
        cases hk : ks.map (fun p => V.ref p.1) with
        | nil => rfl
        | cons x r =>
          rw [hk] at hw
          have h1 := hw.1
          rw [show HT.sIx (x :: r).length 0 (some 1) = min 1 (x :: r).length from HT.sIx_nat _ 0 1, List.length_cons] at h1
          omega
      refine ⟨a, a, _, _, rfl, .inr ⟨hT, hT, ?_⟩⟩
      refine go a H (fun v H2 => ∃ (a : Addr) (bs : List Bool), [v] = [V.ref a] ∧ SqL K H2 a (bs.map V.bl) ∧ Q (.bl (bs.all id)) H2) (Same.refl H) ?_ ?_
      · rw [e0]; rw [e0] at hT; exact hT
      · exact fin H (Same.refl H)
    · have s1 : Same H (upd H c (.tup (cutV (ks.map fun p => V.ref p.1) (some 1) none))) := same_upd nc
      refine ⟨a, c, _, _, rfl, .inr ⟨sqT_same s1 hT, tupNew upd_same, ?_⟩⟩
      refine go c _ (fun v H2 => ∃ (a : Addr) (bs : List Bool), [v] = [V.ref a] ∧ SqL K H2 a (bs.map V.bl) ∧ Q (.bl (bs.all id)) H2) s1 ?_ ?_
      · exact tupNew (by rw [upd_same, cut1])
      · exact fin _ s1
end
end K10
set_option maxHeartbeats 4000000
namespace K10
open PySem PySem.Spec PyProof.Rows L2 RV
/-- the marks behind m by the steps ps -/
def behindOf (ps : List (List Int)) (m : Int) : List Int := (ps.filter fun p => decide (p.getD 0 0 = m)).map fun p => p.getD 1 0
section
variable {P : Program} {w : World} {K : PySem.W.Frag} {mg : Str → Option Value} {base : Heap}
/-! ### marks_behind -/
theorem scBehind : FnScope ["steps", "mark", "a", "b"] ["steps", "mark"] (defScope sBehind) := ⟨rfl, rfl, rfl, by decide +kernel, rfl, by decide +kernel, by decide +kernel⟩
def spBehind (K : PySem.W.Frag) : Sp := fun vs H Q _ => ∃ (a : Addr) (ps : List (List Int)) (m : Int), vs = [.ref a, .int m] ∧ Tups K H a ps ∧ ps.length ≤ 1000 ∧ (∀ p ∈ ps, ∃ x y : Int, p = [x, y]) ∧
  ∀ H' t, Same H H' → H t = none → H' t = some (.tup ((behindOf ps m).map V.int)) → Q (.ref t) H'
theorem behind_next {ps : List (List Int)} {m : Int} {i : Nat} {x y : Int} (h : ps[i]? = some [x, y]) : behindOf (ps.take (i + 1)) m = behindOf (ps.take i) m ++ (if x = m then [y] else []) := by
  unfold behindOf
  rw [List.take_add_one, h]
  show List.map _ (List.filter _ (ps.take i ++ [[x, y]])) = _
  rw [List.filter_append, List.map_append]
  by_cases e : x = m
  · simp [e]
  · simp [e]
theorem behind_len (ps : List (List Int)) (m : Int) : (behindOf ps m).length ≤ ps.length := by
  unfold behindOf
  rw [List.length_map]
  exact List.length_filter_le _ _
theorem ok_behind {f : Addr} {fd : FuncData} (F : Fun K "marks_behind" "marks_behind" sBehind f fd) (B : Bare mg) : FnOk P w K mg base CX0 1 f fd ["steps", "mark"] (spBehind K) := by
  refine F.ok scBehind (fun vs H Q E h => ?_) (fun cdv A outer s H vs Q E hr h => ?_)
  · obtain ⟨a, ps, m, rfl, _⟩ := h
    rfl
  · obtain ⟨a, ps, m, rfl, hTT, hl, hp, q⟩ := h
    obtain ⟨ks, rfl, hT, hks⟩ := hTT
    refine ⟨_, pss_one (ps_ret (pe_tupleOf (by rfl) B.tuple
        (pe_lc (own := [("a", 2), ("b", 3)]) (g := gTup K 2 (gCons (gName 2) (gCons (gName 3) gNil))) rfl scBehind.nd (pi_tup (pv 0)) (blkOk_by (N := ["steps", "mark", "a", "b"]) (sc := defScope sBehind) (by decide +kernel))
          (fun _ _ _ _ _ => pg_tupK rfl rfl (pgs_cons (pg_name (i := 2) scBehind.nd rfl (Or.inl rfl)) (pgs_cons (pg_name (i := 3) scBehind.nd rfl (Or.inl rfl)) pgs_nil))) (fun _ _ _ _ _ => pts_one (pt_cmpR op_eq (pv 2) (pv 1) (nomark _)))
          (fun _ _ _ _ _ => pv 3)))), ?_⟩
    refine ⟨.ref a, rfl, a, rfl, ⟨_, hT⟩, fun D nD => ?_⟩
    refine lc_tup (K := K) (a := a) (xs := ks.map fun p => V.ref p.1) (fun i H' => Same H H' ∧ H' D = some (.lst ((behindOf ((ks.map (·.2)).take i) m).map V.int))) ⟨same_upd nD, by rw [upd_same]; rfl⟩ (fun i H' _ p => sqT_same p.1 hT) (fun i x H' hx p => ?_) fun H' p => ?_
    · obtain ⟨k, g, rfl⟩ := map_at hx
      have hk : k ∈ ks := List.mem_of_getElem? g
      obtain ⟨x, y, e⟩ := hp k.2 (List.mem_map_of_mem hk)
      have hkT : SqT K H' k.1 ([x, y].map V.int) := by rw [← e]; exact sqT_same p.1 (hks k hk)
      have gi : (ks.map (·.2))[i]? = some [x, y] := by rw [List.getElem?_map, g, ← e]; rfl
      refine ⟨k.1, _, rfl, hkT, rfl, _, _, rfl, _, _, rfl, rfl, rfl, .int x, rfl, .int m, rfl, rfl, _, rfl, ?_⟩
      have hle := behind_len ((ks.map (·.2)).take i) m
      rw [List.length_take] at hle
      by_cases e : x = m
      · subst e
        rw [decide_eq_true rfl]
        refine iteT ⟨.int y, rfl, _, p.2, ?_, ?_, ?_⟩
        · rw [List.length_map]; exact few1 (by omega)
        · exact fun b o z => by rw [upd_ne (ne_of_none z nD)]; exact p.1 b o z
        · rw [upd_same, behind_next gi, if_pos rfl, List.map_append]; rfl
      · rw [decide_eq_false (fun z => e (V.int.inj z))]
        refine iteF ⟨p.1, ?_⟩
        rw [p.2, behind_next gi, if_neg e, List.append_nil]
    · rw [List.length_map] at p
      have e : (ks.map (·.2)).take ks.length = ks.map (·.2) := List.take_of_length_le (by rw [List.length_map]; exact Nat.le_refl _)
      rw [e] at p
      refine .inl ⟨D, _, rfl, lstNew p.2, fun t nt => ?_⟩
      exact q _ t (p.1.trans (same_upd nt)) (p.1.free nt) upd_same
/-! ### are_steps -/
theorem scSteps : FnScope ["mirrors", "thing", "pair", "a", "b"] ["mirrors", "thing"] (defScope sSteps) := ⟨rfl, rfl, rfl, by decide +kernel, rfl, by decide +kernel, by decide +kernel⟩
def spSteps (K : PySem.W.Frag) : Sp := fun vs H Q _ => ∃ (a b : Addr) (ns : List Int) (ps : List (List Int)), vs = [.ref a, .ref b] ∧ SqT K H a (ns.map V.int) ∧ Tups K H b ps ∧ Mir ns ∧ Stp ns ps ∧ ∀ H', Same H H' → Q (.bl true) H'
theorem ok_steps {f fS fR : Addr} {fd fdS fdR : FuncData} (F : Fun K "are_steps" "are_steps" sSteps f fd) (DS : DefAt K mg "is_step" sStep ["thing", "many"] fS fdS) (GS : FnOk P w K mg base CX0 4 fS fdS ["thing", "many"] (spStep K))
    (DR : DefAt K mg "is_rising" sRising ["pairs"] fR fdR) (B : Bare mg) : FnOk P w K mg base CX0 5 f fd ["mirrors", "thing"] (spSteps K) := by
  have GR : FnOk P w K mg base CX0 1 fR fdR ["pairs"] (spRising K) := ok_rising DR.fn B
  refine F.ok scSteps (fun vs H Q E h => ?_) (fun cdv A outer s H vs Q E hr h => ?_)
  · obtain ⟨a, b, ns, ps, rfl, _⟩ := h
    rfl
  · obtain ⟨a, b, ns, ps, rfl, hA, hTT, hM, hS, q⟩ := h
    have hTT0 := hTT
    obtain ⟨ks, rfl, hT, hks⟩ := hTT
    have h64 := hS.few
    rw [List.length_map] at h64
    refine ⟨_, pss_cons (ps_if (pt_not (pt_val (pe_callB call_isi (by rfl) B.isinstance (by decide +kernel) (pa_cons (pv 1) (pa_cons (pe_bltn (v := .ty "tuple") (by rfl) B.tuple (by decide +kernel) rfl) pa_nil))))) (pss_one (ps_ret pe_bl)) pss_nil)
      (pss_cons (ps_if (pt_not (pt_val (pe_callB (cr_all rfl) (by rfl) B.all (by decide +kernel) (pa_cons
        (pe_lc (own := [("pair", 2)]) (g := gName 2) (tt := tYes) rfl scSteps.nd (pi_tup (pv 1)) (blkOk_by (N := ["mirrors", "thing", "pair", "a", "b"]) (sc := defScope sSteps) (by decide +kernel)) (fun _ _ _ _ _ => pg_name (i := 2) scSteps.nd rfl (Or.inl rfl)) (fun _ _ _ _ _ => pts_nil)
          (fun _ _ _ _ _ => pe_call GS hr (by rfl) DS.mg DS.fn.kp DS.bi .nil pass0 (pa_cons (pv 2) (pa_cons (pe_callB (call_lenK (K := K) rfl) (by rfl) B.len PySem.boot_len (pa_cons (pv 0) pa_nil)) pa_nil)))) pa_nil)))) (pss_one (ps_ret pe_bl)) pss_nil)
      (pss_cons (ps_if (pt_not (pt_val (pe_call GR (hr.mono (by decide)) (by rfl) DR.mg DR.fn.kp DR.bi .nil pass0 (pa_cons (pv 1) pa_nil)))) (pss_one (ps_ret pe_bl)) pss_nil)
      (pss_one (ps_ret (pe_callB (cr_all rfl) (by rfl) B.all (by decide +kernel) (pa_cons
        (pe_lc (own := [("a", 3), ("b", 4)]) (g := gTup K 2 (gCons (gName 3) (gCons (gName 4) gNil))) (tt := tYes) rfl scSteps.nd (pi_tup (pv 1)) (blkOk_by (N := ["mirrors", "thing", "pair", "a", "b"]) (sc := defScope sSteps) (by decide +kernel))
          (fun _ _ _ _ _ => pg_tupK rfl rfl (pgs_cons (pg_name (i := 3) scSteps.nd rfl (Or.inl rfl)) (pgs_cons (pg_name (i := 4) scSteps.nd rfl (Or.inl rfl)) pgs_nil))) (fun _ _ _ _ _ => pts_nil)
          (fun _ _ _ _ _ => pe_cmpR (op_inTsK (K := K) rfl (un65 hr)) (pe_tup (pa_cons (pe_ix (ix_tupK (K := K) rfl) (pv 0) (pv 4) (fun _ _ => rfl)) (pa_cons (pe_ix (ix_tupK (K := K) rfl) (pv 0) (pv 3) (fun _ _ => rfl)) pa_nil))) (pv 1) (by rfl))) pa_nil)))))), ?_⟩
    -- isinstance(thing, tuple)
    refine ⟨.ref b, rfl, .ref b, .ty "tuple", _, _, true, rfl, .ty "tuple", tyT hT, kit_ty (by decide +kernel), true, rfl, iteF ?_⟩
    -- all of them are steps
    refine ⟨.ref b, rfl, b, rfl, ⟨_, hT⟩, fun D nD => ?_⟩
    refine lc_tup (K := K) (a := b) (xs := ks.map fun p => V.ref p.1) (fun i H' => Same H H' ∧ H' D = some (.lst (List.replicate i (V.bl true)))) ⟨same_upd nD, upd_same⟩ (fun i H' _ p => sqT_same p.1 hT) (fun i x H' hx p => ?_) fun H1 p => ?_
    · obtain ⟨k, g, rfl⟩ := map_at hx
      have hk : k ∈ ks := List.mem_of_getElem? g
      have hi : i < ks.length := (List.getElem?_eq_some_iff.mp g).1
      obtain ⟨x, y, e, hx1, hy1⟩ := hS.pair k.2 (List.mem_map_of_mem hk)
      have hkT : SqT K H' k.1 ([x, y].map V.int) := by rw [← e]; exact sqT_same p.1 (hks k hk)
      refine ⟨rfl, tt_yes ⟨.ref k.1, rfl, .ref a, rfl, a, _, rfl, .inr (sqT_same p.1 hA), k.1, x, y, _, rfl, hkT, ?_, ?_, fun H2 s2 => ⟨_, s2 _ _ p.2, ?_, ?_, ?_⟩⟩⟩
      · rw [List.length_map]; exact hx1
      · rw [List.length_map]; exact hy1
      · rw [List.length_replicate]; exact few1 (by omega)
      · exact fun c o z => by rw [upd_ne (ne_of_none z nD)]; exact s2 c o (p.1 c o z)
      · rw [upd_same, rep_next]
    · rw [rep_bl] at p
      refine ⟨D, _, rfl, lstNew p.2, ?_⟩
      rw [all_true]
      refine ⟨true, rfl, iteF ?_⟩
      -- they rise
      refine ⟨.ref b, rfl, b, _, rfl, hTT0.same p.1, by rw [List.length_map]; omega, hS.rise, fun H2 s2 => ⟨true, rfl, iteF ?_⟩⟩
      have s02 : Same H H2 := p.1.trans s2
      -- their mirror steps
      refine ⟨.ref b, rfl, b, rfl, ⟨_, sqT_same s02 hT⟩, fun D2 nD2 => ?_⟩
      refine lc_tup (K := K) (a := b) (xs := ks.map fun p => V.ref p.1) (fun i H' => Same H2 H' ∧ H' D2 = some (.lst (List.replicate i (V.bl true)))) ⟨same_upd nD2, upd_same⟩ (fun i H' _ p => sqT_same p.1 (sqT_same s02 hT)) (fun i x H' hx p => ?_) fun H3 p => ?_
      · obtain ⟨k, g, rfl⟩ := map_at hx
        have hk : k ∈ ks := List.mem_of_getElem? g
        have hi : i < ks.length := (List.getElem?_eq_some_iff.mp g).1
        obtain ⟨x, y, e, hx1, hy1⟩ := hS.pair k.2 (List.mem_map_of_mem hk)
        have s0' : Same H H' := s02.trans p.1
        have hkT : SqT K H' k.1 ([x, y].map V.int) := by rw [← e]; exact sqT_same s0' (hks k hk)
        obtain ⟨mx, gx⟩ : ∃ mx, ns[x.toNat]? = some mx := ⟨_, List.getElem?_eq_getElem (by omega)⟩
        obtain ⟨my, gy⟩ : ∃ my, ns[y.toNat]? = some my := ⟨_, List.getElem?_eq_getElem (by omega)⟩
        have hin : [my, mx] ∈ ks.map (·.2) := hS.mirr x y mx my (by rw [← e]; exact List.mem_map_of_mem hk) gx gy
        have ax : atI (ns.map V.int) x = some (.int mx) := by
          rw [show x = ((x.toNat : Nat) : Int) by omega]; exact atI_nat (by rw [List.getElem?_map, gx]; rfl)
        have ay : atI (ns.map V.int) y = some (.int my) := by
          rw [show y = ((y.toNat : Nat) : Int) by omega]; exact atI_nat (by rw [List.getElem?_map, gy]; rfl)
        refine ⟨k.1, _, rfl, hkT, rfl, _, _, rfl, _, _, rfl, rfl, rfl, tt_yes ⟨.ref a, rfl, .int y, rfl, a, _, y, _, rfl, rfl, sqT_same s0' hA, ay, .ref a, rfl, .int x, rfl, a, _, x, _, rfl, rfl, sqT_same s0' hA, ax, (by show 2 ≤ sizeLine; decide), fun T nT => ?_⟩⟩
        have sT : Same H' (upd H' T (.tup [.int my, .int mx])) := same_upd nT
        refine ⟨.ref b, rfl, T, b, [my, mx], _, rfl, rfl, tupNew upd_same, (hTT0.same s0').same sT, _, sT _ _ p.2, ?_, ?_, ?_⟩
        · rw [List.length_replicate]; exact few1 (by omega)
        · exact fun c o z => by rw [upd_ne (ne_of_none z nD2)]; exact sT c o (p.1 c o z)
        · rw [upd_same, decide_eq_true hin, rep_next]
      · rw [rep_bl] at p
        refine ⟨D2, _, rfl, lstNew p.2, ?_⟩
        rw [all_true]
        exact q H3 (s02.trans p.1)
end
end K10
set_option maxHeartbeats 4000000
namespace K10
open PySem PySem.Spec PyProof.Rows L2 RV
/-! ### a Rule's fields -/
theorem n1 : ¬ (("mirrors" : Str) = "steps") := by decide +kernel
theorem n2 : ¬ (("mirrors" : Str) = "followers") := by decide +kernel
theorem n3 : ¬ (("steps" : Str) = "followers") := by decide +kernel
def flds (a b t : Addr) : List (Str × V) := putF "followers" (.ref t) (putF "steps" (.ref b) (putF "mirrors" (.ref a) []))
theorem flds_m (a b t : Addr) : (flds a b t).lookup ("mirrors" : Str) = some (.ref a) := by
  unfold flds
  rw [lookup_putF, if_neg n2, lookup_putF, if_neg n1, lookup_putF, if_pos rfl]
theorem flds_s (a b t : Addr) : (flds a b t).lookup ("steps" : Str) = some (.ref b) := by
  unfold flds
  rw [lookup_putF, if_neg n3, lookup_putF, if_pos rfl]
/-- all that a mark is followed by, mark by mark -/
def follow (n : Nat) (ps : List (List Int)) : List (List Int) := (List.range n).map fun (i : Nat) => behindOf ps (i : Int)
/-- a Rule stands at p -/
structure RuleAt (K : PySem.W.Frag) (C : Addr) (H : Hp) (p : Addr) (ns : List Int) (ps : List (List Int)) : Prop where
  ex : ∃ dx a b t, H p = some (.ins C dx (flds a b t)) ∧ SqT K H a (ns.map V.int) ∧ Tups K H b ps ∧ Tups K H t (follow ns.length ps)
theorem RuleAt.same {K : PySem.W.Frag} {C : Addr} {H H' : Hp} {p : Addr} {ns : List Int} {ps : List (List Int)} (r : RuleAt K C H p ns ps) (s : Same H H') : RuleAt K C H' p ns ps := by
  obtain ⟨dx, a, b, t, h1, h2, h3, h4⟩ := r.ex
  exact ⟨dx, a, b, t, s _ _ h1, sqT_same s h2, h3.same s, h4.same s⟩
/-- what the class is, behind the top -/
structure Txt (K : PySem.W.Frag) (mg : Str → Option Value) (C : Addr) : Prop where
  cl : Cls K C
  nM : NoAttr K C "mirrors"
  nS : NoAttr K C "steps"
  nF : NoAttr K C "followers"
  mgC : mg "Rule" = some (.ref C)
  c1 : PySem.W.findIn K (.ref C) "__class__" = some (some (.builtin "object.__class__"))
  c2 : PySem.W.specialIn K (.builtin "object.__class__") "__get__" = some (some (.builtin "getset_descriptor.__get__"))
  c3 : PySem.W.takesIn K (.builtin "object.__class__") = some true
  c4 : PySem.W.mroIn K C (.type "object") = some true
  c5 : PySem.W.kitOne K (.ref C) (.ref C) = some true
section
variable {P : Program} {w : World} {K : PySem.W.Frag} {mg : Str → Option Value} {base : Heap}
/-! ### __init__ -/
theorem scInit : FnScope ["self", "mirrors", "steps", "mark"] ["self", "mirrors", "steps"] (defScope sInit) := ⟨rfl, rfl, rfl, by decide +kernel, rfl, by decide +kernel, by decide +kernel⟩
def spInit (K : PySem.W.Frag) (C : Addr) : Sp := fun vs H Q _ => ∃ (p dx a b : Addr) (ns : List Int) (ps : List (List Int)), vs = [.ref p, .ref a, .ref b] ∧ H p = some (.ins C dx []) ∧ SqT K H a (ns.map V.int) ∧ Tups K H b ps ∧ Mir ns ∧ Stp ns ps ∧
  ∀ H' t, (∀ c o, H c = some o → c ≠ p → H' c = some o) → H' p = some (.ins C dx (flds a b t)) → Tups K H' t (follow ns.length ps) → Q .non H'
theorem sqT_but {H H' : Hp} {p C dx : Addr} {fs : List (Str × V)} (hp : H p = some (.ins C dx fs)) (k : ∀ c o, H c = some o → c ≠ p → H' c = some o) {a : Addr} {xs : List V} (h : SqT K H a xs) : SqT K H' a xs := by
  rcases h with (h | ⟨o, h⟩) | h
  · exact .inl (.inl (k _ _ h fun z => by rw [z, hp] at h; cases h))
  · exact .inl (.inr ⟨o, k _ _ h fun z => by rw [z, hp] at h; cases h⟩)
  · exact .inr h
theorem tups_but {H H' : Hp} {p C dx : Addr} {fs : List (Str × V)} (hp : H p = some (.ins C dx fs)) (k : ∀ c o, H c = some o → c ≠ p → H' c = some o) {a : Addr} {ps : List (List Int)} (h : Tups K H a ps) : Tups K H' a ps := by
  obtain ⟨ks, h1, h2, h3⟩ := h
  exact ⟨ks, h1, sqT_but hp k h2, fun q hq => sqT_but hp k (h3 q hq)⟩
theorem follow_next (i : Nat) (ps : List (List Int)) : follow (i + 1) ps = follow i ps ++ [behindOf ps (i : Int)] := by
  unfold follow
  rw [List.range_succ, List.map_append]; rfl
theorem ok_init {f fM fS fB C : Addr} {fd fdM fdS fdB : FuncData} (F : Fun K "__init__" "Rule.__init__" sInit f fd) (T : Txt K mg C)
    (DM : DefAt K mg "are_mirrors" sMirrors ["thing"] fM fdM) (GM : FnOk P w K mg base CX0 4 fM fdM ["thing"] (spMirrors K)) (DS : DefAt K mg "are_steps" sSteps ["mirrors", "thing"] fS fdS) (GS : FnOk P w K mg base CX0 5 fS fdS ["mirrors", "thing"] (spSteps K))
    (DB : DefAt K mg "marks_behind" sBehind ["steps", "mark"] fB fdB) (B : Bare mg) : FnOk P w K mg base CX0 6 f fd ["self", "mirrors", "steps"] (spInit K C) := by
  have GB : FnOk P w K mg base CX0 1 fB fdB ["steps", "mark"] (spBehind K) := ok_behind DB.fn B
  refine F.ok scInit (fun vs H Q E h => ?_) (fun cdv A outer s H vs Q E hr h => ?_)
  · obtain ⟨p, dx, a, b, ns, ps, rfl, _⟩ := h
    rfl
  · obtain ⟨p, dx, a, b, ns, ps, rfl, hp, hA, hB, hM, hS, q⟩ := h
    refine ⟨_, pss_cons (ps_if (pt_not (pt_val (pe_call GM (hr.mono (by decide)) (by rfl) DM.mg DM.fn.kp DM.bi .nil pass0 (pa_cons (pv 1) pa_nil)))) (pss_one ps_never) pss_nil)
      (pss_cons (ps_if (pt_not (pt_val (pe_call GS hr (by rfl) DS.mg DS.fn.kp DS.bi .nil pass0 (pa_cons (pv 1) (pa_cons (pv 2) pa_nil))))) (pss_one ps_never) pss_nil)
      (pss_cons (ps_fld (pv 0) (pv 1) rfl)
      (pss_cons (ps_fld (pv 0) (pv 2) rfl)
      (pss_one (ps_fld (pv 0) (pe_tupleOf (by rfl) B.tuple
        (pe_lc (own := [("mark", 3)]) (g := gName 3) (tt := tYes) rfl scInit.nd (pi_range1 (by rfl) B.range (pa_cons (pe_callB call_len_seq (by rfl) B.len PySem.boot_len (pa_cons (pv 1) pa_nil)) pa_nil)) (blkOk_by (N := ["self", "mirrors", "steps", "mark"]) (sc := defScope sInit) (by decide +kernel))
          (fun _ _ _ _ _ => pg_name (i := 3) scInit.nd rfl (Or.inl rfl)) (fun _ _ _ _ _ => pts_nil)
          (fun _ _ _ _ _ => pe_call GB (hr.mono (by decide)) (by rfl) DB.mg DB.fn.kp DB.bi .nil pass0 (pa_cons (pv 2) (pa_cons (pv 3) pa_nil))))) rfl))))), ?_⟩
    refine ⟨.ref a, rfl, a, ns, rfl, hA, hM, fun H1 s1 => ⟨true, rfl, iteF ?_⟩⟩
    refine ⟨.ref a, rfl, .ref b, rfl, a, b, ns, ps, rfl, sqT_same s1 hA, hB.same s1, hM, hS, fun H2 s2 => ⟨true, rfl, iteF ?_⟩⟩
    have s02 : Same H H2 := s1.trans s2
    have hp2 := s02 _ _ hp
    refine ⟨.ref a, rfl, .ref p, rfl, p, C, dx, [], rfl, hp2, T.cl, T.nM, (by show 0 < 1000; decide), ?_⟩
    refine ⟨.ref b, rfl, .ref p, rfl, p, C, dx, _, rfl, upd_same, T.cl, T.nS, (by show 1 < 1000; decide), ?_⟩
    -- the heap behind both stores
    have k4 : ∀ c o, H2 c = some o → c ≠ p → (upd (upd H2 p (.ins C dx (putF "mirrors" (.ref a) []))) p (.ins C dx (putF "steps" (.ref b) (putF "mirrors" (.ref a) [])))) c = some o := fun c o e z => by
      rw [upd_ne z, upd_ne z]; exact e
    generalize e4 : upd (upd H2 p (.ins C dx (putF "mirrors" (.ref a) []))) p (.ins C dx (putF "steps" (.ref b) (putF "mirrors" (.ref a) []))) = H4 at k4 ⊢
    have hp4 : H4 p = some (.ins C dx (putF "steps" (.ref b) (putF "mirrors" (.ref a) []))) := by rw [← e4, upd_same]
    have hA4 : SqT K H4 a (ns.map V.int) := sqT_but hp2 k4 (sqT_same s02 hA)
    have hB4 : Tups K H4 b ps := tups_but hp2 k4 (hB.same s02)
    have h8 := hM.few
    refine ⟨.ref a, rfl, a, _, rfl, .inr hA4, _, rfl, ?_, ?_, fun D nD => ?_⟩
    · rw [List.length_map]; omega
    · rw [List.length_map]; omega
    rw [List.length_map, Int.toNat_natCast]
    refine lc_range (lo := 0) (n := ns.length) (fun i H' => Same H4 H' ∧ ∃ ks : List (Addr × List Int), ks.map (·.2) = follow i ps ∧ H' D = some (.lst (ks.map fun p => V.ref p.1)) ∧ ∀ q ∈ ks, SqT K H' q.1 (q.2.map V.int)) ⟨same_upd nD, [], rfl, upd_same, fun _ z => nomatch z⟩ (fun i H' hi z => ?_) fun H' z => ?_
    · obtain ⟨s5, ks, e1, e2, e3⟩ := z
      have hkl : ks.length = i := by
        have := congrArg List.length e1
        rw [List.length_map] at this
        rw [this]; unfold follow; rw [List.length_map, List.length_range]
      refine ⟨rfl, tt_yes ⟨.ref b, rfl, .int (0 + (i : Nat)), rfl, b, ps, _, rfl, hB4.same s5, by have := hS.few; omega, fun q hq => ?_, fun H6 t s6 nt et => ⟨_, s6 _ _ e2, ?_, ?_, ?_⟩⟩⟩
      · obtain ⟨x, y, e, _⟩ := hS.pair q hq
        exact ⟨x, y, e⟩
      · rw [List.length_map]; exact few1 (by omega)
      · exact fun c o e => by rw [upd_ne (ne_of_none e nD)]; exact s6 c o (s5 c o e)
      · have hk6 : ∀ c o, H6 c = some o → c ≠ D → (upd H6 D (.lst ((ks.map fun p => V.ref p.1) ++ [V.ref t]))) c = some o := fun c o e z => by rw [upd_ne z]; exact e
        have tk : ∀ {c : Addr} {xs : List V}, SqT K H6 c xs → SqT K (upd H6 D (.lst ((ks.map fun p => V.ref p.1) ++ [V.ref t]))) c xs := by
          intro c xs h
          have eD := s6 _ _ e2
          rcases h with (h | ⟨o, h⟩) | h
          · exact .inl (.inl (hk6 _ _ h fun z => by rw [z, eD] at h; cases h))
          · exact .inl (.inr ⟨o, hk6 _ _ h fun z => by rw [z, eD] at h; cases h⟩)
          · exact .inr h
        refine ⟨ks ++ [(t, behindOf ps (i : Int))], ?_, ?_, fun q hq => ?_⟩
        · rw [List.map_append, e1, follow_next]; rfl
        · rw [upd_same, List.map_append]; rfl
        · rcases List.mem_append.mp hq with z | z
          · exact tk (sqT_same s6 (e3 q z))
          · rw [List.mem_singleton.mp z]
            refine tk (tupNew ?_)
            rw [et, show (0 + ((i : Nat) : Int)) = (i : Int) by omega]
    · obtain ⟨s5, ks, e1, e2, e3⟩ := z
      refine .inl ⟨D, _, rfl, lstNew e2, fun t nt => ?_⟩
      have sT : Same H' (upd H' t (.tup (ks.map fun p => V.ref p.1))) := same_upd nt
      have hpT := sT _ _ (s5 _ _ hp4)
      refine ⟨.ref p, rfl, p, C, dx, _, rfl, hpT, T.cl, T.nF, (by
        show (putF "steps" (V.ref b) (putF "mirrors" (V.ref a) [])).length < 1000
        show (if ("mirrors" : Str) = "steps" then [(("mirrors" : Str), V.ref b)] else (("mirrors" : Str), V.ref a) :: putF "steps" (V.ref b) []).length < 1000
        rw [if_neg n1]; show 2 < 1000; decide), ?_⟩
      refine q _ t (fun c o e z => ?_) upd_same ?_
      · rw [upd_ne z]
        exact sT _ _ (s5 _ _ (k4 _ _ (s02 _ _ e) z))
      · have tt : Tups K (upd H' t (.tup (ks.map fun p => V.ref p.1))) t (follow ns.length ps) := ⟨ks, e1, tupNew upd_same, fun q hq => sqT_same sT (e3 q hq)⟩
        exact tups_but hpT (fun c o e z => by rw [upd_ne z]; exact e) tt
end
end K10
set_option maxHeartbeats 4000000
namespace K10
open PySem PySem.Spec PyProof.Rows L2 RV
theorem mro_tuple : PySem.fastBuiltinMro "tuple" = some [.type "tuple", .type "object"] := by decide +kernel
theorem mro_none : PySem.fastBuiltinMro "NoneType" = some [.type "NoneType", .type "object"] := by decide +kernel
theorem mro_str : PySem.fastBuiltinMro "str" = some [.type "str", .type "object"] := by decide +kernel
theorem mro_int : PySem.fastBuiltinMro "int" = some [.type "int", .type "object"] := by decide +kernel
theorem kit_other {K : PySem.W.Frag} {C : Addr} {T : String} (h1 : (PySem.W.clsIn K C).isSome = true) (h2 : PySem.W.typeIn K (.ref C) = some (.type "type")) (h3 : PySem.fastBuiltinMro T = some [.type T, .type "object"]) : PySem.W.kitOne K (.type T) (.ref C) = some false := by
  unfold PySem.W.kitOne PySem.W.kitCls
  rw [if_neg (by simp)]
  show (if ((PySem.W.clsIn K C).isSome && PySem.W.typeIn K (.ref C) == some (.type "type")) = true then PySem.W.subIn K (.type T) (.ref C) else none) = some false
  rw [h1, h2, if_pos (by simp)]
  show (PySem.fastBuiltinMro T).map (·.contains (.ref C)) = some false
  rw [h3]
  simp
theorem kit_self {K : PySem.W.Frag} {C : Addr} : PySem.W.kitOne K (.ref C) (.ref C) = some true := by
  unfold PySem.W.kitOne
  simp
section
variable {P : Program} {w : World} {K : PySem.W.Frag} {mg : Str → Option Value} {base : Heap}
/-! ### __eq__ -/
theorem scEq : FnScope ["self", "other"] ["self", "other"] (defScope sEq) := ⟨rfl, rfl, rfl, by decide +kernel, rfl, by decide +kernel, by decide +kernel⟩
def spEq (K : PySem.W.Frag) (C : Addr) : Sp := fun vs H Q _ => ∃ (p : Addr) (v : V) (ns : List Int) (ps : List (List Int)), vs = [.ref p, v] ∧ RuleAt K C H p ns ps ∧
  ((∃ (q : Addr) (ns' : List Int) (ps' : List (List Int)), v = .ref q ∧ RuleAt K C H q ns' ps' ∧ Q (.bl (decide (ns = ns') && decide (ps = ps'))) H) ∨ (∃ t, TyX K H v t ∧ PySem.W.kitOne K t (.ref C) = some false ∧ Q (.bl false) H))
theorem ok_eq {f C : Addr} {fd : FuncData} (F : Fun K "__eq__" "Rule.__eq__" sEq f fd) (T : Txt K mg C) (B : Bare mg) : FnOk P w K mg base CX0 1 f fd ["self", "other"] (spEq K C) := by
  refine F.ok scEq (fun vs H Q E h => ?_) (fun cdv A outer s H vs Q E hr h => ?_)
  · obtain ⟨p, v, ns, ps, rfl, _⟩ := h
    rfl
  · obtain ⟨p, v, ns, ps, rfl, R1, h⟩ := h
    obtain ⟨dx, a, b, t, h1, h2, h3, h4⟩ := R1.ex
    refine ⟨_, pss_one (ps_ret (pe_and (pe_callB call_isi (by rfl) B.isinstance (by decide +kernel) (pa_cons (pv 1) (pa_cons (pe_glob (v := .ref C) rfl T.mgC rfl) pa_nil)))
      (pe_and (pe_cmpR (op_eqI1 hr.units) (pe_fld (pv 0) rfl) (pe_fld (pv 1) rfl) (nomark _)) (pe_one (pe_cmpR (op_eqTs hr.units) (pe_fld (pv 0) rfl) (pe_fld (pv 1) rfl) (nomark _)))))), ?_⟩
    rcases h with ⟨q, ns', ps', rfl, R2, k⟩ | ⟨ty, hty, hk, k⟩
    · obtain ⟨dx', a', b', t', g1, g2, g3, g4⟩ := R2.ex
      refine ⟨.ref q, rfl, .ref q, .ref C, _, _, true, rfl, .own C, .base (.ins g1 T.cl T.c1 T.c2 T.c3 T.c4), T.c5, true, rfl, iteT ?_⟩
      refine ⟨.ref p, rfl, p, C, dx, _, _, rfl, h1, T.cl, T.nM, flds_m _ _ _, .ref q, rfl, q, C, dx', _, _, rfl, g1, T.cl, T.nM, flds_m _ _ _, a, a', ns, ns', rfl, rfl, h2, g2, _, rfl, ?_⟩
      by_cases e : ns = ns'
      · rw [decide_eq_true e] at k ⊢
        refine iteT ⟨.ref p, rfl, p, C, dx, _, _, rfl, h1, T.cl, T.nS, flds_s _ _ _, .ref q, rfl, q, C, dx', _, _, rfl, g1, T.cl, T.nS, flds_s _ _ _, b, b', ps, ps', rfl, rfl, h3, g3, ?_⟩
        rw [Bool.true_and] at k
        exact k
      · rw [decide_eq_false e] at k ⊢
        rw [Bool.false_and] at k
        exact iteF k
    · exact ⟨v, rfl, v, .ref C, _, _, false, rfl, .own C, hty, hk, false, rfl, iteF k⟩
/-! ### marks, mirror, behind -/
theorem scMarksM : FnScope ["self"] ["self"] (defScope sMarksM) := ⟨rfl, rfl, rfl, by decide +kernel, rfl, by decide +kernel, by decide +kernel⟩
def spMarksM (K : PySem.W.Frag) (C : Addr) : Sp := fun vs H Q _ => ∃ (p : Addr) (ns : List Int) (ps : List (List Int)), vs = [.ref p] ∧ RuleAt K C H p ns ps ∧ Q (.int (ns.length : Int)) H
theorem ok_marksM {f C : Addr} {fd : FuncData} (F : Fun K "marks" "Rule.marks" sMarksM f fd) (T : Txt K mg C) (B : Bare mg) : FnOk P w K mg base CX0 1 f fd ["self"] (spMarksM K C) := by
  refine F.ok scMarksM (fun vs H Q E h => ?_) (fun cdv A outer s H vs Q E hr h => ?_)
  · obtain ⟨p, ns, ps, rfl, _⟩ := h
    rfl
  · obtain ⟨p, ns, ps, rfl, R1, k⟩ := h
    obtain ⟨dx, a, b, t, h1, h2, h3, h4⟩ := R1.ex
    refine ⟨_, pss_one (ps_ret (pe_callB call_len_seq (by rfl) B.len PySem.boot_len (pa_cons (pe_fld (pv 0) rfl) pa_nil))), ?_⟩
    refine ⟨.ref p, rfl, p, C, dx, _, _, rfl, h1, T.cl, T.nM, flds_m _ _ _, a, _, rfl, .inr h2, ?_⟩
    rw [List.length_map]; exact k
theorem scMirrorM : FnScope ["self", "mark"] ["self", "mark"] (defScope sMirrorM) := ⟨rfl, rfl, rfl, by decide +kernel, rfl, by decide +kernel, by decide +kernel⟩
def spMirrorM (K : PySem.W.Frag) (C : Addr) : Sp := fun vs H Q _ => ∃ (p : Addr) (ns : List Int) (ps : List (List Int)) (i : Nat) (x : Int), vs = [.ref p, .int (i : Int)] ∧ RuleAt K C H p ns ps ∧ ns[i]? = some x ∧ Q (.int x) H
theorem ok_mirrorM {f C : Addr} {fd : FuncData} (F : Fun K "mirror" "Rule.mirror" sMirrorM f fd) (T : Txt K mg C) : FnOk P w K mg base CX0 1 f fd ["self", "mark"] (spMirrorM K C) := by
  refine F.ok scMirrorM (fun vs H Q E h => ?_) (fun cdv A outer s H vs Q E hr h => ?_)
  · obtain ⟨p, ns, ps, i, x, rfl, _⟩ := h
    rfl
  · obtain ⟨p, ns, ps, i, x, rfl, R1, e, k⟩ := h
    obtain ⟨dx, a, b, t, h1, h2, h3, h4⟩ := R1.ex
    refine ⟨_, pss_one (ps_ret (pe_ix ix_tup (pe_fld (pv 0) rfl) (pv 1) (fun _ _ => rfl))), ?_⟩
    exact ⟨.ref p, rfl, p, C, dx, _, _, rfl, h1, T.cl, T.nM, flds_m _ _ _, .int (i : Int), rfl, a, _, _, _, rfl, rfl, h2, atI_nat (by rw [List.getElem?_map, e]; rfl), k⟩
theorem n4 : ¬ (("followers" : Str) = "steps") := by decide +kernel
theorem flds_f (a b t : Addr) : (flds a b t).lookup ("followers" : Str) = some (.ref t) := by
  unfold flds
  rw [lookup_putF, if_pos rfl]
theorem scBehindM : FnScope ["self", "mark"] ["self", "mark"] (defScope sBehindM) := ⟨rfl, rfl, rfl, by decide +kernel, rfl, by decide +kernel, by decide +kernel⟩
def spBehindM (K : PySem.W.Frag) (C : Addr) : Sp := fun vs H Q _ => ∃ (p : Addr) (ns : List Int) (ps : List (List Int)) (i : Nat), vs = [.ref p, .int (i : Int)] ∧ RuleAt K C H p ns ps ∧ i < ns.length ∧ ∀ c, SqT K H c ((behindOf ps (i : Int)).map V.int) → Q (.ref c) H
theorem ok_behindM {f C : Addr} {fd : FuncData} (F : Fun K "behind" "Rule.behind" sBehindM f fd) (T : Txt K mg C) : FnOk P w K mg base CX0 1 f fd ["self", "mark"] (spBehindM K C) := by
  refine F.ok scBehindM (fun vs H Q E h => ?_) (fun cdv A outer s H vs Q E hr h => ?_)
  · obtain ⟨p, ns, ps, i, rfl, _⟩ := h
    rfl
  · obtain ⟨p, ns, ps, i, rfl, R1, hi, k⟩ := h
    obtain ⟨dx, a, b, t, h1, h2, h3, h4⟩ := R1.ex
    obtain ⟨ks, e1, e2, e3⟩ := h4
    refine ⟨_, pss_one (ps_ret (pe_ix ix_tup (pe_fld (pv 0) rfl) (pv 1) (fun _ _ => rfl))), ?_⟩
    have hkl : ks.length = ns.length := by
      have z := congrArg List.length e1
      rw [List.length_map] at z
      rw [z]; unfold follow; rw [List.length_map, List.length_range]
    have hk : i < ks.length := by omega
    have e4 : (ks.map (·.2))[i]? = some ks[i].2 := by rw [List.getElem?_map, List.getElem?_eq_getElem hk]; rfl
    have e5 : ks[i].2 = behindOf ps (i : Int) := by
      rw [e1] at e4
      unfold follow at e4
      rw [List.getElem?_map, List.getElem?_range hi] at e4
      exact (Option.some.inj e4).symm
    refine ⟨.ref p, rfl, p, C, dx, _, _, rfl, h1, T.cl, T.nF, flds_f _ _ _, .int (i : Int), rfl, t, _, _, .ref ks[i].1, rfl, rfl, e2, atI_nat (by rw [List.getElem?_map, List.getElem?_eq_getElem hk]; rfl), k _ ?_⟩
    rw [← e5]; exact e3 _ (List.getElem_mem hk)
/-- what a call Rule(a, b) comes to -/
theorem make_rule {C a b x dx : Addr} {H : Hp} {Qh : Hp → Prop} {E : XK} {ns : List Int} {ps : List (List Int)} (hA : SqT K H a (ns.map V.int)) (hB : Tups K H b ps) (hM : Mir ns) (hS : Stp ns ps) (nx : H x = none) (nd : H dx = none) (ne : dx ≠ x)
    (k : ∀ H', Same H H' → RuleAt K C H' x ns ps → Qh H') :
    spInit K C (.ref x :: ([.ref a, .ref b] ++ [])) (upd (upd H dx (.own x)) x (.ins C dx [])) (fun v H2 => v = .non ∧ Qh H2) E := by
  have s0 : Same H (upd (upd H dx (.own x)) x (.ins C dx [])) := fun c o e => by
    rw [upd_ne (ne_of_none e nx), upd_ne (ne_of_none e nd)]; exact e
  refine ⟨x, dx, a, b, ns, ps, rfl, upd_same, sqT_same s0 hA, hB.same s0, hM, hS, fun H' t k1 k2 k3 => ⟨rfl, ?_⟩⟩
  have s1 : Same H H' := fun c o e => k1 c o (s0 c o e) (ne_of_none e nx)
  exact k H' s1 ⟨dx, a, b, t, k2, sqT_same s1 hA, hB.same s1, k3⟩
end
end K10
set_option maxHeartbeats 4000000
namespace RV
open PySem PySem.Spec PyProof.Rows L2
theorem nx_step {i : Nat} {v : V} {σ : L2.St} {H : Hp} {G : L2.St → Hp → Prop} (h : G (σ.set i (some v)) H) : gName i v σ H G := h
theorem seq_mid {t1 t2 : TS} {D : Ends} {σ : L2.St} {H : Hp} (J : L2.St → Hp → Prop) (h2 : ∀ σ H, J σ H → t2 D σ H) (h1 : (∀ σ H, J σ H → t2 D σ H) → tSeq t1 t2 D σ H) : tSeq t1 t2 D σ H := h1 h2
section
variable {X : Cx} {K : PySem.W.Frag}
theorem op_notInDK (h : X.K = K) (hu : X.A.units + 65 < cLine) : OpR X (compareOp .NotIn) (rNotInD K) := h ▸ op_notInD hu
theorem pe_backTK {e : Expr} {te : TE} {k : Nat} {p1 p2 p3 pos : Pos} (h : X.K = K) (he : PE X e te) : PE X (.Subscript e (.Slice none none (some (.UnaryOp .USub (.Constant (.int 1) k p1) p2)) p3) pos) (tBackT K te) := h ▸ pe_backT he
end
section
variable {X : Cx} {K : PySem.W.Frag}
theorem op_inDK (h : X.K = K) (hu : X.A.units + 65 < cLine) : OpR X (compareOp .In) (rInD K) := h ▸ op_inD hu
theorem ix_listK (h : X.K = K) : IxR X (rIxL K) := h ▸ ix_list
end
theorem take_filt {α : Type} {c : α → Bool} {ks : List α} {k : α} {i : Nat} (g : ks[i]? = some k) : (ks.take (i + 1)).filter c = (ks.take i).filter c ++ (if c k = true then [k] else []) := by
  rw [List.take_add_one, g]
  show (ks.take i ++ [k]).filter c = _
  rw [List.filter_append]
  by_cases e : c k = true
  · rw [if_pos e]; simp [e]
  · rw [if_neg e]; simp [e]
section
variable {K : PySem.W.Frag} {tt : TT} {te : TE} {f : Int → Bool} {σ : L2.St} {H1 : Hp} {a D : Addr} {v : Nat} {ns : List Int} {Qd : Hp → Prop}
/-- [x for x in t if ..], t a tuple of ints -/
theorem lc_filtT (hT : SqT K H1 a (ns.map V.int)) (hl : ns.length ≤ 1000) (nD : H1 D = none)
    (htest : ∀ x ∈ ns, ∀ H', Same H1 H' → ∀ A B : Hp → Prop, (∀ H2, Same H' H2 → if f x = true then A H2 else B H2) → tt ((wipe σ [v]).set v (some (.int x))) H' (fun b H3 => if b = true then A H3 else B H3))
    (hte : ∀ (x : Int) (H' : Hp) (Q : VK), Q (.int x) H' → te ((wipe σ [v]).set v (some (.int x))) H' Q)
    (hd : ∀ H', Same H1 H' → H' D = some (.lst ((ns.filter f).map V.int)) → Qd H') :
    ∃ W : Nat → Nat → Hp → Prop, (∃ m, W 0 m (upd H1 D (.lst []))) ∧ ∀ i m H, W i m H →
      ((Itt K a).stop i H ∧ Qd H) ∨ ((Itt K a).go i H ∧ ∃ Nx : Hp → Prop, (∀ H', Nx H' → ∃ m', m' < m ∧ W (i + 1) m' H') ∧ ∀ x H', (Itt K a).yld i H x H' → gName v x (wipe σ [v]) H' fun σ2 H2 => wipe σ2 [v] = wipe σ [v] ∧ tt σ2 H2 fun b H3 =>
        if b = true then te σ2 H3 fun y H4 => ∃ acc, H4 D = some (.lst acc) ∧ acc.length < sizeLine ∧ Nx (upd H4 D (.lst (acc ++ [y]))) else Nx H3) := by
  refine lc_tup (K := K) (a := a) (xs := ns.map V.int) (fun i H' => Same H1 H' ∧ H' D = some (.lst (((ns.take i).filter f).map V.int))) ⟨same_upd nD, upd_same⟩ (fun i H' _ p => sqT_same p.1 hT) (fun i x H' hx p => ?_) fun H' p => ?_
  · obtain ⟨k, g, rfl⟩ := map_at hx
    refine ⟨by simp [wipe, List.set_set], htest k (List.mem_of_getElem? g) H' p.1 _ _ fun H2 s2 => ?_⟩
    have s12 := p.1.trans s2
    have e2 := s2 _ _ p.2
    by_cases e : f k = true
    · rw [if_pos e]
      refine hte k H2 _ ⟨_, e2, ?_, fun b o z => ?_, ?_⟩
      · rw [List.length_map]
        exact few1 (Nat.le_trans (List.length_filter_le _ _) (by rw [List.length_take]; omega))
      · rw [upd_ne (ne_of_none z nD)]; exact s12 b o z
      · rw [upd_same, take_filt g, if_pos e, List.map_append]; rfl
    · rw [if_neg e]
      exact ⟨s12, by rw [take_filt g, if_neg e, List.append_nil]; exact e2⟩
  · rw [List.length_map, List.take_of_length_le (Nat.le_refl _)] at p
    exact hd H' p.1 p.2
/-- [x for x in l if ..], l a list of ints -/
theorem lc_filtL (hT : SqL K H1 a (ns.map V.int)) (hl : ns.length ≤ 1000) (nD : H1 D = none)
    (htest : ∀ x ∈ ns, ∀ H', Same H1 H' → ∀ A B : Hp → Prop, (∀ H2, Same H' H2 → if f x = true then A H2 else B H2) → tt ((wipe σ [v]).set v (some (.int x))) H' (fun b H3 => if b = true then A H3 else B H3))
    (hte : ∀ (x : Int) (H' : Hp) (Q : VK), Q (.int x) H' → te ((wipe σ [v]).set v (some (.int x))) H' Q)
    (hd : ∀ H', Same H1 H' → H' D = some (.lst ((ns.filter f).map V.int)) → Qd H') :
    ∃ W : Nat → Nat → Hp → Prop, (∃ m, W 0 m (upd H1 D (.lst []))) ∧ ∀ i m H, W i m H →
      ((Itl K a).stop i H ∧ Qd H) ∨ ((Itl K a).go i H ∧ ∃ Nx : Hp → Prop, (∀ H', Nx H' → ∃ m', m' < m ∧ W (i + 1) m' H') ∧ ∀ x H', (Itl K a).yld i H x H' → gName v x (wipe σ [v]) H' fun σ2 H2 => wipe σ2 [v] = wipe σ [v] ∧ tt σ2 H2 fun b H3 =>
        if b = true then te σ2 H3 fun y H4 => ∃ acc, H4 D = some (.lst acc) ∧ acc.length < sizeLine ∧ Nx (upd H4 D (.lst (acc ++ [y]))) else Nx H3) := by
  refine lc_list (K := K) (a := a) (xs := ns.map V.int) (fun i H' => Same H1 H' ∧ H' D = some (.lst (((ns.take i).filter f).map V.int))) ⟨same_upd nD, upd_same⟩ (fun i H' _ p => sqL_same p.1 hT) (fun i x H' hx p => ?_) fun H' p => ?_
  · obtain ⟨k, g, rfl⟩ := map_at hx
    refine ⟨by simp [wipe, List.set_set], htest k (List.mem_of_getElem? g) H' p.1 _ _ fun H2 s2 => ?_⟩
    have s12 := p.1.trans s2
    have e2 := s2 _ _ p.2
    by_cases e : f k = true
    · rw [if_pos e]
      refine hte k H2 _ ⟨_, e2, ?_, fun b o z => ?_, ?_⟩
      · rw [List.length_map]
        exact few1 (Nat.le_trans (List.length_filter_le _ _) (by rw [List.length_take]; omega))
      · rw [upd_ne (ne_of_none z nD)]; exact s12 b o z
      · rw [upd_same, take_filt g, if_pos e, List.map_append]; rfl
    · rw [if_neg e]
      exact ⟨s12, by rw [take_filt g, if_neg e, List.append_nil]; exact e2⟩
  · rw [List.length_map, List.take_of_length_le (Nat.le_refl _)] at p
    exact hd H' p.1 p.2
end
/-! ### x in l, of ints -/
theorem dpL {K : PySem.W.Frag} {H : Hp} {a : Addr} {ns : List Int} (h : SqL K H a (ns.map V.int)) : Dp K H (.ref a) (.list (ns.map PyData.int)) := .lst h (dpInts ns)
theorem shapedLI (ns : List Int) : SeqAt.shaped (.list (ns.map PyData.int)) = true := by
  have h1 : (PyData.list (ns.map PyData.int)).canLay0 = true := by simp only [PyData.canLay0]; exact lay_ints ns
  have h2 : (PyData.list (ns.map PyData.int)).depth ≤ 64 := by simp only [PyData.depth, dep_ints]; omega
  show ((PyData.list (ns.map PyData.int)).canLay0 && decide ((PyData.list (ns.map PyData.int)).depth ≤ 64)) = true
  rw [h1, decide_eq_true h2]; rfl
theorem shapedN (n : Int) : SeqAt.shaped (.int n) = true := by
  show ((PyData.int n).canLay0 && decide ((PyData.int n).depth ≤ 64)) = true
  simp [PyData.canLay0, PyData.depth]
theorem any_int (x : Int) : ∀ ns : List Int, (ns.map PyData.int).any (fun y => PyData.eqv y (.int x)) = decide (x ∈ ns)
  | [] => rfl
  | n :: r => by
    rw [List.map_cons, List.any_cons, any_int x r]
    by_cases e : x = n
    · subst e; simp [PyData.eqv]
    · have e' : ¬ n = x := fun z => e z.symm
      by_cases e2 : x ∈ r <;> simp [PyData.eqv, e, e', e2]
section
variable {X : Cx}
/-- n in t, t a tuple of ints -/
def rInTI (K : PySem.W.Frag) : R2 := fun x y H Q => ∃ (b : Addr) (n : Int) (ns : List Int), x = .int n ∧ y = .ref b ∧ SqT K H b (ns.map V.int) ∧ Q (.bl (decide (n ∈ ns))) H
theorem op_inTI (hu : X.A.units + 65 < cLine) : OpR X (compareOp .In) (rInTI X.K) := by
  intro pins s σ H x y v u Q I rx ry h
  obtain ⟨b, n, ns, rfl, rfl, h2, q⟩ := h
  obtain ⟨as, r1⟩ := Dp.reads I (.int n) (.int n) v (.int n) rx
  obtain ⟨bs, r2⟩ := Dp.reads I (dI ns) (.ref b) u (dpT h2) ry
  refine SeqAt.in_tuple_reads (xs := ns.map PyData.int) r2 r1 (lay_ints ns) (by simp [PyData.canLay0]) ?_ ⟨.bl _, H, I, rfl, ?_⟩
  · have := Nat.min_le_right (PyData.depthAll (ns.map PyData.int)) (PyData.int n).depth
    have e : (PyData.int n).depth = 0 := by simp [PyData.depth]
    omega
  · rw [any_int]; exact q
theorem op_inTIK {K : PySem.W.Frag} (h : X.K = K) (hu : X.A.units + 65 < cLine) : OpR X (compareOp .In) (rInTI K) := h ▸ op_inTI hu
end
end RV
namespace RV
open PySem L2
/-! ### who comes to whom by one step or more -/
inductive Rch (ps : List (List Int)) : Int → Int → Prop where
  | one {i j : Int} : [i, j] ∈ ps → Rch ps i j
  | more {i j k : Int} : Rch ps i j → [j, k] ∈ ps → Rch ps i k
theorem Rch.trans {ps : List (List Int)} {i j k : Int} (h : Rch ps i j) (g : Rch ps j k) : Rch ps i k := by
  induction g with
  | one e => exact .more h e
  | more _ e ih => exact .more ih e
theorem Rch.bound {ps : List (List Int)} {n : Int} (hb : ∀ p ∈ ps, Pr n p) {i j : Int} (h : Rch ps i j) : (0 ≤ i ∧ i < n) ∧ (0 ≤ j ∧ j < n) := by
  induction h with
  | one e =>
    obtain ⟨x, y, e2, hx, hy⟩ := hb _ e
    injection e2 with e3 e4
    injection e4 with e4 _
    subst e3 e4
    exact ⟨hx, hy⟩
  | more _ e ih =>
    obtain ⟨x, y, e2, hx, hy⟩ := hb _ e
    injection e2 with e3 e4
    injection e4 with e4 _
    subst e3 e4
    exact ⟨ih.1, hy⟩
/-- a lot that holds all right behind m and is closed -/
theorem rch_closed {ps : List (List Int)} {m : Int} {fs : List Int} (h1 : ∀ j, [m, j] ∈ ps → j ∈ fs) (h2 : ∀ x ∈ fs, ∀ j, [x, j] ∈ ps → j ∈ fs) {j : Int} (h : Rch ps m j) : j ∈ fs := by
  induction h with
  | one e => exact h1 _ e
  | more _ e ih => exact h2 _ ih _ e
noncomputable def rB (ps : List (List Int)) (i j : Int) : Bool := @decide (Rch ps i j) (Classical.propDecidable _)
theorem rB_iff {ps : List (List Int)} {i j : Int} : rB ps i j = true ↔ Rch ps i j := by
  unfold rB
  exact @decide_eq_true_iff _ (Classical.propDecidable _)
/-! ### numbers below n -/
def upN (n : Nat) : List Int := (List.range n).map fun (i : Nat) => (i : Int)
theorem upN_get {n k : Nat} (h : k < n) : (upN n)[k]? = some (k : Int) := by
  unfold upN
  rw [List.getElem?_map, List.getElem?_range h]; rfl
theorem upN_len (n : Nat) : (upN n).length = n := by unfold upN; rw [List.length_map, List.length_range]
theorem mem_upN {n : Nat} {x : Int} : x ∈ upN n ↔ 0 ≤ x ∧ x < (n : Int) := by
  unfold upN
  rw [List.mem_map]
  constructor
  · rintro ⟨k, hk, rfl⟩
    have := List.mem_range.mp hk
    omega
  · rintro ⟨h0, h1⟩
    exact ⟨x.toNat, List.mem_range.mpr (by omega), by omega⟩
theorem upN_rise (n : Nat) : (upN n).Pairwise (· < ·) := by
  unfold upN
  rw [List.pairwise_map]
  exact List.Pairwise.imp (fun {a b} (h : a < b) => by omega) List.pairwise_lt_range
/-! ### the lot of a mark -/
noncomputable def lotOf (ps : List (List Int)) (n : Nat) (m : Int) : List Int := (upN n).filter fun j => rB ps m j && rB ps j m
theorem mem_lot {ps : List (List Int)} {n : Nat} {m j : Int} : j ∈ lotOf ps n m ↔ (0 ≤ j ∧ j < (n : Int)) ∧ Rch ps m j ∧ Rch ps j m := by
  unfold lotOf
  rw [List.mem_filter, mem_upN, Bool.and_eq_true, rB_iff, rB_iff]
theorem lot_rise (ps : List (List Int)) (n : Nat) (m : Int) : (lotOf ps n m).Pairwise (· < ·) := (upN_rise n).filter _
theorem lot_len (ps : List (List Int)) (n : Nat) (m : Int) : (lotOf ps n m).length ≤ n := by
  have := List.length_filter_le (fun j => rB ps m j && rB ps j m) (upN n)
  rw [upN_len] at this
  exact this
theorem lot_eq {ps : List (List Int)} {n : Nat} {m j : Int} (h : j ∈ lotOf ps n m) : lotOf ps n j = lotOf ps n m := by
  obtain ⟨_, h1, h2⟩ := mem_lot.mp h
  unfold lotOf
  refine List.filter_congr fun x _ => ?_
  rw [Bool.eq_iff_iff, Bool.and_eq_true, Bool.and_eq_true, rB_iff, rB_iff, rB_iff, rB_iff]
  exact ⟨fun ⟨a, b⟩ => ⟨h1.trans a, b.trans h2⟩, fun ⟨a, b⟩ => ⟨h2.trans a, b.trans h1⟩⟩
theorem lot_self {ps : List (List Int)} {n : Nat} {m : Int} (hm : 0 ≤ m ∧ m < (n : Int)) (h : Rch ps m m) : m ∈ lotOf ps n m := mem_lot.mpr ⟨hm, h, h⟩
theorem lot_none {ps : List (List Int)} {n : Nat} {m : Int} (h : ¬ Rch ps m m) : lotOf ps n m = [] := by
  refine List.eq_nil_iff_forall_not_mem.mpr fun j hj => ?_
  obtain ⟨_, h1, h2⟩ := mem_lot.mp hj
  exact h (h1.trans h2)
theorem lot_some {ps : List (List Int)} {n : Nat} {m j : Int} (h : j ∈ lotOf ps n m) : Rch ps m m := by
  obtain ⟨_, h1, h2⟩ := mem_lot.mp h
  exact h1.trans h2
/-! ### the parts -/
noncomputable def isHead (ps : List (List Int)) (n : Nat) (m : Int) : Bool := decide ((lotOf ps n m).head? = some m)
noncomputable def partsOf (ps : List (List Int)) (n : Nat) : List (List Int) := ((upN n).filter (isHead ps n)).map (lotOf ps n)
theorem mem_parts {ps : List (List Int)} {n : Nat} {p : List Int} : p ∈ partsOf ps n ↔ ∃ m : Int, (0 ≤ m ∧ m < (n : Int)) ∧ (lotOf ps n m).head? = some m ∧ p = lotOf ps n m := by
  unfold partsOf isHead
  rw [List.mem_map]
  constructor
  · rintro ⟨m, hm, rfl⟩
    obtain ⟨h1, h2⟩ := List.mem_filter.mp hm
    exact ⟨m, mem_upN.mp h1, of_decide_eq_true h2, rfl⟩
  · rintro ⟨m, h1, h2, rfl⟩
    exact ⟨m, List.mem_filter.mpr ⟨mem_upN.mpr h1, decide_eq_true h2⟩, rfl⟩
theorem lot_part {ps : List (List Int)} {n : Nat} {m j : Int} (h : j ∈ lotOf ps n m) : lotOf ps n m ∈ partsOf ps n := by
  cases e : lotOf ps n m with
  | nil => rw [e] at h; cases h
  | cons x r =>
    have hx : x ∈ lotOf ps n m := by rw [e]; exact List.mem_cons_self ..
    have ex := lot_eq hx
    refine mem_parts.mpr ⟨x, (mem_lot.mp hx).1, ?_, ?_⟩
    · rw [ex, e]; rfl
    · rw [ex, e]
theorem part_ne {ps : List (List Int)} {n : Nat} {p : List Int} (h : p ∈ partsOf ps n) : p ≠ [] := by
  obtain ⟨m, _, h2, rfl⟩ := mem_parts.mp h
  intro e
  rw [e] at h2; cases h2
theorem part_lot {ps : List (List Int)} {n : Nat} {p : List Int} {x : Int} (h : p ∈ partsOf ps n) (hx : x ∈ p) : lotOf ps n x = p := by
  obtain ⟨m, _, _, rfl⟩ := mem_parts.mp h
  exact lot_eq hx
def hd0 (l : List Int) : Int := l.headD 0
theorem parts_rise (ps : List (List Int)) (n : Nat) : (partsOf ps n).Pairwise fun p q => hd0 p < hd0 q := by
  unfold partsOf
  rw [List.pairwise_map]
  refine List.Pairwise.imp_of_mem (fun {a b} ha hb (h : a < b) => ?_) ((upN_rise n).filter _)
  have ea : (lotOf ps n a).head? = some a := of_decide_eq_true (List.mem_filter.mp ha).2
  have eb : (lotOf ps n b).head? = some b := of_decide_eq_true (List.mem_filter.mp hb).2
  unfold hd0
  rw [List.headD_eq_head?_getD, List.headD_eq_head?_getD, ea, eb]
  exact h
theorem parts_nodup (ps : List (List Int)) (n : Nat) : (partsOf ps n).Nodup := (parts_rise ps n).imp fun {a b} h e => by rw [e] at h; omega
theorem parts_len (ps : List (List Int)) (n : Nat) : (partsOf ps n).length ≤ n := by
  unfold partsOf
  rw [List.length_map]
  have := List.length_filter_le (isHead ps n) (upN n)
  rw [upN_len] at this
  exact this
/-- of two lots unlike heads tell which is ahead -/
theorem part_hd {ps : List (List Int)} {n : Nat} {p q : List Int} (hp : p ∈ partsOf ps n) (hq : q ∈ partsOf ps n) (h : hd0 p = hd0 q) : p = q := by
  obtain ⟨a, _, ea, rfl⟩ := mem_parts.mp hp
  obtain ⟨b, _, eb, rfl⟩ := mem_parts.mp hq
  unfold hd0 at h
  rw [List.headD_eq_head?_getD, List.headD_eq_head?_getD, ea, eb] at h
  have h' : a = b := h
  rw [h']
/-! ### the table that is gone on with, mark by mark -/
def Wsh (ps : List (List Int)) : Nat → Int → Int → Prop
  | 0, i, j => [i, j] ∈ ps
  | k + 1, i, j => Wsh ps k i j ∨ (Wsh ps k i (k : Int) ∧ Wsh ps k (k : Int) j)
theorem Wsh.up {ps : List (List Int)} {i j : Int} (h : [i, j] ∈ ps) : ∀ k, Wsh ps k i j
  | 0 => h
  | k + 1 => .inl (Wsh.up h k)
theorem Wsh.rch {ps : List (List Int)} : ∀ {k : Nat} {i j : Int}, Wsh ps k i j → Rch ps i j
  | 0, _, _, h => .one h
  | k + 1, _, _, .inl h => Wsh.rch h
  | k + 1, _, _, .inr h => (Wsh.rch h.1).trans (Wsh.rch h.2)
theorem Wsh.amid {ps : List (List Int)} : ∀ (k : Nat) (m : Nat) (i j : Int), m < k → Wsh ps k i (m : Int) → Wsh ps k (m : Int) j → Wsh ps k i j
  | 0, _, _, _, h, _, _ => absurd h (Nat.not_lt_zero _)
  | k + 1, m, i, j, h, h1, h2 => by
    by_cases e : m = k
    · subst e
      have a1 : Wsh ps m i (m : Int) := h1.elim id fun z => z.1
      have a2 : Wsh ps m (m : Int) j := h2.elim id fun z => z.2
      exact .inr ⟨a1, a2⟩
    · have hm : m < k := by omega
      have T := fun i j => Wsh.amid (ps := ps) k m i j hm
      rcases h1 with h1 | ⟨p1, p2⟩
      · rcases h2 with h2 | ⟨q1, q2⟩
        · exact .inl (T _ _ h1 h2)
        · exact .inr ⟨T _ _ h1 q1, q2⟩
      · rcases h2 with h2 | ⟨q1, q2⟩
        · exact .inr ⟨p1, T _ _ p2 h2⟩
        · exact .inr ⟨p1, q2⟩
theorem rch_wsh {ps : List (List Int)} {n : Nat} (hb : ∀ p ∈ ps, Pr (n : Int) p) {i j : Int} (h : Rch ps i j) : Wsh ps n i j := by
  induction h with
  | one e => exact Wsh.up e n
  | @more j k _ e ih =>
    have b := (Rch.bound hb (.one e)).1
    have ej : j = ((j.toNat : Nat) : Int) := by omega
    rw [ej] at ih e
    exact Wsh.amid n j.toNat _ _ (by omega) ih (Wsh.up e n)
end RV
set_option maxHeartbeats 4000000
namespace K10
open PySem PySem.Spec PyProof.Rows L2 RV
theorem flds_no (a b t : Addr) {m : Str} (h1 : ¬ m = "mirrors") (h2 : ¬ m = "steps") (h3 : ¬ m = "followers") : (flds a b t).lookup m = none := by
  unfold flds
  rw [lookup_putF, if_neg h3, lookup_putF, if_neg h2, lookup_putF, if_neg h1]
  all_goals rfl
theorem mem_behind {n : Int} {ps : List (List Int)} (hp : ∀ p ∈ ps, Pr n p) {m j : Int} : j ∈ behindOf ps m ↔ [m, j] ∈ ps := by
  unfold behindOf
  rw [List.mem_map]
  constructor
  · rintro ⟨p, h1, h2⟩
    obtain ⟨h3, h4⟩ := List.mem_filter.mp h1
    obtain ⟨x, y, rfl, _⟩ := hp p h3
    have e1 : x = m := of_decide_eq_true h4
    have e2 : y = j := h2
    subst e1 e2
    exact h3
  · intro h
    exact ⟨[m, j], List.mem_filter.mpr ⟨h, decide_eq_true rfl⟩, rfl⟩
theorem behind_nodup {n : Int} {ps : List (List Int)} (hp : ∀ p ∈ ps, Pr n p) (nd : ps.Nodup) (m : Int) : (behindOf ps m).Nodup := by
  unfold behindOf
  refine List.pairwise_map.mpr (List.Pairwise.imp_of_mem (fun {a b} ha hb ne e => ?_) (nd.filter _))
  obtain ⟨a1, a2⟩ := List.mem_filter.mp ha
  obtain ⟨b1, b2⟩ := List.mem_filter.mp hb
  obtain ⟨x, y, rfl, _⟩ := hp a a1
  obtain ⟨x', y', rfl, _⟩ := hp b b1
  have e1 : x = m := of_decide_eq_true a2
  have e2 : x' = m := of_decide_eq_true b2
  have e3 : y = y' := e
  exact ne (by rw [e1, e2, e3])
section
variable {P : Program} {w : World} {K : PySem.W.Frag} {mg : Str → Option Value} {base : Heap}
/-! ### led_to -/
theorem scLed : FnScope ["rule", "mark", "found", "at", "fresh", "other"] ["rule", "mark"] (defScope sLed) := ⟨rfl, rfl, rfl, by decide +kernel, rfl, by decide +kernel, by decide +kernel⟩
def spLed (K : PySem.W.Frag) (C : Addr) : Sp := fun vs H Q _ => ∃ (r : Addr) (m : Int) (ns : List Int) (ps : List (List Int)), vs = [.ref r, .int m] ∧ RuleAt K C H r ns ps ∧ Mir ns ∧ Stp ns ps ∧ (0 ≤ m ∧ m < (ns.length : Int)) ∧
  ∀ (H' : Hp) (c : Addr) (fs : List Int), Same H H' → H c = none → H' c = some (.lst (fs.map V.int)) → fs.length ≤ 8 → (∀ j, j ∈ fs ↔ Rch ps m j) → Q (.ref c) H'
def atOf : L2.St → Nat
  | [_, _, _, some (.int a), _, _] => 8 - a.toNat
  | _ => 0
theorem ok_led {f C fB : Addr} {fd dB : FuncData} (F : Fun K "led_to" "led_to" sLed f fd) (T : Txt K mg C) (B : Bare mg)
    (FB : Fun K "behind" "Rule.behind" sBehindM fB dB) (bB : Binds K dB ["self", "mark"] []) (mB : Meth K C "behind" fB) : FnOk P w K mg base CX0 2 f fd ["rule", "mark"] (spLed K C) := by
  have GB : FnOk P w K mg base CX0 1 fB dB ["self", "mark"] (spBehindM K C) := ok_behindM FB T
  refine F.ok scLed (fun vs H Q E h => ?_) (fun cdv A outer s H vs Q E hr h => ?_)
  · obtain ⟨r, m, ns, ps, rfl, _⟩ := h
    rfl
  · obtain ⟨r, m, ns, ps, rfl, R, M, S, hm, q⟩ := h
    have hu5 := un65 hr
    refine ⟨_, pss_cons (ps_set (i := 2) scLed.nd rfl (Or.inr rfl) (pe_callTy call_list_of (by rfl) B.list boot_list (pa_cons (pe_meth (pv 0) T.cl mB GB hr bB .nil pass0 (pa_cons (pv 1) pa_nil)) pa_nil)))
      (pss_cons (ps_set (i := 3) scLed.nd rfl (Or.inl rfl) pe_int)
      (pss_cons (ps_while PassesOwn.never (pt_cmpR op_lt (pv 3) (pe_callB call_len_seq (by rfl) B.len PySem.boot_len (pa_cons (pv 2) pa_nil)) (nomark _))
        (pss_cons (ps_setLc (i := 4) (own := [("other", 5)]) (g := gName 5) rfl scLed.nd rfl rfl (by rfl) (pi_tup (pe_meth (pv 0) T.cl mB GB hr bB .nil pass0 (pa_cons (pe_ix ix_list (pv 2) (pv 3) (fun _ _ => rfl)) pa_nil))) (blkOk_by (N := ["rule", "mark", "found", "at", "fresh", "other"]) (sc := defScope sLed) (by decide +kernel))
            (fun _ _ _ _ _ => pg_name (i := 5) scLed.nd rfl (Or.inl rfl)) (fun _ _ _ _ _ => pts_one (pt_cmpR (op_notInDK (K := K) rfl hu5) (pv 5) (pv 2) (by rfl))) (fun _ _ _ _ _ => pv 5))
        (pss_cons (ps_expr (pe_bm PySem.F.plainAttrs_list PySem.F.slot_list_extend PySem.F.type_list_extend mt_extend (pv 2) (pa_cons (pv 4) pa_nil)))
        (pss_one (ps_aug (i := 3) scLed.nd rfl (.inl rfl) pe_int ip_add)))))
      (pss_one (ps_ret (pv 2))))), ?_⟩
    obtain ⟨dx, a0, b0, t0, g1, g2, g3, g4⟩ := R.ex
    have fno := flds_no a0 b0 t0 (m := "behind") (by decide +kernel) (by decide +kernel) (by decide +kernel)
    have h8 := M.few
    have hP : ∀ p ∈ ps, Pr (ns.length : Int) p := fun p hp => S.pair p hp
    -- found = list(rule.behind(mark))
    refine ⟨.ref r, rfl, r, dx, _, rfl, g1, fno, .int m, rfl, r, ns, ps, m.toNat, by rw [Int.toNat_of_nonneg hm.1]; rfl, R, by omega, fun c hc => ?_⟩
    rw [Int.toNat_of_nonneg hm.1] at hc
    refine ⟨c, _, rfl, .inr hc, fun F0 nF => ?_⟩
    have small : ∀ fs : List Int, fs.Nodup → (∀ x ∈ fs, Rch ps m x) → fs.length ≤ 8 := fun fs nd hr => by
      have z := nodup_le (us := upN ns.length) nd fun x hx => mem_upN.mpr (Rch.bound hP (hr x hx)).2
      rw [upN_len] at z; omega
    refine while_by (fun σ H' => ∃ (fs : List Int) (a : Nat) (y4 y5 : Option V), σ = [some (.ref r), some (.int m), some (.ref F0), some (.int (a : Int)), y4, y5] ∧ Same H H' ∧ H' F0 = some (.lst (fs.map V.int)) ∧ fs.Nodup ∧ (∀ x ∈ fs, Rch ps m x) ∧ (∀ j, [m, j] ∈ ps → j ∈ fs) ∧ (∀ (k : Nat) (x : Int), k < a → fs[k]? = some x → ∀ j, [x, j] ∈ ps → j ∈ fs) ∧ a ≤ fs.length)
      (fun σ _ => atOf σ) ?_ ?_ ?_
    · exact ⟨behindOf ps m, 0, none, none, rfl, same_upd nF, upd_same, behind_nodup hP S.nd m, fun x hx => .one ((mem_behind hP).mp hx), fun j hj => (mem_behind hP).mpr hj, fun k x hk => absurd hk (Nat.not_lt_zero _), Nat.zero_le _⟩
    · rintro σ H1 ⟨fs, a, y4, y5, rfl, s1, eF, nd, rc, cl, up, hle⟩
      have hl8 := small fs nd rc
      refine ⟨.int (a : Int), rfl, .ref F0, rfl, F0, _, rfl, .inl (lstNew eF), _, _, rfl, rfl, _, rfl, ite2 (fun hlt => ?_) (fun hge => ?_)⟩
      · have hlt : a < fs.length := by
          have z := of_decide_eq_true hlt
          rw [List.length_map] at z; omega
        obtain ⟨x, gx⟩ : ∃ x, fs[a]? = some x := ⟨_, List.getElem?_eq_getElem hlt⟩
        have hx := (Rch.bound hP (rc x (List.mem_of_getElem? gx))).2
        have R1 := R.same s1
        refine ⟨.ref r, rfl, r, dx, _, rfl, s1 _ _ g1, fno, .ref F0, rfl, .int (a : Int), rfl, F0, _, _, .int x, rfl, rfl, lstNew eF, atI_nat (by rw [List.getElem?_map, gx]; rfl), ?_⟩
        refine ⟨r, ns, ps, x.toNat, by rw [Int.toNat_of_nonneg hx.1]; rfl, R1, by omega, fun c2 hc2 => ?_⟩
        rw [Int.toNat_of_nonneg hx.1] at hc2
        refine ⟨c2, rfl, ⟨_, hc2⟩, fun D nD => ?_⟩
        have hbl : (behindOf ps x).length ≤ 64 := by
          have := behind_len ps x
          have := S.few
          omega
        refine lc_filtT (f := fun y => decide (y ∉ fs)) hc2 (by omega) nD (fun y hy H' s' A B h => ?_) (fun y H' Q h => ⟨.int y, rfl, h⟩) fun H2 s2 eD => ?_
        · refine ⟨.int y, rfl, .ref F0, rfl, .int y, fs.map PyData.int, .int y, dpL (lstNew (s' _ _ eF)), shapedN y, shapedLI fs, _, rfl, ?_⟩
          rw [any_int, ← decide_not]
          exact h H' (Same.refl H')
        · have eF2 := s2 _ _ eF
          have nF2 : ∀ H' o, Same H H' → Same H (upd H' F0 o) := fun H' o s b u e => by
            rw [upd_ne (ne_of_none e nF)]; exact s b u e
          have fl : ((behindOf ps x).filter fun y => decide (y ∉ fs)).length ≤ 64 := Nat.le_trans (List.length_filter_le _ _) hbl
          refine ⟨.ref F0, rfl, .inl ⟨rfl, _, lstNew eF2⟩, .ref D, rfl, F0, D, _, _, rfl, rfl, eF2, eD, ?_, ?_⟩
          · rw [List.length_map, List.length_map]; exact Nat.le_of_lt (few1 (by omega))
          refine ⟨.int (a : Int), rfl, _, _, rfl, rfl, ?_⟩
          have mem2 : ∀ j, j ∈ fs ++ (behindOf ps x).filter (fun y => decide (y ∉ fs)) ↔ j ∈ fs ∨ [x, j] ∈ ps := fun j => by
            rw [List.mem_append, List.mem_filter, mem_behind hP]
            constructor
            · rintro (z | z)
              · exact .inl z
              · exact .inr z.1
            · rintro (z | z)
              · exact .inl z
              · by_cases e : j ∈ fs
                · exact .inl e
                · exact .inr ⟨z, decide_eq_true e⟩
          refine ⟨⟨fs ++ (behindOf ps x).filter (fun y => decide (y ∉ fs)), a + 1, _, _, rfl, nF2 _ _ (s1.trans s2), ?_, ?_, ?_, ?_, ?_, ?_⟩, ?_⟩
          · rw [upd_same, List.map_append]
          · rw [List.nodup_append]
            refine ⟨nd, (behind_nodup hP S.nd x).filter _, fun u hu v hv e => ?_⟩
            subst e
            exact of_decide_eq_true (List.mem_filter.mp hv).2 hu
          · intro j hj
            rcases (mem2 j).mp hj with z | z
            · exact rc j z
            · exact .more (rc x (List.mem_of_getElem? gx)) z
          · exact fun j hj => (mem2 j).mpr (.inl (cl j hj))
          · intro k z hk hz j hj
            refine (mem2 j).mpr ?_
            by_cases e : k = a
            · subst e
              rw [List.getElem?_append_left hlt, gx] at hz
              cases hz
              exact .inr hj
            · rw [List.getElem?_append_left (by omega)] at hz
              exact .inl (up k z (by omega) hz j hj)
          · rw [List.length_append]; omega
          · show 8 - ((a : Int) + 1).toNat < 8 - ((a : Int)).toNat
            omega
      · have hge : fs.length ≤ a := by
          have z : ¬ ((a : Int) < ((fs.map V.int).length : Int)) := fun z => hge (decide_eq_true z)
          rw [List.length_map] at z; omega
        refine ⟨.ref F0, rfl, q H1 F0 fs s1 nF eF hl8 fun j => ⟨rc j, fun h => ?_⟩⟩
        refine rch_closed cl (fun x hx j hj => ?_) h
        obtain ⟨k, hk, e⟩ := List.getElem_of_mem hx
        exact up k x (by omega) (by rw [List.getElem?_eq_getElem hk, e]) j hj
    · intro σ H1 Q1 Q2 hq h
      obtain ⟨x, e1, y, e2, p, l, e3, e4, i, j, e5, e6, b, e7, h⟩ := h
      exact ⟨x, e1, y, e2, p, l, e3, e4, i, j, e5, e6, b, e7, hq _ _ h⟩
end
end K10
namespace RV
open PySem PySem.Spec PyProof.Rows L2
/-! ### what repr asks of tuples of pairs -/
theorem small_log {i : Int} (h : i.natAbs < 10 ^ 12) : i.natAbs.log2 < 1920 := by
  rcases Nat.eq_zero_or_pos i.natAbs with e | e
  · rw [e]; decide
  · have h1 : i.natAbs < 2 ^ 64 := Nat.lt_of_lt_of_le h (by decide)
    have h2 : i.natAbs.log2 < 64 := (Nat.log2_lt (by omega)).mpr h1
    omega
theorem show_ints : ∀ ns : List Int, (∀ n ∈ ns, n.natAbs < 10 ^ 12) → PyData.showableAll (ns.map PyData.int) = true
  | [], _ => by simp [PyData.showableAll]
  | n :: r, h => by
    have h1 := small_log (h n (List.mem_cons_self ..))
    have h2 := show_ints r fun m hm => h m (List.mem_cons_of_mem _ hm)
    simp [PyData.showableAll, PyData.showable, h1, h2]
theorem show_dIs : ∀ ps : List (List Int), (∀ p ∈ ps, ∀ n ∈ p, n.natAbs < 10 ^ 12) → PyData.showableAll (ps.map dI) = true
  | [], _ => by simp [PyData.showableAll]
  | p :: r, h => by
    have h1 := show_ints p (h p (List.mem_cons_self ..))
    have h2 := show_dIs r fun m hm => h m (List.mem_cons_of_mem _ hm)
    have h3 : (dI p).showable = true := by simp only [dI, PyData.showable]; exact h1
    simp [PyData.showableAll, h3, h2]
theorem short_dIs : ∀ ps : List (List Int), (∀ p ∈ ps, ∀ n ∈ p, n.natAbs < 10 ^ 12) → PyData.intsShortAll 13 (ps.map dI) = true
  | [], _ => by simp [PyData.intsShortAll]
  | p :: r, h => by
    have h1 := PyData.intsShortAll_ints p (h p (List.mem_cons_self ..))
    have h2 := short_dIs r fun m hm => h m (List.mem_cons_of_mem _ hm)
    have h3 : (dI p).intsShort 13 = true := by simp only [dI, PyData.intsShort]; exact h1
    simp [PyData.intsShortAll, h3, h2]
theorem bulk_ints : ∀ ns : List Int, PyData.bulkAll (ns.map PyData.int) = ns.length
  | [] => by simp [PyData.bulkAll]
  | n :: r => by simp [PyData.bulkAll, PyData.bulk, bulk_ints r]; omega
theorem bulk_dIs : ∀ ps : List (List Int), (∀ p ∈ ps, p.length ≤ 2) → PyData.bulkAll (ps.map dI) ≤ 3 * ps.length
  | [], _ => by simp [PyData.bulkAll]
  | p :: r, h => by
    have h1 : (dI p).bulk = p.length := by simp only [dI, PyData.bulk, bulk_ints]
    have h2 := bulk_dIs r fun m hm => h m (List.mem_cons_of_mem _ hm)
    have h3 := h p (List.mem_cons_self ..)
    simp only [List.map_cons, PyData.bulkAll, h1, List.length_cons]
    omega
/-- (ps, os), two tuples of pairs -/
def d2 (ps os : List (List Int)) : PyData := .tuple [dTT ps, dTT os]
theorem pr_small {b : Int} (hb : b ≤ 64) {ps : List (List Int)} (h : ∀ p ∈ ps, Pr b p) : ∀ p ∈ ps, ∀ n ∈ p, n.natAbs < 10 ^ 12 := fun p hp n hn => by
  obtain ⟨x, y, rfl, hx, hy⟩ := h p hp
  simp only [List.mem_cons, List.not_mem_nil, or_false] at hn
  rcases hn with rfl | rfl <;> omega
theorem pr_len {b : Int} {ps : List (List Int)} (h : ∀ p ∈ ps, Pr b p) : ∀ p ∈ ps, p.length ≤ 2 := fun p hp => by
  obtain ⟨x, y, rfl, _⟩ := h p hp
  simp
structure Reprs (ps os : List (List Int)) : Prop where
  h1 : (d2 ps os).showable = true
  h2 : (d2 ps os).hasDict = false
  h3 : (d2 ps os).depth ≤ 64
  h4 : (d2 ps os).shown.length ≤ sizeLine
theorem reprs {b c : Int} (hb : b ≤ 64) (hc : c ≤ 64) {ps os : List (List Int)} (h : ∀ p ∈ ps, Pr b p) (h' : ∀ p ∈ os, Pr c p) (l1 : ps.length ≤ 1000) (l2 : os.length ≤ 1000) : Reprs ps os := by
  have lay : (d2 ps os).canLay0 = true := by
    simp only [d2, dTT, PyData.canLay0, PyData.canLayAll0, lay_dI, Bool.and_self]
  refine ⟨?_, PyData.hasDict_of_canLay _ lay, ?_, ?_⟩
  · simp only [d2, dTT, PyData.showable, PyData.showableAll, show_dIs ps (pr_small hb h), show_dIs os (pr_small hc h'), Bool.and_self]
  · have h1 := dep_dI ps
    have h2 := dep_dI os
    simp only [d2, dTT, PyData.depth, PyData.depthAll]
    omega
  · refine PyData.shown_fits_bulk (B := 13) (by decide) (by decide) (PyData.leavesShort_of_canLay0 13 _ lay ?_) ?_
    · simp only [d2, dTT, PyData.intsShort, PyData.intsShortAll, short_dIs ps (pr_small hb h), short_dIs os (pr_small hc h'), Bool.and_self]
    · have h1 := bulk_dIs ps (pr_len h)
      have h2 := bulk_dIs os (pr_len h')
      simp only [d2, dTT, PyData.bulk, PyData.bulkAll]
      omega
theorem d2_dp {K : PySem.W.Frag} {H : Hp} {T a b : Addr} {ps os : List (List Int)} (h : H T = some (.tup [.ref a, .ref b])) (h1 : Tups K H a ps) (h2 : Tups K H b os) : Dp K H (.ref T) (d2 ps os) :=
  .tup (.inl (.inl h)) (.cons h1.dp (.cons h2.dp .nil))
end RV
namespace RV
open PySem PySem.Spec PyProof.Rows L2
/-- (ns, ps): mirrors and steps -/
def d1 (ns : List Int) (ps : List (List Int)) : PyData := .tuple [dI ns, dTT ps]
structure Shows (d : PyData) : Prop where
  h1 : d.showable = true
  h2 : d.hasDict = false
  h3 : d.depth ≤ 64
  h4 : d.shown.length ≤ sizeLine
theorem shows_d1 {b : Int} (hb : b ≤ 64) {ns : List Int} {ps : List (List Int)} (hn : ∀ n ∈ ns, n.natAbs < 10 ^ 12) (ln : ns.length ≤ 1000) (h : ∀ p ∈ ps, Pr b p) (l1 : ps.length ≤ 1000) : Shows (d1 ns ps) := by
  have lay : (d1 ns ps).canLay0 = true := by
    simp only [d1, dTT, PyData.canLay0, PyData.canLayAll0, lay_dI, dI_lay, Bool.and_self]
  have i1 : (dI ns).showable = true := by simp only [dI, PyData.showable]; exact show_ints ns hn
  have i2 : (dI ns).intsShort 13 = true := by simp only [dI, PyData.intsShort]; exact PyData.intsShortAll_ints ns hn
  have i3 : (dI ns).bulk = ns.length := by simp only [dI, PyData.bulk, bulk_ints]
  refine ⟨?_, PyData.hasDict_of_canLay _ lay, ?_, ?_⟩
  · simp only [d1, dTT, PyData.showable, PyData.showableAll, i1, show_dIs ps (pr_small hb h), Bool.and_self]
  · have h1 := dep_dI ps
    simp only [d1, dTT, PyData.depth, PyData.depthAll, dI_dep]
    omega
  · refine PyData.shown_fits_bulk (B := 13) (by decide) (by decide) (PyData.leavesShort_of_canLay0 13 _ lay ?_) ?_
    · simp only [d1, dTT, PyData.intsShort, PyData.intsShortAll, i2, short_dIs ps (pr_small hb h), Bool.and_self]
    · have h1 := bulk_dIs ps (pr_len h)
      simp only [d1, dTT, PyData.bulk, PyData.bulkAll, i3]
      omega
theorem shows_dI {ns : List Int} (hn : ∀ n ∈ ns, n.natAbs < 10 ^ 12) (ln : ns.length ≤ 1000) : Shows (dI ns) := by
  have i3 : (dI ns).bulk = ns.length := by simp only [dI, PyData.bulk, bulk_ints]
  refine ⟨by simp only [dI, PyData.showable]; exact show_ints ns hn, PyData.hasDict_of_canLay _ (dI_lay ns), by rw [dI_dep]; decide, ?_⟩
  refine PyData.shown_fits_bulk (B := 13) (by decide) (by decide) (PyData.leavesShort_of_canLay0 13 _ (dI_lay ns) ?_) (by rw [i3]; omega)
  simp only [dI, PyData.intsShort]; exact PyData.intsShortAll_ints ns hn
theorem d1_dp {K : PySem.W.Frag} {H : Hp} {T a b : Addr} {ns : List Int} {ps : List (List Int)} (h : H T = some (.tup [.ref a, .ref b])) (h1 : SqT K H a (ns.map V.int)) (h2 : Tups K H b ps) : Dp K H (.ref T) (d1 ns ps) :=
  .tup (.inl (.inl h)) (.cons (dpT h1) (.cons h2.dp .nil))
theorem shaped_d1 (ns : List Int) (ps : List (List Int)) : SeqAt.shaped (d1 ns ps) = true := by
  have h1 := dep_dI ps
  have e : (d1 ns ps).depth ≤ 64 := by simp only [d1, dTT, PyData.depth, PyData.depthAll, dI_dep]; omega
  show ((d1 ns ps).canLay0 && decide ((d1 ns ps).depth ≤ 64)) = true
  rw [decide_eq_true e, Bool.and_true]
  simp only [d1, dTT, PyData.canLay0, PyData.canLayAll0, lay_dI, dI_lay, Bool.and_self]
theorem eqv_d1 (ns ms : List Int) (ps qs : List (List Int)) : PyData.eqv (d1 ns ps) (d1 ms qs) = (decide (ns = ms) && decide (ps = qs)) := by
  simp only [d1, PyData.eqv, PyData.eqvAll, eqvI, eqvTT, Bool.and_true]
end RV
set_option maxHeartbeats 4000000
namespace RV
open PySem PySem.Spec PyProof.Rows L2
section
variable {X : Cx}
/-- ts.index(t), tuples of ints in a tuple -/
def rIndexTs (K : PySem.W.Frag) : V → List V → Hp → VK → Prop := fun x xs H Q => ∃ (a b : Addr) (ps : List (List Int)) (p : List Int) (j : Nat), x = V.ref a ∧ xs = [V.ref b] ∧ Tups K H a ps ∧ SqT K H b (p.map V.int) ∧ ps[j]? = some p ∧ (∀ m, m < j → ps[m]? ≠ some p) ∧ Q (.int (j : Nat)) H
theorem mt_indexTs (hu : X.A.units + 65 < cLine) : MtR X "tuple.index" (rIndexTs X.K) := by
  intro pins s σ H x xs v us Q I rx rxs h
  obtain ⟨a, b, ps, p, j, rfl, rfl, hT, hb, hj, hno, q⟩ := h
  cases rx
  obtain ⟨u, rfl, ru⟩ := vals1 rxs
  cases ru
  obtain ⟨bs, r1⟩ := Dp.reads I (dI p) (.ref b) (.ref b) (dpT hb) rfl
  have lay := lay_dI ps
  have room : X.A.units + 1 + min (PyData.depthAll (ps.map dI)) (dI p).depth < cLine := by
    have := Nat.min_le_right (PyData.depthAll (ps.map dI)) (dI p).depth
    have e := dI_dep p
    omega
  obtain ⟨ks, rfl, hs, hks⟩ := hT
  obtain ⟨its, rv, ⟨⟨cls, dd, dat, sls⟩, ho, hc, n, hd⟩, hlen⟩ := I.tuple hs
  simp only at hc hd
  subst hc hd
  obtain ⟨as, rall⟩ := Dp.readsAll I ((ks.map (·.2)).map dI) _ its (dpTs ks hks) rv
  have ln : its.length = ((ks.map (·.2)).map dI).length := SeqAt.ReadsAll.length _ its as rall
  have mp : its.map (SeqAt.readOf s.heap) = (ks.map (·.2)).map dI := SeqAt.readsAll_map _ its as lay rall
  have jl : j < its.toArray.size := by
    have := (List.getElem?_eq_some_iff.mp hj).1
    rw [List.size_toArray, ln, List.length_map]; exact this
  have at_ : ∀ (m : Nat) (hm : m < its.toArray.size), ∃ z, (ks.map (·.2))[m]? = some z ∧ SeqAt.readOf s.heap its.toArray[m] = dI z := fun m hm => by
    have hm2 : m < (ks.map (·.2)).length := by rw [List.size_toArray, ln, List.length_map] at hm; exact hm
    refine ⟨_, List.getElem?_eq_getElem hm2, ?_⟩
    have e : (its.map (SeqAt.readOf s.heap))[m]? = some (dI (ks.map (·.2))[m]) := by rw [mp, List.getElem?_map, List.getElem?_eq_getElem hm2]; rfl
    have hml : m < its.length := by simpa using hm
    rw [List.getElem?_map, List.getElem?_eq_getElem hml] at e
    have e' := Option.some.inj e
    simpa using e'
  refine call_meets PySem.F.slot_tuple_index ⟨_, ho, rfl⟩ PySem.F.entry_tuple_index (PySem.F.args_tuple_index_2 _ _) (TI.tuple_indexAt a its.toArray n dd sls (.ref b) (fun y => PyData.eqv (SeqAt.readOf s.heap y) (dI p)) j jl ?_ ?_)
    ⟨ho, SeqAt.items_eqAt (vs := its.toArray) (show ReadsAll s.heap its.toArray.toList _ as from rall) r1 lay (dI_lay p) room, ⟨.int (j : Nat), H, I.tok _, ⟨_, rfl⟩, q⟩⟩
  · obtain ⟨z, e1, e2⟩ := at_ j jl
    rw [hj] at e1
    cases e1
    show PyData.eqv (SeqAt.readOf s.heap its.toArray[j]) (dI p) = true
    rw [e2, eqvI]
    exact decide_eq_true rfl
  · intro m hm hmj
    obtain ⟨z, e1, e2⟩ := at_ m hm
    show PyData.eqv (SeqAt.readOf s.heap its.toArray[m]) (dI p) = false
    rw [e2, eqvI]
    exact decide_eq_false fun e => hno m hmj (by rw [e1, e])
/-- repr(None), repr of a whole number -/
def rReprO : List V → Hp → VK → Prop := fun xs H Q => (∃ i : Int, xs = [.int i] ∧ i.natAbs.log2 < 1920 ∧ Q (.str (toString i)) H) ∨ (xs = [.non] ∧ Q (.str "None") H)
theorem call_reprO : CallR X (.builtin "repr") rReprO := by
  intro pins s σ H xs us Q I r h
  rcases h with h | ⟨rfl, q⟩
  · exact SkE.call_repr_int pins s σ H xs us Q I r h
  · obtain ⟨u, rfl, rx⟩ := vals1 r
    cases (show u = Value.none from rx)
    exact PySem.P.repr_of_none ⟨.str "None", H, I.tok _, ⟨_, rfl⟩, q⟩
theorem op_neDK {K : PySem.W.Frag} (h : X.K = K) (hu : X.A.units + 64 < cLine) : OpR X (compareOp .NotEq) (rNeD K) := h ▸ op_neD hu
end
theorem bulk_any : ∀ (ps : List (List Int)) (k : Nat), (∀ p ∈ ps, p.length ≤ k) → PyData.bulkAll (ps.map dI) ≤ (k + 1) * ps.length
  | [], k, _ => by simp [PyData.bulkAll]
  | p :: r, k, h => by
    have h1 : (dI p).bulk = p.length := by simp only [dI, PyData.bulk, bulk_ints]
    have h2 := bulk_any r k fun m hm => h m (List.mem_cons_of_mem _ hm)
    have h3 := h p (List.mem_cons_self ..)
    simp only [List.map_cons, PyData.bulkAll, h1, List.length_cons, Nat.mul_succ]
    omega
theorem shows_dTT {ps : List (List Int)} (hn : ∀ p ∈ ps, ∀ n ∈ p, n.natAbs < 10 ^ 12) (h1 : ∀ p ∈ ps, p.length ≤ 8) (h2 : ps.length ≤ 64) : Shows (dTT ps) := by
  have lay : (dTT ps).canLay0 = true := by simp only [dTT, PyData.canLay0]; exact lay_dI ps
  refine ⟨by simp only [dTT, PyData.showable]; exact show_dIs ps hn, PyData.hasDict_of_canLay _ lay, ?_, ?_⟩
  · have h := dep_dI ps
    simp only [dTT, PyData.depth]; omega
  · refine PyData.shown_fits_bulk (B := 13) (by decide) (by decide) (PyData.leavesShort_of_canLay0 13 _ lay ?_) ?_
    · simp only [dTT, PyData.intsShort]; exact short_dIs ps hn
    · have b := bulk_any ps 8 h1
      simp only [dTT, PyData.bulk]
      omega
/-! ### lots in order -/
end RV
set_option maxHeartbeats 4000000
/-! sorted(s), s a set of tuples of ints of any lengths, none of them empty -/
namespace RV
open PySem PySem.Spec PyProof.Rows L2 TS
/-- one tuple ahead of another -/
def lexA : List Int → List Int → Bool
  | [], [] => false
  | [], _ :: _ => true
  | _ :: _, [] => false
  | p :: ns, q :: ms => if p = q then lexA ns ms else decide (p < q)
section
variable {prog : Program} {w : World} {A : Around} {E : Value → Shared → Prop} {s : Shared}
theorem kat_any {Q : Bool → Shared → Prop} {b fin : Bool} : ∀ {ns ms : List Int} {xs ys : List Value} (i : Nat), IntsAre xs ns → IntsAre ys ms → fin = decide (ns.length < ms.length) → Q (lexA ns ms) s → PySem.W.KatLex prog w A b fin Q (xs.zip ys) i s
  | [], [], _, _, i, .nil, .nil, hf, h => by
    have e : fin = false := hf
    rw [e]; exact PySem.W.kat_nil h
  | [], _ :: ms, _, _, i, .nil, .cons _ _ _, hf, h => by
    have e : fin = true := by rw [hf]; simp
    rw [e]; exact PySem.W.kat_nil h
  | _ :: _, [], _, _, i, .cons _ _ _, .nil, hf, h => by
    have e : fin = false := by rw [hf]; simp
    rw [e]; exact PySem.W.kat_nil h
  | p :: ns, q :: ms, _, _, i, .cons _ t hx, .cons _ u hy, hf, h => by
    refine PySem.W.kat_cons (wpAny_eqBool_int ?_)
    by_cases e : p = q
    · subst e
      rw [beq_self_eq_true]
      have h' : Q (lexA ns ms) s := by simpa [lexA] using h
      refine PySem.W.kat_yes (kat_any (i + 1) hx hy ?_ h')
      rw [hf]; simp
    · rw [beq_eq_false_iff_ne.mpr e]
      refine PySem.W.kat_no (oneLt_ints _ ?_)
      simpa [lexA, e] using h
theorem heads_of {h : Heap} : ∀ vs : List Value, (∀ v ∈ vs, ∃ ns, TupInts h v ns ∧ ns ≠ []) → ∃ fs, PySem.W.KatTups h vs fs ∧ fs.length = vs.length ∧ ∀ f ∈ fs, ∃ n t, f = Value.int n t
  | [], _ => ⟨[], .nil, rfl, fun _ z => nomatch z⟩
  | v :: vs, x => by
    obtain ⟨fs, kt, hlen, hall⟩ := heads_of vs fun z hz => x z (List.mem_cons_of_mem _ hz)
    obtain ⟨ns, ⟨a, xs, rfl, ⟨ob, hob, hcl, k, hdata⟩, hi⟩, hne⟩ := x v (List.mem_cons_self ..)
    cases hxs : xs.toList with
    | nil =>
      rw [hxs] at hi
      cases hi
      exact absurd rfl hne
    | cons y ys =>
      rw [hxs] at hi
      cases hi with
      | cons m t _ =>
        have z : xs[0]? = some (Value.int m t) := by rw [← Array.getElem?_toList, hxs]; rfl
        refine ⟨.int m t :: fs, .cons hob hcl hdata z kt, by rw [List.length_cons, hlen, List.length_cons], fun f hf => ?_⟩
        rcases List.mem_cons.mp hf with rfl | hf
        · exact ⟨m, t, rfl⟩
        · exact hall f hf
theorem kind_any {vs : List Value} (h2 : 2 ≤ vs.length) (x : ∀ v ∈ vs, ∃ ns, TupInts s.heap v ns ∧ ns ≠ []) (r : Value → Int) (hr : ∀ u ∈ vs, ∀ v ∈ vs, ∀ ns ms, TupInts s.heap u ns → TupInts s.heap v ms → lexA ns ms = decide (r u < r v)) (Q : SortKind → Shared → Prop)
    (h : ∀ κ, Cmp prog w A s κ (pairsOf vs) r → Q κ s) : wpAny (model prog w) A (keyKind' vs.toArray) Q E s := by
  obtain ⟨fs, kt, hlen, hall⟩ := heads_of vs x
  refine PySem.W.kat_kind (T := .type "int") kt (by rw [hlen]; omega) (fun f hf => ?_) rfl (h _ fun p q hp hq Q' E' hQ => ?_)
  · obtain ⟨n, t, rfl⟩ := hall f hf
    exact .of_pure rfl
  · rw [pairsOf_toList] at hp hq
    have ip := mem_zip_self hp
    have iq := mem_zip_self hq
    obtain ⟨ns, tp, _⟩ := x _ ip.2
    obtain ⟨ms, tq, _⟩ := x _ iq.2
    have hlex := hr _ ip.2 _ iq.2 ns ms tp tq
    rw [← hlex] at hQ
    obtain ⟨a, xs, e1, ⟨o1, ho1, _, n1, hd1⟩, i1⟩ := tp
    obtain ⟨b, ys, e2, ⟨o2, ho2, _, n2, hd2⟩, i2⟩ := tq
    rw [e1, e2]
    refine PySem.W.kat_lt ho1 hd1 ho2 hd2 (kat_any 0 i1 i2 ?_ hQ)
    rw [← i1.length, ← i2.length, Array.length_toList, Array.length_toList]
theorem call_sort_any {a : Addr} {vs : List Value} {n : Nat} {Q : Value → Shared → Prop} (ρ : List Int → Int) (ho : s.heap.get? a = some (seqObj "list" vs.toArray n)) (h64 : vs.length < 64) (x : ∀ v ∈ vs, ∃ ns, TupInts s.heap v ns ∧ ns ≠ [])
    (hr : ∀ u ∈ vs, ∀ v ∈ vs, ∀ ns ms, TupInts s.heap u ns → TupInts s.heap v ms → lexA ns ms = decide (ρ ns < ρ ms))
    (h : ∀ out : Array Value, out.toList.Perm vs → out.toList.Pairwise (fun u v => ρ (intsOf s.heap u) ≤ ρ (intsOf s.heap v)) → Q .none { s with heap := sortedHeap s.heap a vs out }) :
    wpAny (model prog w) A (call (.builtin "list.sort") [.ref a]) Q E s := by
  have stays : ∀ b o, s.heap.get? b = some o → o.cls = .type "tuple" → (midHeap s.heap a vs).get? b = some o := fun b o e hc => by
    refine midHeap_old (fun z => ?_) e
    rw [z, ho] at e
    cases e
    have hc2 : Value.type "list" = Value.type "tuple" := hc
    injection hc2 with hc3
    exact absurd hc3 (by decide)
  refine wpAny_call_entry slot_list_sort ⟨_, ho, rfl⟩ entry_list_sort (SK.plain_sort (r := fun v => ρ (intsOf s.heap v)) ho h64 (fun h2 Q hQ => ?_) fun ps out h1 h2 h3 => ?_) (args_list_sort _)
  · refine kind_any (s := { s with heap := midHeap s.heap a vs }) h2 (fun v hv => ?_) _ (fun u hu v hv ns ms tu tv => ?_) Q hQ
    · obtain ⟨ns, t, ne⟩ := x v hv
      exact ⟨ns, t.keeps stays, ne⟩
    · obtain ⟨ns0, t0, _⟩ := x u hu
      obtain ⟨ms0, t1, _⟩ := x v hv
      have e0 : ns = ns0 := tu.ints.symm.trans (t0.keeps stays).ints
      have e1 : ms = ms0 := tv.ints.symm.trans (t1.keeps stays).ints
      subst e0 e1
      rw [hr u hu v hv ns ms t0 t1]
      show decide _ = decide (ρ (intsOf s.heap u) < ρ (intsOf s.heap v))
      rw [t0.ints, t1.ints]
  · obtain ⟨p, o⟩ := out_rank (r := fun v => ρ (intsOf s.heap v)) h1 h2 h3
    exact ⟨_, rfl, h out p o⟩
end
section
variable {P : Program} {w : World} {A : Around} {E : Value → Shared → Prop} {s : Shared}
theorem refs_some : ∀ (L : List (Addr × List Int)) (vs : List Value), (∀ v ∈ vs, ∃ q ∈ L, v = Value.ref q.1) → ∃ L1 : List (Addr × List Int), vs = L1.map (fun q => Value.ref q.1) ∧ ∀ q ∈ L1, q ∈ L
  | _, [], _ => ⟨[], rfl, fun _ z => nomatch z⟩
  | L, v :: vs, h => by
    obtain ⟨q, hq, rfl⟩ := h v (List.mem_cons_self ..)
    obtain ⟨L1, rfl, hs⟩ := refs_some L vs fun z hz => h z (List.mem_cons_of_mem _ hz)
    exact ⟨q :: L1, rfl, fun z hz => (List.mem_cons.mp hz).elim (fun e => e ▸ hq) (hs z)⟩
theorem sorted_setA {a : Addr} {L : List (Addr × List Int)} {es : Array (Int × Value)} {ep : Nat} {t : SetTable} {Q : Value → Shared → Prop} (ρ : List Int → Int) (R : SetTR P w s.heap a L es ep t) (hh : A.handled = none)
    (hne : ∀ p ∈ L, p.2 ≠ []) (hr : ∀ p ∈ L, ∀ q ∈ L, lexA p.2 q.2 = decide (ρ p.2 < ρ q.2))
    (hQ : ∀ s' p (out : Array Value) (c : Nat) (L' : List (Addr × List Int)), (∀ b o, s.heap.get? b = some o → s'.heap.get? b = some o) → s'.gens = s.gens → s'.os = s.os → s.heap.objs.size ≤ p → s'.heap.get? p = some (seqObj "list" out c) →
      out.toList = L'.map (fun q => Value.ref q.1) → L'.Perm L → L'.Pairwise (fun q r => ρ q.2 ≤ ρ r.2) → Q (.ref p) s') : wpAny (model P w) A (call (.builtin "sorted") [.ref a]) Q E s := by
  obtain ⟨o, ho, hex, hd⟩ := R.ob
  have size64 := R.size
  have few64 := R.few
  refine Calls.call_function_entry kind_sorted plain_sorted entry_sorted (args_sorted1 _) ?_
  unfold Builtin.«sorted»
  refine wpAny_bind (m := checkCount "sorted" 1 1 _) (wpAny_pure (wpAny_bind (collect_set (A := A.in1) hh ⟨o, ho, hex.1, hd⟩ R.fits (by unfold scanBound; omega) R.tab.ris R.led fun s1 vs k1 hz g1 o1 pm => ?_)))
  have rows : es.toList.map (·.2) = L.map fun q => Value.ref q.1 := by
    rw [R.rows]; unfold rowsOf
    rw [List.map_map]; rfl
  rw [rows] at pm
  have same1 : ∀ q ∈ L, ∀ r ∈ L, q.1 = r.1 → q = r := fun q hq r hr e => by
    have z := R.tup q hq
    rw [e] at z
    exact Prod.ext e (z.inj (R.tup r hr))
  have nodL : L.Nodup := nodup_of_map R.nd
  have nodR : (L.map fun q => Value.ref q.1).Nodup := List.pairwise_map.mpr (List.Pairwise.imp_of_mem (fun {q r} hq hr ne e => ne (same1 q hq r hr (Value.ref.inj e))) nodL)
  have lvs : vs.length < 64 := by rw [pm.length_eq, List.length_map]; exact few64
  refine wpAny_bind (wpAny_newList ?_ (by rw [sizeLine_eq]; omega))
  have atL : (s1.heap.push (seqObj "list" vs.toArray 0)).get? s1.heap.objs.size = some (seqObj "list" vs.toArray 0) := Heap.get?_push_size _ rfl
  have tups : ∀ q ∈ L, TupInts (s1.heap.push (seqObj "list" vs.toArray 0)) (.ref q.1) q.2 := fun q hq => tupInts_of (P := P) (w := w) (isT_keep (R.tup q hq) fun b u e => Heap.get?_push_of_some _ (k1 b u e))
  have from_ : ∀ v ∈ vs, ∃ q ∈ L, v = Value.ref q.1 := fun v hv => by
    obtain ⟨q, hq, e⟩ := List.mem_map.mp (pm.mem_iff.mp hv)
    exact ⟨q, hq, e.symm⟩
  refine wpAny_bind (wpAny_holding (call_sort_any (s := { s1 with heap := s1.heap.push (seqObj "list" vs.toArray 0) }) ρ atL lvs (fun v hv => ?_) (fun u hu v hv ns ms tu tv => ?_) fun out a1 a2 => ?_))
  · obtain ⟨q, hq, rfl⟩ := from_ v hv
    exact ⟨q.2, tups q hq, hne q hq⟩
  · obtain ⟨q, hq, rfl⟩ := from_ u hu
    obtain ⟨r, hr', rfl⟩ := from_ v hv
    have e1 : ns = q.2 := tu.ints.symm.trans (tups q hq).ints
    have e2 : ms = r.2 := tv.ints.symm.trans (tups r hr').ints
    subst e1 e2
    exact hr q hq r hr'
  · obtain ⟨c, hc⟩ := sortedHeap_at (vs := vs) (out := out) atL
    obtain ⟨L', e', hs'⟩ := refs_some L out.toList fun v hv => from_ v (a1.mem_iff.mp hv)
    have pm' : (L'.map fun q => Value.ref q.1).Perm (L.map fun q => Value.ref q.1) := by rw [← e']; exact a1.trans pm
    have pL : L'.Perm L := by
      refine (List.perm_ext_iff_of_nodup (nodup_of_map (pm'.nodup_iff.mpr nodR)) nodL).mpr fun q => ⟨hs' q, fun hq => ?_⟩
      obtain ⟨r, hr', e⟩ := List.mem_map.mp (pm'.mem_iff.mpr (List.mem_map.mpr ⟨q, hq, rfl⟩))
      rw [← same1 r (hs' r hr') q hq (Value.ref.inj e)]; exact hr'
    have pw : L'.Pairwise (fun q r => ρ q.2 ≤ ρ r.2) := by
      rw [e'] at a2
      refine List.Pairwise.imp_of_mem (fun {q r} hq hr' z => ?_) (List.pairwise_map.mp a2)
      have z' : ρ (intsOf (s1.heap.push (seqObj "list" vs.toArray 0)) (.ref q.1)) ≤ ρ (intsOf (s1.heap.push (seqObj "list" vs.toArray 0)) (.ref r.1)) := z
      rwa [(tups q (hs' q hq)).ints, (tups r (hs' r hr')).ints] at z'
    refine wpAny_pure ⟨_, rfl, hQ _ s1.heap.objs.size out c L' (fun b u e => ?_) g1 o1 hz hc e' pL pw⟩
    have lt := Heap.lt_size (k1 b u e)
    show (sortedHeap (s1.heap.push (seqObj "list" vs.toArray 0)) s1.heap.objs.size vs out).get? b = some u
    rw [sortedHeap_old (Nat.ne_of_lt lt) (by rw [size_push']; exact Nat.lt_succ_of_lt lt)]
    exact Heap.get?_push_of_some _ (k1 b u e)
end
section
variable {X : Cx}
def rSortA (K : PySem.W.Frag) (P : Program) (w : World) : List V → Hp → VK → Prop := fun vs H Q => ∃ (a : Addr) (L : List (Addr × List Int)) (ρ : List Int → Int), vs = [V.ref a] ∧ H a = some (SetTO P w a L) ∧ (∀ p ∈ L, SqT K H p.1 (p.2.map V.int)) ∧
  (∀ p ∈ L, p.2 ≠ []) ∧ (∀ p ∈ L, ∀ q ∈ L, lexA p.2 q.2 = decide (ρ p.2 < ρ q.2)) ∧
  ∀ (L' : List (Addr × List Int)) (p : Addr), L'.Perm L → (L'.map (·.2)).Nodup → L'.length < 64 → L'.Pairwise (fun q r => ρ q.2 ≤ ρ r.2) → H p = none → Q (.ref p) (upd H p (.lst (L'.map fun q => V.ref q.1)))
theorem cr_sortedA (hc : X.calm = true) : CallR X (.builtin "sorted") (rSortA X.K X.prog X.w) := by
  intro pins s σ H vs us Q I r h
  obtain ⟨a, L, ρ, rfl, ha, hk, hne, hr, q⟩ := h
  have R0 : SetT0 X.prog X.w s.heap a L := (I.hok a _ ha).1
  obtain ⟨es, ep, t, R⟩ := R0.full fun p hp => I.isT (hk p hp)
  rw [Vals.ref1 r]
  refine sorted_setA ρ R (I.ok.hd hc) hne hr fun s' p out c L' k g o hp hg hout pm pw => ?_
  have few : L'.length < 64 := by rw [pm.length_eq]; exact R.few
  have len : (L'.map fun q => V.ref q.1).length ≤ sizeLine := by rw [List.length_map, sizeLine_eq]; omega
  have new : H p = none := I.hok.fresh hp
  have vals : Vals (L'.map fun q => V.ref q.1) out.toList := by rw [hout]; exact vals_of_refs L'
  have J : Inv X pins σ (upd H p (.lst (L'.map fun q => V.ref q.1))) { s with heap := s'.heap, gens := s'.gens, drawn := s'.drawn, toks := s'.toks } :=
    I.call (ch := []) (Un.laid k hp new) (I.hok.laid k hp ⟨len, out.toList, c, vals, hg⟩) (by rw [g]; exact I.bare) (fun _ z => nomatch z)
  have e : s' = { s with heap := s'.heap, gens := s'.gens, drawn := s'.drawn, toks := s'.toks } := by
    cases s'; cases s; cases o; rfl
  rw [e]
  exact ⟨.ref p, _, J, rfl, q L' p pm ((pm.map (·.2)).nodup_iff.mpr R.nd) few pw new⟩
end
end RV
set_option maxHeartbeats 4000000
namespace RV
open PySem PySem.Spec PyProof.Rows L2
/-- a tuple known to be plain: its methods may be asked -/
def TupD (H : Hp) (a : Addr) (xs : List V) : Prop := ∃ o : Obj, o.dict = none ∧ o.cls = .type "tuple" ∧ H a = some (.frz o (.tup xs))
theorem TupD.sq {K : PySem.W.Frag} {H : Hp} {a : Addr} {xs : List V} (h : TupD H a xs) : SqT K H a xs := by
  obtain ⟨o, _, _, h⟩ := h
  exact .inl (.inr ⟨o, h⟩)
theorem TupD.same {H H' : Hp} {a : Addr} {xs : List V} (h : TupD H a xs) (s : Same H H') : TupD H' a xs := by
  obtain ⟨o, h1, h2, h⟩ := h
  exact ⟨o, h1, h2, s _ _ h⟩
/-- a tuple of plain tuples of ints -/
def TupsD (H : Hp) (a : Addr) (ps : List (List Int)) : Prop := ∃ ks : List (Addr × List Int), ks.map (·.2) = ps ∧ H a = some (.tup (ks.map fun p => V.ref p.1)) ∧ ∀ p ∈ ks, TupD H p.1 (p.2.map V.int)
theorem TupsD.tups {K : PySem.W.Frag} {H : Hp} {a : Addr} {ps : List (List Int)} (h : TupsD H a ps) : Tups K H a ps :=
  let ⟨ks, h1, h2, h3⟩ := h; ⟨ks, h1, tupNew h2, fun p hp => (h3 p hp).sq⟩
theorem TupsD.same {H H' : Hp} {a : Addr} {ps : List (List Int)} (h : TupsD H a ps) (e : Same H H') : TupsD H' a ps :=
  let ⟨ks, h1, h2, h3⟩ := h; ⟨ks, h1, e _ _ h2, fun p hp => (h3 p hp).same e⟩
section
variable {X : Cx} {a : Expr} {ta : TE}
/-- tuple(x) of a list: a new plain tuple -/
def kTupF (K : PySem.W.Frag) (x : V) (H : Hp) (Q : VK) : Prop := ∃ p xs, x = .ref p ∧ SqL K H p xs ∧ ∀ (q : Addr) (o : Obj), H q = none → o.dict = none → o.cls = .type "tuple" → Q (.ref q) (upd H q (.frz o (.tup xs)))
theorem rl_tupleF (pins : List (Addr × Obj)) (s : Shared) (σ : L2.St) (H : Hp) (x : V) (v : Value) (Q : VK) (I : Inv X pins σ H s) (r : RelV x v) (h : kTupF X.K x H Q) :
    wpAny (model X.prog X.w) X.A (call (.type "tuple") [v]) (EP X pins σ Q) X.xe s := by
  obtain ⟨p, xs, rfl, hs, q⟩ := h
  obtain rfl : v = .ref p := r
  obtain ⟨its, rv, pl, hz⟩ := I.list hs
  refine call_tuple_list pl.isList (fun h' hk => ?_) (by rw [List.size_toArray, ← rv.length]; exact hz)
  have I1 : Inv X pins σ H { s with heap := h' } := I.kept (t' := s.toks) hk
  have I2 : Inv X pins σ (upd H h'.objs.size (.frz { cls := .type "tuple", data := .seq its.toArray } (.tup xs))) { s with heap := h'.push { cls := .type "tuple", data := .seq its.toArray } } :=
    I1.laid (t' := s.toks) (fun b o e => Heap.get?_push_of_some _ e) (Nat.le_refl _) (show ObjOk X.prog X.w _ _ _ (.frz { cls := .type "tuple", data := .seq its.toArray } (.tup xs)) from ⟨Heap.get?_push_size _ rfl, hz, its, rv, IsTup.new _ _⟩)
  exact ⟨.ref h'.objs.size, _, I2, rfl, q _ _ (I1.hok.fresh (Nat.le_refl _)) rfl rfl⟩
theorem pe_tupleF {p pos : Pos} (hg : Gl X "tuple") (hm : X.mg "tuple" = none) (ha : PE X a ta) (na : starEach [a] X.env = (false, eval a X.env) :: starEach [] X.env := by rfl) :
    PE X (.Call (.Name "tuple" p) [a] [] pos) (tThen ta (kTupF X.K)) := by
  refine ⟨fun pins s σ H Q I h => ?_⟩
  exact Call_ (ld_blt I hg hm boot_tuple (PyProof.Rows.callWith_type1 (one_arg ha I h (fun v s2 x H2 I2 r q => rl_tupleF pins s2 σ H2 x v Q I2 r q) na) na))
def tBMT (r : V → List V → Hp → VK → Prop) (to : TE) (t : TA) : TE := fun σ H Q => to σ H fun x H1 => (∃ p xs, x = .ref p ∧ TupD H1 p xs) ∧ t σ H1 fun xs H2 => r x xs H2 Q
variable {o e : Expr} {es : List Expr} {to : TE} {t : TA} {name : Str} {apos cpos : Pos} {id : String} {r : V → List V → Hp → VK → Prop}
/-- t.m(e, ..), a plain tuple's method -/
theorem pe_bmT (slot : Slot "tuple" name id) (hty : typeOf (.builtin id) = pure (.type "method_descriptor")) (hm : MtR X id r) (ho : PE X o to) (ha : PA X (e :: es) t)
    (hbase : attributeBase o name X.env (eval o X.env) = eval o X.env := by rfl)
    (hfew : ((backTo cpos (starEach (e :: es) X.env)).all (fun x => !x.1) && (backToKw cpos (keywordEach [] X.env)).all (fun x => x.1.isSome)
      && decide ((e :: es).length + ([] : List Keyword).length + (if ([] : List Keyword).isEmpty then 0 else 1) < 30)) = true := by rfl)
    (hline : (apos.endLine == cpos.line) = true := by rfl) (hs : starEach (e :: es) X.env = (false, eval e X.env) :: starEach es X.env := by rfl) (hplain : (backTo cpos (starEach es X.env)).any (·.1) = false := by rfl) :
    PE X (.Call (.Attribute o name apos) (e :: es) [] cpos) (tBMT r to t) := by
  refine ⟨fun pins s σ H Q I h => ?_⟩
  refine wpAny_Call_method_late hbase hfew hline rfl (thn (ho.run pins s σ H _ I h) fun v s1 ⟨x, H1, I1, r1, ty, q1⟩ => ?_)
  obtain ⟨p, xs, rfl, ob, od, oc, hp⟩ := ty
  obtain rfl : v = .ref p := r1
  have g : s1.heap.get? p = some ob := (I1.hok p _ hp).1
  refine ⟨"tuple", id, PySem.F.plainAttrs_tuple, slot, hty, ⟨ob, g, oc⟩, fun a e => ?_, ?_⟩
  · cases e
    exact ⟨ob, g, od⟩
  have hA := ha.run cpos pins s1 σ H1 _ I1 q1
  rw [hs] at hA ⊢
  refine Calls.callWith_builtin (by show (false || (backTo cpos (starEach es X.env)).any (·.1)) = false; rw [hplain] <;> rfl) (Calls.evalArgs_plain ?_)
  exact thn hA fun us s2 ⟨vs, H2, I2, r2, q2⟩ => hm pins s2 σ H2 (.ref p) vs (.ref p) us Q I2 rfl r2 q2
end
section
variable {X : Cx}
/-- t.index(n), t a tuple of ints -/
def rIndexI (K : PySem.W.Frag) : V → List V → Hp → VK → Prop := fun x xs H Q => ∃ (a : Addr) (ns : List Int) (n : Int) (j : Nat), x = V.ref a ∧ xs = [V.int n] ∧ SqT K H a (ns.map V.int) ∧ ns[j]? = some n ∧ (∀ m, m < j → ns[m]? ≠ some n) ∧ Q (.int (j : Nat)) H
theorem mt_indexI (hu : X.A.units + 65 < cLine) : MtR X "tuple.index" (rIndexI X.K) := by
  intro pins s σ H x xs v us Q I rx rxs h
  obtain ⟨a, ns, n, j, rfl, rfl, hs, hj, hno, q⟩ := h
  cases rx
  obtain ⟨u, rfl, ru⟩ := vals1 rxs
  obtain ⟨bs, r1⟩ := Dp.reads I (.int n) (.int n) u (.int n) ru
  have lay := lay_ints ns
  have room : X.A.units + 1 + min (PyData.depthAll (ns.map PyData.int)) (PyData.int n).depth < cLine := by
    have := Nat.min_le_right (PyData.depthAll (ns.map PyData.int)) (PyData.int n).depth
    have e : (PyData.int n).depth = 0 := by simp [PyData.depth]
    omega
  obtain ⟨its, rv, ⟨⟨cls, dd, dat, sls⟩, ho, hc, m, hd⟩, hlen⟩ := I.tuple hs
  simp only at hc hd
  subst hc hd
  obtain ⟨as, rall⟩ := Dp.readsAll I (ns.map PyData.int) _ its (dpInts ns) rv
  have ln : its.length = (ns.map PyData.int).length := SeqAt.ReadsAll.length _ its as rall
  have mp : its.map (SeqAt.readOf s.heap) = ns.map PyData.int := SeqAt.readsAll_map _ its as lay rall
  have jl : j < its.toArray.size := by
    have := (List.getElem?_eq_some_iff.mp hj).1
    rw [List.size_toArray, ln, List.length_map]; exact this
  have at_ : ∀ (m : Nat) (hm : m < its.toArray.size), ∃ z, ns[m]? = some z ∧ SeqAt.readOf s.heap its.toArray[m] = PyData.int z := fun m hm => by
    have hm2 : m < ns.length := by rw [List.size_toArray, ln, List.length_map] at hm; exact hm
    refine ⟨_, List.getElem?_eq_getElem hm2, ?_⟩
    have e : (its.map (SeqAt.readOf s.heap))[m]? = some (PyData.int ns[m]) := by rw [mp, List.getElem?_map, List.getElem?_eq_getElem hm2]; rfl
    have hml : m < its.length := by simpa using hm
    rw [List.getElem?_map, List.getElem?_eq_getElem hml] at e
    have e' := Option.some.inj e
    simpa using e'
  refine call_meets PySem.F.slot_tuple_index ⟨_, ho, rfl⟩ PySem.F.entry_tuple_index (PySem.F.args_tuple_index_2 _ _) (TI.tuple_indexAt a its.toArray m dd sls u (fun y => PyData.eqv (SeqAt.readOf s.heap y) (.int n)) j jl ?_ ?_)
    ⟨ho, SeqAt.items_eqAt (vs := its.toArray) (show ReadsAll s.heap its.toArray.toList _ as from rall) r1 lay (by simp [PyData.canLay0]) room, ⟨.int (j : Nat), H, I.tok _, ⟨_, rfl⟩, q⟩⟩
  · obtain ⟨z, e1, e2⟩ := at_ j jl
    rw [hj] at e1
    cases e1
    show PyData.eqv (SeqAt.readOf s.heap its.toArray[j]) (.int n) = true
    rw [e2]
    simp [PyData.eqv]
  · intro m hm hmj
    obtain ⟨z, e1, e2⟩ := at_ m hm
    show PyData.eqv (SeqAt.readOf s.heap its.toArray[m]) (.int n) = false
    rw [e2]
    have ne : z ≠ n := fun e => hno m hmj (by rw [e1, e])
    simp [PyData.eqv, ne]
end
section
variable {X : Cx} {P : Program} {w : World} {K : PySem.W.Frag}
theorem cr_setNK (h : X.K = K) (hP : X.prog = P) (hw : X.w = w) (hc : X.calm = true) (hu : X.A.units + 64 < cLine) : CallR X (.type "set") (rSetN K P w) := by
  subst h hP hw
  exact cr_setN hc hu
theorem cr_sortedAK (h : X.K = K) (hP : X.prog = P) (hw : X.w = w) (hc : X.calm = true) : CallR X (.builtin "sorted") (rSortA K P w) := by
  subst h hP hw
  exact cr_sortedA hc
end
end RV
set_option maxHeartbeats 4000000
namespace K10
open PySem PySem.Spec PyProof.Rows L2 RV
theorem rgV_upN (n : Nat) : rgV 0 (n : Int) = (upN n).map V.int := by
  rw [rgV_rgI]
  unfold rgI upN
  rw [show ((n : Int) - 0).toNat = n by omega]
  congr 1
  refine List.map_congr_left fun i _ => ?_
  omega
/-- the ways of the first i marks -/
def Ways (H : Hp) (D : Addr) (ps : List (List Int)) (ws : List (Addr × List Int)) : Prop := H D = some (.lst (ws.map fun p => V.ref p.1)) ∧ ∀ (k : Nat) (x : Addr × List Int), ws[k]? = some x → H x.1 = some (.lst (x.2.map V.int)) ∧ x.1 ≠ D ∧ x.2.length ≤ 8 ∧ ∀ j, j ∈ x.2 ↔ Rch ps (k : Int) j
theorem Ways.same {H H' : Hp} {D : Addr} {ps : List (List Int)} {ws : List (Addr × List Int)} (h : Ways H D ps ws) (s : Same H H') : Ways H' D ps ws :=
  ⟨s _ _ h.1, fun k x g => let ⟨a, b⟩ := h.2 k x g; ⟨s _ _ a, b⟩⟩
theorem in_way {ps : List (List Int)} {k : Nat} {y : Int} {fs : List Int} (h : ∀ j, j ∈ fs ↔ Rch ps (k : Int) j) : decide (y ∈ fs) = rB ps (k : Int) y := by
  rw [Bool.eq_iff_iff, decide_eq_true_iff, rB_iff]
  exact h y
noncomputable def partsTo (ps : List (List Int)) (n i : Nat) : List (List Int) := (((upN n).take i).filter (isHead ps n)).map (lotOf ps n)
theorem partsTo_next {ps : List (List Int)} {n i : Nat} {m : Int} (g : (upN n)[i]? = some m) : partsTo ps n (i + 1) = partsTo ps n i ++ (if isHead ps n m = true then [lotOf ps n m] else []) := by
  unfold partsTo
  rw [take_filt g, List.map_append]
  by_cases e : isHead ps n m = true
  · rw [if_pos e, if_pos e]; rfl
  · rw [if_neg e, if_neg e]; rfl
theorem partsTo_all (ps : List (List Int)) (n : Nat) : partsTo ps n n = partsOf ps n := by
  unfold partsTo partsOf
  rw [List.take_of_length_le (by rw [upN_len]; exact Nat.le_refl _)]
theorem partsTo_len (ps : List (List Int)) (n i : Nat) : (partsTo ps n i).length ≤ n := by
  unfold partsTo
  rw [List.length_map]
  refine Nat.le_trans (List.length_filter_le _ _) ?_
  rw [List.length_take, upN_len]; omega
section
variable {P : Program} {w : World} {K : PySem.W.Frag} {mg : Str → Option Value} {base : Heap}
/-! ### parts -/
theorem scParts : FnScope ["rule", "every", "mark", "ways", "found", "part", "other"] ["rule"] (defScope sParts) := ⟨rfl, rfl, rfl, by decide +kernel, rfl, by decide +kernel, by decide +kernel⟩
def spParts (K : PySem.W.Frag) (C : Addr) : Sp := fun vs H Q _ => ∃ (r : Addr) (ns : List Int) (ps : List (List Int)), vs = [.ref r] ∧ RuleAt K C H r ns ps ∧ Mir ns ∧ Stp ns ps ∧
  ∀ (H' : Hp) (c : Addr), Same H H' → H c = none → TupsD H' c (partsOf ps ns.length) → Q (.ref c) H'
theorem ok_parts {f C fL fM : Addr} {fd dL dM : FuncData} (F : Fun K "parts" "parts" sParts f fd) (T : Txt K mg C) (B : Bare mg) (DL : DefAt K mg "led_to" sLed ["rule", "mark"] fL dL) (GL : FnOk P w K mg base CX0 2 fL dL ["rule", "mark"] (spLed K C))
    (FM : Fun K "marks" "Rule.marks" sMarksM fM dM) (bM : Binds K dM ["self"] []) (mM : Meth K C "marks" fM) : FnOk P w K mg base CX0 3 f fd ["rule"] (spParts K C) := by
  have GM : FnOk P w K mg base CX0 1 fM dM ["self"] (spMarksM K C) := ok_marksM FM T B
  refine F.ok scParts (fun vs H Q E h => ?_) (fun cdv A outer s H vs Q E hr h => ?_)
  · obtain ⟨r, ns, ps, rfl, _⟩ := h
    rfl
  · obtain ⟨r, ns, ps, rfl, R, M, S, q⟩ := h
    have hu5 := un65 hr
    have hr1 := hr.mono (show 1 ≤ 2 by decide)
    refine ⟨_, pss_cons (ps_set (i := 1) scParts.nd rfl (Or.inl rfl) (pe_listRg rfl (by rfl) B.list (prg_1 (by rfl) B.range (pe_meth0 (pv 0) T.cl mM GM hr1 bM .nil pass0))))
      (pss_cons (ps_set (i := 3) scParts.nd rfl (Or.inr rfl) (pe_lc (own := [("mark", 2)]) (g := gName 2) (tt := tYes) rfl scParts.nd (pi_list (pv 1)) (blkOk_by (N := ["rule", "every", "mark", "ways", "found", "part", "other"]) (sc := defScope sParts) (by decide +kernel))
          (fun _ _ _ _ _ => pg_name (i := 2) scParts.nd rfl (Or.inl rfl)) (fun _ _ _ _ _ => pts_nil) (fun _ _ _ _ _ => pe_call GL hr (by rfl) DL.mg DL.fn.kp DL.bi .nil pass0 (pa_cons (pv 0) (pa_cons (pv 2) pa_nil)))))
      (pss_cons (ps_set (i := 4) scParts.nd rfl (Or.inl rfl) (pe_lst pa_nil))
      (pss_cons (ps_for PassesOwn.never rfl (pi_list (pv 1)) (pg_name (i := 2) scParts.nd rfl (Or.inr rfl))
        (pss_cons (ps_set (i := 5) scParts.nd rfl (Or.inl rfl) (pe_tupleF (by rfl) B.tuple
          (pe_lc (own := [("other", 6)]) (g := gName 6) rfl scParts.nd (pi_list (pv 1)) (blkOk_by (N := ["rule", "every", "mark", "ways", "found", "part", "other"]) (sc := defScope sParts) (by decide +kernel))
            (fun _ _ _ _ _ => pg_name (i := 6) scParts.nd rfl (Or.inl rfl))
            (fun _ _ _ _ _ => pts_one (PW.pt (pw_and (pt_cmpR (op_inDK (K := K) rfl hu5) (pv 6) (pe_ix (ix_listK (K := K) rfl) (pv 3) (pv 2) (fun _ _ => rfl)) (by rfl)) (pw_and1 (pt_cmpR (op_inDK (K := K) rfl hu5) (pv 2) (pe_ix (ix_listK (K := K) rfl) (pv 3) (pv 6) (fun _ _ => rfl)) (by rfl))))))
            (fun _ _ _ _ _ => pv 6))))
        (pss_one (ps_if (PW.pt (pw_and (pt_cmpR op_gt (pe_callB call_len_seq (by rfl) B.len PySem.boot_len (pa_cons (pv 5) pa_nil)) pe_int (nomark _)) (pw_and1 (pt_cmpR op_eq (pe_ix ix_tup (pv 5) pe_int (fun _ _ => rfl)) (pv 2) (nomark _)))))
          (pss_one (ps_expr (pe_bm PySem.F.plainAttrs_list PySem.F.slot_list_append PySem.F.type_list_append mt_append (pv 4) (pa_cons (pv 5) pa_nil)))) pss_nil))))
      (pss_one (ps_ret (pe_tupleOf (by rfl) B.tuple (pv 4))))))), ?_⟩
    obtain ⟨dx, a0, b0, t0, g1, g2, g3, g4⟩ := R.ex
    have fno := flds_no a0 b0 t0 (m := "marks") (by decide +kernel) (by decide +kernel) (by decide +kernel)
    have h8 := M.few
    have hP : ∀ p ∈ ps, Pr (ns.length : Int) p := fun p hp => S.pair p hp
    -- every
    refine ⟨.ref r, rfl, r, dx, _, rfl, g1, fno, r, ns, ps, rfl, R, _, rfl, RgOk.of_le (by omega) (by omega) (by omega) (by omega), fun E0 nE => ?_⟩
    rw [rgV_upN]
    have s1 := same_upd (o := .lst ((upN ns.length).map V.int)) nE
    have eE : (upd H E0 (.lst ((upN ns.length).map V.int))) E0 = some (.lst ((upN ns.length).map V.int)) := upd_same
    generalize upd H E0 (.lst ((upN ns.length).map V.int)) = H1 at s1 eE ⊢
    -- ways
    refine ⟨.ref E0, rfl, E0, rfl, ⟨_, lstNew eE⟩, fun D nD => ?_⟩
    refine lc_list (K := K) (a := E0) (xs := (upN ns.length).map V.int) (fun i H' => Same H1 H' ∧ ∃ ws, ws.length = i ∧ Ways H' D ps ws) ⟨same_upd nD, [], rfl, upd_same, fun k x g => nomatch g⟩ (fun i H' _ p => lstNew (p.1 _ _ eE)) (fun i x H' hx p => ?_) fun H2 p => ?_
    · obtain ⟨k, g, rfl⟩ := map_at hx
      have hil : i < ns.length := by
        have := (List.getElem?_eq_some_iff.mp g).1
        rwa [upN_len] at this
      rw [upN_get hil] at g
      have ek : (i : Int) = k := Option.some.inj g
      subst ek
      obtain ⟨p1, ws, hws, W⟩ := p
      refine ⟨rfl, tt_yes ⟨.ref r, rfl, .int (i : Int), rfl, r, (i : Int), ns, ps, rfl, R.same (s1.trans p1), M, S, ⟨by omega, by omega⟩, fun H3 c fs s3 nc e3 l3 m3 => ?_⟩⟩
      have W3 := W.same s3
      have cD : c ≠ D := (ne_of_none W.1 nc).symm
      refine ⟨_, W3.1, by rw [List.length_map]; exact few1 (by omega), fun b o z => ?_, ws ++ [(c, fs)], by rw [List.length_append, hws]; rfl, ?_, fun k x gx => ?_⟩
      · rw [upd_ne (ne_of_none z nD)]; exact s3 _ _ (p1 b o z)
      · rw [upd_same, List.map_append]; rfl
      · by_cases hk : k < ws.length
        · rw [List.getElem?_append_left hk] at gx
          obtain ⟨w1, w2, w3, w4⟩ := W3.2 k x gx
          exact ⟨by rw [upd_ne w2]; exact w1, w2, w3, w4⟩
        · have hk2 := (List.getElem?_eq_some_iff.mp gx).1
          rw [List.length_append] at hk2
          have hk3 : k = ws.length := by
            have : ([(c, fs)] : List (Addr × List Int)).length = 1 := rfl
            omega
          subst hk3
          rw [List.getElem?_append_right (Nat.le_refl _), Nat.sub_self] at gx
          have ex : (c, fs) = x := Option.some.inj gx
          subst ex
          exact ⟨by rw [upd_ne cD]; exact e3, cD, l3, by rw [hws]; exact m3⟩
    · obtain ⟨p1, ws, hws, W⟩ := p
      rw [List.length_map, upN_len] at hws
      refine nx_step ?_
      dsimp only
      -- found
      refine ⟨Nat.zero_le _, fun F0 nF => ?_⟩
      have sF := same_upd (o := .lst []) nF
      refine ⟨.ref E0, rfl, E0, rfl, ⟨_, lstNew (sF _ _ (p1 _ _ eE))⟩, ?_⟩
      have nFH : H F0 = none := s1.free (p1.free nF)
      refine for_list (K := K) (a := E0) (xs := (upN ns.length).map V.int) (fun i σ H' => ∃ (ks : List (Addr × List Int)) (y2 y5 y6 : Option V), σ = [some (.ref r), some (.ref E0), y2, some (.ref D), some (.ref F0), y5, y6] ∧ Same H2 H' ∧ H' F0 = some (.lst (ks.map fun p => V.ref p.1)) ∧ ks.map (·.2) = partsTo ps ns.length i ∧ ∀ k ∈ ks, TupD H' k.1 (k.2.map V.int))
        ⟨[], none, none, none, rfl, sF, upd_same, rfl, fun _ z => nomatch z⟩ (fun i σ H' _ h => ?_) (fun i x σ H' hx h => ?_) (fun σ H' h => ?_)
      · obtain ⟨_, _, _, _, _, s', _⟩ := h
        exact lstNew (s' _ _ (p1 _ _ eE))
      · obtain ⟨ks, y2, y5, y6, rfl, s', eF, eks, hks⟩ := h
        obtain ⟨m, g, rfl⟩ := map_at hx
        have hil : i < ns.length := by
          have := (List.getElem?_eq_some_iff.mp g).1
          rwa [upN_len] at this
        have g' := g
        rw [upN_get hil] at g'
        have ek : (i : Int) = m := Option.some.inj g'
        subst ek
        have W' := W.same s'
        have lks : ks.length ≤ ns.length := by
          have z := congrArg List.length eks
          rw [List.length_map] at z
          have := partsTo_len ps ns.length i
          omega
        -- part
        refine ⟨.ref E0, rfl, E0, rfl, ⟨_, lstNew (s' _ _ (p1 _ _ eE))⟩, fun D2 nD2 => ?_⟩
        refine lc_filtL (f := fun y => rB ps (i : Int) y && rB ps y (i : Int)) (lstNew (s' _ _ (p1 _ _ eE))) (by rw [upN_len]; omega) nD2 (fun y hy H4 s4 A B h => ?_) (fun y H' Q h => ⟨.int y, rfl, h⟩) fun H4 s4 eD2 => ?_
        · have W4 := W'.same s4
          have hy' := mem_upN.mp hy
          obtain ⟨wi, gwi⟩ : ∃ x, ws[i]? = some x := ⟨_, List.getElem?_eq_getElem (by omega)⟩
          obtain ⟨wy, gwy⟩ : ∃ x, ws[y.toNat]? = some x := ⟨_, List.getElem?_eq_getElem (by omega)⟩
          obtain ⟨u1, _, _, u4⟩ := W4.2 _ _ gwi
          obtain ⟨v1, _, _, v4⟩ := W4.2 _ _ gwy
          have hh := h H4 (Same.refl H4)
          refine ⟨.int y, rfl, .ref D, rfl, .int (i : Int), rfl, D, _, _, .ref wi.1, rfl, rfl, lstNew W4.1, atI_nat (by rw [List.getElem?_map, gwi]; rfl), .int y, wi.2.map PyData.int, .int y, dpL (lstNew u1), shapedN y, shapedLI _, _, rfl, ?_⟩
          rw [any_int, in_way u4]
          cases e1 : rB ps (i : Int) y with
          | false =>
            rw [e1] at hh
            exact iteF hh
          | true =>
            rw [e1] at hh
            refine iteT ?_
            have ey : atI (ws.map fun p => V.ref p.1) y = some (.ref wy.1) := by
              have z : atI (ws.map fun p => V.ref p.1) ((y.toNat : Nat) : Int) = some (.ref wy.1) := atI_nat (by rw [List.getElem?_map, gwy]; rfl)
              rwa [Int.toNat_of_nonneg hy'.1] at z
            refine ⟨.int (i : Int), rfl, .ref D, rfl, .int y, rfl, D, _, _, .ref wy.1, rfl, rfl, lstNew W4.1, ey, .int (i : Int), wy.2.map PyData.int, .int (i : Int), dpL (lstNew v1), shapedN _, shapedLI _, _, rfl, ?_⟩
            rw [any_int, in_way v4, Int.toNat_of_nonneg hy'.1]
            rw [Bool.true_and] at hh
            exact hh
        · change H4 D2 = some (.lst ((lotOf ps ns.length (i : Int)).map V.int)) at eD2
          refine ⟨D2, _, rfl, lstNew eD2, fun T0 ob nT od oc => ?_⟩
          have sT := same_upd (o := .frz ob (.tup ((lotOf ps ns.length (i : Int)).map V.int))) nT
          have eT : TupD (upd H4 T0 (.frz ob (.tup ((lotOf ps ns.length (i : Int)).map V.int)))) T0 ((lotOf ps ns.length (i : Int)).map V.int) := ⟨ob, od, oc, upd_same⟩
          have s5 := s4.trans sT
          generalize upd H4 T0 (.frz ob (.tup ((lotOf ps ns.length (i : Int)).map V.int))) = H5 at eT s5 ⊢
          have eF5 := s5 _ _ eF
          have s25 := s'.trans s5
          refine ⟨.ref T0, rfl, T0, _, rfl, .inr eT.sq, _, _, rfl, rfl, _, rfl, ?_⟩
          have nxt := partsTo_next (ps := ps) g
          have no : isHead ps ns.length (i : Int) = false → partsTo ps ns.length (i + 1) = partsTo ps ns.length i := fun e => by
            rw [nxt, e, if_neg (by simp), List.append_nil]
          cases el : lotOf ps ns.length (i : Int) with
          | nil =>
            have e0 : isHead ps ns.length (i : Int) = false := by unfold isHead; rw [el]; rfl
            refine iteF (iteF ?_)
            exact ⟨ks, _, _, _, rfl, s25, eF5, by rw [no e0]; exact eks, fun k hk => (hks k hk).same s5⟩
          | cons x l =>
            rw [el] at eT
            have e0 : decide ((List.map V.int (x :: l)).length > (0 : Int)) = true := decide_eq_true (by rw [List.map_cons, List.length_cons]; omega)
            rw [e0]
            refine iteT ⟨.ref T0, rfl, T0, _, 0, .int x, rfl, rfl, eT.sq, atI_nat (j := 0) rfl, .int (i : Int), rfl, rfl, _, rfl, ?_⟩
            by_cases ex : x = (i : Int)
            · have e1 : isHead ps ns.length (i : Int) = true := by unfold isHead; rw [el, ex]; exact decide_eq_true rfl
              rw [decide_eq_true (by rw [ex])]
              refine iteT ⟨.ref F0, rfl, .inl ⟨rfl, _, lstNew eF5⟩, .ref T0, rfl, F0, _, _, rfl, rfl, eF5, by rw [List.length_map]; exact few1 (by omega), ?_⟩
              have tF : ∀ (c : Addr) (xs : List V), TupD H5 c xs → TupD (upd H5 F0 (.lst (ks.map (fun p => V.ref p.1) ++ [.ref T0]))) c xs := fun c xs ⟨o, z1, z2, e⟩ => ⟨o, z1, z2, by
                rw [upd_ne (fun z => by rw [z, eF5] at e; cases e)]; exact e⟩
              refine ⟨ks ++ [(T0, lotOf ps ns.length (i : Int))], _, _, _, rfl, fun b o z => ?_, ?_, ?_, fun k hk => ?_⟩
              · rw [upd_ne (ne_of_none z nF)]; exact s25 b o z
              · rw [upd_same, List.map_append]; rfl
              · rw [nxt, if_pos e1, List.map_append, eks]; rfl
              · rcases List.mem_append.mp hk with z | z
                · exact tF _ _ ((hks k z).same s5)
                · rw [List.mem_singleton.mp z]
                  refine tF _ _ ?_
                  rw [el]; exact eT
            · have e1 : isHead ps ns.length (i : Int) = false := by
                unfold isHead
                rw [el]
                exact decide_eq_false fun z => ex (Option.some.inj z)
              rw [decide_eq_false (fun z => ex (V.int.inj z))]
              refine iteF ?_
              exact ⟨ks, _, _, _, rfl, s25, eF5, by rw [no e1]; exact eks, fun k hk => (hks k hk).same s5⟩
      · obtain ⟨ks, y2, y5, y6, rfl, s', eF, eks, hks⟩ := h
        rw [List.length_map, upN_len, partsTo_all] at eks
        refine ⟨.ref F0, rfl, .inl ⟨F0, _, rfl, lstNew eF, fun c nc => ?_⟩⟩
        have sc := same_upd (o := .tup (ks.map fun p => V.ref p.1)) nc
        have s02 := s1.trans (p1.trans s')
        exact q _ c (s02.trans sc) (s02.free nc) ⟨ks, eks, upd_same, fun k hk => (hks k hk).same sc⟩
end
end K10
set_option maxHeartbeats 4000000
namespace RV
open PySem PySem.Spec PyProof.Rows L2
section
variable {K : PySem.W.Frag} {tt : TT} {te : TE} {f : Int → Bool} {σ : L2.St} {H1 : Hp} {D : Addr} {v n : Nat} {Qd : Hp → Prop}
/-- [x for x in range(n) if ..] -/
theorem lc_filtR (hl : n ≤ 1000) (nD : H1 D = none)
    (htest : ∀ x : Int, 0 ≤ x → x < (n : Int) → ∀ H', Same H1 H' → ∀ A B : Hp → Prop, (∀ H2, Same H' H2 → if f x = true then A H2 else B H2) → tt ((wipe σ [v]).set v (some (.int x))) H' (fun b H3 => if b = true then A H3 else B H3))
    (hte : ∀ (x : Int) (H' : Hp) (Q : VK), Q (.int x) H' → te ((wipe σ [v]).set v (some (.int x))) H' Q)
    (hd : ∀ H', Same H1 H' → H' D = some (.lst (((upN n).filter f).map V.int)) → Qd H') :
    ∃ W : Nat → Nat → Hp → Prop, (∃ m, W 0 m (upd H1 D (.lst []))) ∧ ∀ i m H, W i m H →
      ((Itr 0 n).stop i H ∧ Qd H) ∨ ((Itr 0 n).go i H ∧ ∃ Nx : Hp → Prop, (∀ H', Nx H' → ∃ m', m' < m ∧ W (i + 1) m' H') ∧ ∀ x H', (Itr 0 n).yld i H x H' → gName v x (wipe σ [v]) H' fun σ2 H2 => wipe σ2 [v] = wipe σ [v] ∧ tt σ2 H2 fun b H3 =>
        if b = true then te σ2 H3 fun y H4 => ∃ acc, H4 D = some (.lst acc) ∧ acc.length < sizeLine ∧ Nx (upd H4 D (.lst (acc ++ [y]))) else Nx H3) := by
  refine lc_range (lo := 0) (n := n) (fun i H' => Same H1 H' ∧ H' D = some (.lst ((((upN n).take i).filter f).map V.int))) ⟨same_upd nD, upd_same⟩ (fun i H' hi p => ?_) fun H' p => ?_
  · have g : (upN n)[i]? = some (i : Int) := upN_get hi
    rw [Int.zero_add]
    refine ⟨by simp [wipe, List.set_set], htest (i : Int) (by omega) (by omega) H' p.1 _ _ fun H2 s2 => ?_⟩
    have s12 := p.1.trans s2
    have e2 := s2 _ _ p.2
    by_cases e : f (i : Int) = true
    · rw [if_pos e]
      refine hte _ H2 _ ⟨_, e2, ?_, fun b o z => ?_, ?_⟩
      · rw [List.length_map]
        exact few1 (Nat.le_trans (List.length_filter_le _ _) (by rw [List.length_take, upN_len]; omega))
      · rw [upd_ne (ne_of_none z nD)]; exact s12 b o z
      · rw [upd_same, take_filt g, if_pos e, List.map_append]; rfl
    · rw [if_neg e]
      exact ⟨s12, by rw [take_filt g, if_neg e, List.append_nil]; exact e2⟩
  · rw [List.take_of_length_le (by rw [upN_len]; exact Nat.le_refl _)] at p
    exact hd H' p.1 p.2
end
end RV
set_option maxHeartbeats 4000000
namespace RV
open PySem PySem.Spec PyProof.Rows L2
def fromN (lo : Int) (n : Nat) : List Int := (List.range n).map fun (i : Nat) => lo + (i : Int)
theorem fromN_get {lo : Int} {n k : Nat} (h : k < n) : (fromN lo n)[k]? = some (lo + (k : Int)) := by
  unfold fromN
  rw [List.getElem?_map, List.getElem?_range h]; rfl
theorem fromN_len (lo : Int) (n : Nat) : (fromN lo n).length = n := by unfold fromN; rw [List.length_map, List.length_range]
theorem mem_fromN {lo : Int} {n : Nat} {x : Int} : x ∈ fromN lo n ↔ lo ≤ x ∧ x < lo + (n : Int) := by
  unfold fromN
  rw [List.mem_map]
  constructor
  · rintro ⟨k, hk, rfl⟩
    have := List.mem_range.mp hk
    omega
  · rintro ⟨h0, h1⟩
    exact ⟨(x - lo).toNat, List.mem_range.mpr (by omega), by omega⟩
theorem pe_weakR {X : Cx} {e : Expr} {t t' : TE} (h : PE X e t) (imp : ∀ σ H Q, t' σ H Q → t σ H Q) : PE X e t' := ⟨fun pins s σ H Q I q => h.run pins s σ H Q I (imp σ H Q q)⟩
section
variable {X : Cx} {K : PySem.W.Frag}
theorem cr_allK (h : X.K = K) (hc : X.calm = true) : CallR X (.builtin "all") (rAll K) := h ▸ cr_all hc
theorem pi_listK {tg l : Expr} {tl : TE} (h : X.K = K) (hl : PE X l tl) : PI X tg l (iList K tl) := h ▸ pi_list hl
theorem pi_tupK {tg l : Expr} {tl : TE} (h : X.K = K) (hl : PE X l tl) : PI X tg l (iTup K tl) := h ▸ pi_tup hl
end
section
variable {K : PySem.W.Frag} {tt : TT} {te : TE} {f : Int → Bool} {h : Int → Int} {σ : L2.St} {H1 : Hp} {D : Addr} {v n : Nat} {lo : Int} {Qd : Hp → Prop}
/-- [h(x) for x in range(lo, ..) if f(x)] -/
theorem lc_mapR (hl : n ≤ 1000) (nD : H1 D = none)
    (htest : ∀ x ∈ fromN lo n, ∀ H', Same H1 H' → ∀ A B : Hp → Prop, (∀ H2, Same H' H2 → if f x = true then A H2 else B H2) → tt ((wipe σ [v]).set v (some (.int x))) H' (fun b H3 => if b = true then A H3 else B H3))
    (hte : ∀ x ∈ fromN lo n, ∀ (H' : Hp) (Q : VK), Same H1 H' → f x = true → (∀ H2, Same H' H2 → Q (.int (h x)) H2) → te ((wipe σ [v]).set v (some (.int x))) H' Q)
    (hd : ∀ H', Same H1 H' → H' D = some (.lst ((((fromN lo n).filter f).map h).map V.int)) → Qd H') :
    ∃ W : Nat → Nat → Hp → Prop, (∃ m, W 0 m (upd H1 D (.lst []))) ∧ ∀ i m H, W i m H →
      ((Itr lo n).stop i H ∧ Qd H) ∨ ((Itr lo n).go i H ∧ ∃ Nx : Hp → Prop, (∀ H', Nx H' → ∃ m', m' < m ∧ W (i + 1) m' H') ∧ ∀ x H', (Itr lo n).yld i H x H' → gName v x (wipe σ [v]) H' fun σ2 H2 => wipe σ2 [v] = wipe σ [v] ∧ tt σ2 H2 fun b H3 =>
        if b = true then te σ2 H3 fun y H4 => ∃ acc, H4 D = some (.lst acc) ∧ acc.length < sizeLine ∧ Nx (upd H4 D (.lst (acc ++ [y]))) else Nx H3) := by
  refine lc_range (lo := lo) (n := n) (fun i H' => Same H1 H' ∧ H' D = some (.lst (((((fromN lo n).take i).filter f).map h).map V.int))) ⟨same_upd nD, upd_same⟩ (fun i H' hi p => ?_) fun H' p => ?_
  · have g : (fromN lo n)[i]? = some (lo + (i : Int)) := fromN_get hi
    have hm := List.mem_of_getElem? g
    refine ⟨by simp [wipe, List.set_set], htest _ hm H' p.1 _ _ fun H2 s2 => ?_⟩
    have s12 := p.1.trans s2
    have e2 := s2 _ _ p.2
    by_cases e : f (lo + (i : Int)) = true
    · rw [if_pos e]
      refine hte _ hm H2 _ s12 e fun H3 s3 => ⟨_, s3 _ _ e2, ?_, fun b o z => ?_, ?_⟩
      · rw [List.length_map, List.length_map]
        exact few1 (Nat.le_trans (List.length_filter_le _ _) (by rw [List.length_take, fromN_len]; omega))
      · rw [upd_ne (ne_of_none z nD)]; exact s3 _ _ (s12 b o z)
      · rw [upd_same, take_filt g, if_pos e, List.map_append, List.map_append]; rfl
    · rw [if_neg e]
      exact ⟨s12, by rw [take_filt g, if_neg e, List.append_nil]; exact e2⟩
  · rw [List.take_of_length_le (by rw [fromN_len]; exact Nat.le_refl _)] at p
    exact hd H' p.1 p.2
end
/-- [c(x) for x in l] of truths, l a list of ints -/
theorem lc_blL {K : PySem.W.Frag} {te : TE} {c : Int → Bool} {σ : L2.St} {H1 : Hp} {a D : Addr} {v : Nat} {ns : List Int} {Qd : Hp → Prop} (hT : SqL K H1 a (ns.map V.int)) (hl : ns.length ≤ 1000) (nD : H1 D = none)
    (hte : ∀ x ∈ ns, ∀ (H' : Hp) (Q : VK), Same H1 H' → Q (.bl (c x)) H' → te ((wipe σ [v]).set v (some (.int x))) H' Q)
    (hd : ∀ H', Same H1 H' → H' D = some (.lst ((ns.map c).map V.bl)) → Qd H') :
    ∃ W : Nat → Nat → Hp → Prop, (∃ m, W 0 m (upd H1 D (.lst []))) ∧ ∀ i m H, W i m H →
      ((Itl K a).stop i H ∧ Qd H) ∨ ((Itl K a).go i H ∧ ∃ Nx : Hp → Prop, (∀ H', Nx H' → ∃ m', m' < m ∧ W (i + 1) m' H') ∧ ∀ x H', (Itl K a).yld i H x H' → gName v x (wipe σ [v]) H' fun σ2 H2 => wipe σ2 [v] = wipe σ [v] ∧ tYes σ2 H2 fun b H3 =>
        if b = true then te σ2 H3 fun y H4 => ∃ acc, H4 D = some (.lst acc) ∧ acc.length < sizeLine ∧ Nx (upd H4 D (.lst (acc ++ [y]))) else Nx H3) := by
  refine lc_list (K := K) (a := a) (xs := ns.map V.int) (fun i H' => Same H1 H' ∧ H' D = some (.lst (((ns.take i).map c).map V.bl))) ⟨same_upd nD, upd_same⟩ (fun i H' _ p => sqL_same p.1 hT) (fun i x H' hx p => ?_) fun H' p => ?_
  · obtain ⟨k, g, rfl⟩ := map_at hx
    refine ⟨by simp [wipe, List.set_set], tt_yes (hte k (List.mem_of_getElem? g) H' _ p.1 ⟨_, p.2, ?_, fun b o z => ?_, ?_⟩)⟩
    · rw [List.length_map, List.length_map, List.length_take]; exact few1 (by omega)
    · rw [upd_ne (ne_of_none z nD)]; exact p.1 b o z
    · rw [upd_same, List.take_add_one, g, List.map_append, List.map_append]; rfl
  · rw [List.length_map, List.take_of_length_le (Nat.le_refl _)] at p
    exact hd H' p.1 p.2
end RV
set_option maxHeartbeats 4000000
namespace K10
open PySem PySem.Spec PyProof.Rows L2 RV
/-- a list of tuples of ints, all of them seen -/
def LotsH (H : Hp) (a : Addr) (ls : List (List Int)) : Prop := ∃ ks : List (Addr × List Int), ks.map (·.2) = ls ∧ H a = some (.lst (ks.map fun p => V.ref p.1)) ∧ ∀ p ∈ ks, H p.1 = some (.tup (p.2.map V.int))
theorem LotsH.same {H H' : Hp} {a : Addr} {ls : List (List Int)} (h : LotsH H a ls) (s : Same H H') : LotsH H' a ls := by
  obtain ⟨ks, h1, h2, h3⟩ := h
  exact ⟨ks, h1, s _ _ h2, fun p hp => s _ _ (h3 p hp)⟩
theorem half_sub {m : Nat} {fs ls xs : List Int} (h : Half m fs ls) (nd : xs.Nodup) (sub : ∀ x ∈ xs, x ∈ ls) : Half m fs xs := ⟨h.len, h.inn, h.back, nd, fun x hx => h.lin x (sub x hx), fun x hx => h.self x (sub x hx)⟩
theorem half_len {m : Nat} {fs ls : List Int} (h : Half m fs ls) (h8 : m ≤ 8) : ls.length ≤ 8 := by
  have := nodup_le (us := rgI 0 (m : Int)) h.nd fun z hz => by
    have h1 := h.lin z hz
    exact List.mem_of_getElem? (i := z.toNat) (rgI_get.mpr ⟨by omega, by omega⟩)
  rw [rgI_len] at this; omega
def leftAt : L2.St → Hp → Nat
  | [_, _, _, _, some (.ref lf), _, _], H => lenAt H lf
  | _, _ => 0
section
variable {P : Program} {w : World} {K : PySem.W.Frag} {mg : Str → Option Value} {base : Heap}
/-! ### _law_closed -/
theorem scClosed : FnScope ["_law_mirrors", "_law_pairs", "_law_found", "_law_a", "_law_b"] ["_law_mirrors", "_law_pairs"] (defScope sClosed) := ⟨rfl, rfl, rfl, by decide +kernel, rfl, by decide +kernel, by decide +kernel⟩
def spClosed (K : PySem.W.Frag) : Sp := fun vs H Q _ => ∃ (u l : Addr) (ns : List Int) (qs : List (List Int)), vs = [.ref u, .ref l] ∧ SqT K H u (ns.map V.int) ∧ LotsH H l qs ∧ Mir ns ∧ (∀ q ∈ qs, Pr (ns.length : Int) q) ∧ qs.length ≤ 1000 ∧
  ∀ (H' : Hp) (c : Addr) (ps : List (List Int)), Same H H' → H c = none → TupsH H' c ps → Stp ns ps → Q (.ref c) H'
theorem ok_closed {f : Addr} {fd : FuncData} (F : Fun K "_law_closed" "_law_closed" sClosed f fd) (B : Bare mg) : FnOk P w K mg base CX0 1 f fd ["_law_mirrors", "_law_pairs"] (spClosed K) := by
  refine F.ok scClosed (fun vs H Q E h => ?_) (fun cdv A outer s H vs Q E hr h => ?_)
  · obtain ⟨u, l, ns, qs, rfl, _⟩ := h
    rfl
  · obtain ⟨u, l, ns, qs, rfl, hU, hL, M, hpr, hlen, q⟩ := h
    have hu := hu_of hr
    have two : (2 : Nat) ≤ sizeLine := by decide
    refine ⟨_, pss_cons (ps_set (i := 2) scClosed.nd rfl (Or.inl rfl) pe_dnewT)
      (pss_cons (ps_for PassesOwn.never rfl (pi_list (pv 1)) (pg_tup rfl (pgs_cons (pg_name (i := 3) scClosed.nd rfl (Or.inl rfl)) (pgs_cons (pg_name (i := 4) scClosed.nd rfl (Or.inl rfl)) pgs_nil)))
        (pss_cons (ps_dput hu (pv 2) (pe_tup (pa_cons (pv 3) (pa_cons (pv 4) pa_nil))) pe_bl rfl)
        (pss_one (ps_dput hu (pv 2) (pe_tup (pa_cons (pe_ix ix_tup (pv 0) (pv 4) (fun _ _ => rfl)) (pa_cons (pe_ix ix_tup (pv 0) (pv 3) (fun _ _ => rfl)) pa_nil))) pe_bl rfl))))
      (pss_one (ps_ret (pe_tupleOf (by rfl) B.tuple (pe_callB (cr_sortedDT rfl) (by rfl) B.sorted (by decide +kernel) (pa_cons (pv 2) pa_nil)))))), ?_⟩
    intro d nd
    have sd := same_upd (o := .dT []) nd
    obtain ⟨ks, ek, hl, hks⟩ := hL
    have h8 := M.few
    have lks : ks.length = qs.length := by rw [← ek, List.length_map]
    refine ⟨.ref l, rfl, l, rfl, ⟨_, lstNew (sd _ _ hl)⟩, ?_⟩
    refine for_list (K := K) (a := l) (xs := ks.map fun p => V.ref p.1) (fun i σ H' => ∃ (kvs : List (List L2.Key × V)) (ps : List (List Int)) (y3 y4 : Option V), σ = [some (.ref u), some (.ref l), some (.ref d), y3, y4] ∧ Same H H' ∧ H' d = some (.dT kvs) ∧ kvs.map (·.1) = ps.map keyP ∧ Part ns ps)
      ⟨[], [], none, none, rfl, sd, upd_same, rfl, Part.nil ns⟩ (fun i σ H' _ h => ?_) (fun i x σ H' hx h => ?_) (fun σ H' h => ?_)
    · obtain ⟨_, _, _, _, _, s', _⟩ := h
      exact lstNew (s' _ _ hl)
    · obtain ⟨kvs, ps, y3, y4, rfl, s', ed, ek', P'⟩ := h
      obtain ⟨k, g, rfl⟩ := map_at hx
      have hk : k ∈ ks := List.mem_of_getElem? g
      obtain ⟨x, y, e, bx, by_⟩ := hpr k.2 (by rw [← ek]; exact List.mem_map_of_mem hk)
      have hkT : SqT K H' k.1 ([x, y].map V.int) := by rw [← e]; exact tupNew (s' _ _ (hks k hk))
      have hl64 := P'.len M
      have hkl : kvs.length ≤ 64 := by
        have z := congrArg List.length ek'
        rw [List.length_map, List.length_map] at z; omega
      refine ⟨k.1, _, rfl, hkT, rfl, _, _, rfl, _, _, rfl, rfl, ?_⟩
      refine ⟨.ref d, rfl, .int x, rfl, .int y, rfl, two, fun T2 nT2 => ?_⟩
      have sT2 := same_upd (o := .tup [.int x, .int y]) nT2
      have eT2 : (upd H' T2 (.tup [.int x, .int y])) T2 = some (.tup ((keyP [x, y]).map kV)) := upd_same
      refine ⟨d, _, rfl, DPut.t (sT2 _ _ ed) eT2 (few1 (by omega)), ?_⟩
      have ed2 : (upd (upd H' T2 (.tup [.int x, .int y])) d (.dT (putK kvs (keyP [x, y]) (.bl true)))) d = some (.dT (putK kvs (keyP [x, y]) (.bl true))) := upd_same
      have s2 : Same H (upd (upd H' T2 (.tup [.int x, .int y])) d (.dT (putK kvs (keyP [x, y]) (.bl true)))) := fun b o e => by rw [upd_ne (ne_of_none e nd)]; exact sT2 _ _ (s' b o e)
      have ek2 := put_keys (p := [x, y]) (v := .bl true) ek'
      have l2 : (putK kvs (keyP [x, y]) (.bl true)).length ≤ 65 := by
        have z := congrArg List.length ek2
        rw [List.length_map, List.length_map] at z
        have z2 : (addP ps [x, y]).length ≤ ps.length + 1 := by unfold addP; split <;> simp
        omega
      generalize upd (upd H' T2 (.tup [.int x, .int y])) d (.dT (putK kvs (keyP [x, y]) (.bl true))) = H2 at ed2 s2 ⊢
      generalize putK kvs (keyP [x, y]) (.bl true) = kvs2 at ed2 ek2 l2
      obtain ⟨mx, gx⟩ : ∃ m, ns[x.toNat]? = some m := ⟨_, List.getElem?_eq_getElem (by omega)⟩
      obtain ⟨my, gy⟩ : ∃ m, ns[y.toNat]? = some m := ⟨_, List.getElem?_eq_getElem (by omega)⟩
      have ax : atI (ns.map V.int) x = some (.int mx) := by
        have z : atI (ns.map V.int) ((x.toNat : Nat) : Int) = some (.int mx) := atI_nat (by rw [List.getElem?_map, gx]; rfl)
        rwa [Int.toNat_of_nonneg bx.1] at z
      have ay : atI (ns.map V.int) y = some (.int my) := by
        have z : atI (ns.map V.int) ((y.toNat : Nat) : Int) = some (.int my) := atI_nat (by rw [List.getElem?_map, gy]; rfl)
        rwa [Int.toNat_of_nonneg by_.1] at z
      refine ⟨.ref d, rfl, .ref u, rfl, .int y, rfl, u, _, _, _, rfl, rfl, sqT_same s2 hU, ay, .ref u, rfl, .int x, rfl, u, _, _, _, rfl, rfl, sqT_same s2 hU, ax, two, fun T3 nT3 => ?_⟩
      have sT3 := same_upd (o := .tup [.int my, .int mx]) nT3
      have eT3 : (upd H2 T3 (.tup [.int my, .int mx])) T3 = some (.tup ((keyP [my, mx]).map kV)) := upd_same
      refine ⟨d, _, rfl, DPut.t (sT3 _ _ ed2) eT3 (few1 (by omega)), ?_⟩
      refine ⟨_, addP (addP ps [x, y]) [my, mx], _, _, rfl, fun b o e => ?_, upd_same, put_keys ek2, Part.add M P' bx by_ gx gy⟩
      rw [upd_ne (ne_of_none e nd)]; exact sT3 _ _ (s2 b o e)
    · obtain ⟨kvs, ps, y3, y4, rfl, s', ed, ek', P'⟩ := h
      have hl64 := P'.len M
      have hkl : kvs.length ≤ 64 := by
        have z := congrArg List.length ek'
        rw [List.length_map, List.length_map] at z; omega
      refine ⟨.ref d, rfl, d, kvs, ps, rfl, .inl ed, ek', fun z hz => ?_, by omega, fun L c nc pm pw tu => .inl ⟨c, _, rfl, lstNew upd_same, fun e ne => ?_⟩⟩
      · obtain ⟨x, y, e, _⟩ := P'.pr z hz
        exact ⟨x, y, e⟩
      · have s3 := (same_upd (o := .lst (L.map fun a => V.ref a.1)) nc).trans (same_upd (o := .tup (L.map fun a => V.ref a.1)) ne)
        exact q _ e (L.map (·.2)) (s'.trans s3) ((s'.trans (same_upd (o := .lst (L.map fun a => V.ref a.1)) nc)).free ne) ⟨L, rfl, upd_same, fun k hk => s3 _ _ (tu k hk)⟩ (P'.stp M pm pw)
/-! ### _law_drawn_mirrors -/
theorem scDrawn : FnScope ["_law_pot", "_law_many", "_law_style", "_law_found", "_law_left", "_law_mark", "_law_other"] ["_law_pot", "_law_many", "_law_style"] (defScope sDrawn) := ⟨rfl, rfl, rfl, by decide +kernel, rfl, by decide +kernel, by decide +kernel⟩
def spDrawn (K : PySem.W.Frag) : Sp := fun vs H Q _ => ∃ (p : Addr) (t m : Nat) (st : Int), vs = [.ref p, .int (m : Int), .int st] ∧ PailAt H p t ∧ t ≤ 3000 ∧ 1 ≤ m ∧ m ≤ 8 ∧
  ∀ (H' : Hp) (u : Addr) (t' : Nat) (ns : List Int), PailAt H' p t' → t' ≤ t + 20 → But p H H' → SqT K H' u (ns.map V.int) → Mir ns → ns.length = m → Q (.ref u) H'
theorem ok_drawn {f fD : Addr} {fd fdD : FuncData} (F : Fun K "_law_drawn_mirrors" "_law_drawn_mirrors" sDrawn f fd) (DD : DefAt K mg "_law_take" sDraw ["_law_pot", "_law_many"] fD fdD) (B : Bare mg) : FnOk P w K mg base CX0 2 f fd ["_law_pot", "_law_many", "_law_style"] (spDrawn K) := by
  have GD : FnOk P w K mg base CX0 1 fD fdD ["_law_pot", "_law_many"] spDraw := ok_draw DD.fn
  refine F.ok scDrawn (fun vs H Q E h => ?_) (fun cdv A outer s H vs Q E hr h => ?_)
  · obtain ⟨p, t, m, st, rfl, _⟩ := h
    rfl
  · obtain ⟨p, t, m, st, rfl, hp, ht, m1, m8, q⟩ := h
    have two : (2 : Nat) ≤ sizeLine := by decide
    refine ⟨_, pss_cons (ps_par (i := 3) (j := 4) (by rfl) scDrawn.nd rfl rfl (by decide) rfl rfl (pa_cons (pe_listRg rfl (by rfl) B.list (prg_1 (by rfl) B.range (pv 1))) (pa_cons (pe_listRg rfl (by rfl) B.list (prg_1 (by rfl) B.range (pv 1))) pa_nil)) (by rfl))
      (pss_cons (ps_while PassesOwn.never (pt_cmpR op_gt (pe_callB call_len_seq (by rfl) B.len PySem.boot_len (pa_cons (pv 4) pa_nil)) pe_int (nomark _))
        (pss_cons (ps_set (i := 5) scDrawn.nd rfl (Or.inl rfl) (pe_bm PySem.F.plainAttrs_list PySem.F.slot_list_pop PySem.F.type_list_pop mt_popAt (pv 4) (pa_cons pe_int pa_nil)))
        (pss_one (ps_if (PW.pt (pw_or (pt_cmpR op_eq (pv 2) pe_int (nomark _)) (pw_or1 (PW.pt (pw_and (pt_cmpR op_gt (pv 2) pe_int (nomark _)) (pw_and1 (pt_cmpR op_eq (pe_call GD hr (by rfl) DD.mg DD.fn.kp DD.bi .nil pass0 (pa_cons (pv 0) (pa_cons pe_int pa_nil))) pe_int (nomark _))))))))
          (pss_cons (ps_set (i := 6) scDrawn.nd rfl (Or.inl rfl) (pe_bm PySem.F.plainAttrs_list PySem.F.slot_list_pop PySem.F.type_list_pop mt_popAt (pv 4) (pa_cons (pe_call GD hr (by rfl) DD.mg DD.fn.kp DD.bi .nil pass0 (pa_cons (pv 0) (pa_cons (pe_callB call_len_seq (by rfl) B.len PySem.boot_len (pa_cons (pv 4) pa_nil)) pa_nil))) pa_nil)))
          (pss_one (ps_asg (pe_tup (pa_cons (pv 6) (pa_cons (pv 5) pa_nil))) (pg_tup rfl (pgs_cons (pg_sub (pv 3) (pv 5) set_list) (pgs_cons (pg_sub (pv 3) (pv 6) set_list) pgs_nil)))))) pss_nil))))
      (pss_one (ps_ret (pe_tupleOf (by rfl) B.tuple (pv 3))))), ?_⟩
    refine ⟨.int (m : Int), rfl, (m : Int), rfl, RgOk.of_le (by omega) (by omega) (by omega) (by omega), fun b nb => ?_⟩
    refine ⟨.int (m : Int), rfl, (m : Int), rfl, RgOk.of_le (by omega) (by omega) (by omega) (by omega), fun a na' => ⟨.ref b, .ref a, rfl, ?_⟩⟩
    have hab : b ≠ a := ne_of_none upd_same na'
    have hbp : b ≠ p := pail_ne hp nb
    have hap : a ≠ p := pail_ne (pail_new hp nb) na'
    have na : H a = none := (same_upd nb).free na'
    have s0 := (same_upd (o := .lst (rgV 0 (m : Int))) nb).trans (same_upd (o := .lst (rgV 0 (m : Int))) na')
    refine while_by (fun σ H' => ∃ (y5 y6 : Option V) (t' : Nat) (fs ls : List Int), σ = [some (.ref p), some (.int (m : Int)), some (.int st), some (.ref b), some (.ref a), y5, y6] ∧ But p H H' ∧ PailAt H' p t' ∧ t' + 2 * ls.length ≤ t + 16 ∧ H' a = some (.lst (ls.map V.int)) ∧ H' b = some (.lst (fs.map V.int)) ∧ Half m fs ls)
      (fun σ H' => lenAt H' a) ?_ ?_ ?_
    · refine ⟨none, none, t, rgI 0 (m : Int), rgI 0 (m : Int), rfl, But.of s0, pail_same hp s0, by rw [rgI_len]; omega, ?_, ?_, half_start m⟩
      · rw [upd_same, rgV_rgI]
      · rw [upd_ne hab, upd_same, rgV_rgI]
    · rintro σ H2 ⟨y5, y6, t1, fs, ls, rfl, b2, hp2, ht1, ea2, eb2, hh⟩
      refine ⟨.ref a, rfl, a, _, rfl, .inl (lstNew ea2), _, _, rfl, rfl, _, rfl, ?_⟩
      have lt1 : lenAt H2 a = ls.length := by rw [lenAt_eq ea2, List.length_map]
      rw [List.length_map]
      refine ite2 (fun z => ?_) (fun z => ?_)
      · match ls, hh, ea2, lt1, ht1, z with
        | [], _, _, _, _, z => exact absurd z (by simp)
        | [x], _, _, _, _, z => exact absurd z (by simp)
        | x :: y0 :: l, hh, ea2, lt1, ht1, _ =>
        -- mark = left.pop(0)
        refine ⟨.ref a, rfl, .inl ⟨rfl, _, lstNew ea2⟩, a, _, 0, 0, .int x, rfl, rfl, ea2, by decide, by decide, by simp [seqIndex?]; omega, rfl, ?_⟩
        have ea3 : (upd H2 a (.lst (((x :: y0 :: l).map V.int).eraseIdx 0))) a = some (.lst ((y0 :: l).map V.int)) := upd_same
        have eb3 : (upd H2 a (.lst (((x :: y0 :: l).map V.int).eraseIdx 0))) b = some (.lst (fs.map V.int)) := by rw [upd_ne hab]; exact eb2
        have hp3 := pail_set (o := .lst (((x :: y0 :: l).map V.int).eraseIdx 0)) hp2 hap
        have b3 : But p H (upd H2 a (.lst (((x :: y0 :: l).map V.int).eraseIdx 0))) := fun k o e z => by rw [upd_ne (ne_of_none e na)]; exact b2 k o e z
        generalize upd H2 a (.lst (((x :: y0 :: l).map V.int).eraseIdx 0)) = H3 at ea3 eb3 hp3 b3 ⊢
        clear ea2 eb2 hp2 b2
        rw [List.length_cons, List.length_cons] at lt1 ht1
        have hxl := hh.lin x (List.mem_cons_self ..)
        have hl8 := half_len (half_drop hh) m8
        rw [List.length_cons] at hl8
        refine ⟨.int st, rfl, rfl, _, rfl, ite2 (fun _ => ?_) (fun _ => ?_)⟩
        · obtain ⟨t5, ht5⟩ : ∃ t5, t5 = t1 := ⟨_, rfl⟩
          have hp5 : PailAt H3 p t5 := by rw [ht5]; exact hp3
          have b5 := b3
          have ea5 := ea3
          have eb5 := eb3
          · refine ⟨.ref a, rfl, .inl ⟨rfl, _, lstNew ea5⟩, .ref p, rfl, .ref a, rfl, a, _, rfl, .inl (lstNew ea5), p, t5, _, rfl, hp5, by omega, by simp; omega, by simp; omega, fun r2 t6 H6 r20 r21 ht6 hp6 b6 => ?_⟩
            have ea6 := b6 _ _ ea5 hap
            have eb6 := b6 _ _ eb5 hbp
            rw [List.length_map, List.length_cons] at r21
            obtain ⟨y, hy⟩ : ∃ y, (y0 :: l)[r2.toNat]? = some y := ⟨_, List.getElem?_eq_getElem (by rw [List.length_cons]; omega)⟩
            refine ⟨a, _, r2, r2.toNat, .int y, rfl, rfl, ea6, by omega, by omega, ?_, by rw [List.getElem?_map, hy]; rfl, ?_⟩
            · rw [List.length_map]
              unfold seqIndex?
              simp only [if_neg (show ¬ r2 < 0 by omega)]
              rw [if_pos]
              simp only [Bool.and_eq_true, decide_eq_true_eq]
              exact ⟨r20, by rw [List.length_cons]; omega⟩
            have hyl := (half_drop hh).lin y (List.mem_of_getElem? hy)
            have hfl := hh.len
            have b06 : But p H H6 := b5.trans b6
            have ea7 : (upd H6 a (.lst (((y0 :: l).map V.int).eraseIdx r2.toNat))) a = some (.lst (((y0 :: l).eraseIdx r2.toNat).map V.int)) := by rw [upd_same, erase_map]
            have eb7 : (upd H6 a (.lst (((y0 :: l).map V.int).eraseIdx r2.toNat))) b = some (.lst (fs.map V.int)) := by rw [upd_ne hab]; exact eb6
            have hp7 := pail_set (o := .lst (((y0 :: l).map V.int).eraseIdx r2.toNat)) hp6 hap
            have b7 : But p H (upd H6 a (.lst (((y0 :: l).map V.int).eraseIdx r2.toNat))) := fun k o e z => by rw [upd_ne (ne_of_none e na)]; exact b06 k o e z
            generalize upd H6 a (.lst (((y0 :: l).map V.int).eraseIdx r2.toNat)) = H7 at ea7 eb7 hp7 b7 ⊢
            refine ⟨.int y, rfl, .int x, rfl, two, fun T nT => ?_⟩
            have sT := same_upd (o := .tup [.int y, .int x]) nT
            have eT : (upd H7 T (.tup [.int y, .int x])) T = some (.tup [.int y, .int x]) := upd_same
            refine ⟨T, _, rfl, tupNew eT, rfl, ?_⟩
            have ea8 := sT _ _ ea7
            have eb8 := sT _ _ eb7
            have hp8 := pail_same hp7 sT
            have b8 := b7.trans (But.of (p := p) sT)
            generalize upd H7 T (.tup [.int y, .int x]) = H8 at ea8 eb8 hp8 b8 ⊢
            refine ⟨_, _, rfl, .ref b, rfl, .int x, rfl, b, _, x, x.toNat, rfl, rfl, eb8, ix_at (by rw [List.length_map]; omega) hxl.1, ?_⟩
            refine ⟨_, _, rfl, .ref b, rfl, .int y, rfl, b, _, y, y.toNat, rfl, rfl, upd_same, ix_at (by rw [List.length_set, List.length_map]; omega) hyl.1, rfl, ?_⟩
            have hlen : ((y0 :: l).eraseIdx r2.toNat).length = l.length := by rw [List.length_eraseIdx_of_lt (by rw [List.length_cons]; omega)]; rfl
            refine ⟨⟨_, _, t6, (fs.set x.toNat y).set y.toNat x, (y0 :: l).eraseIdx r2.toNat, rfl, fun k o e z => ?_, pail_set (pail_set hp8 hbp) hbp, by rw [hlen]; omega, ?_, ?_, half_pair hh hy⟩, ?_⟩
            · rw [upd_ne (ne_of_none e nb), upd_ne (ne_of_none e nb)]; exact b8 k o e z
            · rw [upd_ne hab.symm, upd_ne hab.symm]; exact ea8
            · rw [upd_same, List.map_set, List.map_set]
            · rw [lenAt_eq (xs := ((y0 :: l).eraseIdx r2.toNat).map V.int) (by rw [upd_ne hab.symm, upd_ne hab.symm]; exact ea8), lt1, List.length_map, hlen]; omega
        · refine ⟨.int st, rfl, _, _, rfl, rfl, _, rfl, ite2 (fun _ => ?_) (fun _ => ?_)⟩
          · refine ⟨.ref p, rfl, p, t1, 2, rfl, hp3, by omega, by decide, by decide, fun r t5 H5 r0 r1 ht5 hp5 b5' => ⟨rfl, _, rfl, ite2 (fun _ => ?_) (fun _ => ?_)⟩⟩
            · have ea5 := b5' _ _ ea3 hap
              have eb5 := b5' _ _ eb3 hbp
              have b5 := b3.trans b5'
              · refine ⟨.ref a, rfl, .inl ⟨rfl, _, lstNew ea5⟩, .ref p, rfl, .ref a, rfl, a, _, rfl, .inl (lstNew ea5), p, t5, _, rfl, hp5, by omega, by simp; omega, by simp; omega, fun r2 t6 H6 r20 r21 ht6 hp6 b6 => ?_⟩
                have ea6 := b6 _ _ ea5 hap
                have eb6 := b6 _ _ eb5 hbp
                rw [List.length_map, List.length_cons] at r21
                obtain ⟨y, hy⟩ : ∃ y, (y0 :: l)[r2.toNat]? = some y := ⟨_, List.getElem?_eq_getElem (by rw [List.length_cons]; omega)⟩
                refine ⟨a, _, r2, r2.toNat, .int y, rfl, rfl, ea6, by omega, by omega, ?_, by rw [List.getElem?_map, hy]; rfl, ?_⟩
                · rw [List.length_map]
                  unfold seqIndex?
                  simp only [if_neg (show ¬ r2 < 0 by omega)]
                  rw [if_pos]
                  simp only [Bool.and_eq_true, decide_eq_true_eq]
                  exact ⟨r20, by rw [List.length_cons]; omega⟩
                have hyl := (half_drop hh).lin y (List.mem_of_getElem? hy)
                have hfl := hh.len
                have b06 : But p H H6 := b5.trans b6
                have ea7 : (upd H6 a (.lst (((y0 :: l).map V.int).eraseIdx r2.toNat))) a = some (.lst (((y0 :: l).eraseIdx r2.toNat).map V.int)) := by rw [upd_same, erase_map]
                have eb7 : (upd H6 a (.lst (((y0 :: l).map V.int).eraseIdx r2.toNat))) b = some (.lst (fs.map V.int)) := by rw [upd_ne hab]; exact eb6
                have hp7 := pail_set (o := .lst (((y0 :: l).map V.int).eraseIdx r2.toNat)) hp6 hap
                have b7 : But p H (upd H6 a (.lst (((y0 :: l).map V.int).eraseIdx r2.toNat))) := fun k o e z => by rw [upd_ne (ne_of_none e na)]; exact b06 k o e z
                generalize upd H6 a (.lst (((y0 :: l).map V.int).eraseIdx r2.toNat)) = H7 at ea7 eb7 hp7 b7 ⊢
                refine ⟨.int y, rfl, .int x, rfl, two, fun T nT => ?_⟩
                have sT := same_upd (o := .tup [.int y, .int x]) nT
                have eT : (upd H7 T (.tup [.int y, .int x])) T = some (.tup [.int y, .int x]) := upd_same
                refine ⟨T, _, rfl, tupNew eT, rfl, ?_⟩
                have ea8 := sT _ _ ea7
                have eb8 := sT _ _ eb7
                have hp8 := pail_same hp7 sT
                have b8 := b7.trans (But.of (p := p) sT)
                generalize upd H7 T (.tup [.int y, .int x]) = H8 at ea8 eb8 hp8 b8 ⊢
                refine ⟨_, _, rfl, .ref b, rfl, .int x, rfl, b, _, x, x.toNat, rfl, rfl, eb8, ix_at (by rw [List.length_map]; omega) hxl.1, ?_⟩
                refine ⟨_, _, rfl, .ref b, rfl, .int y, rfl, b, _, y, y.toNat, rfl, rfl, upd_same, ix_at (by rw [List.length_set, List.length_map]; omega) hyl.1, rfl, ?_⟩
                have hlen : ((y0 :: l).eraseIdx r2.toNat).length = l.length := by rw [List.length_eraseIdx_of_lt (by rw [List.length_cons]; omega)]; rfl
                refine ⟨⟨_, _, t6, (fs.set x.toNat y).set y.toNat x, (y0 :: l).eraseIdx r2.toNat, rfl, fun k o e z => ?_, pail_set (pail_set hp8 hbp) hbp, by rw [hlen]; omega, ?_, ?_, half_pair hh hy⟩, ?_⟩
                · rw [upd_ne (ne_of_none e nb), upd_ne (ne_of_none e nb)]; exact b8 k o e z
                · rw [upd_ne hab.symm, upd_ne hab.symm]; exact ea8
                · rw [upd_same, List.map_set, List.map_set]
                · rw [lenAt_eq (xs := ((y0 :: l).eraseIdx r2.toNat).map V.int) (by rw [upd_ne hab.symm, upd_ne hab.symm]; exact ea8), lt1, List.length_map, hlen]; omega
            · refine ⟨⟨_, _, t5, fs, y0 :: l, rfl, b3.trans b5', hp5, by rw [List.length_cons]; omega, b5' _ _ ea3 hap, b5' _ _ eb3 hbp, half_drop hh⟩, ?_⟩
              rw [lenAt_eq (b5' _ _ ea3 hap), lt1, List.length_map, List.length_cons]; omega
          · refine ⟨⟨_, _, t1, fs, y0 :: l, rfl, b3, hp3, by rw [List.length_cons]; omega, ea3, eb3, half_drop hh⟩, ?_⟩
            rw [lenAt_eq ea3, lt1, List.length_map, List.length_cons]; omega
      · have hh3 : Half m fs [] := half_sub hh List.nodup_nil (by simp)
        refine ⟨.ref b, rfl, .inl ⟨b, _, rfl, lstNew eb2, fun u nu => ?_⟩⟩
        exact q _ u t1 fs (pail_new hp2 nu) (by omega) (b2.trans (But.of (same_upd nu))) (tupNew upd_same) (half_mir hh3 m1 m8) hh3.len
    · intro σ H1 Q1 Q2 hq h
      obtain ⟨v, e, a', xs', h1, h2, n1, n2, h3, h4, k, h5, h6⟩ := h
      exact ⟨v, e, a', xs', h1, h2, n1, n2, h3, h4, k, h5, hq _ _ h6⟩
end
end K10
set_option maxHeartbeats 4000000
namespace K10
open PySem PySem.Spec PyProof.Rows L2 RV
def Kd (wh : Int) (v : V) : Prop := v = .non ∨ ∃ n : Int, v = .int n ∧ 0 ≤ n ∧ n < wh
section
variable {P : Program} {w : World} {K : PySem.W.Frag} {mg : Str → Option Value} {base : Heap}
/-! ### _law_kinds -/
theorem scKinds : FnScope ["_law_pot", "_law_mirrors", "_law_wheel", "_law_kind", "_law_found", "_law_mark", "_law_other", "_law_some", "_law_n"] ["_law_pot", "_law_mirrors", "_law_wheel", "_law_kind"] (defScope sKinds) := ⟨rfl, rfl, rfl, by decide +kernel, rfl, by decide +kernel, by decide +kernel⟩
def spKinds (K : PySem.W.Frag) : Sp := fun vs H Q _ => ∃ (p u : Addr) (t : Nat) (wh : Nat) (kd : Int) (ns : List Int), vs = [.ref p, .ref u, .int (wh : Int), .int kd] ∧ PailAt H p t ∧ t ≤ 3500 ∧ SqT K H u (ns.map V.int) ∧ Mir ns ∧ 1 ≤ wh ∧ wh ≤ 100 ∧ 0 ≤ kd ∧ kd < (wh : Int) ∧
  ∀ (H' : Hp) (L : Addr) (t' : Nat) (xs : List V), PailAt H' p t' → t' ≤ t + 8 → But p H H' → H L = none → H' L = some (.lst xs) → xs.length = ns.length → (∀ v ∈ xs, Kd (wh : Int) v) → Q (.ref L) H'
theorem ok_kinds {f fO fD : Addr} {fd fdO fdD : FuncData} (F : Fun K "_law_kinds" "_law_kinds" sKinds f fd) (DO : DefAt K mg "_law_of" sOf ["_law_pot", "_law_some"] fO fdO) (DD : DefAt K mg "_law_take" sDraw ["_law_pot", "_law_many"] fD fdD) (B : Bare mg) : FnOk P w K mg base CX0 3 f fd ["_law_pot", "_law_mirrors", "_law_wheel", "_law_kind"] (spKinds K) := by
  have GO : FnOk P w K mg base CX0 2 fO fdO ["_law_pot", "_law_some"] (spOf K) := ok_of DO.fn DD B
  refine F.ok scKinds (fun vs H Q E h => ?_) (fun cdv A outer s H vs Q E hr h => ?_)
  · obtain ⟨p, u, t, wh, kd, ns, rfl, _⟩ := h
    rfl
  · obtain ⟨p, u, t, wh, kd, ns, rfl, hp, ht, hU, M, w1, w2, k1, k2, q⟩ := h
    have two : (2 : Nat) ≤ sizeLine := by decide
    have one : (1 : Nat) ≤ sizeLine := by decide
    refine ⟨_, pss_cons (ps_set (i := 4) scKinds.nd rfl (Or.inl rfl) (pe_op op_rep (pe_lst (pa_cons pe_non pa_nil)) (pe_callB call_len_seq (by rfl) B.len PySem.boot_len (pa_cons (pv 1) pa_nil))))
      (pss_cons (ps_for PassesOwn.never rfl (pi_enT (by rfl) B.enumerate (pa_cons (pv 1) pa_nil)) (pg_tup rfl (pgs_cons (pg_name (i := 5) scKinds.nd rfl (Or.inr rfl)) (pgs_cons (pg_name (i := 6) scKinds.nd rfl (Or.inr rfl)) pgs_nil)))
        (pss_cons (ps_setLc (i := 7) (own := [("_law_n", 8)]) (g := gName 8) rfl scKinds.nd rfl rfl (by rfl) (pi_range1 (by rfl) B.range (pa_cons (pv 2) pa_nil)) (blkOk_by (N := ["_law_pot", "_law_mirrors", "_law_wheel", "_law_kind", "_law_found", "_law_mark", "_law_other", "_law_some", "_law_n"]) (sc := defScope sKinds) (by decide +kernel))
            (fun _ _ _ _ _ => pg_name (i := 8) scKinds.nd rfl (Or.inl rfl))
            (fun _ _ _ _ _ => pts_one (PW.pt (pw_or (pt_cmpR op_ne (pv 5) (pv 6) (nomark _)) (pw_or1 (pt_cmpR op_eq (pe_op op_mod (pe_op op_sub (pe_op op_mul pe_int (pv 8)) (pv 3)) (pv 2)) pe_int (nomark _))))))
            (fun _ _ _ _ _ => pv 8))
        (pss_one (ps_if (PW.pt (pw_and (pt_cmpR op_isN (pe_ix ix_list (pv 4) (pv 5) (fun _ _ => rfl)) pe_non (nomark _)) (pw_and1 (pt_cmpR (op_neD hr.units) (pv 7) (pe_lst pa_nil) (nomark _)))))
          (pss_cons (ps_asg (pe_call GO hr (by rfl) DO.mg DO.fn.kp DO.bi .nil pass0 (pa_cons (pv 0) (pa_cons (pv 7) pa_nil))) (pg_sub (pv 4) (pv 5) set_list))
          (pss_one (ps_asg (pe_op op_mod (pe_op op_sub (pv 3) (pe_ix ix_list (pv 4) (pv 5) (fun _ _ => rfl))) (pv 2)) (pg_sub (pv 4) (pv 6) set_list)))) pss_nil))))
      (pss_one (ps_ret (pv 4)))), ?_⟩
    have m8 := M.few
    have lm : (ns.map V.int).length = ns.length := List.length_map ..
    refine ⟨one, fun N nN => ?_⟩
    have sN := same_upd (o := .lst [.non]) nN
    refine ⟨.ref u, rfl, u, _, rfl, .inr (sqT_same sN hU), N, _, _, rfl, rfl, upd_same, by omega, by omega, ?_, fun L nL => ?_⟩
    · rw [lm, Int.toNat_natCast]; exact Nat.le_trans (by simp; omega) (show 8 ≤ sizeLine by decide)
    rw [lm, Int.toNat_natCast]
    have eR : (List.replicate ns.length [V.non]).flatten = List.replicate ns.length V.non := by
      generalize ns.length = n
      induction n with
      | zero => rfl
      | succ n ih => rw [List.replicate_succ, List.flatten_cons, ih]; rfl
    rw [eR]
    have sL := sN.trans (same_upd (o := .lst (List.replicate ns.length V.non)) nL)
    have nLH : H L = none := sN.free nL
    have hLp : L ≠ p := pail_ne (pail_same hp sN) nL
    have eL0 : (upd (upd H N (.lst [.non])) L (.lst (List.replicate ns.length V.non))) L = some (.lst (List.replicate ns.length V.non)) := upd_same
    have hp0 := pail_same hp sL
    generalize upd (upd H N (.lst [.non])) L (.lst (List.replicate ns.length V.non)) = H0 at sL eL0 hp0 ⊢
    refine ⟨.ref u, rfl, u, _, rfl, sqT_same sL hU, ?_⟩
    refine for_it (walk_enT (K := K) (a := u) (xs := ns.map V.int)) (fun i σ H' => ∃ (y5 y6 y7 y8 : Option V) (t' : Nat) (xs : List V), σ = [some (.ref p), some (.ref u), some (.int (wh : Int)), some (.int kd), some (.ref L), y5, y6, y7, y8] ∧ But p H H' ∧ PailAt H' p t' ∧ t' ≤ t + i ∧ H' L = some (.lst xs) ∧ xs.length = ns.length ∧ ∀ v ∈ xs, Kd (wh : Int) v)
      ⟨none, none, none, none, t, _, rfl, But.of sL, hp0, by omega, eL0, List.length_replicate, fun v hv => .inl (List.eq_of_mem_replicate hv)⟩ (fun i σ H' _ h => ?_) (fun i x σ H1 H2 hx h y => ?_) (fun σ H' h => ?_)
    · obtain ⟨_, _, _, _, _, _, _, b', _⟩ := h
      exact sqT_pail hp b' hU
    · obtain ⟨y5, y6, y7, y8, t1, xs, rfl, b1, hp1, ht1, eL, hxl, hK⟩ := h
      obtain ⟨T0, x1, x2, rfl, nT, rfl, e1, e2⟩ := y
      have e1' : x1 = .int (i : Nat) := (Option.some.inj e1).symm
      subst e1'
      obtain ⟨mk, g, rfl⟩ := map_at e2
      have sT := same_upd (o := .tup [.int (i : Nat), .int mk]) nT
      refine ⟨T0, _, rfl, tupNew upd_same, rfl, _, _, rfl, _, _, rfl, rfl, ?_⟩
      have b2 := b1.trans (But.of (p := p) sT)
      have hp2 := pail_same hp1 sT
      have eL2 := sT _ _ eL
      generalize upd H1 T0 (.tup [.int (i : Nat), .int mk]) = H2 at b2 hp2 eL2 ⊢
      have hin : i < ns.length := (List.getElem?_eq_some_iff.mp g).1
      have hmk := M.inn mk (List.mem_of_getElem? g)
      refine ⟨.int (wh : Int), rfl, (wh : Int), rfl, by omega, by omega, fun D nD => ?_⟩
      rw [Int.toNat_natCast]
      refine lc_filtR (f := fun n => !decide (V.int (i : Nat) = V.int mk) || decide (V.int ((2 * n - kd) % (wh : Int)) = V.int 0)) (by omega) nD (fun z z0 z1 H3 s3 A B h => ?_) (fun z H' Q h => ⟨.int z, rfl, h⟩) fun H3 s3 eD => ?_
      · refine ⟨.int (i : Nat), rfl, .int mk, rfl, rfl, _, rfl, ?_⟩
        have hh := h H3 (Same.refl _)
        cases e1 : decide (V.int (i : Nat) = V.int mk) with
        | false =>
          rw [e1] at hh
          exact iteT hh
        | true =>
          rw [e1] at hh
          refine iteF ⟨.int z, rfl, 2, z, rfl, rfl, .inl ⟨by decide, by decide⟩, .int kd, rfl, _, kd, rfl, rfl, .int (wh : Int), rfl, _, _, rfl, rfl, (show (0 : Int) < wh by omega), rfl, _, rfl, ?_⟩
          exact hh
      have hsm : ∀ z ∈ (upN wh).filter (fun n => !decide (V.int (i : Nat) = V.int mk) || decide (V.int ((2 * n - kd) % (wh : Int)) = V.int 0)), 0 ≤ z ∧ z < (wh : Int) := fun z hz => by
        have := mem_upN.mp (List.mem_filter.mp hz).1
        omega
      have hsl : ((upN wh).filter (fun n => !decide (V.int (i : Nat) = V.int mk) || decide (V.int ((2 * n - kd) % (wh : Int)) = V.int 0))).length ≤ 100 := Nat.le_trans (List.length_filter_le _ _) (by rw [upN_len]; omega)
      generalize (upN wh).filter (fun n => !decide (V.int (i : Nat) = V.int mk) || decide (V.int ((2 * n - kd) % (wh : Int)) = V.int 0)) = zs at eD hsm hsl
      have hDp : D ≠ p := pail_ne hp2 nD
      have hDL : D ≠ L := (ne_of_none eL2 nD).symm
      have b3 := b2.trans (But.of (p := p) s3)
      have hp3 := pail_same hp2 s3
      have eL3 := s3 _ _ eL2
      obtain ⟨v, hv⟩ : ∃ v, xs[i]? = some v := ⟨_, List.getElem?_eq_getElem (by omega)⟩
      have av : atI xs ((i : Nat) : Int) = some v := atI_nat hv
      have ends : ∀ (H' : Hp) (t' : Nat) (ys : List V) (σ' : L2.St), (∃ y5 y6 y7 y8 : Option V, σ' = [some (.ref p), some (.ref u), some (.int (wh : Int)), some (.int kd), some (.ref L), y5, y6, y7, y8]) → But p H H' → PailAt H' p t' → t' ≤ t1 + 1 → H' L = some (.lst ys) → ys.length = ns.length → (∀ v ∈ ys, Kd (wh : Int) v) → ∃ (y5 y6 y7 y8 : Option V) (t' : Nat) (xs : List V), σ' = [some (.ref p), some (.ref u), some (.int (wh : Int)), some (.int kd), some (.ref L), y5, y6, y7, y8] ∧ But p H H' ∧ PailAt H' p t' ∧ t' ≤ t + (i + 1) ∧ H' L = some (.lst xs) ∧ xs.length = ns.length ∧ ∀ v ∈ xs, Kd (wh : Int) v := fun H' t' ys σ' ⟨y5, y6, y7, y8, e⟩ h1 h2 h3 h4 h5 h6 => ⟨y5, y6, y7, y8, t', ys, e, h1, h2, by omega, h4, h5, h6⟩
      refine ⟨.ref L, rfl, .int (i : Nat), rfl, L, _, _, v, rfl, rfl, lstNew eL3, av, rfl, _, rfl, ?_⟩
      refine ite2 (fun hv0 => ?_) (fun _ => ?_)
      · refine ⟨.ref D, rfl, Nat.zero_le _, fun c nc => ?_⟩
        have sc := same_upd (o := .lst []) nc
        have b4 := b3.trans (But.of (p := p) sc)
        have hp4 := pail_same hp3 sc
        have eL4 := sc _ _ eL3
        have eD4 := sc _ _ eD
        have ec : (upd H3 c (.lst [])) c = some (.lst []) := upd_same
        refine ⟨.list (zs.map PyData.int), .list (([] : List Int).map PyData.int), .lst (lstNew eD4) (dpInts zs), .lst (lstNew ec) .nil, shapedL zs, shapedL [], _, rfl, ?_⟩
        rw [eqvL]
        generalize upd H3 c (.lst []) = H4 at b4 hp4 eL4 eD4 ⊢
        cases zs with
        | nil =>
          rw [decide_eq_true rfl]
          exact iteF (ends _ t1 xs _ ⟨_, _, _, _, rfl⟩ b4 hp4 (by omega) eL4 hxl hK)
        | cons z0 zs =>
          rw [decide_eq_false (by simp)]
          refine iteT ?_
          refine ⟨.ref p, rfl, .ref D, rfl, p, D, t1, _, rfl, hp4, by omega, lstNew eD4, hDp, by simp, by rw [List.length_map]; omega, fun j v t5 H5 hj ht5 hp5 b5 => ?_⟩
          obtain ⟨z, hz, rfl⟩ := map_at hj
          have hz1 := hsm z (List.mem_of_getElem? hz)
          have eL5 := b5 _ _ eL4 hLp
          have b05 := b4.trans b5
          refine ⟨.ref L, rfl, .int (i : Nat), rfl, L, _, (i : Int), i, rfl, rfl, eL5, ix_at (by omega) (by omega), ?_⟩
          have eL6 : (upd H5 L (.lst (xs.set i (.int z)))) L = some (.lst (xs.set i (.int z))) := upd_same
          have b6 : But p H (upd H5 L (.lst (xs.set i (.int z)))) := fun k o e n => by rw [upd_ne (ne_of_none e nLH)]; exact b05 k o e n
          have hp6 := pail_set (o := .lst (xs.set i (.int z))) hp5 hLp
          generalize upd H5 L (.lst (xs.set i (.int z))) = H6 at eL6 b6 hp6 ⊢
          have az : atI (xs.set i (.int z)) ((i : Nat) : Int) = some (.int z) := atI_nat (by rw [List.getElem?_set_self (by omega)])
          refine ⟨.int kd, rfl, .ref L, rfl, .int (i : Nat), rfl, L, _, _, _, rfl, rfl, lstNew eL6, az, kd, z, rfl, rfl, .int (wh : Int), rfl, _, _, rfl, rfl, (show (0 : Int) < wh by omega), ?_⟩
          refine ⟨.ref L, rfl, .int mk, rfl, L, _, mk, mk.toNat, rfl, rfl, eL6, ix_at (by rw [List.length_set]; omega) hmk.1, ?_⟩
          refine ends _ t5 ((xs.set i (.int z)).set mk.toNat (.int ((kd - z) % (wh : Int)))) _ ⟨_, _, _, _, rfl⟩ (fun k o e n => by rw [upd_ne (ne_of_none e nLH)]; exact b6 k o e n) (pail_set hp6 hLp) ht5 upd_same (by rw [List.length_set, List.length_set]; exact hxl) fun v hv => ?_
          rcases List.mem_or_eq_of_mem_set hv with hv | rfl
          · rcases List.mem_or_eq_of_mem_set hv with hv | rfl
            · exact hK v hv
            · exact .inr ⟨z, rfl, hz1⟩
          · exact .inr ⟨_, rfl, Int.emod_nonneg _ (by omega), Int.emod_lt_of_pos _ (by omega)⟩
      · exact iteF (ends _ t1 xs _ ⟨_, _, _, _, rfl⟩ b3 hp3 (by omega) eL3 hxl hK)
    · obtain ⟨y5, y6, y7, y8, t1, xs, rfl, b1, hp1, ht1, eL, hxl, hK⟩ := h
      exact ⟨.ref L, rfl, q _ L t1 xs hp1 (by rw [lm] at ht1; omega) b1 nLH eL hxl hK⟩
end
end K10
set_option maxHeartbeats 4000000
namespace K10
open PySem PySem.Spec PyProof.Rows L2 RV
/-- a list of at most n pairs of marks -/
def PairsH (m : Int) (H : Hp) (L : Addr) (n : Nat) : Prop := ∃ qs : List (List Int), LotsH H L qs ∧ (∀ q ∈ qs, Pr m q) ∧ qs.length ≤ n
theorem PairsH.nil {m : Int} {H : Hp} {L : Addr} (e : H L = some (.lst [])) : PairsH m H L 0 := ⟨[], ⟨[], rfl, e, fun _ z => nomatch z⟩, fun _ z => (nomatch z), Nat.le_refl _⟩
theorem PairsH.le {m : Int} {H : Hp} {L : Addr} {n k : Nat} (h : PairsH m H L n) (e : n ≤ k) : PairsH m H L k := let ⟨qs, h1, h2, h3⟩ := h; ⟨qs, h1, h2, Nat.le_trans h3 e⟩
theorem PairsH.same {m : Int} {H H' : Hp} {L : Addr} {n : Nat} (h : PairsH m H L n) (s : Same H H') : PairsH m H' L n := let ⟨qs, h1, h2, h3⟩ := h; ⟨qs, h1.same s, h2, h3⟩
theorem PairsH.but {m : Int} {H H' : Hp} {L p : Addr} {n t : Nat} (h : PairsH m H L n) (hp : PailAt H p t) (b : But p H H') (hn : L ≠ p) : PairsH m H' L n := by
  obtain ⟨qs, ⟨ks, h1, h2, h3⟩, h4, h5⟩ := h
  obtain ⟨x, y, e, _⟩ := hp
  exact ⟨qs, ⟨ks, h1, b _ _ h2 hn, fun k hk => b _ _ (h3 k hk) fun z => by have w := h3 k hk; rw [z, e] at w; cases w⟩, h4, h5⟩
theorem PairsH.lst {m : Int} {H : Hp} {L : Addr} {n : Nat} (h : PairsH m H L n) : ∃ vs : List V, H L = some (.lst vs) ∧ vs.length ≤ n := by
  obtain ⟨qs, ⟨ks, h1, h2, h3⟩, h4, h5⟩ := h
  exact ⟨_, h2, by rw [List.length_map, ← List.length_map (f := fun p : Addr × List Int => p.2), h1]; exact h5⟩
theorem PairsH.add {m : Int} {H : Hp} {L T : Addr} {n : Nat} {x y : Int} {vs : List V} (h : PairsH m H L n) (e : H L = some (.lst vs)) (nT : H T = none) (hx : 0 ≤ x ∧ x < m) (hy : 0 ≤ y ∧ y < m) : PairsH m (upd (upd H T (.tup [.int x, .int y])) L (.lst (vs ++ [.ref T]))) L (n + 1) := by
  obtain ⟨qs, ⟨ks, h1, h2, h3⟩, h4, h5⟩ := h
  have sT := same_upd (o := .tup [.int x, .int y]) nT
  have ev : vs = ks.map fun p => V.ref p.1 := by rw [e] at h2; cases h2; rfl
  subst ev
  refine ⟨qs ++ [[x, y]], ⟨ks ++ [(T, [x, y])], by rw [List.map_append, h1]; rfl, by rw [upd_same, List.map_append]; rfl, fun k hk => ?_⟩, fun q hq => ?_, by rw [List.length_append]; simp; omega⟩
  · rcases List.mem_append.mp hk with hk | hk
    · rw [upd_ne (fun z => by have w := h3 k hk; rw [z, e] at w; cases w)]; exact sT _ _ (h3 k hk)
    · rw [List.mem_singleton.mp hk, upd_ne (ne_of_none e nT).symm]; exact upd_same
  · rcases List.mem_append.mp hq with hq | hq
    · exact h4 q hq
    · rw [List.mem_singleton.mp hq]; exact ⟨x, y, rfl, hx, hy⟩
theorem but_free {p a : Addr} {H H' : Hp} {t : Nat} (b : But p H H') (hp : PailAt H' p t) (n : H' a = none) : H a = none := by
  cases e : H a with
  | none => rfl
  | some o =>
    have z := b a o e (pail_ne hp n)
    rw [n] at z; cases z
section
variable {P : Program} {w : World} {K : PySem.W.Frag} {mg : Str → Option Value} {base : Heap}
/-! ### _law_wheel_pairs -/
theorem scWheel : FnScope ["_law_pot", "_law_mirrors", "_law_wheel", "_law_kind", "_law_thick", "_law_numbers", "_law_found", "_law_placed", "_law_a", "_law_b", "_law_mark"] ["_law_pot", "_law_mirrors", "_law_wheel", "_law_kind", "_law_thick"] (defScope sWheel) := ⟨rfl, rfl, rfl, by decide +kernel, rfl, by decide +kernel, by decide +kernel⟩
def spWheel (K : PySem.W.Frag) : Sp := fun vs H Q _ => ∃ (p u : Addr) (t : Nat) (wh : Nat) (kd th : Int) (ns : List Int), vs = [.ref p, .ref u, .int (wh : Int), .int kd, .int th] ∧ PailAt H p t ∧ t ≤ 3400 ∧ SqT K H u (ns.map V.int) ∧ Mir ns ∧ 1 ≤ wh ∧ wh ≤ 100 ∧ 0 ≤ kd ∧ kd < (wh : Int) ∧
  ∀ (H' : Hp) (L : Addr) (t' : Nat), PailAt H' p t' → t' ≤ t + 80 → But p H H' → H L = none → PairsH (ns.length : Int) H' L 64 → Q (.ref L) H'
theorem ok_wheel {f fK fO fD : Addr} {fd fdK fdO fdD : FuncData} (F : Fun K "_law_wheel_pairs" "_law_wheel_pairs" sWheel f fd) (DK : DefAt K mg "_law_kinds" sKinds ["_law_pot", "_law_mirrors", "_law_wheel", "_law_kind"] fK fdK) (DO : DefAt K mg "_law_of" sOf ["_law_pot", "_law_some"] fO fdO) (DD : DefAt K mg "_law_take" sDraw ["_law_pot", "_law_many"] fD fdD) (B : Bare mg) : FnOk P w K mg base CX0 4 f fd ["_law_pot", "_law_mirrors", "_law_wheel", "_law_kind", "_law_thick"] (spWheel K) := by
  have GD : FnOk P w K mg base CX0 1 fD fdD ["_law_pot", "_law_many"] spDraw := ok_draw DD.fn
  have GK : FnOk P w K mg base CX0 3 fK fdK ["_law_pot", "_law_mirrors", "_law_wheel", "_law_kind"] (spKinds K) := ok_kinds DK.fn DO DD B
  refine F.ok scWheel (fun vs H Q E h => ?_) (fun cdv A outer s H vs Q E hr h => ?_)
  · obtain ⟨p, u, t, wh, kd, th, ns, rfl, _⟩ := h
    rfl
  · obtain ⟨p, u, t, wh, kd, th, ns, rfl, hp, ht, hU, M, w1, w2, k1, k2, q⟩ := h
    have two : (2 : Nat) ≤ sizeLine := by decide
    refine ⟨_, pss_cons (ps_asg (pe_tup (pa_cons (pe_call GK hr (by rfl) DK.mg DK.fn.kp DK.bi .nil pass0 (pa_cons (pv 0) (pa_cons (pv 1) (pa_cons (pv 2) (pa_cons (pv 3) pa_nil))))) (pa_cons (pe_lst pa_nil) pa_nil))) (pg_tup rfl (pgs_cons (pg_name (i := 5) scWheel.nd rfl (Or.inr rfl)) (pgs_cons (pg_name (i := 6) scWheel.nd rfl (Or.inl rfl)) pgs_nil))))
      (pss_cons (ps_setLc (i := 7) (own := [("_law_mark", 10)]) (g := gName 10) rfl scWheel.nd rfl rfl (by rfl) (pi_range1 (by rfl) B.range (pa_cons (pe_callB call_len_seq (by rfl) B.len PySem.boot_len (pa_cons (pv 1) pa_nil)) pa_nil)) (blkOk_by (N := ["_law_pot", "_law_mirrors", "_law_wheel", "_law_kind", "_law_thick", "_law_numbers", "_law_found", "_law_placed", "_law_a", "_law_b", "_law_mark"]) (sc := defScope sWheel) (by decide +kernel))
            (fun _ _ _ _ _ => pg_name (i := 10) scWheel.nd rfl (Or.inl rfl))
            (fun _ _ _ _ _ => pts_one (pt_cmpR op_notN (pe_ix (ix_listK (K := K) rfl) (pv 5) (pv 10) (fun _ _ => rfl)) pe_non (nomark _)))
            (fun _ _ _ _ _ => pv 10))
      (pss_cons (ps_for PassesOwn.never rfl (pi_list (pv 7)) (pg_name (i := 8) scWheel.nd rfl (Or.inl rfl))
        (pss_one (ps_for PassesOwn.never rfl (pi_list (pv 7)) (pg_name (i := 9) scWheel.nd rfl (Or.inl rfl))
          (pss_one (ps_if (PW.pt (pw_and (pt_cmpR op_eq (pe_op op_mod (pe_op op_sub (pe_op op_sub (pe_ix ix_list (pv 5) (pv 9) (fun _ _ => rfl)) (pe_ix ix_list (pv 5) (pv 8) (fun _ _ => rfl))) pe_int) (pv 2)) pe_int (nomark _)) (pw_and1 (pt_cmpR op_lt (pe_call GD (hr.mono (by omega)) (by rfl) DD.mg DD.fn.kp DD.bi .nil pass0 (pa_cons (pv 0) (pa_cons pe_int pa_nil))) (pv 4) (nomark _)))))
            (pss_one (ps_expr (pe_bm PySem.F.plainAttrs_list PySem.F.slot_list_append PySem.F.type_list_append mt_append (pv 6) (pa_cons (pe_tup (pa_cons (pv 8) (pa_cons (pv 9) pa_nil))) pa_nil)))) pss_nil)))))
      (pss_one (ps_ret (pv 6))))), ?_⟩
    have m8 := M.few
    have lm : (ns.map V.int).length = ns.length := List.length_map ..
    refine ⟨.ref p, rfl, .ref u, rfl, .int (wh : Int), rfl, .int kd, rfl, p, u, t, wh, kd, ns, rfl, hp, by omega, hU, M, w1, w2, k1, k2, fun H1 N t1 xs hp1 ht1 b1 nN eN hxl hK => ⟨Nat.zero_le _, fun F0 nF' => ⟨two, fun U nU => ?_⟩⟩⟩
    have sF := same_upd (o := .lst []) nF'
    have sU := same_upd (o := .tup [.ref N, .ref F0]) nU
    have eF0 := sU _ _ (upd_same (H := H1) (a := F0) (o := .lst []))
    refine ⟨U, _, rfl, tupNew upd_same, rfl, _, _, rfl, _, _, rfl, rfl, ?_⟩
    have nFH : H F0 = none := but_free b1 hp1 nF'
    have hFp : F0 ≠ p := pail_ne hp1 nF'
    have hNp : N ≠ p := pail_ne hp nN
    have b2 := b1.trans (But.of (p := p) (sF.trans sU))
    have hp2 := pail_same hp1 (sF.trans sU)
    have eN2 := sU _ _ (sF _ _ eN)
    generalize upd (upd H1 F0 (.lst [])) U (.tup [.ref N, .ref F0]) = H2 at b2 hp2 eN2 eF0 ⊢
    refine ⟨.ref u, rfl, u, _, rfl, .inr (sqT_pail hp b2 hU), (ns.length : Int), by rw [lm], by omega, by omega, fun D nD => ?_⟩
    rw [Int.toNat_natCast]
    refine lc_filtR (f := fun z => !decide (xs.getD z.toNat .non = .non)) (by omega) nD (fun z z0 z1 H3 s3 A B h => ?_) (fun z H' Q h => ⟨.int z, rfl, h⟩) fun H3 s3 eD => ?_
    · obtain ⟨v, hv⟩ : ∃ v, xs[z.toNat]? = some v := ⟨_, List.getElem?_eq_getElem (by omega)⟩
      have av : atI xs ((z.toNat : Nat) : Int) = some v := atI_nat hv
      rw [Int.toNat_of_nonneg z0] at av
      refine ⟨.ref N, rfl, .int z, rfl, N, _, _, v, rfl, rfl, lstNew (s3 _ _ eN2), av, rfl, _, rfl, ?_⟩
      have hh := h H3 (Same.refl _)
      rw [show xs.getD z.toNat V.non = v by rw [List.getD_eq_getElem?_getD, hv]; rfl] at hh
      exact hh
    have hsm : ∀ z ∈ (upN ns.length).filter (fun z => !decide (xs.getD z.toNat .non = .non)), (0 ≤ z ∧ z < (ns.length : Int)) ∧ ∃ n : Int, atI xs z = some (.int n) := fun z hz => by
      have h1 := List.mem_filter.mp hz
      have h2 := mem_upN.mp h1.1
      refine ⟨h2, ?_⟩
      obtain ⟨v, hv⟩ : ∃ v, xs[z.toNat]? = some v := ⟨_, List.getElem?_eq_getElem (by omega)⟩
      have h3 := h1.2
      rw [show xs.getD z.toNat V.non = v by rw [List.getD_eq_getElem?_getD, hv]; rfl] at h3
      have av : atI xs ((z.toNat : Nat) : Int) = some v := atI_nat hv
      rw [Int.toNat_of_nonneg h2.1] at av
      rcases hK v (List.mem_of_getElem? hv) with rfl | ⟨n, rfl, _⟩
      · simp at h3
      · exact ⟨n, av⟩
    have hsl : ((upN ns.length).filter (fun z => !decide (xs.getD z.toNat .non = .non))).length ≤ 8 := Nat.le_trans (List.length_filter_le _ _) (by rw [upN_len]; omega)
    generalize (upN ns.length).filter (fun z => !decide (xs.getD z.toNat .non = .non)) = zs at eD hsm hsl
    have lz : (zs.map V.int).length = zs.length := List.length_map ..
    have hDp : D ≠ p := pail_ne hp2 nD
    have hDF : D ≠ F0 := (ne_of_none eF0 nD).symm
    have hNF : N ≠ F0 := ne_of_none eN nF'
    have b3 := b2.trans (But.of (p := p) s3)
    have hp3 := pail_same hp2 s3
    have eN3 := s3 _ _ eN2
    have eF3 := s3 _ _ eF0
    refine ⟨.ref D, rfl, D, rfl, ⟨_, lstNew eD⟩, ?_⟩
    refine for_list (K := K) (a := D) (xs := zs.map V.int) (fun i σ H' => ∃ (y8 y9 y10 : Option V) (t' : Nat), σ = [some (.ref p), some (.ref u), some (.int (wh : Int)), some (.int kd), some (.int th), some (.ref N), some (.ref F0), some (.ref D), y8, y9, y10] ∧ But p H H' ∧ PailAt H' p t' ∧ t' ≤ t + 8 + 8 * i ∧ PairsH (ns.length : Int) H' F0 (8 * i) ∧ H' N = some (.lst xs) ∧ H' D = some (.lst (zs.map V.int)))
      ⟨none, none, none, t1, rfl, b3, hp3, by omega, PairsH.nil eF3, eN3, eD⟩ (fun i σ H' _ h => ?_) (fun i x σ H4 hx h => ?_) (fun σ H' h => ?_)
    · obtain ⟨_, _, _, _, _, _, _, _, _, _, e⟩ := h
      exact lstNew e
    · obtain ⟨y8, y9, y10, t4, rfl, b4, hp4, ht4, hF4, eN4, eD4⟩ := h
      obtain ⟨xa, ga, rfl⟩ := map_at hx
      have hi : i < zs.length := (List.getElem?_eq_some_iff.mp ga).1
      obtain ⟨ha, na, ea⟩ := hsm xa (List.mem_of_getElem? ga)
      refine ⟨.ref D, rfl, D, rfl, ⟨_, lstNew eD4⟩, ?_⟩
      refine for_list (K := K) (a := D) (xs := zs.map V.int) (fun j σ H' => ∃ (y9 y10 : Option V) (t' : Nat), σ = [some (.ref p), some (.ref u), some (.int (wh : Int)), some (.int kd), some (.int th), some (.ref N), some (.ref F0), some (.ref D), some (.int xa), y9, y10] ∧ But p H H' ∧ PailAt H' p t' ∧ t' ≤ t + 8 + 8 * i + j ∧ PairsH (ns.length : Int) H' F0 (8 * i + j) ∧ H' N = some (.lst xs) ∧ H' D = some (.lst (zs.map V.int)))
        ⟨_, _, t4, rfl, b4, hp4, by omega, hF4, eN4, eD4⟩ (fun j σ H' _ h => ?_) (fun j x σ H5 hx5 h => ?_) (fun σ H' h => ?_)
      · obtain ⟨_, _, _, _, _, _, _, _, _, e⟩ := h
        exact lstNew e
      · obtain ⟨y9, y10, t5, rfl, b5, hp5, ht5, hF5, eN5, eD5⟩ := h
        obtain ⟨xb, gb, rfl⟩ := map_at hx5
        have hj : j < zs.length := (List.getElem?_eq_some_iff.mp gb).1
        obtain ⟨hb, nb, eb⟩ := hsm xb (List.mem_of_getElem? gb)
        refine ⟨.ref N, rfl, .int xb, rfl, N, _, _, _, rfl, rfl, lstNew eN5, eb, .ref N, rfl, .int xa, rfl, N, _, _, _, rfl, rfl, lstNew eN5, ea, _, _, rfl, rfl, _, _, rfl, rfl, .int (wh : Int), rfl, _, _, rfl, rfl, (show (0 : Int) < wh by omega), rfl, _, rfl, ite2 (fun _ => ?_) (fun _ => ?_)⟩
        · refine ⟨.ref p, rfl, p, t5, 8, rfl, hp5, by omega, by decide, by decide, fun r t6 H6 r0 r1 ht6 hp6 b6 => ⟨.int th, rfl, _, _, rfl, rfl, _, rfl, ite2 (fun _ => ?_) (fun _ => ?_)⟩⟩
          · have hF6 := hF5.but hp5 b6 hFp
            have eN6 := b6 _ _ eN5 hNp
            have eD6 := b6 _ _ eD5 hDp
            have b06 := b5.trans b6
            obtain ⟨vs, eF6, hvl⟩ := hF6.lst
            refine ⟨.ref F0, rfl, .inl ⟨rfl, _, lstNew eF6⟩, .int xa, rfl, .int xb, rfl, two, fun T nT => ?_⟩
            have sT := same_upd (o := .tup [.int xa, .int xb]) nT
            refine ⟨F0, _, _, rfl, rfl, sT _ _ eF6, few1 (by omega), _, _, t6, rfl, fun k o e n => ?_, pail_set (pail_same hp6 sT) hFp, by omega, hF6.add eF6 nT ha hb, ?_, ?_⟩
            · rw [upd_ne (ne_of_none e nFH)]; exact sT _ _ (b06 k o e n)
            · rw [upd_ne hNF]; exact sT _ _ eN6
            · rw [upd_ne hDF]; exact sT _ _ eD6
          · exact ⟨_, _, t6, rfl, b5.trans b6, hp6, by omega, (hF5.but hp5 b6 hFp).le (by omega), b6 _ _ eN5 hNp, b6 _ _ eD5 hDp⟩
        · exact iteF ⟨_, _, t5, rfl, b5, hp5, by omega, hF5.le (by omega), eN5, eD5⟩
      · obtain ⟨y9, y10, t5, rfl, b5, hp5, ht5, hF5, eN5, eD5⟩ := h
        rw [lz] at ht5 hF5
        exact ⟨_, _, _, t5, rfl, b5, hp5, by omega, hF5.le (by omega), eN5, eD5⟩
    · obtain ⟨y8, y9, y10, t4, rfl, b4, hp4, ht4, hF4, eN4, eD4⟩ := h
      rw [lz] at ht4 hF4
      exact ⟨.ref F0, rfl, q _ F0 t4 hp4 (by omega) b4 nFH (hF4.le (by omega))⟩
end
end K10
set_option maxHeartbeats 4000000
namespace K10
open PySem PySem.Spec PyProof.Rows L2 RV
section
variable {P : Program} {w : World} {K : PySem.W.Frag} {mg : Str → Option Value} {base : Heap}
/-! ### _law_side_pairs -/
theorem scSide : FnScope ["_law_pot", "_law_mirrors", "_law_thick", "_law_found", "_law_a", "_law_b", "_law_side", "_law_other"] ["_law_pot", "_law_mirrors", "_law_thick"] (defScope sSide) := ⟨rfl, rfl, rfl, by decide +kernel, rfl, by decide +kernel, by decide +kernel⟩
def spSide (K : PySem.W.Frag) : Sp := fun vs H Q _ => ∃ (p u : Addr) (t : Nat) (th : Int) (ns : List Int), vs = [.ref p, .ref u, .int th] ∧ PailAt H p t ∧ t ≤ 3400 ∧ SqT K H u (ns.map V.int) ∧ Mir ns ∧
  ∀ (H' : Hp) (L : Addr) (t' : Nat), PailAt H' p t' → t' ≤ t + 128 → But p H H' → H L = none → PairsH (ns.length : Int) H' L 64 → Q (.ref L) H'
theorem ok_side {f fD : Addr} {fd fdD : FuncData} (F : Fun K "_law_side_pairs" "_law_side_pairs" sSide f fd) (DD : DefAt K mg "_law_take" sDraw ["_law_pot", "_law_many"] fD fdD) (B : Bare mg) : FnOk P w K mg base CX0 2 f fd ["_law_pot", "_law_mirrors", "_law_thick"] (spSide K) := by
  have GD : FnOk P w K mg base CX0 1 fD fdD ["_law_pot", "_law_many"] spDraw := ok_draw DD.fn
  refine F.ok scSide (fun vs H Q E h => ?_) (fun cdv A outer s H vs Q E hr h => ?_)
  · obtain ⟨p, u, t, th, ns, rfl, _⟩ := h
    rfl
  · obtain ⟨p, u, t, th, ns, rfl, hp, ht, hU, M, q⟩ := h
    have two : (2 : Nat) ≤ sizeLine := by decide
    refine ⟨_, pss_cons (ps_set (i := 3) scSide.nd rfl (Or.inl rfl) (pe_lst pa_nil))
      (pss_cons (ps_for PassesOwn.never rfl (pi_range1 (by rfl) B.range (pa_cons (pe_callB call_len_seq (by rfl) B.len PySem.boot_len (pa_cons (pv 1) pa_nil)) pa_nil)) (pg_name (i := 4) scSide.nd rfl (Or.inl rfl))
        (pss_one (ps_for PassesOwn.never rfl (pi_range1 (by rfl) B.range (pa_cons (pe_callB call_len_seq (by rfl) B.len PySem.boot_len (pa_cons (pv 1) pa_nil)) pa_nil)) (pg_name (i := 5) scSide.nd rfl (Or.inl rfl))
          (pss_cons (ps_par (i := 6) (j := 7) (by rfl) scSide.nd rfl rfl (by decide) rfl rfl (pa_cons (pe_callTy call_int1 (by rfl) B.int boot_int (pa_cons (pe_cmpR op_gt (pv 4) (pe_ix ix_tup (pv 1) (pv 4) (fun _ _ => rfl)) (nomark _)) pa_nil)) (pa_cons (pe_callTy call_int1 (by rfl) B.int boot_int (pa_cons (pe_cmpR op_gt (pv 5) (pe_ix ix_tup (pv 1) (pv 5) (fun _ _ => rfl)) (nomark _)) pa_nil)) pa_nil)) (by rfl))
          (pss_one (ps_if (PW.pt (pw_or (PW.pt (pw_and (pt_cmpR op_eq (pv 6) (pv 7) (nomark _)) (pw_and1 (pt_cmpR op_lt (pe_call GD hr (by rfl) DD.mg DD.fn.kp DD.bi .nil pass0 (pa_cons (pv 0) (pa_cons pe_int pa_nil))) (pv 2) (nomark _)))))
              (pw_or1 (PW.pt (pw_and (pt_cmpR op_lt (pv 6) (pv 7) (nomark _)) (pw_and1 (pt_cmpR op_eq (pe_call GD hr (by rfl) DD.mg DD.fn.kp DD.bi .nil pass0 (pa_cons (pv 0) (pa_cons pe_int pa_nil))) pe_int (nomark _))))))))
            (pss_one (ps_expr (pe_bm PySem.F.plainAttrs_list PySem.F.slot_list_append PySem.F.type_list_append mt_append (pv 3) (pa_cons (pe_tup (pa_cons (pv 4) (pa_cons (pv 5) pa_nil))) pa_nil)))) pss_nil))))))
      (pss_one (ps_ret (pv 3)))), ?_⟩
    have m8 := M.few
    have lm : (ns.map V.int).length = ns.length := List.length_map ..
    refine ⟨Nat.zero_le _, fun F0 nF => ?_⟩
    have sF := same_upd (o := .lst []) nF
    have hFp : F0 ≠ p := pail_ne hp nF
    have eF0 : (upd H F0 (.lst [])) F0 = some (.lst []) := upd_same
    have hp0 := pail_same hp sF
    generalize upd H F0 (.lst []) = H0 at sF eF0 hp0 ⊢
    refine ⟨.ref u, rfl, u, _, rfl, .inr (sqT_same sF hU), (ns.length : Int), by rw [lm], by omega, by omega, ?_⟩
    rw [Int.toNat_natCast]
    have at_ : ∀ i : Nat, i < ns.length → ∃ m : Int, atI (ns.map V.int) ((i : Nat) : Int) = some (.int m) := fun i hi => ⟨ns[i], atI_nat (by rw [List.getElem?_map, List.getElem?_eq_getElem hi]; rfl)⟩
    refine for_range (lo := 0) (n := _) (fun i σ H' => ∃ (y4 y5 y6 y7 : Option V) (t' : Nat), σ = [some (.ref p), some (.ref u), some (.int th), some (.ref F0), y4, y5, y6, y7] ∧ But p H H' ∧ PailAt H' p t' ∧ t' ≤ t + 16 * i ∧ PairsH (ns.length : Int) H' F0 (8 * i))
      ⟨none, none, none, none, t, rfl, But.of sF, hp0, by omega, PairsH.nil eF0⟩ ?_ ?_
    · rintro i σ H4 hi ⟨y4, y5, y6, y7, t4, rfl, b4, hp4, ht4, hF4⟩
      have e0 : (0 + ((i : Nat) : Int)) = (i : Int) := by omega
      rw [e0]
      obtain ⟨ma, ea⟩ := at_ i hi
      refine ⟨.ref u, rfl, u, _, rfl, .inr (sqT_pail hp b4 hU), (ns.length : Int), by rw [lm], by omega, by omega, ?_⟩
      rw [Int.toNat_natCast]
      refine for_range (lo := 0) (n := _) (fun j σ H' => ∃ (y5 y6 y7 : Option V) (t' : Nat), σ = [some (.ref p), some (.ref u), some (.int th), some (.ref F0), some (.int (i : Int)), y5, y6, y7] ∧ But p H H' ∧ PailAt H' p t' ∧ t' ≤ t + 16 * i + 2 * j ∧ PairsH (ns.length : Int) H' F0 (8 * i + j))
        ⟨_, _, _, t4, rfl, b4, hp4, by omega, hF4⟩ ?_ ?_
      · rintro j σ H5 hj ⟨y5, y6, y7, t5, rfl, b5, hp5, ht5, hF5⟩
        have e0 : (0 + ((j : Nat) : Int)) = (j : Int) := by omega
        rw [e0]
        obtain ⟨mb, eb⟩ := at_ j hj
        have hU5 := sqT_pail hp b5 hU
        have keep : ∀ (H6 : Hp) (t6 : Nat) (σ' : L2.St), (∃ y6 y7 : Option V, σ' = [some (.ref p), some (.ref u), some (.int th), some (.ref F0), some (.int (i : Int)), some (.int (j : Int)), y6, y7]) → But p H5 H6 → PailAt H6 p t6 → t6 ≤ t5 + 2 → ∃ (y5 y6 y7 : Option V) (t' : Nat), σ' = [some (.ref p), some (.ref u), some (.int th), some (.ref F0), some (.int (i : Int)), y5, y6, y7] ∧ But p H H6 ∧ PailAt H6 p t' ∧ t' ≤ t + 16 * i + 2 * (j + 1) ∧ PairsH (ns.length : Int) H6 F0 (8 * i + (j + 1)) := fun H6 t6 σ' ⟨y6, y7, e⟩ b6 hp6 ht6 => ⟨_, y6, y7, t6, e, b5.trans b6, hp6, by omega, (hF5.but hp5 b6 hFp).le (by omega)⟩
        have add : ∀ (H6 : Hp) (t6 : Nat) (σ' : L2.St), (∃ y6 y7 : Option V, σ' = [some (.ref p), some (.ref u), some (.int th), some (.ref F0), some (.int (i : Int)), some (.int (j : Int)), y6, y7]) → But p H5 H6 → PailAt H6 p t6 → t6 ≤ t5 + 2 → ∃ vs : List V, H6 F0 = some (.lst vs) ∧ vs.length ≤ 64 ∧ ∀ T, H6 T = none → ∃ (y5 y6 y7 : Option V) (t' : Nat), σ' = [some (.ref p), some (.ref u), some (.int th), some (.ref F0), some (.int (i : Int)), y5, y6, y7] ∧ But p H (upd (upd H6 T (.tup [.int (i : Int), .int (j : Int)])) F0 (.lst (vs ++ [.ref T]))) ∧ PailAt (upd (upd H6 T (.tup [.int (i : Int), .int (j : Int)])) F0 (.lst (vs ++ [.ref T]))) p t' ∧ t' ≤ t + 16 * i + 2 * (j + 1) ∧ PairsH (ns.length : Int) (upd (upd H6 T (.tup [.int (i : Int), .int (j : Int)])) F0 (.lst (vs ++ [.ref T]))) F0 (8 * i + (j + 1)) := fun H6 t6 σ' ⟨y6, y7, e⟩ b6 hp6 ht6 => by
          have hF6 := hF5.but hp5 b6 hFp
          obtain ⟨vs, eF6, hvl⟩ := hF6.lst
          refine ⟨vs, eF6, by omega, fun T nT => ?_⟩
          have sT := same_upd (o := .tup [.int (i : Int), .int (j : Int)]) nT
          refine ⟨_, y6, y7, t6, e, fun k o e n => ?_, pail_set (pail_same hp6 sT) hFp, by omega, hF6.add eF6 nT (by omega) (by omega)⟩
          rw [upd_ne (ne_of_none e nF)]; exact sT _ _ ((b5.trans b6) k o e n)
        refine ⟨.int (i : Int), rfl, .ref u, rfl, .int (i : Int), rfl, u, _, _, _, rfl, rfl, hU5, ea, _, _, rfl, rfl, .inr ⟨_, rfl, .int (j : Int), rfl, .ref u, rfl, .int (j : Int), rfl, u, _, _, _, rfl, rfl, hU5, eb, _, _, rfl, rfl, .inr ⟨_, rfl, _, _, rfl, ?_⟩⟩⟩
        refine ⟨_, rfl, _, rfl, rfl, _, rfl, ite2 (fun _ => ?_) (fun _ => ?_)⟩
        · refine ⟨.ref p, rfl, p, t5, 8, rfl, hp5, by omega, by decide, by decide, fun r t6 H6 r0 r1 ht6 hp6 b6 => ⟨.int th, rfl, _, _, rfl, rfl, _, rfl, ite2 (fun _ => iteT ?_) (fun _ => ?_)⟩⟩
          · obtain ⟨vs, eF6, hvl, z⟩ := add _ t6 _ ⟨_, _, rfl⟩ b6 hp6 (by omega)
            exact ⟨.ref F0, rfl, .inl ⟨rfl, _, lstNew eF6⟩, .int (i : Int), rfl, .int (j : Int), rfl, two, fun T nT => ⟨F0, _, _, rfl, rfl, same_upd nT _ _ eF6, few1 (by omega), z T nT⟩⟩
          · refine ⟨_, rfl, _, rfl, _, _, rfl, rfl, _, rfl, ite2 (fun _ => ?_) (fun _ => ?_)⟩
            · refine ⟨.ref p, rfl, p, t6, 6, rfl, hp6, by omega, by decide, by decide, fun r2 t7 H7 r20 r21 ht7 hp7 b7 => ⟨rfl, _, rfl, ite2 (fun _ => ?_) (fun _ => ?_)⟩⟩
              · obtain ⟨vs, eF6, hvl, z⟩ := add _ t7 _ ⟨_, _, rfl⟩ (b6.trans b7) hp7 (by omega)
                exact ⟨.ref F0, rfl, .inl ⟨rfl, _, lstNew eF6⟩, .int (i : Int), rfl, .int (j : Int), rfl, two, fun T nT => ⟨F0, _, _, rfl, rfl, same_upd nT _ _ eF6, few1 (by omega), z T nT⟩⟩
              · exact keep _ t7 _ ⟨_, _, rfl⟩ (b6.trans b7) hp7 (by omega)
            · exact iteF (keep _ t6 _ ⟨_, _, rfl⟩ b6 hp6 (by omega))
        · refine iteF ?_
          refine ⟨_, rfl, _, rfl, _, _, rfl, rfl, _, rfl, ite2 (fun _ => ?_) (fun _ => ?_)⟩
          · refine ⟨.ref p, rfl, p, t5, 6, rfl, hp5, by omega, by decide, by decide, fun r2 t7 H7 r20 r21 ht7 hp7 b7 => ⟨rfl, _, rfl, ite2 (fun _ => ?_) (fun _ => ?_)⟩⟩
            · obtain ⟨vs, eF6, hvl, z⟩ := add _ t7 _ ⟨_, _, rfl⟩ ((But.refl p H5).trans b7) hp7 (by omega)
              exact ⟨.ref F0, rfl, .inl ⟨rfl, _, lstNew eF6⟩, .int (i : Int), rfl, .int (j : Int), rfl, two, fun T nT => ⟨F0, _, _, rfl, rfl, same_upd nT _ _ eF6, few1 (by omega), z T nT⟩⟩
            · exact keep _ t7 _ ⟨_, _, rfl⟩ ((But.refl p H5).trans b7) hp7 (by omega)
          · exact iteF (keep _ t5 _ ⟨_, _, rfl⟩ (But.refl p H5) hp5 (by omega))
      · rintro σ H5 ⟨y5, y6, y7, t5, rfl, b5, hp5, ht5, hF5⟩
        exact ⟨_, _, _, _, t5, rfl, b5, hp5, by omega, hF5.le (by omega)⟩
    · rintro σ H4 ⟨y4, y5, y6, y7, t4, rfl, b4, hp4, ht4, hF4⟩
      exact ⟨.ref F0, rfl, q _ F0 t4 hp4 (by omega) b4 nF (hF4.le (by omega))⟩
end
end K10
set_option maxHeartbeats 4000000
namespace K10
open PySem PySem.Spec PyProof.Rows L2 RV
/-- mirrors and steps as one pair -/
def OwnH (K : PySem.W.Frag) (H : Hp) (R : Addr) (ns : List Int) (ps : List (List Int)) : Prop := ∃ u c : Addr, H R = some (.tup [.ref u, .ref c]) ∧ SqT K H u (ns.map V.int) ∧ TupsH H c ps ∧ Mir ns ∧ Stp ns ps
theorem sqT_lst {K : PySem.W.Frag} {H : Hp} {D : Addr} {vs : List V} {o' : HO} (e : H D = some (.lst vs)) {a : Addr} {xs : List V} (h : SqT K H a xs) : SqT K (upd H D o') a xs := by
  rcases h with (h | ⟨o, h⟩) | h
  · exact .inl (.inl (by rw [upd_ne (fun z => by rw [z, e] at h; cases h)]; exact h))
  · exact .inl (.inr ⟨o, by rw [upd_ne (fun z => by rw [z, e] at h; cases h)]; exact h⟩)
  · exact .inr h
section
variable {P : Program} {w : World} {K : PySem.W.Frag} {mg : Str → Option Value} {base : Heap}
/-! ### _law_rule -/
theorem scRule : FnScope ["_law_pot", "_law_most", "_law_style", "_law_thick", "_law_many", "_law_mirrors", "_law_wheel", "_law_pairs", "_law_often", "_law_k"] ["_law_pot", "_law_most"] (defScope sRule) := ⟨rfl, rfl, rfl, by decide +kernel, rfl, by decide +kernel, by decide +kernel⟩
def spRule (K : PySem.W.Frag) : Sp := fun vs H Q _ => ∃ (p : Addr) (t m : Nat), vs = [.ref p, .int (m : Int)] ∧ PailAt H p t ∧ t ≤ 2500 ∧ 1 ≤ m ∧ m ≤ 8 ∧
  ∀ (H' : Hp) (R : Addr) (t' : Nat) (ns : List Int) (ps : List (List Int)), PailAt H' p t' → t' ≤ t + 200 → But p H H' → OwnH K H' R ns ps → Q (.ref R) H'
theorem ok_rule {f fM fW fS fC fK fO fD : Addr} {fd fdM fdW fdS fdC fdK fdO fdD : FuncData} (F : Fun K "_law_rule" "_law_rule" sRule f fd) (DM : DefAt K mg "_law_drawn_mirrors" sDrawn ["_law_pot", "_law_many", "_law_style"] fM fdM) (DW : DefAt K mg "_law_wheel_pairs" sWheel ["_law_pot", "_law_mirrors", "_law_wheel", "_law_kind", "_law_thick"] fW fdW) (DS : DefAt K mg "_law_side_pairs" sSide ["_law_pot", "_law_mirrors", "_law_thick"] fS fdS) (DC : DefAt K mg "_law_closed" sClosed ["_law_mirrors", "_law_pairs"] fC fdC)
    (DK : DefAt K mg "_law_kinds" sKinds ["_law_pot", "_law_mirrors", "_law_wheel", "_law_kind"] fK fdK) (DO : DefAt K mg "_law_of" sOf ["_law_pot", "_law_some"] fO fdO) (DD : DefAt K mg "_law_take" sDraw ["_law_pot", "_law_many"] fD fdD) (B : Bare mg) : FnOk P w K mg base CX0 5 f fd ["_law_pot", "_law_most"] (spRule K) := by
  have GD : FnOk P w K mg base CX0 1 fD fdD ["_law_pot", "_law_many"] spDraw := ok_draw DD.fn
  have GM : FnOk P w K mg base CX0 2 fM fdM ["_law_pot", "_law_many", "_law_style"] (spDrawn K) := ok_drawn DM.fn DD B
  have GW : FnOk P w K mg base CX0 4 fW fdW ["_law_pot", "_law_mirrors", "_law_wheel", "_law_kind", "_law_thick"] (spWheel K) := ok_wheel DW.fn DK DO DD B
  have GS : FnOk P w K mg base CX0 2 fS fdS ["_law_pot", "_law_mirrors", "_law_thick"] (spSide K) := ok_side DS.fn DD B
  have GC : FnOk P w K mg base CX0 1 fC fdC ["_law_mirrors", "_law_pairs"] (spClosed K) := ok_closed DC.fn B
  refine F.ok scRule (fun vs H Q E h => ?_) (fun cdv A outer s H vs Q E hr h => ?_)
  · obtain ⟨p, t, m, rfl, _⟩ := h
    rfl
  · obtain ⟨p, t, m, rfl, hp, ht, m1, m8, q⟩ := h
    have hu := un65 hr
    have two : (2 : Nat) ≤ sizeLine := by decide
    have r1 := hr.mono (show 1 ≤ 4 by omega)
    have r2 := hr.mono (show 2 ≤ 4 by omega)
    refine ⟨_, pss_cons (ps_par (i := 2) (j := 3) (by rfl) scRule.nd rfl rfl (by decide) rfl rfl (pa_cons (pe_call GD r1 (by rfl) DD.mg DD.fn.kp DD.bi .nil pass0 (pa_cons (pv 0) (pa_cons pe_int pa_nil))) (pa_cons (pe_op op_add pe_int (pe_call GD r1 (by rfl) DD.mg DD.fn.kp DD.bi .nil pass0 (pa_cons (pv 0) (pa_cons pe_int pa_nil)))) pa_nil)) (by rfl))
      (pss_cons (ps_set (i := 4) scRule.nd rfl (Or.inr rfl) (pe_op op_add pe_int (pe_call GD r1 (by rfl) DD.mg DD.fn.kp DD.bi .nil pass0 (pa_cons (pv 0) (pa_cons (pv 1) pa_nil)))))
      (pss_cons (ps_set (i := 5) scRule.nd rfl (Or.inl rfl) (pe_call GM r2 (by rfl) DM.mg DM.fn.kp DM.bi .nil pass0 (pa_cons (pv 0) (pa_cons (pv 4) (pa_cons (pe_ix ix_list (pe_lst (pa_cons pe_int (pa_cons pe_int (pa_cons pe_int (pa_cons pe_int (pa_cons pe_int (pa_cons pe_int pa_nil))))))) (pv 2) (fun _ _ => rfl)) pa_nil)))))
      (pss_cons (ps_if (pt_cmpR (op_inTI hu) (pv 2) (pe_tup (pa_cons pe_int (pa_cons pe_int pa_nil))) (by rfl))
        (pss_cons (ps_set (i := 6) scRule.nd rfl (Or.inl rfl) (pe_op op_add pe_int (pe_call GD r1 (by rfl) DD.mg DD.fn.kp DD.bi .nil pass0 (pa_cons (pv 0) (pa_cons pe_int pa_nil)))))
        (pss_one (ps_set (i := 7) scRule.nd rfl (Or.inl rfl) (pe_call GW hr (by rfl) DW.mg DW.fn.kp DW.bi .nil pass0 (pa_cons (pv 0) (pa_cons (pv 5) (pa_cons (pv 6) (pa_cons (pe_call GD r1 (by rfl) DD.mg DD.fn.kp DD.bi .nil pass0 (pa_cons (pv 0) (pa_cons (pv 6) pa_nil))) (pa_cons (pe_op op_add (pv 3) pe_int) pa_nil)))))))))
        (pss_one (ps_if (pt_cmpR op_eq (pv 2) pe_int (nomark _))
          (pss_one (ps_set (i := 7) scRule.nd rfl (Or.inl rfl) (pe_call GS r2 (by rfl) DS.mg DS.fn.kp DS.bi .nil pass0 (pa_cons (pv 0) (pa_cons (pv 5) (pa_cons (pv 3) pa_nil))))))
          (pss_cons (ps_set (i := 8) scRule.nd rfl (Or.inr rfl) (pe_ix ix_list (pe_lst (pa_cons (pv 3) (pa_cons pe_int (pa_cons pe_int (pa_cons (pe_op op_sub (pv 3) pe_int) (pa_cons pe_int pa_nil)))))) (pv 2) (fun _ _ => rfl)))
          (pss_one (ps_setLc (i := 7) (own := [("_law_k", 9)]) (g := gName 9) rfl scRule.nd rfl rfl (by rfl) (pi_range1 (by rfl) B.range (pa_cons (pe_op op_mul (pv 4) (pv 4)) pa_nil)) (blkOk_by (N := ["_law_pot", "_law_most", "_law_style", "_law_thick", "_law_many", "_law_mirrors", "_law_wheel", "_law_pairs", "_law_often", "_law_k"]) (sc := defScope sRule) (by decide +kernel))
            (fun _ _ _ _ _ => pg_name (i := 9) scRule.nd rfl (Or.inl rfl))
            (fun _ _ _ _ _ => pts_one (pt_cmpR op_lt (pe_call GD r1 (by rfl) DD.mg DD.fn.kp DD.bi .nil pass0 (pa_cons (pv 0) (pa_cons pe_int pa_nil))) (pv 8) (nomark _)))
            (fun _ _ _ _ _ => pe_tup (pa_cons (pe_op op_fdiv (pv 9) (pv 4)) (pa_cons (pe_op op_mod (pv 9) (pv 4)) pa_nil)))))))))
      (pss_one (ps_ret (pe_tup (pa_cons (pv 5) (pa_cons (pe_call GC r1 (by rfl) DC.mg DC.fn.kp DC.bi .nil pass0 (pa_cons (pv 5) (pa_cons (pv 7) pa_nil))) pa_nil)))))))), ?_⟩
    refine ⟨.ref p, rfl, p, t, 6, rfl, hp, by omega, by decide, by decide, fun st t1 H1 st0 st1 ht1 hp1 b1 => ?_⟩
    refine ⟨.ref p, rfl, p, t1, 5, rfl, hp1, by omega, by decide, by decide, fun th t2 H2 th0 th1 ht2 hp2 b2 => ⟨_, _, rfl, rfl, _, _, rfl, ?_⟩⟩
    refine ⟨.ref p, rfl, .int (m : Int), rfl, p, t2, (m : Int), rfl, hp2, by omega, by omega, by omega, fun mm t3 H3 mm0 mm1 ht3 hp3 b3 => ⟨_, _, rfl, rfl, ?_⟩⟩
    obtain ⟨n, en⟩ : ∃ n : Nat, 1 + mm = (n : Int) := ⟨(1 + mm).toNat, by omega⟩
    show gName 4 (V.int (1 + mm)) _ _ _
    rw [en]
    have six : (6 : Nat) ≤ sizeLine := by decide
    obtain ⟨sv, hsv⟩ : ∃ sv : Int, atI [V.int 2, V.int 2, V.int 1, V.int 0, V.int 2, V.int 3] st = some (.int sv) := by
      have h6 : st = 0 ∨ st = 1 ∨ st = 2 ∨ st = 3 ∨ st = 4 ∨ st = 5 := by omega
      rcases h6 with e | e | e | e | e | e <;> rw [e] <;> exact ⟨_, rfl⟩
    refine ⟨.ref p, rfl, .int (n : Int), rfl, six, fun l nl => ⟨.int st, rfl, l, _, _, _, rfl, rfl, lstNew upd_same, hsv, ?_⟩⟩
    have sl := same_upd (o := .lst [.int 2, .int 2, .int 1, .int 0, .int 2, .int 3]) nl
    refine ⟨p, t3, n, sv, rfl, pail_same hp3 sl, by omega, by omega, by omega, fun H4 u t4 ns hp4 ht4 b4 hU4 M hn => ?_⟩
    have m8' := M.few
    have b04 : But p H H4 := (((b1.trans b2).trans b3).trans (But.of sl)).trans b4
    clear hp1 hp2 hp3 b1 b2 b3 b4 nl sl
    refine nx_step ?_
    dsimp only
    refine seq_mid (fun σ H' => ∃ (L : Addr) (t' : Nat) (y6 y8 y9 : Option V), σ = [some (.ref p), some (.int (m : Int)), some (.int st), some (.int (2 + th)), some (.int (n : Int)), some (.ref u), y6, some (.ref L), y8, y9] ∧ But p H H' ∧ SqT K H' u (ns.map V.int) ∧ PailAt H' p t' ∧ t' ≤ t + 200 ∧ PairsH (ns.length : Int) H' L 64) (fun σ H' h => ?_) (fun tail => ?_)
    · obtain ⟨L, t5, y6, y8, y9, rfl, b5, hU5, hp5, ht5, qs, hL, hpr, hlen⟩ := h
      refine ⟨.ref u, rfl, .ref u, rfl, .ref L, rfl, u, L, ns, qs, rfl, hU5, hL, M, hpr, by omega, fun H6 c ps s6 nc hC S => ⟨two, fun R nR => ?_⟩⟩
      have sR := same_upd (o := .tup [.ref u, .ref c]) nR
      exact q _ R t5 ns ps (pail_same hp5 (s6.trans sR)) ht5 (b5.trans (But.of (s6.trans sR))) ⟨u, c, upd_same, sqT_same (s6.trans sR) hU5, hC.same sR, M, S⟩
    · refine ⟨.int st, rfl, two, fun w0 nw => ?_⟩
      have sw := same_upd (o := .tup [.int 1, .int 5]) nw
      refine ⟨w0, st, [1, 5], rfl, rfl, tupNew upd_same, _, rfl, ?_⟩
      have hp5 := pail_same hp4 sw
      have hU5 := sqT_same sw hU4
      have b5 := b04.trans (But.of (p := p) sw)
      generalize upd H4 w0 (.tup [.int 1, .int 5]) = H5 at hp5 hU5 b5 ⊢
      refine ite2 (fun _ => ?_) (fun hst => ?_)
      · refine ⟨.ref p, rfl, p, t4, 4, rfl, hp5, by omega, by decide, by decide, fun wv t6 H6 wv0 wv1 ht6 hp6 b6 => ⟨_, _, rfl, rfl, ?_⟩⟩
        obtain ⟨wh, ewh⟩ : ∃ wh : Nat, 1 + wv = (wh : Int) := ⟨(1 + wv).toNat, by omega⟩
        show gName 6 (V.int (1 + wv)) _ _ _
        rw [ewh]
        have hU6 := sqT_pail hp5 b6 hU5
        refine ⟨.ref p, rfl, .ref u, rfl, .int (wh : Int), rfl, .ref p, rfl, .int (wh : Int), rfl, p, t6, (wh : Int), rfl, hp6, by omega, by omega, by omega, fun kd t7 H7 kd0 kd1 ht7 hp7 b7 => ?_⟩
        have hU7 := sqT_pail hp6 b7 hU6
        refine ⟨.int (2 + th), rfl, _, _, rfl, rfl, p, u, t7, wh, kd, _, ns, rfl, hp7, by omega, hU7, M, by omega, by omega, kd0, kd1, fun H8 L t8 hp8 ht8 b8 nL hL => ?_⟩
        exact tail _ _ ⟨L, t8, _, _, _, rfl, ((b5.trans b6).trans b7).trans b8, sqT_pail hp7 b8 hU7, hp8, by omega, hL⟩
      · refine ⟨.int st, rfl, rfl, _, rfl, ite2 (fun _ => ?_) (fun hs2 => ?_)⟩
        · refine ⟨.ref p, rfl, .ref u, rfl, .int (2 + th), rfl, p, u, t4, _, ns, rfl, hp5, by omega, hU5, M, fun H8 L t8 hp8 ht8 b8 nL hL => ?_⟩
          exact tail _ _ ⟨L, t8, _, _, _, rfl, b5.trans b8, sqT_pail hp5 b8 hU5, hp8, by omega, hL⟩
        · have hst' : st = 0 ∨ st = 3 ∨ st = 4 := by
            have a1 : st ≠ 1 := fun e => hst (by rw [e]; decide)
            have a5 : st ≠ 5 := fun e => hst (by rw [e]; decide)
            have a2 : st ≠ 2 := fun e => hs2 (by rw [e]; decide)
            omega
          have five : (5 : Nat) ≤ sizeLine := by decide
          obtain ⟨ov, hov⟩ : ∃ ov : Int, atI [V.int (2 + th), V.int 0, V.int 0, V.int (2 + th - 1), V.int 2] st = some (.int ov) := by
            rcases hst' with e | e | e <;> rw [e] <;> exact ⟨_, rfl⟩
          refine ⟨.int (2 + th), rfl, .int (2 + th), rfl, _, _, rfl, rfl, five, fun l nl => ⟨.int st, rfl, l, _, _, _, rfl, rfl, lstNew upd_same, hov, ?_⟩⟩
          have sl := same_upd (o := .lst [.int (2 + th), .int 0, .int 0, .int (2 + th - 1), .int 2]) nl
          have hp6 := pail_same hp5 sl
          have hU6 := sqT_same sl hU5
          have b6 := b5.trans (But.of (p := p) sl)
          generalize upd H5 l (.lst [.int (2 + th), .int 0, .int 0, .int (2 + th - 1), .int 2]) = H6 at hp6 hU6 b6 ⊢
          have hn8 : n ≤ 8 := by omega
          have hnn : (n : Int) * (n : Int) = ((n * n : Nat) : Int) := by rw [Int.natCast_mul]
          have hn64 : n * n ≤ 64 := Nat.mul_le_mul hn8 hn8
          refine ⟨.int (n : Int), rfl, .int (n : Int), rfl, _, _, rfl, rfl, .inl ⟨by omega, by omega⟩, (n : Int) * (n : Int), rfl, by omega, by omega, fun D nD => ?_⟩
          have hDp : D ≠ p := pail_ne hp6 nD
          have nDH : H D = none := but_free b6 hp6 nD
          have sD := same_upd (o := .lst []) nD
          rw [hnn, Int.toNat_natCast]
          refine lc_range (lo := 0) (n := _) (fun i H' => ∃ t', But p H H' ∧ PailAt H' p t' ∧ t' ≤ t4 + i ∧ SqT K H' u (ns.map V.int) ∧ PairsH (ns.length : Int) H' D i)
            ⟨t4, b6.trans (But.of sD), pail_same hp6 sD, by omega, sqT_same sD hU6, PairsH.nil upd_same⟩ (fun i H7 hi h => ?_) fun H7 h => ?_
          · obtain ⟨t7, b7, hp7, ht7, hU7, hD7⟩ := h
            have e0 : (0 + ((i : Nat) : Int)) = (i : Int) := by omega
            rw [e0]
            refine ⟨by simp [wipe, List.set_set], .ref p, rfl, p, t7, 8, rfl, hp7, by omega, by decide, by decide, fun r t8 H8 r0 r1 ht8 hp8 b8 => ⟨.int ov, rfl, _, _, rfl, rfl, _, rfl, ite2 (fun _ => ?_) (fun _ => ?_)⟩⟩
            · refine ⟨.int (i : Int), rfl, .int (n : Int), rfl, _, _, rfl, rfl, ⟨by omega, by omega⟩, .int (i : Int), rfl, .int (n : Int), rfl, _, _, rfl, rfl, (show (0 : Int) < n by omega), two, fun T nT => ?_⟩
              have sT := same_upd (o := .tup [.int ((i : Int) / (n : Int)), .int ((i : Int) % (n : Int))]) nT
              have hD8 := hD7.but hp7 b8 hDp
              obtain ⟨vs, eD8, hvl⟩ := hD8.lst
              refine ⟨_, sT _ _ eD8, few1 (by omega), t8, fun k o e z => ?_, pail_set (pail_same hp8 sT) hDp, by omega, sqT_lst (sT _ _ eD8) (sqT_same sT (sqT_pail hp7 b8 hU7)), hD8.add eD8 nT ?_ ?_⟩
              · rw [upd_ne (ne_of_none e nDH)]; exact sT _ _ ((b7.trans b8) k o e z)
              · rw [hn]
                exact ⟨Int.ediv_nonneg (by omega) (by omega), Int.ediv_lt_of_lt_mul (by omega) (by rw [hnn]; omega)⟩
              · rw [hn]
                exact ⟨Int.emod_nonneg _ (by omega), Int.emod_lt_of_pos _ (by omega)⟩
            · exact ⟨t8, b7.trans b8, hp8, by omega, sqT_pail hp7 b8 hU7, (hD7.but hp7 b8 hDp).le (by omega)⟩
          · obtain ⟨t7, b7, hp7, ht7, hU7, hD7⟩ := h
            exact tail _ _ ⟨D, t7, _, _, _, rfl, b7, hU7, hp7, by omega, hD7.le (by omega)⟩
end
end K10
set_option maxHeartbeats 4000000
namespace K10
open PySem PySem.Spec PyProof.Rows L2 RV
/-! ### sorted of a list of pairs -/
def kOf (H : Hp) : V → Int × Int
  | .ref t => match H t with
    | some (.tup [.int i, .int j]) => (i, j)
    | _ => (0, 0)
  | _ => (0, 0)
def adOf : V → Addr
  | .ref t => t
  | _ => 0
theorem LotsH.add {H : Hp} {L T : Addr} {qs : List (List Int)} {q : List Int} {vs : List V} (h : LotsH H L qs) (e : H L = some (.lst vs)) (nT : H T = none) : LotsH (upd (upd H T (.tup (q.map V.int))) L (.lst (vs ++ [.ref T]))) L (qs ++ [q]) := by
  obtain ⟨ks, h1, h2, h3⟩ := h
  have sT := same_upd (o := .tup (q.map V.int)) nT
  have ev : vs = ks.map fun p => V.ref p.1 := by rw [e] at h2; cases h2; rfl
  subst ev
  refine ⟨ks ++ [(T, q)], by rw [List.map_append, h1]; rfl, by rw [upd_same, List.map_append]; rfl, fun k hk => ?_⟩
  rcases List.mem_append.mp hk with hk | hk
  · rw [upd_ne (fun z => by have w := h3 k hk; rw [z, e] at w; cases w)]; exact sT _ _ (h3 k hk)
  · rw [List.mem_singleton.mp hk, upd_ne (ne_of_none e nT).symm]; exact upd_same
theorem sort_lots {K : PySem.W.Frag} {H : Hp} {a : Addr} {ps : List (List Int)} {Q : VK} (h : LotsH H a ps) (pr : ∀ p ∈ ps, ∃ x y : Int, p = [x, y])
    (q : ∀ (L : List (Addr × List Int)) (p : Addr), (L.map (·.2)).Perm ps → L.Pairwise (fun a b => SrtO.lexB (two b.2) (two a.2) = false) → (∀ k ∈ L, H k.1 = some (.tup (k.2.map V.int))) → H p = none → Q (.ref p) (upd H p (.lst (L.map fun p => V.ref p.1)))) : rSortedPO K [.ref a] H Q := by
  obtain ⟨ks, h1, h2, h3⟩ := h
  have two_ : ∀ k ∈ ks, kOf H (.ref k.1) = two k.2 ∧ k.2 = [(kOf H (.ref k.1)).1, (kOf H (.ref k.1)).2] := fun k hk => by
    obtain ⟨x, y, e⟩ := pr k.2 (by rw [← h1]; exact List.mem_map_of_mem hk)
    have z := h3 k hk
    rw [e] at z
    have z2 : kOf H (.ref k.1) = (x, y) := by
      show (match H k.1 with | some (.tup [.int i, .int j]) => (i, j) | _ => (0, 0)) = _
      rw [z]; rfl
    rw [z2, e]
    exact ⟨rfl, rfl⟩
  refine ⟨a, _, kOf H, rfl, lstNew h2, fun x hx => ?_, fun ys p srt stb np => ?_⟩
  · obtain ⟨k, hk, rfl⟩ := List.mem_map.mp hx
    refine ⟨k.1, rfl, ?_⟩
    have z := h3 k hk
    rw [(two_ k hk).2] at z
    exact z
  · have pm := stb.perm
    have hy : ∀ y ∈ ys, ∃ k ∈ ks, y = V.ref k.1 := fun y hy => by
      obtain ⟨k, hk, e⟩ := List.mem_map.mp (pm.mem_iff.mp hy)
      exact ⟨k, hk, e.symm⟩
    let g : V → Addr × List Int := fun v => (adOf v, [(kOf H v).1, (kOf H v).2])
    have gk : ∀ k ∈ ks, g (V.ref k.1) = k := fun k hk => by
      show (k.1, _) = k
      rw [← (two_ k hk).2]
    have e1 : (ys.map g).map (fun p => V.ref p.1) = ys := by
      rw [List.map_map]
      conv => rhs; rw [← List.map_id ys]
      refine List.map_congr_left fun y m => ?_
      obtain ⟨k, hk, rfl⟩ := hy y m
      show V.ref (g (V.ref k.1)).1 = _
      rw [gk k hk]; rfl
    have pk : (ys.map g).Perm ks := by
      have z := pm.map g
      rw [List.map_map] at z
      have e2 : ks.map (g ∘ fun p => V.ref p.1) = ks := by
        conv => rhs; rw [← List.map_id ks]
        exact List.map_congr_left fun k hk => gk k hk
      rwa [e2] at z
    have z := q (ys.map g) p (by rw [← h1]; exact pk.map _) ?_ (fun k hk => h3 k (pk.mem_iff.mp hk)) np
    · rwa [e1] at z
    · rw [List.pairwise_map]
      refine List.Pairwise.imp_of_mem ?_ srt
      intro y y' m m' l
      obtain ⟨k, hk, rfl⟩ := hy y m
      obtain ⟨k', hk', rfl⟩ := hy y' m'
      rw [gk k hk, gk k' hk', ← (two_ k hk).1, ← (two_ k' hk').1]
      exact l
end K10
set_option maxHeartbeats 4000000
namespace K10
open PySem PySem.Spec PyProof.Rows L2 RV
/-! ### rounds: each mark with the next behind it -/
def nsR (n : Nat) (kd : Int) : List Int := (fromN 0 n).map fun x => (kd - x) % (n : Int)
def psR (n : Nat) : List (List Int) := (fromN 0 n).map fun x => [x, (x + 1) % (n : Int)]
theorem nsR_get {n : Nat} {kd m : Int} {k : Nat} : (nsR n kd)[k]? = some m ↔ k < n ∧ m = (kd - (k : Int)) % (n : Int) := by
  unfold nsR
  rw [List.getElem?_map]
  by_cases h : k < n
  · rw [fromN_get h, Int.zero_add]
    simp only [Option.map_some, Option.some.injEq]
    constructor
    · intro e; exact ⟨h, e.symm⟩
    · intro e; exact e.2.symm
  · rw [List.getElem?_eq_none (by rw [fromN_len]; omega)]
    simp [h]
theorem nsR_len (n : Nat) (kd : Int) : (nsR n kd).length = n := by unfold nsR; rw [List.length_map, fromN_len]
theorem mem_psR {n : Nat} {p : List Int} : p ∈ psR n ↔ ∃ x : Int, (0 ≤ x ∧ x < (n : Int)) ∧ p = [x, (x + 1) % (n : Int)] := by
  unfold psR
  rw [List.mem_map]
  constructor
  · rintro ⟨x, h, rfl⟩
    have := mem_fromN.mp h
    exact ⟨x, by omega, rfl⟩
  · rintro ⟨x, h, rfl⟩
    exact ⟨x, mem_fromN.mpr (by omega), rfl⟩
theorem fromN_nd (lo : Int) (n : Nat) : (fromN lo n).Nodup := by
  unfold fromN
  rw [List.nodup_iff_pairwise_ne, List.pairwise_map]
  exact (List.nodup_range (n := n)).imp fun h e => h (by omega)
theorem psR_nd (n : Nat) : (psR n).Nodup := by
  unfold psR
  rw [List.nodup_iff_pairwise_ne, List.pairwise_map]
  exact (fromN_nd 0 n).imp fun h e => h (by injection e)
theorem eight {n : Nat} (h1 : 1 ≤ n) (h8 : n ≤ 8) : n = 1 ∨ n = 2 ∨ n = 3 ∨ n = 4 ∨ n = 5 ∨ n = 6 ∨ n = 7 ∨ n = 8 := by omega
theorem mir_R {n : Nat} {kd : Int} (h1 : 1 ≤ n) (h8 : n ≤ 8) : Mir (nsR n kd) := by
  refine ⟨by rw [nsR_len]; omega, by rw [nsR_len]; omega, fun m hm => ?_, fun k m e => ?_⟩
  · obtain ⟨k, hk, e⟩ := List.getElem_of_mem hm
    have := (nsR_get (n := n) (kd := kd)).mp (by rw [List.getElem?_eq_getElem hk, e])
    rw [nsR_len, this.2]
    exact ⟨Int.emod_nonneg _ (by omega), Int.emod_lt_of_pos _ (by omega)⟩
  · obtain ⟨h, e⟩ := nsR_get.mp e
    rw [nsR_get]
    rcases eight h1 h8 with r | r | r | r | r | r | r | r <;> subst r <;> omega
theorem part_R {n : Nat} {kd : Int} (h1 : 1 ≤ n) (h8 : n ≤ 8) : Part (nsR n kd) (psR n) := by
  refine ⟨psR_nd n, fun p hp => ?_, fun x y mx my h ex ey => ?_⟩
  · obtain ⟨x, h, rfl⟩ := mem_psR.mp hp
    rw [nsR_len]
    exact ⟨x, _, rfl, h, Int.emod_nonneg _ (by omega), Int.emod_lt_of_pos _ (by omega)⟩
  · obtain ⟨x', h, e⟩ := mem_psR.mp h
    injection e with e1 e2
    injection e2 with e2 _
    obtain ⟨_, ex⟩ := nsR_get.mp ex
    obtain ⟨_, ey⟩ := nsR_get.mp ey
    rw [mem_psR]
    refine ⟨my, ?_, ?_⟩
    · rw [ey]; exact ⟨Int.emod_nonneg _ (by omega), Int.emod_lt_of_pos _ (by omega)⟩
    · have z : mx = (my + 1) % (n : Int) := by
        rcases eight h1 h8 with r | r | r | r | r | r | r | r <;> subst r <;> omega
      rw [z]
section
variable {P : Program} {w : World} {K : PySem.W.Frag} {mg : Str → Option Value} {base : Heap}
/-! ### _law_round -/
theorem scRound : FnScope ["_law_many", "_law_kind", "_law_steps", "_law_mark"] ["_law_many", "_law_kind"] (defScope sRound) := ⟨rfl, rfl, rfl, by decide +kernel, rfl, by decide +kernel, by decide +kernel⟩
def spRound (K : PySem.W.Frag) : Sp := fun vs H Q _ => ∃ (n : Nat) (kd : Int), vs = [.int (n : Int), .int kd] ∧ 1 ≤ n ∧ n ≤ 8 ∧ 0 ≤ kd ∧ kd < (n : Int) ∧
  ∀ (H' : Hp) (R : Addr) (ns : List Int) (ps : List (List Int)), Same H H' → OwnH K H' R ns ps → Q (.ref R) H'
theorem ok_round {f : Addr} {fd : FuncData} (F : Fun K "_law_round" "_law_round" sRound f fd) (B : Bare mg) : FnOk P w K mg base CX0 1 f fd ["_law_many", "_law_kind"] (spRound K) := by
  refine F.ok scRound (fun vs H Q E h => ?_) (fun cdv A outer s H vs Q E hr h => ?_)
  · obtain ⟨n, kd, rfl, _⟩ := h
    rfl
  · obtain ⟨n, kd, rfl, n1, n8, k0, k1, q⟩ := h
    have two : (2 : Nat) ≤ sizeLine := by decide
    refine ⟨_, pss_cons (ps_set (i := 2) scRound.nd rfl (Or.inl rfl) (pe_tupleOf (by rfl) B.tuple (pe_callB cr_sortedPO (by rfl) B.sorted (by decide +kernel) (pa_cons
          (pe_lc (own := [("_law_mark", 3)]) (g := gName 3) (tt := tYes) rfl scRound.nd (pi_range1 (by rfl) B.range (pa_cons (pv 0) pa_nil)) (blkOk_by (N := ["_law_many", "_law_kind", "_law_steps", "_law_mark"]) (sc := defScope sRound) (by decide +kernel))
            (fun _ _ _ _ _ => pg_name (i := 3) scRound.nd rfl (Or.inl rfl)) (fun _ _ _ _ _ => pts_nil)
            (fun _ _ _ _ _ => pe_tup (pa_cons (pv 3) (pa_cons (pe_op op_mod (pe_op op_add (pv 3) pe_int) (pv 0)) pa_nil)))) pa_nil))))
      (pss_one (ps_ret (pe_tup (pa_cons (pe_tupleOf (by rfl) B.tuple
          (pe_lc (own := [("_law_mark", 3)]) (g := gName 3) (tt := tYes) rfl scRound.nd (pi_range1 (by rfl) B.range (pa_cons (pv 0) pa_nil)) (blkOk_by (N := ["_law_many", "_law_kind", "_law_steps", "_law_mark"]) (sc := defScope sRound) (by decide +kernel))
            (fun _ _ _ _ _ => pg_name (i := 3) scRound.nd rfl (Or.inl rfl)) (fun _ _ _ _ _ => pts_nil)
            (fun _ _ _ _ _ => pe_op op_mod (pe_op op_sub (pv 1) (pv 3)) (pv 0)))) (pa_cons (pv 2) pa_nil))))), ?_⟩
    refine ⟨.int (n : Int), rfl, (n : Int), rfl, by omega, by omega, fun D nD => ?_⟩
    rw [Int.toNat_natCast]
    refine lc_range (lo := 0) (n := _) (fun i H' => Same H H' ∧ LotsH H' D (((fromN 0 n).take i).map fun x => [x, (x + 1) % (n : Int)])) ⟨same_upd nD, [], rfl, upd_same, fun _ z => nomatch z⟩ (fun i H1 hi h => ?_) fun H1 h => ?_
    · obtain ⟨s1, hL⟩ := h
      have e0 : (0 + ((i : Nat) : Int)) = (i : Int) := by omega
      rw [e0]
      refine ⟨by simp [wipe, List.set_set], ?_⟩
      dsimp only [tYes]
      rw [if_pos rfl]
      refine ⟨.int (i : Int), rfl, .int (i : Int), rfl, _, _, rfl, rfl, .int (n : Int), rfl, _, _, rfl, rfl, (show (0 : Int) < n by omega), two, fun T nT => ?_⟩
      have sT := same_upd (o := .tup [.int (i : Int), .int (((i : Int) + 1) % (n : Int))]) nT
      obtain ⟨ks, h1, h2, h3⟩ := hL
      have lk : ks.length ≤ 8 := by
        have z := congrArg List.length h1
        rw [List.length_map, List.length_map, List.length_take, fromN_len] at z; omega
      refine ⟨_, sT _ _ h2, by rw [List.length_map]; exact few1 (by omega), fun b o e => ?_, ?_⟩
      · rw [upd_ne (ne_of_none e nD)]; exact sT _ _ (s1 b o e)
      · rw [List.take_add_one, fromN_get hi, List.map_append, Int.zero_add]
        exact LotsH.add (q := [(i : Int), ((i : Int) + 1) % (n : Int)]) ⟨ks, h1, h2, h3⟩ h2 nT
    · obtain ⟨s1, hL⟩ := h
      rw [List.take_of_length_le (by rw [fromN_len]; exact Nat.le_refl _)] at hL
      have PR := part_R (kd := kd) n1 n8
      dsimp only [tNil]
      refine sort_lots (K := K) (a := D) (H := H1) (ps := psR n) hL (fun p hp => ?_) fun L e pm pw tu ne => ?_
      · obtain ⟨x, _, rfl⟩ := mem_psR.mp hp
        exact ⟨x, _, rfl⟩
      have S := PR.stp (mir_R n1 n8) pm pw
      have sE := same_upd (o := .lst (L.map fun p => V.ref p.1)) ne
      refine .inl ⟨e, _, rfl, lstNew upd_same, fun c nc => ?_⟩
      have sC := same_upd (o := .tup (L.map fun p => V.ref p.1)) nc
      have hC : TupsH (upd (upd H1 e (.lst (L.map fun p => V.ref p.1))) c (.tup (L.map fun p => V.ref p.1))) c (L.map (·.2)) := ⟨L, rfl, upd_same, fun k hk => sC _ _ (sE _ _ (tu k hk))⟩
      have s2 := s1.trans (sE.trans sC)
      generalize upd (upd H1 e (.lst (L.map fun p => V.ref p.1))) c (.tup (L.map fun p => V.ref p.1)) = H2 at hC s2 ⊢
      refine ⟨.int (n : Int), rfl, (n : Int), rfl, by omega, by omega, fun D2 nD2 => ?_⟩
      rw [Int.toNat_natCast]
      refine lc_mapR (lo := 0) (n := n) (f := fun _ => true) (h := fun x => (kd - x) % (n : Int)) (by omega) nD2 (fun x hx H' s' A B h => h H' (Same.refl _)) (fun x hx H' Q s' _ h => ?_) fun H3 s3 eD => ?_
      · exact ⟨.int kd, rfl, .int x, rfl, _, _, rfl, rfl, .int (n : Int), rfl, _, _, rfl, rfl, (show (0 : Int) < n by omega), h H' (Same.refl _)⟩
      have ef : ((fromN 0 n).filter fun _ => true) = fromN 0 n := by simp
      rw [ef] at eD
      refine .inl ⟨D2, _, rfl, lstNew eD, fun u nu => ?_⟩
      have sU := same_upd (o := .tup ((nsR n kd).map V.int)) nu
      refine ⟨.ref c, rfl, two, fun R nR => ?_⟩
      have sR := same_upd (H := upd H3 u (.tup ((nsR n kd).map V.int))) (o := .tup [.ref u, .ref c]) nR
      exact q _ R (nsR n kd) _ (s2.trans (s3.trans (sU.trans sR))) ⟨u, c, upd_same, sqT_same sR (tupNew upd_same), ((hC.same s3).same sU).same sR, mir_R n1 n8, S⟩
end
end K10
set_option maxHeartbeats 4000000
namespace K10
open PySem PySem.Spec PyProof.Rows L2 RV
/-! ### [b for a, b in pairs if ..] -/
def sel (c : Int → Int → Bool) (ps : List (List Int)) : List Int := (ps.filter fun p => c (p.getD 0 0) (p.getD 1 0)).map fun p => p.getD 1 0
theorem sel_next {c : Int → Int → Bool} {ps : List (List Int)} {i : Nat} {x y : Int} (h : ps[i]? = some [x, y]) : sel c (ps.take (i + 1)) = sel c (ps.take i) ++ (if c x y = true then [y] else []) := by
  unfold sel
  rw [List.take_add_one, h]
  show List.map _ (List.filter _ (ps.take i ++ [[x, y]])) = _
  rw [List.filter_append, List.map_append]
  by_cases e : c x y = true
  · simp [e]
  · simp [e]
theorem sel_len (c : Int → Int → Bool) (ps : List (List Int)) : (sel c ps).length ≤ ps.length := by
  unfold sel
  rw [List.length_map]
  exact List.length_filter_le _ _
theorem mem_sel {c : Int → Int → Bool} {n : Int} {ps : List (List Int)} (hp : ∀ p ∈ ps, Pr n p) {j : Int} : j ∈ sel c ps ↔ ∃ x : Int, [x, j] ∈ ps ∧ c x j = true := by
  unfold sel
  rw [List.mem_map]
  constructor
  · rintro ⟨p, h1, h2⟩
    obtain ⟨h3, h4⟩ := List.mem_filter.mp h1
    obtain ⟨x, y, rfl, _⟩ := hp p h3
    have e2 : y = j := h2
    subst e2
    exact ⟨x, h3, h4⟩
  · rintro ⟨x, h, e⟩
    exact ⟨[x, j], List.mem_filter.mpr ⟨h, e⟩, rfl⟩
theorem sel_nodup {c : Int → Int → Bool} {n m : Int} {ps : List (List Int)} (hp : ∀ p ∈ ps, Pr n p) (nd : ps.Nodup) (hc : ∀ x y, c x y = true → x = m) : (sel c ps).Nodup := by
  unfold sel
  refine List.pairwise_map.mpr (List.Pairwise.imp_of_mem (fun {a b} ha hb ne e => ?_) (nd.filter _))
  obtain ⟨a1, a2⟩ := List.mem_filter.mp ha
  obtain ⟨b1, b2⟩ := List.mem_filter.mp hb
  obtain ⟨x, y, rfl, _⟩ := hp a a1
  obtain ⟨x', y', rfl, _⟩ := hp b b1
  have e1 := hc x y a2
  have e2 := hc x' y' b2
  have e3 : y = y' := e
  exact ne (by rw [e1, e2, e3])
theorem lc_pairs {K : PySem.W.Frag} {tt : TT} {te : TE} {c : Int → Int → Bool} {σ : L2.St} {H1 : Hp} {a D : Addr} {va vb : Nat} {ps : List (List Int)} {Qd : Hp → Prop} (hT : Tups K H1 a ps) (hl : ps.length ≤ 1000) (hp : ∀ p ∈ ps, ∃ x y : Int, p = [x, y]) (nD : H1 D = none) (hw : ∀ x y : Int, wipe (((wipe σ [va, vb]).set va (some (.int x))).set vb (some (.int y))) [va, vb] = wipe σ [va, vb])
    (htest : ∀ x y : Int, [x, y] ∈ ps → ∀ H', Same H1 H' → ∀ A B : Hp → Prop, (∀ H2, Same H' H2 → if c x y = true then A H2 else B H2) → tt (((wipe σ [va, vb]).set va (some (.int x))).set vb (some (.int y))) H' (fun b H3 => if b = true then A H3 else B H3))
    (hte : ∀ (x y : Int) (H' : Hp) (Q : VK), Q (.int y) H' → te (((wipe σ [va, vb]).set va (some (.int x))).set vb (some (.int y))) H' Q)
    (hd : ∀ H', Same H1 H' → H' D = some (.lst ((sel c ps).map V.int)) → Qd H') :
    ∃ W : Nat → Nat → Hp → Prop, (∃ m, W 0 m (upd H1 D (.lst []))) ∧ ∀ i m H, W i m H →
      ((Itt K a).stop i H ∧ Qd H) ∨ ((Itt K a).go i H ∧ ∃ Nx : Hp → Prop, (∀ H', Nx H' → ∃ m', m' < m ∧ W (i + 1) m' H') ∧ ∀ x H', (Itt K a).yld i H x H' → gTup K 2 (gCons (gName va) (gCons (gName vb) gNil)) x (wipe σ [va, vb]) H' fun σ2 H2 => wipe σ2 [va, vb] = wipe σ [va, vb] ∧ tt σ2 H2 fun b H3 =>
        if b = true then te σ2 H3 fun y H4 => ∃ acc, H4 D = some (.lst acc) ∧ acc.length < sizeLine ∧ Nx (upd H4 D (.lst (acc ++ [y]))) else Nx H3) := by
  obtain ⟨ks, rfl, hT, hks⟩ := hT
  refine lc_tup (K := K) (a := a) (xs := ks.map fun p => V.ref p.1) (fun i H' => Same H1 H' ∧ H' D = some (.lst ((sel c ((ks.map (·.2)).take i)).map V.int))) ⟨same_upd nD, by rw [upd_same]; rfl⟩ (fun i H' _ p => sqT_same p.1 hT) (fun i x H' hx p => ?_) fun H' p => ?_
  · obtain ⟨k, g, rfl⟩ := map_at hx
    have hk : k ∈ ks := List.mem_of_getElem? g
    have hm : k.2 ∈ ks.map (·.2) := List.mem_map_of_mem hk
    obtain ⟨x, y, e⟩ := hp k.2 hm
    rw [e] at hm
    have hkT : SqT K H' k.1 ([x, y].map V.int) := by rw [← e]; exact sqT_same p.1 (hks k hk)
    have gi : (ks.map (·.2))[i]? = some [x, y] := by rw [List.getElem?_map, g, ← e]; rfl
    have hle := sel_len c ((ks.map (·.2)).take i)
    rw [List.length_take] at hle
    refine ⟨k.1, _, rfl, hkT, rfl, _, _, rfl, _, _, rfl, rfl, hw x y, htest x y hm H' p.1 _ _ fun H2 s2 => ?_⟩
    have s12 := p.1.trans s2
    have e2 := s2 _ _ p.2
    by_cases e : c x y = true
    · rw [if_pos e]
      refine hte x y H2 _ ⟨_, e2, ?_, fun b o z => ?_, ?_⟩
      · rw [List.length_map]; exact few1 (by omega)
      · rw [upd_ne (ne_of_none z nD)]; exact s12 b o z
      · rw [upd_same, sel_next gi, if_pos e, List.map_append]; rfl
    · rw [if_neg e]
      exact ⟨s12, by rw [sel_next gi, if_neg e, List.append_nil]; exact e2⟩
  · rw [List.length_map] at p
    have e : (ks.map (·.2)).take ks.length = ks.map (·.2) := List.take_of_length_le (by rw [List.length_map]; exact Nat.le_refl _)
    rw [e] at p
    exact hd H' p.1 p.2
end K10
set_option maxHeartbeats 4000000
namespace K10
open PySem PySem.Spec PyProof.Rows L2 RV
section
variable {P : Program} {w : World} {K : PySem.W.Frag} {mg : Str → Option Value} {base : Heap}
/-! ### _law_drawn_round -/
theorem scDRound : FnScope ["_law_pot", "_law_many"] ["_law_pot"] (defScope sDRound) := ⟨rfl, rfl, rfl, by decide +kernel, rfl, by decide +kernel, by decide +kernel⟩
def spDRound (K : PySem.W.Frag) : Sp := fun vs H Q _ => ∃ (p : Addr) (t : Nat), vs = [.ref p] ∧ PailAt H p t ∧ t ≤ 3500 ∧
  ∀ (H' : Hp) (R : Addr) (t' : Nat) (ns : List Int) (ps : List (List Int)), PailAt H' p t' → t' ≤ t + 2 → But p H H' → OwnH K H' R ns ps → Q (.ref R) H'
theorem ok_dround {f fR fD : Addr} {fd fdR fdD : FuncData} (F : Fun K "_law_drawn_round" "_law_drawn_round" sDRound f fd) (DR : DefAt K mg "_law_round" sRound ["_law_many", "_law_kind"] fR fdR) (DD : DefAt K mg "_law_take" sDraw ["_law_pot", "_law_many"] fD fdD) (B : Bare mg) : FnOk P w K mg base CX0 2 f fd ["_law_pot"] (spDRound K) := by
  have GD : FnOk P w K mg base CX0 1 fD fdD ["_law_pot", "_law_many"] spDraw := ok_draw DD.fn
  have GR : FnOk P w K mg base CX0 1 fR fdR ["_law_many", "_law_kind"] (spRound K) := ok_round DR.fn B
  refine F.ok scDRound (fun vs H Q E h => ?_) (fun cdv A outer s H vs Q E hr h => ?_)
  · obtain ⟨p, t, rfl, _⟩ := h
    rfl
  · obtain ⟨p, t, rfl, hp, ht, q⟩ := h
    refine ⟨_, pss_cons (ps_set (i := 1) scDRound.nd rfl (Or.inl rfl) (pe_op op_add pe_int (pe_call GD hr (by rfl) DD.mg DD.fn.kp DD.bi .nil pass0 (pa_cons (pv 0) (pa_cons pe_int pa_nil)))))
      (pss_one (ps_ret (pe_call GR hr (by rfl) DR.mg DR.fn.kp DR.bi .nil pass0 (pa_cons (pv 1) (pa_cons (pe_call GD hr (by rfl) DD.mg DD.fn.kp DD.bi .nil pass0 (pa_cons (pv 0) (pa_cons (pv 1) pa_nil))) pa_nil))))), ?_⟩
    refine ⟨.ref p, rfl, p, t, 8, rfl, hp, by omega, by decide, by decide, fun r t1 H1 r0 r1 ht1 hp1 b1 => ⟨_, _, rfl, rfl, ?_⟩⟩
    obtain ⟨n, en⟩ : ∃ n : Nat, 1 + r = (n : Int) := ⟨(1 + r).toNat, by omega⟩
    show gName 1 (V.int (1 + r)) _ _ _
    rw [en]
    refine ⟨.int (n : Int), rfl, .ref p, rfl, .int (n : Int), rfl, p, t1, (n : Int), rfl, hp1, by omega, by omega, by omega, fun kd t2 H2 kd0 kd1 ht2 hp2 b2 => ?_⟩
    exact ⟨n, kd, rfl, by omega, by omega, kd0, kd1, fun H3 R ns ps s3 o => q H3 R t2 ns ps (pail_same hp2 s3) (by omega) ((b1.trans b2).trans (But.of s3)) o⟩
/-! ### _law_come_to -/
theorem scCome : FnScope ["_law_steps", "_law_mark", "_law_met", "_law_at_here", "_law_a", "_law_b"] ["_law_steps", "_law_mark"] (defScope sCome) := ⟨rfl, rfl, rfl, by decide +kernel, rfl, by decide +kernel, by decide +kernel⟩
def spCome (K : PySem.W.Frag) : Sp := fun vs H Q _ => ∃ (c : Addr) (m : Int) (n : Nat) (ps : List (List Int)), vs = [.ref c, .int m] ∧ TupsH H c ps ∧ n ≤ 8 ∧ ps.length ≤ 64 ∧ (∀ p ∈ ps, Pr (n : Int) p) ∧ ps.Nodup ∧
  ∀ (H' : Hp) (d : Addr) (fs : List Int), Same H H' → H d = none → H' d = some (.lst (fs.map V.int)) → fs.length ≤ 8 → fs.Nodup → (∀ j, j ∈ fs ↔ Rch ps m j) → Q (.ref d) H'
abbrev nCome : List Str := ["_law_steps", "_law_mark", "_law_met", "_law_at_here", "_law_a", "_law_b"]
theorem ok_come {f : Addr} {fd : FuncData} (F : Fun K "_law_come_to" "_law_come_to" sCome f fd) (B : Bare mg) : FnOk P w K mg base CX0 1 f fd ["_law_steps", "_law_mark"] (spCome K) := by
  refine F.ok scCome (fun vs H Q E h => ?_) (fun cdv A outer s H vs Q E hr h => ?_)
  · obtain ⟨c, m, n, ps, rfl, _⟩ := h
    rfl
  · obtain ⟨c, m, n, ps, rfl, hC, h8, h64, hP, hnd, q⟩ := h
    have hu5 := un65 hr
    have two : (2 : Nat) ≤ sizeLine := by decide
    refine ⟨_, pss_cons (ps_asg (pe_tup (pa_cons (pe_lc (own := [("_law_a", 4), ("_law_b", 5)]) (g := gTup K 2 (gCons (gName 4) (gCons (gName 5) gNil))) rfl scCome.nd (pi_tup (pv 0)) (blkOk_by (N := nCome) (sc := defScope sCome) (by decide +kernel))
          (fun _ _ _ _ _ => pg_tupK rfl rfl (pgs_cons (pg_name (i := 4) scCome.nd rfl (Or.inl rfl)) (pgs_cons (pg_name (i := 5) scCome.nd rfl (Or.inl rfl)) pgs_nil))) (fun _ _ _ _ _ => pts_one (pt_cmpR op_eq (pv 4) (pv 1) (nomark _)))
          (fun _ _ _ _ _ => pv 5)) (pa_cons pe_int pa_nil))) (pg_tup rfl (pgs_cons (pg_name (i := 2) scCome.nd rfl (Or.inr rfl)) (pgs_cons (pg_name (i := 3) scCome.nd rfl (Or.inr rfl)) pgs_nil))))
      (pss_cons (ps_while PassesOwn.never (pt_cmpR op_lt (pv 3) (pe_callB call_len_seq (by rfl) B.len PySem.boot_len (pa_cons (pv 2) pa_nil)) (nomark _))
        (pss_cons (ps_expr (pe_bm PySem.F.plainAttrs_list PySem.F.slot_list_extend PySem.F.type_list_extend mt_extend (pv 2) (pa_cons (pe_lc (own := [("_law_a", 4), ("_law_b", 5)]) (g := gTup K 2 (gCons (gName 4) (gCons (gName 5) gNil))) rfl scCome.nd (pi_tup (pv 0)) (blkOk_by (N := nCome) (sc := defScope sCome) (by decide +kernel))
          (fun _ _ _ _ _ => pg_tupK rfl rfl (pgs_cons (pg_name (i := 4) scCome.nd rfl (Or.inl rfl)) (pgs_cons (pg_name (i := 5) scCome.nd rfl (Or.inl rfl)) pgs_nil)))
          (fun _ _ _ _ _ => pts_one (PW.pt (pw_and (pt_cmpR op_eq (pv 4) (pe_ix (ix_listK (K := K) rfl) (pv 2) (pv 3) (fun _ _ => rfl)) (nomark _)) (pw_and1 (pt_cmpR (op_notInDK (K := K) rfl hu5) (pv 5) (pv 2) (by rfl))))))
          (fun _ _ _ _ _ => pv 5)) pa_nil)))
        (pss_one (ps_set (i := 3) scCome.nd rfl (Or.inr rfl) (pe_op op_add (pv 3) pe_int)))))
      (pss_one (ps_ret (pv 2)))), ?_⟩
    have hpp : ∀ p ∈ ps, ∃ x y : Int, p = [x, y] := fun p hp => by
      obtain ⟨x, y, e, _⟩ := hP p hp
      exact ⟨x, y, e⟩
    have small : ∀ fs : List Int, fs.Nodup → (∀ x ∈ fs, Rch ps m x) → fs.length ≤ 8 := fun fs nd hr => by
      have z := nodup_le (us := upN n) nd fun x hx => mem_upN.mpr (Rch.bound hP (hr x hx)).2
      rw [upN_len] at z; omega
    refine ⟨.ref c, rfl, c, rfl, ⟨_, hC.tups.choose_spec.2.1⟩, fun F0 nF => ?_⟩
    refine lc_pairs (c := fun x y => decide (V.int x = V.int m)) hC.tups (by omega) hpp nF (fun x y => rfl) (fun x y hxy H' s' A B h => ?_) (fun x y H' Q h => ⟨.int y, rfl, h⟩) fun H1 s1 eF1 => ?_
    · exact ⟨.int x, rfl, .int m, rfl, rfl, _, rfl, h H' (Same.refl _)⟩
    refine ⟨two, fun U nU => ?_⟩
    have sU := same_upd (o := .tup [.ref F0, .int 0]) nU
    refine ⟨U, _, rfl, tupNew upd_same, rfl, _, _, rfl, _, _, rfl, rfl, ?_⟩
    have m0 : ∀ j, j ∈ sel (fun x y => decide (V.int x = V.int m)) ps ↔ [m, j] ∈ ps := fun j => by
      rw [mem_sel hP]
      constructor
      · rintro ⟨x, h, e⟩
        have e := V.int.inj (of_decide_eq_true e)
        rw [← e]; exact h
      · intro h
        exact ⟨m, h, decide_eq_true rfl⟩
    refine while_by (fun σ H' => ∃ (fs : List Int) (a : Nat) (y4 y5 : Option V), σ = [some (.ref c), some (.int m), some (.ref F0), some (.int (a : Int)), y4, y5] ∧ Same H H' ∧ H' F0 = some (.lst (fs.map V.int)) ∧ fs.Nodup ∧ (∀ x ∈ fs, Rch ps m x) ∧ (∀ j, [m, j] ∈ ps → j ∈ fs) ∧ (∀ (k : Nat) (x : Int), k < a → fs[k]? = some x → ∀ j, [x, j] ∈ ps → j ∈ fs) ∧ a ≤ fs.length)
      (fun σ _ => atOf σ) ?_ ?_ ?_
    · exact ⟨_, 0, none, none, rfl, s1.trans sU, sU _ _ eF1, sel_nodup (m := m) hP hnd fun x y e => V.int.inj (of_decide_eq_true e), fun x hx => .one ((m0 x).mp hx), fun j hj => (m0 j).mpr hj, fun k x hk => absurd hk (Nat.not_lt_zero _), Nat.zero_le _⟩
    · rintro σ H2 ⟨fs, a, y4, y5, rfl, s2, eF, nd, rc, cl, up, hle⟩
      have hl8 := small fs nd rc
      refine ⟨.int (a : Int), rfl, .ref F0, rfl, F0, _, rfl, .inl (lstNew eF), _, _, rfl, rfl, _, rfl, ite2 (fun hlt => ?_) (fun hge => ?_)⟩
      · have hlt : a < fs.length := by
          have z := of_decide_eq_true hlt
          rw [List.length_map] at z; omega
        obtain ⟨x, gx⟩ : ∃ x, fs[a]? = some x := ⟨_, List.getElem?_eq_getElem hlt⟩
        have ax : atI (fs.map V.int) ((a : Nat) : Int) = some (.int x) := atI_nat (by rw [List.getElem?_map, gx]; rfl)
        have hC2 := hC.same s2
        refine ⟨.ref F0, rfl, .inl ⟨rfl, _, lstNew eF⟩, .ref c, rfl, c, rfl, ⟨_, hC2.tups.choose_spec.2.1⟩, fun D nD => ?_⟩
        refine lc_pairs (c := fun u y => decide (V.int u = V.int x) && decide (y ∉ fs)) hC2.tups (by omega) hpp nD (fun x y => rfl) (fun u y hxy H' s' A B h => ?_) (fun x y H' Q h => ⟨.int y, rfl, h⟩) fun H3 s3 eD => ?_
        · refine ⟨.int u, rfl, .ref F0, rfl, .int (a : Int), rfl, F0, _, _, .int x, rfl, rfl, lstNew (s' _ _ eF), ax, rfl, _, rfl, ?_⟩
          have hh := h H' (Same.refl H')
          cases e1 : decide (V.int u = V.int x) with
          | false =>
            rw [e1] at hh
            exact iteF hh
          | true =>
            rw [e1] at hh
            refine iteT ⟨.int y, rfl, .ref F0, rfl, .int y, fs.map PyData.int, .int y, dpL (lstNew (s' _ _ eF)), shapedN y, shapedLI fs, _, rfl, ?_⟩
            rw [any_int, ← decide_not]
            exact hh
        · have eF2 := s3 _ _ eF
          have nF2 : ∀ H' o, Same H H' → Same H (upd H' F0 o) := fun H' o s b u e => by
            rw [upd_ne (ne_of_none e nF)]; exact s b u e
          have fl : (sel (fun u y => decide (V.int u = V.int x) && decide (y ∉ fs)) ps).length ≤ 64 := Nat.le_trans (sel_len _ _) h64
          refine ⟨F0, D, _, _, rfl, rfl, eF2, eD, ?_, ?_⟩
          · rw [List.length_map, List.length_map]; exact Nat.le_of_lt (few1 (by omega))
          refine ⟨.int (a : Int), rfl, _, _, rfl, rfl, ?_⟩
          have mem2 : ∀ j, j ∈ fs ++ sel (fun u y => decide (V.int u = V.int x) && decide (y ∉ fs)) ps ↔ j ∈ fs ∨ [x, j] ∈ ps := fun j => by
            rw [List.mem_append, mem_sel hP]
            constructor
            · rintro (z | ⟨u, z, e⟩)
              · exact .inl z
              · rw [Bool.and_eq_true] at e
                have e := V.int.inj (of_decide_eq_true e.1)
                rw [← e]; exact .inr z
            · rintro (z | z)
              · exact .inl z
              · by_cases e : j ∈ fs
                · exact .inl e
                · exact .inr ⟨x, z, by rw [Bool.and_eq_true]; exact ⟨decide_eq_true rfl, decide_eq_true e⟩⟩
          refine ⟨⟨fs ++ sel (fun u y => decide (V.int u = V.int x) && decide (y ∉ fs)) ps, a + 1, _, _, rfl, nF2 _ _ (s2.trans s3), ?_, ?_, ?_, ?_, ?_, ?_⟩, ?_⟩
          · rw [upd_same, List.map_append]
          · rw [List.nodup_append]
            refine ⟨nd, sel_nodup (m := x) hP hnd fun u y e => V.int.inj (of_decide_eq_true (Bool.and_eq_true _ _ ▸ e).1), fun u hu v hv e => ?_⟩
            subst e
            obtain ⟨_, _, e⟩ := (mem_sel hP).mp hv
            rw [Bool.and_eq_true] at e
            exact of_decide_eq_true e.2 hu
          · intro j hj
            rcases (mem2 j).mp hj with z | z
            · exact rc j z
            · exact .more (rc x (List.mem_of_getElem? gx)) z
          · exact fun j hj => (mem2 j).mpr (.inl (cl j hj))
          · intro k z hk hz j hj
            refine (mem2 j).mpr ?_
            by_cases e : k = a
            · subst e
              rw [List.getElem?_append_left hlt, gx] at hz
              cases hz
              exact .inr hj
            · rw [List.getElem?_append_left (by omega)] at hz
              exact .inl (up k z (by omega) hz j hj)
          · rw [List.length_append]; omega
          · show 8 - ((a : Int) + 1).toNat < 8 - ((a : Int)).toNat
            omega
      · have hge : fs.length ≤ a := by
          have z : ¬ ((a : Int) < ((fs.map V.int).length : Int)) := fun z => hge (decide_eq_true z)
          rw [List.length_map] at z; omega
        refine ⟨.ref F0, rfl, q H2 F0 fs s2 nF eF hl8 nd fun j => ⟨rc j, fun h => ?_⟩⟩
        refine rch_closed cl (fun x hx j hj => ?_) h
        obtain ⟨k, hk, e⟩ := List.getElem_of_mem hx
        exact up k x (by omega) (by rw [List.getElem?_eq_getElem hk, e]) j hj
    · intro σ H1 Q1 Q2 hq h
      obtain ⟨x, e1, y, e2, p, l, e3, e4, i, j, e5, e6, b, e7, h⟩ := h
      exact ⟨x, e1, y, e2, p, l, e3, e4, i, j, e5, e6, b, e7, hq _ _ h⟩
end
end K10
set_option maxHeartbeats 4000000
/-! sorted(l), l a list of unlike tuples of ints of any lengths, none of them empty -/
namespace RV
open PySem PySem.Spec PyProof.Rows L2 TS
section
variable {P : Program} {w : World} {A : Around} {E : Value → Shared → Prop} {s : Shared}
theorem sorted_listA {a : Addr} {L : List (Addr × List Int)} {Q : Value → Shared → Prop} (ρ : List Int → Int) (hl : s.heap.IsList a (L.map fun q => Value.ref q.1).toArray) (tup : ∀ q ∈ L, IsT P w s.heap q.2 q.1) (nd : (L.map (·.2)).Nodup) (few64 : L.length < 64)
    (hne : ∀ p ∈ L, p.2 ≠ []) (hr : ∀ p ∈ L, ∀ q ∈ L, lexA p.2 q.2 = decide (ρ p.2 < ρ q.2))
    (hQ : ∀ (h' : Heap) (d : Addr) (out : Array Value) (c : Nat) (L' : List (Addr × List Int)), (∀ b o, s.heap.get? b = some o → h'.get? b = some o) → s.heap.objs.size ≤ d → h'.get? d = some (seqObj "list" out c) →
      out.toList = L'.map (fun q => Value.ref q.1) → L'.Perm L → L'.Pairwise (fun q r => ρ q.2 ≤ ρ r.2) → Q (.ref d) { s with heap := h' }) : wpAny (model P w) A (call (.builtin "sorted") [.ref a]) Q E s := by
  have same1 : ∀ q ∈ L, ∀ r ∈ L, q.1 = r.1 → q = r := fun q hq r hr e => by
    have z := tup q hq
    rw [e] at z
    exact Prod.ext e (z.inj (tup r hr))
  have nodL : L.Nodup := nodup_of_map nd
  have nodR : (L.map fun q => Value.ref q.1).Nodup := List.pairwise_map.mpr (List.Pairwise.imp_of_mem (fun {q r} hq hr ne e => ne (same1 q hq r hr (Value.ref.inj e))) nodL)
  have lvs : (L.map fun q => Value.ref q.1).length < 64 := by rw [List.length_map]; exact few64
  have hz : (L.map fun q => Value.ref q.1).length ≤ sizeLine := by rw [sizeLine_eq]; omega
  have from_ : ∀ v ∈ L.map (fun q => Value.ref q.1), ∃ q ∈ L, v = Value.ref q.1 := fun v hv => by
    obtain ⟨q, hq, e⟩ := List.mem_map.mp hv
    exact ⟨q, hq, e.symm⟩
  generalize ev : L.map (fun q => Value.ref q.1) = vs at hl lvs hz from_ nodR
  refine Calls.call_function_entry kind_sorted plain_sorted entry_sorted (args_sorted1 _) (show wpAny _ _ _ _ _ _ from ?_)
  unfold Builtin.«sorted»
  refine wpAny_bind (m := checkCount "sorted" 1 1 _) (wpAny_pure (wpAny_bind (collect_list hl (wpAny_bind (wpAny_newList ?_ hz)) hz)))
  have hsz : ((s.heap.push (seqObj "list" #[] 0)).update s.heap.objs.size (Obj.mapSeq (· ++ vs.toArray))).objs.size = s.heap.objs.size + 1 := (Heap.size_update ..).trans (size_push' ..)
  have hoL : (((s.heap.push (seqObj "list" #[] 0)).update s.heap.objs.size (Obj.mapSeq (· ++ vs.toArray))).push (seqObj "list" vs.toArray 0)).get? (s.heap.objs.size + 1) = some (seqObj "list" vs.toArray 0) := hsz ▸ Heap.get?_push_size _ rfl
  have keep : ∀ b o, s.heap.get? b = some o → b < s.heap.objs.size ∧ (((s.heap.push (seqObj "list" #[] 0)).update s.heap.objs.size (Obj.mapSeq (· ++ vs.toArray))).push (seqObj "list" vs.toArray 0)).get? b = some o := fun b o z => by
    have hlt := Heap.lt_size z
    refine ⟨hlt, Heap.get?_push_of_some _ ?_⟩
    exact (Heap.get?_update_ne _ _ _ _ (Nat.ne_of_lt hlt)).trans (Heap.get?_push_of_some _ z)
  show wpAny _ _ _ _ _ { s with heap := ((s.heap.push (seqObj "list" #[] 0)).update s.heap.objs.size (Obj.mapSeq (· ++ vs.toArray))).push (seqObj "list" vs.toArray 0) }
  rw [hsz]
  generalize ((s.heap.push (seqObj "list" #[] 0)).update s.heap.objs.size (Obj.mapSeq (· ++ vs.toArray))).push (seqObj "list" vs.toArray 0) = h1 at hoL keep ⊢
  have tups : ∀ q ∈ L, TupInts h1 (.ref q.1) q.2 := fun q hq => tupInts_of (P := P) (w := w) (isT_keep (tup q hq) fun b u e => (keep b u e).2)
  refine wpAny_bind (wpAny_holding (call_sort_any (s := { s with heap := h1 }) ρ hoL lvs (fun v hv => ?_) (fun u hu v hv ns ms tu tv => ?_) fun out a1 a2 => ?_))
  · obtain ⟨q, hq, rfl⟩ := from_ v hv
    exact ⟨q.2, tups q hq, hne q hq⟩
  · obtain ⟨q, hq, rfl⟩ := from_ u hu
    obtain ⟨r, hr', rfl⟩ := from_ v hv
    have e1 : ns = q.2 := tu.ints.symm.trans (tups q hq).ints
    have e2 : ms = r.2 := tv.ints.symm.trans (tups r hr').ints
    subst e1 e2
    exact hr q hq r hr'
  · obtain ⟨c, hc⟩ := sortedHeap_at (vs := vs) (out := out) hoL
    obtain ⟨L', e', hs'⟩ := refs_some L out.toList fun v hv => from_ v (a1.mem_iff.mp hv)
    have pm' : (L'.map fun q => Value.ref q.1).Perm (L.map fun q => Value.ref q.1) := by rw [← e', ev]; exact a1
    have pL : L'.Perm L := by
      refine (List.perm_ext_iff_of_nodup (nodup_of_map (pm'.nodup_iff.mpr (ev ▸ nodR))) nodL).mpr fun q => ⟨hs' q, fun hq => ?_⟩
      obtain ⟨r, hr', e⟩ := List.mem_map.mp (pm'.mem_iff.mpr (List.mem_map.mpr ⟨q, hq, rfl⟩))
      rw [← same1 r (hs' r hr') q hq (Value.ref.inj e)]; exact hr'
    have pw : L'.Pairwise (fun q r => ρ q.2 ≤ ρ r.2) := by
      rw [e'] at a2
      refine List.Pairwise.imp_of_mem (fun {q r} hq hr' z => ?_) (List.pairwise_map.mp a2)
      have z' : ρ (intsOf h1 (.ref q.1)) ≤ ρ (intsOf h1 (.ref r.1)) := z
      rwa [(tups q (hs' q hq)).ints, (tups r (hs' r hr')).ints] at z'
    refine wpAny_pure ⟨_, rfl, hQ _ (s.heap.objs.size + 1) out c L' (fun b u e => ?_) (Nat.le_succ _) hc e' pL pw⟩
    have lt := (keep b u e).1
    have lt1 := Heap.lt_size hoL
    show (sortedHeap h1 (s.heap.objs.size + 1) vs out).get? b = some u
    rw [sortedHeap_old (Nat.ne_of_lt (Nat.lt_succ_of_lt lt)) (Nat.lt_trans (Nat.lt_succ_of_lt lt) lt1)]
    exact (keep b u e).2
end
section
variable {X : Cx}
def rSortL (K : PySem.W.Frag) : List V → Hp → VK → Prop := fun vs H Q => ∃ (a : Addr) (L : List (Addr × List Int)) (ρ : List Int → Int), vs = [V.ref a] ∧ SqL K H a (L.map fun q => V.ref q.1) ∧ (∀ p ∈ L, SqT K H p.1 (p.2.map V.int)) ∧ (L.map (·.2)).Nodup ∧ L.length < 64 ∧
  (∀ p ∈ L, p.2 ≠ []) ∧ (∀ p ∈ L, ∀ q ∈ L, lexA p.2 q.2 = decide (ρ p.2 < ρ q.2)) ∧
  ∀ (L' : List (Addr × List Int)) (p : Addr), L'.Perm L → L'.Pairwise (fun q r => ρ q.2 ≤ ρ r.2) → H p = none → Q (.ref p) (upd H p (.lst (L'.map fun q => V.ref q.1)))
theorem cr_sortedL : CallR X (.builtin "sorted") (rSortL X.K) := by
  intro pins s σ H vs us Q I r h
  obtain ⟨a, L, ρ, rfl, hs, hk, nd, few, hne, hr, q⟩ := h
  obtain ⟨its, rv, hl, hz⟩ := I.list hs
  rw [Vals.ref1 r]
  have ei : its = L.map fun q => Value.ref q.1 := by
    clear hs hk nd few hne hr q hl hz
    induction L generalizing its with
    | nil => cases rv; rfl
    | cons k L ih =>
      cases rv with
      | cons r1 r2 =>
        cases r1
        rw [List.map_cons, ih _ r2]
  subst ei
  refine sorted_listA ρ hl.isList (fun p hp => I.isT (hk p hp)) nd few hne hr fun h' d out c L' kp hd hg hout pm pw => ?_
  have len : (L'.map fun q => V.ref q.1).length ≤ sizeLine := by rw [List.length_map, sizeLine_eq, pm.length_eq]; omega
  have vals : Vals (L'.map fun q => V.ref q.1) out.toList := by rw [hout]; exact vals_of_refs L'
  exact ⟨.ref d, upd H d (.lst (L'.map fun q => V.ref q.1)), I.laid (t' := s.toks) kp hd ⟨len, out.toList, c, vals, by simpa using hg⟩, rfl, q L' d pm pw (I.hok.fresh hd)⟩
end
end RV
set_option maxHeartbeats 4000000
namespace K10
open PySem PySem.Spec PyProof.Rows L2 RV
/-- what the first i marks come to -/
def Rches (H : Hp) (D : Addr) (ps : List (List Int)) (ws : List (Addr × List Int)) : Prop := H D = some (.lst (ws.map fun p => V.ref p.1)) ∧ ∀ (k : Nat) (x : Addr × List Int), ws[k]? = some x → H x.1 = some (.lst (x.2.map V.int)) ∧ x.1 ≠ D ∧ x.2.length ≤ 8 ∧ x.2.Nodup ∧ ∀ j, j ∈ x.2 ↔ Rch ps (k : Int) j
theorem Rches.same {H H' : Hp} {D : Addr} {ps : List (List Int)} {ws : List (Addr × List Int)} (h : Rches H D ps ws) (s : Same H H') : Rches H' D ps ws :=
  ⟨s _ _ h.1, fun k x g => let ⟨a, b⟩ := h.2 k x g; ⟨s _ _ a, b⟩⟩
theorem eq_of_rise {xs ys : List Int} (h : xs.Perm ys) (h1 : xs.Pairwise (· ≤ ·)) (h2 : ys.Pairwise (· ≤ ·)) : xs = ys := List.Perm.eq_of_pairwise (le := (· ≤ ·)) (fun a b _ _ x y => Int.le_antisymm x y) h1 h2 h
/-- what sorted tells of the marks that are come to and come back -/
theorem some_lot {ps : List (List Int)} {n : Nat} {m : Int} {fs zs : List Int} (hp : ∀ p ∈ ps, Pr (n : Int) p) (nd : fs.Nodup) (hf : ∀ j, j ∈ fs ↔ Rch ps m j) (pm : zs.Perm (fs.filter fun j => rB ps j m)) (pw : zs.Pairwise (· ≤ ·)) : zs = lotOf ps n m := by
  have nd2 : (lotOf ps n m).Nodup := (lot_rise ps n m).imp fun h => by omega
  refine eq_of_rise (pm.trans ((List.perm_ext_iff_of_nodup (nd.filter _) nd2).mpr fun x => ?_)) pw ((lot_rise ps n m).imp fun h => Int.le_of_lt h)
  rw [List.mem_filter, mem_lot, hf, rB_iff]
  exact ⟨fun h => ⟨(Rch.bound hp h.1).2, h⟩, fun h => h.2⟩
theorem head_iff {ps : List (List Int)} {n i : Nat} (hi : i < n) : isHead ps n (i : Int) = (decide ((i : Int) ∈ lotOf ps n (i : Int)) && decide (lotOf ps n (i : Int) ∉ partsTo ps n i)) := by
  rw [Bool.eq_iff_iff, Bool.and_eq_true, decide_eq_true_iff, decide_eq_true_iff]
  unfold isHead
  rw [decide_eq_true_iff]
  have memT : ∀ p, p ∈ partsTo ps n i ↔ ∃ m : Int, (0 ≤ m ∧ m < (i : Int)) ∧ (lotOf ps n m).head? = some m ∧ p = lotOf ps n m := fun p => by
    unfold partsTo isHead
    rw [List.mem_map]
    constructor
    · rintro ⟨m, hm, rfl⟩
      obtain ⟨h1, h2⟩ := List.mem_filter.mp hm
      obtain ⟨k, hk, e⟩ := List.getElem_of_mem h1
      rw [List.length_take, upN_len] at hk
      have e2 : ((upN n).take i)[k]? = some m := by rw [List.getElem?_eq_getElem (by rw [List.length_take, upN_len]; exact hk), e]
      rw [List.getElem?_take, if_pos (by omega), upN_get (by omega)] at e2
      have e3 : (k : Int) = m := Option.some.inj e2
      exact ⟨m, by omega, of_decide_eq_true h2, rfl⟩
    · rintro ⟨m, h1, h2, rfl⟩
      refine ⟨m, List.mem_filter.mpr ⟨?_, decide_eq_true h2⟩, rfl⟩
      refine List.mem_of_getElem? (i := m.toNat) ?_
      rw [List.getElem?_take, if_pos (by omega), upN_get (by omega), Int.toNat_of_nonneg h1.1]
  constructor
  · intro h
    refine ⟨List.mem_of_mem_head? (by rw [h]; rfl), fun z => ?_⟩
    obtain ⟨m, h1, h2, h3⟩ := (memT _).mp z
    rw [← h3, h] at h2
    have := Option.some.inj h2
    omega
  · rintro ⟨h1, h2⟩
    cases e : lotOf ps n (i : Int) with
    | nil => rw [e] at h1; cases h1
    | cons x r =>
      by_cases ex : x = (i : Int)
      · rw [ex]; rfl
      · exfalso
        have hx : x ∈ lotOf ps n (i : Int) := by rw [e]; exact List.mem_cons_self ..
        have exl := lot_eq hx
        have hlt : x < (i : Int) := by
          have rise := lot_rise ps n (i : Int)
          rw [e] at rise h1
          rcases List.mem_cons.mp h1 with z | z
          · exact absurd z.symm ex
          · exact (List.pairwise_cons.mp rise).1 _ z
        refine h2 ((memT _).mpr ⟨x, ⟨(mem_lot.mp hx).1.1, hlt⟩, by rw [exl, e]; rfl, exl.symm⟩)
theorem lexA_hd {ps : List (List Int)} {n : Nat} {p q : List Int} (hp : p ∈ partsOf ps n) (hq : q ∈ partsOf ps n) : lexA p q = decide (hd0 p < hd0 q) := by
  have irr : ∀ xs : List Int, lexA xs xs = false := fun xs => by
    induction xs with
    | nil => rfl
    | cons x xs ih =>
      show (if x = x then lexA xs xs else decide (x < x)) = false
      rw [if_pos rfl]; exact ih
  by_cases e : hd0 p = hd0 q
  · have := part_hd hp hq e
    subst this
    rw [irr, decide_eq_false (Int.lt_irrefl _)]
  · have np := part_ne hp
    have nq := part_ne hq
    cases p with
    | nil => exact absurd rfl np
    | cons x xs =>
      cases q with
      | nil => exact absurd rfl nq
      | cons y ys =>
        have e : x ≠ y := e
        show (if x = y then lexA xs ys else decide (x < y)) = decide (x < y)
        rw [if_neg e]
theorem parts_sorted {ps : List (List Int)} {n : Nat} {ls : List (List Int)} (pm : ls.Perm (partsOf ps n)) (pw : ls.Pairwise fun p q => hd0 p ≤ hd0 q) : ls = partsOf ps n :=
  List.Perm.eq_of_pairwise (le := fun p q => hd0 p ≤ hd0 q) (fun a b ha hb h1 h2 => part_hd (pm.mem_iff.mp ha) hb (Int.le_antisymm h1 h2)) pw ((parts_rise ps n).imp fun h => Int.le_of_lt h) pm
theorem any_lots (p : List Int) (ls : List (List Int)) : (ls.map RV.dI).any (fun y => PyData.eqv y (RV.dI p)) = decide (p ∈ ls) := any_dI p ls
theorem shapedLs (ls : List (List Int)) : SeqAt.shaped (.list (ls.map RV.dI)) = true := by
  have h1 := dep_dI ls
  have e : (PyData.list (ls.map RV.dI)).depth ≤ 64 := by simp only [PyData.depth]; omega
  show ((PyData.list (ls.map RV.dI)).canLay0 && decide ((PyData.list (ls.map RV.dI)).depth ≤ 64)) = true
  rw [decide_eq_true e, Bool.and_true]
  simp only [PyData.canLay0]
  exact lay_dI ls
theorem LotsH.dp {K : PySem.W.Frag} {H : Hp} {a : Addr} {ls : List (List Int)} (h : LotsH H a ls) : Dp K H (.ref a) (.list (ls.map RV.dI)) := by
  obtain ⟨ks, rfl, h2, h3⟩ := h
  exact .lst (lstNew h2) (dpTs ks fun p hp => tupNew (h3 p hp))
section
variable {P : Program} {w : World} {K : PySem.W.Frag} {mg : Str → Option Value} {base : Heap}
/-! ### _law_parts -/
abbrev nLParts : List Str := ["_law_own", "_law_mirrors", "_law_steps", "_law_reach", "_law_found", "_law_mark", "_law_some", "_law_other"]
theorem scLParts : FnScope nLParts ["_law_own"] (defScope sLParts) := ⟨rfl, rfl, rfl, by decide +kernel, rfl, by decide +kernel, by decide +kernel⟩
def spLParts (K : PySem.W.Frag) : Sp := fun vs H Q _ => ∃ (R : Addr) (ns : List Int) (ps : List (List Int)), vs = [.ref R] ∧ OwnH K H R ns ps ∧ ∀ (H' : Hp) (l : Addr), Same H H' → H l = none → LotsH H' l (partsOf ps ns.length) → Q (.ref l) H'
theorem ok_lparts {f fC : Addr} {fd dC : FuncData} (F : Fun K "_law_parts" "_law_parts" sLParts f fd) (DC : DefAt K mg "_law_come_to" sCome ["_law_steps", "_law_mark"] fC dC) (B : Bare mg) : FnOk P w K mg base CX0 2 f fd ["_law_own"] (spLParts K) := by
  have GC : FnOk P w K mg base CX0 1 fC dC ["_law_steps", "_law_mark"] (spCome K) := ok_come DC.fn B
  refine F.ok scLParts (fun vs H Q E h => ?_) (fun cdv A outer s H vs Q E hr h => ?_)
  · obtain ⟨R, ns, ps, rfl, _⟩ := h
    rfl
  · obtain ⟨R, ns, ps, rfl, ⟨u, c, o1, o2, o3, M, S⟩, q⟩ := h
    have hu5 := un65 hr
    have two : (2 : Nat) ≤ sizeLine := by decide
    refine ⟨_, pss_cons (ps_asg (pv 0) (pg_tup rfl (pgs_cons (pg_name (i := 1) scLParts.nd rfl (Or.inl rfl)) (pgs_cons (pg_name (i := 2) scLParts.nd rfl (Or.inr rfl)) pgs_nil))))
      (pss_cons (ps_asg (pe_tup (pa_cons (pe_lc (own := [("_law_mark", 5)]) (g := gName 5) (tt := tYes) rfl scLParts.nd (pi_range1 (by rfl) B.range (pa_cons (pe_callB call_len_seq (by rfl) B.len PySem.boot_len (pa_cons (pv 1) pa_nil)) pa_nil)) (blkOk_by (N := nLParts) (sc := defScope sLParts) (by decide +kernel))
            (fun _ _ _ _ _ => pg_name (i := 5) scLParts.nd rfl (Or.inl rfl)) (fun _ _ _ _ _ => pts_nil) (fun _ _ _ _ _ => pe_call GC hr (by rfl) DC.mg DC.fn.kp DC.bi .nil pass0 (pa_cons (pv 2) (pa_cons (pv 5) pa_nil))))
          (pa_cons (pe_lst pa_nil) pa_nil))) (pg_tup rfl (pgs_cons (pg_name (i := 3) scLParts.nd rfl (Or.inr rfl)) (pgs_cons (pg_name (i := 4) scLParts.nd rfl (Or.inl rfl)) pgs_nil))))
      (pss_cons (ps_for PassesOwn.never rfl (pi_range1 (by rfl) B.range (pa_cons (pe_callB call_len_seq (by rfl) B.len PySem.boot_len (pa_cons (pv 1) pa_nil)) pa_nil)) (pg_name (i := 5) scLParts.nd rfl (Or.inr rfl))
        (pss_cons (ps_set (i := 6) scLParts.nd rfl (Or.inl rfl) (pe_tupleOf (by rfl) B.tuple (pe_callB cr_sortedI (by rfl) B.sorted (by decide +kernel) (pa_cons
          (pe_lc (own := [("_law_other", 7)]) (g := gName 7) rfl scLParts.nd (pi_list (pe_ix ix_list (pv 3) (pv 5) (fun _ _ => rfl))) (blkOk_by (N := nLParts) (sc := defScope sLParts) (by decide +kernel))
            (fun _ _ _ _ _ => pg_name (i := 7) scLParts.nd rfl (Or.inl rfl)) (fun _ _ _ _ _ => pts_one (pt_cmpR (op_inDK (K := K) rfl hu5) (pv 5) (pe_ix (ix_listK (K := K) rfl) (pv 3) (pv 7) (fun _ _ => rfl)) (by rfl))) (fun _ _ _ _ _ => pv 7)) pa_nil))))
        (pss_one (ps_if (PW.pt (pw_and (pt_cmpR (op_inTI hu5) (pv 5) (pv 6) (by rfl)) (pw_and1 (pt_cmpR (op_notInD hu5) (pv 6) (pv 4) (by rfl)))))
          (pss_one (ps_expr (pe_bm PySem.F.plainAttrs_list PySem.F.slot_list_append PySem.F.type_list_append mt_append (pv 4) (pa_cons (pv 6) pa_nil)))) pss_nil))))
      (pss_one (ps_ret (pe_callB cr_sortedL (by rfl) B.sorted (by decide +kernel) (pa_cons (pv 4) pa_nil)))))), ?_⟩
    have h8 := M.few
    have hP : ∀ p ∈ ps, Pr (ns.length : Int) p := fun p hp => S.pair p hp
    -- mirrors, steps
    refine ⟨.ref R, rfl, R, _, rfl, tupNew o1, rfl, _, _, rfl, _, _, rfl, rfl, ?_⟩
    -- reach
    refine ⟨.ref u, rfl, u, _, rfl, .inr o2, _, rfl, by rw [List.length_map]; omega, by rw [List.length_map]; omega, fun D nD => ?_⟩
    rw [List.length_map, Int.toNat_natCast]
    refine lc_range (lo := 0) (n := ns.length) (fun i H' => Same H H' ∧ ∃ ws, ws.length = i ∧ Rches H' D ps ws) ⟨same_upd nD, [], rfl, upd_same, fun k x g => by simp at g⟩ (fun i H1 hi h => ?_) fun H1 h => ?_
    · obtain ⟨s1, ws, lw, hW⟩ := h
      have e0 : (0 + ((i : Nat) : Int)) = (i : Int) := by omega
      rw [e0]
      refine ⟨by simp [wipe, List.set_set], tt_yes ⟨.ref c, rfl, .int (i : Int), rfl, c, _, ns.length, ps, rfl, o3.same s1, h8, S.few, hP, S.nd, fun H2 d fs s2 nd2 ed lf nf hf => ⟨_, s2 _ _ hW.1, ?_, fun b o z => ?_, ws ++ [(d, fs)], ?_, ?_⟩⟩⟩
      · rw [List.length_map]; exact few1 (by omega)
      · rw [upd_ne (ne_of_none z nD)]; exact s2 _ _ (s1 b o z)
      · rw [List.length_append, lw]; rfl
      · have hdD : d ≠ D := (ne_of_none hW.1 nd2).symm
        refine ⟨by rw [upd_same, List.map_append]; rfl, fun k x g => ?_⟩
        by_cases hk : k < ws.length
        · rw [List.getElem?_append_left hk] at g
          obtain ⟨a1, a2, a3⟩ := hW.2 k x g
          exact ⟨by rw [upd_ne a2]; exact s2 _ _ a1, a2, a3⟩
        · have hk2 : k = ws.length := by
            have := (List.getElem?_eq_some_iff.mp g).1
            rw [List.length_append] at this
            simp at this; omega
          subst hk2
          rw [List.getElem?_append_right (Nat.le_refl _), Nat.sub_self] at g
          cases g
          exact ⟨by rw [upd_ne hdD]; exact ed, hdD, lf, nf, fun j => by rw [lw]; exact hf j⟩
    obtain ⟨s1, ws, lw, hW⟩ := h
    -- found
    refine ⟨Nat.zero_le _, fun Fo nF => ⟨two, fun T0 nT => ?_⟩⟩
    refine ⟨T0, _, rfl, tupNew upd_same, rfl, _, _, rfl, _, _, rfl, rfl, ?_⟩
    have sF := (same_upd (o := .lst []) nF).trans (same_upd (o := .tup [.ref D, .ref Fo]) nT)
    have nFH : H Fo = none := s1.free nF
    have eF0 : (upd (upd H1 Fo (.lst [])) T0 (.tup [.ref D, .ref Fo])) Fo = some (.lst []) := by
      rw [upd_ne (ne_of_none upd_same nT), upd_same]
    have hFD : ∀ (k : Nat) (x : Addr × List Int), ws[k]? = some x → x.1 ≠ Fo := fun k x g => ne_of_none (hW.2 k x g).1 nF
    have hDF : D ≠ Fo := ne_of_none hW.1 nF
    have s2 := s1.trans sF
    have hW2 := hW.same sF
    generalize upd (upd H1 Fo (.lst [])) T0 (.tup [.ref D, .ref Fo]) = H2 at eF0 s2 hW2 ⊢
    clear hW sF nF nT s1
    refine ⟨.ref u, rfl, u, _, rfl, .inr (sqT_same s2 o2), _, rfl, by rw [List.length_map]; omega, by rw [List.length_map]; omega, ?_⟩
    rw [List.length_map, Int.toNat_natCast]
    refine for_range (lo := 0) (n := ns.length) (fun i σ H' => ∃ (y5 y6 y7 : Option V), σ = [some (.ref R), some (.ref u), some (.ref c), some (.ref D), some (.ref Fo), y5, y6, y7] ∧ Same H H' ∧ Rches H' D ps ws ∧ LotsH H' Fo (partsTo ps ns.length i))
      ⟨_, _, _, rfl, s2, hW2, [], rfl, eF0, fun _ z => nomatch z⟩ (fun i σ H3 hi h => ?_) (fun σ H3 h => ?_)
    · obtain ⟨y5, y6, y7, rfl, s3, hW3, hL3⟩ := h
      have e0 : (0 + ((i : Nat) : Int)) = (i : Int) := by omega
      rw [e0]
      obtain ⟨wi, gi⟩ : ∃ x, ws[i]? = some x := ⟨_, List.getElem?_eq_getElem (by omega)⟩
      obtain ⟨e1, _, l1, n1, m1⟩ := hW3.2 i wi gi
      refine ⟨.ref D, rfl, .int (i : Int), rfl, D, _, _, .ref wi.1, rfl, rfl, lstNew hW3.1, atI_nat (by rw [List.getElem?_map, gi]; rfl), wi.1, rfl, ⟨_, lstNew e1⟩, fun D2 nD2 => ?_⟩
      refine lc_filtL (f := fun y => rB ps y (i : Int)) (lstNew e1) (by omega) nD2 (fun y hy H' s' A B k => ?_) (fun y H' Q' k => ⟨.int y, rfl, k⟩) fun H4 s4 e4 => ?_
      · have by_ := (Rch.bound hP ((m1 y).mp hy)).2
        obtain ⟨wy, gy⟩ : ∃ x, ws[y.toNat]? = some x := ⟨_, List.getElem?_eq_getElem (by omega)⟩
        obtain ⟨a1, _, _, _, a5⟩ := (hW3.same s').2 y.toNat wy gy
        rw [Int.toNat_of_nonneg by_.1] at a5
        refine ⟨.int (i : Int), rfl, .ref D, rfl, .int y, rfl, D, _, _, .ref wy.1, rfl, rfl, lstNew (s' _ _ hW3.1), ?_, .int (i : Int), wy.2.map PyData.int, .int _, dpL (lstNew a1), shapedN _, shapedLI _, _, rfl, ?_⟩
        · rw [show y = ((y.toNat : Nat) : Int) by omega]
          exact atI_nat (by rw [List.getElem?_map, gy]; rfl)
        · rw [any_int]
          have e : decide ((i : Int) ∈ wy.2) = rB ps y (i : Int) := by
            rw [Bool.eq_iff_iff, decide_eq_true_iff, rB_iff]
            exact a5 _
          rw [e]
          exact k H' (Same.refl H')
      refine ⟨D2, _, rfl, lstNew e4, fun zs Z pm pw nZ => .inl ⟨Z, _, rfl, lstNew upd_same, fun U nU => ?_⟩⟩
      have ez := some_lot (n := ns.length) hP n1 m1 pm pw
      subst ez
      have sZ := (same_upd (o := .lst ((lotOf ps ns.length (i : Int)).map V.int)) nZ).trans (same_upd (o := .tup ((lotOf ps ns.length (i : Int)).map V.int)) nU)
      have eU : (upd (upd H4 Z (.lst ((lotOf ps ns.length (i : Int)).map V.int))) U (.tup ((lotOf ps ns.length (i : Int)).map V.int))) U = some (.tup ((lotOf ps ns.length (i : Int)).map V.int)) := upd_same
      have s5 := s4.trans sZ
      have s05 := s3.trans s5
      have hW5 := hW3.same s5
      have hL5 := hL3.same s5
      generalize upd (upd H4 Z (.lst ((lotOf ps ns.length (i : Int)).map V.int))) U (.tup ((lotOf ps ns.length (i : Int)).map V.int)) = H5 at eU s05 hW5 hL5 ⊢
      have hh := head_iff (ps := ps) hi
      have nxt := partsTo_next (ps := ps) (upN_get hi)
      refine ⟨.int (i : Int), rfl, .ref U, rfl, U, _, _, rfl, rfl, tupNew eU, _, rfl, ?_⟩
      by_cases c1 : (i : Int) ∈ lotOf ps ns.length (i : Int)
      · rw [decide_eq_true c1]
        rw [decide_eq_true c1, Bool.true_and] at hh
        refine iteT ⟨.ref U, rfl, .ref Fo, rfl, RV.dI _, (partsTo ps ns.length i).map RV.dI, dpT (tupNew eU), hL5.dp, shapedI _, shapedLs _, _, rfl, ?_⟩
        rw [any_lots, ← decide_not, ← hh]
        cases e : isHead ps ns.length (i : Int) with
        | true =>
          rw [e, if_pos rfl] at nxt
          obtain ⟨ks, k1, k2, k3⟩ := hL5
          have lk : ks.length ≤ ns.length := by rw [← List.length_map (f := (·.2)), k1]; exact partsTo_len _ _ _
          refine iteT ⟨.ref Fo, rfl, .inl ⟨rfl, _, lstNew k2⟩, .ref U, rfl, Fo, _, _, rfl, rfl, k2, by rw [List.length_map]; exact few1 (by omega), ?_⟩
          have kp : ∀ (b : Addr) (o : HO), H5 b = some o → b ≠ Fo → (upd H5 Fo (.lst ((ks.map fun p => V.ref p.1) ++ [.ref U]))) b = some o := fun b o e z => by rw [upd_ne z]; exact e
          refine ⟨_, _, _, rfl, fun b o z => ?_, ⟨kp _ _ hW5.1 hDF, fun k x g => ?_⟩, ks ++ [(U, lotOf ps ns.length (i : Int))], ?_, ?_, fun p hp => ?_⟩
          · rw [upd_ne (ne_of_none z nFH)]; exact s05 b o z
          · obtain ⟨a1, a2⟩ := hW5.2 k x g
            exact ⟨kp _ _ a1 (hFD k x g), a2⟩
          · rw [List.map_append, k1, nxt]; rfl
          · rw [upd_same, List.map_append]; rfl
          · rcases List.mem_append.mp hp with z | z
            · have e9 := k3 p z
              exact kp _ _ e9 fun z => by rw [z, k2] at e9; cases e9
            · rw [List.mem_singleton.mp z]
              exact kp _ _ eU fun z => by have z : U = Fo := z; rw [z, k2] at eU; cases eU
        | false =>
          rw [e, if_neg (by decide), List.append_nil] at nxt
          refine iteF ⟨_, _, _, rfl, s05, hW5, ?_⟩
          rw [nxt]; exact hL5
      · rw [decide_eq_false c1]
        rw [decide_eq_false c1, Bool.false_and] at hh
        rw [hh, if_neg (by decide), List.append_nil] at nxt
        refine iteF (A := True) ⟨_, _, _, rfl, s05, hW5, ?_⟩
        rw [nxt]; exact hL5
    · obtain ⟨y5, y6, y7, rfl, s3, hW3, hL3⟩ := h
      rw [partsTo_all] at hL3
      obtain ⟨ks, k1, k2, k3⟩ := hL3
      have lk : ks.length ≤ 8 := by rw [← List.length_map (f := (·.2)), k1]; exact Nat.le_trans (parts_len _ _) h8
      have mk : ∀ p ∈ ks, p.2 ∈ partsOf ps ns.length := fun p hp => by rw [← k1]; exact List.mem_map_of_mem hp
      refine ⟨.ref Fo, rfl, Fo, ks, hd0, rfl, lstNew k2, fun p hp => tupNew (k3 p hp), by rw [k1]; exact parts_nodup _ _, by omega, fun p hp => part_ne (mk p hp), fun p hp p' hp' => lexA_hd (mk p hp) (mk p' hp'), fun L' Z pm pw nZ => ?_⟩
      have e9 : L'.map (·.2) = partsOf ps ns.length := parts_sorted (by rw [← k1]; exact pm.map _) (List.pairwise_map.mpr pw)
      have sZ := same_upd (o := .lst (L'.map fun q => V.ref q.1)) nZ
      exact q _ Z (s3.trans sZ) (s3.free nZ) ⟨L', e9, upd_same, fun p hp => sZ _ _ (k3 p (pm.mem_iff.mp hp))⟩
end
end K10
set_option maxHeartbeats 4000000
namespace RV
open PySem PySem.Spec PyProof.Rows L2
section
variable {X : Cx} {K : PySem.W.Frag}
/-- t + u of any two tuples, wherever the sum stands -/
def rCatW (K : PySem.W.Frag) : R2 := fun x y H Q => ∃ a b xs ys, x = .ref a ∧ y = .ref b ∧ SqT K H a xs ∧ SqT K H b ys ∧ xs.length + ys.length ≤ sizeLine ∧ ∀ (p : Addr) (H' : Hp), Same H H' → SqT K H' p (xs ++ ys) → Q (.ref p) H'
theorem op_catW : OpR X (binaryOp .Add) (rCatW X.K) := by
  intro pins s σ H x y v u Q I rx ry h
  obtain ⟨a, b, xs, ys, e1, e2, h1, h2, hl, q⟩ := h
  refine op_catA pins s σ H x y v u Q I rx ry ⟨a, b, xs, ys, e1, e2, h1, h2, hl, fun z => ?_, fun _ z => ?_, fun _ _ p np => ?_⟩
  · exact q b H (fun _ _ e => e) (by rw [z]; exact h2)
  · exact q a H (fun _ _ e => e) (by rw [z, List.append_nil]; exact h1)
  · exact q p _ (same_upd np) (tupNew upd_same)
theorem op_catWK (h : X.K = K) : OpR X (binaryOp .Add) (rCatW K) := h ▸ op_catW
/-- t[lo:hi], wherever the slice stands -/
def rSlW (K : PySem.W.Frag) : V → Option Int → Option Int → Hp → VK → Prop := fun x lo hi H Q => ∃ a xs, x = .ref a ∧ SqT K H a xs ∧ ∀ (p : Addr) (H' : Hp), Same H H' → SqT K H' p (cutV xs lo hi) → Q (.ref p) H'
theorem sl_tupW : SlR X (rSlW X.K) := by
  intro pins s σ H x v vl vu lo hi sl Q I rx hs pl pu h
  obtain ⟨a, xs, e, h1, q⟩ := h
  refine sl_tupA pins s σ H x v vl vu lo hi sl Q I rx hs pl pu ⟨a, xs, e, h1, fun z => ?_, fun _ p np => ?_⟩
  · refine q a H (fun _ _ e => e) ?_
    unfold cutV
    rw [z.1, z.2, List.drop_zero, Nat.sub_zero, List.take_of_length_le (Nat.le_refl _)]
    exact h1
  · exact q p _ (same_upd np) (tupNew upd_same)
theorem sl_tupWK (h : X.K = K) : SlR X (rSlW K) := h ▸ sl_tupW
theorem cut_from (xs : List V) (k : Nat) : cutV xs (some (k : Int)) none = xs.drop k := by
  unfold cutV
  rw [HT.sIx_nat, HT.sIx_none]
  rcases Nat.le_total k xs.length with h | h
  · rw [Nat.min_eq_left h, List.take_of_length_le (by rw [List.length_drop]; exact Nat.le_refl _)]
  · rw [Nat.min_eq_right h, Nat.sub_self, List.take_zero, List.drop_eq_nil_of_le h]
theorem cut_to (xs : List V) (k : Nat) : cutV xs none (some (k : Int)) = xs.take k := by
  unfold cutV
  rw [HT.sIx_nat, HT.sIx_none, List.drop_zero, Nat.sub_zero]
  rcases Nat.le_total k xs.length with h | h
  · rw [Nat.min_eq_left h]
  · rw [Nat.min_eq_right h, List.take_of_length_le (Nat.le_refl _), List.take_of_length_le h]
theorem tuple_mul1 (l : Addr) (items : Array Value) (n : Nat) (dd : Option Addr) (sl : Array (Option Value)) (x : Int) (u : Tok) (c0 : (decide (x < -(2 ^ 63)) || decide (x ≥ 2 ^ 63)) = false) (c1 : (items.isEmpty || x == 1) = true) :
    Meets (Builtin.«tuple.__mul__» ⟨[.ref l, .int x u], []⟩) (fun _ R s => s.heap.get? l = some { cls := .type "tuple", dict := dd, data := .seq items n, slots := sl } ∧ R (.ok (.ret (Value.ref l))) s) :=
  .of_wp fun prog w A R s h => by
    obtain ⟨hp, g, d, tk, os⟩ := s
    obtain ⟨hl, h⟩ := h
    have f1 := AutoSeq1.idx_int
    wp_walk using wpAny_loadPart' hl
    repeat (first
      | (refine wpAny_ite_false (decide_eq_false (by rw [c0]; exact Bool.false_ne_true)) ?_; wp_walk using wpAny_loadPart' hl)
      | (refine wpAny_ite_true (decide_eq_true (by rw [c1])) ?_; wp_walk using wpAny_loadPart' hl))
    exact ⟨_, rfl, h⟩
theorem tuple_mul0 (l : Addr) (items : Array Value) (n : Nat) (dd : Option Addr) (sl : Array (Option Value)) (x : Int) (u : Tok) (c0 : (decide (x < -(2 ^ 63)) || decide (x ≥ 2 ^ 63)) = false) (c1 : (items.isEmpty || x == 1) = false) (c2 : (decide (x ≤ 0) || items.isEmpty) = true) :
    Meets (Builtin.«tuple.__mul__» ⟨[.ref l, .int x u], []⟩) (fun _ R s => s.heap.get? l = some { cls := .type "tuple", dict := dd, data := .seq items n, slots := sl } ∧ R (.ok (.ret (Value.ref s.heap.objs.size))) { s with heap := s.heap.push { cls := Value.type "tuple", data := Data.seq #[] }, toks := s.toks }) :=
  .of_wp fun prog w A R s h => by
    obtain ⟨hp, g, d, tk, os⟩ := s
    obtain ⟨hl, h⟩ := h
    have f1 := AutoSeq1.idx_int
    wp_walk using wpAny_loadPart' hl
    repeat (first
      | (refine wpAny_ite_false (decide_eq_false (by rw [c0]; exact Bool.false_ne_true)) ?_; wp_walk using wpAny_loadPart' hl)
      | (refine wpAny_ite_false (decide_eq_false (by rw [c1]; exact Bool.false_ne_true)) ?_; wp_walk using wpAny_loadPart' hl)
      | (refine wpAny_ite_true (decide_eq_true (by rw [c2])) ?_; wp_walk using wpAny_loadPart' hl))
    exact ⟨_, rfl, h⟩
/-- t * k, k from 0 on -/
def rRepW (K : PySem.W.Frag) : R2 := fun x y H Q => ∃ l k xs, x = .ref l ∧ y = .int k ∧ SqT K H l xs ∧ 0 ≤ k ∧ k ≤ 1000 ∧ xs.length ≤ 1000 ∧ ∀ (p : Addr) (H' : Hp), Same H H' → SqT K H' p (List.replicate k.toNat xs).flatten → Q (.ref p) H'
theorem flat_nil : ∀ m : Nat, (List.replicate m ([] : List V)).flatten = []
  | 0 => rfl
  | m + 1 => by rw [List.replicate_succ, List.flatten_cons, flat_nil m]; rfl
theorem op_repW : OpR X (binaryOp .Mult) (rRepW X.K) := by
  intro pins s σ H x y v u Q I rx ry h
  obtain ⟨l, k, xs, rfl, rfl, hT, h0, h1, hz, q⟩ := h
  by_cases hbig : xs ≠ [] ∧ 2 ≤ k
  · exact op_repT pins s σ H _ _ v u Q I rx ry ⟨l, k, xs, rfl, rfl, hT, hbig.1, hbig.2, h1, hz, fun p np => q p _ (same_upd np) (tupNew upd_same)⟩
  cases rx
  obtain ⟨t, rfl⟩ := ry
  obtain ⟨its, r, ⟨⟨cls, dd, data, sl⟩, ho, hc, n, hd⟩, hs⟩ := I.tuple hT
  simp only at hc hd
  subst hc hd
  have hle : its.length = xs.length := r.length.symm
  have c0 : (decide (k < -(2 ^ 63)) || decide (k ≥ 2 ^ 63)) = false := by
    rw [decide_eq_false (by omega), decide_eq_false (by omega)] <;> rfl
  by_cases e1 : xs = [] ∨ k = 1
  · have c1 : (its.toArray.isEmpty || k == 1) = true := by
      rcases e1 with e | e
      · have : its = [] := List.eq_nil_of_length_eq_zero (by rw [hle, e]; rfl)
        rw [this]; rfl
      · rw [e]; simp
    refine wpAny_binaryOp_repeat_ref (T := "tuple") (U := "int") (by decide) ⟨_, ho, rfl⟩ (fun s' => typeIs_int s' k t) noFill_tuple_mul F.fills_int_mul F.slot_int_rmul repeat_tuple F.slot_int_index.lookup
      (call_meets F.slot_int_rmul (typeIs_int s k t) F.entry_int_rmul (F.args_int_rmul_2 _ _) (int_rmul_tuple k t l its.toArray n dd sl)
        ⟨ho, rfl, ⟨_, ho, rfl⟩, call_meets F.slot_tuple_mul ⟨_, ho, rfl⟩ F.entry_tuple_mul (F.args_tuple_mul_2 _ _) (tuple_mul1 l its.toArray n dd sl k t c0 c1) ⟨ho, ?_⟩⟩)
    refine ⟨.ref l, H, I, rfl, q l H (fun _ _ e => e) ?_⟩
    rcases e1 with e | e
    · subst e; rw [flat_nil]; exact hT
    · subst e
      show SqT X.K H l ([xs].flatten)
      rw [List.flatten_cons, List.flatten_nil, List.append_nil]; exact hT
  · have e2 : xs ≠ [] := fun e => e1 (.inl e)
    have e3 : k = 0 := by
      rcases Int.lt_or_le k 2 with z | z
      · have : k ≠ 1 := fun e => e1 (.inr e)
        omega
      · exact absurd ⟨e2, z⟩ hbig
    have hi : its.toArray.isEmpty = false := by
      cases its with
      | nil => exact absurd (List.eq_nil_of_length_eq_zero hle.symm) e2
      | cons a b => rfl
    have c1 : (its.toArray.isEmpty || k == 1) = false := by
      rw [hi, e3]; rfl
    have c2 : (decide (k ≤ 0) || its.toArray.isEmpty) = true := by
      rw [e3]; rfl
    refine wpAny_binaryOp_repeat_ref (T := "tuple") (U := "int") (by decide) ⟨_, ho, rfl⟩ (fun s' => typeIs_int s' k t) noFill_tuple_mul F.fills_int_mul F.slot_int_rmul repeat_tuple F.slot_int_index.lookup
      (call_meets F.slot_int_rmul (typeIs_int s k t) F.entry_int_rmul (F.args_int_rmul_2 _ _) (int_rmul_tuple k t l its.toArray n dd sl)
        ⟨ho, rfl, ⟨_, ho, rfl⟩, call_meets F.slot_tuple_mul ⟨_, ho, rfl⟩ F.entry_tuple_mul (F.args_tuple_mul_2 _ _) (tuple_mul0 l its.toArray n dd sl k t c0 c1 c2) ⟨ho, ?_⟩⟩)
    refine ⟨.ref s.heap.objs.size, _, I.laid (t' := s.toks) (o := .tup []) (fun b ob q => Heap.get?_push_of_some _ q) (Nat.le_refl _) ?_, rfl, q _ _ (same_upd (I.hok.fresh (Nat.le_refl _))) (by rw [e3]; exact tupNew upd_same)⟩
    exact ⟨Nat.zero_le _, [], .nil, IsTup.new _ _⟩
theorem op_eqI1K (h : X.K = K) (hu : X.A.units + 64 < cLine) : OpR X (compareOp .Eq) (rEqI1 K) := h ▸ op_eqI1 hu
theorem op_repWK (h : X.K = K) : OpR X (binaryOp .Mult) (rRepW K) := h ▸ op_repW
end
/-- [h(x) for x in t], t a tuple of ints -/
theorem lc_mapT {K : PySem.W.Frag} {te : TE} {h : Int → Int} {σ : L2.St} {H1 : Hp} {a D : Addr} {v : Nat} {ns : List Int} {Qd : Hp → Prop} (hT : SqT K H1 a (ns.map V.int)) (hl : ns.length ≤ 1000) (nD : H1 D = none)
    (hte : ∀ x ∈ ns, ∀ (H' : Hp) (Q : VK), Same H1 H' → (∀ H2, Same H' H2 → Q (.int (h x)) H2) → te ((wipe σ [v]).set v (some (.int x))) H' Q)
    (hd : ∀ H', Same H1 H' → H' D = some (.lst ((ns.map h).map V.int)) → Qd H') :
    ∃ W : Nat → Nat → Hp → Prop, (∃ m, W 0 m (upd H1 D (.lst []))) ∧ ∀ i m H, W i m H →
      ((Itt K a).stop i H ∧ Qd H) ∨ ((Itt K a).go i H ∧ ∃ Nx : Hp → Prop, (∀ H', Nx H' → ∃ m', m' < m ∧ W (i + 1) m' H') ∧ ∀ x H', (Itt K a).yld i H x H' → gName v x (wipe σ [v]) H' fun σ2 H2 => wipe σ2 [v] = wipe σ [v] ∧ tYes σ2 H2 fun b H3 =>
        if b = true then te σ2 H3 fun y H4 => ∃ acc, H4 D = some (.lst acc) ∧ acc.length < sizeLine ∧ Nx (upd H4 D (.lst (acc ++ [y]))) else Nx H3) := by
  refine lc_tup (K := K) (a := a) (xs := ns.map V.int) (fun i H' => Same H1 H' ∧ H' D = some (.lst (((ns.take i).map h).map V.int))) ⟨same_upd nD, upd_same⟩ (fun i H' _ p => sqT_same p.1 hT) (fun i x H' hx p => ?_) fun H' p => ?_
  · obtain ⟨k, g, rfl⟩ := map_at hx
    refine ⟨by simp [wipe, List.set_set], tt_yes (hte k (List.mem_of_getElem? g) H' _ p.1 fun H2 s2 => ⟨_, s2 _ _ p.2, ?_, fun b o z => ?_, ?_⟩)⟩
    · rw [List.length_map, List.length_map, List.length_take]; exact few1 (by omega)
    · rw [upd_ne (ne_of_none z nD)]; exact s2 _ _ (p.1 b o z)
    · rw [upd_same, List.take_add_one, g, List.map_append, List.map_append]; rfl
  · rw [List.length_map, List.take_of_length_le (Nat.le_refl _)] at p
    exact hd H' p.1 p.2
end RV
set_option maxHeartbeats 4000000
/-! how many walks there are -/
namespace RV
/-- the sum of f over l -/
def sm {α : Type} (l : List α) (f : α → Int) : Int := (l.map f).sum
section
variable {α β : Type}
theorem sm_nil (f : α → Int) : sm [] f = 0 := rfl
theorem sm_cons (a : α) (l : List α) (f : α → Int) : sm (a :: l) f = f a + sm l f := by unfold sm; rw [List.map_cons, List.sum_cons]
theorem sm_app (l r : List α) (f : α → Int) : sm (l ++ r) f = sm l f + sm r f := by unfold sm; rw [List.map_append, List.sum_append]
theorem sm_congr {l : List α} {f g : α → Int} (h : ∀ a ∈ l, f a = g a) : sm l f = sm l g := by unfold sm; rw [List.map_congr_left h]
theorem sm_zero {l : List α} {f : α → Int} (h : ∀ a ∈ l, f a = 0) : sm l f = 0 := by
  induction l with
  | nil => rfl
  | cons a l ih => rw [sm_cons, h a (List.mem_cons_self ..), ih fun b hb => h b (List.mem_cons_of_mem _ hb)]; rfl
theorem sm_add (l : List α) (f g : α → Int) : sm l (fun a => f a + g a) = sm l f + sm l g := by
  induction l with
  | nil => rfl
  | cons a l ih => rw [sm_cons, sm_cons, sm_cons, ih]; omega
theorem sm_mul (l : List α) (f : α → Int) (c : Int) : sm l (fun a => c * f a) = c * sm l f := by
  induction l with
  | nil => rw [sm_nil, sm_nil, Int.mul_zero]
  | cons a l ih => rw [sm_cons, sm_cons, ih, Int.mul_add]
theorem sm_comm (l : List α) (r : List β) (F : α → β → Int) : sm l (fun a => sm r (F a)) = sm r (fun b => sm l fun a => F a b) := by
  induction l with
  | nil => exact (sm_zero fun b _ => rfl).symm
  | cons a l ih =>
    rw [sm_cons, ih, ← sm_add]
    exact sm_congr fun b _ => (sm_cons a l fun a => F a b).symm
theorem sm_map {γ : Type} (l : List γ) (g : γ → α) (f : α → Int) : sm (l.map g) f = sm l (fun c => f (g c)) := by unfold sm; rw [List.map_map]; rfl
theorem sm_filter (l : List α) (c : α → Bool) (f : α → Int) : sm (l.filter c) f = sm l fun a => if c a = true then f a else 0 := by
  induction l with
  | nil => rfl
  | cons a l ih =>
    rw [List.filter_cons, sm_cons]
    by_cases e : c a = true
    · rw [if_pos e, if_pos e, sm_cons, ih]
    · rw [if_neg e, if_neg e, ih, Int.zero_add]
theorem sm_flat (l : List (List α)) (f : α → Int) : sm l.flatten f = sm l fun r => sm r f := by
  induction l with
  | nil => rfl
  | cons a l ih => rw [List.flatten_cons, sm_app, sm_cons, ih]
theorem sm_len (l : List α) : sm l (fun _ => 1) = (l.length : Int) := by
  induction l with
  | nil => rfl
  | cons a l ih => rw [sm_cons, ih, List.length_cons]; omega
theorem sm_at [DecidableEq α] {l : List α} (nd : l.Nodup) {a : α} (ha : a ∈ l) (f : α → Int) : sm l (fun b => if b = a then f b else 0) = f a := by
  induction l with
  | nil => cases ha
  | cons b l ih =>
    rw [sm_cons]
    have nd' := List.nodup_cons.mp nd
    by_cases e : b = a
    · rw [if_pos e, sm_zero fun c hc => if_neg fun z => nd'.1 (by rw [e, ← z]; exact hc), e, Int.add_zero]
    · rw [if_neg e, ih nd'.2 ((List.mem_cons.mp ha).resolve_left fun z => e z.symm), Int.zero_add]
theorem sm_out [DecidableEq α] {l : List α} {a : α} (ha : a ∉ l) (f : α → Int) : sm l (fun b => if b = a then f b else 0) = 0 := sm_zero fun b hb => if_neg fun z => ha (by rw [← z]; exact hb)
/-- the sum over xs is that over l where f is nought elsewhere -/
theorem sm_part [DecidableEq α] {l : List α} (ndl : l.Nodup) (f : α → Int) : ∀ {xs : List α}, xs.Nodup → (∀ x ∈ xs, x ∉ l → f x = 0) → sm xs f = sm l fun y => if y ∈ xs then f y else 0
  | [], _, _ => by rw [sm_nil, sm_zero fun y _ => if_neg (by simp)]
  | x :: xs, nd, h => by
    have nd' := List.nodup_cons.mp nd
    rw [sm_cons, sm_part ndl f nd'.2 fun y hy => h y (List.mem_cons_of_mem _ hy)]
    have e1 : sm l (fun y => if y ∈ x :: xs then f y else 0) = sm l (fun y => (if y = x then f y else 0) + (if y ∈ xs then f y else 0)) := sm_congr fun y _ => by
      by_cases e : y = x
      · subst e
        rw [if_pos (List.mem_cons_self ..), if_pos rfl, if_neg nd'.1, Int.add_zero]
      · rw [if_neg e, Int.zero_add]
        by_cases e2 : y ∈ xs
        · rw [if_pos e2, if_pos (List.mem_cons_of_mem _ e2)]
        · rw [if_neg e2, if_neg fun z => (List.mem_cons.mp z).elim e e2]
    rw [e1, sm_add]
    by_cases hx : x ∈ l
    · rw [sm_at ndl hx]
    · rw [sm_out hx, h x (List.mem_cons_self ..) hx]
end
/-- one step on: what comes to j -/
def stp (ps : List (List Int)) (f : Int → Int) (j : Int) : Int := sm (ps.filter fun p => decide (p.getD 1 0 = j)) fun p => f (p.getD 0 0)
theorem stp_next {ps : List (List Int)} {f : Int → Int} {i : Nat} {x y : Int} (h : ps[i]? = some [x, y]) (j : Int) : stp (ps.take (i + 1)) f j = stp (ps.take i) f j + (if y = j then f x else 0) := by
  unfold stp
  rw [List.take_add_one, h]
  show sm ((ps.take i ++ [[x, y]]).filter _) _ = _
  rw [List.filter_append, sm_app]
  congr 1
  by_cases e : y = j
  · rw [if_pos e, List.filter_cons, if_pos (by exact decide_eq_true e)]
    exact Int.add_zero _
  · rw [if_neg e, List.filter_cons, if_neg (by show ¬ decide (y = j) = true; rw [decide_eq_false e]; decide)]
    rfl
/-- all walks of n steps from m to j -/
def cw (ps : List (List Int)) : Nat → Int → Int → Int
  | 0, m, j => if j = m then 1 else 0
  | n + 1, m, j => stp ps (cw ps n m) j
/-- those that keep to p -/
def lw (ps : List (List Int)) (p : List Int) : Nat → Int → Int → Int
  | 0, m, j => if j = m then 1 else 0
  | n + 1, m, j => if j ∈ p then stp ps (lw ps p n m) j else 0
theorem stp_mem {ps : List (List Int)} {b : Int} (hP : ∀ q ∈ ps, Pr b q) {j : Int} {q : List Int} (h : q ∈ ps.filter fun p => decide (p.getD 1 0 = j)) : [q.getD 0 0, j] ∈ ps := by
  obtain ⟨h1, h2⟩ := List.mem_filter.mp h
  obtain ⟨x, y, rfl, _⟩ := hP q h1
  have e : y = j := of_decide_eq_true h2
  rw [← e]; exact h1
theorem cw_rch {ps : List (List Int)} {b : Int} (hP : ∀ q ∈ ps, Pr b q) {m : Int} : ∀ {n : Nat} {j : Int}, cw ps n m j ≠ 0 → j = m ∨ Rch ps m j
  | 0, j, h => by
    by_cases e : j = m
    · exact .inl e
    · exact absurd (if_neg e) h
  | n + 1, j, h => by
    refine Classical.byContradiction fun no => h ?_
    show stp ps (cw ps n m) j = 0
    refine sm_zero fun q hq => Classical.byContradiction fun z => no (.inr ?_)
    have e := stp_mem hP hq
    rcases cw_rch hP z with e2 | e2
    · rw [← e2]; exact .one e
    · exact .more e2 e
/-- a walk from a mark of a lot back into it never leaves it -/
theorem lw_cw {ps : List (List Int)} {N : Nat} (hP : ∀ q ∈ ps, Pr (N : Int) q) {m : Int} (hm : m ∈ lotOf ps N m) : ∀ (n : Nat), (∀ j, j ∈ lotOf ps N m → lw ps (lotOf ps N m) n m j = cw ps n m j) ∧ (∀ j, j ∉ lotOf ps N m → lw ps (lotOf ps N m) n m j = 0)
  | 0 => ⟨fun j _ => rfl, fun j h => if_neg fun e => h (by rw [e]; exact hm)⟩
  | n + 1 => by
    obtain ⟨h1, h2⟩ := lw_cw hP hm n
    refine ⟨fun j hj => ?_, fun j hj => if_neg hj⟩
    show (if j ∈ lotOf ps N m then stp ps (lw ps (lotOf ps N m) n m) j else 0) = stp ps (cw ps n m) j
    rw [if_pos hj]
    refine sm_congr fun q hq => ?_
    have e := stp_mem hP hq
    by_cases c : q.getD 0 0 ∈ lotOf ps N m
    · exact h1 _ c
    · rw [h2 _ c]
      refine Classical.byContradiction fun z => c ?_
      have r := cw_rch hP (fun y => z y.symm)
      obtain ⟨_, j1, j2⟩ := mem_lot.mp hj
      have back : Rch ps (q.getD 0 0) m := (Rch.one e).trans j2
      rcases r with r | r
      · rw [r]; exact hm
      · exact mem_lot.mpr ⟨(Rch.bound hP (.one e)).1, r, back⟩
/-- one step on within p, by the marks of p -/
theorem stp_part {ps : List (List Int)} {b : Int} (hP : ∀ q ∈ ps, Pr b q) (nd : ps.Nodup) {p : List Int} (ndp : p.Nodup) {f : Int → Int} (hf : ∀ a, a ∉ p → f a = 0) (j : Int) : stp ps f j = sm p fun a => if [a, j] ∈ ps then f a else 0 := by
  unfold stp
  have e1 : sm (ps.filter fun p => decide (p.getD 1 0 = j)) (fun q => f (q.getD 0 0)) = sm ((ps.filter fun p => decide (p.getD 1 0 = j)).map fun q => q.getD 0 0) f := (sm_map _ _ _).symm
  rw [e1]
  have ndx : ((ps.filter fun p => decide (p.getD 1 0 = j)).map fun q => q.getD 0 0).Nodup := by
    refine List.pairwise_map.mpr (List.Pairwise.imp_of_mem (fun {x y} hx hy ne e => ne ?_) (nd.filter _))
    obtain ⟨x1, x2⟩ := List.mem_filter.mp hx
    obtain ⟨y1, y2⟩ := List.mem_filter.mp hy
    obtain ⟨a, b', rfl, _⟩ := hP x x1
    obtain ⟨c, d, rfl, _⟩ := hP y y1
    have e1 : b' = j := of_decide_eq_true x2
    have e2 : d = j := of_decide_eq_true y2
    have e3 : a = c := e
    rw [e1, e2, e3]
  rw [sm_part ndp f ndx fun x _ hx => hf x hx]
  refine sm_congr fun a _ => ?_
  have iff : a ∈ ((ps.filter fun p => decide (p.getD 1 0 = j)).map fun q => q.getD 0 0) ↔ [a, j] ∈ ps := by
    rw [List.mem_map]
    constructor
    · rintro ⟨q, hq, rfl⟩
      exact stp_mem hP hq
    · intro h
      exact ⟨[a, j], List.mem_filter.mpr ⟨h, decide_eq_true rfl⟩, rfl⟩
  by_cases c : [a, j] ∈ ps
  · rw [if_pos c, if_pos (iff.mpr c)]
  · rw [if_neg c, if_neg fun z => c (iff.mp z)]
/-! ### rows of marks, each behind the one ahead, of p -/
def lst0 (r : List Int) : Int := r.getLastD 0
/-- all rows one mark longer -/
def longer (ps : List (List Int)) (p : List Int) (rows : List (List Int)) : List (List Int) := (rows.map fun r => (p.filter fun b => decide ([lst0 r, b] ∈ ps)).map fun b => r ++ [b]).flatten
def rowsN (ps : List (List Int)) (p : List Int) : Nat → List (List Int)
  | 0 => p.map fun m => [m]
  | n + 1 => longer ps p (rowsN ps p n)
theorem rows_ne {ps : List (List Int)} {p : List Int} : ∀ {n : Nat} {r : List Int}, r ∈ rowsN ps p n → r ≠ []
  | 0, r, h => by
    obtain ⟨m, _, rfl⟩ := List.mem_map.mp h
    simp
  | n + 1, r, h => by
    obtain ⟨l, hl, hr⟩ := List.mem_flatten.mp h
    obtain ⟨r', _, rfl⟩ := List.mem_map.mp hl
    obtain ⟨b, _, rfl⟩ := List.mem_map.mp hr
    simp
theorem hd_app {r : List Int} (h : r ≠ []) (b : Int) : hd0 (r ++ [b]) = hd0 r := by
  cases r with
  | nil => exact absurd rfl h
  | cons x r => rfl
theorem lst_app (r : List Int) (b : Int) : lst0 (r ++ [b]) = b := by unfold lst0; simp
/-- how often each first and last mark comes -/
theorem rows_sum {ps : List (List Int)} {N : Nat} (hP : ∀ q ∈ ps, Pr (N : Int) q) (nd : ps.Nodup) {p : List Int} (hp : ∀ m ∈ p, lotOf ps N m = p) : ∀ (n : Nat) (φ : Int → Int → Int), sm (rowsN ps p n) (fun r => φ (hd0 r) (lst0 r)) = sm p fun m => sm p fun j => lw ps p n m j * φ m j
  | 0, φ => by
    show sm (p.map fun m => [m]) (fun r => φ (hd0 r) (lst0 r)) = _
    rw [sm_map]
    refine sm_congr fun m hm => ?_
    have ndp : p.Nodup := by rw [← hp m hm]; exact (lot_rise ps N m).imp fun h => by omega
    have e : sm p (fun j => lw ps p 0 m j * φ m j) = sm p (fun j => if j = m then φ m j else 0) := sm_congr fun j _ => by
      show (if j = m then (1 : Int) else 0) * φ m j = _
      by_cases c : j = m
      · rw [if_pos c, if_pos c, Int.one_mul]
      · rw [if_neg c, if_neg c, Int.zero_mul]
    rw [e, sm_at ndp hm]; rfl
  | n + 1, φ => by
    have e0 : sm (rowsN ps p (n + 1)) (fun r => φ (hd0 r) (lst0 r)) = sm (rowsN ps p n) (fun r => (fun m a => sm p fun b => if [a, b] ∈ ps then φ m b else 0) (hd0 r) (lst0 r)) := by
      show sm (longer ps p (rowsN ps p n)) _ = _
      unfold longer
      rw [sm_flat, sm_map]
      refine sm_congr fun r hr => ?_
      rw [sm_map, sm_filter]
      refine sm_congr fun b _ => ?_
      rw [hd_app (rows_ne hr), lst_app]
      by_cases c : [lst0 r, b] ∈ ps
      · rw [if_pos (decide_eq_true c), if_pos c]
      · rw [if_neg (by rw [decide_eq_false c]; decide), if_neg c]
    rw [e0]
    refine (rows_sum hP nd hp n (fun m a => sm p fun b => if [a, b] ∈ ps then φ m b else 0)).trans ?_
    refine sm_congr fun m hm => ?_
    have hl := hp m hm
    have hmm : m ∈ lotOf ps N m := by rw [hl]; exact hm
    have ndp : p.Nodup := by rw [← hl]; exact (lot_rise ps N m).imp fun h => by omega
    have out := (lw_cw hP hmm n).2
    rw [hl] at out
    have e1 : sm p (fun j => lw ps p n m j * sm p fun b => if [j, b] ∈ ps then φ m b else 0) = sm p fun j => sm p fun b => lw ps p n m j * (if [j, b] ∈ ps then φ m b else 0) := sm_congr fun j _ => (sm_mul p _ _).symm
    rw [e1, sm_comm]
    refine sm_congr fun b hb => ?_
    show _ = (if b ∈ p then stp ps (lw ps p n m) b else 0) * φ m b
    rw [if_pos hb, stp_part hP nd ndp out b, Int.mul_comm, ← sm_mul]
    refine sm_congr fun a _ => ?_
    by_cases c : [a, b] ∈ ps
    · rw [if_pos c, if_pos c, Int.mul_comm]
    · rw [if_neg c, if_neg c, Int.mul_zero, Int.mul_zero]
/-- all rings of n + 1 places -/
theorem rings_count {ps : List (List Int)} {N : Nat} (hP : ∀ q ∈ ps, Pr (N : Int) q) (nd : ps.Nodup) {p : List Int} (hp : ∀ m ∈ p, lotOf ps N m = p) (n : Nat) :
    (((rowsN ps p n).filter fun r => decide ([lst0 r, hd0 r] ∈ ps)).length : Int) = sm p fun m => cw ps (n + 1) m m := by
  rw [← sm_len, sm_filter]
  have e := rows_sum hP nd hp n (fun m j => if [j, m] ∈ ps then 1 else 0)
  have e0 : sm (rowsN ps p n) (fun r => if (decide ([lst0 r, hd0 r] ∈ ps)) = true then (1 : Int) else 0) = sm (rowsN ps p n) (fun r => (fun m j => if [j, m] ∈ ps then (1 : Int) else 0) (hd0 r) (lst0 r)) := sm_congr fun r _ => by
    by_cases c : [lst0 r, hd0 r] ∈ ps
    · rw [if_pos (decide_eq_true c)]; exact (if_pos c).symm
    · rw [if_neg (by rw [decide_eq_false c]; decide)]; exact (if_neg c).symm
  rw [e0, e]
  refine sm_congr fun m hm => ?_
  have hl := hp m hm
  have hmm : m ∈ lotOf ps N m := by rw [hl]; exact hm
  have ndp : p.Nodup := by rw [← hl]; exact (lot_rise ps N m).imp fun h => by omega
  have out := (lw_cw hP hmm n).2
  have inn := (lw_cw hP hmm (n + 1)).1 m hmm
  rw [hl] at out inn
  rw [← inn]
  show _ = (if m ∈ p then stp ps (lw ps p n m) m else 0)
  rw [if_pos hm, stp_part hP nd ndp out m]
  refine sm_congr fun a _ => ?_
  by_cases c : [a, m] ∈ ps
  · rw [if_pos c, if_pos c, Int.mul_one]
  · rw [if_neg c, if_neg c, Int.mul_zero]
theorem longer_len {ps : List (List Int)} {p : List Int} (rows : List (List Int)) : (longer ps p rows).length ≤ rows.length * p.length := by
  unfold longer
  induction rows with
  | nil => simp
  | cons r rows ih =>
    rw [List.map_cons, List.flatten_cons, List.length_append, List.length_map, List.length_cons, Nat.add_mul, Nat.one_mul]
    have := List.length_filter_le (fun b => decide ([lst0 r, b] ∈ ps)) p
    omega
theorem rows_len {ps : List (List Int)} {p : List Int} : ∀ n : Nat, (rowsN ps p n).length ≤ p.length ^ (n + 1)
  | 0 => by
    show (p.map fun m => [m]).length ≤ _
    rw [List.length_map, Nat.pow_one]; exact Nat.le_refl _
  | n + 1 => by
    rw [Nat.pow_succ]
    exact Nat.le_trans (longer_len _) (Nat.mul_le_mul (rows_len n) (Nat.le_refl _))
end RV
set_option maxHeartbeats 4000000
namespace K10
open PySem PySem.Spec PyProof.Rows L2 RV
section
variable {P : Program} {w : World} {K : PySem.W.Frag} {mg : Str → Option Value} {base : Heap}
/-! ### _law_made -/
theorem scMade : FnScope ["_law_own"] ["_law_own"] (defScope sMade) := ⟨rfl, rfl, rfl, by decide +kernel, rfl, by decide +kernel, by decide +kernel⟩
def spMade (K : PySem.W.Frag) (C : Addr) : Sp := fun vs H Q _ => ∃ (o : Addr) (ns : List Int) (ps : List (List Int)), vs = [.ref o] ∧ OwnH K H o ns ps ∧ ∀ (H' : Hp) (r : Addr), Same H H' → RuleAt K C H' r ns ps → Q (.ref r) H'
theorem ok_made {f fI C : Addr} {fd fdI : FuncData} (F : Fun K "_law_made" "_law_made" sMade f fd) (T : Txt K mg C) (M : Mk K C fI) (bI : Binds K fdI ["self", "mirrors", "steps"] []) (GI : FnOk P w K mg base CX0 6 fI fdI ["self", "mirrors", "steps"] (spInit K C)) (B : Bare mg) :
    FnOk P w K mg base CX0 8 f fd ["_law_own"] (spMade K C) := by
  refine F.ok scMade (fun vs H Q E h => ?_) (fun cdv A outer s H vs Q E hr h => ?_)
  · obtain ⟨o, ns, ps, rfl, _⟩ := h
    rfl
  · obtain ⟨o, ns, ps, rfl, ⟨u, c, o1, o2, o3, hM, S⟩, q⟩ := h
    refine ⟨_, pss_one (ps_ret (pe_make M GI hr (by rfl) T.mgC bI .nil pass0 (pa_cons (pe_ix ix_tup (pv 0) pe_int (fun _ _ => rfl)) (pa_cons (pe_ix ix_tup (pv 0) pe_int (fun _ _ => rfl)) pa_nil)))), ?_⟩
    refine ⟨.ref o, rfl, o, _, 0, .ref u, rfl, rfl, tupNew o1, rfl, .ref o, rfl, o, _, 1, .ref c, rfl, rfl, tupNew o1, rfl, fun x dx nx nd ne => ?_⟩
    exact make_rule o2 o3.tups hM S nx nd ne fun H' s' R => q H' x s' R
end
end K10
set_option maxHeartbeats 4000000
/-! {elt for a in x for b in y}: ints, two clauses, no tests -/
namespace RV
open PySem PySem.Spec PyProof.Rows L2
/-- two clauses, no tests -/
abbrev sc2 (el ta ia tb ib : Expr) (sco : Scope) (p : Pos) : Expr := .SetComp el [⟨ta, ia, [], 0⟩, ⟨tb, ib, [], 0⟩] sco p
/-- the code of a comprehension's turn: store what comes, then body -/
def turnOf (p : Pos) (tg : Expr) (it : Value) (env : Env) (rest : Sem Fin) : Sem Fin := standAt p >>= fun _ => pyNext it >>= fun r => match r with
  | none => pure (.done .next)
  | some v => letOwnedTupleGo tg it v >>= fun _ => assign tg env v >>= fun _ => rest
/-- a loop of a comprehension's block whose turns are of that form -/
theorem walk {Y : Cx} {el ta ia t1 ib tg : Expr} {sco : Scope} {pp : Pos} {d : Nat} {it : Addr} {acc : Value} {p : Pos} {rest : Sem Fin} {fp : List Addr} {tn : Nat → Heap → Prop} {J : It} {pins : List (Addr × Obj)} {σ0 : L2.St} {H0 : Hp} {s0 : Shared} {g : TG} {tb : L2.St → Hp → (Hp → Prop) → Prop} {R : Result → Shared → Prop}
    (hc : Y.calm = true) (T : Turn Y.prog Y.w Y.K tg J fp it tn) (form : compTurn (sc2 el ta ia t1 ib sco pp) d (.ref it) acc Y.env = turnOf p tg (.ref it) Y.env rest)
    (fpok : ∀ {H s}, Inv Y pins σ0 H s → (∀ b ∈ fp, H b = none) → ∀ b ∈ fp, FpOk Y pins H b) (pg : PG Y tg g) (noerr : ∀ e s, Y.xe e s → False)
    (hb : ∀ (pins' : List (Addr × Obj)) (σ2 : L2.St) (H2 : Hp) (s2 : Shared) (Nx : Hp → Prop), Inv Y pins' σ2 H2 s2 → tb σ2 H2 Nx → wpAny (model Y.prog Y.w) Y.A rest (fun fin s3 => fin = .again (.compLoop (sc2 el ta ia t1 ib sco pp) d (.ref it) acc Y.env) ∧ ∃ H3, Inv Y pins' σ0 H3 s3 ∧ Nx H3) (fun _ _ => False) s2)
    (W : Nat → Nat → Hp → Prop) {m0 : Nat} (I0 : Inv Y pins σ0 H0 s0) (t0 : tn 0 s0.heap) (n0 : ∀ b ∈ fp, H0 b = none) (w0 : W 0 m0 H0)
    (turn : ∀ i m H, W i m H → (J.stop i H ∧ ∀ s, Inv Y pins σ0 H s → R (.ok .next) s) ∨ (J.go i H ∧ ∃ Nx : Hp → Prop, (∀ H', Nx H' → ∃ m', m' < m ∧ W (i + 1) m' H') ∧ ∀ x H', J.yld i H x H' → g x σ0 H' fun σ2 H2 => tb σ2 H2 Nx)) :
    codeAny (model Y.prog Y.w) Y.A (.compLoop (sc2 el ta ia t1 ib sco pp) d (.ref it) acc Y.env) R s0 := by
  refine codeAny_loop rfl (fun n s => ∃ i H, Inv Y pins σ0 H s ∧ tn i s.heap ∧ (∀ b ∈ fp, H b = none) ∧ W i n H) (fun n s h => ?_) m0 ⟨0, H0, I0, t0, n0, w0⟩
  obtain ⟨i, H, I, st, nf, hw⟩ := h
  show wpAny (model Y.prog Y.w) Y.A ((compTurn (sc2 el ta ia t1 ib sco pp) d (.ref it) acc Y.env).onRaise fun x => do noteFrame x Y.env; theTreesLotGoes x) _ _ s
  refine wpAny_noted ?_
  rw [form]
  refine wpAny_bind (wpAny_standAt (wpAny_bind ?_))
  rcases turn i n H hw with ⟨stop, fin⟩ | ⟨go, Nx, hNx, step⟩
  · refine thnF (T.done Y rfl rfl rfl hc i pins s σ0 H (fun _ _ => False) I (fpok I nf) st stop) fun r s1 ⟨hr, I1⟩ => ?_
    subst hr
    exact wpAny_pure (fin s1 I1)
  · refine thnF (T.item Y rfl rfl rfl hc i pins s σ0 H (fun _ _ => False) I (fpok I nf) st go) fun r s1 ⟨u, hr, h1⟩ => ?_
    subst hr
    refine wpAny_bind (thnF h1 fun _ s2 ⟨x, H2, I2, rx, yx, st2, nf2⟩ => ?_)
    have J2 := I2.pinned (fpok I2 nf2) (T.obj _ _ st2)
    refine wpAny_bind (wpAny_mono (pg.run _ s2 σ0 H2 x u _ J2 rx (step x H2 yx)) (fun _ s3 h3 => ?_) fun e s' z => (noerr e s' z).elim)
    obtain ⟨σ3, H3, I3, b3⟩ := h3
    refine thnF (hb _ σ3 H3 s3 Nx I3 b3) fun fin s4 ⟨ef, H4, I4, nx⟩ => ?_
    subst ef
    refine ⟨rfl, ?_⟩
    obtain ⟨m', lt, w'⟩ := hNx H4 nx
    have held : ∀ b ∈ fp, ∀ o, s2.heap.get? b = some o → s4.heap.get? b = some o ∧ H4 b = none := fun b hb' o e => by
      have z := I4.pin (b, o) (List.mem_append_right _ (List.mem_append_right _ (mem_pinsAt hb' e)))
      exact ⟨z.1, z.2.1⟩
    refine ⟨m', lt, i + 1, H4, I4.unpinned, T.keep _ _ _ st2 fun b hb' o e => (held b hb' o e).1, fun b hb' => ?_, w'⟩
    obtain ⟨o, e, _⟩ := T.obj _ _ st2 b hb'
    exact (held b hb' o e).2
/-- a clause's start goes to its loop -/
theorem start_of {P : Program} {w : World} {A : Around} {env : Env} {R : Result → Shared → Prop} {s : Shared} {el ta ia t1 ib : Expr} {sco : Scope} {pp : Pos} {d : Nat} {it acc : Value} (hd : d < 2) (self : ∀ (Q : Value → Shared → Prop) (E : Value → Shared → Prop), Q it s → wpAny (model P w) A (pyIter it) Q E s)
    (h : codeAny (model P w) A (.compLoop (sc2 el ta ia t1 ib sco pp) d it acc env) R s) : codeAny (model P w) A (.compStart (sc2 el ta ia t1 ib sco pp) d it acc env) R s := by
  refine codeAny_of_tree ?_
  show wpAny (model P w) A ((compStart (sc2 el ta ia t1 ib sco pp) d it acc env).onRaise fun x => do noteFrame x env; standAt theWindowsPlace) _ _ s
  refine wpAny_notedAt ?_
  have go : ∀ q : Pos, wpAny (model P w) A (standAt q >>= fun _ => pyIter it >>= fun j => again (.compLoop (sc2 el ta ia t1 ib sco pp) d j acc env)) (fun fin s' => match fin with | .done f => R (.ok f) s' | .again c' => c'.quiet = true ∧ codeAny (model P w) A c' R s') (notedBy (model P w) A env fun e s' => R (.error e) s') s := fun q =>
    wpAny_bind (wpAny_standAt (wpAny_bind (self _ _ (wpAny_pure ⟨rfl, h⟩))))
  have now : wpAny (model P w) A (again (.compLoop (sc2 el ta ia t1 ib sco pp) d it acc env)) (fun fin s' => match fin with | .done f => R (.ok f) s' | .again c' => c'.quiet = true ∧ codeAny (model P w) A c' R s') (notedBy (model P w) A env fun e s' => R (.error e) s') s := wpAny_pure ⟨rfl, h⟩
  obtain rfl | rfl : d = 0 ∨ d = 1 := by omega
  all_goals
    unfold compStart
    show wpAny (model P w) A (ask >>= _) _ _ s
    refine wpAny_bind (wpAny_askSetting (wpAny_ite ?_))
    split
    · exact wpAny_bind (wpAny_pure now)
    · exact wpAny_bind (wpAny_rule (go _))
section
variable {el ta ia t1 ib : Expr} {sco : Scope} {pp : Pos}
theorem form0 (it acc : Value) (env : Env) : compTurn (sc2 el ta ia t1 ib sco pp) 0 it acc env = turnOf ia.pos ta it env
    (eval ib env >>= fun x => standAt ib.pos >>= fun _ => foldedSetIterable ib env x >>= fun x => holding [x] (pyIter x) >>= fun j => runOwn (.compStart (sc2 el ta ia t1 ib sco pp) 1 j acc env) env >>= fun _ => again (.compLoop (sc2 el ta ia t1 ib sco pp) 0 it acc env)) := by rfl
theorem form1 (it acc : Value) (env : Env) : compTurn (sc2 el ta ia t1 ib sco pp) 1 it acc env = turnOf ib.pos t1 it env
    ((eval el env >>= fun v => standAt el.pos >>= fun _ => call (.builtin "set.add") [acc, v] >>= fun _ => pure ()) >>= fun _ => again (.compLoop (sc2 el ta ia t1 ib sco pp) 1 it acc env)) := by rfl
end
/-- what the inner loop must do, from what the outer one stored -/
def tInner (w : World) (D : Addr) (wi1 : TI) (g1 : TG) (te : TE) (vs1 : List Nat) : L2.St → Hp → (Hp → Prop) → Prop := fun σ2 H2 Nx => wi1 σ2 H2 fun J1 H4 => ∃ W1 : Nat → Nat → Hp → Prop, (∃ m, W1 0 m H4) ∧ ∀ j k H, W1 j k H →
  (J1.stop j H ∧ Nx H) ∨ (J1.go j H ∧ ∃ Nx1 : Hp → Prop, (∀ H', Nx1 H' → ∃ k', k' < k ∧ W1 (j + 1) k' H') ∧ ∀ x H', J1.yld j H x H' → g1 x (wipe σ2 vs1) H' fun σ3 H5 => wipe σ3 vs1 = wipe σ2 vs1 ∧
    te σ3 H5 fun y H7 => ∃ (c : Int) (S : Int → Bool) (n : Nat), y = .int c ∧ H7 D = some (SetO w D S n) ∧ n + 1 < scanBound ∧ Nx1 (upd H7 D (SetO w D (fun j => S j || decide (j = c)) (if S c = true then n else n + 1))))
/-- {el for ta in ia for t1 in ib}: D the new set, vs the block's names, vs1 those of the second target -/
def tS2 (w : World) (wi : TI) (g : TG) (wi1 : TI) (g1 : TG) (te : TE) (vs vs1 : List Nat) : TE := fun σ H Q => wi σ H fun J H1 => ∀ D, H1 D = none → ∃ W : Nat → Nat → Hp → Prop, (∃ m, W 0 m (upd H1 D (SetO w D (fun _ => false) 0))) ∧ ∀ i m H, W i m H →
  (J.stop i H ∧ Q (.ref D) H) ∨ (J.go i H ∧ ∃ Nx : Hp → Prop, (∀ H', Nx H' → ∃ m', m' < m ∧ W (i + 1) m' H') ∧ ∀ x H', J.yld i H x H' → g x (wipe σ vs) H' fun σ2 H2 => wipe σ2 vs = wipe σ vs ∧ tInner w D wi1 g1 te vs1 σ2 H2 Nx)
theorem wipe_keep {σ : L2.St} {j : Nat} : ∀ {vs : List Nat}, j ∉ vs → (wipe σ vs)[j]? = σ[j]?
  | [], _ => rfl
  | v :: vs, h => by
    have h1 := List.ne_of_not_mem_cons h
    show ((wipe σ vs).set v none)[j]? = _
    rw [List.getElem?_set_ne (Ne.symm h1), wipe_keep (List.not_mem_of_not_mem_cons h)]
section
variable {Y : Cx} {el ta ia t1 ib : Expr} {sco : Scope} {pp : Pos} {D : Addr} {wi1 : TI} {g1 : TG} {te : TE} {vs vs1 : List Nat} {σ0 : L2.St}
/-- the outer loop's body -/
theorem inner {o : Addr} (hc : Y.calm = true) (noerr : ∀ e s, Y.xe e s → False) (hv : ∀ i ∈ vs1, i ∈ vs) (hs : ∀ x, foldedSetIterable ib Y.env x = pure x) (p1 : PI Y t1 ib wi1) (pg1 : PG Y t1 g1) (pe : PE Y el te)
    (pins : List (Addr × Obj)) (σ2 : L2.St) (H2 : Hp) (s2 : Shared) (Nx : Hp → Prop) (I2 : Inv Y pins σ2 H2 s2) (h : wipe σ2 vs = σ0 ∧ tInner Y.w D wi1 g1 te vs1 σ2 H2 Nx) :
    wpAny (model Y.prog Y.w) Y.A (eval ib Y.env >>= fun x => standAt ib.pos >>= fun _ => foldedSetIterable ib Y.env x >>= fun x => holding [x] (pyIter x) >>= fun j => runOwn (.compStart (sc2 el ta ia t1 ib sco pp) 1 j (.ref D) Y.env) Y.env >>= fun _ => again (.compLoop (sc2 el ta ia t1 ib sco pp) 0 (.ref o) (.ref D) Y.env))
      (fun fin s3 => fin = .again (.compLoop (sc2 el ta ia t1 ib sco pp) 0 (.ref o) (.ref D) Y.env) ∧ ∃ H3, Inv Y pins σ0 H3 s3 ∧ Nx H3) (fun _ _ => False) s2 := by
  obtain ⟨hw, h⟩ := h
  refine wpAny_bind (wpAny_mono (p1.run pins s2 σ2 H2 _ I2 h) (fun x s3 hx => ?_) fun e s z => (noerr e s z).elim)
  refine wpAny_bind (wpAny_standAt (wpAny_bind (wpAny_of_eq (hs x) (wpAny_bind (wpAny_holding (wpAny_mono hx (fun j s4 h4 => ?_) fun e s z => (noerr e s z).elim))))))
  obtain ⟨it, fp, tn, J1, H4, e, I4, T, st4, f4, W1, ⟨m1, w1⟩, turn1⟩ := h4
  subst e
  have back : ∀ {H s}, Inv Y pins (wipe σ2 vs1) H s → Inv Y pins σ0 H s := fun I => by
    subst hw
    refine I.weak (by rw [wipe_length, wipe_length]) fun i v e => ?_
    obtain ⟨e1, e2⟩ := wipe_some e
    rw [wipe_keep fun z => e2 (hv i z)]; exact e1
  refine wpAny_bind (wpAny_runOwn ?_)
  rw [Around.mark_none]
  have loop := walk (tb := fun σ3 H5 Nx1 => wipe σ3 vs1 = wipe σ2 vs1 ∧ te σ3 H5 fun y H7 => ∃ (c : Int) (S : Int → Bool) (n : Nat), y = .int c ∧ H7 D = some (SetO Y.w D S n) ∧ n + 1 < scanBound ∧ Nx1 (upd H7 D (SetO Y.w D (fun j => S j || decide (j = c)) (if S c = true then n else n + 1))))
    (R := fun r s' => match r with | .ok _ => ∃ H3, Inv Y pins σ0 H3 s' ∧ Nx H3 | .error _ => False) hc T (form1 (el := el) (ta := ta) (ia := ia) (t1 := t1) (ib := ib) (sco := sco) (pp := pp) (.ref it) (.ref D) Y.env)
    (fun {H s} _ hn b hb => ⟨hn b hb, (f4 b hb).2⟩) pg1 noerr
    (fun pins' σ3 H5 s5 Nx1 I5 ⟨hw5, h5⟩ => by
      refine wpAny_bind (wpAny_bind (wpAny_mono (pe.run pins' s5 σ3 H5 _ I5 h5) (fun z s6 h6 => ?_) fun e s z => (noerr e s z).elim))
      obtain ⟨y, H7, I7, r7, c, S, n, ey, hD, room, nx⟩ := h6
      subst ey
      refine wpAny_bind (wpAny_standAt (wpAny_bind ?_))
      refine wpAny_mono (mt_sadd pins' s6 σ3 H7 (.ref D) [.int c] (.ref D) [z] (fun _ H' => Nx1 H') I7 rfl (.cons r7 .nil) ⟨D, c, S, n, rfl, rfl, hD, room, nx⟩) (fun _ s8 h8 => ?_) fun e s z => (noerr e s z).elim
      obtain ⟨y8, H8, I8, _, q8⟩ := h8
      exact wpAny_pure (wpAny_pure ⟨rfl, H8, I8.weak (by rw [← hw5, wipe_length]) fun i v e => by rw [← hw5] at e; exact (wipe_some e).1, q8⟩))
    W1 (I4.weak (wipe_length _ _) fun i v e => (wipe_some e).1) st4 (fun b hb => (f4 b hb).1) w1
    (fun j k H hW => by
      rcases turn1 j k H hW with ⟨stop, nx⟩ | ⟨go, Nx1, hN1, step⟩
      · exact .inl ⟨stop, fun s I => ⟨H, back I, nx⟩⟩
      · exact .inr ⟨go, Nx1, hN1, step⟩)
  refine codeAny_mono (start_of (by decide) (fun Q E q => T.self _ 0 _ _ _ st4 q) loop) fun r s' hr => ?_
  cases r with
  | ok f => exact wpAny_pure ⟨rfl, hr⟩
  | error e => exact hr.elim
end
section
variable {X : Cx}
abbrev blkEnv (X : Cx) (sco : Scope) (s : Shared) : Env := compEnvC sco (cellsFrom (s.heap.objs.size + 1) sco.names (cloFrom X.env.cells sco.names [])) s.heap.objs.size X.env
theorem block {el ta ia t1 ib : Expr} {sco : Scope} {own : List (PySem.Str × Nat)} {vs1 : List Nat} {pp : Pos} {wi1 : TI} {g g1 : TG} {te : TE} {pins : List (Addr × Obj)} {σ : L2.St} {H : Hp} {s : Shared} {it D : Addr} {fp : List Addr} {tn : Nat → Heap → Prop} {J : It} {Q : VK} {W : Nat → Nat → Hp → Prop} {m0 : Nat} {Z : Result → Shared → Prop}
    (hc : X.calm = true) (hN : X.N.Nodup) (ok : BlkOk X.N X.env.scope sco own) (hv : ∀ i ∈ vs1, i ∈ own.map (·.2)) (hs1 : ∀ env x, foldedSetIterable ib env x = pure x)
    (pg : PG (X.blk s H sco (blkEnv X sco s) fp) ta g) (p1 : PI (X.blk s H sco (blkEnv X sco s) fp) t1 ib wi1) (pg1 : PG (X.blk s H sco (blkEnv X sco s) fp) t1 g1) (pe : PE (X.blk s H sco (blkEnv X sco s) fp) el te)
    (I : Inv X pins σ H s) (T : Turn X.prog X.w X.K ta J fp it tn) (st : tn 0 s.heap) (hf : ∀ b ∈ fp, FpOk X pins H b ∧ b < s.heap.objs.size) (w0 : W 0 m0 H)
    (turn : ∀ i m H, W i m H → (J.stop i H ∧ Q (.ref D) H) ∨ (J.go i H ∧ ∃ Nx : Hp → Prop, (∀ H', Nx H' → ∃ m', m' < m ∧ W (i + 1) m' H') ∧ ∀ x H', J.yld i H x H' → g x (wipe σ (own.map (·.2))) H' fun σ2 H2 => wipe σ2 (own.map (·.2)) = wipe σ (own.map (·.2)) ∧ tInner X.w D wi1 g1 te vs1 σ2 H2 Nx))
    (fin : ∀ s' H' m, Inv X pins σ H' s' → Q (.ref D) H' → s'.heap.Ns s.heap.objs.size m → FpOk X pins H' s.heap.objs.size → Z (.ok .next) s') :
    codeAny (model X.prog X.w) X.A (.compStart (sc2 el ta ia t1 ib sco pp) 0 (.ref it) (.ref D) (blkEnv X sco s)) Z { s with heap := pushCells (s.heap.push { cls := .type "dict", data := .dict #[] }) sco.names } := by
  have I4 := block_start I ok hN hf
  have st4 : tn 0 (pushCells (s.heap.push { cls := .type "dict", data := .dict #[] }) sco.names) := T.keep _ _ _ st fun b _ o e => pushCells_keeps _ _ _ _ (Heap.get?_push_of_some _ e)
  refine start_of (by decide) (fun Q' E q => T.self _ 0 _ _ _ st4 q) ?_
  refine walk (Y := X.blk s H sco (blkEnv X sco s) fp) (tb := fun σ2 H2 Nx => wipe σ2 (own.map (·.2)) = wipe σ (own.map (·.2)) ∧ tInner X.w D wi1 g1 te vs1 σ2 H2 Nx) hc T (form0 (.ref it) (.ref D) (blkEnv X sco s))
    (fun {H' s'} I' hn b hb => ⟨hn b hb, (I'.ok.exf b hb).1, I'.ok.exfs b hb, .inl hb, fun x c e => (I'.ok.exf b hb).2 x c e, fun p hp => nomatch (show p ∈ ([] : List (Addr × Obj)) from hp)⟩) pg (fun _ _ z => z)
    (fun pins' σ2 H2 s2 Nx I2 h2 => inner (Y := X.blk s H sco (blkEnv X sco s) fp) (vs := own.map (·.2)) hc (fun _ _ z => z) hv (hs1 _) p1 pg1 pe pins' σ2 H2 s2 Nx I2 h2) W I4 st4 (fun b hb => (hf b hb).1.1) w0 (fun i m H' hW => ?_)
  rcases turn i m H' hW with ⟨stop, qq⟩ | z
  · refine .inl ⟨stop, fun s6 I6 => ?_⟩
    obtain ⟨m', hn, _⟩ := I6.loc
    exact fin s6 H' m' (I.call' (ch := fp) I6.os I6.base I6.hok I6.bare fun b hb => (hf b hb).1.2.2.2.1 |> fun z => ⟨z, (hf b hb).1.2.1, (hf b hb).1.2.2.2.2.1, (hf b hb).1.2.2.2.2.2⟩) qq hn (I.fpOk (Nat.le_refl _) I6.free)
  · exact .inr z
theorem pe_sc2 {el ta ia t1 ib : Expr} {sco : Scope} {own : List (PySem.Str × Nat)} {vs1 : List Nat} {pp : Pos} {wi wi1 : TI} {g g1 : TG} {te : TE} (hc : X.calm = true) (hN : X.N.Nodup) (hi : PI X ta ia wi) (ok : BlkOk X.N X.env.scope sco own) (hv : ∀ i ∈ vs1, i ∈ own.map (·.2))
    (hg : ∀ s H C cl fp, PG (X.blk s H sco (compEnvC sco cl C X.env) fp) ta g) (hi1 : ∀ s H C cl fp, PI (X.blk s H sco (compEnvC sco cl C X.env) fp) t1 ib wi1) (hg1 : ∀ s H C cl fp, PG (X.blk s H sco (compEnvC sco cl C X.env) fp) t1 g1)
    (he : ∀ s H C cl fp, PE (X.blk s H sco (compEnvC sco cl C X.env) fp) el te) (hs : ∀ x, foldedSetIterable ia X.env x = pure x := by intro _; rfl) (hs1 : ∀ env x, foldedSetIterable ib env x = pure x := by intro _ _; rfl) :
    PE X (.SetComp el [⟨ta, ia, [], 0⟩, ⟨t1, ib, [], 0⟩] sco pp) (tS2 X.w wi g wi1 g1 te (own.map (·.2)) vs1) := by
  refine ⟨fun pins s σ H Q I h => ?_⟩
  rw [PpSet.eval_SetComp]
  have known : ∀ y ∈ sco.names, y.2 = .free → ∃ c, X.env.cells.lookup y.1 = some c := fun y hy e => I.ok.has _ (ok.free y hy e)
  refine wpAny_comprehension_free (use := none) rfl hs (closure_ok known) ok.kind (fun y hy e => by rw [ok.uniq y hy, e]) (thn (hi.run pins s σ H _ I h) fun _ _ hx => thn hx fun iv s2 h2 => ?_)
  obtain ⟨it, fp, tn, J, H2, e, I2, T, st2, f2, q⟩ := h2
  subst e
  refine PpSet.newSet_ok (newEnv_comp ?_)
  have nD : H2 s2.heap.objs.size = none := I2.hok.fresh (Nat.le_refl _)
  obtain ⟨W, ⟨m0, w0⟩, turn⟩ := q _ nD
  have I3 := I2.laid (t' := s2.toks) (o := SetO X.w s2.heap.objs.size (fun _ => false) 0) (fun b o e => Heap.get?_push_of_some { cls := .type "set", dict := none, data := .set #[] 0 (.fresh 0 0 (!X.w.params.followText "set-order")) } e) (Nat.le_refl _) (setO_new (setR_fresh X.w))
  have young : ∀ b ∈ fp, b < s2.heap.objs.size := fun b hb => (T.obj _ _ st2 b hb).elim fun o e => Heap.lt_size e.1
  exact block hc hN ok hv hs1 (hg _ _ _ _ _) (hi1 _ _ _ _ _) (hg1 _ _ _ _ _) (he _ _ _ _ _) I3 T (T.keep _ _ _ st2 fun b _ o e => Heap.get?_push_of_some _ e)
    (fun b hb => ⟨⟨by rw [upd_ne (Nat.ne_of_lt (young b hb))]; exact (f2 b hb).1, (f2 b hb).2⟩, by show b < (Heap.push _ _).objs.size; rw [Heap.size_push]; exact Nat.lt_succ_of_lt (young b hb)⟩) w0 turn
    fun s' H' m I' qq hn ⟨f0, f1, _, f3, f4, f5⟩ => ⟨m, hn, fun h'' sb => ⟨.ref s2.heap.objs.size, H', I'.turned (t' := s'.toks) (fun b o hb e => (sb.2 b hb).trans e) f0 f1 f3 f4 f5, rfl, qq⟩⟩
end
end RV
set_option maxHeartbeats 4000000
/-! min of tuples of ints: of two, of a list of them -/
namespace RV
open PySem PySem.Spec PyProof.Rows L2
theorem lex_irr (xs : List Int) : HT.lexLt xs xs = false := by
  cases e : HT.lexLt xs xs with
  | false => rfl
  | true => have := NtL.lex_asym _ _ e; rw [e] at this; cases this
/-- the place of the first least -/
theorem best_least (l : Nat → List Int) : ∀ n : Nat, argBest (fun i j => HT.lexLt (l i) (l j)) n ≤ n ∧ ∀ j, j ≤ n → HT.lexLt (l j) (l (argBest (fun i j => HT.lexLt (l i) (l j)) n)) = false
  | 0 => ⟨Nat.le_refl _, fun j hj => by
    have : j = 0 := by omega
    subst this
    exact lex_irr _⟩
  | n + 1 => by
    obtain ⟨h1, h2⟩ := best_least l n
    have e0 : argBest (fun i j => HT.lexLt (l i) (l j)) (n + 1) = if HT.lexLt (l (n + 1)) (l (argBest (fun i j => HT.lexLt (l i) (l j)) n)) then n + 1 else argBest (fun i j => HT.lexLt (l i) (l j)) n := rfl
    rw [e0]
    generalize argBest (fun i j => HT.lexLt (l i) (l j)) n = b at h1 h2
    cases e : HT.lexLt (l (n + 1)) (l b) with
    | true =>
      rw [if_pos rfl]
      refine ⟨Nat.le_refl _, fun j hj => ?_⟩
      rcases Nat.lt_or_ge j (n + 1) with z | z
      · exact NtL.lex_tr _ _ _ (NtL.lex_asym _ _ e) (h2 j (by omega))
      · have : j = n + 1 := by omega
        subst this; exact lex_irr _
    | false =>
      rw [if_neg (by decide)]
      refine ⟨by omega, fun j hj => ?_⟩
      rcases Nat.lt_or_ge j (n + 1) with z | z
      · exact h2 j (by omega)
      · have : j = n + 1 := by omega
        subst this; exact e
section
variable {prog : Program} {w : World} {A : Around} {E : Value → Shared → Prop} {s : Shared}
/-- v is a tuple of the ints ns in h -/
def TupIn (h : Heap) (v : Value) (ns : List Int) : Prop := ∃ (a : Addr) (items : Array Value), v = .ref a ∧ IsTup h a items ∧ IntsAre items.toList ns
theorem TupIn.keep {h h' : Heap} {v : Value} {ns : List Int} (t : TupIn h v ns) (k : ∀ b o, h.get? b = some o → h'.get? b = some o) : TupIn h' v ns := by
  obtain ⟨a, items, e, ⟨o, h1, h2, h3⟩, hi⟩ := t
  exact ⟨a, items, e, ⟨o, k _ _ h1, h2, h3⟩, hi⟩
theorem cmp_tups {vs : Array Value} {l : Nat → List Int} (hu : A.units < cLine) (ht : ∀ i v, vs[i]? = some v → TupIn s.heap v (l i)) :
    CmpIn prog w A .Lt s.heap (fun i v => vs[i]? = some v) (fun i j => HT.lexLt (l i) (l j)) := fun i j vi vj s' Q E hk hi hj hq => by
  obtain ⟨a, it1, rfl, t1, i1⟩ := (ht i vi hi).keep hk
  obtain ⟨b, it2, rfl, t2, i2⟩ := (ht j vj hj).keep hk
  exact HT.lt_tupInts t1 t2 i1 i2 hu hq
/-- min(l) of a list of tuples of ints -/
theorem min_tups {a : Addr} {vs : Array Value} {l : Nat → List Int} {Q : Value → Shared → Prop} (hh : A.handled = none) (hl : s.heap.IsList a vs) (h0 : 0 < vs.size) (hu : A.units + 1 < cLine) (ht : ∀ i v, vs[i]? = some v → TupIn s.heap v (l i))
    (h : ∀ (i : Nat) v h' tk, vs[i]? = some v → (∀ j, j < vs.size → HT.lexLt (l j) (l i) = false) → (∀ b o, s.heap.get? b = some o → h'.get? b = some o) → Q v { s with heap := h', toks := tk }) :
    wpAny (model prog w) A (call (.builtin "min") [.ref a]) Q E s := by
  refine call_min_walkH (PySem.W.iter_listW (A := A.in1) hh hl fun s₂ e W st hfp hw hk => ?_)
  refine ⟨_, _, _, _, _, _, _, s.heap, _, rfl, W, st, hfp, h0, hw, hk, cmp_tups (A := A.in1) (show A.units + 1 < cLine from hu) ht, fun v s' hP m => ?_⟩
  obtain ⟨h', tk, rfl, hk'⟩ := PySem.W.moved_old e rfl m
  obtain ⟨b1, b2⟩ := best_least l (vs.size - 1)
  exact h _ v h' tk hP (fun j hj => b2 j (by omega)) hk'
/-- min(v, u) of two tuples of ints -/
theorem min_two_tups {v u : Value} {ns ms : List Int} {Q : Value → Shared → Prop} (hh : A.handled = none) (hu : A.units + 1 < cLine) (hv : TupIn s.heap v ns) (hw : TupIn s.heap u ms)
    (h : ∀ h' tk, (∀ b o, s.heap.get? b = some o → h'.get? b = some o) → Q (if HT.lexLt ms ns = true then u else v) { s with heap := h', toks := tk }) :
    wpAny (model prog w) A (call (.builtin "min") [v, u]) Q E s := by
  have hname : (toString "min" ++ toString ".loop" : String) = "min.loop" := by decide
  refine call_function_tree F.kind_min F.plain_min F.entry_min (F.args_min2 _ _) ?_
  show wpAny _ A.in1 (Builtin.Builtins.bindParams "min" ["key", "default"] 0 ⟨[], []⟩ >>= _) _ _ s
  refine wpAny_bind (wpAny_of_eq (show Builtin.Builtins.bindParams "min" ["key", "default"] 0 ⟨[], []⟩ = pure [none, none] from rfl) ?_)
  show wpAny _ A.in1 (newTuple [v, u] >>= _) _ _ s
  refine wpAny_bind (wpAny_newObj_type ?_)
  have hT : (s.heap.push { cls := .type "tuple", data := .seq #[v, u] }).IsTuple s.heap.objs.size #[v, u] := ⟨_, Heap.get?_push_size _ rfl, rfl, 0, rfl⟩
  have k0 : ∀ b o, s.heap.get? b = some o → (s.heap.push { cls := .type "tuple", data := .seq #[v, u] }).get? b = some o := fun b o e => Heap.get?_push_of_some _ e
  have ht : ∀ i x, (#[v, u] : Array Value)[i]? = some x → TupIn (s.heap.push { cls := .type "tuple", data := .seq #[v, u] }) x ((fun i : Nat => if i = 0 then ns else ms) i) := fun i x hx => by
    match i, hx with
    | 0, hx => cases hx; exact hv.keep k0
    | 1, hx => cases hx; exact hw.keep k0
    | i + 2, hx => simp at hx
  refine wpAny_bind (PySem.W.iter_tupleW (s := { s with heap := s.heap.push { cls := .type "tuple", data := .seq #[v, u] } }) (A := A.in1) hh hT fun s₂ e W st hfp hw' hk => ?_)
  refine wpAny_bind (wpAny_newObj_type ?_)
  have hSf : s₂.heap.objs.size ∉ [(s.heap.push { cls := .type "tuple", data := .seq #[v, u] }).objs.size, s.heap.objs.size] := fun hm => Nat.lt_irrefl _ (hfp _ hm)
  rw [hname]
  refine wpAny_pure ⟨plainId_quiet F.plain_min_loop _, codeAny_min_loop_firstH W _ hw' _ (cmp_tups (s := { s with heap := s.heap.push { cls := .type "tuple", data := .seq #[v, u] } }) (A := A.in1) (show A.units + 1 < cLine from hu) ht) s₂.heap.objs.size hSf (fresh_in hk) _ (by show 0 < 2; decide) (fun b o e => Heap.get?_push_of_some _ (hk b o e)) (W.frame 0 s₂ _ s₂.toks st (Nat.le_refl _) fun b _ o e => Heap.get?_push_of_some _ e) (Heap.get?_push_size _ rfl) fun x s' hP hm => ?_⟩
  have m := Moved.drop_new (tk := s₂.toks) hm (Nat.le_refl _)
  obtain ⟨h', tk, rfl, hk'⟩ := PySem.W.moved_old e rfl m
  have z := h h' tk fun b o eb => hk' b o (k0 b o eb)
  have ex : x = if HT.lexLt ms ns = true then u else v := by
    have hP1 : (#[v, u] : Array Value)[argBest (fun i j => HT.lexLt ((fun i : Nat => if i = 0 then ns else ms) i) ((fun i : Nat => if i = 0 then ns else ms) j)) 1]? = some x := hP
    cases el : HT.lexLt ms ns with
    | true =>
      have e1 : argBest (fun i j => HT.lexLt ((fun i : Nat => if i = 0 then ns else ms) i) ((fun i : Nat => if i = 0 then ns else ms) j)) 1 = 1 := by simp [argBest, el]
      rw [e1] at hP1
      rw [if_pos rfl]; cases hP1; rfl
    | false =>
      have e1 : argBest (fun i j => HT.lexLt ((fun i : Nat => if i = 0 then ns else ms) i) ((fun i : Nat => if i = 0 then ns else ms) j)) 1 = 0 := by simp [argBest, el]
      rw [e1] at hP1
      rw [if_neg (by decide)]; cases hP1; rfl
  rw [ex]; exact z
end
section
variable {X : Cx}
theorem tupIn_of {pins : List (Addr × Obj)} {s : Shared} {σ : L2.St} {H : Hp} (I : Inv X pins σ H s) {a : Addr} {ns : List Int} (h : SqT X.K H a (ns.map V.int)) : TupIn s.heap (.ref a) ns := by
  obtain ⟨its, r1, p1, _⟩ := I.tuple h
  exact ⟨a, _, rfl, p1, intsAre_of r1⟩
/-- min(t, u) of two tuples of ints -/
def rMin2T (K : PySem.W.Frag) : List V → Hp → VK → Prop := fun vs H Q => ∃ (a b : Addr) (ns ms : List Int), vs = [.ref a, .ref b] ∧ SqT K H a (ns.map V.int) ∧ SqT K H b (ms.map V.int) ∧ Q (.ref (if HT.lexLt ms ns = true then b else a)) H
theorem cr_min2T (hc : X.calm = true) (hu : X.A.units + 1 < cLine) : CallR X (.builtin "min") (rMin2T X.K) := by
  intro pins s σ H vs us Q I r h
  obtain ⟨a, b, ns, ms, rfl, ha, hb, q⟩ := h
  obtain ⟨u, w', rfl, e1, e2⟩ := vals2 r
  cases e1
  cases e2
  refine min_two_tups (I.ok.hd hc) hu (tupIn_of I ha) (tupIn_of I hb) fun h' tk k => ⟨_, H, I.kept k, ?_, q⟩
  cases HT.lexLt ms ns <;> rfl
/-! sorted of two tuples of ints of one length -/
theorem code_lex {B : Int} : ∀ {xs ys : List Int}, xs.length = ys.length → TS.Bd B xs → TS.Bd B ys → HT.lexLt xs ys = decide (TS.code B xs < TS.code B ys)
  | [], [], _, _, _ => by
    show false = decide (TS.code B [] < TS.code B [])
    rw [decide_eq_false (Int.lt_irrefl _)]
  | x :: xs, y :: ys, hl, h1, h2 => by
    have hl' : xs.length = ys.length := by simpa using hl
    have t1 : TS.Bd B xs := fun m hm => h1 m (List.mem_cons_of_mem _ hm)
    have t2 : TS.Bd B ys := fun m hm => h2 m (List.mem_cons_of_mem _ hm)
    rw [HT.lexLt_cons]
    by_cases e : x = y
    · rw [if_pos e, code_lex hl' t1 t2, e]
      refine decide_eq_decide.mpr ?_
      show TS.code B xs < TS.code B ys ↔ y * B ^ xs.length + TS.code B xs < y * B ^ ys.length + TS.code B ys
      rw [hl']
      omega
    · rw [if_neg e]
      refine decide_eq_decide.mpr ⟨fun z => TS.code_lt hl' t1 t2 z, fun z => ?_⟩
      rcases Int.lt_trichotomy x y with c | c | c
      · exact c
      · exact absurd c e
      · have := TS.code_lt hl'.symm t2 t1 c
        omega
theorem lex_tot : ∀ {xs ys : List Int}, HT.lexLt xs ys = false → HT.lexLt ys xs = false → xs = ys
  | [], [], _, _ => rfl
  | [], y :: ys, h, _ => by cases h
  | x :: xs, [], _, h => by cases h
  | x :: xs, y :: ys, h1, h2 => by
    rw [HT.lexLt_cons] at h1 h2
    by_cases e : x = y
    · rw [if_pos e] at h1
      rw [if_pos e.symm] at h2
      rw [e, lex_tot h1 h2]
    · rw [if_neg e] at h1
      rw [if_neg (fun z => e z.symm)] at h2
      have a1 := of_decide_eq_false h1
      have a2 := of_decide_eq_false h2
      omega
def rSort2T (K : PySem.W.Frag) : List V → Hp → VK → Prop := fun vs H Q => ∃ (l a b : Addr) (ns ms : List Int) (B : Int), vs = [.ref l] ∧ SqL K H l [.ref a, .ref b] ∧ SqT K H a (ns.map V.int) ∧ SqT K H b (ms.map V.int) ∧ ns.length = ms.length ∧ 1 ≤ ns.length ∧ TS.Bd B ns ∧ TS.Bd B ms ∧
  ∀ (c d p : Addr), SqT K H c ((if HT.lexLt ms ns = true then ms else ns).map V.int) → H p = none → Q (.ref p) (upd H p (.lst [.ref c, .ref d]))
theorem cr_sort2T : CallR X (.builtin "sorted") (rSort2T X.K) := by
  intro pins s σ H vs us Q I r h
  obtain ⟨l, a, b, ns, ms, B, rfl, hL, ha, hb, hlen, h1, B1, B2, q⟩ := h
  refine cr_sortT (d := ns.length) (B := B) h1 pins s σ H _ us Q I r ⟨l, _, rfl, hL, by show 2 < 64; decide, fun x hx => ?_, fun ys p pm pw np => ?_⟩
  · simp only [List.mem_cons, List.not_mem_nil, or_false] at hx
    rcases hx with rfl | rfl
    · exact ⟨ns, ⟨a, rfl, ha⟩, rfl, B1⟩
    · exact ⟨ms, ⟨b, rfl, hb⟩, hlen.symm, B2⟩
  · have hl2 : ys.length = 2 := pm.length_eq
    match ys, hl2, pm, pw with
    | [x, y], _, pm, pw =>
      have rel : ∀ n m, TupI X.K H x n → TupI X.K H y m → TS.code B n ≤ TS.code B m := by
        have z := pw
        rw [List.pairwise_cons] at z
        exact z.1 y (List.mem_singleton.mpr rfl)
      have ma : V.ref a = x ∨ V.ref a = y := by
        have z := pm.mem_iff.mpr (show V.ref a ∈ [V.ref a, V.ref b] by simp)
        simpa using z
      have mb : V.ref b = x ∨ V.ref b = y := by
        have z := pm.mem_iff.mpr (show V.ref b ∈ [V.ref a, V.ref b] by simp)
        simpa using z
      have my : y = V.ref a ∨ y = V.ref b := by
        have z := pm.mem_iff.mp (show y ∈ [x, y] by simp)
        simpa using z
      obtain ⟨d, ed⟩ : ∃ d, y = V.ref d := my.elim (fun e => ⟨_, e⟩) fun e => ⟨_, e⟩
      have fst : ∀ ty : TupI X.K H y ms, x = V.ref a → Q (.ref p) (upd H p (.lst [x, y])) := fun ty ex => by
        have le := rel ns ms ⟨a, ex, ha⟩ ty
        have z := code_lex hlen.symm B2 B1
        rw [decide_eq_false (by omega)] at z
        rw [ex, ed]
        refine q a d p ?_ np
        rw [z, if_neg (by decide)]; exact ha
      rcases ma with ea | ea
      · rcases mb with eb | eb
        · have eab : a = b := V.ref.inj (ea.trans eb.symm)
          refine fst ?_ ea.symm
          rcases my with e | e
          · exact ⟨a, e, by rw [eab]; exact hb⟩
          · exact ⟨b, e, hb⟩
        · exact fst ⟨b, eb.symm, hb⟩ ea.symm
      · rcases mb with eb | eb
        · have le := rel ms ns ⟨b, eb.symm, hb⟩ ⟨a, ea.symm, ha⟩
          rw [← eb, ed]
          refine q b d p ?_ np
          have z := code_lex hlen.symm B2 B1
          cases el : HT.lexLt ms ns with
          | true => rw [if_pos rfl]; exact hb
          | false =>
            rw [if_neg (by decide)]
            have z2 := code_lex hlen B1 B2
            rw [decide_eq_false (by omega)] at z2
            rw [lex_tot z2 el]; exact hb
        · have eab : a = b := V.ref.inj (ea.trans eb.symm)
          have mx : x = V.ref a ∨ x = V.ref b := by
            have z := pm.mem_iff.mp (show x ∈ [x, y] by simp)
            simpa using z
          refine fst ⟨b, eb.symm, hb⟩ ?_
          rcases mx with e | e
          · exact e
          · rw [e, eab]
end
end RV
set_option maxHeartbeats 4000000
/-! the least of all walks: mark by mark, and of all gone through -/
namespace RV
open PyProof.Rows
section
variable {bh : Int → List Int} {N : Nat} {E : List Int}
/-- from where so many steps lead to E -/
def beg (bh : Int → List Int) (N : Nat) (E : List Int) : Nat → List Int
  | 0 => E
  | n + 1 => (upN N).filter fun m => (bh m).any fun c => decide (c ∈ beg bh N E n)
theorem mem_beg {n : Nat} {m : Int} : m ∈ beg bh N E (n + 1) ↔ (0 ≤ m ∧ m < (N : Int)) ∧ ∃ c ∈ bh m, c ∈ beg bh N E n := by
  show m ∈ (upN N).filter _ ↔ _
  rw [List.mem_filter, mem_upN, List.any_eq_true]
  simp only [decide_eq_true_eq]
/-- mark by mark the least that still leads there -/
def Gr (bh : Int → List Int) (B : Nat → List Int) : Nat → Int → List Int → Prop
  | 0, m, w => w = [m]
  | n + 1, m, w => ∃ c w', w = m :: w' ∧ c ∈ bh m ∧ c ∈ B n ∧ (∀ y ∈ bh m, y ∈ B n → c ≤ y) ∧ Gr bh B n c w'
theorem Gr.uniq {B : Nat → List Int} : ∀ {n : Nat} {m : Int} {w v : List Int}, Gr bh B n m w → Gr bh B n m v → w = v
  | 0, m, w, v, h, h' => by rw [show w = [m] from h, show v = [m] from h']
  | n + 1, m, w, v, h, h' => by
    obtain ⟨c, w', rfl, a1, a2, a3, a4⟩ := h
    obtain ⟨d, v', rfl, b1, b2, b3, b4⟩ := h'
    have : c = d := Int.le_antisymm (a3 d b1 b2) (b3 c a1 a2)
    subst this
    rw [a4.uniq b4]
theorem Gr.len {B : Nat → List Int} : ∀ {n : Nat} {m : Int} {w : List Int}, Gr bh B n m w → w.length = n + 1
  | 0, m, w, h => by rw [show w = [m] from h]; rfl
  | n + 1, m, w, h => by
    obtain ⟨c, w', rfl, _, _, _, a4⟩ := h
    rw [List.length_cons, a4.len]
theorem Gr.congr {B B' : Nat → List Int} : ∀ {n : Nat} (_ : ∀ k, k < n → ∀ m, m ∈ B k ↔ m ∈ B' k) {m : Int} {w : List Int}, Gr bh B n m w → Gr bh B' n m w
  | 0, _, m, w, h => h
  | n + 1, e, m, w, h => by
    obtain ⟨c, w', rfl, a1, a2, a3, a4⟩ := h
    exact ⟨c, w', rfl, a1, (e n (by omega) c).mp a2, fun y y1 y2 => a3 y y1 ((e n (by omega) y).mpr y2), a4.congr fun k hk => e k (by omega)⟩
theorem Gr.inn {B : Nat → List Int} {P : Int → Prop} (hb : ∀ m, P m → ∀ c ∈ bh m, P c) : ∀ {n : Nat} {m : Int} {w : List Int}, Gr bh B n m w → P m → ∀ x ∈ w, P x
  | 0, m, w, h, hm, x, hx => by
    rw [show w = [m] from h, List.mem_singleton] at hx
    rw [hx]; exact hm
  | n + 1, m, w, h, hm, x, hx => by
    obtain ⟨c, w', rfl, a1, a2, a3, a4⟩ := h
    rcases List.mem_cons.mp hx with rfl | z
    · exact hm
    · exact a4.inn hb (hb m hm c a1) x z
/-- a walk of so many steps from m to o -/
def Wk (bh : Int → List Int) : Nat → Int → Int → List Int → Prop
  | 0, m, o, w => w = [m] ∧ m = o
  | n + 1, m, o, w => ∃ c w', w = m :: w' ∧ c ∈ bh m ∧ Wk bh n c o w'
theorem Wk.head : ∀ {n : Nat} {m o : Int} {w : List Int}, Wk bh n m o w → ∃ v, w = m :: v
  | 0, m, o, w, h => ⟨[], h.1⟩
  | n + 1, m, o, w, h => by
    obtain ⟨c, w', e, _⟩ := h
    exact ⟨w', e⟩
theorem Gr.head {B : Nat → List Int} : ∀ {n : Nat} {m : Int} {w : List Int}, Gr bh B n m w → ∃ v, w = m :: v
  | 0, m, w, h => ⟨[], h⟩
  | n + 1, m, w, h => by
    obtain ⟨c, w', e, _⟩ := h
    exact ⟨w', e⟩
theorem Wk.beg (hb : ∀ m, (0 ≤ m ∧ m < (N : Int)) → ∀ c ∈ bh m, 0 ≤ c ∧ c < (N : Int)) {o : Int} : ∀ {n : Nat} {m : Int} {w : List Int}, Wk bh n m o w → (0 ≤ m ∧ m < (N : Int)) → m ∈ RV.beg bh N [o] n
  | 0, m, w, h, _ => by rw [h.2]; exact List.mem_singleton.mpr rfl
  | n + 1, m, w, h, hm => by
    obtain ⟨c, w', _, h1, h2⟩ := h
    exact mem_beg.mpr ⟨hm, c, h1, h2.beg hb (hb m hm c h1)⟩
theorem Gr.wk {o : Int} : ∀ {n : Nat} {m : Int} {w : List Int}, Gr bh (RV.beg bh N [o]) n m w → m ∈ RV.beg bh N [o] n → Wk bh n m o w
  | 0, m, w, h, hm => ⟨h, List.mem_singleton.mp hm⟩
  | n + 1, m, w, h, hm => by
    obtain ⟨c, w', e, a1, a2, a3, a4⟩ := h
    exact ⟨c, w', e, a1, a4.wk a2⟩
theorem Gr.least (hb : ∀ m, (0 ≤ m ∧ m < (N : Int)) → ∀ c ∈ bh m, 0 ≤ c ∧ c < (N : Int)) {o : Int} : ∀ {n : Nat} {m : Int} {g w : List Int}, Gr bh (RV.beg bh N [o]) n m g → Wk bh n m o w → (0 ≤ m ∧ m < (N : Int)) → HT.lexLt w g = false
  | 0, m, g, w, h, h', _ => by rw [show g = [m] from h, h'.1]; exact lex_irr _
  | n + 1, m, g, w, h, h', hm => by
    obtain ⟨c, g', rfl, a1, a2, a3, a4⟩ := h
    obtain ⟨d, w', rfl, b1, b2⟩ := h'
    have hd := hb m hm d b1
    have le := a3 d b1 (b2.beg hb hd)
    rw [HT.lexLt_cons, if_pos rfl]
    by_cases e : d = c
    · subst e
      exact a4.least hb b2 hd
    · obtain ⟨x, rfl⟩ := a4.head
      obtain ⟨y, rfl⟩ := b2.head
      rw [HT.lexLt_cons, if_neg e, decide_eq_false (by omega)]
theorem ex_gr : ∀ {n : Nat} {m : Int}, m ∈ RV.beg bh N E n → ∃ w, Gr bh (RV.beg bh N E) n m w
  | 0, m, _ => ⟨[m], rfl⟩
  | n + 1, m, h => by
    obtain ⟨_, c, h1, h2⟩ := mem_beg.mp h
    have lst : ∀ (l : List Int), l ≠ [] → ∃ x ∈ l, ∀ y ∈ l, x ≤ y := by
      intro l
      induction l with
      | nil => intro z; exact absurd rfl z
      | cons a l ih =>
        intro _
        by_cases e : l = []
        · subst e
          exact ⟨a, List.mem_singleton.mpr rfl, fun y hy => by rw [List.mem_singleton.mp hy]; exact Int.le_refl _⟩
        · obtain ⟨x, x1, x2⟩ := ih e
          rcases Int.le_total a x with z | z
          · exact ⟨a, List.mem_cons_self, fun y hy => by
              rcases List.mem_cons.mp hy with rfl | y1
              · exact Int.le_refl _
              · exact Int.le_trans z (x2 y y1)⟩
          · exact ⟨x, List.mem_cons_of_mem _ x1, fun y hy => by
              rcases List.mem_cons.mp hy with rfl | y1
              · exact z
              · exact x2 y y1⟩
    obtain ⟨x, x1, x2⟩ := lst ((bh m).filter fun y => decide (y ∈ RV.beg bh N E n)) (fun z => by
      have : c ∈ (bh m).filter fun y => decide (y ∈ RV.beg bh N E n) := List.mem_filter.mpr ⟨h1, decide_eq_true h2⟩
      rw [z] at this; cases this)
    obtain ⟨x3, x4⟩ := List.mem_filter.mp x1
    have x4 := of_decide_eq_true x4
    obtain ⟨w, hw⟩ := ex_gr x4
    exact ⟨m :: w, x, w, rfl, x3, x4, fun y y1 y2 => x2 y (List.mem_filter.mpr ⟨y1, decide_eq_true y2⟩), hw⟩
/-- the last mark -/
def la (w : List Int) : Int := w.getLast?.getD 0
theorem la_add (w : List Int) (c : Int) : la (w ++ [c]) = c := by unfold la; simp
theorem Wk.snoc {o d : Int} : ∀ {n : Nat} {m : Int} {w : List Int}, Wk bh n m o w → d ∈ bh o → Wk bh (n + 1) m d (w ++ [d])
  | 0, m, w, h, hd => by
    obtain ⟨rfl, rfl⟩ := h
    exact ⟨d, [d], rfl, hd, rfl, rfl⟩
  | n + 1, m, w, h, hd => by
    obtain ⟨c, w', rfl, h1, h2⟩ := h
    exact ⟨c, w' ++ [d], rfl, h1, h2.snoc hd⟩
theorem Wk.unsnoc {d : Int} : ∀ {n : Nat} {m : Int} {w : List Int}, Wk bh (n + 1) m d w → ∃ o v, Wk bh n m o v ∧ d ∈ bh o ∧ w = v ++ [d]
  | 0, m, w, h => by
    obtain ⟨c, w', rfl, h1, h2, rfl⟩ := h
    exact ⟨m, [m], ⟨rfl, rfl⟩, h1, by rw [h2]; rfl⟩
  | n + 1, m, w, h => by
    obtain ⟨c, w', rfl, h1, h2⟩ := h
    obtain ⟨o, v, k1, k2, rfl⟩ := h2.unsnoc
    exact ⟨o, m :: v, ⟨c, v, rfl, h1, k1⟩, k2, rfl⟩
theorem Wk.la : ∀ {n : Nat} {m o : Int} {w : List Int}, Wk bh n m o w → RV.la w = o
  | 0, m, o, w, h => by rw [h.1, h.2]; rfl
  | n + 1, m, o, w, h => by
    obtain ⟨c, v, _, _, rfl⟩ := h.unsnoc
    exact la_add _ _
theorem Wk.len : ∀ {n : Nat} {m o : Int} {w : List Int}, Wk bh n m o w → w.length = n + 1
  | 0, m, o, w, h => by rw [h.1]; rfl
  | n + 1, m, o, w, h => by
    obtain ⟨c, v, rfl, _, h2⟩ := h
    rw [List.length_cons, h2.len]
/-- all walks of so many steps from m, gone through -/
def alw (bh : Int → List Int) (m : Int) : Nat → List (List Int)
  | 0 => [[m]]
  | n + 1 => (alw bh m n).flatMap fun w => (bh (la w)).map fun c => w ++ [c]
theorem mem_alw {m : Int} : ∀ {n : Nat} {w : List Int}, w ∈ alw bh m n ↔ ∃ o, Wk bh n m o w
  | 0, w => by
    show w ∈ [[m]] ↔ _
    rw [List.mem_singleton]
    exact ⟨fun h => ⟨m, h, rfl⟩, fun ⟨o, h, _⟩ => h⟩
  | n + 1, w => by
    show w ∈ (alw bh m n).flatMap _ ↔ _
    rw [List.mem_flatMap]
    constructor
    · rintro ⟨v, h1, h2⟩
      obtain ⟨o, ho⟩ := mem_alw.mp h1
      obtain ⟨c, c1, rfl⟩ := List.mem_map.mp h2
      rw [ho.la] at c1
      exact ⟨c, ho.snoc c1⟩
    · rintro ⟨d, hd⟩
      obtain ⟨o, v, k1, k2, rfl⟩ := hd.unsnoc
      refine ⟨v, mem_alw.mpr ⟨o, k1⟩, List.mem_map.mpr ⟨d, ?_, rfl⟩⟩
      rw [k1.la]; exact k2
theorem alw_len {m : Int} {b : Nat} (hb : ∀ x, (bh x).length ≤ b) : ∀ n, (alw bh m n).length ≤ b ^ n
  | 0 => Nat.le_refl _
  | n + 1 => by
    show ((alw bh m n).flatMap _).length ≤ _
    have h : ∀ L : List (List Int), (L.flatMap fun w => (bh (la w)).map fun c => w ++ [c]).length ≤ L.length * b := by
      intro L
      induction L with
      | nil => simp
      | cons w L ih =>
        rw [List.flatMap_cons, List.length_append, List.length_map, List.length_cons, Nat.succ_mul]
        have := hb (la w)
        omega
    exact Nat.le_trans (h _) (by rw [Nat.pow_succ]; exact Nat.mul_le_mul (alw_len hb n) (Nat.le_refl _))
end
end RV
set_option maxHeartbeats 4000000
namespace RV
open PySem PySem.Spec PyProof.Rows L2
theorem shows_dI7 {ns : List Int} (hn : ∀ n ∈ ns, n.natAbs < 10 ^ 12) (ln : ns.length ≤ 7000) : Shows (dI ns) := by
  have i3 : (dI ns).bulk = ns.length := by simp only [dI, PyData.bulk, bulk_ints]
  refine ⟨by simp only [dI, PyData.showable]; exact show_ints ns hn, PyData.hasDict_of_canLay _ (dI_lay ns), by rw [dI_dep]; decide, ?_⟩
  refine PyData.shown_fits_bulk (B := 13) (by decide) (by decide) (PyData.leavesShort_of_canLay0 13 _ (dI_lay ns) ?_) (by rw [i3]; omega)
  simp only [dI, PyData.intsShort]; exact PyData.intsShortAll_ints ns hn
section
variable {X : Cx}
/-- repr of a tuple or of None -/
def rReprT (K : PySem.W.Frag) : List V → Hp → VK → Prop := fun xs H Q => (∃ (a : Addr) (ns : List Int), xs = [.ref a] ∧ SqT K H a (ns.map V.int) ∧ Shows (dI ns) ∧ Q (.str (dI ns).shown) H) ∨ (xs = [.non] ∧ Q (.str "None") H)
theorem call_reprT (gd : X.A.guards = some []) (hu : X.A.units + 65 < cLine) : CallR X (.builtin "repr") (rReprT X.K) := by
  intro pins s σ H xs us Q I r h
  rcases h with ⟨a, ns, e, hT, sh, q⟩ | ⟨rfl, q⟩
  · exact call_reprD gd hu pins s σ H xs us Q I r ⟨a, dI ns, e, dpT hT, sh.h1, sh.h2, sh.h3, sh.h4, q⟩
  · obtain ⟨u, rfl, rx⟩ := vals1 r
    cases (show u = Value.none from rx)
    exact PySem.P.repr_of_none ⟨.str "None", H, I.tok _, ⟨_, rfl⟩, q⟩
end
/-- unlike numbers below n are at most n -/
theorem few_below : ∀ {n : Nat} {l : List Int}, l.Nodup → (∀ x ∈ l, 0 ≤ x ∧ x < (n : Int)) → l.length ≤ n
  | 0, l, _, h => by
    cases l with
    | nil => exact Nat.le_refl _
    | cons x l => have := h x List.mem_cons_self; omega
  | n + 1, l, nd, h => by
    have nd2 : (l.erase (n : Int)).Nodup := nd.erase _
    have h2 : ∀ x ∈ l.erase (n : Int), 0 ≤ x ∧ x < (n : Int) := fun x hx => by
      have h3 := (List.Nodup.mem_erase_iff nd).mp hx
      have h4 := h x h3.2
      have h5 := h3.1
      omega
    have z := few_below nd2 h2
    rw [List.length_erase] at z
    split at z
    · omega
    · rename_i hno
      omega
end RV
set_option maxHeartbeats 4000000
/-! walks of so many steps, and tables of where they end -/
namespace RV
open PySem PySem.Spec PyProof.Rows L2
section
variable {bh : Int → List Int} {N : Nat}
/-- so many steps lead from the one to the other -/
def lk (bh : Int → List Int) : Nat → Int → Int → Prop
  | 0, a, b => a = b
  | n + 1, a, b => ∃ c, c ∈ bh a ∧ lk bh n c b
theorem lk_add {n : Nat} {b : Int} : ∀ {m : Nat} {a : Int}, lk bh (m + n) a b ↔ ∃ c, lk bh m a c ∧ lk bh n c b
  | 0, a => by
    rw [Nat.zero_add]
    exact ⟨fun h => ⟨a, rfl, h⟩, fun ⟨c, h1, h2⟩ => by rw [show a = c from h1]; exact h2⟩
  | m + 1, a => by
    rw [show m + 1 + n = (m + n) + 1 by omega]
    constructor
    · rintro ⟨c, h1, h2⟩
      obtain ⟨d, h3, h4⟩ := lk_add.mp h2
      exact ⟨d, ⟨c, h1, h3⟩, h4⟩
    · rintro ⟨d, ⟨c, h1, h3⟩, h4⟩
      exact ⟨c, h1, lk_add.mpr ⟨d, h3, h4⟩⟩
theorem lk_one {a b : Int} : lk bh 1 a b ↔ b ∈ bh a :=
  ⟨fun ⟨c, h1, h2⟩ => by rw [← show c = b from h2]; exact h1, fun h => ⟨b, h, rfl⟩⟩
theorem lk_inn (hb : ∀ m, ∀ c ∈ bh m, 0 ≤ c ∧ c < (N : Int)) {b : Int} : ∀ {n : Nat} {a : Int}, lk bh n a b → (0 ≤ a ∧ a < (N : Int)) → 0 ≤ b ∧ b < (N : Int)
  | 0, a, h, ha => by rw [← show a = b from h]; exact ha
  | n + 1, a, ⟨c, h1, h2⟩, _ => lk_inn hb h2 (hb a c h1)
theorem beg_lk (hb : ∀ m, ∀ c ∈ bh m, 0 ≤ c ∧ c < (N : Int)) {b : Int} : ∀ {n : Nat} {a : Int}, (0 ≤ a ∧ a < (N : Int)) → (a ∈ beg bh N [b] n ↔ lk bh n a b)
  | 0, a, _ => by show a ∈ [b] ↔ a = b; rw [List.mem_singleton]
  | n + 1, a, ha => by
    rw [mem_beg]
    exact ⟨fun ⟨_, c, h1, h2⟩ => ⟨c, h1, (beg_lk hb (hb a c h1)).mp h2⟩, fun ⟨c, h1, h2⟩ => ⟨ha, c, h1, (beg_lk hb (hb a c h1)).mpr h2⟩⟩
end
/-- a tuple of rising tuples: x in the row of i just where f i x -/
def Tab (K : PySem.W.Frag) (H : Hp) (t : Addr) (N : Nat) (f : Int → Int → Prop) : Prop := ∃ as : List Addr, SqT K H t (as.map V.ref) ∧ as.length = N ∧
  ∀ (i : Nat) (a : Addr), as[i]? = some a → ∃ xs : List Int, SqT K H a (xs.map V.int) ∧ xs.Pairwise (· < ·) ∧ (∀ x ∈ xs, 0 ≤ x ∧ x < (N : Int)) ∧ ∀ x, x ∈ xs ↔ f (i : Int) x
theorem Tab.same {K : PySem.W.Frag} {H H' : Hp} {t : Addr} {N : Nat} {f : Int → Int → Prop} (h : Tab K H t N f) (s : Same H H') : Tab K H' t N f := by
  obtain ⟨as, h1, h2, h3⟩ := h
  exact ⟨as, sqT_same s h1, h2, fun i a e => (h3 i a e).imp fun xs q => ⟨sqT_same s q.1, q.2⟩⟩
theorem Tab.congr {K : PySem.W.Frag} {H : Hp} {t : Addr} {N : Nat} {f g : Int → Int → Prop} (h : Tab K H t N f) (e : ∀ i x : Int, 0 ≤ i → i < (N : Int) → (f i x ↔ g i x)) : Tab K H t N g := by
  obtain ⟨as, h1, h2, h3⟩ := h
  refine ⟨as, h1, h2, fun i a ea => ?_⟩
  obtain ⟨xs, q1, q2, q3, q4⟩ := h3 i a ea
  have hi := (List.getElem?_eq_some_iff.mp ea).1
  exact ⟨xs, q1, q2, q3, fun x => (q4 x).trans (e i x (by omega) (by omega))⟩
theorem Tab.at {K : PySem.W.Frag} {H : Hp} {t : Addr} {N : Nat} {f : Int → Int → Prop} (h : Tab K H t N f) {m : Int} (h0 : 0 ≤ m) (h1 : m < (N : Int)) : ∃ (vs : List V) (a : Addr) (xs : List Int), SqT K H t vs ∧ atI vs m = some (.ref a) ∧ SqT K H a (xs.map V.int) ∧ xs.Pairwise (· < ·) ∧ (∀ x ∈ xs, 0 ≤ x ∧ x < (N : Int)) ∧ ∀ x, x ∈ xs ↔ f m x := by
  obtain ⟨as, q1, q2, q3⟩ := h
  have hm : m.toNat < as.length := by omega
  have e : ((m.toNat : Nat) : Int) = m := Int.toNat_of_nonneg h0
  obtain ⟨xs, z1, z2, z3, z4⟩ := q3 m.toNat _ (List.getElem?_eq_getElem hm)
  rw [e] at z4
  refine ⟨_, as[m.toNat], xs, q1, ?_, z1, z2, z3, z4⟩
  have := atI_nat (xs := as.map V.ref) (j := m.toNat) (v := .ref as[m.toNat]) (by rw [List.getElem?_map, List.getElem?_eq_getElem hm]; rfl)
  rw [e] at this; exact this
theorem rise_nodup {xs : List Int} (h : xs.Pairwise (· < ·)) : xs.Nodup := h.imp fun {a b} z e => by omega
section
variable {X : Cx} {K : PySem.W.Frag} {w : World}
theorem pe_tupleOfK {a : Expr} {ta : TE} {p pos : Pos} (h : X.K = K) (hg : Gl X "tuple") (hm : X.mg "tuple" = none) (ha : PE X a ta) (na : starEach [a] X.env = (false, eval a X.env) :: starEach [] X.env := by rfl) :
    PE X (.Call (.Name "tuple" p) [a] [] pos) (tThen ta (kTup K)) := h ▸ pe_tupleOf hg hm ha na
theorem cr_sortedSetW (h : X.w = w) (hc : X.calm = true) : CallR X (.builtin "sorted") (rSortedSet w) := h ▸ cr_sortedSet hc
theorem pe_sc2W {el ta ia t1 ib : Expr} {sco : Scope} {own : List (PySem.Str × Nat)} {vs1 : List Nat} {pp : Pos} {wi wi1 : TI} {g g1 : TG} {te : TE} (h : X.w = w) (hc : X.calm = true) (hN : X.N.Nodup) (hi : PI X ta ia wi) (ok : BlkOk X.N X.env.scope sco own) (hv : ∀ i ∈ vs1, i ∈ own.map (·.2))
    (hg : ∀ s H C cl fp, PG (X.blk s H sco (compEnvC sco cl C X.env) fp) ta g) (hi1 : ∀ s H C cl fp, PI (X.blk s H sco (compEnvC sco cl C X.env) fp) t1 ib wi1) (hg1 : ∀ s H C cl fp, PG (X.blk s H sco (compEnvC sco cl C X.env) fp) t1 g1)
    (he : ∀ s H C cl fp, PE (X.blk s H sco (compEnvC sco cl C X.env) fp) el te) (hs : ∀ x, foldedSetIterable ia X.env x = pure x := by intro _; rfl) (hs1 : ∀ env x, foldedSetIterable ib env x = pure x := by intro _ _; rfl) :
    PE X (.SetComp el [⟨ta, ia, [], 0⟩, ⟨t1, ib, [], 0⟩] sco pp) (tS2 w wi g wi1 g1 te (own.map (·.2)) vs1) := h ▸ pe_sc2 hc hN hi ok hv hg hi1 hg1 he hs hs1
end
/-- a loop over a tuple that its turns leave as it is -/
theorem it_tup {K : PySem.W.Frag} {a : Addr} {xs : List V} {H0 : Hp} {Fin : Hp → Prop} {Bd : V → Hp → (Hp → Prop) → Prop} (Pv : Nat → Hp → Prop) (h0 : Pv 0 H0) (hl : ∀ i H, i ≤ xs.length → Pv i H → SqT K H a xs)
    (hs : ∀ i x H, xs[i]? = some x → Pv i H → Bd x H (Pv (i + 1))) (hd : ∀ H, Pv xs.length H → Fin H) :
    ∃ W : Nat → Nat → Hp → Prop, (∃ m, W 0 m H0) ∧ ∀ i m H, W i m H → ((Itt K a).stop i H ∧ Fin H) ∨ ((Itt K a).go i H ∧ ∃ Nx : Hp → Prop, (∀ H', Nx H' → ∃ m', m' < m ∧ W (i + 1) m' H') ∧ ∀ x H', (Itt K a).yld i H x H' → Bd x H' Nx) := by
  refine ⟨fun i m H => i ≤ xs.length ∧ m + i = xs.length ∧ Pv i H, ⟨xs.length, Nat.zero_le _, rfl, h0⟩, fun i m H ⟨hi, hm, hp⟩ => ?_⟩
  have hq := hl i H hi hp
  rcases Nat.lt_or_ge i xs.length with z | z
  · refine .inr ⟨⟨xs, xs[i], hq, List.getElem?_eq_getElem z⟩, Pv (i + 1), fun H' p' => ⟨m - 1, by omega, z, by omega, p'⟩, fun x H' y => ?_⟩
    obtain ⟨rfl, y⟩ := y
    exact hs i x _ (y xs hq) hp
  · obtain rfl : i = xs.length := by omega
    exact .inl ⟨⟨xs, hq, Nat.le_refl _⟩, hd H hp⟩
/-- a set that has just these -/
def SetL (w : World) (H : Hp) (D : Addr) (ls : List Int) : Prop := ∃ S : Int → Bool, H D = some (SetO w D S ls.length) ∧ ls.Nodup ∧ ∀ k, S k = true ↔ k ∈ ls
theorem SetL.nil {w : World} {H : Hp} {D : Addr} : SetL w (upd H D (SetO w D (fun _ => false) 0)) D [] := ⟨_, upd_same, List.nodup_nil, fun k => by simp⟩
theorem SetL.add {w : World} {H : Hp} {D : Addr} {ls : List Int} (h : SetL w H D ls) (c : Int) (room : ls.length ≤ 1000) : ∃ (S : Int → Bool) (n : Nat), H D = some (SetO w D S n) ∧ n + 1 < scanBound ∧ ∃ ls', SetL w (upd H D (SetO w D (fun j => S j || decide (j = c)) (if S c = true then n else n + 1))) D ls' ∧ ∀ k, k ∈ ls' ↔ k ∈ ls ∨ k = c := by
  obtain ⟨S, h1, h2, h3⟩ := h
  refine ⟨S, ls.length, h1, by show ls.length + 1 < 4096; omega, ?_⟩
  by_cases e : S c = true
  · refine ⟨ls, ⟨_, by rw [upd_same, if_pos e], h2, fun k => ?_⟩, fun k => ⟨.inl, fun z => z.elim id fun z => by rw [z]; exact (h3 c).mp e⟩⟩
    rw [Bool.or_eq_true, h3, decide_eq_true_iff]
    exact ⟨fun z => z.elim id fun z => by rw [z]; exact (h3 c).mp e, .inl⟩
  · refine ⟨c :: ls, ⟨_, by rw [upd_same, if_neg e]; rfl, List.nodup_cons.mpr ⟨fun z => e ((h3 c).mpr z), h2⟩, fun k => ?_⟩, fun k => by rw [List.mem_cons, or_comm]⟩
    rw [Bool.or_eq_true, h3, decide_eq_true_iff, List.mem_cons, or_comm]
theorem SetL.same {w : World} {H H' : Hp} {D : Addr} {ls : List Int} (h : SetL w H D ls) (s : Same H H') : SetL w H' D ls := by
  obtain ⟨S, h1, h2⟩ := h
  exact ⟨S, s _ _ h1, h2⟩
theorem sqT_set {w : World} {K : PySem.W.Frag} {H : Hp} {D D' : Addr} {S : Int → Bool} {n : Nat} {o' : HO} (e : H D = some (SetO w D' S n)) {a : Addr} {xs : List V} (h : SqT K H a xs) : SqT K (upd H D o') a xs := by
  rcases h with (h | ⟨o, h⟩) | h
  · exact .inl (.inl (by rw [upd_ne (fun z => by rw [z, e] at h; cases h)]; exact h))
  · exact .inl (.inr ⟨o, by rw [upd_ne (fun z => by rw [z, e] at h; cases h)]; exact h⟩)
  · exact .inr h
end RV
set_option maxHeartbeats 4000000
namespace K10
open PySem PySem.Spec PyProof.Rows L2 RV
theorem behind_inn {ns : List Int} {ps : List (List Int)} (S : Stp ns ps) (m : Int) : ∀ c ∈ behindOf ps m, 0 ≤ c ∧ c < (ns.length : Int) := fun c hc => by
  have z := (mem_behind (n := (ns.length : Int)) S.pair).mp hc
  obtain ⟨x, y, e, _, h⟩ := S.pair _ z
  cases e
  exact h
section
variable {P : Program} {w : World} {K : PySem.W.Frag} {mg : Str → Option Value} {base : Heap}
/-! ### ends_behind -/
abbrev nEB : List Str := ["first", "second", "row", "mark", "end"]
theorem scEB : FnScope nEB ["first", "second"] (defScope sEndsBehind) := ⟨rfl, rfl, rfl, by decide +kernel, rfl, by decide +kernel, by decide +kernel⟩
def spEB (K : PySem.W.Frag) : Sp := fun vs H Q _ => ∃ (a b : Addr) (N : Nat) (f g : Int → Int → Prop), vs = [.ref a, .ref b] ∧ N ≤ 8 ∧ Tab K H a N f ∧ Tab K H b N g ∧
  ∀ (H' : Hp) (t : Addr), Same H H' → Tab K H' t N (fun i x => ∃ c, f i c ∧ g c x) → Q (.ref t) H'
theorem ok_eb {f : Addr} {fd : FuncData} (F : Fun K "ends_behind" "ends_behind" sEndsBehind f fd) (B : Bare mg) : FnOk P w K mg base CX0 1 f fd ["first", "second"] (spEB K) := by
  refine F.ok scEB (fun vs H Q E h => ?_) (fun cdv A outer s H vs Q E hr h => ?_)
  · obtain ⟨a, b, N, f, g, rfl, _⟩ := h
    rfl
  · obtain ⟨a, b, N, f, g, rfl, n8, hA, hB, q⟩ := h
    refine ⟨_, pss_one (ps_ret (pe_tupleOf (by rfl) B.tuple
      (pe_lc (own := [("row", 2)]) (g := gName 2) (tt := tYes) rfl scEB.nd (pi_tup (pv 0)) (blkOk_by (N := nEB) (sc := defScope sEndsBehind) (by decide +kernel)) (fun _ _ _ _ _ => pg_name (i := 2) scEB.nd rfl (Or.inl rfl)) (fun _ _ _ _ _ => pts_nil)
        (fun _ _ _ _ _ => pe_tupleOfK (K := K) rfl (by rfl) B.tuple (pe_callB (cr_sortedSetW (w := w) rfl rfl) (by rfl) B.sorted (by decide +kernel) (pa_cons
          (pe_sc2W (w := w) (own := [("mark", 3), ("end", 4)]) (vs1 := [4]) (g := gName 3) (g1 := gName 4) rfl rfl scEB.nd (pi_tupK (K := K) rfl (pv 2)) (blkOk_by (N := nEB) (by rfl)) (by decide)
            (fun _ _ _ _ _ => pg_name (i := 3) scEB.nd rfl (Or.inl rfl)) (fun _ _ _ _ _ => pi_tupK (K := K) rfl (pe_ix (ix_tupK (K := K) rfl) (pv 1) (pv 3) (fun _ _ => rfl))) (fun _ _ _ _ _ => pg_name (i := 4) scEB.nd rfl (Or.inl rfl)) (fun _ _ _ _ _ => pv 4)) pa_nil)))))), ?_⟩
    obtain ⟨as, h1, h2, h3⟩ := hA
    have two : (2 : Nat) ≤ sizeLine := by decide
    refine ⟨.ref a, rfl, a, rfl, ⟨_, h1⟩, fun D nD => ?_⟩
    refine lc_tup (K := K) (a := a) (xs := as.map V.ref) (fun i H' => Same H H' ∧ ∃ bs : List Addr, bs.length = i ∧ H' D = some (.lst (bs.map V.ref)) ∧ ∀ (j : Nat) (c : Addr), bs[j]? = some c → ∃ xs : List Int, SqT K H' c (xs.map V.int) ∧ xs.Pairwise (· < ·) ∧ (∀ x ∈ xs, 0 ≤ x ∧ x < (N : Int)) ∧ ∀ x, x ∈ xs ↔ ∃ c, f (j : Int) c ∧ g c x)
      ⟨same_upd nD, [], rfl, upd_same, fun _ _ z => nomatch z⟩ (fun i H' _ p => sqT_same p.1 h1) (fun i x H1 hx p => ?_) fun H1 p => ?_
    · obtain ⟨r, gr, rfl⟩ := map_at hx
      obtain ⟨s1, bs, lb, eD, hbs⟩ := p
      obtain ⟨xs, z1, z2, z3, z4⟩ := h3 i r gr
      have hi : i < N := by rw [← h2]; exact (List.getElem?_eq_some_iff.mp gr).1
      have B1 := hB.same s1
      have zr := sqT_same s1 z1
      have lx : xs.length ≤ 8 := Nat.le_trans (few_below (rise_nodup z2) z3) n8
      refine ⟨by simp [wipe, List.set_set], tt_yes ⟨.ref r, rfl, r, rfl, ⟨_, zr⟩, fun D2 nD2 => ?_⟩⟩
      refine it_tup (xs := xs.map V.int) (fun k H' => Same H1 H' ∧ ∃ ls, SetL w H' D2 ls ∧ ∀ y, y ∈ ls ↔ ∃ c ∈ xs.take k, g c y) ⟨same_upd nD2, [], SetL.nil, fun y => by simp⟩ (fun k H' _ p => sqT_same p.1 zr) (fun k v H2 hv p => ?_) fun H2 p => ?_
      · obtain ⟨m, gm, rfl⟩ := map_at hv
        obtain ⟨s2, ls, hL, mL⟩ := p
        have hm := List.mem_of_getElem? gm
        obtain ⟨vs, rr, ys, k1, k2, k3, k4, k5, k6⟩ := (B1.same s2).at (z3 m hm).1 (z3 m hm).2
        have ly : ys.length ≤ 8 := Nat.le_trans (few_below (rise_nodup k4) k5) n8
        refine ⟨rfl, .ref b, rfl, .int m, rfl, b, vs, m, .ref rr, rfl, rfl, k1, k2, rr, rfl, ⟨_, k3⟩, ?_⟩
        refine it_tup (xs := ys.map V.int) (fun j H' => Same H1 H' ∧ SqT K H' rr (ys.map V.int) ∧ ∃ ls, SetL w H' D2 ls ∧ ∀ y, y ∈ ls ↔ (∃ c ∈ xs.take k, g c y) ∨ y ∈ ys.take j) ⟨s2, k3, ls, hL, fun y => by rw [mL y]; simp⟩ (fun j H' _ p => p.2.1) (fun j v H3 hv p => ?_) fun H3 p => ?_
        · obtain ⟨e, ge, rfl⟩ := map_at hv
          obtain ⟨s3, k3', ls3, hL3, mL3⟩ := p
          have l3 : ls3.length ≤ N := few_below (by obtain ⟨_, _, z, _⟩ := hL3; exact z) fun y hy => by
            rcases (mL3 y).mp hy with ⟨c, c1, c2⟩ | c
            · have hc := z3 c (List.mem_of_mem_take c1)
              obtain ⟨_, _, ys', _, _, _, _, k5', k6'⟩ := hB.at hc.1 hc.2
              exact k5' y ((k6' y).mpr c2)
            · exact k5 y (List.mem_of_mem_take c)
          obtain ⟨S, n, e1, e2, ls4, hL4, mL4⟩ := hL3.add e (by omega)
          refine ⟨rfl, .int e, rfl, e, S, n, rfl, e1, e2, fun b' o z => ?_, ?_, ls4, hL4, fun y => ?_⟩
          · rw [upd_ne (ne_of_none z nD2)]; exact s3 b' o z
          · exact sqT_set e1 k3'
          · rw [mL4 y, mL3 y, List.take_add_one, ge, List.mem_append, or_assoc]
            simp
        · obtain ⟨s3, k3', ls3, hL3, mL3⟩ := p
          rw [List.length_map, List.take_of_length_le (Nat.le_refl _)] at mL3
          refine ⟨s3, ls3, hL3, fun y => ?_⟩
          rw [mL3 y, List.take_add_one, gm, k6 y]
          constructor
          · rintro (⟨c, c1, c2⟩ | c)
            · exact ⟨c, List.mem_append_left _ c1, c2⟩
            · exact ⟨m, List.mem_append_right _ (List.mem_singleton.mpr rfl), c⟩
          · rintro ⟨c, c1, c2⟩
            rcases List.mem_append.mp c1 with c1 | c1
            · exact .inl ⟨c, c1, c2⟩
            · exact .inr (List.mem_singleton.mp c1 ▸ c2)
      · obtain ⟨s2, ls, hL, mL⟩ := p
        rw [List.length_map, List.take_of_length_le (Nat.le_refl _)] at mL
        have inn : ∀ y ∈ ls, 0 ≤ y ∧ y < (N : Int) := fun y hy => by
          obtain ⟨c, c1, c2⟩ := (mL y).mp hy
          obtain ⟨_, _, ys', _, _, _, _, k5', k6'⟩ := hB.at (z3 c c1).1 (z3 c c1).2
          exact k5' y ((k6' y).mpr c2)
        obtain ⟨S, e1, nd, mS⟩ := hL
        have ll := few_below nd inn
        refine ⟨D2, S, ls.length, rfl, e1, by omega, fun zs p rise mem len np => ?_⟩
        have sp := same_upd (o := .lst (zs.map V.int)) np
        refine .inl ⟨p, _, rfl, lstNew upd_same, fun t nt => ?_⟩
        have st := same_upd (o := .tup (zs.map V.int)) nt
        have s3 := (s2.trans sp).trans st
        have eD3 := s3 _ _ eD
        refine ⟨_, eD3, by rw [List.length_map, lb]; exact few1 (by omega), fun b' o z => ?_, bs ++ [t], by rw [List.length_append, lb]; rfl, by rw [upd_same, List.map_append]; rfl, fun j c hc => ?_⟩
        · rw [upd_ne (ne_of_none z nD)]; exact s3 _ _ (s1 b' o z)
        rcases Nat.lt_or_ge j bs.length with z | z
        · rw [List.getElem?_append_left z] at hc
          obtain ⟨us, u1, u2⟩ := hbs j c hc
          exact ⟨us, sqT_lst eD3 (sqT_same s3 u1), u2⟩
        · rw [List.getElem?_append_right z] at hc
          have ej : j = i := by
            have := (List.getElem?_eq_some_iff.mp hc).1
            simp at this
            omega
          rw [lb, ej, Nat.sub_self] at hc
          cases hc
          refine ⟨zs, sqT_lst eD3 (tupNew upd_same), rise, fun y hy => inn y ((mS y).mp ((mem y).mp hy)), fun y => ?_⟩
          rw [mem y, mS y, mL y, ej]
          exact exists_congr fun c => and_congr (z4 c) Iff.rfl
    · obtain ⟨s1, bs, lb, eD, hbs⟩ := p
      rw [List.length_map, h2] at lb
      refine .inl ⟨D, _, rfl, lstNew eD, fun t nt => ?_⟩
      have st := same_upd (o := .tup (bs.map V.ref)) nt
      exact q _ t (s1.trans st) ⟨bs, tupNew upd_same, lb, fun j c hc => (hbs j c hc).imp fun us u => ⟨sqT_same st u.1, u.2⟩⟩
end
end K10
set_option maxHeartbeats 4000000
namespace K10
open PySem PySem.Spec PyProof.Rows L2 RV
/-- the one pair ahead of the other -/
def pLt (p q : List Int) : Prop := p.getD 0 0 < q.getD 0 0 ∨ (p.getD 0 0 = q.getD 0 0 ∧ p.getD 1 0 < q.getD 1 0)
theorem pLt_of {a b c d : Int} (h : HT.lexLt [a, b] [c, d] = true) : pLt [a, b] [c, d] := by
  rw [HT.lexLt_cons] at h
  by_cases e : a = c
  · rw [if_pos e, HT.lexLt_cons] at h
    refine .inr ⟨e, ?_⟩
    by_cases e2 : b = d
    · rw [if_pos e2] at h; cases h
    · rw [if_neg e2] at h; exact of_decide_eq_true h
  · rw [if_neg e] at h; exact .inl (of_decide_eq_true h)
theorem pLt_all : ∀ {ps : List (List Int)}, (∀ p ∈ ps, ∃ x y : Int, p = [x, y]) → (∀ (i : Nat) (p q : List Int), ps[i]? = some p → ps[i + 1]? = some q → HT.lexLt p q = true) → ps.Pairwise pLt
  | [], _, _ => List.Pairwise.nil
  | [p], _, _ => List.pairwise_singleton _ _
  | p :: q :: r, h, hr => by
    have ih := pLt_all (ps := q :: r) (fun x hx => h x (List.mem_cons_of_mem _ hx)) fun i x y h1 h2 => hr (i + 1) x y h1 h2
    obtain ⟨a, b, rfl⟩ := h p List.mem_cons_self
    obtain ⟨c, d, rfl⟩ := h q (List.mem_cons_of_mem _ List.mem_cons_self)
    have h0 := pLt_of (hr 0 _ _ rfl rfl)
    refine List.pairwise_cons.mpr ⟨fun x hx => ?_, ih⟩
    rcases List.mem_cons.mp hx with rfl | hx
    · exact h0
    · have h1 := (List.pairwise_cons.mp ih).1 x hx
      unfold pLt at h0 h1 ⊢
      omega
theorem behind_rise {ns : List Int} {ps : List (List Int)} (S : Stp ns ps) (m : Int) : (behindOf ps m).Pairwise (· < ·) := by
  have h := pLt_all (fun p hp => by obtain ⟨x, y, e, _⟩ := S.pair p hp; exact ⟨x, y, e⟩) S.rise
  unfold behindOf
  rw [List.pairwise_map]
  refine (List.pairwise_filter.mpr (h.imp fun {p q} z hp hq => ?_))
  have e1 := of_decide_eq_true hp
  have e2 := of_decide_eq_true hq
  unfold pLt at z
  omega
section
variable {P : Program} {w : World} {K : PySem.W.Frag} {mg : Str → Option Value} {base : Heap}
/-- the tables that a comprehension over the marks makes -/
def TabL (K : PySem.W.Frag) (H : Hp) (D : Addr) (N i : Nat) (f : Int → Int → Prop) : Prop := ∃ bs : List Addr, bs.length = i ∧ H D = some (.lst (bs.map V.ref)) ∧ ∀ (j : Nat) (c : Addr), bs[j]? = some c → ∃ xs : List Int, SqT K H c (xs.map V.int) ∧ xs.Pairwise (· < ·) ∧ (∀ x ∈ xs, 0 ≤ x ∧ x < (N : Int)) ∧ ∀ x, x ∈ xs ↔ f (j : Int) x
theorem TabL.add {H : Hp} {D t : Addr} {N i : Nat} {f : Int → Int → Prop} {xs : List Int} {bs : List Addr} (lb : bs.length = i) (eD : H D = some (.lst (bs.map V.ref))) (hb : ∀ (j : Nat) (c : Addr), bs[j]? = some c → ∃ xs : List Int, SqT K H c (xs.map V.int) ∧ xs.Pairwise (· < ·) ∧ (∀ x ∈ xs, 0 ≤ x ∧ x < (N : Int)) ∧ ∀ x, x ∈ xs ↔ f (j : Int) x)
    (h1 : SqT K H t (xs.map V.int)) (h2 : xs.Pairwise (· < ·)) (h3 : ∀ x ∈ xs, 0 ≤ x ∧ x < (N : Int)) (h4 : ∀ x, x ∈ xs ↔ f (i : Int) x) : TabL K (upd H D (.lst (bs.map V.ref ++ [.ref t]))) D N (i + 1) f := by
  refine ⟨bs ++ [t], by rw [List.length_append, lb]; rfl, by rw [upd_same, List.map_append]; rfl, fun j c hc => ?_⟩
  rcases Nat.lt_or_ge j bs.length with z | z
  · rw [List.getElem?_append_left z] at hc
    obtain ⟨us, u1, u2⟩ := hb j c hc
    exact ⟨us, sqT_lst eD u1, u2⟩
  · rw [List.getElem?_append_right z] at hc
    have ej : j = i := by
      have := (List.getElem?_eq_some_iff.mp hc).1
      simp at this
      omega
    rw [lb, ej, Nat.sub_self] at hc
    cases hc
    exact ⟨xs, sqT_lst eD h1, h2, h3, fun x => by rw [ej]; exact h4 x⟩
theorem TabL.same {H H' : Hp} {D : Addr} {N i : Nat} {f : Int → Int → Prop} (h : TabL K H D N i f) (s : Same H H') : TabL K H' D N i f := by
  obtain ⟨bs, h1, h2, h3⟩ := h
  exact ⟨bs, h1, s _ _ h2, fun j c hc => (h3 j c hc).imp fun us u => ⟨sqT_same s u.1, u.2⟩⟩
/-! ### ends_at_once -/
theorem scOnce : FnScope ["rule", "mark"] ["rule"] (defScope sAtOnce) := ⟨rfl, rfl, rfl, by decide +kernel, rfl, by decide +kernel, by decide +kernel⟩
def spTab (K : PySem.W.Frag) (C : Addr) (k : Nat) : Sp := fun vs H Q _ => ∃ (r : Addr) (ns : List Int) (ps : List (List Int)), vs = [.ref r] ∧ RuleAt K C H r ns ps ∧ Stp ns ps ∧ ns.length ≤ 8 ∧
  ∀ (H' : Hp) (t : Addr), Same H H' → Tab K H' t ns.length (lk (behindOf ps) k) → Q (.ref t) H'
theorem ok_once {f C fM : Addr} {fd dM : FuncData} (F : Fun K "ends_at_once" "ends_at_once" sAtOnce f fd) (T : Txt K mg C) (B : Bare mg) (FM : Fun K "marks" "Rule.marks" sMarksM fM dM) (bM : Binds K dM ["self"] []) (mM : Meth K C "marks" fM) : FnOk P w K mg base CX0 2 f fd ["rule"] (spTab K C 0) := by
  have GM : FnOk P w K mg base CX0 1 fM dM ["self"] (spMarksM K C) := ok_marksM FM T B
  refine F.ok scOnce (fun vs H Q E h => ?_) (fun cdv A outer s H vs Q E hr h => ?_)
  · obtain ⟨r, ns, ps, rfl, _⟩ := h
    rfl
  · obtain ⟨r, ns, ps, rfl, R, S, n8, q⟩ := h
    have one : (1 : Nat) ≤ sizeLine := by decide
    refine ⟨_, pss_one (ps_ret (pe_tupleOf (by rfl) B.tuple
      (pe_lc (own := [("mark", 1)]) (g := gName 1) (tt := tYes) rfl scOnce.nd (pi_range1 (by rfl) B.range (pa_cons (pe_meth0 (pv 0) T.cl mM GM hr bM .nil pass0) pa_nil)) (blkOk_by (N := ["rule", "mark"]) (sc := defScope sAtOnce) (by decide +kernel)) (fun _ _ _ _ _ => pg_name (i := 1) scOnce.nd rfl (Or.inl rfl)) (fun _ _ _ _ _ => pts_nil)
        (fun _ _ _ _ _ => pe_tup (pa_cons (pv 1) pa_nil))))), ?_⟩
    obtain ⟨dx, a0, b0, t0, g1, g2, g3, g4⟩ := R.ex
    have fno := flds_no a0 b0 t0 (m := "marks") (by decide +kernel) (by decide +kernel) (by decide +kernel)
    refine ⟨.ref r, rfl, r, dx, _, rfl, g1, fno, r, ns, ps, rfl, R, (ns.length : Int), rfl, by omega, by omega, fun D nD => ?_⟩
    rw [Int.toNat_natCast]
    refine lc_range (lo := 0) (n := ns.length) (fun i H' => Same H H' ∧ TabL K H' D ns.length i (lk (behindOf ps) 0)) ⟨same_upd nD, [], rfl, upd_same, fun _ _ z => nomatch z⟩ (fun i H1 hi p => ?_) fun H1 p => ?_
    · obtain ⟨s1, bs, lb, eD, hb⟩ := p
      refine ⟨by simp [wipe, List.set_set], tt_yes ⟨.int (0 + (i : Int)), rfl, one, fun t nt => ?_⟩⟩
      have st := same_upd (o := .tup [.int (0 + (i : Int))]) nt
      have e0 : (0 + (i : Int)) = (i : Int) := by omega
      refine ⟨_, st _ _ eD, by rw [List.length_map, lb]; exact few1 (by omega), fun b' o z => ?_, TabL.add (xs := [(i : Int)]) lb (st _ _ eD) (fun j c hc => (hb j c hc).imp fun us u => ⟨sqT_same st u.1, u.2⟩) (tupNew (by rw [upd_same, e0]; rfl)) (List.pairwise_singleton _ _) (fun x hx => by rw [List.mem_singleton.mp hx]; omega) fun x => ?_⟩
      · rw [upd_ne (ne_of_none z nD)]; exact st _ _ (s1 b' o z)
      · rw [List.mem_singleton]; exact ⟨fun z => z.symm, fun z => z.symm⟩
    · obtain ⟨s1, bs, lb, eD, hb⟩ := p
      refine .inl ⟨D, _, rfl, lstNew eD, fun t nt => ?_⟩
      have st := same_upd (o := .tup (bs.map V.ref)) nt
      exact q _ t (s1.trans st) ⟨bs, tupNew upd_same, lb, fun j c hc => (hb j c hc).imp fun us u => ⟨sqT_same st u.1, u.2⟩⟩
/-! ### ends_of_steps -/
theorem scOfSt : FnScope ["rule", "mark"] ["rule"] (defScope sOfSteps) := ⟨rfl, rfl, rfl, by decide +kernel, rfl, by decide +kernel, by decide +kernel⟩
theorem ok_ofst {f C fM fB : Addr} {fd dM dB : FuncData} (F : Fun K "ends_of_steps" "ends_of_steps" sOfSteps f fd) (T : Txt K mg C) (B : Bare mg) (FB : Fun K "behind" "Rule.behind" sBehindM fB dB) (bB : Binds K dB ["self", "mark"] []) (mB : Meth K C "behind" fB) (FM : Fun K "marks" "Rule.marks" sMarksM fM dM) (bM : Binds K dM ["self"] []) (mM : Meth K C "marks" fM) : FnOk P w K mg base CX0 2 f fd ["rule"] (spTab K C 1) := by
  have GM : FnOk P w K mg base CX0 1 fM dM ["self"] (spMarksM K C) := ok_marksM FM T B
  have GB : FnOk P w K mg base CX0 1 fB dB ["self", "mark"] (spBehindM K C) := ok_behindM FB T
  refine F.ok scOfSt (fun vs H Q E h => ?_) (fun cdv A outer s H vs Q E hr h => ?_)
  · obtain ⟨r, ns, ps, rfl, _⟩ := h
    rfl
  · obtain ⟨r, ns, ps, rfl, R, S, n8, q⟩ := h
    refine ⟨_, pss_one (ps_ret (pe_tupleOf (by rfl) B.tuple
      (pe_lc (own := [("mark", 1)]) (g := gName 1) (tt := tYes) rfl scOfSt.nd (pi_range1 (by rfl) B.range (pa_cons (pe_meth0 (pv 0) T.cl mM GM hr bM .nil pass0) pa_nil)) (blkOk_by (N := ["rule", "mark"]) (sc := defScope sOfSteps) (by decide +kernel)) (fun _ _ _ _ _ => pg_name (i := 1) scOfSt.nd rfl (Or.inl rfl)) (fun _ _ _ _ _ => pts_nil)
        (fun _ _ _ _ _ => pe_meth (pv 0) T.cl mB GB hr bB .nil pass0 (pa_cons (pv 1) pa_nil))))), ?_⟩
    obtain ⟨dx, a0, b0, t0, g1, g2, g3, g4⟩ := R.ex
    have fno := flds_no a0 b0 t0 (m := "marks") (by decide +kernel) (by decide +kernel) (by decide +kernel)
    have fno2 := flds_no a0 b0 t0 (m := "behind") (by decide +kernel) (by decide +kernel) (by decide +kernel)
    refine ⟨.ref r, rfl, r, dx, _, rfl, g1, fno, r, ns, ps, rfl, R, (ns.length : Int), rfl, by omega, by omega, fun D nD => ?_⟩
    rw [Int.toNat_natCast]
    refine lc_range (lo := 0) (n := ns.length) (fun i H' => Same H H' ∧ TabL K H' D ns.length i (lk (behindOf ps) 1)) ⟨same_upd nD, [], rfl, upd_same, fun _ _ z => nomatch z⟩ (fun i H1 hi p => ?_) fun H1 p => ?_
    · obtain ⟨s1, bs, lb, eD, hb⟩ := p
      have e0 : (0 + (i : Int)) = (i : Int) := by omega
      rw [e0]
      refine ⟨by simp [wipe, List.set_set], tt_yes ⟨.ref r, rfl, r, dx, _, rfl, s1 _ _ g1, fno2, .int (i : Int), rfl, r, ns, ps, i, rfl, R.same s1, hi, fun c hc => ?_⟩⟩
      refine ⟨_, eD, by rw [List.length_map, lb]; exact few1 (by omega), fun b' o z => ?_, TabL.add lb eD hb hc (behind_rise S _) (behind_inn S _) fun x => lk_one.symm⟩
      rw [upd_ne (ne_of_none z nD)]; exact s1 b' o z
    · obtain ⟨s1, bs, lb, eD, hb⟩ := p
      refine .inl ⟨D, _, rfl, lstNew eD, fun t nt => ?_⟩
      have st := same_upd (o := .tup (bs.map V.ref)) nt
      exact q _ t (s1.trans st) ⟨bs, tupNew upd_same, lb, fun j c hc => (hb j c hc).imp fun us u => ⟨sqT_same st u.1, u.2⟩⟩
end
end K10
set_option maxHeartbeats 4000000
namespace RV
open PySem PySem.Spec PyProof.Rows L2
theorem walk_revT {K : PySem.W.Frag} {a : Addr} {xs : List V} : Walk (RT.ItvT K a xs.length) xs.length (fun H => SqT K H a xs) (YAt xs.reverse) := by
  refine ⟨fun i H hi g => ⟨hi, xs, xs[xs.length - 1 - i], g, List.getElem?_eq_getElem (by omega)⟩, fun H _ => Nat.le_refl _, fun i H x H' hi g y => ⟨y.1, ?_⟩⟩
  rw [List.getElem?_reverse hi]
  exact y.2 xs g
/-- [h(x) for x in reversed(t)], t a tuple of ints -/
theorem lc_mapRev {K : PySem.W.Frag} {te : TE} {h : Int → Int} {σ : L2.St} {H1 : Hp} {a D : Addr} {v : Nat} {ns : List Int} {Qd : Hp → Prop} (hT : SqT K H1 a (ns.map V.int)) (hl : ns.length ≤ 1000) (nD : H1 D = none)
    (hte : ∀ x ∈ ns, ∀ (H' : Hp) (Q : VK), Same H1 H' → (∀ H2, Same H' H2 → Q (.int (h x)) H2) → te ((wipe σ [v]).set v (some (.int x))) H' Q)
    (hd : ∀ H', Same H1 H' → H' D = some (.lst ((ns.reverse.map h).map V.int)) → Qd H') :
    ∃ W : Nat → Nat → Hp → Prop, (∃ m, W 0 m (upd H1 D (.lst []))) ∧ ∀ i m H, W i m H →
      ((RT.ItvT K a (ns.map V.int).length).stop i H ∧ Qd H) ∨ ((RT.ItvT K a (ns.map V.int).length).go i H ∧ ∃ Nx : Hp → Prop, (∀ H', Nx H' → ∃ m', m' < m ∧ W (i + 1) m' H') ∧ ∀ x H', (RT.ItvT K a (ns.map V.int).length).yld i H x H' → gName v x (wipe σ [v]) H' fun σ2 H2 => wipe σ2 [v] = wipe σ [v] ∧ tYes σ2 H2 fun b H3 =>
        if b = true then te σ2 H3 fun y H4 => ∃ acc, H4 D = some (.lst acc) ∧ acc.length < sizeLine ∧ Nx (upd H4 D (.lst (acc ++ [y]))) else Nx H3) := by
  refine lc_it walk_revT (fun i H' => Same H1 H' ∧ H' D = some (.lst (((ns.reverse.take i).map h).map V.int))) ⟨same_upd nD, upd_same⟩ (fun i H' _ p => sqT_same p.1 hT) (fun i x Hx H' hx p y => ?_) fun H' p => ?_
  · obtain ⟨rfl, hx⟩ := y
    rw [← List.map_reverse] at hx
    obtain ⟨k, g, rfl⟩ := map_at hx
    refine ⟨by simp [wipe, List.set_set], tt_yes (hte k (List.mem_reverse.mp (List.mem_of_getElem? g)) H' _ p.1 fun H2 s2 => ⟨_, s2 _ _ p.2, ?_, fun b o z => ?_, ?_⟩)⟩
    · rw [List.length_map, List.length_map, List.length_take, List.length_reverse]; exact few1 (by omega)
    · rw [upd_ne (ne_of_none z nD)]; exact s2 _ _ (p.1 b o z)
    · rw [upd_same, List.take_add_one, g, List.map_append, List.map_append]; rfl
  · rw [List.length_map, List.take_of_length_le (by rw [List.length_reverse]; exact Nat.le_refl _)] at p
    exact hd H' p.1 p.2
/-- [c(x) for x in range(n)] of truths -/
theorem lc_blR {te : TE} {c : Int → Bool} {σ : L2.St} {H1 : Hp} {D : Addr} {v n : Nat} {Qd : Hp → Prop} (hl : n ≤ 1000) (nD : H1 D = none)
    (hte : ∀ x : Int, 0 ≤ x → x < (n : Int) → ∀ (H' : Hp) (Q : VK), Same H1 H' → (∀ H2, Same H' H2 → Q (.bl (c x)) H2) → te ((wipe σ [v]).set v (some (.int x))) H' Q)
    (hd : ∀ H', Same H1 H' → H' D = some (.lst (((upN n).map c).map V.bl)) → Qd H') :
    ∃ W : Nat → Nat → Hp → Prop, (∃ m, W 0 m (upd H1 D (.lst []))) ∧ ∀ i m H, W i m H →
      ((Itr 0 n).stop i H ∧ Qd H) ∨ ((Itr 0 n).go i H ∧ ∃ Nx : Hp → Prop, (∀ H', Nx H' → ∃ m', m' < m ∧ W (i + 1) m' H') ∧ ∀ x H', (Itr 0 n).yld i H x H' → gName v x (wipe σ [v]) H' fun σ2 H2 => wipe σ2 [v] = wipe σ [v] ∧ tYes σ2 H2 fun b H3 =>
        if b = true then te σ2 H3 fun y H4 => ∃ acc, H4 D = some (.lst acc) ∧ acc.length < sizeLine ∧ Nx (upd H4 D (.lst (acc ++ [y]))) else Nx H3) := by
  refine lc_range (lo := 0) (n := n) (fun i H' => Same H1 H' ∧ H' D = some (.lst ((((upN n).take i).map c).map V.bl))) ⟨same_upd nD, upd_same⟩ (fun i H' hi p => ?_) fun H' p => ?_
  · have g : (upN n)[i]? = some (i : Int) := upN_get hi
    rw [Int.zero_add]
    refine ⟨by simp [wipe, List.set_set], tt_yes (hte (i : Int) (by omega) (by omega) H' _ p.1 fun H2 s2 => ⟨_, s2 _ _ p.2, ?_, fun b o z => ?_, ?_⟩)⟩
    · rw [List.length_map, List.length_map, List.length_take, upN_len]; exact few1 (by omega)
    · rw [upd_ne (ne_of_none z nD)]; exact s2 _ _ (p.1 b o z)
    · rw [upd_same, List.take_add_one, g, List.map_append, List.map_append]; rfl
  · rw [List.take_of_length_le (by rw [upN_len]; exact Nat.le_refl _)] at p
    exact hd H' p.1 p.2
theorem decV (a b : Int) : decide (V.int a = V.int b) = decide (a = b) := by
  by_cases h : a = b
  · rw [h, decide_eq_true rfl, decide_eq_true rfl]
  · rw [decide_eq_false h, decide_eq_false fun z => h (V.int.inj z)]
end RV
set_option maxHeartbeats 4000000
namespace K10
open PySem PySem.Spec PyProof.Rows L2 RV
section
variable {P : Program} {w : World} {K : PySem.W.Frag} {mg : Str → Option Value} {base : Heap}
/-! ### ends_of_walks -/
abbrev nOW : List Str := ["rule", "n", "found", "doubled"]
theorem scOW : FnScope nOW ["rule", "n"] (defScope sOfWalks) := ⟨rfl, rfl, rfl, by decide +kernel, rfl, by decide +kernel, by decide +kernel⟩
def spOW (K : PySem.W.Frag) (C : Addr) : Sp := fun vs H Q _ => ∃ (r : Addr) (n : Nat) (ns : List Int) (ps : List (List Int)), vs = [.ref r, .int (n : Int)] ∧ RuleAt K C H r ns ps ∧ Stp ns ps ∧ ns.length ≤ 8 ∧
  ∀ (H' : Hp) (t : Addr), Same H H' → Tab K H' t ns.length (lk (behindOf ps) n) → Q (.ref t) H'
theorem ok_ow {f C fO fS fE : Addr} {fd dO dS dE : FuncData} (F : Fun K "ends_of_walks" "ends_of_walks" sOfWalks f fd)
    (DO : DefAt K mg "ends_at_once" sAtOnce ["rule"] fO dO) (GO : FnOk P w K mg base CX0 2 fO dO ["rule"] (spTab K C 0)) (DS : DefAt K mg "ends_of_steps" sOfSteps ["rule"] fS dS) (GS : FnOk P w K mg base CX0 2 fS dS ["rule"] (spTab K C 1))
    (DE : DefAt K mg "ends_behind" sEndsBehind ["first", "second"] fE dE) (B : Bare mg) : FnOk P w K mg base CX0 3 f fd ["rule", "n"] (spOW K C) := by
  have GE : FnOk P w K mg base CX0 1 fE dE ["first", "second"] (spEB K) := ok_eb DE.fn B
  refine F.ok scOW (fun vs H Q E h => ?_) (fun cdv A outer s H vs Q E hr h => ?_)
  · obtain ⟨r, n, ns, ps, rfl, _⟩ := h
    rfl
  · obtain ⟨r, n, ns, ps, rfl, R, S, n8, q⟩ := h
    have r1 := hr.mono (show 1 ≤ 2 by decide)
    refine ⟨_, pss_cons (ps_set (i := 2) scOW.nd rfl (Or.inl rfl) (pe_call GO hr (by rfl) DO.mg DO.fn.kp DO.bi .nil pass0 (pa_cons (pv 0) pa_nil)))
      (pss_cons (ps_set (i := 3) scOW.nd rfl (Or.inl rfl) (pe_call GS hr (by rfl) DS.mg DS.fn.kp DS.bi .nil pass0 (pa_cons (pv 0) pa_nil)))
      (pss_cons (ps_while PassesOwn.never (pt_cmpR op_gt (pv 1) pe_int (nomark _))
        (pss_cons (ps_if (pt_cmpR op_eq (pe_op op_mod (pv 1) pe_int) pe_int (nomark _)) (pss_one (ps_set (i := 2) scOW.nd rfl (Or.inl rfl) (pe_call GE r1 (by rfl) DE.mg DE.fn.kp DE.bi .nil pass0 (pa_cons (pv 2) (pa_cons (pv 3) pa_nil))))) pss_nil)
        (pss_cons (ps_set (i := 3) scOW.nd rfl (Or.inl rfl) (pe_call GE r1 (by rfl) DE.mg DE.fn.kp DE.bi .nil pass0 (pa_cons (pv 3) (pa_cons (pv 3) pa_nil))))
        (pss_one (ps_aug (i := 1) scOW.nd rfl (.inl rfl) pe_int iop_fdiv)))))
      (pss_one (ps_ret (pv 2))))), ?_⟩
    refine ⟨.ref r, rfl, r, ns, ps, rfl, R, S, n8, fun H1 t1 s1 T1 => ?_⟩
    refine ⟨.ref r, rfl, r, ns, ps, rfl, R.same s1, S, n8, fun H2 t2 s2 T2 => ?_⟩
    have s02 := s1.trans s2
    refine ⟨fun m σ H' => ∃ (k j : Nat) (a b : Addr), σ = [some (.ref r), some (.int (m : Int)), some (.ref a), some (.ref b)] ∧ Same H H' ∧ Tab K H' a ns.length (lk (behindOf ps) k) ∧ Tab K H' b ns.length (lk (behindOf ps) j) ∧ k + j * m = n,
      ⟨n, 0, 1, t1, t2, rfl, s02, T1.same s2, T2, by omega⟩, ?_⟩
    rintro m σ H3 ⟨k, j, a, b, rfl, s3, A3, B3, e3⟩
    refine ⟨.int (m : Int), rfl, _, 0, rfl, rfl, _, rfl, ite2 (fun hm => ?_) (fun hm => ?_)⟩
    · have hm : 0 < m := by have := of_decide_eq_true hm; omega
      refine ⟨fun σ H' => ∃ (k j : Nat) (a b : Addr), σ = [some (.ref r), some (.int ((m / 2 : Nat) : Int)), some (.ref a), some (.ref b)] ∧ Same H H' ∧ Tab K H' a ns.length (lk (behindOf ps) k) ∧ Tab K H' b ns.length (lk (behindOf ps) j) ∧ k + j * (m / 2) = n, fun σ' H' z => ⟨m / 2, by omega, z⟩, ?_⟩
      refine seq_mid (fun σ H' => ∃ (k : Nat) (a : Addr), σ = [some (.ref r), some (.int (m : Int)), some (.ref a), some (.ref b)] ∧ Same H H' ∧ Tab K H' a ns.length (lk (behindOf ps) k) ∧ Tab K H' b ns.length (lk (behindOf ps) j) ∧ k + (j + j) * (m / 2) = n) ?_ fun tail => ?_
      · rintro σ H4 ⟨k, a, rfl, s4, A4, B4, e4⟩
        refine ⟨.ref b, rfl, .ref b, rfl, b, b, ns.length, _, _, rfl, n8, B4, B4, fun H5 t5 s5 T5 => ?_⟩
        refine ⟨_, rfl, _, 2, rfl, rfl, ⟨by decide, by decide⟩, k, j + j, a, t5, ?_, s4.trans s5, A4.same s5, T5.congr fun i x _ _ => lk_add.symm, e4⟩
        show [some (V.ref r), some (.int ((m : Int) / 2)), some (.ref a), some (.ref t5)] = _
        rw [show (m : Int) / 2 = ((m / 2 : Nat) : Int) by omega]
      · refine ⟨.int (m : Int), rfl, _, 2, rfl, rfl, by show (0 : Int) < 2; decide, rfl, _, rfl, ?_⟩
        rw [decV]
        refine ite2 (fun hz => ?_) (fun hz => ?_)
        · have hz := of_decide_eq_true hz
          refine ⟨.ref a, rfl, .ref b, rfl, a, b, ns.length, _, _, rfl, n8, A3, B3, fun H5 t5 s5 T5 => tail _ _ ⟨k + j, t5, rfl, s3.trans s5, T5.congr fun i x _ _ => lk_add.symm, B3.same s5, ?_⟩⟩
          have em : m = 2 * (m / 2) + 1 := by omega
          rw [em] at e3
          rw [← e3, Nat.mul_add, Nat.add_mul, ← Nat.mul_assoc, Nat.mul_comm j 2, Nat.two_mul, Nat.add_mul]
          omega
        · have hz : ¬ ((m : Int) % 2 = 1) := fun z => hz (decide_eq_true z)
          refine tail _ _ ⟨k, a, rfl, s3, A3, B3, ?_⟩
          have em : m = 2 * (m / 2) := by omega
          rw [em] at e3
          rw [← e3, Nat.add_mul, ← Nat.mul_assoc, Nat.mul_comm j 2, Nat.two_mul, Nat.add_mul]
    · have hm : m = 0 := by
        have z : ¬ (0 < (m : Int)) := fun z => hm (decide_eq_true z)
        omega
      subst hm
      refine ⟨.ref a, rfl, q H3 a s3 ?_⟩
      have : k = n := by omega
      rw [← this]; exact A3
end
end K10
set_option maxHeartbeats 4000000
namespace K10
open PySem PySem.Spec PyProof.Rows L2 RV
noncomputable def fB (f : Int → Int → Prop) (m : Int) : Bool := @decide (f m m) (Classical.propDecidable _)
theorem fB_iff {f : Int → Int → Prop} {m : Int} : fB f m = true ↔ f m m := @decide_eq_true_iff _ (Classical.propDecidable _)
section
variable {P : Program} {w : World} {K : PySem.W.Frag} {mg : Str → Option Value} {base : Heap}
/-! ### come_back -/
theorem scCB : FnScope ["ends", "marks", "mark"] ["ends", "marks"] (defScope sComeBack) := ⟨rfl, rfl, rfl, by decide +kernel, rfl, by decide +kernel, by decide +kernel⟩
def spCB (K : PySem.W.Frag) : Sp := fun vs H Q _ => ∃ (t a : Addr) (N : Nat) (f : Int → Int → Prop) (p : List Int), vs = [.ref t, .ref a] ∧ Tab K H t N f ∧ SqT K H a (p.map V.int) ∧ p.length ≤ 8 ∧ (∀ x ∈ p, 0 ≤ x ∧ x < (N : Int)) ∧
  ∀ (H' : Hp) (l : Addr), Same H H' → H' l = some (.lst ((p.filter (fB f)).map V.int)) → Q (.ref l) H'
theorem ok_cb {f : Addr} {fd : FuncData} (F : Fun K "come_back" "come_back" sComeBack f fd) : FnOk P w K mg base CX0 1 f fd ["ends", "marks"] (spCB K) := by
  refine F.ok scCB (fun vs H Q E h => ?_) (fun cdv A outer s H vs Q E hr h => ?_)
  · obtain ⟨t, a, N, f, p, rfl, _⟩ := h
    rfl
  · obtain ⟨t, a, N, f, p, rfl, hT, hA, lp, inn, q⟩ := h
    have hu5 := un65 hr
    refine ⟨_, pss_one (ps_ret (pe_lc (own := [("mark", 2)]) (g := gName 2) rfl scCB.nd (pi_tup (pv 1)) (blkOk_by (N := ["ends", "marks", "mark"]) (sc := defScope sComeBack) (by decide +kernel))
          (fun _ _ _ _ _ => pg_name (i := 2) scCB.nd rfl (Or.inl rfl)) (fun _ _ _ _ _ => pts_one (pt_cmpR (op_inTIK (K := K) rfl hu5) (pv 2) (pe_ix (ix_tupK (K := K) rfl) (pv 0) (pv 2) (fun _ _ => rfl)) (by rfl))) (fun _ _ _ _ _ => pv 2))), ?_⟩
    refine ⟨.ref a, rfl, a, rfl, ⟨_, hA⟩, fun D nD => ?_⟩
    refine lc_filtT (f := fB f) hA (by omega) nD (fun x hx H' s' A' B' kk => ?_) (fun x H' Q' k => ⟨.int x, rfl, k⟩) fun H2 s2 e2 => q H2 D s2 e2
    obtain ⟨vs, c, xs, k1, k2, k3, k4, k5, k6⟩ := (hT.same s').at (inn x hx).1 (inn x hx).2
    refine ⟨.int x, rfl, .ref t, rfl, .int x, rfl, t, vs, x, .ref c, rfl, rfl, k1, k2, c, x, xs, rfl, rfl, k3, _, rfl, ?_⟩
    rw [show decide (x ∈ xs) = fB f x by rw [Bool.eq_iff_iff, decide_eq_true_iff, fB_iff]; exact k6 x]
    exact kk H' (Same.refl H')
end
end K10
set_option maxHeartbeats 4000000
namespace K10
open PySem PySem.Spec PyProof.Rows L2 RV
theorem rule_pail {K : PySem.W.Frag} {C : Addr} {H H' : Hp} {p r : Addr} {t : Nat} {ns : List Int} {ps : List (List Int)} (R : RuleAt K C H r ns ps) (hp : PailAt H p t) (b : But p H H') : RuleAt K C H' r ns ps := by
  obtain ⟨dx, a, c, d, h1, h2, h3, h4⟩ := R.ex
  obtain ⟨x, y, e, rest⟩ := hp
  exact ⟨dx, a, c, d, b _ _ h1 (fun z => by rw [z, e] at h1; cases h1), sqT_pail ⟨x, y, e, rest⟩ b h2, tups_pail ⟨x, y, e, rest⟩ b h3, tups_pail ⟨x, y, e, rest⟩ b h4⟩
theorem tup_pail {H H' : Hp} {p a : Addr} {t : Nat} {xs : List V} (h : H a = some (.tup xs)) (hp : PailAt H p t) (b : But p H H') : H' a = some (.tup xs) := by
  obtain ⟨x, y, e, rest⟩ := hp
  exact b _ _ h fun z => by rw [z, e] at h; cases h
theorem OwnH.pail {K : PySem.W.Frag} {H H' : Hp} {p R : Addr} {t : Nat} {ns : List Int} {ps : List (List Int)} (h : OwnH K H R ns ps) (hp : PailAt H p t) (b : But p H H') : OwnH K H' R ns ps := by
  obtain ⟨u, c, o1, o2, o3, M, S⟩ := h
  exact ⟨u, c, tup_pail o1 hp b, sqT_pail hp b o2, o3.but hp b, M, S⟩
theorem OwnH.same {K : PySem.W.Frag} {H H' : Hp} {R : Addr} {ns : List Int} {ps : List (List Int)} (h : OwnH K H R ns ps) (s : Same H H') : OwnH K H' R ns ps := by
  obtain ⟨u, c, o1, o2, o3, M, S⟩ := h
  exact ⟨u, c, s _ _ o1, sqT_same s o2, o3.same s, M, S⟩
theorem part_is {ps : List (List Int)} {n : Nat} {p : List Int} (h : p ∈ partsOf ps n) : ∀ m ∈ p, lotOf ps n m = p := fun m hm => part_lot h hm
theorem lk_rch {ps : List (List Int)} {n : Int} (hP : ∀ p ∈ ps, Pr n p) {b : Int} : ∀ {k : Nat} {a : Int}, lk (behindOf ps) (k + 1) a b → Rch ps a b
  | 0, a, h => .one ((mem_behind hP).mp (lk_one.mp h))
  | k + 1, a, ⟨c, h1, h2⟩ => Rch.trans (.one ((mem_behind hP).mp h1)) (lk_rch hP h2)
end K10
set_option maxHeartbeats 4000000
/-! rising lists of marks: at most two to the power of how many; where walks end, step by step, comes round -/
namespace RV
def subs : Nat → List (List Int)
  | 0 => [[]]
  | n + 1 => subs n ++ (subs n).map fun xs => xs ++ [(n : Int)]
theorem subs_len : ∀ n, (subs n).length = 2 ^ n
  | 0 => rfl
  | n + 1 => by
    show (subs n ++ (subs n).map _).length = _
    rw [List.length_append, List.length_map, subs_len n, Nat.pow_succ]; omega
theorem mem_subs : ∀ {n : Nat} {xs : List Int}, xs.Pairwise (· < ·) → (∀ x ∈ xs, 0 ≤ x ∧ x < (n : Int)) → xs ∈ subs n
  | 0, xs, _, h => by
    cases xs with
    | nil => exact List.mem_singleton.mpr rfl
    | cons x xs => have := h x List.mem_cons_self; omega
  | n + 1, xs, hr, h => by
    show xs ∈ subs n ++ (subs n).map _
    rw [List.mem_append]
    by_cases e : xs = []
    · subst e
      exact .inl (mem_subs List.Pairwise.nil fun x hx => nomatch hx)
    obtain ⟨ys, y, rfl⟩ : ∃ ys y, xs = ys ++ [y] := ⟨xs.dropLast, xs.getLast e, (List.dropLast_concat_getLast e).symm⟩
    obtain ⟨r1, _, r2⟩ := List.pairwise_append.mp hr
    have hy := h y (List.mem_append_right _ (List.mem_singleton.mpr rfl))
    have hys : ∀ x ∈ ys, 0 ≤ x ∧ x < y := fun x hx => ⟨(h x (List.mem_append_left _ hx)).1, r2 x hx y (List.mem_singleton.mpr rfl)⟩
    by_cases e2 : y = (n : Int)
    · subst e2
      exact .inr (List.mem_map.mpr ⟨ys, mem_subs r1 hys, rfl⟩)
    · refine .inl (mem_subs hr fun x hx => ?_)
      rcases List.mem_append.mp hx with z | z
      · have := hys x z; omega
      · rw [List.mem_singleton.mp z]; omega
theorem rise_uniq : ∀ {xs ys : List Int}, xs.Pairwise (· < ·) → ys.Pairwise (· < ·) → (∀ x, x ∈ xs ↔ x ∈ ys) → xs = ys
  | [], [], _, _, _ => rfl
  | [], y :: ys, _, _, h => nomatch (h y).mpr List.mem_cons_self
  | x :: xs, [], _, _, h => nomatch (h x).mp List.mem_cons_self
  | x :: xs, y :: ys, hx, hy, h => by
    obtain ⟨x1, x2⟩ := List.pairwise_cons.mp hx
    obtain ⟨y1, y2⟩ := List.pairwise_cons.mp hy
    have e : x = y := by
      rcases List.mem_cons.mp ((h x).mp List.mem_cons_self) with z | z
      · exact z
      · rcases List.mem_cons.mp ((h y).mpr List.mem_cons_self) with z2 | z2
        · exact z2.symm
        · have := y1 x z; have := x1 y z2; omega
    subst e
    rw [rise_uniq x2 y2 fun z => ?_]
    constructor
    · intro hz
      rcases List.mem_cons.mp ((h z).mp (List.mem_cons_of_mem _ hz)) with e | e
      · have := x1 z hz; omega
      · exact e
    · intro hz
      rcases List.mem_cons.mp ((h z).mpr (List.mem_cons_of_mem _ hz)) with e | e
      · have := y1 z hz; omega
      · exact e
section
variable {bh : Int → List Int} {m : Int}
/-- the rising list of where n steps lead from m -/
def isE (bh : Int → List Int) (m : Int) (n : Nat) (xs : List Int) : Prop := xs.Pairwise (· < ·) ∧ ∀ x, x ∈ xs ↔ lk bh n m x
theorem isE_uniq {n n' : Nat} {xs ys : List Int} (h : isE bh m n xs) (h' : isE bh m n' ys) (e : ∀ x, lk bh n m x ↔ lk bh n' m x) : xs = ys := rise_uniq h.1 h'.1 fun x => (h.2 x).trans ((e x).trans (h'.2 x).symm)
theorem lk_round {f l : Nat} (hf : f < l) (e : ∀ x, lk bh l m x ↔ lk bh f m x) : ∀ (n : Nat), f ≤ n → ∀ x, lk bh n m x ↔ lk bh (f + (n - f) % (l - f)) m x := by
  intro n
  induction n using Nat.strongRecOn with
  | ind n ih =>
    intro hn x
    by_cases z : n < l
    · rw [Nat.mod_eq_of_lt (by omega), Nat.add_sub_cancel' hn]
    · have h1 : lk bh n m x ↔ lk bh (f + (n - l)) m x := by
        rw [show n = l + (n - l) by omega, lk_add, show l + (n - l) - l = n - l by omega, lk_add]
        exact exists_congr fun c => and_congr (e c) Iff.rfl
      rw [h1, ih (f + (n - l)) (by omega) (by omega) x]
      have : (n - f) % (l - f) = (f + (n - l) - f) % (l - f) := by
        rw [show n - f = (f + (n - l) - f) + (l - f) by omega, Nat.add_mod_right]
      rw [this]
end
end RV
set_option maxHeartbeats 4000000
/-! set(xs) of nums -/
namespace RV
open PySem PySem.Spec PyProof.Rows L2
section
variable {P : Program} {w : World} {A : Around} {E : Value → Shared → Prop} {s : Shared}
theorem SetR.names {h : Heap} {a : Addr} {S : Int → Bool} {n : Nat} (R : SetR w h a S n) : ∃ ls : List Int, ls.Nodup ∧ ls.length = n ∧ ∀ k, k ∈ ls ↔ S k = true := by
  obtain ⟨o, es, ep, t, _, _, _, _, nd, hm, _, _, hn, _⟩ := R
  exact ⟨es.toList.map keyOf, nd, by rw [List.length_map, Array.length_toList]; exact hn, fun k => (hm k).symm⟩
theorem setI_loop {R : Result → Shared → Prop} (hh : A.in1.handled = none) (S l it : Addr) (hSl : S ≠ l) (hSi : S ≠ it) (hli : l ≠ it) (items : Array Value) (ns : List Int) (few : ns.length ≤ 1000)
    (nums : ∀ (i : Nat) (k : Int), ns[i]? = some k → ∃ tk, items[i]? = some (Value.int k tk)) (size : items.size = ns.length) (old : Heap) (o1 : old.get? S = none) (o2 : old.get? it = none) :
    ∀ (k i : Nat) (s : Shared), ns.length - i = k → i ≤ ns.length → s.heap.IsListIter it l i → s.heap.IsList l items → (∀ b o, old.get? b = some o → s.heap.get? b = some o) → (∃ n, n ≤ i ∧ SetR w s.heap S (fun j => decide (j ∈ ns.take i)) n) →
      (∀ h' tk n, SetR w h' S (fun j => decide (j ∈ ns)) n → (∀ b o, old.get? b = some o → h'.get? b = some o) → R (.ok (.ret .none)) { s with heap := h', toks := tk }) →
      codeAny (model P w) A (.builtin "set.update.loop" ⟨[.ref S, .ref it], []⟩) R s
  | 0, i, s, hk, hi, hit, hl, keep, ⟨n, hn, hS⟩, fin => by
    obtain rfl : i = ns.length := by omega
    rw [List.take_length] at hS
    refine codeAny_builtin F.entry_set_update_loop ?_
    rw [Around.under_plainId F.plain_set_update_loop _]
    show wpAny _ A.in1 (pyNext (.ref it) >>= _) _ _ s
    refine wpAny_bind (wpAny_pyNext_list_end hh hit hl (by simp [size]) fun h' ext => ?_)
    exact wpAny_pure (fin h' s.toks n (hS.at fun o e => ext S o hSi e) fun b o e => ext b o (fun z => by rw [z, o2] at e; cases e) (keep b o e))
  | k + 1, i, s, hk, hi, hit, hl, keep, ⟨n, hn, hS⟩, fin => by
    obtain ⟨x, hx⟩ : ∃ x, ns[i]? = some x := ⟨_, List.getElem?_eq_getElem (by omega)⟩
    obtain ⟨tk, hv⟩ := nums i x hx
    refine codeAny_builtin F.entry_set_update_loop ?_
    rw [Around.under_plainId F.plain_set_update_loop _]
    show wpAny _ A.in1 (pyNext (.ref it) >>= _) _ _ s
    refine wpAny_bind (wpAny_pyNext_list_item hit hl hv fun h1 hit1 sb1 => ?_)
    have keep1 : ∀ b o, old.get? b = some o → h1.get? b = some o := fun b o e => (sb1.2 b fun z => by rw [z, o2] at e; cases e).trans (keep b o e)
    have hS1 := hS.at (h' := h1) fun o e => (sb1.2 S hSi).trans e
    show wpAny _ A.in1 (holding [Value.int x tk] (setAdd S (.int x tk)) >>= _) _ _ _
    refine wpAny_bind (wpAny_holding ?_)
    unfold setAdd
    refine wpAny_holding (wpAny_bind ((intKind P w).pyHash (intKind_is P w x tk) ?_))
    refine setR_add_hashed (s := { s with heap := h1, toks := s.toks + 1 }) hS1 (by show n + 1 < 4096; omega) fun h2 sb2 hS2 => ?_
    have e : (fun j => decide (j ∈ ns.take i) || decide (j = x)) = fun j => decide (j ∈ ns.take (i + 1)) := by
      funext j
      rw [List.take_add_one, hx, ← Bool.decide_or]
      refine decide_eq_decide.mpr ?_
      rw [List.mem_append]
      simp
    rw [e] at hS2
    have keep2 : ∀ b o, old.get? b = some o → h2.get? b = some o := fun b o e => (sb2.2 b fun z => by rw [z, o1] at e; cases e).trans (keep1 b o e)
    refine wpAny_pure ⟨plainId_quiet F.plain_set_update_loop _, setI_loop hh S l it hSl hSi hli items ns few nums size old o1 o2 k (i + 1) _ (by omega) (by omega)
      (hit1.at fun o e => (sb2.2 it (Ne.symm hSi)).trans e) ((hl.at fun o e => (sb1.2 l hli).trans e).at fun o e => (sb2.2 l (Ne.symm hSl)).trans e) keep2 ⟨_, by split <;> omega, hS2⟩ fun h' tk n z1 z2 => fin h' tk n z1 z2⟩
set_option maxHeartbeats 8000000 in
theorem call_setI {l : Addr} {items : Array Value} (ns : List Int) {Q : Value → Shared → Prop} (hh : A.handled = none) (hl : s.heap.IsList l items) (nums : IntsAre items.toList ns)
    (few : ns.length ≤ 1000) (hu : A.units + 3 < cLine)
    (k : ∀ (h' : Heap) (tk n : Nat), SetR w h' s.heap.objs.size (fun j => decide (j ∈ ns)) n → (∀ b o, s.heap.get? b = some o → h'.get? b = some o) → Q (.ref s.heap.objs.size) { s with heap := h', toks := tk }) :
    wpAny (model P w) A (call (.type "set") [.ref l]) Q E s := by
  have size : items.size = ns.length := by rw [← Array.length_toList]; exact IntsAre.length nums
  have nums' : ∀ (i : Nat) (k : Int), ns[i]? = some k → ∃ tk, items[i]? = some (Value.int k tk) := fun i k e => by
    have hi : i < items.size := by rw [size]; exact (List.getElem?_eq_some_iff.mp e).1
    obtain ⟨n, t, h1, h2⟩ := IntsAre.at nums i items[i] (by rw [Array.getElem?_toList]; exact Array.getElem?_eq_getElem hi)
    rw [e] at h2
    cases h2
    exact ⟨t, by rw [Array.getElem?_eq_getElem hi, h1]⟩
  obtain ⟨c, tl, hm⟩ := F.called_set.mro
  have a1 := F.called_set.made
  have a2 := F.called_set.sub
  have a3 := F.called_set.notType
  have a4 := F.called_set.canCreate
  have a5 := F.typeCall_set_1 (.ref l)
  refine wpAny_call (codeAny_of_tree ?_)
  show wpAny _ _ (callAny (.type "set") _) _ _ _
  refine wpAny_pure ⟨Code.quiet_builtin _ (by decide +kernel), codeAny_builtin F.entry_type_call ?_⟩
  rw [Around.under_plain (weight_type_call_type "set" [.ref l] []) rfl]
  repeat (any_goals (first | assumption | wp_step))
  refine codeAny_mono (code_set_led1 (.ref l) (E := E) (Q₁ := fun obj s₁ => obj = .ref s.heap.objs.size ∧ s₁ = { s with heap := s.heap.push (noneYet w) }) ⟨rfl, rfl⟩) fun r s₁ hr => ?_
  match r, hr with
  | .error e, hr => exact hr
  | .ok .next, hr => exact hr.elim
  | .ok .brk, hr => exact hr.elim
  | .ok .cont, hr => exact hr.elim
  | .ok (.ret obj), hr =>
    obtain ⟨rfl, rfl⟩ := hr
    have hS : (s.heap.push (noneYet w)).get? s.heap.objs.size = some (noneYet w) := Heap.get?_push_size _ rfl
    have hT : Shared.TypeIs { s with heap := s.heap.push (noneYet w) } (.ref s.heap.objs.size) "set" := ⟨_, hS, rfl⟩
    have b1 := F.called_set.init.lookup
    have b2 := F.called_set.init.bind (.ref s.heap.objs.size)
    repeat (any_goals (first | assumption | wp_step))
    refine codeAny_mono (codeAny_call_builtin (R := wants (fun r s₂ => r = .none ∧ ∃ h' tk n, s₂ = { s with heap := h', toks := tk } ∧ SetR w h' s.heap.objs.size (fun j => decide (j ∈ ns)) n ∧
        (∀ b o, s.heap.get? b = some o → h'.get? b = some o)) E) F.called_set.init.plain F.entry_set_init (check_set_init_1 hT ?_)) fun r₂ s₂ hr₂ => ?_
    · obtain ⟨⟨oc, od, dt, os⟩, g1, g2, nl, g3⟩ := hl
      simp only at g2 g3
      subst g2 g3
      have g4 : (s.heap.push (noneYet w)).get? l = some { cls := .type "list", dict := od, data := .seq items nl, slots := os } := Heap.get?_push_of_some _ g1
      have c1 := F.sub_list_set
      have c2 := F.sub_list_frozenset
      have c3 : (Value.type "list" == Value.type "dict") = false := by decide
      have isl : (s.heap.push (noneYet w)).IsList l items := ⟨_, g4, rfl, nl, rfl⟩
      unfold Builtin.«set.__init__» noKeywords Builtin.Frozenset.updateFrom
      generalize hpi : pyIter = pI
      wp_walk
      subst hpi
      refine wpAny_pyIter_list isl (wpAny_bind (wpAny_runValue ?_))
      have lt : l < s.heap.objs.size := Heap.lt_size g1
      have z1 : (s.heap.push (noneYet w)).objs.size = s.heap.objs.size + 1 := Heap.size_push ..
      have none1 : ∀ b, s.heap.objs.size ≤ b → s.heap.get? b = none := fun b hb => by
        cases q : s.heap.get? b with
        | none => rfl
        | some o => exact absurd (Nat.lt_of_lt_of_le (Heap.lt_size q) hb) (Nat.lt_irrefl _)
      refine setI_loop (A := A.in1.in1) (by simp [hh]) s.heap.objs.size l (s.heap.push (noneYet w)).objs.size (Nat.ne_of_gt lt) (by rw [z1]; exact Nat.ne_of_lt (Nat.lt_succ_self _)) (by rw [z1]; exact Nat.ne_of_lt (Nat.lt_succ_of_lt lt)) items ns few nums' size s.heap (none1 _ (Nat.le_refl _)) (none1 _ (by rw [z1]; exact Nat.le_succ _)) (ns.length - 0) 0 _ rfl (Nat.zero_le _)
        ⟨_, Heap.get?_push_size _ rfl, rfl, rfl⟩ (isl.push _) (fun b o e => Heap.get?_push_of_some _ (Heap.get?_push_of_some _ e)) ⟨0, Nat.le_refl _, by rw [List.take_zero]; exact (setR_fresh w).at fun o e => Heap.get?_push_of_some _ e⟩ fun h' tk n q1 q3 => ?_
      show wpAny _ _ _ _ _ _
      refine wpAny_pure ?_
      show wpAny _ _ (ret Value.none) _ _ _
      exact wpAny_pure ⟨rfl, h', tk, n, rfl, q1, q3⟩
    · match r₂, hr₂ with
      | .error e, hr₂ => exact hr₂
      | .ok .next, hr₂ => exact hr₂.elim
      | .ok .brk, hr₂ => exact hr₂.elim
      | .ok .cont, hr₂ => exact hr₂.elim
      | .ok (.ret r), hr₂ =>
        obtain ⟨rfl, h', tk, n, rfl, q1, q3⟩ := hr₂
        repeat (any_goals (first | assumption | wp_step))
        exact k _ _ _ q1 q3
end
section
variable {X : Cx}
/-- set(xs), xs a list of nums -/
def rSetI (K : PySem.W.Frag) (w : World) : List V → Hp → VK → Prop := fun xs H Q => ∃ (l : Addr) (ns : List Int), xs = [V.ref l] ∧ SqL K H l (ns.map V.int) ∧ ns.length ≤ 1000 ∧
  ∀ (a : Addr) (n : Nat), H a = none → (∃ ls : List Int, ls.Nodup ∧ ls.length = n ∧ ∀ k, k ∈ ls ↔ k ∈ ns) → Q (.ref a) (upd H a (SetO w a (fun j => decide (j ∈ ns)) n))
theorem cr_setI (hc : X.calm = true) (hu : X.A.units + 64 < cLine) : CallR X (.type "set") (rSetI X.K X.w) := by
  intro pins s σ H xs us Q I r h
  obtain ⟨l, ns, rfl, hl, few, q⟩ := h
  rw [Vals.ref1 r]
  obtain ⟨its, rv, pl, hz⟩ := I.list hl
  refine call_setI ns (I.ok.hd hc) pl.isList (intsAre_of rv) few (by omega) fun h' tk n R kp => ?_
  refine ⟨.ref s.heap.objs.size, upd H s.heap.objs.size (SetO X.w s.heap.objs.size (fun j => decide (j ∈ ns)) n), I.laid (t' := tk) kp (Nat.le_refl _) (setO_new R), rfl, ?_⟩
  obtain ⟨ls, h1, h2, h3⟩ := RV.SetR.names R
  exact q _ n (I.hok.fresh (Nat.le_refl _)) ⟨ls, h1, h2, fun k => (h3 k).trans decide_eq_true_iff⟩
end
end RV
set_option maxHeartbeats 4000000
namespace K10
open PySem PySem.Spec PyProof.Rows L2 RV
/-- a dict that tells at which place of the list a tuple stands -/
def DM (H : Hp) (d : Addr) (Xs : List (List Int)) : Prop := ∃ kvs : List (List L2.Key × V), H d = some (.dT kvs) ∧ kvs.length ≤ Xs.length ∧ (∀ ys : List Int, ys ∉ Xs → valV kvs (keyP ys) = none) ∧ ∀ (i : Nat) (ys : List Int), Xs[i]? = some ys → valV kvs (keyP ys) = some (.int (i : Int))
theorem dm_put {kvs : List (List L2.Key × V)} {Xs : List (List Int)} {hs : List Int} (h1 : kvs.length ≤ Xs.length) (h2 : ∀ ys : List Int, ys ∉ Xs → valV kvs (keyP ys) = none) (h3 : ∀ (i : Nat) (ys : List Int), Xs[i]? = some ys → valV kvs (keyP ys) = some (.int (i : Int))) (hn : hs ∉ Xs) :
    (putK kvs (keyP hs) (.int (Xs.length : Int))).length ≤ (Xs ++ [hs]).length ∧ (∀ ys : List Int, ys ∉ Xs ++ [hs] → valV (putK kvs (keyP hs) (.int (Xs.length : Int))) (keyP ys) = none) ∧ ∀ (i : Nat) (ys : List Int), (Xs ++ [hs])[i]? = some ys → valV (putK kvs (keyP hs) (.int (Xs.length : Int))) (keyP ys) = some (.int (i : Int)) := by
  refine ⟨?_, fun ys hy => ?_, fun i ys hi => ?_⟩
  · have := length_putK kvs (keyP hs) (.int (Xs.length : Int))
    rw [List.length_append]; simp; omega
  · rw [valV_put, if_neg (fun z => hy (List.mem_append_right _ (List.mem_singleton.mpr (keyP_inj z)))), h2 ys fun z => hy (List.mem_append_left _ z)]
  · rcases Nat.lt_or_ge i Xs.length with z | z
    · rw [List.getElem?_append_left z] at hi
      rw [valV_put, if_neg (fun e => hn (by rw [← keyP_inj e]; exact List.mem_of_getElem? hi))]
      exact h3 i ys hi
    · rw [List.getElem?_append_right z] at hi
      have ei : i = Xs.length := by
        have := (List.getElem?_eq_some_iff.mp hi).1
        simp at this; omega
      rw [ei, Nat.sub_self] at hi
      cases hi
      rw [valV_put, if_pos rfl, ei]
/-- a list of tuples that tell, step by step, where walks from m end -/
def RowE (H : Hp) (L : Addr) (ps : List (List Int)) (m : Int) (Xs : List (List Int)) : Prop := ∃ as : List Addr, H L = some (.lst (as.map V.ref)) ∧ as.length = Xs.length ∧ (∀ (i : Nat) (a : Addr) (xs : List Int), as[i]? = some a → Xs[i]? = some xs → H a = some (.tup (xs.map V.int))) ∧ ∀ (i : Nat) (xs : List Int), Xs[i]? = some xs → isE (behindOf ps) m i xs
def SetsH (H : Hp) (R : Addr) (ps : List (List Int)) (m : Int) : Prop := ∃ (L : Addr) (f : Nat) (Xs : List (List Int)), H R = some (.tup [.ref L, .int (f : Int)]) ∧ RowE H L ps m Xs ∧ f < Xs.length ∧ Xs.length ≤ 256 ∧ ∀ x, lk (behindOf ps) Xs.length m x ↔ lk (behindOf ps) f m x
theorem RowE.same {H H' : Hp} {L : Addr} {ps : List (List Int)} {m : Int} {Xs : List (List Int)} (h : RowE H L ps m Xs) (s : Same H H') : RowE H' L ps m Xs := by
  obtain ⟨as, h1, h2, h3, h4⟩ := h
  exact ⟨as, s _ _ h1, h2, fun i a xs e1 e2 => s _ _ (h3 i a xs e1 e2), h4⟩
theorem SetsH.same {H H' : Hp} {R : Addr} {ps : List (List Int)} {m : Int} (h : SetsH H R ps m) (s : Same H H') : SetsH H' R ps m := by
  obtain ⟨L, f, Xs, h1, h2, h3⟩ := h
  exact ⟨L, f, Xs, s _ _ h1, h2.same s, h3⟩
section
variable {P : Program} {w : World} {K : PySem.W.Frag} {mg : Str → Option Value} {base : Heap}
/-! ### _law_behind -/
abbrev nLBh : List Str := ["_law_steps", "_law_begins", "_law_here", "_law_row", "_law_met", "_law_a", "_law_b"]
theorem scLBh : FnScope nLBh ["_law_steps", "_law_begins"] (defScope sLBehind) := ⟨rfl, rfl, rfl, by decide +kernel, rfl, by decide +kernel, by decide +kernel⟩
def spLBh (K : PySem.W.Frag) : Sp := fun vs H Q _ => ∃ (c b : Addr) (m : Int) (ns : List Int) (ps : List (List Int)), vs = [.ref c, .ref b] ∧ TupsH H c ps ∧ Mir ns ∧ Stp ns ps ∧ (0 ≤ m ∧ m < (ns.length : Int)) ∧ H b = some (.lst [.int m]) ∧
  ∀ (H' : Hp) (R : Addr), Same H H' → SetsH H' R ps m → Q (.ref R) H'
theorem ok_lbh {f : Addr} {fd : FuncData} (F : Fun K "_law_behind" "_law_behind" sLBehind f fd) (B : Bare mg) : FnOk P w K mg base CX0 1 f fd ["_law_steps", "_law_begins"] (spLBh K) := by
  refine F.ok scLBh (fun vs H Q E h => ?_) (fun cdv A outer s H vs Q E hr h => ?_)
  · obtain ⟨c, b, m, ns, ps, rfl, _⟩ := h
    rfl
  · obtain ⟨c, b, m, ns, ps, rfl, hC, M, S, hm, hb, q⟩ := h
    have hu := hu_of hr
    have hu5 := un65 hr
    have two : (2 : Nat) ≤ sizeLine := by decide
    have three : (3 : Nat) ≤ sizeLine := by decide
    refine ⟨_, pss_cons (ps_asg (pe_tup (pa_cons (pe_tupleOf (by rfl) B.tuple (pe_callB cr_sortedI (by rfl) B.sorted (by decide +kernel) (pa_cons (pv 1) pa_nil))) (pa_cons (pe_lst pa_nil) (pa_cons pe_dnewT pa_nil)))) (pg_tup rfl (pgs_cons (pg_name (i := 2) scLBh.nd rfl (Or.inr rfl)) (pgs_cons (pg_name (i := 3) scLBh.nd rfl (Or.inl rfl)) (pgs_cons (pg_name (i := 4) scLBh.nd rfl (Or.inl rfl)) pgs_nil)))))
      (pss_cons (ps_while PassesOwn.never (pt_cmp (pc_dnotin hu (pv 2) (pv 4)))
        (pss_cons (ps_dput hu (pv 4) (pv 2) (pe_callB call_len_seq (by rfl) B.len PySem.boot_len (pa_cons (pv 3) pa_nil)) rfl)
        (pss_cons (ps_expr (pe_bm PySem.F.plainAttrs_list PySem.F.slot_list_append PySem.F.type_list_append mt_append (pv 3) (pa_cons (pv 2) pa_nil)))
        (pss_one (ps_set (i := 2) scLBh.nd rfl (Or.inr rfl) (pe_tupleOf (by rfl) B.tuple (pe_callB (cr_sortedSet rfl) (by rfl) B.sorted (by decide +kernel) (pa_cons (pe_callTy (cr_setI rfl hr.units) (by rfl) B.set (by decide +kernel) (pa_cons
          (pe_lc (own := [("_law_a", 5), ("_law_b", 6)]) (g := gTup K 2 (gCons (gName 5) (gCons (gName 6) gNil))) rfl scLBh.nd (pi_tup (pv 0)) (blkOk_by (N := nLBh) (sc := defScope sLBehind) (by decide +kernel))
            (fun _ _ _ _ _ => pg_tupK rfl rfl (pgs_cons (pg_name (i := 5) scLBh.nd rfl (Or.inl rfl)) (pgs_cons (pg_name (i := 6) scLBh.nd rfl (Or.inl rfl)) pgs_nil)))
            (fun _ _ _ _ _ => pts_one (pt_cmpR (op_inTIK (K := K) rfl hu5) (pv 5) (pv 2) (by rfl)))
            (fun _ _ _ _ _ => pv 6)) pa_nil)) pa_nil))))))))
      (pss_one (ps_ret (pe_tup (pa_cons (pv 3) (pa_cons (pe_dget hu (pv 4) (pv 2) (fun _ _ => rfl)) pa_nil)))))), ?_⟩
    have hP : ∀ q ∈ ps, Pr (ns.length : Int) q := fun q hq => S.pair q hq
    have hpp : ∀ p ∈ ps, ∃ x y : Int, p = [x, y] := fun p hp => by
      obtain ⟨x, y, e, _⟩ := hP p hp
      exact ⟨x, y, e⟩
    have h8 := M.few
    refine ⟨.ref b, rfl, b, [m], rfl, lstNew hb, fun ns' l pm rs nl => ?_⟩
    obtain rfl : ns' = [m] := List.perm_singleton.mp pm
    have s1 := same_upd (o := .lst ([m].map V.int)) nl
    refine .inl ⟨l, _, rfl, lstNew upd_same, fun h0 nh => ?_⟩
    have s2 := same_upd (o := .tup ([m].map V.int)) nh
    refine ⟨Nat.zero_le _, fun L nL => ?_⟩
    have s3 := same_upd (o := .lst []) nL
    refine fun d nd => ⟨three, fun T nT => ?_⟩
    have s4 := same_upd (o := .dT []) nd
    have s5 := same_upd (o := .tup [.ref h0, .ref L, .ref d]) nT
    have e5 : (upd (upd (upd (upd (upd H l (.lst ([m].map V.int))) h0 (.tup ([m].map V.int))) L (.lst [])) d (.dT [])) T (.tup [.ref h0, .ref L, .ref d])) T = some (.tup [.ref h0, .ref L, .ref d]) := upd_same
    have s05 := (((s1.trans s2).trans s3).trans s4).trans s5
    have eh := ((s3.trans s4).trans s5) _ _ (upd_same (H := upd H l (.lst ([m].map V.int))) (a := h0) (o := .tup ([m].map V.int)))
    have eL := (s4.trans s5) _ _ (upd_same (H := upd (upd H l (.lst ([m].map V.int))) h0 (.tup ([m].map V.int))) (a := L) (o := .lst []))
    have ed := s5 _ _ (upd_same (H := upd (upd (upd H l (.lst ([m].map V.int))) h0 (.tup ([m].map V.int))) L (.lst [])) (a := d) (o := .dT []))
    have nLH : H L = none := (s1.trans s2).free nL
    have ndH : H d = none := ((s1.trans s2).trans s3).free nd
    have hdL : d ≠ L := fun z => by rw [z, upd_same] at nd; cases nd
    generalize upd (upd (upd (upd (upd H l (.lst ([m].map V.int))) h0 (.tup ([m].map V.int))) L (.lst [])) d (.dT [])) T (.tup [.ref h0, .ref L, .ref d]) = H5 at e5 s05 eh eL ed ⊢
    refine ⟨T, _, rfl, tupNew e5, rfl, _, _, rfl, _, _, rfl, _, _, rfl, rfl, ?_⟩
    refine ⟨fun k σ H' => ∃ (h : Addr) (hs : List Int) (Xs : List (List Int)) (y5 y6 : Option V), σ = [some (.ref c), some (.ref b), some (.ref h), some (.ref L), some (.ref d), y5, y6] ∧ Same H H' ∧ H' h = some (.tup (hs.map V.int)) ∧ isE (behindOf ps) m Xs.length hs ∧ RowE H' L ps m Xs ∧ DM H' d Xs ∧ Xs.Nodup ∧ (∀ xs ∈ Xs, xs ∈ subs ns.length) ∧ k + Xs.length = 256,
      ⟨256, h0, [m], [], _, _, rfl, s05, eh, ⟨List.pairwise_singleton _ _, fun x => by rw [List.mem_singleton]; exact ⟨fun z => z.symm, fun z => z.symm⟩⟩, ⟨[], eL, rfl, fun _ _ _ z => (by cases z), fun _ _ z => (by cases z)⟩, ⟨[], ed, Nat.le_refl _, fun _ _ => rfl, fun _ _ z => (by cases z)⟩, List.nodup_nil, fun _ z => (by cases z), rfl⟩, ?_⟩
    rintro k σ H6 ⟨h, hs, Xs, y5, y6, rfl, s6, eh6, iE, RE, ⟨kvs, d1, d2, d3, d4⟩, nd6, sub6, hk⟩
    have ehk : H6 h = some (.tup ((keyP hs).map kV)) := by
      rw [eh6]
      unfold keyP
      rw [List.map_map]; rfl
    have hsub : hs ∈ subs ns.length := mem_subs iE.1 fun x hx => lk_inn (behind_inn S) ((iE.2 x).mp hx) hm
    refine ⟨.ref h, rfl, .ref d, rfl, d, _, rfl, DGet.t d1 ehk, _, rfl, ?_⟩
    by_cases hin : hs ∈ Xs
    · obtain ⟨i, hi⟩ := List.getElem?_of_mem hin
      rw [d4 i hs hi]
      refine iteF ?_
      refine ⟨.ref L, rfl, .ref d, rfl, .ref h, rfl, d, .int (i : Int), rfl, (by rw [← d4 i hs hi]; exact DGet.t d1 ehk), two, fun R nR => ?_⟩
      have sR := same_upd (o := .tup [.ref L, .int (i : Int)]) nR
      obtain ⟨as, r1, r2, r3, r4⟩ := RE
      have hil := (List.getElem?_eq_some_iff.mp hi).1
      refine q _ R (s6.trans sR) ⟨L, i, Xs, upd_same, RowE.same ⟨as, r1, r2, r3, r4⟩ sR, hil, by omega, fun x => ?_⟩
      rw [← iE.2 x, (r4 i hs hi).2 x]
    · rw [d3 hs hin]
      have lX : Xs.length < 256 := by
        have nd7 : (hs :: Xs).Nodup := List.nodup_cons.mpr ⟨hin, nd6⟩
        have z := nodup_le (us := subs ns.length) nd7 fun x hx => by
          rcases List.mem_cons.mp hx with e | e
          · rw [e]; exact hsub
          · exact sub6 x e
        rw [subs_len, List.length_cons] at z
        have : 2 ^ ns.length ≤ 2 ^ 8 := Nat.pow_le_pow_right (by decide) h8
        omega
      refine iteT ⟨fun σ H' => ∃ (h : Addr) (hs : List Int) (Xs : List (List Int)) (y5 y6 : Option V), σ = [some (.ref c), some (.ref b), some (.ref h), some (.ref L), some (.ref d), y5, y6] ∧ Same H H' ∧ H' h = some (.tup (hs.map V.int)) ∧ isE (behindOf ps) m Xs.length hs ∧ RowE H' L ps m Xs ∧ DM H' d Xs ∧ Xs.Nodup ∧ (∀ xs ∈ Xs, xs ∈ subs ns.length) ∧ (k - 1) + Xs.length = 256, fun σ' H' z => ⟨k - 1, by omega, z⟩, ?_⟩
      obtain ⟨as, r1, r2, r3, r4⟩ := RE
      refine ⟨.ref L, rfl, L, _, rfl, .inl (lstNew r1), .ref d, rfl, .ref h, rfl, d, _, rfl, DPut.t d1 ehk (few1 (by omega)), ?_⟩
      rw [List.length_map, r2]
      obtain ⟨p1, p2, p3⟩ := dm_put (hs := hs) d2 d3 d4 hin
      have s7 : Same H (upd H6 d (.dT (putK kvs (keyP hs) (.int (Xs.length : Int))))) := fun b' o z => by rw [upd_ne (ne_of_none z ndH)]; exact s6 b' o z
      have ed7 : (upd H6 d (.dT (putK kvs (keyP hs) (.int (Xs.length : Int))))) d = some (.dT (putK kvs (keyP hs) (.int (Xs.length : Int)))) := upd_same
      have keep : ∀ (a : Addr) (vs : List V), H6 a = some (.tup vs) → (upd H6 d (.dT (putK kvs (keyP hs) (.int (Xs.length : Int))))) a = some (.tup vs) := fun a vs e => by
        rw [upd_ne (fun z => by rw [z, d1] at e; cases e)]; exact e
      have eL7 : (upd H6 d (.dT (putK kvs (keyP hs) (.int (Xs.length : Int))))) L = some (.lst (as.map V.ref)) := by rw [upd_ne (Ne.symm hdL)]; exact r1
      have eh7 := keep h _ eh6
      have r37 : ∀ (i : Nat) (a : Addr) (xs : List Int), as[i]? = some a → Xs[i]? = some xs → (upd H6 d (.dT (putK kvs (keyP hs) (.int (Xs.length : Int))))) a = some (.tup (xs.map V.int)) := fun i a xs e1 e2 => keep a _ (r3 i a xs e1 e2)
      generalize upd H6 d (.dT (putK kvs (keyP hs) (.int (Xs.length : Int)))) = H7 at s7 ed7 eL7 eh7 r37 ⊢
      -- row.append(here)
      refine ⟨.ref L, rfl, .inl ⟨rfl, _, lstNew eL7⟩, .ref h, rfl, L, _, _, rfl, rfl, eL7, by rw [List.length_map, r2]; exact few1 (by omega), ?_⟩
      have keep8 : ∀ (a : Addr) (vs : List V), H7 a = some (.tup vs) → (upd H7 L (.lst (as.map V.ref ++ [.ref h]))) a = some (.tup vs) := fun a vs e => by
        rw [upd_ne (fun z => by rw [z, eL7] at e; cases e)]; exact e
      have s8 : Same H (upd H7 L (.lst (as.map V.ref ++ [.ref h]))) := fun b' o z => by rw [upd_ne (ne_of_none z nLH)]; exact s7 b' o z
      have ed8 : (upd H7 L (.lst (as.map V.ref ++ [.ref h]))) d = some (.dT (putK kvs (keyP hs) (.int (Xs.length : Int)))) := by rw [upd_ne hdL]; exact ed7
      have eh8 := keep8 h _ eh7
      have RE8 : RowE (upd H7 L (.lst (as.map V.ref ++ [.ref h]))) L ps m (Xs ++ [hs]) := by
        refine ⟨as ++ [h], by rw [upd_same, List.map_append]; rfl, by rw [List.length_append, List.length_append, r2]; rfl, fun i a xs e1 e2 => ?_, fun i xs e2 => ?_⟩
        · rcases Nat.lt_or_ge i as.length with z | z
          · rw [List.getElem?_append_left z] at e1
            rw [List.getElem?_append_left (by omega)] at e2
            exact keep8 a _ (r37 i a xs e1 e2)
          · rw [List.getElem?_append_right z] at e1
            rw [List.getElem?_append_right (by omega)] at e2
            rw [r2] at e1
            cases e : i - Xs.length with
            | zero => rw [e] at e1 e2; cases e1; cases e2; exact eh8
            | succ k => rw [e] at e1; cases e1
        · rcases Nat.lt_or_ge i Xs.length with z | z
          · rw [List.getElem?_append_left z] at e2
            exact r4 i xs e2
          · rw [List.getElem?_append_right z] at e2
            have ei : i = Xs.length := by
              have := (List.getElem?_eq_some_iff.mp e2).1
              simp at this; omega
            rw [ei, Nat.sub_self] at e2
            cases e2
            rw [ei]; exact iE
      generalize upd H7 L (.lst (as.map V.ref ++ [.ref h])) = H8 at s8 ed8 eh8 RE8 ⊢
      -- the next
      have hC8 := hC.same s8
      refine ⟨.ref c, rfl, c, rfl, ⟨_, hC8.tups.choose_spec.2.1⟩, fun D nD => ?_⟩
      refine lc_pairs (c := fun x y => decide (x ∈ hs)) hC8.tups (by have := S.few; omega) hpp nD (fun x y => rfl) (fun x y hxy H' s' A' B' kk => ?_) (fun x y H' Q' k => ⟨.int y, rfl, k⟩) fun H9 s9 e9 => ?_
      · exact ⟨.int x, rfl, .ref h, rfl, h, x, hs, rfl, rfl, tupNew (s' _ _ eh8), _, rfl, kk H' (Same.refl H')⟩
      have fl : (sel (fun x y => decide (x ∈ hs)) ps).length ≤ 64 := Nat.le_trans (sel_len _ _) S.few
      have mem : ∀ y, y ∈ sel (fun x y => decide (x ∈ hs)) ps ↔ lk (behindOf ps) (Xs.length + 1) m y := fun y => by
        rw [mem_sel hP, lk_add]
        constructor
        · rintro ⟨x, h1, h2⟩
          exact ⟨x, (iE.2 x).mp (of_decide_eq_true h2), lk_one.mpr ((mem_behind hP).mpr h1)⟩
        · rintro ⟨x, h1, h2⟩
          exact ⟨x, (mem_behind hP).mp (lk_one.mp h2), decide_eq_true ((iE.2 x).mpr h1)⟩
      generalize sel (fun x y => decide (x ∈ hs)) ps = zs at e9 fl mem
      refine ⟨D, zs, rfl, lstNew e9, by omega, fun T2 nk nT2 ⟨ls, nd2, ll, mls⟩ => ?_⟩
      have ll8 : nk ≤ 8 := by
        rw [← ll]
        exact Nat.le_trans (few_below nd2 fun x hx => lk_inn (behind_inn S) ((mem x).mp ((mls x).mp hx)) hm) h8
      have sT2 := same_upd (o := SetO w T2 (fun j => decide (j ∈ zs)) nk) nT2
      refine ⟨T2, _, nk, rfl, upd_same, by omega, fun vs l2 rise mv lv nl2 => ?_⟩
      have sl2 := same_upd (o := .lst (vs.map V.int)) nl2
      refine .inl ⟨l2, _, rfl, lstNew upd_same, fun h2 nh2 => ?_⟩
      have sh2 := same_upd (o := .tup (vs.map V.int)) nh2
      have s10 := ((s9.trans sT2).trans sl2).trans sh2
      refine ⟨h2, vs, Xs ++ [hs], _, _, rfl, s8.trans s10, upd_same, ⟨rise, fun x => ?_⟩, RE8.same s10, ⟨_, s10 _ _ ed8, p1, p2, p3⟩, ?_, fun xs hx => ?_, by rw [List.length_append]; simp; omega⟩
      · rw [mv x, List.length_append]
        exact decide_eq_true_iff.trans (mem x)
      · rw [List.nodup_append]
        exact ⟨nd6, (by simp), fun a ha b hb e => hin (by rw [← List.mem_singleton.mp hb, ← e]; exact ha)⟩
      · rcases List.mem_append.mp hx with z | z
        · exact sub6 xs z
        · rw [List.mem_singleton.mp z]; exact hsub
end
end K10
set_option maxHeartbeats 4000000
namespace K10
open PySem PySem.Spec PyProof.Rows L2 RV
theorem RowE.at {H : Hp} {L : Addr} {ps : List (List Int)} {m : Int} {Xs : List (List Int)} (h : RowE H L ps m Xs) {i : Nat} (hi : i < Xs.length) : ∃ (vs : List V) (a : Addr) (xs : List Int), H L = some (.lst vs) ∧ vs.length = Xs.length ∧ atI vs (i : Int) = some (.ref a) ∧ H a = some (.tup (xs.map V.int)) ∧ isE (behindOf ps) m i xs := by
  obtain ⟨as, h1, h2, h3, h4⟩ := h
  have hi' : i < as.length := by omega
  exact ⟨_, as[i], Xs[i], h1, by rw [List.length_map, h2], atI_nat (by rw [List.getElem?_map, List.getElem?_eq_getElem hi']; rfl), h3 i _ _ (List.getElem?_eq_getElem hi') (List.getElem?_eq_getElem hi), h4 i _ (List.getElem?_eq_getElem hi)⟩
theorem any_fB {f : Int → Int → Prop} {p : List Int} : decide (0 < ((p.filter (fB f)).length : Int)) = p.any (fB f) := by
  rw [Bool.eq_iff_iff, decide_eq_true_iff, List.any_eq_true]
  constructor
  · intro h
    obtain ⟨x, hx⟩ := List.exists_mem_of_length_pos (show 0 < (p.filter (fB f)).length by omega)
    obtain ⟨h1, h2⟩ := List.mem_filter.mp hx
    exact ⟨x, h1, h2⟩
  · rintro ⟨x, h1, h2⟩
    have := List.length_pos_of_mem (List.mem_filter.mpr ⟨h1, h2⟩)
    omega
/-- the list of a part's marks, each with where its walks end -/
def OS (H : Hp) (l : Addr) (ps : List (List Int)) (p : List Int) : Prop := ∃ qs : List (Addr × Addr × Int), H l = some (.lst (qs.map fun q => V.ref q.1)) ∧ (qs.map fun q => q.2.2) = p ∧ ∀ q ∈ qs, H q.1 = some (.tup [.int q.2.2, .ref q.2.1]) ∧ SetsH H q.2.1 ps q.2.2
theorem OS.same {H H' : Hp} {l : Addr} {ps : List (List Int)} {p : List Int} (h : OS H l ps p) (s : Same H H') : OS H' l ps p := by
  obtain ⟨qs, h1, h2, h3⟩ := h
  exact ⟨qs, s _ _ h1, h2, fun q hq => ⟨s _ _ (h3 q hq).1, (h3 q hq).2.same s⟩⟩
theorem SetsH.away {H : Hp} {R D : Addr} {ps : List (List Int)} {m : Int} {qs : List (Addr × Addr × Int)} {o' : HO} (h : SetsH H R ps m) (eD : H D = some (.lst (qs.map fun q => V.ref q.1))) (hq : ∀ q ∈ qs, H q.1 = some (.tup [.int q.2.2, .ref q.2.1])) : SetsH (upd H D o') R ps m := by
  obtain ⟨L, f, Xs, h1, ⟨as, r1, r2, r3, r4⟩, h3, h4⟩ := h
  have tp : ∀ (a : Addr) (vs : List V), H a = some (.tup vs) → (upd H D o') a = some (.tup vs) := fun a vs e => by rw [upd_ne (fun z => by rw [z, eD] at e; cases e)]; exact e
  have hL : L ≠ D := fun z => by
    rw [z, eD] at r1
    have e := HO.lst.inj (Option.some.inj r1)
    cases as with
    | nil => cases Xs with
      | nil => cases h3
      | cons x Xs => cases r2
    | cons a as =>
      cases qs with
      | nil => cases e
      | cons q qs =>
        have e0 : q.1 = a := V.ref.inj (List.cons.inj e).1
        obtain ⟨x0, hx0⟩ : ∃ x0, Xs[0]? = some x0 := ⟨_, List.getElem?_eq_getElem (by omega)⟩
        have e1 := r3 0 a x0 rfl hx0
        rw [← e0, hq q List.mem_cons_self] at e1
        have e2 := HO.tup.inj (Option.some.inj e1)
        cases x0 with
        | nil => cases e2
        | cons y x0 =>
          cases x0 with
          | nil => cases e2
          | cons y2 x0 => cases e2
  exact ⟨L, f, Xs, tp _ _ h1, ⟨as, by rw [upd_ne hL]; exact r1, r2, fun i a xs e1 e2 => tp _ _ (r3 i a xs e1 e2), r4⟩, h3, h4⟩
section
variable {P : Program} {w : World} {K : PySem.W.Frag} {mg : Str → Option Value} {base : Heap}
/-! ### _law_at -/
abbrev nLAt : List Str := ["_law_sets", "_law_n", "_law_row", "_law_first", "_law_late"]
theorem scLAt : FnScope nLAt ["_law_sets", "_law_n"] (defScope sLAt) := ⟨rfl, rfl, rfl, by decide +kernel, rfl, by decide +kernel, by decide +kernel⟩
def spLAt : Sp := fun vs H Q _ => ∃ (R : Addr) (n : Nat) (m : Int) (ps : List (List Int)), vs = [.ref R, .int (n : Int)] ∧ SetsH H R ps m ∧ ∀ (a : Addr) (xs : List Int), H a = some (.tup (xs.map V.int)) → isE (behindOf ps) m n xs → Q (.ref a) H
theorem ok_lat {f : Addr} {fd : FuncData} (F : Fun K "_law_at" "_law_at" sLAt f fd) (B : Bare mg) : FnOk P w K mg base CX0 1 f fd ["_law_sets", "_law_n"] spLAt := by
  refine F.ok scLAt (fun vs H Q E h => ?_) (fun cdv A outer s H vs Q E hr h => ?_)
  · obtain ⟨R, n, m, ps, rfl, _⟩ := h
    rfl
  · obtain ⟨R, n, m, ps, rfl, ⟨L, fi, Xs, e1, RE, hf, hl, per⟩, q⟩ := h
    refine ⟨_, pss_cons (ps_asg (pv 0) (pg_tup rfl (pgs_cons (pg_name (i := 2) scLAt.nd rfl (Or.inl rfl)) (pgs_cons (pg_name (i := 3) scLAt.nd rfl (Or.inl rfl)) pgs_nil))))
      (pss_cons (ps_set (i := 4) scLAt.nd rfl (Or.inl rfl) (pe_op op_add (pv 3) (pe_op op_mod (pe_op op_sub (pv 1) (pv 3)) (pe_op op_sub (pe_callB call_len_seq (by rfl) B.len PySem.boot_len (pa_cons (pv 2) pa_nil)) (pv 3)))))
      (pss_one (ps_ret (pe_ifExp (pt_cmpR op_lt (pv 1) (pe_callB call_len_seq (by rfl) B.len PySem.boot_len (pa_cons (pv 2) pa_nil)) (nomark _)) (pe_ix ix_list (pv 2) (pv 1) (fun _ _ => rfl)) (pe_ix ix_list (pv 2) (pv 4) (fun _ _ => rfl)))))), ?_⟩
    obtain ⟨vs0, a0, xs0, k1, k2, _⟩ := RE.at hf
    refine ⟨.ref R, rfl, R, _, rfl, tupNew e1, rfl, _, _, rfl, _, _, rfl, rfl, ?_⟩
    refine ⟨.int (fi : Int), rfl, .int (n : Int), rfl, .int (fi : Int), rfl, _, _, rfl, rfl, .ref L, rfl, L, _, rfl, .inl (lstNew k1), .int (fi : Int), rfl, _, _, rfl, rfl, _, _, rfl, rfl, by show (0 : Int) < _; rw [k2]; omega, _, _, rfl, rfl, ?_⟩
    rw [k2]
    refine ⟨.int (n : Int), rfl, .ref L, rfl, L, _, rfl, .inl (lstNew k1), _, _, rfl, rfl, _, rfl, ?_⟩
    rw [k2]
    refine ite2 (fun hz => ?_) (fun hz => ?_)
    · have hz := of_decide_eq_true hz
      obtain ⟨vs, a, xs, z1, z2, z3, z4, z5⟩ := RE.at (show n < Xs.length by omega)
      exact ⟨.ref L, rfl, .int (n : Int), rfl, L, vs, _, .ref a, rfl, rfl, lstNew z1, z3, q a xs z4 z5⟩
    · have hz : Xs.length ≤ n := by
        have z : ¬ ((n : Int) < (Xs.length : Int)) := fun z => hz (decide_eq_true z)
        omega
      have el : (fi : Int) + ((n : Int) - (fi : Int)) % ((Xs.length : Int) - (fi : Int)) = ((fi + (n - fi) % (Xs.length - fi) : Nat) : Int) := by
        rw [← Int.natCast_sub (by omega), ← Int.natCast_sub (by omega), ← Int.natCast_emod, Int.natCast_add]
      have hlt : fi + (n - fi) % (Xs.length - fi) < Xs.length := by
        have := Nat.mod_lt (n - fi) (show 0 < Xs.length - fi by omega)
        omega
      obtain ⟨vs, a, xs, z1, z2, z3, z4, z5⟩ := RE.at hlt
      refine ⟨.ref L, rfl, _, rfl, L, vs, _, .ref a, rfl, rfl, lstNew z1, by rw [el]; exact z3, q a xs z4 ⟨z5.1, fun x => ?_⟩⟩
      rw [z5.2 x]
      exact (lk_round hf per n (by omega) x).symm
/-! ### _law_own_sets -/
abbrev nOS : List Str := ["_law_steps", "_law_part", "_law_mark"]
theorem scOS : FnScope nOS ["_law_steps", "_law_part"] (defScope sOwnSets) := ⟨rfl, rfl, rfl, by decide +kernel, rfl, by decide +kernel, by decide +kernel⟩
def spOS (K : PySem.W.Frag) : Sp := fun vs H Q _ => ∃ (c a : Addr) (ns p : List Int) (ps : List (List Int)), vs = [.ref c, .ref a] ∧ TupsH H c ps ∧ Mir ns ∧ Stp ns ps ∧ SqT K H a (p.map V.int) ∧ p.length ≤ 8 ∧ (∀ x ∈ p, 0 ≤ x ∧ x < (ns.length : Int)) ∧
  ∀ (H' : Hp) (l : Addr), Same H H' → OS H' l ps p → Q (.ref l) H'
theorem ok_os {f fB : Addr} {fd dB : FuncData} (F : Fun K "_law_own_sets" "_law_own_sets" sOwnSets f fd) (DB : DefAt K mg "_law_behind" sLBehind ["_law_steps", "_law_begins"] fB dB) (B : Bare mg) : FnOk P w K mg base CX0 2 f fd ["_law_steps", "_law_part"] (spOS K) := by
  have GB : FnOk P w K mg base CX0 1 fB dB ["_law_steps", "_law_begins"] (spLBh K) := ok_lbh DB.fn B
  refine F.ok scOS (fun vs H Q E h => ?_) (fun cdv A outer s H vs Q E hr h => ?_)
  · obtain ⟨c, a, ns, p, ps, rfl, _⟩ := h
    rfl
  · obtain ⟨c, a, ns, p, ps, rfl, hC, M, S, hA, lp, inn, q⟩ := h
    have one : (1 : Nat) ≤ sizeLine := by decide
    have two : (2 : Nat) ≤ sizeLine := by decide
    refine ⟨_, pss_one (ps_ret (pe_lc (own := [("_law_mark", 2)]) (g := gName 2) (tt := tYes) rfl scOS.nd (pi_tup (pv 1)) (blkOk_by (N := nOS) (sc := defScope sOwnSets) (by decide +kernel)) (fun _ _ _ _ _ => pg_name (i := 2) scOS.nd rfl (Or.inl rfl)) (fun _ _ _ _ _ => pts_nil)
      (fun _ _ _ _ _ => pe_tup (pa_cons (pv 2) (pa_cons (pe_call GB hr (by rfl) DB.mg DB.fn.kp DB.bi .nil pass0 (pa_cons (pv 0) (pa_cons (pe_lst (pa_cons (pv 2) pa_nil)) pa_nil))) pa_nil))))), ?_⟩
    refine ⟨.ref a, rfl, a, rfl, ⟨_, hA⟩, fun D nD => ?_⟩
    refine lc_tup (K := K) (a := a) (xs := p.map V.int) (fun i H' => Same H H' ∧ ∃ qs : List (Addr × Addr × Int), H' D = some (.lst (qs.map fun q => V.ref q.1)) ∧ (qs.map fun q => q.2.2) = p.take i ∧ ∀ q ∈ qs, H' q.1 = some (.tup [.int q.2.2, .ref q.2.1]) ∧ SetsH H' q.2.1 ps q.2.2)
      ⟨same_upd nD, [], upd_same, rfl, fun _ z => (by cases z)⟩ (fun i H' _ p => sqT_same p.1 hA) (fun i x H1 hx h => ?_) fun H1 h => ?_
    · obtain ⟨m, gm, rfl⟩ := map_at hx
      obtain ⟨s1, qs, eD, eq, hq⟩ := h
      have hm := inn m (List.mem_of_getElem? gm)
      have lq : qs.length ≤ 8 := by rw [← List.length_map (f := fun q : Addr × Addr × Int => q.2.2), eq, List.length_take]; omega
      refine ⟨by simp [wipe, List.set_set], tt_yes ⟨.int m, rfl, .ref c, rfl, .int m, rfl, one, fun b nb => ?_⟩⟩
      have sb := same_upd (o := .lst [.int m]) nb
      refine ⟨c, b, m, ns, ps, rfl, hC.same (s1.trans sb), M, S, hm, upd_same, fun H2 R s2 hR => ⟨two, fun T nT => ?_⟩⟩
      have sT := same_upd (o := .tup [.int m, .ref R]) nT
      have s12 := (sb.trans s2).trans sT
      have eD2 := s12 _ _ eD
      have hq2 : ∀ q ∈ qs, (upd H2 T (.tup [.int m, .ref R])) q.1 = some (.tup [.int q.2.2, .ref q.2.1]) ∧ SetsH (upd H2 T (.tup [.int m, .ref R])) q.2.1 ps q.2.2 := fun q hq' => ⟨s12 _ _ (hq q hq').1, (hq q hq').2.same s12⟩
      have hR2 := hR.same sT
      have eT2 : (upd H2 T (.tup [.int m, .ref R])) T = some (.tup [.int m, .ref R]) := upd_same
      have s02 := s1.trans s12
      generalize upd H2 T (.tup [.int m, .ref R]) = H3 at eD2 hq2 hR2 eT2 s02 ⊢
      have tp : ∀ (a : Addr) (vs : List V) (o' : HO), H3 a = some (.tup vs) → (upd H3 D o') a = some (.tup vs) := fun a vs o' e => by rw [upd_ne (fun z => by rw [z, eD2] at e; cases e)]; exact e
      refine ⟨_, eD2, by rw [List.length_map]; exact few1 (by omega), fun b' o z => ?_, qs ++ [(T, R, m)], by rw [upd_same, List.map_append]; rfl, by rw [List.map_append, eq, List.take_add_one, gm]; rfl, fun q hq' => ?_⟩
      · rw [upd_ne (ne_of_none z nD)]; exact s02 b' o z
      · rcases List.mem_append.mp hq' with z | z
        · exact ⟨tp _ _ _ (hq2 q z).1, (hq2 q z).2.away eD2 fun q h => (hq2 q h).1⟩
        · rw [List.mem_singleton.mp z]
          exact ⟨tp _ _ _ eT2, hR2.away eD2 fun q h => (hq2 q h).1⟩
    · obtain ⟨s1, qs, eD, eq, hq⟩ := h
      rw [List.length_map, List.take_of_length_le (Nat.le_refl _)] at eq
      exact q H1 D s1 ⟨qs, eD, eq, hq⟩
/-! ### _law_is_size -/
abbrev nLIS : List Str := ["_law_sets", "_law_n", "_law_mark", "_law_some"]
theorem scLIS : FnScope nLIS ["_law_sets", "_law_n"] (defScope sLIsSize) := ⟨rfl, rfl, rfl, by decide +kernel, rfl, by decide +kernel, by decide +kernel⟩
def spLIS : Sp := fun vs H Q _ => ∃ (l : Addr) (n : Nat) (p : List Int) (ps : List (List Int)), vs = [.ref l, .int (n : Int)] ∧ OS H l ps p ∧ p.length ≤ 8 ∧ ∀ H', Same H H' → Q (.bl (p.any (fB (lk (behindOf ps) n)))) H'
theorem ok_lis {f fA : Addr} {fd dA : FuncData} (F : Fun K "_law_is_size" "_law_is_size" sLIsSize f fd) (DA : DefAt K mg "_law_at" sLAt ["_law_sets", "_law_n"] fA dA) (B : Bare mg) : FnOk P w K mg base CX0 2 f fd ["_law_sets", "_law_n"] spLIS := by
  have GA : FnOk P w K mg base CX0 1 fA dA ["_law_sets", "_law_n"] spLAt := ok_lat DA.fn B
  refine F.ok scLIS (fun vs H Q E h => ?_) (fun cdv A outer s H vs Q E hr h => ?_)
  · obtain ⟨l, n, p, ps, rfl, _⟩ := h
    rfl
  · obtain ⟨l, n, p, ps, rfl, ⟨qs, e1, eq, hq⟩, lp, q⟩ := h
    have hu5 := un65 hr
    refine ⟨_, pss_one (ps_ret (pe_callB (cr_any rfl) (by rfl) B.any (by decide +kernel) (pa_cons
      (pe_lc (own := [("_law_mark", 2), ("_law_some", 3)]) (g := gTup K 2 (gCons (gName 2) (gCons (gName 3) gNil))) (tt := tYes) rfl scLIS.nd (pi_list (pv 0)) (blkOk_by (N := nLIS) (sc := defScope sLIsSize) (by decide +kernel))
        (fun _ _ _ _ _ => pg_tupK rfl rfl (pgs_cons (pg_name (i := 2) scLIS.nd rfl (Or.inl rfl)) (pgs_cons (pg_name (i := 3) scLIS.nd rfl (Or.inl rfl)) pgs_nil))) (fun _ _ _ _ _ => pts_nil)
        (fun _ _ _ _ _ => pe_cmpR (op_inTIK (K := K) rfl hu5) (pv 2) (pe_call GA hr (by rfl) DA.mg DA.fn.kp DA.bi .nil pass0 (pa_cons (pv 3) (pa_cons (pv 1) pa_nil))) (by rfl))) pa_nil))), ?_⟩
    have lq : qs.length ≤ 8 := by rw [← List.length_map (f := fun q : Addr × Addr × Int => q.2.2), eq]; exact lp
    refine ⟨.ref l, rfl, l, rfl, ⟨_, lstNew e1⟩, fun D nD => ?_⟩
    refine lc_list (K := K) (a := l) (xs := qs.map fun q => V.ref q.1) (fun i H' => Same H H' ∧ H' D = some (.lst (((p.take i).map (fB (lk (behindOf ps) n))).map V.bl))) ⟨same_upd nD, upd_same⟩ (fun i H' _ h => lstNew (h.1 _ _ e1)) (fun i x H1 hx h => ?_) fun H1 h => ?_
    · obtain ⟨k, gk, rfl⟩ := map_at hx
      obtain ⟨s1, eD⟩ := h
      obtain ⟨k1, k2⟩ := hq k (List.mem_of_getElem? gk)
      have hi := (List.getElem?_eq_some_iff.mp gk).1
      have gp : p[i]? = some k.2.2 := by rw [← eq, List.getElem?_map, gk]; rfl
      refine ⟨k.1, _, rfl, tupNew (s1 _ _ k1), rfl, _, _, rfl, _, _, rfl, rfl, rfl, tt_yes ⟨.int k.2.2, rfl, .ref k.2.1, rfl, .int (n : Int), rfl, k.2.1, n, k.2.2, ps, rfl, k2.same s1, fun a xs ea iE => ?_⟩⟩
      refine ⟨a, k.2.2, xs, rfl, rfl, tupNew ea, _, eD, by rw [List.length_map, List.length_map, List.length_take]; exact few1 (by omega), fun b' o z => ?_, ?_⟩
      · rw [upd_ne (ne_of_none z nD)]; exact s1 b' o z
      · rw [upd_same, List.take_add_one, gp, List.map_append, List.map_append, show decide (k.2.2 ∈ xs) = fB (lk (behindOf ps) n) k.2.2 by rw [Bool.eq_iff_iff, decide_eq_true_iff, fB_iff]; exact iE.2 _]
        rfl
    · obtain ⟨s1, eD⟩ := h
      rw [List.length_map, show qs.length = p.length by rw [← eq, List.length_map], List.take_of_length_le (Nat.le_refl _)] at eD
      refine ⟨D, _, rfl, lstNew eD, ?_⟩
      rw [List.any_map]
      exact q H1 s1
/-! ### is_size -/
theorem scIS : FnScope ["rule", "part", "n"] ["rule", "part", "n"] (defScope sIsSize) := ⟨rfl, rfl, rfl, by decide +kernel, rfl, by decide +kernel, by decide +kernel⟩
def spIS (K : PySem.W.Frag) (C : Addr) : Sp := fun vs H Q _ => ∃ (r : Addr) (k n : Nat) (ns p : List Int) (ps : List (List Int)), vs = [.ref r, .int (k : Int), .int (n : Int)] ∧ RuleAt K C H r ns ps ∧ Mir ns ∧ Stp ns ps ∧ (partsOf ps ns.length)[k]? = some p ∧ 1 ≤ n ∧
  ∀ H', Same H H' → Q (.bl (p.any (fB (lk (behindOf ps) n)))) H'
theorem ok_is {f C fP fO fC : Addr} {fd dP dO dC : FuncData} (F : Fun K "is_size" "is_size" sIsSize f fd) (B : Bare mg)
    (DP : DefAt K mg "parts" sParts ["rule"] fP dP) (GP : FnOk P w K mg base CX0 3 fP dP ["rule"] (spParts K C)) (DO : DefAt K mg "ends_of_walks" sOfWalks ["rule", "n"] fO dO) (GO : FnOk P w K mg base CX0 3 fO dO ["rule", "n"] (spOW K C))
    (DC : DefAt K mg "come_back" sComeBack ["ends", "marks"] fC dC) : FnOk P w K mg base CX0 4 f fd ["rule", "part", "n"] (spIS K C) := by
  have GC : FnOk P w K mg base CX0 1 fC dC ["ends", "marks"] (spCB K) := ok_cb DC.fn
  refine F.ok scIS (fun vs H Q E h => ?_) (fun cdv A outer s H vs Q E hr h => ?_)
  · obtain ⟨r, k, n, ns, p, ps, rfl, _⟩ := h
    rfl
  · obtain ⟨r, k, n, ns, p, ps, rfl, R, M, S, gk, n1, q⟩ := h
    have r1 := hr.mono (show 1 ≤ 3 by decide)
    refine ⟨_, pss_one (ps_ret (pe_and (pe_cmpR op_ge (pv 2) pe_int (nomark _)) (pe_one (pe_cmpR op_gt (pe_callB call_len_seq (by rfl) B.len PySem.boot_len (pa_cons (pe_call GC r1 (by rfl) DC.mg DC.fn.kp DC.bi .nil pass0 (pa_cons (pe_call GO hr (by rfl) DO.mg DO.fn.kp DO.bi .nil pass0 (pa_cons (pv 0) (pa_cons (pv 2) pa_nil))) (pa_cons (pe_ix ix_tup (pe_call GP hr (by rfl) DP.mg DP.fn.kp DP.bi .nil pass0 (pa_cons (pv 0) pa_nil)) (pv 1) (fun _ _ => rfl)) pa_nil))) pa_nil)) pe_int (nomark _))))), ?_⟩
    have h8 := M.few
    have hpm := List.mem_of_getElem? gk
    have lp : p.length ≤ 8 := by
      obtain ⟨m, _, _, e⟩ := mem_parts.mp hpm
      rw [e]; exact Nat.le_trans (lot_len _ _ _) h8
    have inn : ∀ x ∈ p, 0 ≤ x ∧ x < (ns.length : Int) := fun x hx => (mem_lot.mp (by rw [part_lot hpm hx]; exact hx : x ∈ lotOf ps ns.length x)).1
    refine ⟨.int (n : Int), rfl, _, _, rfl, rfl, _, rfl, ?_⟩
    rw [decide_eq_true (show (1 : Int) ≤ (n : Int) by omega)]
    refine iteT ⟨.ref r, rfl, .int (n : Int), rfl, r, n, ns, ps, rfl, R, S, h8, fun H1 t s1 hT => ?_⟩
    refine ⟨.ref r, rfl, r, ns, ps, rfl, R.same s1, M, S, fun H2 c s2 nc hc => ?_⟩
    obtain ⟨ks, k1, k2, k3⟩ := hc
    have gk' : (ks.map (·.2))[k]? = some p := by rw [k1]; exact gk
    obtain ⟨kk, gkk, ekk⟩ := map_at gk'
    have hp : SqT K H2 kk.1 (p.map V.int) := by
      have z := (k3 kk (List.mem_of_getElem? gkk)).sq (K := K)
      rw [← ekk] at z; exact z
    refine ⟨.int (k : Int), rfl, c, _, _, .ref kk.1, rfl, rfl, tupNew k2, atI_nat (by rw [List.getElem?_map, gkk]; rfl), ?_⟩
    refine ⟨t, kk.1, ns.length, _, p, rfl, hT.same s2, hp, lp, inn, fun H3 l s3 e3 => ?_⟩
    refine ⟨l, _, rfl, .inl (lstNew e3), _, _, rfl, rfl, ?_⟩
    rw [List.length_map]
    show Q (.bl (decide (0 < ((p.filter (fB (lk (behindOf ps) n))).length : Int)))) H3
    rw [any_fB]
    exact q H3 ((s1.trans s2).trans s3)
end
end K10
set_option maxHeartbeats 4000000
namespace K10
open PySem PySem.Spec PyProof.Rows L2 RV
/-- whether the part has a ring of so many places -/
noncomputable def isZ (ps : List (List Int)) (p : List Int) (z : Int) : Bool := p.any (fB (lk (behindOf ps) z.toNat))
theorem isZ_nat (ps : List (List Int)) (p : List Int) (n : Nat) : isZ ps p (n : Int) = p.any (fB (lk (behindOf ps) n)) := by unfold isZ; rw [Int.toNat_natCast]
section
variable {P : Program} {w : World} {K : PySem.W.Frag} {mg : Str → Option Value} {base : Heap}
/-! ### sizes -/
abbrev nSz : List Str := ["rule", "part", "most", "marks", "step", "ends", "found", "n"]
theorem scSz : FnScope nSz ["rule", "part", "most"] (defScope sSizes) := ⟨rfl, rfl, rfl, by decide +kernel, rfl, by decide +kernel, by decide +kernel⟩
def spSz (K : PySem.W.Frag) (C : Addr) : Sp := fun vs H Q _ => ∃ (r : Addr) (k mo : Nat) (ns p : List Int) (ps : List (List Int)), vs = [.ref r, .int (k : Int), .int (mo : Int)] ∧ RuleAt K C H r ns ps ∧ Mir ns ∧ Stp ns ps ∧ (partsOf ps ns.length)[k]? = some p ∧ mo ≤ 900 ∧
  ∀ (H' : Hp) (t : Addr), Same H H' → SqT K H' t (((fromN 1 mo).filter (isZ ps p)).map V.int) → Q (.ref t) H'
theorem ok_sz {f C fP fO fS fE fC : Addr} {fd dP dO dS dE dC : FuncData} (F : Fun K "sizes" "sizes" sSizes f fd) (B : Bare mg)
    (DP : DefAt K mg "parts" sParts ["rule"] fP dP) (GP : FnOk P w K mg base CX0 3 fP dP ["rule"] (spParts K C)) (DO : DefAt K mg "ends_at_once" sAtOnce ["rule"] fO dO) (GO : FnOk P w K mg base CX0 2 fO dO ["rule"] (spTab K C 0))
    (DS : DefAt K mg "ends_of_steps" sOfSteps ["rule"] fS dS) (GS : FnOk P w K mg base CX0 2 fS dS ["rule"] (spTab K C 1)) (DE : DefAt K mg "ends_behind" sEndsBehind ["first", "second"] fE dE)
    (DC : DefAt K mg "come_back" sComeBack ["ends", "marks"] fC dC) : FnOk P w K mg base CX0 4 f fd ["rule", "part", "most"] (spSz K C) := by
  have GC : FnOk P w K mg base CX0 1 fC dC ["ends", "marks"] (spCB K) := ok_cb DC.fn
  have GE : FnOk P w K mg base CX0 1 fE dE ["first", "second"] (spEB K) := ok_eb DE.fn B
  refine F.ok scSz (fun vs H Q E h => ?_) (fun cdv A outer s H vs Q E hr h => ?_)
  · obtain ⟨r, k, mo, ns, p, ps, rfl, _⟩ := h
    rfl
  · obtain ⟨r, k, mo, ns, p, ps, rfl, R, M, S, gk, hmo, q⟩ := h
    have r1 := hr.mono (show 1 ≤ 3 by decide)
    have r2 := hr.mono (show 2 ≤ 3 by decide)
    refine ⟨_, pss_cons (ps_set (i := 3) scSz.nd rfl (Or.inl rfl) (pe_ix ix_tup (pe_call GP hr (by rfl) DP.mg DP.fn.kp DP.bi .nil pass0 (pa_cons (pv 0) pa_nil)) (pv 1) (fun _ _ => rfl)))
      (pss_cons (ps_set (i := 4) scSz.nd rfl (Or.inl rfl) (pe_call GS r2 (by rfl) DS.mg DS.fn.kp DS.bi .nil pass0 (pa_cons (pv 0) pa_nil)))
      (pss_cons (ps_set (i := 5) scSz.nd rfl (Or.inl rfl) (pe_call GO r2 (by rfl) DO.mg DO.fn.kp DO.bi .nil pass0 (pa_cons (pv 0) pa_nil)))
      (pss_cons (ps_set (i := 6) scSz.nd rfl (Or.inl rfl) (pe_lst pa_nil))
      (pss_cons (ps_for PassesOwn.never rfl (pi_range2 (by rfl) B.range (pa_cons pe_int (pa_cons (pe_op op_add (pv 2) pe_int) pa_nil))) (pg_name (i := 7) scSz.nd rfl (Or.inl rfl))
        (pss_cons (ps_set (i := 5) scSz.nd rfl (Or.inl rfl) (pe_call GE r1 (by rfl) DE.mg DE.fn.kp DE.bi .nil pass0 (pa_cons (pv 5) (pa_cons (pv 4) pa_nil))))
        (pss_one (ps_if (pt_cmpR op_gt (pe_callB call_len_seq (by rfl) B.len PySem.boot_len (pa_cons (pe_call GC r1 (by rfl) DC.mg DC.fn.kp DC.bi .nil pass0 (pa_cons (pv 5) (pa_cons (pv 3) pa_nil))) pa_nil)) pe_int (nomark _))
          (pss_one (ps_expr (pe_bm PySem.F.plainAttrs_list PySem.F.slot_list_append PySem.F.type_list_append mt_append (pv 6) (pa_cons (pv 7) pa_nil)))) pss_nil))))
      (pss_one (ps_ret (pe_tupleOf (by rfl) B.tuple (pv 6)))))))), ?_⟩
    have h8 := M.few
    have hpm := List.mem_of_getElem? gk
    have lp : p.length ≤ 8 := by
      obtain ⟨m, _, _, e⟩ := mem_parts.mp hpm
      rw [e]; exact Nat.le_trans (lot_len _ _ _) h8
    have inn : ∀ x ∈ p, 0 ≤ x ∧ x < (ns.length : Int) := fun x hx => (mem_lot.mp (by rw [part_lot hpm hx]; exact hx : x ∈ lotOf ps ns.length x)).1
    refine ⟨.ref r, rfl, r, ns, ps, rfl, R, M, S, fun H1 c s1 nc hc => ?_⟩
    obtain ⟨ks, k1, k2, k3⟩ := hc
    have gk' : (ks.map (·.2))[k]? = some p := by rw [k1]; exact gk
    obtain ⟨kk, gkk, ekk⟩ := map_at gk'
    have hp : SqT K H1 kk.1 (p.map V.int) := by
      have z := (k3 kk (List.mem_of_getElem? gkk)).sq (K := K)
      rw [← ekk] at z; exact z
    refine ⟨.int (k : Int), rfl, c, _, _, .ref kk.1, rfl, rfl, tupNew k2, atI_nat (by rw [List.getElem?_map, gkk]; rfl), ?_⟩
    refine ⟨.ref r, rfl, r, ns, ps, rfl, R.same s1, S, h8, fun H2 t2 s2 T2 => ?_⟩
    refine ⟨.ref r, rfl, r, ns, ps, rfl, R.same (s1.trans s2), S, h8, fun H3 t3 s3 T3 => ⟨Nat.zero_le _, fun Fo nF => ?_⟩⟩
    have sF := same_upd (o := .lst []) nF
    have s04 := ((s1.trans s2).trans s3).trans sF
    have nFH : H Fo = none := ((s1.trans s2).trans s3).free nF
    have nF1 : H1 Fo = none := (s2.trans s3).free nF
    have s14 := (s2.trans s3).trans sF
    refine ⟨.int (mo : Int), rfl, _, 1, rfl, rfl, 1, _, rfl, ⟨by decide, by decide, by omega, by omega⟩, ?_⟩
    rw [show ((mo : Int) + 1 - 1).toNat = mo by omega]
    refine for_range (lo := 1) (n := mo) (fun i σ H' => ∃ (e : Addr) (y7 : Option V), σ = [some (.ref r), some (.int (k : Int)), some (.int (mo : Int)), some (.ref kk.1), some (.ref t2), some (.ref e), some (.ref Fo), y7] ∧ Same H1 H' ∧ Tab K H' t2 ns.length (lk (behindOf ps) 1) ∧ Tab K H' e ns.length (lk (behindOf ps) i) ∧ H' Fo = some (.lst ((((fromN 1 mo).take i).filter (isZ ps p)).map V.int)))
      ⟨t3, _, rfl, s14, T2.same (s3.trans sF), T3.same sF, upd_same⟩ (fun i σ H5 hi h => ?_) (fun σ H5 h => ?_)
    · obtain ⟨e, y7, rfl, s5, T5, E5, eF⟩ := h
      have gi : (fromN 1 mo)[i]? = some ((i + 1 : Nat) : Int) := by rw [fromN_get hi]; congr 1; omega
      rw [show (1 : Int) + (i : Int) = ((i + 1 : Nat) : Int) by omega]
      refine ⟨.ref e, rfl, .ref t2, rfl, e, t2, ns.length, _, _, rfl, h8, E5, T5, fun H6 t6 s6 T6 => ?_⟩
      have E6 : Tab K H6 t6 ns.length (lk (behindOf ps) (i + 1)) := T6.congr fun a x _ _ => lk_add.symm
      refine ⟨.ref t6, rfl, .ref kk.1, rfl, t6, kk.1, ns.length, _, p, rfl, E6, sqT_same (s5.trans s6) hp, lp, inn, fun H7 l s7 e7 => ?_⟩
      refine ⟨l, _, rfl, .inl (lstNew e7), _, _, rfl, rfl, _, rfl, ?_⟩
      rw [List.length_map, any_fB, ← isZ_nat]
      have s57 := (s5.trans s6).trans s7
      have eF7 := (s6.trans s7) _ _ eF
      have nxt := take_filt (c := isZ ps p) gi
      have lF : ((((fromN 1 mo).take i).filter (isZ ps p)).map V.int).length ≤ 900 := by
        rw [List.length_map]
        exact Nat.le_trans (List.length_filter_le _ _) (by rw [List.length_take]; omega)
      by_cases c : isZ ps p ((i + 1 : Nat) : Int) = true
      · rw [c]
        rw [if_pos c] at nxt
        refine iteT ⟨.ref Fo, rfl, .inl ⟨rfl, _, lstNew eF7⟩, .int _, rfl, Fo, _, _, rfl, rfl, eF7, few1 (by omega), ?_⟩
        have notSet : ∀ {t : Addr} {f : Int → Int → Prop}, Tab K H7 t ns.length f → Tab K (upd H7 Fo (.lst ((((fromN 1 mo).take i).filter (isZ ps p)).map V.int ++ [.int ((i + 1 : Nat) : Int)]))) t ns.length f := fun {t f} h => by
          obtain ⟨as, h1, h2, h3⟩ := h
          exact ⟨as, sqT_lst eF7 h1, h2, fun j a ha => (h3 j a ha).imp fun xs u => ⟨sqT_lst eF7 u.1, u.2⟩⟩
        refine ⟨t6, _, rfl, fun b' o z => ?_, notSet (T5.same (s6.trans s7)), notSet (E6.same s7), ?_⟩
        · rw [upd_ne (ne_of_none z nF1)]; exact s57 b' o z
        · rw [upd_same, nxt, List.map_append]; rfl
      · rw [show isZ ps p ((i + 1 : Nat) : Int) = false by simpa using c]
        rw [if_neg c, List.append_nil] at nxt
        exact iteF ⟨t6, _, rfl, s57, T5.same (s6.trans s7), E6.same s7, by rw [nxt]; exact eF7⟩
    · obtain ⟨e, y7, rfl, s5, T5, E5, eF⟩ := h
      rw [show (fromN 1 mo).take mo = fromN 1 mo from List.take_of_length_le (by rw [fromN_len]; exact Nat.le_refl _)] at eF
      refine ⟨.ref Fo, rfl, .inl ⟨Fo, _, rfl, lstNew eF, fun t nt => ?_⟩⟩
      exact q _ t ((s1.trans s5).trans (same_upd nt)) (tupNew upd_same)
end
end K10
set_option maxHeartbeats 4000000
namespace K10
open PySem PySem.Spec PyProof.Rows L2 RV
theorem ref_ne {α : Type} {f : α → Addr} {qs : List α} {H : Hp} {a p : Addr} {t : Nat} (h : H a = some (.lst (qs.map fun q => V.ref (f q)))) (hp : PailAt H p t) : a ≠ p := by
  rintro rfl
  obtain ⟨x, y, e, _⟩ := hp
  rw [e] at h
  have z := HO.lst.inj (Option.some.inj h)
  cases qs with
  | nil => cases z
  | cons q qs => cases z
theorem SetsH.pail {H H' : Hp} {p R : Addr} {t : Nat} {ps : List (List Int)} {m : Int} (h : SetsH H R ps m) (hp : PailAt H p t) (b : But p H H') : SetsH H' R ps m := by
  obtain ⟨L, f, Xs, h1, ⟨as, r1, r2, r3, r4⟩, h3, h4⟩ := h
  exact ⟨L, f, Xs, tup_pail h1 hp b, ⟨as, b _ _ r1 (ref_ne (f := id) r1 hp), r2, fun i a xs e1 e2 => tup_pail (r3 i a xs e1 e2) hp b, r4⟩, h3, h4⟩
theorem OS.pail {H H' : Hp} {p l : Addr} {t : Nat} {ps : List (List Int)} {pt : List Int} (h : OS H l ps pt) (hp : PailAt H p t) (b : But p H H') : OS H' l ps pt := by
  obtain ⟨qs, h1, h2, h3⟩ := h
  exact ⟨qs, b _ _ h1 (ref_ne h1 hp), h2, fun q hq => ⟨tup_pail (h3 q hq).1 hp b, (h3 q hq).2.pail hp b⟩⟩
section
variable {P : Program} {w : World} {K : PySem.W.Frag} {mg : Str → Option Value} {base : Heap}
/-! ### _law_places -/
abbrev nPl : List Str := ["_law_pot", "_law_some", "_law_far", "_law_k"]
theorem scPl : FnScope nPl ["_law_pot"] (defScope sPlaces) := ⟨rfl, rfl, rfl, by decide +kernel, rfl, by decide +kernel, by decide +kernel⟩
def spPl (K : PySem.W.Frag) : Sp := fun vs H Q _ => ∃ (p : Addr) (t : Nat), vs = [.ref p] ∧ PailAt H p t ∧ t ≤ 3500 ∧ ∀ (H' : Hp) (t' : Nat) (l : Addr) (z : Nat), PailAt H' p t' → t' ≤ t + 5 → But p H H' → l ≠ p → H' l = some (.lst [.int ((z + 1 : Nat) : Int), .int ((z + 2 : Nat) : Int)]) → Q (.ref l) H'
theorem ok_pl {f fD fO : Addr} {fd dD dO : FuncData} (F : Fun K "_law_places" "_law_places" sPlaces f fd) (DD : DefAt K mg "_law_take" sDraw ["_law_pot", "_law_many"] fD dD) (DO : DefAt K mg "_law_of" sOf ["_law_pot", "_law_some"] fO dO) (B : Bare mg) : FnOk P w K mg base CX0 3 f fd ["_law_pot"] (spPl K) := by
  have GD : FnOk P w K mg base CX0 1 fD dD ["_law_pot", "_law_many"] spDraw := ok_draw DD.fn
  have GO : FnOk P w K mg base CX0 2 fO dO ["_law_pot", "_law_some"] (spOf K) := ok_of DO.fn DD B
  refine F.ok scPl (fun vs H Q E h => ?_) (fun cdv A outer s H vs Q E hr h => ?_)
  · obtain ⟨p, t, rfl, _⟩ := h
    rfl
  · obtain ⟨p, t, rfl, hp, ht, q⟩ := h
    have r1 := hr.mono (show 1 ≤ 2 by decide)
    have four : (4 : Nat) ≤ sizeLine := by decide
    refine ⟨_, pss_cons (ps_set (i := 1) scPl.nd rfl (Or.inl rfl) (pe_lst (pa_cons (pe_call GD r1 (by rfl) DD.mg DD.fn.kp DD.bi .nil pass0 (pa_cons (pv 0) (pa_cons pe_int pa_nil))) (pa_cons (pe_call GD r1 (by rfl) DD.mg DD.fn.kp DD.bi .nil pass0 (pa_cons (pv 0) (pa_cons (pe_op op_pow pe_int pe_int) pa_nil)))
          (pa_cons (pe_call GD r1 (by rfl) DD.mg DD.fn.kp DD.bi .nil pass0 (pa_cons (pv 0) (pa_cons (pe_op op_sub (pe_op op_pow pe_int pe_int) pe_int) pa_nil))) (pa_cons (pe_op op_add (pe_op op_pow pe_int pe_int) (pe_call GD r1 (by rfl) DD.mg DD.fn.kp DD.bi .nil pass0 (pa_cons (pv 0) (pa_cons pe_int pa_nil)))) pa_nil))))))
      (pss_cons (ps_set (i := 2) scPl.nd rfl (Or.inr rfl) (pe_call GO hr (by rfl) DO.mg DO.fn.kp DO.bi .nil pass0 (pa_cons (pv 0) (pa_cons (pv 1) pa_nil))))
      (pss_one (ps_ret (pe_lc (own := [("_law_k", 3)]) (g := gName 3) (tt := tYes) rfl scPl.nd (pi_range2 (by rfl) B.range (pa_cons pe_int (pa_cons pe_int pa_nil))) (blkOk_by (N := nPl) (sc := defScope sPlaces) (by decide +kernel)) (fun _ _ _ _ _ => pg_name (i := 3) scPl.nd rfl (Or.inl rfl)) (fun _ _ _ _ _ => pts_nil)
        (fun _ _ _ _ _ => pe_op op_add (pv 2) (pv 3)))))), ?_⟩
    refine ⟨.ref p, rfl, p, t, 100, rfl, hp, by omega, by decide, by decide, fun a1 t1 H1 a10 a11 ht1 hp1 b1 => ?_⟩
    refine ⟨.ref p, rfl, 10, 6, rfl, rfl, ⟨by decide, by decide, by decide⟩, p, t1, _, rfl, hp1, by omega, by decide, by decide, fun a2 t2 H2 a20 a21 ht2 hp2 b2 => ?_⟩
    refine ⟨.ref p, rfl, 10, 30, rfl, rfl, ⟨by decide, by decide, by decide⟩, _, 9, rfl, rfl, p, t2, _, rfl, hp2, by omega, by decide +kernel, by decide +kernel, fun a3 t3 H3 a30 a31 ht3 hp3 b3 => ?_⟩
    refine ⟨10, 29, rfl, rfl, ⟨by decide, by decide, by decide⟩, .ref p, rfl, p, t3, 9, rfl, hp3, by omega, by decide, by decide, fun a4 t4 H4 a40 a41 ht4 hp4 b4 => ⟨_, _, rfl, rfl, four, fun l nl => ?_⟩⟩
    have hlp : l ≠ p := pail_ne hp4 nl
    have sl := same_upd (o := .lst [.int a1, .int a2, .int a3, .int (10 ^ (29 : Int).toNat + a4)]) nl
    have el : (upd H4 l (.lst [.int a1, .int a2, .int a3, .int (10 ^ (29 : Int).toNat + a4)])) l = some (.lst [.int a1, .int a2, .int a3, .int (10 ^ (29 : Int).toNat + a4)]) := upd_same
    have hp5 := pail_same hp4 sl
    have b5 := (((b1.trans b2).trans b3).trans b4).trans (But.of (p := p) sl)
    have nn : ∀ (j : Nat) (v : V), [V.int a1, V.int a2, V.int a3, V.int (10 ^ (29 : Int).toNat + a4)][j]? = some v → ∃ z : Nat, v = .int (z : Int) := fun j v hv => by
      have hp29 : (0 : Int) ≤ 10 ^ (29 : Int).toNat := by decide +kernel
      have hj : j < 4 := (List.getElem?_eq_some_iff.mp hv).1
      rcases (by omega : j = 0 ∨ j = 1 ∨ j = 2 ∨ j = 3) with e | e | e | e <;> subst e <;> cases hv
      · exact ⟨a1.toNat, by rw [Int.toNat_of_nonneg a10]⟩
      · exact ⟨a2.toNat, by rw [Int.toNat_of_nonneg a20]⟩
      · exact ⟨a3.toNat, by rw [Int.toNat_of_nonneg a30]⟩
      · exact ⟨(10 ^ (29 : Int).toNat + a4).toNat, by rw [Int.toNat_of_nonneg (by omega)]⟩
    have l4 : [V.int a1, V.int a2, V.int a3, V.int (10 ^ (29 : Int).toNat + a4)].length = 4 := rfl
    generalize [V.int a1, V.int a2, V.int a3, V.int (10 ^ (29 : Int).toNat + a4)] = xs at sl el hp5 b5 nn l4 ⊢
    refine ⟨.ref p, rfl, .ref l, rfl, p, l, t4, xs, rfl, hp5, by omega, lstNew el, hlp, by omega, by omega, fun j v t6 H6 hv ht6 hp6 b6 => ?_⟩
    obtain ⟨z, rfl⟩ := nn j v hv
    have b06 := b5.trans b6
    refine ⟨1, 3, rfl, ⟨by decide, by decide, by decide, by decide⟩, fun D nD => ?_⟩
    have hDp := pail_ne hp6 nD
    refine lc_range (lo := 1) (n := 2) (fun i H' => Same H6 H' ∧ H' D = some (.lst ([V.int ((z + 1 : Nat) : Int), .int ((z + 2 : Nat) : Int)].take i))) ⟨same_upd nD, upd_same⟩ (fun i H7 hi h => ?_) fun H7 h => ?_
    · obtain ⟨s7, e7⟩ := h
      refine ⟨by simp [wipe, List.set_set], tt_yes ⟨.int (z : Int), rfl, .int (1 + (i : Int)), rfl, _, _, rfl, rfl, _, e7, by rw [List.length_take]; exact few1 (by simp; omega), fun b' o zz => ?_, ?_⟩⟩
      · rw [upd_ne (ne_of_none zz nD)]; exact s7 b' o zz
      · rw [upd_same]
        rcases (by omega : i = 0 ∨ i = 1) with e | e <;> subst e
        · show some (HO.lst [V.int ((z : Int) + (1 + 0))]) = some (HO.lst [V.int ((z + 1 : Nat) : Int)])
          rw [show (z : Int) + (1 + 0) = ((z + 1 : Nat) : Int) by omega]
        · show some (HO.lst [V.int ((z + 1 : Nat) : Int), V.int ((z : Int) + (1 + 1))]) = some (HO.lst [V.int ((z + 1 : Nat) : Int), V.int ((z + 2 : Nat) : Int)])
          rw [show (z : Int) + (1 + 1) = ((z + 2 : Nat) : Int) by omega]
    · obtain ⟨s7, e7⟩ := h
      exact q H7 t6 D z (pail_same hp6 s7) (by omega) (b06.trans (But.of s7)) hDp e7
/-! ### _law_right -/
abbrev nRight : List Str := ["_law_pot", "_law_own", "_law_rule_here", "_law_number", "_law_part", "_law_sets", "_law_n", "_law_found", "_law_most", "_law_due"]
theorem scRight : FnScope nRight ["_law_pot", "_law_own"] (defScope sRight) := ⟨rfl, rfl, rfl, by decide +kernel, rfl, by decide +kernel, by decide +kernel⟩
def spRight (K : PySem.W.Frag) : Sp := fun vs H Q _ => ∃ (p R : Addr) (t : Nat) (ns : List Int) (ps : List (List Int)), vs = [.ref p, .ref R] ∧ PailAt H p t ∧ t ≤ 3000 ∧ OwnH K H R ns ps ∧
  ∀ (H' : Hp) (t' : Nat), PailAt H' p t' → t' ≤ t + 60 → But p H H' → Q (.bl true) H'
theorem ok_right {f C fI fM fL fC fS fA fV fB fX fZ fN fO fD : Addr} {fd dI dM dL dC dS dA dV dB dX dZ dN dO dD : FuncData} (F : Fun K "_law_right" "_law_right" sRight f fd) (T : Txt K mg C) (B : Bare mg)
    (Mm : Mk K C fI) (bI : Binds K dI ["self", "mirrors", "steps"] []) (GI : FnOk P w K mg base CX0 6 fI dI ["self", "mirrors", "steps"] (spInit K C))
    (DM : DefAt K mg "_law_made" sMade ["_law_own"] fM dM) (DL : DefAt K mg "_law_parts" sLParts ["_law_own"] fL dL) (DC : DefAt K mg "_law_come_to" sCome ["_law_steps", "_law_mark"] fC dC)
    (DS : DefAt K mg "_law_own_sets" sOwnSets ["_law_steps", "_law_part"] fS dS) (DV : DefAt K mg "_law_is_size" sLIsSize ["_law_sets", "_law_n"] fV dV) (DA : DefAt K mg "_law_at" sLAt ["_law_sets", "_law_n"] fA dA) (DB : DefAt K mg "_law_behind" sLBehind ["_law_steps", "_law_begins"] fB dB)
    (DX : DefAt K mg "is_size" sIsSize ["rule", "part", "n"] fX dX) (GX : FnOk P w K mg base CX0 4 fX dX ["rule", "part", "n"] (spIS K C)) (DZ : DefAt K mg "sizes" sSizes ["rule", "part", "most"] fZ dZ) (GZ : FnOk P w K mg base CX0 4 fZ dZ ["rule", "part", "most"] (spSz K C))
    (DN : DefAt K mg "_law_places" sPlaces ["_law_pot"] fN dN) (DO : DefAt K mg "_law_of" sOf ["_law_pot", "_law_some"] fO dO) (DD : DefAt K mg "_law_take" sDraw ["_law_pot", "_law_many"] fD dD) : FnG P w K mg base CX0 9 f fd ["_law_pot", "_law_own"] (spRight K) := by
  have GM : FnOk P w K mg base CX0 8 fM dM ["_law_own"] (spMade K C) := ok_made DM.fn T Mm bI GI B
  have GL : FnOk P w K mg base CX0 2 fL dL ["_law_own"] (spLParts K) := ok_lparts DL.fn DC B
  have GS : FnOk P w K mg base CX0 2 fS dS ["_law_steps", "_law_part"] (spOS K) := ok_os DS.fn DB B
  have GV : FnOk P w K mg base CX0 2 fV dV ["_law_sets", "_law_n"] spLIS := ok_lis DV.fn DA B
  have GN : FnOk P w K mg base CX0 3 fN dN ["_law_pot"] (spPl K) := ok_pl DN.fn DD DO B
  have GD : FnOk P w K mg base CX0 1 fD dD ["_law_pot", "_law_many"] spDraw := ok_draw DD.fn
  have GO : FnOk P w K mg base CX0 2 fO dO ["_law_pot", "_law_some"] (spOf K) := ok_of DO.fn DD B
  refine okG F scRight (fun vs H Q E h => ?_) (fun cdv A outer s H vs Q E gd hr h => ?_)
  · obtain ⟨p, R, t, ns, ps, rfl, _⟩ := h
    rfl
  · obtain ⟨p, R, t, ns, ps, rfl, hp, ht, O, q⟩ := h
    have hu := un65 hr
    have r1 := hr.mono (show 1 ≤ 8 by decide)
    have r2 := hr.mono (show 2 ≤ 8 by decide)
    have r3 := hr.mono (show 3 ≤ 8 by decide)
    have r4 := hr.mono (show 4 ≤ 8 by decide)
    have seven : (7 : Nat) ≤ sizeLine := by decide
    refine ⟨_, pss_cons (ps_set (i := 2) scRight.nd rfl (Or.inl rfl) (pe_call GM hr (by rfl) DM.mg DM.fn.kp DM.bi .nil pass0 (pa_cons (pv 1) pa_nil)))
      (pss_cons (ps_for PassesOwn.never rfl (pi_enum (by rfl) B.enumerate (pa_cons (pe_call GL r2 (by rfl) DL.mg DL.fn.kp DL.bi .nil pass0 (pa_cons (pv 1) pa_nil)) pa_nil)) (pg_tup rfl (pgs_cons (pg_name (i := 3) scRight.nd rfl (Or.inl rfl)) (pgs_cons (pg_name (i := 4) scRight.nd rfl (Or.inl rfl)) pgs_nil)))
        (pss_cons (ps_set (i := 5) scRight.nd rfl (Or.inr rfl) (pe_call GS r2 (by rfl) DS.mg DS.fn.kp DS.bi .nil pass0 (pa_cons (pe_ix ix_tup (pv 1) pe_int (fun _ _ => rfl)) (pa_cons (pv 4) pa_nil))))
        (pss_cons (ps_for PassesOwn.never rfl (pi_list (pe_op op_cat (pe_listRg rfl (by rfl) B.list (prg_2 (by rfl) B.range pe_int pe_int)) (pe_call GN r3 (by rfl) DN.mg DN.fn.kp DN.bi .nil pass0 (pa_cons (pv 0) pa_nil)))) (pg_name (i := 6) scRight.nd rfl (Or.inl rfl))
          (pss_cons (ps_set (i := 7) scRight.nd rfl (Or.inl rfl) (pe_call GX r4 (by rfl) DX.mg DX.fn.kp DX.bi .nil pass0 (pa_cons (pv 2) (pa_cons (pv 3) (pa_cons (pv 6) pa_nil)))))
          (pss_one (ps_if (PW.pt (pw_or (pt_not (pt_val (pe_callB call_isi (by rfl) B.isinstance (by decide +kernel) (pa_cons (pv 7) (pa_cons (pe_bltn (v := .ty "bool") (by rfl) B.bool (by decide +kernel) rfl) pa_nil)))))
              (pw_or1 (pt_cmpR op_ne (pv 7) (pe_call GV r2 (by rfl) DV.mg DV.fn.kp DV.bi .nil pass0 (pa_cons (pv 5) (pa_cons (pv 6) pa_nil))) (nomark _))))) (pss_one (ps_ret pe_bl)) pss_nil))))
        (pss_cons (ps_set (i := 8) scRight.nd rfl (Or.inl rfl) (pe_call GO r2 (by rfl) DO.mg DO.fn.kp DO.bi .nil pass0 (pa_cons (pv 0) (pa_cons (pe_lst (pa_cons pe_int (pa_cons pe_int (pa_cons pe_int (pa_cons pe_int (pa_cons pe_int (pa_cons (pe_call GD r1 (by rfl) DD.mg DD.fn.kp DD.bi .nil pass0 (pa_cons (pv 0) (pa_cons pe_int pa_nil))) (pa_cons pe_int pa_nil)))))))) pa_nil))))
        (pss_cons (ps_set (i := 9) scRight.nd rfl (Or.inl rfl) (pe_tupleOf (by rfl) B.tuple (pe_lc (own := [("_law_n", 6)]) (g := gName 6) rfl scRight.nd (pi_range2 (by rfl) B.range (pa_cons pe_int (pa_cons (pe_op op_add (pv 8) pe_int) pa_nil))) (blkOk_by (N := nRight) (sc := defScope sRight) (by decide +kernel))
            (fun _ _ _ _ _ => pg_name (i := 6) scRight.nd rfl (Or.inl rfl)) (fun _ _ _ _ _ => pts_one (pt_val (pe_call GV r2 (by rfl) DV.mg DV.fn.kp DV.bi .nil pass0 (pa_cons (pv 5) (pa_cons (pv 6) pa_nil))))) (fun _ _ _ _ _ => pv 6))))
        (pss_one (ps_if (pt_cmpR op_ne (pe_callB (call_reprT gd hu) (by rfl) B.repr (by decide +kernel) (pa_cons (pe_call GZ r4 (by rfl) DZ.mg DZ.fn.kp DZ.bi .nil pass0 (pa_cons (pv 2) (pa_cons (pv 3) (pa_cons (pv 8) pa_nil)))) pa_nil))
            (pe_callB (call_reprT gd hu) (by rfl) B.repr (by decide +kernel) (pa_cons (pv 9) pa_nil)) (nomark _)) (pss_one (ps_ret pe_bl)) pss_nil)))))))
      (pss_one (ps_ret pe_bl))), ?_⟩
    have O0 := O
    obtain ⟨u, c, o1, o2, o3, M, S⟩ := O0
    have h8 := M.few
    refine ⟨.ref R, rfl, R, ns, ps, rfl, O, fun H1 r s1 Rr => ?_⟩
    refine ⟨.ref R, rfl, R, ns, ps, rfl, O.same s1, fun H2 l s2 nl hL => ?_⟩
    obtain ⟨ks, ek, el, hks⟩ := hL
    have s02 := s1.trans s2
    have hp2 := pail_same hp s02
    have hlp : l ≠ p := pail_ne (pail_same hp s1) nl
    have lks : ks.length ≤ 8 := by rw [← List.length_map (f := (·.2)), ek]; exact Nat.le_trans (parts_len _ _) h8
    have R2 := Rr.same s2
    have O2 := O.same s02
    have o12 := s02 _ _ o1
    have o32 := o3.same s02
    refine ⟨l, _, rfl, lstNew el, ?_⟩
    refine for_it (walk_enum (K := K) (a := l) (xs := ks.map fun k => V.ref k.1)) (fun i σ H' => ∃ (y3 y4 y5 y6 y7 y8 y9 : Option V) (t' : Nat), σ = [some (.ref p), some (.ref R), some (.ref r), y3, y4, y5, y6, y7, y8, y9] ∧ But p H2 H' ∧ PailAt H' p t' ∧ t' ≤ t + 7 * i)
      ⟨_, _, _, _, _, _, _, t, rfl, But.refl p H2, hp2, by omega⟩ (fun i σ H' _ h => ?_) (fun i x σ H3 H4 hx h y => ?_) (fun σ H3 h => ?_)
    · obtain ⟨_, _, _, _, _, _, _, _, _, b', _⟩ := h
      exact lstNew (b' _ _ el hlp)
    · obtain ⟨y3, y4, y5, y6, y7, y8, y9, t3, rfl, b3, hp3, ht3⟩ := h
      obtain ⟨T0, x1, x2, rfl, nT, rfl, e1, e2⟩ := y
      have e1' : x1 = .int (i : Nat) := (Option.some.inj e1).symm
      subst e1'
      obtain ⟨k, gk, rfl⟩ := map_at e2
      have hkm : k ∈ ks := List.mem_of_getElem? gk
      have hi8 : i < ks.length := (List.getElem?_eq_some_iff.mp gk).1
      have gp : (partsOf ps ns.length)[i]? = some k.2 := by rw [← ek, List.getElem?_map, gk]; rfl
      have hpm := List.mem_of_getElem? gp
      have lp : k.2.length ≤ 8 := by
        obtain ⟨m, _, _, e⟩ := mem_parts.mp hpm
        rw [e]; exact Nat.le_trans (lot_len _ _ _) h8
      have inn : ∀ x ∈ k.2, 0 ≤ x ∧ x < (ns.length : Int) := fun x hx => (mem_lot.mp (by rw [part_lot hpm hx]; exact hx : x ∈ lotOf ps ns.length x)).1
      have sT := same_upd (o := .tup [.int (i : Nat), .ref k.1]) nT
      refine ⟨T0, _, rfl, tupNew upd_same, rfl, _, _, rfl, _, _, rfl, rfl, ?_⟩
      have b4 := b3.trans (But.of (p := p) sT)
      have hp4 := pail_same hp3 sT
      generalize upd H3 T0 (.tup [.int (i : Nat), .ref k.1]) = H4 at b4 hp4 ⊢
      have hk4 : SqT K H4 k.1 (k.2.map V.int) := tupNew (tup_pail (hks k hkm) hp2 b4)
      -- sets
      refine ⟨.ref R, rfl, R, _, 1, .ref c, rfl, rfl, tupNew (tup_pail o12 hp2 b4), rfl, .ref k.1, rfl, c, k.1, ns, k.2, ps, rfl, o32.but hp2 b4, M, S, hk4, lp, inn, fun H5 ls s5 hOS => ?_⟩
      have b5 := b4.trans (But.of (p := p) s5)
      have hp5 := pail_same hp4 s5
      -- list(range(1, 21)) + places
      refine ⟨1, 21, rfl, rfl, RgOk.of_le (by decide) (by decide) (by decide) (by decide), fun Lr nLr => ?_⟩
      have sLr := same_upd (o := .lst (rgV 1 21)) nLr
      have hLrp := pail_ne hp5 nLr
      have eLr : (upd H5 Lr (.lst (rgV 1 21))) Lr = some (.lst (rgV 1 21)) := upd_same
      have hp6 := pail_same hp5 sLr
      refine ⟨.ref p, rfl, p, t3, rfl, hp6, by omega, fun H7 t7 l7 z hp7 ht7 b7 hl7p e7 => ?_⟩
      have eLr7 := b7 _ _ eLr hLrp
      have lr : (rgV 1 21).length = 20 := by decide
      refine ⟨Lr, l7, _, _, rfl, rfl, eLr7, e7, by rw [lr]; show 20 + 2 ≤ sizeLine; decide, fun Lz nLz => ?_⟩
      have sLz := same_upd (o := .lst (rgV 1 21 ++ [.int ((z + 1 : Nat) : Int), .int ((z + 2 : Nat) : Int)])) nLz
      have b8 := ((b5.trans (But.of (p := p) sLr)).trans b7).trans (But.of (p := p) sLz)
      have hp8 := pail_same hp7 sLz
      have OS8 := ((hOS.same sLr).pail hp6 b7).same sLz
      have eLz : (upd H7 Lz (.lst (rgV 1 21 ++ [.int ((z + 1 : Nat) : Int), .int ((z + 2 : Nat) : Int)]))) Lz = some (.lst (rgV 1 21 ++ [.int ((z + 1 : Nat) : Int), .int ((z + 2 : Nat) : Int)])) := upd_same
      have nums : ∀ (j : Nat) (v : V), (rgV 1 21 ++ [V.int ((z + 1 : Nat) : Int), .int ((z + 2 : Nat) : Int)])[j]? = some v → ∃ n : Nat, v = .int (n : Int) ∧ 1 ≤ n := fun j v hv => by
        have hm := List.mem_of_getElem? hv
        rcases List.mem_append.mp hm with h | h
        · rw [rgV_rgI] at h
          obtain ⟨m, hmr, rfl⟩ := List.mem_map.mp h
          obtain ⟨jj, hj⟩ := List.getElem?_of_mem hmr
          obtain ⟨_, rfl⟩ := rgI_get.mp hj
          exact ⟨jj + 1, by congr 1; omega, by omega⟩
        · simp only [List.mem_cons, List.not_mem_nil, or_false] at h
          rcases h with rfl | rfl
          · exact ⟨z + 1, rfl, by omega⟩
          · exact ⟨z + 2, rfl, by omega⟩
      generalize rgV 1 21 ++ [V.int ((z + 1 : Nat) : Int), .int ((z + 2 : Nat) : Int)] = zs at sLz b8 hp8 OS8 eLz nums ⊢
      generalize upd H7 Lz (.lst zs) = H8 at b8 hp8 OS8 eLz ⊢
      have R8 := rule_pail R2 hp2 b8
      refine ⟨Lz, rfl, ⟨_, lstNew eLz⟩, ?_⟩
      refine for_list (K := K) (a := Lz) (xs := zs) (fun j σ H' => ∃ (y6 y7 y8 y9 : Option V), σ = [some (.ref p), some (.ref R), some (.ref r), some (.int (i : Nat)), some (.ref k.1), some (.ref ls), y6, y7, y8, y9] ∧ Same H8 H') ⟨_, _, _, _, rfl, Same.refl H8⟩ (fun j σ H' _ h => ?_) (fun j x σ H9 hx h => ?_) (fun σ H9 h => ?_)
      · obtain ⟨_, _, _, _, _, s'⟩ := h
        exact lstNew (s' _ _ eLz)
      · obtain ⟨y6, y7, y8, y9, rfl, s9⟩ := h
        obtain ⟨n, rfl, n1⟩ := nums j x hx
        refine ⟨.ref r, rfl, .int (i : Nat), rfl, .int (n : Int), rfl, r, i, n, ns, k.2, ps, rfl, R8.same s9, M, S, gp, n1, fun H10 s10 => ?_⟩
        refine ⟨.bl _, rfl, .bl _, .ty "bool", _, _, true, rfl, .ty "bool", .base (.bl _), kit_ty (by decide +kernel), true, rfl, iteF (A := True) ?_⟩
        refine ⟨.bl _, rfl, .ref ls, rfl, .int (n : Int), rfl, ls, n, k.2, ps, rfl, OS8.same (s9.trans s10), lp, fun H11 s11 => ⟨rfl, _, rfl, ?_⟩⟩
        rw [decide_eq_true rfl]
        exact iteF ⟨_, _, _, _, rfl, (s9.trans s10).trans s11⟩
      obtain ⟨y6, y7, y8, y9, rfl, s9⟩ := h
      have b9 := b8.trans (But.of (p := p) s9)
      have hp9 := pail_same hp8 s9
      have OS9 := OS8.same s9
      -- most
      refine ⟨.ref p, rfl, .ref p, rfl, p, t7, 80, rfl, hp9, by omega, by decide, by decide, fun a1 tA HA a10 a11 htA hpA bA => ⟨seven, fun lm nlm => ?_⟩⟩
      have hlmp := pail_ne hpA nlm
      have slm := same_upd (o := .lst [.int 0, .int 1, .int 30, .int 60, .int 60, .int a1, .int 300]) nlm
      have elm : (upd HA lm (.lst [.int 0, .int 1, .int 30, .int 60, .int 60, .int a1, .int 300])) lm = some (.lst [.int 0, .int 1, .int 30, .int 60, .int 60, .int a1, .int 300]) := upd_same
      have hpB := pail_same hpA slm
      have bB := (b9.trans bA).trans (But.of (p := p) slm)
      have OSB := (OS9.pail hp9 bA).same slm
      have few : ∀ (j : Nat) (v : V), [V.int 0, V.int 1, V.int 30, V.int 60, V.int 60, V.int a1, V.int 300][j]? = some v → ∃ mo : Nat, v = .int (mo : Int) ∧ mo ≤ 300 := fun j v hv => by
        have hj : j < 7 := (List.getElem?_eq_some_iff.mp hv).1
        have a11 : a1 < 80 := a11
        rcases (by omega : j = 0 ∨ j = 1 ∨ j = 2 ∨ j = 3 ∨ j = 4 ∨ j = 5 ∨ j = 6) with e | e | e | e | e | e | e <;> subst e <;> cases hv
        · exact ⟨0, rfl, by decide⟩
        · exact ⟨1, rfl, by decide⟩
        · exact ⟨30, rfl, by decide⟩
        · exact ⟨60, rfl, by decide⟩
        · exact ⟨60, rfl, by decide⟩
        · exact ⟨a1.toNat, by rw [Int.toNat_of_nonneg a10], by omega⟩
        · exact ⟨300, rfl, by decide⟩
      have l7' : [V.int 0, V.int 1, V.int 30, V.int 60, V.int 60, V.int a1, V.int 300].length = 7 := rfl
      generalize [V.int 0, V.int 1, V.int 30, V.int 60, V.int 60, V.int a1, V.int 300] = ms at slm elm hpB bB OSB few l7' ⊢
      generalize upd HA lm (.lst ms) = HB at elm hpB bB OSB ⊢
      refine ⟨p, lm, tA, ms, rfl, hpB, by omega, lstNew elm, hlmp, by omega, by omega, fun j v tC HC hv htC hpC bC => ?_⟩
      obtain ⟨mo, rfl, hmo⟩ := few j v hv
      have b2C := bB.trans bC
      have OSC := OSB.pail hpB bC
      have RC := rule_pail R2 hp2 b2C
      -- due
      refine ⟨.int (mo : Int), rfl, _, 1, rfl, rfl, 1, _, rfl, ⟨by decide, by decide, by omega, by omega⟩, fun D nD => ?_⟩
      rw [show ((mo : Int) + 1 - 1).toNat = mo by omega]
      refine lc_mapR (f := isZ ps k.2) (h := fun x => x) (by omega) nD (fun x hx H' s' A' B' kk => ?_) (fun x hx H' Q' s' _ kk => ⟨.int x, rfl, kk H' (Same.refl H')⟩) fun HD sD eD => ?_
      · obtain ⟨x0, x1⟩ := mem_fromN.mp hx
        have ex : V.int x = .int ((x.toNat : Nat) : Int) := by rw [Int.toNat_of_nonneg (by omega)]
        exact ⟨.ref ls, rfl, .int x, rfl, ls, x.toNat, k.2, ps, by rw [← ex]; rfl, OSC.same s', lp, fun H2' s2' => ⟨_, rfl, kk H2' s2'⟩⟩
      rw [List.map_id'] at eD
      refine .inl ⟨D, _, rfl, lstNew eD, fun td ntd => ?_⟩
      have std := same_upd (o := .tup (((fromN 1 mo).filter (isZ ps k.2)).map V.int)) ntd
      have etd : (upd HD td (.tup (((fromN 1 mo).filter (isZ ps k.2)).map V.int))) td = some (.tup (((fromN 1 mo).filter (isZ ps k.2)).map V.int)) := upd_same
      have sCE := sD.trans std
      generalize upd HD td (.tup (((fromN 1 mo).filter (isZ ps k.2)).map V.int)) = HE at etd sCE ⊢
      have sh : Shows (RV.dI ((fromN 1 mo).filter (isZ ps k.2))) := by
        refine shows_dI7 (fun z hz => ?_) (Nat.le_trans (List.length_filter_le _ _) (by rw [fromN_len]; omega))
        obtain ⟨z0, z1⟩ := mem_fromN.mp (List.mem_filter.mp hz).1
        omega
      refine ⟨.ref r, rfl, .int (i : Nat), rfl, .int (mo : Int), rfl, r, i, mo, ns, k.2, ps, rfl, RC.same sCE, M, S, gp, by omega, fun HF tF sF hF => ?_⟩
      refine .inl ⟨tF, _, rfl, hF, sh, .ref td, rfl, .inl ⟨td, _, rfl, tupNew (sF _ _ etd), sh, rfl, _, rfl, ?_⟩⟩
      rw [decide_eq_true rfl]
      exact iteF ⟨_, _, _, _, _, _, _, tC, rfl, b2C.trans (But.of (sCE.trans sF)), pail_same hpC (sCE.trans sF), by omega⟩
    · obtain ⟨y3, y4, y5, y6, y7, y8, y9, t3, rfl, b3, hp3, ht3⟩ := h
      rw [List.length_map] at ht3
      exact q H3 t3 hp3 (by omega) ((But.of s02).trans b3)
end
end K10
set_option maxHeartbeats 4000000
namespace K10
open PySem PySem.Spec PyProof.Rows L2 RV
section
variable {P : Program} {w : World} {K : PySem.W.Frag} {mg : Str → Option Value} {base : Heap}
/-! ### law -/
abbrev nLaw : List Str := ["_law_script", "_law_k", "_law_pot", "_law_some", "_law_own"]
theorem scLaw : FnScope nLaw ["_law_script"] (defScope sLaw) := ⟨rfl, rfl, rfl, by decide +kernel, rfl, by decide +kernel, by decide +kernel⟩
def spLaw (K : PySem.W.Frag) : Sp := fun vs H Q _ => ∃ (a : Addr) (ns : List Int), vs = [.ref a] ∧ SqL K H a (ns.map V.int) ∧ ns.length ≤ 63 ∧ ∀ H', Q (.bl true) H'
theorem ok_law {f fH fU fN fR : Addr} {fd dH dU dN dR : FuncData} (F : Fun K "law" "law" sLaw f fd) (B : Bare mg)
    (DH : DefAt K mg "_law_hand" sHand ["_law_script", "_law_k"] fH dH) (DU : DefAt K mg "_law_rule" sRule ["_law_pot", "_law_most"] fU dU) (GU : FnOk P w K mg base CX0 5 fU dU ["_law_pot", "_law_most"] (spRule K))
    (DN : DefAt K mg "_law_drawn_round" sDRound ["_law_pot"] fN dN) (GN : FnOk P w K mg base CX0 2 fN dN ["_law_pot"] (spDRound K))
    (DR : DefAt K mg "_law_right" sRight ["_law_pot", "_law_own"] fR dR) (GR : FnG P w K mg base CX0 9 fR dR ["_law_pot", "_law_own"] (spRight K)) : FnG P w K mg base CX0 10 f fd ["_law_script"] (spLaw K) := by
  have GH : FnOk P w K mg base CX0 1 fH dH ["_law_script", "_law_k"] (spHand K) := ok_hand DH.fn B
  refine okG F scLaw (fun vs H Q E h => ?_) (fun cdv A outer s H vs Q E gd hr h => ?_)
  · obtain ⟨a, ns, rfl, _⟩ := h
    rfl
  · obtain ⟨a, cs, rfl, hS, hlen, q⟩ := h
    have r1 := hr.mono (show 1 ≤ 9 by decide)
    have r2 := hr.mono (show 2 ≤ 9 by decide)
    have r5 := hr.mono (show 5 ≤ 9 by decide)
    have three : (3 : Nat) ≤ sizeLine := by decide
    refine ⟨_, pss_cons (ps_for PassesOwn.never rfl (pi_range1 (by rfl) B.range (pa_cons (pe_callB (call_max2 rfl) (by rfl) B.max (by decide +kernel) (pa_cons pe_int (pa_cons (pe_callB (call_min2 rfl) (by rfl) B.min (by decide +kernel) (pa_cons pe_int (pa_cons (pe_callB call_len_seq (by rfl) B.len PySem.boot_len (pa_cons (pv 0) pa_nil)) pa_nil))) pa_nil))) pa_nil)) (pg_name (i := 1) scLaw.nd rfl (Or.inl rfl))
        (pss_cons (ps_set (i := 2) scLaw.nd rfl (Or.inr rfl) (pe_call GH r1 (by rfl) DH.mg DH.fn.kp DH.bi .nil pass0 (pa_cons (pv 0) (pa_cons (pv 1) pa_nil))))
        (pss_cons (ps_set (i := 3) scLaw.nd rfl (Or.inl rfl) (pe_lst (pa_cons (pe_call GU r5 (by rfl) DU.mg DU.fn.kp DU.bi .nil pass0 (pa_cons (pv 2) (pa_cons pe_int pa_nil))) (pa_cons (pe_call GU r5 (by rfl) DU.mg DU.fn.kp DU.bi .nil pass0 (pa_cons (pv 2) (pa_cons pe_int pa_nil))) (pa_cons (pe_call GN r2 (by rfl) DN.mg DN.fn.kp DN.bi .nil pass0 (pa_cons (pv 2) pa_nil)) pa_nil)))))
        (pss_one (ps_if (pt_not (pt_val (pe_callB (cr_all rfl) (by rfl) B.all (by decide +kernel) (pa_cons
          (pe_lc (own := [("_law_own", 4)]) (g := gName 4) (tt := tYes) rfl scLaw.nd (pi_list (pv 3)) (blkOk_by (N := nLaw) (sc := defScope sLaw) (by decide +kernel))
            (fun _ _ _ _ _ => pg_name (i := 4) scLaw.nd rfl (Or.inl rfl)) (fun _ _ _ _ _ => pts_nil) (fun _ _ _ _ _ => pe_callG GR gd hr (by rfl) DR.mg DR.fn.kp DR.bi .nil pass0 (pa_cons (pv 2) (pa_cons (pv 4) pa_nil)))) pa_nil)))) (pss_one (ps_ret pe_bl)) pss_nil)))))
      (pss_one (ps_ret pe_bl)), ?_⟩
    refine ⟨.ref a, rfl, a, _, rfl, .inl hS, 2, _, rfl, 1, _, rfl, ?_⟩
    have vb : ∀ n : Int, 0 ≤ n → n ≤ 63 → 1 ≤ (if (if n < 2 then n else 2) > 1 then (if n < 2 then n else 2) else 1) ∧ (if (if n < 2 then n else 2) > 1 then (if n < 2 then n else 2) else 1) ≤ 2 := fun n _ _ => by
      split <;> split <;> omega
    have vb1 := vb ((cs.map V.int).length : Int) (by omega) (by rw [List.length_map]; omega)
    generalize (if (if ((cs.map V.int).length : Int) < 2 then ((cs.map V.int).length : Int) else 2) > 1 then (if ((cs.map V.int).length : Int) < 2 then ((cs.map V.int).length : Int) else 2) else 1) = nk at vb1 ⊢
    refine ⟨nk, rfl, by omega, by omega, ?_⟩
    refine for_range (lo := 0) (n := nk.toNat) (fun i σ H' => ∃ (y1 y2 y3 y4 : Option V), σ = [some (.ref a), y1, y2, y3, y4] ∧ Same H H') ⟨none, none, none, none, rfl, Same.refl H⟩ (fun i σ H1 hi h => ?_) (fun σ H1 h => ?_)
    · obtain ⟨y1, y2, y3, y4, rfl, s1⟩ := h
      have e0 : (0 + ((i : Nat) : Int)) = (i : Int) := by omega
      rw [e0]
      refine ⟨.ref a, rfl, .int (i : Int), rfl, a, cs, i, rfl, s1.seq hS, by omega, fun H2 p s2 np hp => ?_⟩
      have npH : H p = none := s1.free np
      refine ⟨.ref p, rfl, p, 0, 8, rfl, hp, by omega, by decide, by decide, fun H3 R1 t3 ns1 ps1 hp3 ht3 b3 O1 => ?_⟩
      refine ⟨.ref p, rfl, p, t3, 5, rfl, hp3, by omega, by decide, by decide, fun H4 R2 t4 ns2 ps2 hp4 ht4 b4 O2 => ?_⟩
      refine ⟨.ref p, rfl, p, t4, rfl, hp4, by omega, fun H5 R3 t5 ns3 ps3 hp5 ht5 b5 O3 => ⟨three, fun l nl => ?_⟩⟩
      have sl := same_upd (o := .lst [.ref R1, .ref R2, .ref R3]) nl
      have hp6 := pail_same hp5 sl
      have hlp : l ≠ p := pail_ne hp5 nl
      have s6 : Same H (upd H5 l (.lst [.ref R1, .ref R2, .ref R3])) := (same_but (same_but (same_but (s1.trans s2) npH b3) npH b4) npH b5).trans sl
      have el : (upd H5 l (.lst [.ref R1, .ref R2, .ref R3])) l = some (.lst ([R1, R2, R3].map V.ref)) := upd_same
      have OO : ∀ R ∈ [R1, R2, R3], ∃ ns ps, OwnH K (upd H5 l (.lst [.ref R1, .ref R2, .ref R3])) R ns ps := fun R hR => by
        simp only [List.mem_cons, List.not_mem_nil, or_false] at hR
        rcases hR with rfl | rfl | rfl
        · exact ⟨_, _, ((O1.pail hp3 b4).pail hp4 b5).same sl⟩
        · exact ⟨_, _, (O2.pail hp4 b5).same sl⟩
        · exact ⟨_, _, O3.same sl⟩
      generalize upd H5 l (.lst [.ref R1, .ref R2, .ref R3]) = H6 at hp6 s6 el OO ⊢
      have l3 : [R1, R2, R3].length = 3 := rfl
      generalize [R1, R2, R3] = Rs at el OO l3
      refine ⟨.ref l, rfl, l, rfl, ⟨_, lstNew el⟩, fun D nD => ?_⟩
      have hDp := pail_ne hp6 nD
      refine lc_list (K := K) (a := l) (xs := Rs.map V.ref) (fun j H' => ∃ t', But p H6 H' ∧ PailAt H' p t' ∧ t' ≤ t5 + 60 * j ∧ H' D = some (.lst (List.replicate j (V.bl true))))
        ⟨t5, But.of (same_upd nD), pail_same hp6 (same_upd nD), by omega, upd_same⟩ (fun j H' _ h => ?_) (fun j x H7 hx h => ?_) fun H7 h => ?_
      · obtain ⟨_, b', _⟩ := h
        exact lstNew (b' _ _ el hlp)
      · obtain ⟨t7, b7, hp7, ht7, e7⟩ := h
        obtain ⟨R, gR, rfl⟩ := map_at hx
        have hj : j < Rs.length := (List.getElem?_eq_some_iff.mp gR).1
        obtain ⟨ns, ps, O⟩ := OO R (List.mem_of_getElem? gR)
        refine ⟨by simp [wipe, List.set_set], tt_yes ⟨.ref p, rfl, .ref R, rfl, p, R, t7, ns, ps, rfl, hp7, by omega, O.pail hp6 b7, fun H8 t8 hp8 ht8 b8 => ?_⟩⟩
        have e8 := b8 _ _ e7 hDp
        refine ⟨_, e8, by rw [List.length_replicate]; exact few1 (by omega), t8, fun c' o' e' z => ?_, pail_set hp8 hDp, by omega, ?_⟩
        · rw [upd_ne (ne_of_none e' nD)]; exact (b7.trans b8) c' o' e' z
        · rw [upd_same, rep_next]
      · obtain ⟨t7, b7, hp7, ht7, e7⟩ := h
        rw [rep_bl] at e7
        refine ⟨D, _, rfl, lstNew e7, ?_⟩
        rw [all_true]
        refine ⟨true, rfl, iteF ?_⟩
        exact ⟨_, _, _, _, rfl, same_but s6 npH b7⟩
    · exact q H1
end
end K10
set_option maxHeartbeats 4000000
namespace K10
open PySem PySem.Spec PyProof.Rows L2 RV
theorem def_mk {K : PySem.W.Frag} {h : Heap} {mg : Str → Option Value} {x : Str} {st : Stmt} {ps : List Str} {f : Addr} {oc : Value} {od an : Option Addr} {sl : Array (Option Value)} {kV dc pm cd ct : Value} (X : K.In h) (G : h.Ns mainGlobals mg)
    (a : PySem.W.nsIn K mainGlobals x = some (some (.ref f))) (l : K.lookup f = some ⟨oc, od, .func (PySem.W.fnOf x x (defArgs st) (defBody st) (defScope st) .none kV dc pm an cd ct), sl⟩) (c : PySem.W.codeIn K cd x = true) (k : PySem.W.keepIn K (.ref f) = true)
    (hb : ∀ (kV doc pm : Value) (an : Option Addr) (cdv ct : Value) (us : List Value), us.length = ps.length → bindArgs (PySem.W.fnOf x x (defArgs st) (defBody st) (defScope st) .none kV doc pm an cdv ct) ⟨us, []⟩ = pure (ps.zip us)) :
    DefAt K mg x st ps f (PySem.W.fnOf x x (defArgs st) (defBody st) (defScope st) .none kV dc pm an cd ct) :=
  let F := fun_mk (st := st) l c k
  ⟨F, F.binds hb, PySem.W.mg_of X G a⟩
theorem all_mk {l : PySem.W.OpenLaw} {w : World} {K : PySem.W.Frag} {h : Heap} {mg : Str → Option Value} {fa C f1 f2 f3 f4 f5 f6 f7 f8 f9 f10 f11 f12 f13 f14 f15 f16 f17 f18 f19 f20 f21 f22 f23 f24 f25 f26 f27 f28 f29 f30 f31 f32 f33 f34 f35 f36 f37 f38 f39 f40 f41 f42 : Addr} {tk : Tok} (X : K.In h) (G : h.Ns mainGlobals mg) (hfa : mg "law" = some (.ref fa))
    {od1 an1 od2 an2 od3 an3 od4 an4 od5 an5 od6 an6 od7 an7 od8 an8 od9 an9 od10 an10 od11 an11 od12 an12 od13 an13 od14 an14 od15 an15 od16 an16 od17 an17 od18 an18 od19 an19 od20 an20 od21 an21 od22 an22 od23 an23 od24 an24 od25 an25 od26 an26 od27 an27 od28 an28 od29 an29 od30 an30 od31 an31 od32 an32 od33 an33 od34 an34 od35 an35 od36 an36 od37 an37 od38 an38 od39 an39 od40 an40 od41 an41 od42 an42 : Option Addr} {sl1 sl2 sl3 sl4 sl5 sl6 sl7 sl8 sl9 sl10 sl11 sl12 sl13 sl14 sl15 sl16 sl17 sl18 sl19 sl20 sl21 sl22 sl23 sl24 sl25 sl26 sl27 sl28 sl29 sl30 sl31 sl32 sl33 sl34 sl35 sl36 sl37 sl38 sl39 sl40 sl41 sl42 : Array (Option Value)}
    {oc1 kV1 dc1 pm1 cd1 ct1 oc2 kV2 dc2 pm2 cd2 ct2 oc3 kV3 dc3 pm3 cd3 ct3 oc4 kV4 dc4 pm4 cd4 ct4 oc5 kV5 dc5 pm5 cd5 ct5 oc6 kV6 dc6 pm6 cd6 ct6 oc7 kV7 dc7 pm7 cd7 ct7 oc8 kV8 dc8 pm8 cd8 ct8 oc9 kV9 dc9 pm9 cd9 ct9 oc10 kV10 dc10 pm10 cd10 ct10 oc11 kV11 dc11 pm11 cd11 ct11 oc12 kV12 dc12 pm12 cd12 ct12 oc13 kV13 dc13 pm13 cd13 ct13 oc14 kV14 dc14 pm14 cd14 ct14 oc15 kV15 dc15 pm15 cd15 ct15 oc16 kV16 dc16 pm16 cd16 ct16 oc17 kV17 dc17 pm17 cd17 ct17 oc18 kV18 dc18 pm18 cd18 ct18 oc19 kV19 dc19 pm19 cd19 ct19 oc20 kV20 dc20 pm20 cd20 ct20 oc21 kV21 dc21 pm21 cd21 ct21 oc22 kV22 dc22 pm22 cd22 ct22 oc23 kV23 dc23 pm23 cd23 ct23 oc24 kV24 dc24 pm24 cd24 ct24 oc25 kV25 dc25 pm25 cd25 ct25 oc26 kV26 dc26 pm26 cd26 ct26 oc27 kV27 dc27 pm27 cd27 ct27 oc28 kV28 dc28 pm28 cd28 ct28 oc29 kV29 dc29 pm29 cd29 ct29 oc30 kV30 dc30 pm30 cd30 ct30 oc31 kV31 dc31 pm31 cd31 ct31 oc32 kV32 dc32 pm32 cd32 ct32 oc33 kV33 dc33 pm33 cd33 ct33 oc34 kV34 dc34 pm34 cd34 ct34 oc35 kV35 dc35 pm35 cd35 ct35 oc36 kV36 dc36 pm36 cd36 ct36 oc37 kV37 dc37 pm37 cd37 ct37 oc38 kV38 dc38 pm38 cd38 ct38 oc39 kV39 dc39 pm39 cd39 ct39 oc40 kV40 dc40 pm40 cd40 ct40 oc41 kV41 dc41 pm41 cd41 ct41 oc42 kV42 dc42 pm42 cd42 ct42 : Value}
    (a1 : PySem.W.nsIn K mainGlobals "is_whole" = some (some (.ref f1)))
    (l1 : K.lookup f1 = some ⟨oc1, od1, .func (PySem.W.fnOf "is_whole" "is_whole" (defArgs sWhole) (defBody sWhole) (defScope sWhole) .none kV1 dc1 pm1 an1 cd1 ct1), sl1⟩)
    (c1 : PySem.W.codeIn K cd1 "is_whole" = true)
    (k1 : PySem.W.keepIn K (.ref f1) = true)
    (a2 : PySem.W.nsIn K mainGlobals "is_below" = some (some (.ref f2)))
    (l2 : K.lookup f2 = some ⟨oc2, od2, .func (PySem.W.fnOf "is_below" "is_below" (defArgs sMark) (defBody sMark) (defScope sMark) .none kV2 dc2 pm2 an2 cd2 ct2), sl2⟩)
    (c2 : PySem.W.codeIn K cd2 "is_below" = true)
    (k2 : PySem.W.keepIn K (.ref f2) = true)
    (a3 : PySem.W.nsIn K mainGlobals "are_marks" = some (some (.ref f3)))
    (l3 : K.lookup f3 = some ⟨oc3, od3, .func (PySem.W.fnOf "are_marks" "are_marks" (defArgs sMarks) (defBody sMarks) (defScope sMarks) .none kV3 dc3 pm3 an3 cd3 ct3), sl3⟩)
    (c3 : PySem.W.codeIn K cd3 "are_marks" = true)
    (k3 : PySem.W.keepIn K (.ref f3) = true)
    (a4 : PySem.W.nsIn K mainGlobals "are_mirrors" = some (some (.ref f4)))
    (l4 : K.lookup f4 = some ⟨oc4, od4, .func (PySem.W.fnOf "are_mirrors" "are_mirrors" (defArgs sMirrors) (defBody sMirrors) (defScope sMirrors) .none kV4 dc4 pm4 an4 cd4 ct4), sl4⟩)
    (c4 : PySem.W.codeIn K cd4 "are_mirrors" = true)
    (k4 : PySem.W.keepIn K (.ref f4) = true)
    (a5 : PySem.W.nsIn K mainGlobals "are_steps" = some (some (.ref f5)))
    (l5 : K.lookup f5 = some ⟨oc5, od5, .func (PySem.W.fnOf "are_steps" "are_steps" (defArgs sSteps) (defBody sSteps) (defScope sSteps) .none kV5 dc5 pm5 an5 cd5 ct5), sl5⟩)
    (c5 : PySem.W.codeIn K cd5 "are_steps" = true)
    (k5 : PySem.W.keepIn K (.ref f5) = true)
    (a6 : PySem.W.nsIn K mainGlobals "is_step" = some (some (.ref f6)))
    (l6 : K.lookup f6 = some ⟨oc6, od6, .func (PySem.W.fnOf "is_step" "is_step" (defArgs sStep) (defBody sStep) (defScope sStep) .none kV6 dc6 pm6 an6 cd6 ct6), sl6⟩)
    (c6 : PySem.W.codeIn K cd6 "is_step" = true)
    (k6 : PySem.W.keepIn K (.ref f6) = true)
    (a7 : PySem.W.nsIn K mainGlobals "is_rising" = some (some (.ref f7)))
    (l7 : K.lookup f7 = some ⟨oc7, od7, .func (PySem.W.fnOf "is_rising" "is_rising" (defArgs sRising) (defBody sRising) (defScope sRising) .none kV7 dc7 pm7 an7 cd7 ct7), sl7⟩)
    (c7 : PySem.W.codeIn K cd7 "is_rising" = true)
    (k7 : PySem.W.keepIn K (.ref f7) = true)
    (a8 : PySem.W.nsIn K mainGlobals "marks_behind" = some (some (.ref f8)))
    (l8 : K.lookup f8 = some ⟨oc8, od8, .func (PySem.W.fnOf "marks_behind" "marks_behind" (defArgs sBehind) (defBody sBehind) (defScope sBehind) .none kV8 dc8 pm8 an8 cd8 ct8), sl8⟩)
    (c8 : PySem.W.codeIn K cd8 "marks_behind" = true)
    (k8 : PySem.W.keepIn K (.ref f8) = true)
    (a9 : PySem.W.nsIn K mainGlobals "led_to" = some (some (.ref f9)))
    (l9 : K.lookup f9 = some ⟨oc9, od9, .func (PySem.W.fnOf "led_to" "led_to" (defArgs sLed) (defBody sLed) (defScope sLed) .none kV9 dc9 pm9 an9 cd9 ct9), sl9⟩)
    (c9 : PySem.W.codeIn K cd9 "led_to" = true)
    (k9 : PySem.W.keepIn K (.ref f9) = true)
    (a10 : PySem.W.nsIn K mainGlobals "parts" = some (some (.ref f10)))
    (l10 : K.lookup f10 = some ⟨oc10, od10, .func (PySem.W.fnOf "parts" "parts" (defArgs sParts) (defBody sParts) (defScope sParts) .none kV10 dc10 pm10 an10 cd10 ct10), sl10⟩)
    (c10 : PySem.W.codeIn K cd10 "parts" = true)
    (k10 : PySem.W.keepIn K (.ref f10) = true)
    (a11 : PySem.W.nsIn K mainGlobals "ends_at_once" = some (some (.ref f11)))
    (l11 : K.lookup f11 = some ⟨oc11, od11, .func (PySem.W.fnOf "ends_at_once" "ends_at_once" (defArgs sAtOnce) (defBody sAtOnce) (defScope sAtOnce) .none kV11 dc11 pm11 an11 cd11 ct11), sl11⟩)
    (c11 : PySem.W.codeIn K cd11 "ends_at_once" = true)
    (k11 : PySem.W.keepIn K (.ref f11) = true)
    (a12 : PySem.W.nsIn K mainGlobals "ends_of_steps" = some (some (.ref f12)))
    (l12 : K.lookup f12 = some ⟨oc12, od12, .func (PySem.W.fnOf "ends_of_steps" "ends_of_steps" (defArgs sOfSteps) (defBody sOfSteps) (defScope sOfSteps) .none kV12 dc12 pm12 an12 cd12 ct12), sl12⟩)
    (c12 : PySem.W.codeIn K cd12 "ends_of_steps" = true)
    (k12 : PySem.W.keepIn K (.ref f12) = true)
    (a13 : PySem.W.nsIn K mainGlobals "ends_behind" = some (some (.ref f13)))
    (l13 : K.lookup f13 = some ⟨oc13, od13, .func (PySem.W.fnOf "ends_behind" "ends_behind" (defArgs sEndsBehind) (defBody sEndsBehind) (defScope sEndsBehind) .none kV13 dc13 pm13 an13 cd13 ct13), sl13⟩)
    (c13 : PySem.W.codeIn K cd13 "ends_behind" = true)
    (k13 : PySem.W.keepIn K (.ref f13) = true)
    (a14 : PySem.W.nsIn K mainGlobals "ends_of_walks" = some (some (.ref f14)))
    (l14 : K.lookup f14 = some ⟨oc14, od14, .func (PySem.W.fnOf "ends_of_walks" "ends_of_walks" (defArgs sOfWalks) (defBody sOfWalks) (defScope sOfWalks) .none kV14 dc14 pm14 an14 cd14 ct14), sl14⟩)
    (c14 : PySem.W.codeIn K cd14 "ends_of_walks" = true)
    (k14 : PySem.W.keepIn K (.ref f14) = true)
    (a15 : PySem.W.nsIn K mainGlobals "come_back" = some (some (.ref f15)))
    (l15 : K.lookup f15 = some ⟨oc15, od15, .func (PySem.W.fnOf "come_back" "come_back" (defArgs sComeBack) (defBody sComeBack) (defScope sComeBack) .none kV15 dc15 pm15 an15 cd15 ct15), sl15⟩)
    (c15 : PySem.W.codeIn K cd15 "come_back" = true)
    (k15 : PySem.W.keepIn K (.ref f15) = true)
    (a16 : PySem.W.nsIn K mainGlobals "is_size" = some (some (.ref f16)))
    (l16 : K.lookup f16 = some ⟨oc16, od16, .func (PySem.W.fnOf "is_size" "is_size" (defArgs sIsSize) (defBody sIsSize) (defScope sIsSize) .none kV16 dc16 pm16 an16 cd16 ct16), sl16⟩)
    (c16 : PySem.W.codeIn K cd16 "is_size" = true)
    (k16 : PySem.W.keepIn K (.ref f16) = true)
    (a17 : PySem.W.nsIn K mainGlobals "sizes" = some (some (.ref f17)))
    (l17 : K.lookup f17 = some ⟨oc17, od17, .func (PySem.W.fnOf "sizes" "sizes" (defArgs sSizes) (defBody sSizes) (defScope sSizes) .none kV17 dc17 pm17 an17 cd17 ct17), sl17⟩)
    (c17 : PySem.W.codeIn K cd17 "sizes" = true)
    (k17 : PySem.W.keepIn K (.ref f17) = true)
    (a18 : PySem.W.nsIn K mainGlobals "_law_hand" = some (some (.ref f18)))
    (l18 : K.lookup f18 = some ⟨oc18, od18, .func (PySem.W.fnOf "_law_hand" "_law_hand" (defArgs sHand) (defBody sHand) (defScope sHand) .none kV18 dc18 pm18 an18 cd18 ct18), sl18⟩)
    (c18 : PySem.W.codeIn K cd18 "_law_hand" = true)
    (k18 : PySem.W.keepIn K (.ref f18) = true)
    (a19 : PySem.W.nsIn K mainGlobals "_law_take" = some (some (.ref f19)))
    (l19 : K.lookup f19 = some ⟨oc19, od19, .func (PySem.W.fnOf "_law_take" "_law_take" (defArgs sDraw) (defBody sDraw) (defScope sDraw) .none kV19 dc19 pm19 an19 cd19 ct19), sl19⟩)
    (c19 : PySem.W.codeIn K cd19 "_law_take" = true)
    (k19 : PySem.W.keepIn K (.ref f19) = true)
    (a20 : PySem.W.nsIn K mainGlobals "_law_of" = some (some (.ref f20)))
    (l20 : K.lookup f20 = some ⟨oc20, od20, .func (PySem.W.fnOf "_law_of" "_law_of" (defArgs sOf) (defBody sOf) (defScope sOf) .none kV20 dc20 pm20 an20 cd20 ct20), sl20⟩)
    (c20 : PySem.W.codeIn K cd20 "_law_of" = true)
    (k20 : PySem.W.keepIn K (.ref f20) = true)
    (a21 : PySem.W.nsIn K mainGlobals "_law_closed" = some (some (.ref f21)))
    (l21 : K.lookup f21 = some ⟨oc21, od21, .func (PySem.W.fnOf "_law_closed" "_law_closed" (defArgs sClosed) (defBody sClosed) (defScope sClosed) .none kV21 dc21 pm21 an21 cd21 ct21), sl21⟩)
    (c21 : PySem.W.codeIn K cd21 "_law_closed" = true)
    (k21 : PySem.W.keepIn K (.ref f21) = true)
    (a22 : PySem.W.nsIn K mainGlobals "_law_drawn_mirrors" = some (some (.ref f22)))
    (l22 : K.lookup f22 = some ⟨oc22, od22, .func (PySem.W.fnOf "_law_drawn_mirrors" "_law_drawn_mirrors" (defArgs sDrawn) (defBody sDrawn) (defScope sDrawn) .none kV22 dc22 pm22 an22 cd22 ct22), sl22⟩)
    (c22 : PySem.W.codeIn K cd22 "_law_drawn_mirrors" = true)
    (k22 : PySem.W.keepIn K (.ref f22) = true)
    (a23 : PySem.W.nsIn K mainGlobals "_law_kinds" = some (some (.ref f23)))
    (l23 : K.lookup f23 = some ⟨oc23, od23, .func (PySem.W.fnOf "_law_kinds" "_law_kinds" (defArgs sKinds) (defBody sKinds) (defScope sKinds) .none kV23 dc23 pm23 an23 cd23 ct23), sl23⟩)
    (c23 : PySem.W.codeIn K cd23 "_law_kinds" = true)
    (k23 : PySem.W.keepIn K (.ref f23) = true)
    (a24 : PySem.W.nsIn K mainGlobals "_law_wheel_pairs" = some (some (.ref f24)))
    (l24 : K.lookup f24 = some ⟨oc24, od24, .func (PySem.W.fnOf "_law_wheel_pairs" "_law_wheel_pairs" (defArgs sWheel) (defBody sWheel) (defScope sWheel) .none kV24 dc24 pm24 an24 cd24 ct24), sl24⟩)
    (c24 : PySem.W.codeIn K cd24 "_law_wheel_pairs" = true)
    (k24 : PySem.W.keepIn K (.ref f24) = true)
    (a25 : PySem.W.nsIn K mainGlobals "_law_side_pairs" = some (some (.ref f25)))
    (l25 : K.lookup f25 = some ⟨oc25, od25, .func (PySem.W.fnOf "_law_side_pairs" "_law_side_pairs" (defArgs sSide) (defBody sSide) (defScope sSide) .none kV25 dc25 pm25 an25 cd25 ct25), sl25⟩)
    (c25 : PySem.W.codeIn K cd25 "_law_side_pairs" = true)
    (k25 : PySem.W.keepIn K (.ref f25) = true)
    (a26 : PySem.W.nsIn K mainGlobals "_law_rule" = some (some (.ref f26)))
    (l26 : K.lookup f26 = some ⟨oc26, od26, .func (PySem.W.fnOf "_law_rule" "_law_rule" (defArgs sRule) (defBody sRule) (defScope sRule) .none kV26 dc26 pm26 an26 cd26 ct26), sl26⟩)
    (c26 : PySem.W.codeIn K cd26 "_law_rule" = true)
    (k26 : PySem.W.keepIn K (.ref f26) = true)
    (a27 : PySem.W.nsIn K mainGlobals "_law_round" = some (some (.ref f27)))
    (l27 : K.lookup f27 = some ⟨oc27, od27, .func (PySem.W.fnOf "_law_round" "_law_round" (defArgs sRound) (defBody sRound) (defScope sRound) .none kV27 dc27 pm27 an27 cd27 ct27), sl27⟩)
    (c27 : PySem.W.codeIn K cd27 "_law_round" = true)
    (k27 : PySem.W.keepIn K (.ref f27) = true)
    (a28 : PySem.W.nsIn K mainGlobals "_law_come_to" = some (some (.ref f28)))
    (l28 : K.lookup f28 = some ⟨oc28, od28, .func (PySem.W.fnOf "_law_come_to" "_law_come_to" (defArgs sCome) (defBody sCome) (defScope sCome) .none kV28 dc28 pm28 an28 cd28 ct28), sl28⟩)
    (c28 : PySem.W.codeIn K cd28 "_law_come_to" = true)
    (k28 : PySem.W.keepIn K (.ref f28) = true)
    (a29 : PySem.W.nsIn K mainGlobals "_law_parts" = some (some (.ref f29)))
    (l29 : K.lookup f29 = some ⟨oc29, od29, .func (PySem.W.fnOf "_law_parts" "_law_parts" (defArgs sLParts) (defBody sLParts) (defScope sLParts) .none kV29 dc29 pm29 an29 cd29 ct29), sl29⟩)
    (c29 : PySem.W.codeIn K cd29 "_law_parts" = true)
    (k29 : PySem.W.keepIn K (.ref f29) = true)
    (a30 : PySem.W.nsIn K mainGlobals "_law_behind" = some (some (.ref f30)))
    (l30 : K.lookup f30 = some ⟨oc30, od30, .func (PySem.W.fnOf "_law_behind" "_law_behind" (defArgs sLBehind) (defBody sLBehind) (defScope sLBehind) .none kV30 dc30 pm30 an30 cd30 ct30), sl30⟩)
    (c30 : PySem.W.codeIn K cd30 "_law_behind" = true)
    (k30 : PySem.W.keepIn K (.ref f30) = true)
    (a31 : PySem.W.nsIn K mainGlobals "_law_at" = some (some (.ref f31)))
    (l31 : K.lookup f31 = some ⟨oc31, od31, .func (PySem.W.fnOf "_law_at" "_law_at" (defArgs sLAt) (defBody sLAt) (defScope sLAt) .none kV31 dc31 pm31 an31 cd31 ct31), sl31⟩)
    (c31 : PySem.W.codeIn K cd31 "_law_at" = true)
    (k31 : PySem.W.keepIn K (.ref f31) = true)
    (a32 : PySem.W.nsIn K mainGlobals "_law_own_sets" = some (some (.ref f32)))
    (l32 : K.lookup f32 = some ⟨oc32, od32, .func (PySem.W.fnOf "_law_own_sets" "_law_own_sets" (defArgs sOwnSets) (defBody sOwnSets) (defScope sOwnSets) .none kV32 dc32 pm32 an32 cd32 ct32), sl32⟩)
    (c32 : PySem.W.codeIn K cd32 "_law_own_sets" = true)
    (k32 : PySem.W.keepIn K (.ref f32) = true)
    (a33 : PySem.W.nsIn K mainGlobals "_law_is_size" = some (some (.ref f33)))
    (l33 : K.lookup f33 = some ⟨oc33, od33, .func (PySem.W.fnOf "_law_is_size" "_law_is_size" (defArgs sLIsSize) (defBody sLIsSize) (defScope sLIsSize) .none kV33 dc33 pm33 an33 cd33 ct33), sl33⟩)
    (c33 : PySem.W.codeIn K cd33 "_law_is_size" = true)
    (k33 : PySem.W.keepIn K (.ref f33) = true)
    (a34 : PySem.W.nsIn K mainGlobals "_law_made" = some (some (.ref f34)))
    (l34 : K.lookup f34 = some ⟨oc34, od34, .func (PySem.W.fnOf "_law_made" "_law_made" (defArgs sMade) (defBody sMade) (defScope sMade) .none kV34 dc34 pm34 an34 cd34 ct34), sl34⟩)
    (c34 : PySem.W.codeIn K cd34 "_law_made" = true)
    (k34 : PySem.W.keepIn K (.ref f34) = true)
    (a35 : PySem.W.nsIn K mainGlobals "_law_drawn_round" = some (some (.ref f35)))
    (l35 : K.lookup f35 = some ⟨oc35, od35, .func (PySem.W.fnOf "_law_drawn_round" "_law_drawn_round" (defArgs sDRound) (defBody sDRound) (defScope sDRound) .none kV35 dc35 pm35 an35 cd35 ct35), sl35⟩)
    (c35 : PySem.W.codeIn K cd35 "_law_drawn_round" = true)
    (k35 : PySem.W.keepIn K (.ref f35) = true)
    (a36 : PySem.W.nsIn K mainGlobals "_law_places" = some (some (.ref f36)))
    (l36 : K.lookup f36 = some ⟨oc36, od36, .func (PySem.W.fnOf "_law_places" "_law_places" (defArgs sPlaces) (defBody sPlaces) (defScope sPlaces) .none kV36 dc36 pm36 an36 cd36 ct36), sl36⟩)
    (c36 : PySem.W.codeIn K cd36 "_law_places" = true)
    (k36 : PySem.W.keepIn K (.ref f36) = true)
    (a37 : PySem.W.nsIn K mainGlobals "_law_right" = some (some (.ref f37)))
    (l37 : K.lookup f37 = some ⟨oc37, od37, .func (PySem.W.fnOf "_law_right" "_law_right" (defArgs sRight) (defBody sRight) (defScope sRight) .none kV37 dc37 pm37 an37 cd37 ct37), sl37⟩)
    (c37 : PySem.W.codeIn K cd37 "_law_right" = true)
    (k37 : PySem.W.keepIn K (.ref f37) = true)
    (a38 : PySem.W.nsIn K mainGlobals "law" = some (some (.ref f38)))
    (l38 : K.lookup f38 = some ⟨oc38, od38, .func (PySem.W.fnOf "law" "law" (defArgs sLaw) (defBody sLaw) (defScope sLaw) .none kV38 dc38 pm38 an38 cd38 ct38), sl38⟩)
    (c38 : PySem.W.codeIn K cd38 "law" = true)
    (k38 : PySem.W.keepIn K (.ref f38) = true)
    (aC : PySem.W.nsIn K mainGlobals "Rule" = some (some (.ref C)))
    (a39 : PySem.W.findIn K (.ref C) "__init__" = some (some (.ref f39)))
    (i39 : PySem.W.isFn K (.ref f39) = true)
    (l39 : K.lookup f39 = some ⟨oc39, od39, .func (PySem.W.fnOf "__init__" "Rule.__init__" (defArgs sInit) (defBody sInit) (defScope sInit) .none kV39 dc39 pm39 an39 cd39 ct39), sl39⟩)
    (c39 : PySem.W.codeIn K cd39 "Rule.__init__" = true)
    (k39 : PySem.W.keepIn K (.ref f39) = true)
    (a40 : PySem.W.findIn K (.ref C) "marks" = some (some (.ref f40)))
    (i40 : PySem.W.isFn K (.ref f40) = true)
    (l40 : K.lookup f40 = some ⟨oc40, od40, .func (PySem.W.fnOf "marks" "Rule.marks" (defArgs sMarksM) (defBody sMarksM) (defScope sMarksM) .none kV40 dc40 pm40 an40 cd40 ct40), sl40⟩)
    (c40 : PySem.W.codeIn K cd40 "Rule.marks" = true)
    (k40 : PySem.W.keepIn K (.ref f40) = true)
    (a41 : PySem.W.findIn K (.ref C) "mirror" = some (some (.ref f41)))
    (i41 : PySem.W.isFn K (.ref f41) = true)
    (l41 : K.lookup f41 = some ⟨oc41, od41, .func (PySem.W.fnOf "mirror" "Rule.mirror" (defArgs sMirrorM) (defBody sMirrorM) (defScope sMirrorM) .none kV41 dc41 pm41 an41 cd41 ct41), sl41⟩)
    (c41 : PySem.W.codeIn K cd41 "Rule.mirror" = true)
    (k41 : PySem.W.keepIn K (.ref f41) = true)
    (a42 : PySem.W.findIn K (.ref C) "behind" = some (some (.ref f42)))
    (i42 : PySem.W.isFn K (.ref f42) = true)
    (l42 : K.lookup f42 = some ⟨oc42, od42, .func (PySem.W.fnOf "behind" "Rule.behind" (defArgs sBehindM) (defBody sBehindM) (defScope sBehindM) .none kV42 dc42 pm42 an42 cd42 ct42), sl42⟩)
    (c42 : PySem.W.codeIn K cd42 "Rule.behind" = true)
    (k42 : PySem.W.keepIn K (.ref f42) = true)
    (pg : PySem.W.plainGet K C Str.empty = true)
    (hd : PySem.W.hasDictIn K C = true)
    (po : PySem.W.plainOver K C = true)
    (sa : PySem.W.findIn K (.ref C) "__setattr__" = some (some (.builtin "object.__setattr__")))
    (mk : PySem.W.makesIn K C = true)
    (kc : PySem.W.keepIn K (.ref C) = true)
    (nM : PySem.W.findIn K (.ref C) "mirrors" = some none)
    (nS : PySem.W.findIn K (.ref C) "steps" = some none)
    (nF : PySem.W.findIn K (.ref C) "followers" = some none)
    (t1 : PySem.W.findIn K (.ref C) "__class__" = some (some (.builtin "object.__class__")))
    (t2 : PySem.W.specialIn K (.builtin "object.__class__") "__get__" = some (some (.builtin "getset_descriptor.__get__")))
    (t3 : PySem.W.takesIn K (.builtin "object.__class__") = some true)
    (t4 : PySem.W.mroIn K C (.type "object") = some true)
    (mM : PySem.W.nsIn K mainGlobals "MOST_MARKS" = some (some (.int 8 tk)))
    (z0 : PySem.W.nsIn K mainGlobals "len" = some none)
    (z1 : PySem.W.nsIn K mainGlobals "isinstance" = some none)
    (z2 : PySem.W.nsIn K mainGlobals "int" = some none)
    (z3 : PySem.W.nsIn K mainGlobals "bool" = some none)
    (z4 : PySem.W.nsIn K mainGlobals "tuple" = some none)
    (z5 : PySem.W.nsIn K mainGlobals "all" = some none)
    (z6 : PySem.W.nsIn K mainGlobals "enumerate" = some none)
    (z7 : PySem.W.nsIn K mainGlobals "zip" = some none)
    (z8 : PySem.W.nsIn K mainGlobals "range" = some none)
    (z9 : PySem.W.nsIn K mainGlobals "list" = some none)
    (z10 : PySem.W.nsIn K mainGlobals "set" = some none)
    (z11 : PySem.W.nsIn K mainGlobals "sorted" = some none)
    (z12 : PySem.W.nsIn K mainGlobals "abs" = some none)
    (z13 : PySem.W.nsIn K mainGlobals "max" = some none)
    (z14 : PySem.W.nsIn K mainGlobals "min" = some none)
    (z15 : PySem.W.nsIn K mainGlobals "repr" = some none)
    (z16 : PySem.W.nsIn K mainGlobals "dict" = some none)
    (z17 : PySem.W.nsIn K mainGlobals "any" = some none) :
    ∃ fd : FuncData, (∀ (s : Shared) (v : Value), BindsTo s fd ⟨[v], []⟩ [("_law_script", v)]) ∧ ∀ base : Heap, K.In base → base.Ns mainGlobals mg → FnG l.prog w K mg base CX0 10 fa fd ["_law_script"] (spLaw K) := by
  have e := hfa.symm.trans (PySem.W.mg_of X G a38)
  cases e
  have B : Bare mg := ⟨PySem.W.mg_none_of X G z0, PySem.W.mg_none_of X G z1, PySem.W.mg_none_of X G z2, PySem.W.mg_none_of X G z3, PySem.W.mg_none_of X G z4, PySem.W.mg_none_of X G z5, PySem.W.mg_none_of X G z6, PySem.W.mg_none_of X G z7, PySem.W.mg_none_of X G z8, PySem.W.mg_none_of X G z9, PySem.W.mg_none_of X G z10, PySem.W.mg_none_of X G z11, PySem.W.mg_none_of X G z12, PySem.W.mg_none_of X G z13, PySem.W.mg_none_of X G z14, PySem.W.mg_none_of X G z15, PySem.W.mg_none_of X G z16, PySem.W.mg_none_of X G z17⟩
  have D1 := def_mk (st := sWhole) (ps := ["thing"]) X G a1 l1 c1 k1 fun _ _ _ _ _ _ us hl => match us, hl with | [_], _ => rfl
  have D2 := def_mk (st := sMark) (ps := ["thing", "many"]) X G a2 l2 c2 k2 fun _ _ _ _ _ _ us hl => match us, hl with | [_, _], _ => rfl
  have D3 := def_mk (st := sMarks) (ps := ["thing", "many"]) X G a3 l3 c3 k3 fun _ _ _ _ _ _ us hl => match us, hl with | [_, _], _ => rfl
  have D4 := def_mk (st := sMirrors) (ps := ["thing"]) X G a4 l4 c4 k4 fun _ _ _ _ _ _ us hl => match us, hl with | [_], _ => rfl
  have D5 := def_mk (st := sSteps) (ps := ["mirrors", "thing"]) X G a5 l5 c5 k5 fun _ _ _ _ _ _ us hl => match us, hl with | [_, _], _ => rfl
  have D6 := def_mk (st := sStep) (ps := ["thing", "many"]) X G a6 l6 c6 k6 fun _ _ _ _ _ _ us hl => match us, hl with | [_, _], _ => rfl
  have D7 := def_mk (st := sRising) (ps := ["pairs"]) X G a7 l7 c7 k7 fun _ _ _ _ _ _ us hl => match us, hl with | [_], _ => rfl
  have D8 := def_mk (st := sBehind) (ps := ["steps", "mark"]) X G a8 l8 c8 k8 fun _ _ _ _ _ _ us hl => match us, hl with | [_, _], _ => rfl
  have D9 := def_mk (st := sLed) (ps := ["rule", "mark"]) X G a9 l9 c9 k9 fun _ _ _ _ _ _ us hl => match us, hl with | [_, _], _ => rfl
  have D10 := def_mk (st := sParts) (ps := ["rule"]) X G a10 l10 c10 k10 fun _ _ _ _ _ _ us hl => match us, hl with | [_], _ => rfl
  have D11 := def_mk (st := sAtOnce) (ps := ["rule"]) X G a11 l11 c11 k11 fun _ _ _ _ _ _ us hl => match us, hl with | [_], _ => rfl
  have D12 := def_mk (st := sOfSteps) (ps := ["rule"]) X G a12 l12 c12 k12 fun _ _ _ _ _ _ us hl => match us, hl with | [_], _ => rfl
  have D13 := def_mk (st := sEndsBehind) (ps := ["first", "second"]) X G a13 l13 c13 k13 fun _ _ _ _ _ _ us hl => match us, hl with | [_, _], _ => rfl
  have D14 := def_mk (st := sOfWalks) (ps := ["rule", "n"]) X G a14 l14 c14 k14 fun _ _ _ _ _ _ us hl => match us, hl with | [_, _], _ => rfl
  have D15 := def_mk (st := sComeBack) (ps := ["ends", "marks"]) X G a15 l15 c15 k15 fun _ _ _ _ _ _ us hl => match us, hl with | [_, _], _ => rfl
  have D16 := def_mk (st := sIsSize) (ps := ["rule", "part", "n"]) X G a16 l16 c16 k16 fun _ _ _ _ _ _ us hl => match us, hl with | [_, _, _], _ => rfl
  have D17 := def_mk (st := sSizes) (ps := ["rule", "part", "most"]) X G a17 l17 c17 k17 fun _ _ _ _ _ _ us hl => match us, hl with | [_, _, _], _ => rfl
  have D18 := def_mk (st := sHand) (ps := ["_law_script", "_law_k"]) X G a18 l18 c18 k18 fun _ _ _ _ _ _ us hl => match us, hl with | [_, _], _ => rfl
  have D19 := def_mk (st := sDraw) (ps := ["_law_pot", "_law_many"]) X G a19 l19 c19 k19 fun _ _ _ _ _ _ us hl => match us, hl with | [_, _], _ => rfl
  have D20 := def_mk (st := sOf) (ps := ["_law_pot", "_law_some"]) X G a20 l20 c20 k20 fun _ _ _ _ _ _ us hl => match us, hl with | [_, _], _ => rfl
  have D21 := def_mk (st := sClosed) (ps := ["_law_mirrors", "_law_pairs"]) X G a21 l21 c21 k21 fun _ _ _ _ _ _ us hl => match us, hl with | [_, _], _ => rfl
  have D22 := def_mk (st := sDrawn) (ps := ["_law_pot", "_law_many", "_law_style"]) X G a22 l22 c22 k22 fun _ _ _ _ _ _ us hl => match us, hl with | [_, _, _], _ => rfl
  have D23 := def_mk (st := sKinds) (ps := ["_law_pot", "_law_mirrors", "_law_wheel", "_law_kind"]) X G a23 l23 c23 k23 fun _ _ _ _ _ _ us hl => match us, hl with | [_, _, _, _], _ => rfl
  have D24 := def_mk (st := sWheel) (ps := ["_law_pot", "_law_mirrors", "_law_wheel", "_law_kind", "_law_thick"]) X G a24 l24 c24 k24 fun _ _ _ _ _ _ us hl => match us, hl with | [_, _, _, _, _], _ => rfl
  have D25 := def_mk (st := sSide) (ps := ["_law_pot", "_law_mirrors", "_law_thick"]) X G a25 l25 c25 k25 fun _ _ _ _ _ _ us hl => match us, hl with | [_, _, _], _ => rfl
  have D26 := def_mk (st := sRule) (ps := ["_law_pot", "_law_most"]) X G a26 l26 c26 k26 fun _ _ _ _ _ _ us hl => match us, hl with | [_, _], _ => rfl
  have D27 := def_mk (st := sRound) (ps := ["_law_many", "_law_kind"]) X G a27 l27 c27 k27 fun _ _ _ _ _ _ us hl => match us, hl with | [_, _], _ => rfl
  have D28 := def_mk (st := sCome) (ps := ["_law_steps", "_law_mark"]) X G a28 l28 c28 k28 fun _ _ _ _ _ _ us hl => match us, hl with | [_, _], _ => rfl
  have D29 := def_mk (st := sLParts) (ps := ["_law_own"]) X G a29 l29 c29 k29 fun _ _ _ _ _ _ us hl => match us, hl with | [_], _ => rfl
  have D30 := def_mk (st := sLBehind) (ps := ["_law_steps", "_law_begins"]) X G a30 l30 c30 k30 fun _ _ _ _ _ _ us hl => match us, hl with | [_, _], _ => rfl
  have D31 := def_mk (st := sLAt) (ps := ["_law_sets", "_law_n"]) X G a31 l31 c31 k31 fun _ _ _ _ _ _ us hl => match us, hl with | [_, _], _ => rfl
  have D32 := def_mk (st := sOwnSets) (ps := ["_law_steps", "_law_part"]) X G a32 l32 c32 k32 fun _ _ _ _ _ _ us hl => match us, hl with | [_, _], _ => rfl
  have D33 := def_mk (st := sLIsSize) (ps := ["_law_sets", "_law_n"]) X G a33 l33 c33 k33 fun _ _ _ _ _ _ us hl => match us, hl with | [_, _], _ => rfl
  have D34 := def_mk (st := sMade) (ps := ["_law_own"]) X G a34 l34 c34 k34 fun _ _ _ _ _ _ us hl => match us, hl with | [_], _ => rfl
  have D35 := def_mk (st := sDRound) (ps := ["_law_pot"]) X G a35 l35 c35 k35 fun _ _ _ _ _ _ us hl => match us, hl with | [_], _ => rfl
  have D36 := def_mk (st := sPlaces) (ps := ["_law_pot"]) X G a36 l36 c36 k36 fun _ _ _ _ _ _ us hl => match us, hl with | [_], _ => rfl
  have D37 := def_mk (st := sRight) (ps := ["_law_pot", "_law_own"]) X G a37 l37 c37 k37 fun _ _ _ _ _ _ us hl => match us, hl with | [_, _], _ => rfl
  have F38 := fun_mk (st := sLaw) l38 c38 k38
  have F39 := fun_mk (st := sInit) l39 c39 k39
  have b39 := F39.binds (ps := ["self", "mirrors", "steps"]) fun _ _ _ _ _ _ us hl => match us, hl with | [_, _, _], _ => rfl
  have F40 := fun_mk (st := sMarksM) l40 c40 k40
  have b40 := F40.binds (ps := ["self"]) fun _ _ _ _ _ _ us hl => match us, hl with | [_], _ => rfl
  have F41 := fun_mk (st := sMirrorM) l41 c41 k41
  have b41 := F41.binds (ps := ["self", "mark"]) fun _ _ _ _ _ _ us hl => match us, hl with | [_, _], _ => rfl
  have F42 := fun_mk (st := sBehindM) l42 c42 k42
  have b42 := F42.binds (ps := ["self", "mark"]) fun _ _ _ _ _ _ us hl => match us, hl with | [_, _], _ => rfl
  have T : Txt K mg C := ⟨⟨pg, hd, po, sa⟩, nM, nS, nF, PySem.W.mg_of X G aC, t1, t2, t3, t4, kit_self⟩
  have mm := PySem.W.mg_of X G mM
  refine ⟨PySem.W.fnOf "law" "law" (defArgs sLaw) (defBody sLaw) (defScope sLaw) .none kV38 dc38 pm38 an38 cd38 ct38, fun s v => .of_eq rfl, fun base _ _ => ?_⟩
  have G3 : FnOk l.prog w K mg base CX0 3 f3 _ ["thing", "many"] (spMarks K) := ok_marks D3.fn D2 D1 B
  have G4 : FnOk l.prog w K mg base CX0 4 f4 _ ["thing"] (spMirrors K) := ok_mirrors D4.fn D3 G3 B mm
  have G6 : FnOk l.prog w K mg base CX0 4 f6 _ ["thing", "many"] (spStep K) := ok_step D6.fn D3 G3 B
  have G5 : FnOk l.prog w K mg base CX0 5 f5 _ ["mirrors", "thing"] (spSteps K) := ok_steps D5.fn D6 G6 D7 B
  have GI : FnOk l.prog w K mg base CX0 6 f39 _ ["self", "mirrors", "steps"] (spInit K C) := ok_init F39 T D4 G4 D5 G5 D8 B
  have GL : FnOk l.prog w K mg base CX0 2 f9 _ ["rule", "mark"] (spLed K C) := ok_led D9.fn T B F42 b42 ⟨a42, i42, k42⟩
  have GP : FnOk l.prog w K mg base CX0 3 f10 _ ["rule"] (spParts K C) := ok_parts D10.fn T B D9 GL F40 b40 ⟨a40, i40, k40⟩
  have GO : FnOk l.prog w K mg base CX0 2 f11 _ ["rule"] (spTab K C 0) := ok_once D11.fn T B F40 b40 ⟨a40, i40, k40⟩
  have GS : FnOk l.prog w K mg base CX0 2 f12 _ ["rule"] (spTab K C 1) := ok_ofst D12.fn T B F42 b42 ⟨a42, i42, k42⟩ F40 b40 ⟨a40, i40, k40⟩
  have GE : FnOk l.prog w K mg base CX0 3 f14 _ ["rule", "n"] (spOW K C) := ok_ow D14.fn D11 GO D12 GS D13 B
  have GX : FnOk l.prog w K mg base CX0 4 f16 _ ["rule", "part", "n"] (spIS K C) := ok_is D16.fn B D10 GP D14 GE D15
  have GZ : FnOk l.prog w K mg base CX0 4 f17 _ ["rule", "part", "most"] (spSz K C) := ok_sz D17.fn B D10 GP D11 GO D12 GS D13 D15
  have GU : FnOk l.prog w K mg base CX0 5 f26 _ ["_law_pot", "_law_most"] (spRule K) := ok_rule D26.fn D22 D24 D25 D21 D23 D20 D19 B
  have GN : FnOk l.prog w K mg base CX0 2 f35 _ ["_law_pot"] (spDRound K) := ok_dround D35.fn D27 D19 B
  have GR : FnG l.prog w K mg base CX0 9 f37 _ ["_law_pot", "_law_own"] (spRight K) := ok_right D37.fn T B ⟨mk, a39, i39, kc⟩ b39 GI D34 D29 D28 D32 D33 D31 D30 D16 GX D17 GZ D36 D20 D19
  exact ok_law F38 B D18 D26 GU D35 GN D37 GR
end K10
open PySem PySem.W PyProof.Rows
set_option maxRecDepth 100000 in
set_option maxHeartbeats 0 in
theorem PySem.Challenge.cw_ringvouch_k10_sizes_near_and_far_holds : PySem.Challenge.rw_ringvouch_k10_sizes_near_and_far.Holds := by
  w_on; o_law; k_head; (case hw => w_witness2)
  k_fill
  refine RV.walk_G (l := PySem.Challenge.rw_ringvouch_k10_sizes_near_and_far) (n := 63) (k := 10) (x := "_law_script") (sp := fun w => K10.spLaw _) rfl (by decide) rfl ⟨rfl, by decide, by decide⟩ (fun w h Y => PySem.W.kIn_of Y) ?F (fun _ _ a ns hl _ hS => ⟨a, ns, rfl, hS, hl, fun _ => rfl⟩)
  case F =>
    intro w mg fa h KX G hmg
    refine' K10.all_mk KX G hmg ?a1 ?l1 ?c1 ?k1 ?a2 ?l2 ?c2 ?k2 ?a3 ?l3 ?c3 ?k3 ?a4 ?l4 ?c4 ?k4 ?a5 ?l5 ?c5 ?k5 ?a6 ?l6 ?c6 ?k6 ?a7 ?l7 ?c7 ?k7 ?a8 ?l8 ?c8 ?k8 ?a9 ?l9 ?c9 ?k9 ?a10 ?l10 ?c10 ?k10 ?a11 ?l11 ?c11 ?k11 ?a12 ?l12 ?c12 ?k12 ?a13 ?l13 ?c13 ?k13 ?a14 ?l14 ?c14 ?k14 ?a15 ?l15 ?c15 ?k15 ?a16 ?l16 ?c16 ?k16 ?a17 ?l17 ?c17 ?k17 ?a18 ?l18 ?c18 ?k18 ?a19 ?l19 ?c19 ?k19 ?a20 ?l20 ?c20 ?k20 ?a21 ?l21 ?c21 ?k21 ?a22 ?l22 ?c22 ?k22 ?a23 ?l23 ?c23 ?k23 ?a24 ?l24 ?c24 ?k24 ?a25 ?l25 ?c25 ?k25 ?a26 ?l26 ?c26 ?k26 ?a27 ?l27 ?c27 ?k27 ?a28 ?l28 ?c28 ?k28 ?a29 ?l29 ?c29 ?k29 ?a30 ?l30 ?c30 ?k30 ?a31 ?l31 ?c31 ?k31 ?a32 ?l32 ?c32 ?k32 ?a33 ?l33 ?c33 ?k33 ?a34 ?l34 ?c34 ?k34 ?a35 ?l35 ?c35 ?k35 ?a36 ?l36 ?c36 ?k36 ?a37 ?l37 ?c37 ?k37 ?a38 ?l38 ?c38 ?k38 ?aC ?a39 ?i39 ?l39 ?c39 ?k39 ?a40 ?i40 ?l40 ?c40 ?k40 ?a41 ?i41 ?l41 ?c41 ?k41 ?a42 ?i42 ?l42 ?c42 ?k42 ?pg ?hd ?po ?sa ?mk ?kc ?nM ?nS ?nF ?t1 ?t2 ?t3 ?t4 ?mM ?z0 ?z1 ?z2 ?z3 ?z4 ?z5 ?z6 ?z7 ?z8 ?z9 ?z10 ?z11 ?z12 ?z13 ?z14 ?z15 ?z16 ?z17
    (case a1 => k_is)
    (case l1 => k_is)
    (case c1 => k_is)
    (case k1 => k_is)
    (case a2 => k_is)
    (case l2 => k_is)
    (case c2 => k_is)
    (case k2 => k_is)
    (case a3 => k_is)
    (case l3 => k_is)
    (case c3 => k_is)
    (case k3 => k_is)
    (case a4 => k_is)
    (case l4 => k_is)
    (case c4 => k_is)
    (case k4 => k_is)
    (case a5 => k_is)
    (case l5 => k_is)
    (case c5 => k_is)
    (case k5 => k_is)
    (case a6 => k_is)
    (case l6 => k_is)
    (case c6 => k_is)
    (case k6 => k_is)
    (case a7 => k_is)
    (case l7 => k_is)
    (case c7 => k_is)
    (case k7 => k_is)
    (case a8 => k_is)
    (case l8 => k_is)
    (case c8 => k_is)
    (case k8 => k_is)
    (case a9 => k_is)
    (case l9 => k_is)
    (case c9 => k_is)
    (case k9 => k_is)
    (case a10 => k_is)
    (case l10 => k_is)
    (case c10 => k_is)
    (case k10 => k_is)
    (case a11 => k_is)
    (case l11 => k_is)
    (case c11 => k_is)
    (case k11 => k_is)
    (case a12 => k_is)
    (case l12 => k_is)
    (case c12 => k_is)
    (case k12 => k_is)
    (case a13 => k_is)
    (case l13 => k_is)
    (case c13 => k_is)
    (case k13 => k_is)
    (case a14 => k_is)
    (case l14 => k_is)
    (case c14 => k_is)
    (case k14 => k_is)
    (case a15 => k_is)
    (case l15 => k_is)
    (case c15 => k_is)
    (case k15 => k_is)
    (case a16 => k_is)
    (case l16 => k_is)
    (case c16 => k_is)
    (case k16 => k_is)
    (case a17 => k_is)
    (case l17 => k_is)
    (case c17 => k_is)
    (case k17 => k_is)
    (case a18 => k_is)
    (case l18 => k_is)
    (case c18 => k_is)
    (case k18 => k_is)
    (case a19 => k_is)
    (case l19 => k_is)
    (case c19 => k_is)
    (case k19 => k_is)
    (case a20 => k_is)
    (case l20 => k_is)
    (case c20 => k_is)
    (case k20 => k_is)
    (case a21 => k_is)
    (case l21 => k_is)
    (case c21 => k_is)
    (case k21 => k_is)
    (case a22 => k_is)
    (case l22 => k_is)
    (case c22 => k_is)
    (case k22 => k_is)
    (case a23 => k_is)
    (case l23 => k_is)
    (case c23 => k_is)
    (case k23 => k_is)
    (case a24 => k_is)
    (case l24 => k_is)
    (case c24 => k_is)
    (case k24 => k_is)
    (case a25 => k_is)
    (case l25 => k_is)
    (case c25 => k_is)
    (case k25 => k_is)
    (case a26 => k_is)
    (case l26 => k_is)
    (case c26 => k_is)
    (case k26 => k_is)
    (case a27 => k_is)
    (case l27 => k_is)
    (case c27 => k_is)
    (case k27 => k_is)
    (case a28 => k_is)
    (case l28 => k_is)
    (case c28 => k_is)
    (case k28 => k_is)
    (case a29 => k_is)
    (case l29 => k_is)
    (case c29 => k_is)
    (case k29 => k_is)
    (case a30 => k_is)
    (case l30 => k_is)
    (case c30 => k_is)
    (case k30 => k_is)
    (case a31 => k_is)
    (case l31 => k_is)
    (case c31 => k_is)
    (case k31 => k_is)
    (case a32 => k_is)
    (case l32 => k_is)
    (case c32 => k_is)
    (case k32 => k_is)
    (case a33 => k_is)
    (case l33 => k_is)
    (case c33 => k_is)
    (case k33 => k_is)
    (case a34 => k_is)
    (case l34 => k_is)
    (case c34 => k_is)
    (case k34 => k_is)
    (case a35 => k_is)
    (case l35 => k_is)
    (case c35 => k_is)
    (case k35 => k_is)
    (case a36 => k_is)
    (case l36 => k_is)
    (case c36 => k_is)
    (case k36 => k_is)
    (case a37 => k_is)
    (case l37 => k_is)
    (case c37 => k_is)
    (case k37 => k_is)
    (case a38 => k_is)
    (case l38 => k_is)
    (case c38 => k_is)
    (case k38 => k_is)
    (case aC => k_is)
    (case a39 => k_is)
    (case i39 => k_is)
    (case l39 => k_is)
    (case c39 => k_is)
    (case k39 => k_is)
    (case a40 => k_is)
    (case i40 => k_is)
    (case l40 => k_is)
    (case c40 => k_is)
    (case k40 => k_is)
    (case a41 => k_is)
    (case i41 => k_is)
    (case l41 => k_is)
    (case c41 => k_is)
    (case k41 => k_is)
    (case a42 => k_is)
    (case i42 => k_is)
    (case l42 => k_is)
    (case c42 => k_is)
    (case k42 => k_is)
    (case pg => k_is)
    (case hd => k_is)
    (case po => k_is)
    (case sa => k_is)
    (case mk => k_is)
    (case kc => k_is)
    (case nM => k_is)
    (case nS => k_is)
    (case nF => k_is)
    (case t1 => k_is)
    (case t2 => k_is)
    (case t3 => k_is)
    (case t4 => k_is)
    (case mM => k_is)
    (case z0 => k_is)
    (case z1 => k_is)
    (case z2 => k_is)
    (case z3 => k_is)
    (case z4 => k_is)
    (case z5 => k_is)
    (case z6 => k_is)
    (case z7 => k_is)
    (case z8 => k_is)
    (case z9 => k_is)
    (case z10 => k_is)
    (case z11 => k_is)
    (case z12 => k_is)
    (case z13 => k_is)
    (case z14 => k_is)
    (case z15 => k_is)
    (case z16 => k_is)
    (case z17 => k_is)
