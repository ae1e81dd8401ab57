import PyProof.Rows.All
import Wide.All
import OpenK.AllK
import Wide.FinOn
import HandS.ForMost
import HandS.TupSets
import KE.GoesEnum
import HandS.Style
import KE.KRevSl
import PyProof.ReprRoads
import HandS.OwnEq
import PyProof.InstNe
import HandS.IsInst
import HandS.Walk
import HandS.Zip
import HandS.TupAny
import HandS.Deep
import HandS.Conv
import HandS.More
import HandS.Wide
import HandS.SortRule
import HandS.SortOrd
import KE.KDictSum
import KE.KDictPairs
import PyProof.ReprBulk
import HandS.Strs
import HandS.RaiseMore
import HandS.Flow
import HandS.SortInts
import HandS.TupMul
import HandS.Dict
import HandS.WordsDict
import HandS.SetBool
import KE.DataMinMax
import HandS.NamedTupSort
import KE.KDictZip
import KE.KItemsList
import KE.GoesMore
import HandS.ListItems
import HandS.Rev
import HandS.Iter
import HandS.SortKw
import PySem.Challenge.RW_ringvouch_k75_whole_all_rings_gone_throu
set_option Elab.async false
set_option linter.all false
set_option maxRecDepth 100000
namespace RV
open PySem L2
/-! ### lists that rise -/
theorem sorted_eq {α : Type} {f : α → Int} : ∀ {l l' : List α}, l.Pairwise (fun a b => f a < f b) → l'.Pairwise (fun a b => f a < f b) → (∀ x, x ∈ l ↔ x ∈ l') → l = l'
  | [], [], _, _, _ => rfl
  | [], y :: r, _, _, h => nomatch (h y).mpr (List.mem_cons_self ..)
  | x :: r, [], _, _, h => nomatch (h x).mp (List.mem_cons_self ..)
  | x :: l, y :: l', h1, h2, h => by
    rw [List.pairwise_cons] at h1 h2
    have exy : x = y := by
      rcases List.mem_cons.mp ((h x).mp (List.mem_cons_self ..)) with e | e
      · exact e
      · rcases List.mem_cons.mp ((h y).mpr (List.mem_cons_self ..)) with e' | e'
        · exact e'.symm
        · have := h2.1 x e
          have := h1.1 y e'
          omega
    subst exy
    rw [sorted_eq h1.2 h2.2 fun z => ⟨fun hz => ?_, fun hz => ?_⟩]
    · rcases List.mem_cons.mp ((h z).mp (List.mem_cons_of_mem _ hz)) with e | e
      · have := h1.1 z hz
        rw [e] at this; omega
      · exact e
    · rcases List.mem_cons.mp ((h z).mpr (List.mem_cons_of_mem _ hz)) with e | e
      · have := h2.1 z hz
        rw [e] at this; omega
      · exact e
theorem nodup_le {α : Type} [DecidableEq α] : ∀ {l us : List α}, l.Nodup → (∀ x ∈ l, x ∈ us) → l.length ≤ us.length
  | [], _, _, _ => Nat.zero_le _
  | x :: l, us, h, hs => by
    rw [List.nodup_cons] at h
    have hx := hs x (List.mem_cons_self ..)
    have ih : l.length ≤ (us.erase x).length := nodup_le h.2 fun z hz => by
      refine (List.mem_erase_of_ne fun e => ?_).mpr (hs z (List.mem_cons_of_mem _ hz))
      subst e; exact h.1 hz
    have hl := List.length_erase_of_mem hx
    have hp : 0 < us.length := List.length_pos_of_mem hx
    rw [List.length_cons]; omega
/-! ### pairs -/
/-- a pair of marks below b -/
def Pr (b : Int) (p : List Int) : Prop := ∃ x y : Int, p = [x, y] ∧ (0 ≤ x ∧ x < b) ∧ (0 ≤ y ∧ y < b)
abbrev cd (p : List Int) : Int := TS.code 64 p
theorem cd_pair (x y : Int) : cd [x, y] = x * 64 + y := code_pair x y
theorem lt_lex {p q : List Int} (hp : Pr 64 p) (hq : Pr 64 q) (h : cd p < cd q) : HT.lexLt p q = true := by
  obtain ⟨x, y, rfl, hx, hy⟩ := hp
  obtain ⟨x', y', rfl, hx', hy'⟩ := hq
  rw [cd_pair, cd_pair] at h
  rw [HT.lexLt_cons, HT.lexLt_cons, HT.lexLt_nil_nil]
  by_cases e : x = x'
  · rw [if_pos e]
    have : y < y' := by omega
    rw [if_neg (by omega)]; exact decide_eq_true this
  · rw [if_neg e]; exact decide_eq_true (by omega)
theorem lt_of {p q : List Int} (hp : Pr 64 p) (hq : Pr 64 q) (h : cd p ≤ cd q) (ne : p ≠ q) : cd p < cd q := by
  obtain ⟨x, y, rfl, hx, hy⟩ := hp
  obtain ⟨x', y', rfl, hx', hy'⟩ := hq
  have z := pair_lt h ne hx hy hx' hy'
  rw [cd_pair, cd_pair]
  omega
theorem Pr.mono {b c : Int} {p : List Int} (h : Pr b p) (hbc : b ≤ c) : Pr c p := by
  obtain ⟨x, y, e, hx, hy⟩ := h
  exact ⟨x, y, e, by omega, by omega⟩
theorem sorted_lt {l : List (List Int)} (hb : ∀ p ∈ l, Pr 64 p) (nd : l.Nodup) (h : l.Pairwise fun p q => cd p ≤ cd q) : l.Pairwise fun p q => cd p < cd q := by
  have h2 := List.Pairwise.and h nd
  exact List.Pairwise.imp_of_mem (fun {p q} hp hq z => lt_of (hb p hp) (hb q hq) z.1 z.2) h2
theorem adj_rise {l : List (List Int)} (hb : ∀ p ∈ l, Pr 64 p) (h : l.Pairwise fun p q => cd p < cd q) (i : Nat) (p q : List Int) (h1 : l[i]? = some p) (h2 : l[i + 1]? = some q) : HT.lexLt p q = true := by
  obtain ⟨l1, e1⟩ := List.getElem?_eq_some_iff.mp h1
  obtain ⟨l2, e2⟩ := List.getElem?_eq_some_iff.mp h2
  have := List.pairwise_iff_getElem.mp h i (i + 1) l1 l2 (Nat.lt_succ_self _)
  rw [e1, e2] at this
  exact lt_lex (hb p (List.mem_of_getElem? h1)) (hb q (List.mem_of_getElem? h2)) this
/-! ### all pairs, row by row -/
def rowOf (d : Int) (Pd : Int → Int → Bool) (i n : Nat) : List (List Int) := ((List.range n).filter fun (j : Nat) => Pd (i : Int) (j : Int)).map fun (j : Nat) => [d + (i : Int), d + (j : Int)]
def gridOf (d : Int) (Pd : Int → Int → Bool) (m n : Nat) : List (List Int) := (List.range n).flatMap fun (i : Nat) => rowOf d Pd i m
theorem row_next (d : Int) (Pd : Int → Int → Bool) (i n : Nat) : rowOf d Pd i (n + 1) = rowOf d Pd i n ++ (if Pd (i : Int) (n : Int) = true then [[d + (i : Int), d + (n : Int)]] else []) := by
  unfold rowOf
  rw [List.range_succ, List.filter_append, List.map_append]
  by_cases h : Pd (i : Int) (n : Int) = true <;> simp [h]
theorem grid_next (d : Int) (Pd : Int → Int → Bool) (m n : Nat) : gridOf d Pd m (n + 1) = gridOf d Pd m n ++ rowOf d Pd n m := by
  unfold gridOf
  rw [List.range_succ, List.flatMap_append]; simp
theorem row_len (d : Int) (Pd : Int → Int → Bool) (i n : Nat) : (rowOf d Pd i n).length ≤ n := by
  unfold rowOf
  rw [List.length_map]
  exact Nat.le_trans (List.length_filter_le _ _) (by rw [List.length_range]; exact Nat.le_refl _)
theorem grid_len (d : Int) (Pd : Int → Int → Bool) (m : Nat) : ∀ n, (gridOf d Pd m n).length ≤ n * m
  | 0 => by simp [gridOf]
  | n + 1 => by
    have h := grid_len d Pd m n
    have h2 := row_len d Pd n m
    rw [grid_next, List.length_append, Nat.succ_mul]; omega
theorem mem_row {d : Int} {Pd : Int → Int → Bool} {i n : Nat} {p : List Int} : p ∈ rowOf d Pd i n ↔ ∃ j : Nat, j < n ∧ Pd (i : Int) (j : Int) = true ∧ p = [d + (i : Int), d + (j : Int)] := by
  unfold rowOf
  rw [List.mem_map]
  constructor
  · rintro ⟨j, hj, e⟩
    rw [List.mem_filter, List.mem_range] at hj
    exact ⟨j, hj.1, hj.2, e.symm⟩
  · rintro ⟨j, h1, h2, e⟩
    exact ⟨j, List.mem_filter.mpr ⟨List.mem_range.mpr h1, h2⟩, e.symm⟩
theorem mem_grid {d : Int} {Pd : Int → Int → Bool} {m n : Nat} {p : List Int} : p ∈ gridOf d Pd m n ↔ ∃ i j : Nat, i < n ∧ j < m ∧ Pd (i : Int) (j : Int) = true ∧ p = [d + (i : Int), d + (j : Int)] := by
  unfold gridOf
  rw [List.mem_flatMap]
  constructor
  · rintro ⟨i, hi, hp⟩
    obtain ⟨j, h1, h2, h3⟩ := mem_row.mp hp
    exact ⟨i, j, List.mem_range.mp hi, h1, h2, h3⟩
  · rintro ⟨i, j, h1, h2, h3, h4⟩
    exact ⟨i, List.mem_range.mpr h1, mem_row.mpr ⟨j, h2, h3, h4⟩⟩
theorem grid_rise {d : Int} {Pd : Int → Int → Bool} {m n : Nat} (hd : 0 ≤ d) (hm : d + (m : Int) ≤ 64) : (gridOf d Pd m n).Pairwise fun p q => cd p < cd q := by
  unfold gridOf
  rw [List.pairwise_flatMap]
  refine ⟨fun i _ => ?_, ?_⟩
  · unfold rowOf
    rw [List.pairwise_map]
    refine List.Pairwise.imp (fun {a b} (h : a < b) => ?_) (List.Pairwise.filter _ List.pairwise_lt_range)
    rw [cd_pair, cd_pair]; omega
  · refine List.Pairwise.imp (fun {a b} (h : a < b) x hx y hy => ?_) List.pairwise_lt_range
    obtain ⟨j, h1, _, rfl⟩ := mem_row.mp hx
    obtain ⟨k, h2, _, rfl⟩ := mem_row.mp hy
    rw [cd_pair, cd_pair]; omega
theorem grid_pr {d : Int} {Pd : Int → Int → Bool} {m n : Nat} {b : Int} (hd : 0 ≤ d) (hm : d + (m : Int) ≤ b) (hn : d + (n : Int) ≤ b) : ∀ p ∈ gridOf d Pd m n, Pr b p := by
  intro p hp
  obtain ⟨i, j, h1, h2, _, rfl⟩ := mem_grid.mp hp
  exact ⟨_, _, rfl, by omega, by omega⟩
end RV
namespace RV
open PySem PySem.Spec PyProof.Rows L2
set_option maxHeartbeats 4000000 in
theorem meets_en1 {val : Value} {ob : Obj} {HH : Heap → Prop} (B : Begins val ob HH) :
    Meets (Builtin.«enumerate.__new__» ⟨[.type "enumerate", val], []⟩) (fun _ R st => HH st.heap ∧
      R (.ok (.ret (.ref (st.heap.push ob).objs.size)))
        { st with heap := (st.heap.push ob).push { cls := .type "enumerate", data := .fields #[.none, .bool false, .ref st.heap.objs.size, rawInt 0, .none, .none] } }) :=
  .of_wp fun prog w A R st hyp => by
    obtain ⟨hp, gs, dr, tk, os⟩ := st
    obtain ⟨hyp1, hyp2⟩ := hyp
    have hsub := sub_enumerate
    have it1 : ∀ {A' : Around} {E : Value → Shared → Prop} {Q : Value → Shared → Prop}, Q (.ref hp.objs.size) ⟨hp.push ob, gs, dr, tk, os⟩ →
        wpAny (model prog w) A' (pyIter val) Q E ⟨hp, gs, dr, tk, os⟩ := fun q => B.iter prog w _ _ ⟨hp, gs, dr, tk, os⟩ _ hyp1 q
    wp_walk using it1
    refine wpAny_stack_any fun sk => wpAny_pure ?_
    split
    · rename_i cc _ _ _ _ _
      cases (cc == Value.type "enumerate") <;> (wp_walk using it1; exact ⟨_, rfl, hyp2⟩)
    · wp_walk using it1
      exact ⟨_, rfl, hyp2⟩
section
variable {prog : Program} {w : World} {A : Around} {E : Value → Shared → Prop} {s : Shared}
theorem call_en1 {val : Value} {ob : Obj} {HH : Heap → Prop} {Q : Value → Shared → Prop} (B : Begins val ob HH) (hh : HH s.heap)
    (k : ∀ h', IsEnum h' (s.heap.objs.size + 1) s.heap.objs.size 0 .none → h'.get? s.heap.objs.size = some ob → h'.objs.size = s.heap.objs.size + 2 →
      (∀ b o, s.heap.get? b = some o → h'.get? b = some o) → Q (.ref (s.heap.objs.size + 1)) { s with heap := h' }) :
    wpAny (model prog w) A (call (.type "enumerate") [val]) Q E s := by
  refine callType_new F.called_enumerate (by decide) (F.typeCall_enumerate_1 _) (F.newCall_enumerate_1 _) (fun oo => F.args_object_init_2 oo _) F.entry_enumerate_new (meets_en1 B) ⟨hh, ?_⟩
  have z1 : (s.heap.push ob).objs.size = s.heap.objs.size + 1 := Heap.size_push ..
  show _ ∧ _
  rw [z1]
  have z2 : IsEnum ((s.heap.push ob).push { cls := .type "enumerate", data := .fields #[.none, .bool false, .ref s.heap.objs.size, rawInt 0, .none, .none] }) (s.heap.objs.size + 1) s.heap.objs.size 0 .none := by
    have z3 := Heap.get?_push_size (s.heap.push ob) (o := { cls := .type "enumerate", data := .fields #[.none, .bool false, .ref s.heap.objs.size, rawInt 0, .none, .none] }) rfl
    rw [z1] at z3; exact z3
  refine ⟨⟨_, z2, rfl⟩, k _ z2 (Heap.get?_push_of_some _ (Heap.get?_push_size _ B.free)) (by rw [Heap.size_push, z1]) fun b o x => ?_⟩
  exact Heap.get?_push_of_some _ (Heap.get?_push_of_some _ x)
end
/-- enumerate of a tuple: the items in new pairs -/
def IteT (K : PySem.W.Frag) (a : Addr) : It where
  go i H := ∃ (xs : List V) (x : V), SqT K H a xs ∧ xs[i]? = some x
  yld i H v H' := ∃ T x, v = .ref T ∧ H T = none ∧ H' = upd H T (.tup [.int (i : Nat), x]) ∧ ∀ xs, SqT K H a xs → xs[i]? = some x
  stop i H := ∃ xs : List V, SqT K H a xs ∧ xs.length ≤ i
theorem turn_enT {P : Program} {w : World} {K : PySem.W.Frag} {elts : List Expr} {kk : Nat} {tpos : Pos} (a e it : Addr) :
    Turn P w K (.Tuple elts kk tpos) (IteT K a) [e, it] e (fun i h => (∃ old, IsEnum h e it ((i : Nat) : Int) old) ∧ h.IsTupleIter it a i ∧ e ≠ it ∧ a ≠ it ∧ a ≠ e) where
  mem := by simp
  obj := fun i h st b hb => by
    obtain ⟨⟨old, he⟩, ⟨o, ho, hc, hd⟩, _, _⟩ := st
    have eb : b = e ∨ b = it := by simpa using hb
    rcases eb with rfl | rfl
    · exact ⟨_, he, fun v q => nomatch q⟩
    · exact ⟨o, ho, fun v q => by rw [hd] at q; cases q⟩
  keep := fun i h h' st k => let ⟨⟨old, he⟩, hi, hne⟩ := st; ⟨⟨old, k e (by simp) _ he⟩, hi.at fun o q => k it (by simp) o q, hne⟩
  item := by
    intro X hP hw hK hc i pins s σ H E I hf st hg
    subst hP hw hK
    obtain ⟨⟨old, he⟩, hit, hne, hai, hae⟩ := st
    obtain ⟨xs, x, hq, hx⟩ := hg
    obtain ⟨its, rv, p, hz⟩ := I.tuple hq
    obtain ⟨u, hu, ru⟩ := rv.get hx
    have hel : e < s.heap.objs.size := Heap.lt_size he
    have hil : it < s.heap.objs.size := by obtain ⟨_, q, _⟩ := hit; exact Heap.lt_size q
    have hi : i < its.toArray.size := by
      have := (List.getElem?_eq_some_iff.mp hu).1
      simpa using this
    refine wpAny_pyNext_enum_itemD (A := X.A) (Draws.tuple (A := X.A.in1) (show X.A.in1.handled = none from I.ok.hd hc) it a hai its.toArray) he ⟨hit, p⟩ hi hne (by simp [hne, Ne.symm hae]) fun y h' tk hy ho hst hT hsz hk => ?_
    have hyu : y = u := by
      have e1 : its[i]? = some y := by simpa using hy
      rw [hu] at e1
      exact (Option.some.inj e1).symm
    subst hyu
    refine ⟨_, rfl, wpAny_letOwnedTupleGo_enum (s := { s with heap := h', toks := tk + 1 }) ho fun h'' he' sb => ?_⟩
    have hT2 : h''.get? s.heap.objs.size = some { cls := .type "tuple", data := .seq #[.int i tk, y] } := (sb.2 _ (Nat.ne_of_gt hel)).trans hT
    have new : ObjOk X.prog X.w (upd H s.heap.objs.size (.tup [.int (i : Nat), x])) h'' s.heap.objs.size (.tup [.int (i : Nat), x]) :=
      ⟨by show 2 ≤ sizeLine; decide, [.int i tk, y], .cons ⟨_, rfl⟩ (.cons ru .nil), ⟨_, hT2, rfl, _, rfl⟩⟩
    have I1 : Inv X pins σ (upd H s.heap.objs.size (.tup [.int (i : Nat), x])) { s with heap := h'', toks := tk + 1 } := by
      refine I.turnedNew (ch := [e, it]) (fun b ob hb q => ?_) hf (Nat.le_refl _) new
      exact (sb.2 b (fun z => hb (by simp [z]))).trans (hk b ob (fun z => hb (by simp [z])) (fun z => hb (by simp [z])) q)
    refine ⟨.ref s.heap.objs.size, _, I1, rfl, ⟨_, x, rfl, I.hok.fresh (Nat.le_refl _), rfl, fun ys hy => ?_⟩, ⟨⟨y, ?_⟩, hst.1.at fun o q => (sb.2 it (Ne.symm hne)).trans q, hne, hai, hae⟩, fun b hb => ?_⟩
    · rw [I.tuple_inj hy hq]; exact hx
    · rw [show ((i + 1 : Nat) : Int) = (i : Int) + 1 by omega]; exact he'
    · have eb : b = e ∨ b = it := by simpa using hb
      have hb' : b < s.heap.objs.size := by
        rcases eb with z | z <;> rw [z] <;> assumption
      rw [upd_ne (Nat.ne_of_lt hb')]
      exact (hf b hb).1
  done := by
    intro X hP hw hK hc i pins s σ H E I hf st hg
    subst hP hw hK
    obtain ⟨⟨old, he⟩, hit, hne, hai, hae⟩ := st
    obtain ⟨xs, hq, hx⟩ := hg
    obtain ⟨its, rv, p, hz⟩ := I.tuple hq
    obtain ⟨f0, f1, f2, f3, f4, f5⟩ := hf it (by simp)
    have hl := rv.length
    have hT : s.TypeIs (.ref e) "enumerate" := ⟨_, he, rfl⟩
    unfold pyNext
    refine wpAny_bind (wpAny_attempt (wpAny_callSpecial?_slot (name := Str.ofString "__next__") hT F.slot_enumerate_next (wpAny_call_entry F.slot_enumerate_next hT F.entry_enumerate_next ?_ (F.args_enumerate_next_1 _))))
    show wpAny _ _ (field (.ref e) 2 >>= _) _ _ _
    refine wpAny_bind (wpAny_field he rfl (x := .ref it) rfl ?_)
    refine wpAny_bind (wpAny_nextOf_tuple_end (I.ok.hd hc) hit p (by simp; omega) fun h' x he' hx' => ?_)
    obtain ⟨o, ho, hco⟩ := hx'
    refine wpAny_bind (wpAny_isInstance (T := "StopIteration") (b := true) ⟨o, ho, hco⟩ isSubtype_stop ?_)
    exact wpAny_pure ⟨rfl, I.turned (t' := s.toks) (fun b o hb q => he' b o hb q) f0 f1 f3 f4 f5⟩
  self := fun A i s Q E st h => let ⟨⟨_, he⟩, _⟩ := st; wpAny_pyIter_enum he h
def iEnT (K : PySem.W.Frag) (ta : TA) : TI := fun σ H R => ta σ H fun vs H1 => ∃ a xs, vs = [.ref a] ∧ SqT K H1 a xs ∧ R (IteT K a) H1
theorem pi_enT {X : Cx} {e : Expr} {ta : TA} {p pos tpos : Pos} {elts : List Expr} {kk : Nat} (hg : Gl X "enumerate") (hm : X.mg "enumerate" = none) (ha : PA X [e] ta)
    (hs : starEach [e] X.env = [(false, eval e X.env)] := by rfl) : PI X (.Tuple elts kk tpos) (.Call (.Name "enumerate" p) [e] [] pos) (iEnT X.K ta) := by
  refine ⟨fun pins s σ H R I h => Call_ (ld_blt I hg hm boot_enumerate (PyProof.Rows.callWith_type1 (thn (ha.run pos pins s σ H _ I h) fun us s1 ⟨vs, H1, I1, r1, q1⟩ => ?_) hs rfl))⟩
  obtain ⟨a, xs, ex, hq, q⟩ := q1
  subst ex
  cases r1 with
  | cons r rr =>
    cases rr
    cases r
    obtain ⟨its, rv, p', hz⟩ := I1.tuple hq
    have ha0 : a < s1.heap.objs.size := by
      obtain ⟨o, ho, _⟩ := p'
      exact Heap.lt_size ho
    refine call_en1 (begins_tuple a its.toArray) p' fun h' he hit hsz hk => wpAny_pyIter_enum he ?_
    have I2 : Inv X pins σ H1 { s1 with heap := h' } := I1.kept (t' := s1.toks) hk
    refine ⟨s1.heap.objs.size + 1, [s1.heap.objs.size + 1, s1.heap.objs.size], _, _, H1, rfl, I2, turn_enT a (s1.heap.objs.size + 1) s1.heap.objs.size,
      ⟨⟨.none, he⟩, ⟨_, hit, rfl, rfl⟩, Nat.succ_ne_self _, Nat.ne_of_lt ha0, Nat.ne_of_lt (Nat.lt_succ_of_lt ha0)⟩, fun b hb => ?_, q⟩
    have eb : b = s1.heap.objs.size + 1 ∨ b = s1.heap.objs.size := by simpa using hb
    have hle : s1.heap.objs.size ≤ b := by
      rcases eb with z | z
      · rw [z]; exact Nat.le_add_right _ _
      · rw [z]; exact Nat.le_refl _
    exact I1.fpOk hle (I1.hok.fresh hle)
end RV
set_option maxHeartbeats 4000000
namespace RV
open PySem PySem.Spec PyProof.Rows L2 HT
theorem back_places (n : Nat) : Builtin.Slice.slicePlaces ((n : Int) - 1) (-1) (-1) = n := by
  unfold Builtin.Slice.slicePlaces
  rw [if_neg (show ¬ ((-1 : Int) > 0) by decide)]
  by_cases hn : (n : Int) - 1 > -1
  · rw [if_pos hn, show (- -1 : Int) = 1 from rfl, Int.ediv_one]; omega
  · rw [if_neg hn]; omega
theorem back_pick (xs : Array Value) : ((List.range xs.size).filterMap fun (m : Nat) => xs[((xs.size : Int) - 1 + (m : Int) * (-1)).toNat]?).toArray = xs.toList.reverse.toArray := by
  have e0 : ∀ (l : List Nat), (∀ m ∈ l, m < xs.size) → l.filterMap (fun (m : Nat) => xs[((xs.size : Int) - 1 + (m : Int) * (-1)).toNat]?) = (l.map fun k => xs.size - 1 - k).filterMap (xs[·]?) := by
    intro l
    induction l with
    | nil => intro _; rfl
    | cons m r ih =>
      intro hm
      have h1 := hm m (List.mem_cons_self ..)
      have h2 := ih fun z hz => hm z (List.mem_cons_of_mem _ hz)
      rw [List.map_cons, List.filterMap_cons, List.filterMap_cons, h2, show ((xs.size : Int) - 1 + (m : Int) * (-1)).toNat = xs.size - 1 - m by omega]
  have e1 := e0 (List.range xs.size) fun m hm => List.mem_range.mp hm
  rw [e1, PySem.W.krv_range, List.filterMap_reverse, PySem.W.krv_all]
section
variable {prog : Program} {w : World} {A : Around} {E : Value → Shared → Prop} {s : Shared}
theorem applied_back {sl : Addr} {vl vu vs : Value} {n : Nat} {Q : Int × Int × Nat → Shared → Prop} (hs : s.heap.IsSliceOf sl vl vu vs) (pl : IsPart vl none) (pu : IsPart vu none) (ps : IsPart vs (some (-1)))
    (k : Q ((n : Int) - 1, -1, n) s) : wpAny (model prog w) A (Builtin.Slice.sliceApplied (.ref sl) (pure (n : Int))) Q E s := by
  obtain ⟨os, o1, o2, o3⟩ := id hs
  unfold Builtin.Slice.sliceApplied Builtin.Slice.sliceFields
  refine wpAny_bind (wpAny_bind (wpAny_field o1 o3 (x := vl) rfl (wpAny_bind (wpAny_field o1 o3 (x := vu) rfl (wpAny_bind (wpAny_field o1 o3 (x := vs) rfl (wpAny_pure ?_)))))))
  refine wpAny_bind (slicePart_ ps ?_)
  show wpAny _ _ (if ((-1 : Int) == 0) = true then _ else _) _ _ s
  rw [if_neg (by decide)]
  refine wpAny_bind (slicePart_ pl (wpAny_bind (slicePart_ pu (wpAny_bind (wpAny_pure ?_)))))
  show wpAny _ _ (pure ((n : Int) - 1, (-1 : Int), Builtin.Slice.slicePlaces ((n : Int) - 1) (-1) (-1))) _ _ s
  rw [back_places]
  exact wpAny_pure k
theorem item_back {t sl : Addr} {items : Array Value} {vl vu vs : Value} {Q : Value → Shared → Prop} (ht : IsTup s.heap t items) (hs : s.heap.IsSliceOf sl vl vu vs) (pl : IsPart vl none) (pu : IsPart vu none) (ps : IsPart vs (some (-1)))
    (k : Q (.ref s.heap.objs.size) { s with heap := s.heap.push { cls := .type "tuple", data := .seq items.toList.reverse.toArray } })
    (hsz : items.size ≤ sizeLine) : wpAny (model prog w) A (getItem (.ref t) (.ref sl)) Q E s := by
  have hok : sizeOk (.seq items.toList.reverse.toArray) := by
    show items.toList.reverse.toArray.size ≤ sizeLine
    simpa using hsz
  obtain ⟨os, o1, o2, o3⟩ := id hs
  have hTs : s.TypeIs (.ref sl) "slice" := ⟨os, o1, o2⟩
  unfold getItem
  try with_reducible refine wpAny_holding ?_
  first | refine wpAny_bind (wpAny_pure ?_) | skip
  refine wpAny_bind (wpAny_sequenceKey ht.typeIs (by decide) ?_)
  refine wpAny_bind (wpAny_callSpecial?_slot (name := Str.ofString "__getitem__") ht.typeIs PyProof.Rows.slot_tuple_getitem (wpAny_call_entry PyProof.Rows.slot_tuple_getitem ht.typeIs entry_tuple_getitem ?_ (args_tuple_getitem _ _)))
  show wpAny _ _ (Builtin.Tuple.tupleItemsOf (.ref t) >>= _) _ _ s
  refine wpAny_bind (tupleItemsOf_ ht (wpAny_bind (wpAny_typeOf hTs ?_)))
  rw [if_pos (by decide)]
  refine wpAny_bind (applied_back hs pl pu ps ?_)
  show wpAny _ _ (if (((items.size : Int) - 1) == 0 && (-1 : Int) == 1 && items.size == items.size) = true then _ else _) _ _ s
  rw [if_neg (by simp), back_pick]
  first
    | exact wpAny_bind (m := Builtin.Tuple.tupleExact _) (wpAny_newObj_type (wpAny_pure ⟨_, rfl, wpAny_pure k⟩) hok)
    | exact wpAny_bind (wpAny_bind (m := Builtin.Tuple.tupleExact _) (wpAny_newObj_type (wpAny_pure (wpAny_pure ⟨_, rfl, wpAny_pure k⟩)) hok))
    | exact wpAny_bind (wpAny_bind (m := Builtin.Tuple.tupleExact _) (wpAny_newObj_type (wpAny_pure ⟨_, rfl, wpAny_pure k⟩) hok))
    | exact wpAny_bind (m := Builtin.Tuple.tupleExact _) (wpAny_newObj_type (wpAny_bind (wpAny_pure (wpAny_pure ⟨_, rfl, wpAny_pure k⟩))) hok)
end
section
variable {X : Cx}
/-- t[::-1] of a tuple -/
def tBackT (K : PySem.W.Frag) (te : TE) : TE := fun σ H Q => te σ H fun x H1 => ∃ a xs, x = .ref a ∧ SqT K H1 a xs ∧ ∀ p, H1 p = none → Q (.ref p) (upd H1 p (.tup xs.reverse))
theorem pe_backT {e : Expr} {te : TE} {k : Nat} {p1 p2 p3 pos : Pos} (he : PE X e te) : PE X (.Subscript e (.Slice none none (some (.UnaryOp .USub (.Constant (.int 1) k p1) p2)) p3) pos) (tBackT X.K te) := by
  refine ⟨fun pins s σ H Q I h => Subscript_ (thn (he.run pins s σ H _ I h) fun v s1 ⟨x, H1, I1, r1, q1⟩ => ?_)⟩
  obtain ⟨a, xs, ex, hx, q⟩ := q1
  subst ex
  cases r1
  have hst : PO X (some (.UnaryOp .USub (.Constant (.int 1) k p1) p2)) (tPart (tUn (rU fun i => .int (-i)) (tC (.int 1)))) := po_some (pe_un un_neg pe_int)
  refine wpAny_Slice (thn (po_none.run pins s1 σ H1 (fun o H2 => o = none ∧ H2 = H1) I1 ⟨rfl, rfl⟩) fun vl s2 ⟨l, H2, I2, pl, el, e2⟩ => ?_)
  subst el e2
  refine thn (po_none.run pins s2 σ H2 (fun o H3 => o = none ∧ H3 = H2) I2 ⟨rfl, rfl⟩) fun vu s3 ⟨u, H3, I3, pu, eu, e3⟩ => ?_
  subst eu e3
  refine thn (hst.run pins s3 σ H3 (fun o H4 => o = some (-1) ∧ H4 = H3) I3 ⟨1, rfl, -1, rfl, rfl, rfl⟩) fun vs s4 ⟨o, H4, I4, ps, eo, e4⟩ => ?_
  subst eo e4
  have I5 : Inv X pins σ H4 { s4 with heap := s4.heap.push { cls := .type "slice", data := .fields #[vl, vu, vs] } } := I4.kept (t' := s4.toks) fun b ob q => Heap.get?_push_of_some _ q
  obtain ⟨its, r, ht, hz⟩ := I5.tuple hx
  have hlen := r.length
  show wpAny (model X.prog X.w) X.A (subscriptTail e _ (.ref a) (.ref s4.heap.objs.size)) (EP X pins σ Q) X.xe { s4 with heap := s4.heap.push { cls := .type "slice", data := .fields #[vl, vu, vs] } }
  refine tail_any (ops := [.ref a, .ref s4.heap.objs.size]) ht.typeIs (PyProof.Rows.slot_tuple_getitem.lookup) ?_ (by with_unfolding_all rfl)
  refine item_back ht (Heap.IsSliceOf.new _ vl vu vs) pl pu ps ?_ (by rw [List.size_toArray]; omega)
  refine ⟨.ref _, _, I5.laid (t' := s4.toks) (o := .tup xs.reverse) (fun b ob q => Heap.get?_push_of_some _ q) (Nat.le_refl _) ?_, rfl, q _ (I5.hok.fresh (Nat.le_refl _))⟩
  exact ⟨by rw [List.length_reverse]; exact hz, its.reverse, r.reverse, IsTup.new _ _⟩
end
end RV
set_option maxHeartbeats 4000000
namespace RV
open PySem PySem.Spec PyProof.Rows L2
/-- as the layer's promise of a def, where no repr runs around -/
structure FnG (P : Program) (w : World) (K : PySem.W.Frag) (mg : Str → Option Value) (base : Heap) (CX : CXT) (k : Nat) (f : Addr) (fd : FuncData) (ps : List Str) (sp : Sp) : Prop where
  many : ∀ vs H Q E, sp vs H Q E → vs.length = ps.length
  goes : ∀ (A : Around) (outer : List Env) (s : Shared) (H : Hp) (args : Args) (us : List Value) (vs : List V) (Q : VK) (E : XK), A.guards = some [] → Room k A → Env0 P w K mg base A outer s H →
    BindsTo s fd args (ps.zip us) → Vals vs us → sp vs H Q E → codeAny (model P w) A (.call (.ref f) args) (CR CX outer P w H s Q E) s
section
variable {P : Program} {w : World} {K : PySem.W.Frag} {mg : Str → Option Value} {base : Heap} {CX : CXT} {k : Nat} {f : Addr} {fd : FuncData} {N ps : List Str} {sp : Sp} {x qual : Str} {st : Stmt}
theorem okG (F : Fun K x qual st f fd) (S : FnScope N ps (defScope st)) (len : ∀ vs H Q E, sp vs H Q E → vs.length = ps.length)
    (body : ∀ (cdv : Value) (A : Around) (outer : List Env) (s : Shared) (H : Hp) (vs : List V) (Q : VK) (E : XK), A.guards = some [] → Room k (A.deeper (envOfC qual (defScope st) s.heap.objs.size f cdv)) → sp vs H Q E →
      ∃ t, PSs (cxOf CX0 P w K mg base N qual (defScope st) f cdv A outer s H E).nox (defBody st) t ∧ t { nx := fun _ H' => Q .non H', rt := Q } (start N vs) H) : FnG P w K mg base CX0 (k + 1) f fd ps sp := by
  obtain ⟨oc, od, kV, doc, pm, an, cdv, ct, osl, rfl, lk, hcd⟩ := F.ex
  refine ⟨len, fun A outer s H args us vs Q E gd hr e0 hb r hsp => ?_⟩
  have KX : K.In s.heap := e0.mod.kin.keeps fun b o z => (e0.bs b o z).1
  have lim : s.heap.NoLimit := e0.mod.nolimit.keeps fun b o z => (e0.bs b o z).1
  have kinds : ∀ y ∈ ps.zip us, (defScope st).names.lookup y.1 = some .local ∨ ((defScope st).names.lookup y.1 = some .cell ∧ ((cellsFrom (s.heap.objs.size + 1) (defScope st).names []).lookup y.1).isSome = true) := by
    rintro ⟨n, v⟩ hy
    exact (S.par n (List.of_mem_zip hy).1).imp id fun q => ⟨q, PySem.W.cellsFrom_some _ _ _ (.inl q)⟩
  refine codeAny_call_function hr.depth (KX _ _ lk) rfl S.co S.gen rfl (PySem.W.codeRec_of KX hcd) (hb _ _ _ _ (wpAny_newFunctionEnv_cells S.kind kinds fun env he s1 z => ?_))
  subst he
  refine ⟨lim.keeps z.toInCall.keep, codeAny_func ?_⟩
  obtain ⟨t, ht, hq⟩ := body cdv A outer s H vs Q E gd (hr.deeper _) hsp
  have I : Inv (cxOf CX0 P w K mg base N qual (defScope st) f cdv A outer s H E) [] (start N vs) H s1 := inv_start S hr.hd e0 (len _ _ _ _ hsp) r z
  refine wpAny_mono (ht.nox.run [] s1 (start N vs) H _ I hq) (fun fl s' hs => ?_) fun e s' hs => hs
  cases fl with
  | ret u =>
    obtain ⟨v, σ', H', J, rv, q⟩ := hs
    exact ⟨v, H', J.os, J.bare, J.base, J.hok, rv, q⟩
  | next =>
    obtain ⟨σ', H', J, q⟩ := hs
    exact ⟨V.non, H', J.os, J.bare, J.base, J.hok, rfl, q⟩
  | brk => exact hs.elim fun _ z => z.elim fun _ y => False.elim y.2
  | cont => exact hs.elim fun _ z => z.elim fun _ y => False.elim y.2
end
section
variable {X : Cx} {CX : CXT} {k : Nat} {f : Addr} {fd : FuncData} {ps : List Str} {sp : Sp} {dvs : List V} {ds : List Value} {E : XK} {x : Str} {p pos : Pos} {e : Expr} {es : List Expr} {t : TA}
/-- f(e, ..) of such a def -/
theorem pe_callG (F : FnG X.prog X.w X.K X.mg X.base CX k f fd ps sp) (gd : X.A.guards = some []) (hr : Room k X.A) (hg : Gl X x) (hm : X.mg x = some (.ref f)) (hk : PySem.W.keepIn X.K (.ref f) = true) (hb : Binds X.K fd ps ds) (hd : Vals dvs ds) (hx : Passes CX X E)
    (ha : PA X (e :: es) t) (hdb : (x == ("__debug__" : Str)) = false := by decide) (he : starEach (e :: es) X.env = (false, eval e X.env) :: starEach es X.env := by rfl) (hpl : (backTo pos (starEach es X.env)).any (·.1) = false := by rfl) :
    PE X (.Call (.Name x p) (e :: es) [] pos) (tCall sp dvs E t) := by
  refine ⟨fun pins s σ H Q I h => wpAny_Call_Name_kw (ld_glob I hg hm ?_ hdb)⟩
  refine PySem.W.callWith_K (h₀ := X.base) I.ok.mod.kin hk (thn (ha.run pos pins s σ H _ I h) fun us s1 ⟨vs, H1, I1, r, q⟩ => ⟨I1.kIn, ?_⟩) he hpl
  have r2 : Vals (vs ++ dvs) (us ++ ds) := r.append hd
  have hl : (us ++ ds).length = ps.length := r2.length ▸ F.many _ _ _ _ q
  refine wpAny_call (codeAny_mono (F.goes X.A X.stack s1 H1 ⟨us, []⟩ (us ++ ds) (vs ++ dvs) Q E gd hr I1.env0 (hb s1 us I1.kIn hl) r2 q) fun rr s' hq => ?_)
  cases rr with
  | error ee => exact hx pins σ H1 s1 ee s' I1 hq
  | ok fl => cases fl <;> first | exact I1.after hq | exact False.elim hq
/-- repr(x), x an object read as data -/
theorem call_reprD (gd : X.A.guards = some []) (hu : X.A.units + 65 < cLine) : CallR X (.builtin "repr") (fun xs H Q => ∃ (a : Addr) (d : PyData), xs = [.ref a] ∧ Dp X.K H (.ref a) d ∧ d.showable = true ∧ d.hasDict = false ∧ d.depth ≤ 64 ∧ d.shown.length ≤ sizeLine ∧ Q (.str d.shown) H) := by
  intro pins s σ H xs us Q I r h
  obtain ⟨a, d, rfl, hd, h1, h2, h3, h4, q⟩ := h
  obtain ⟨u, rfl, ru⟩ := vals1 r
  cases ru
  obtain ⟨as, rd⟩ := Dp.reads I d (.ref a) (.ref a) hd rfl
  refine repr_of_reads' rd h1 (fun z => by rw [h2] at z; cases z) gd (by omega) (fun _ _ z => z) (fun h' uu tk k => ?_) h4
  exact ⟨.str d.shown, H, I.kept k, ⟨uu, rfl⟩, q⟩
end
section
/-- the law's call, from such a promise -/
theorem law_callG {P : Program} {w : World} {K : PySem.W.Frag} {mg mb : Str → Option Value} {k : Nat} {fa a : Addr} {fd : FuncData} {x : Str} {sp : Sp} {st : Shared} {vs : List Value} {ns : List Int}
    (KX : K.In st.heap) (n1 : st.heap.Ns mainGlobals mg) (n2 : st.heap.Ns builtinsNs mb) (n3 : ∀ x : Str, x ≠ "__name__" → mb x = bootBuiltins x) (n4 : st.heap.NoLimit) (n5 : st.gens = #[])
    (ha : st.heap.get? a = some { cls := .type "list", data := .seq vs.toArray }) (hi : IntsAre vs ns) (hl : ns.length ≤ sizeLine) (hr : Room k callerA)
    (F : ∀ base : Heap, K.In base → base.Ns mainGlobals mg → FnG P w K mg base CX0 k fa fd [x] sp) (bnd : ∀ (s : Shared) (u : Value), BindsTo s fd ⟨[u], []⟩ [(x, u)])
    (hsp : ∀ H : Hp, Only H → SqL K H a (ns.map V.int) → sp [.ref a] H (fun v _ => v = .bl true) fun _ _ _ => False) :
    codeAny (model P w) callerA (.call (.ref fa) ⟨[.ref a], []⟩) (fun r s' => r = .ok (.ret (.bool true)) ∧ OldK st.heap s'.heap ∧ s'.os = st.os ∧ AllBare s'.gens) st := by
  have rv := vals_ints hi
  have lv := hi.length
  have key : ∀ H : Hp, Only H → SqL K H a (ns.map V.int) → HOk P w H st.heap → (∀ b, H b ≠ none → b = a) → (H a ≠ none → K.lookup a = none) →
      codeAny (model P w) callerA (.call (.ref fa) ⟨[.ref a], []⟩) (fun r s' => r = .ok (.ret (.bool true)) ∧ OldK st.heap s'.heap ∧ s'.os = st.os ∧ AllBare s'.gens) st := by
    intro H hO hS hok hA hK
    have noA : ∀ {b : Addr} {o : Obj} {es : Array DictEntry} {ep : Nat}, st.heap.get? b = some o → o.data = .dict es ep → H b = none := by
      intro b o es ep e d
      cases q : H b with
      | none => rfl
      | some u =>
        obtain rfl : b = a := hA b (by rw [q]; simp)
        rw [ha] at e
        cases e
        cases (show Data.seq vs.toArray _ = Data.dict es ep from d)
    have nsK : ∀ {b : Addr} {m : Str → Option Value}, st.heap.Ns b m → (hidT st.heap H).Ns b m := fun {b m} ⟨o, es, ep, e, d, r⟩ => ⟨o, es, ep, hidT_get e (noA e d), d, r⟩
    have kb : K.In (hidT st.heap H) := fun b o e => hidT_get (KX b o e) (by
      cases q : H b with
      | none => rfl
      | some u =>
        obtain rfl : b = a := hA b (by rw [q]; simp)
        rw [hK (by rw [q]; simp)] at e
        cases e)
    obtain ⟨mc, l1, l2⟩ := n4
    have e0 : Env0 P w K mg (hidT st.heap H) callerA [] st H :=
      ⟨rfl, ⟨kb, nsK n1, ⟨mb, nsK n2, n3⟩, ⟨mc, nsK l1, l2⟩⟩, fun b o e => of_hidT e, Nat.le_of_eq (hidT_size _ _), trivial, fun b hb => absurd (show b ∈ ([] : List Addr) from hb) (by simp), hok, .of_eq n5⟩
    refine codeAny_mono ((F _ kb (nsK n1)).goes callerA [] st H ⟨[.ref a], []⟩ [.ref a] [.ref a] _ _ rfl hr e0 (bnd st (.ref a)) (.cons rfl .nil) (hsp H hO hS)) fun r s' h => ?_
    cases r with
    | error e => exact False.elim h
    | ok fl =>
      cases fl with
      | next => exact False.elim h
      | brk => exact False.elim h
      | cont => exact False.elim h
      | ret u =>
        obtain ⟨v, H', os, bare, un, hok', r', q⟩ := h
        obtain rfl : v = .bl true := q
        obtain rfl : u = Value.bool true := r'
        refine ⟨rfl, OldK.of_keep fun b o e => ?_, os, bare⟩
        rcases hO b with z | ⟨ob, xs, z⟩
        · exact un.keep b o e z (fun y => absurd (show b ∈ ([] : List Addr) from y) (by simp)) (by simp)
        · have z2 := un.frzs b ob _ z
          obtain ⟨e1, _⟩ := hok b _ z
          obtain ⟨e2, _⟩ := hok' b _ z2
          rw [e] at e1
          cases e1
          exact e2
  cases hk : K.lookup a with
  | some o =>
    have e := KX a o hk
    rw [ha] at e
    cases e
    exact key (fun _ => none) (fun _ => .inl rfl) (.inr ⟨_, vs.toArray, _, hk, rfl, rfl, rfl, by rw [List.size_toArray, lv]; exact hl, by simpa using rv⟩)
      (fun b u z => by cases (show (none : Option HO) = some u from z)) (fun b z => absurd rfl z) fun z => absurd rfl z
  | none =>
    refine key (fun b => if b = a then some (.frz { cls := .type "list", data := .seq vs.toArray } (.lst (ns.map V.int))) else none) (fun b => ?_) (.inl (.inr ⟨{ cls := .type "list", data := .seq vs.toArray }, if_pos rfl⟩)) (fun b u z => ?_) (fun b z => ?_) fun _ => hk
    · by_cases hb : b = a
      · exact .inr ⟨_, _, if_pos hb⟩
      · exact .inl (if_neg hb)
    · by_cases hb : b = a
      · cases (if_pos hb).symm.trans z
        subst hb
        exact ⟨ha, by rw [List.length_map]; exact hl, vs, _, rv, ha⟩
      · cases (if_neg hb).symm.trans z
    · exact Classical.byContradiction fun hb => z (if_neg hb)
theorem walk_G {l : PySem.W.OpenLaw} {n k : Nat} {q : Program} {loose : List Str} {XP : (Str → Option Value) → Heap → Prop} {YP : World → Heap → Prop} {d : DefRec} {K : Params → PySem.W.Frag} {sp : World → Sp} {x : Str}
    (hn : l.most = some n) (hn2 : n ≤ sizeLine) (hdf : d.params.defaults = []) (hr : Room k callerA) (hY : ∀ (w : World) (h : Heap), YP w h → (K w.params).In h)
    (F : ∀ (w : World) (mg : Str → Option Value) (fa : Addr) (h : Heap), (K w.params).In h → h.Ns mainGlobals mg → mg d.name = some (.ref fa) →
      ∃ fd : FuncData, (∀ (s : Shared) (u : Value), BindsTo s fd ⟨[u], []⟩ [(x, u)]) ∧ ∀ base : Heap, (K w.params).In base → base.Ns mainGlobals mg → FnG l.prog w (K w.params) mg base CX0 k fa fd [x] (sp w))
    (hsp : ∀ (w : World) (H : Hp) (a : Addr) (ns : List Int), ns.length ≤ n → Only H → SqL (K w.params) H a (ns.map V.int) → sp w [.ref a] H (fun v _ => v = .bl true) fun _ _ _ => False) :
    PySem.W.WalkO q loose XP YP l.row.toRowW d [] (fun f vs => PySem.call f vs) := by
  refine Att.attach_call hn hdf fun w s₀ st mg mb fa o pm cd doc a vs ns G Y ho hd hcd hmg hobj hints hlen hg => ?_
  obtain ⟨fd, hb, hF⟩ := F w mg fa _ (hY w _ Y) G.T.g hmg
  exact law_callG (hY w _ Y) G.T.g G.T.b G.T.builtins G.T.nolimit hg hobj hints (Nat.le_trans hlen hn2) hr hF hb fun H hO hS => hsp w H a ns hlen hO hS
end
end RV
set_option maxHeartbeats 4000000
namespace RV
open PySem PySem.Spec PyProof.Rows L2 PySem.W
section
variable {prog : Program} {w : World} {A : Around} {E : Value → Shared → Prop} {s : Shared} {K : Frag} {x C L f : Addr} {h₀ : Heap} {m : Str → Option Value} {ox : Obj} {od : Option Obj} {b tb : Value}
theorem ne_bound {Q : Option Value → Shared → Prop} (X : K.In s.heap) (I : InstAt s.heap x ox C od) (hs : findIn K (.ref C) "__ne__" = some (some (.builtin "object.__ne__")))
    (h : wpAny (model prog w) A (call (.builtin "object.__ne__") [.ref x, b]) (fun v => Q (some v)) E s) : wpAny (model prog w) A (callSpecialIfBound? (.ref x) "__ne__" [b]) Q E s := by
  simp only [callSpecialIfBound?, bindSpecialIfBound?]
  refine wpAny_holding (wpAny_bind (wpAny_bind (wpAny_bind (I.type.here ((looks_findIn X hs).here ?_)))))
  refine wpAny_bind (wpAny_askSetting (wpAny_ite ?_))
  have fin : wpAny (model prog w) A (call (.builtin "object.__ne__") ([.ref x] ++ [b]) >>= fun v => pure (some v)) Q E s :=
    wpAny_bind (wpAny_mono h (fun v s' z => wpAny_pure z) fun _ _ z => z)
  split
  · rw [F.cmp_object.ne.bind]
    exact wpAny_bind (wpAny_pure (wpAny_pure fin))
  · rw [F.cmp_object.ne.bind]
    exact wpAny_tryCatch (wpAny_bind (wpAny_pure (wpAny_pure fin)))
theorem obj_ne {Q : Fin → Shared → Prop} (X : K.In s.heap) (hu : A.units < cLine) (I : InstAt s.heap x ox C od) (hs : findIn K (.ref C) "__eq__" = some (some (.ref f))) (hf : isFn K (.ref f) = true)
    (h : wpAny (model prog w) A (call (.ref f) [.ref x, b]) (fun v s' => ∃ c, v = .bool c ∧ Q (.done (.ret (.bool (!c)))) s') E s) :
    wpAny (model prog w) A (Builtin.«object.__ne__» ⟨[.ref x, b], []⟩) Q E s := by
  unfold Builtin.«object.__ne__»
  repeat (first
    | with_reducible refine wpAny_cRoomFor hu ?_
    | (refine wpAny_bind (m := callSpecialIfBound? (.ref x) (Str.ofString "__eq__") [b])
        (ifBound_K X I hs hf (wpAny_mono h (fun r s' hr => by
          obtain ⟨c, rfl, hq⟩ := hr
          repeat (first | exact hq | exact wpAny_pure hq | exact wpAny_truthy_bool hq | (refine wpAny_bind (m := truthy (.bool _)) (wpAny_truthy_bool ?_)) | wp_step)) fun _ _ z => z)))
    | wp_step)
theorem cmp_ne {Q : Value → Shared → Prop} (hu : A.units + 1 < cLine) (F0 : Fr h₀ L s.heap m) (X₀ : K.In h₀) (I : InstAt s.heap x ox C od) (hb : Looks (model prog w) s.heap (typeOf b) (.ref C))
    (hn : findIn K (.ref C) "__ne__" = some (some (.builtin "object.__ne__"))) (hm : mroIn K C (.type "object") = some true)
    (hs : findIn K (.ref C) "__eq__" = some (some (.ref f))) (hf : isFn K (.ref f) = true)
    (h : wpAny (model prog w) A.in1 (call (.ref f) [.ref x, b]) (fun v s' => ∃ c, v = .bool c ∧ Q (.bool (!c)) s') E s) : wpAny (model prog w) A (richCompare .NotEq (.ref x) b) Q E s := by
  have X := X₀.keeps F0.keep
  have one : wpAny (model prog w) A (tryCompare (.ref x) "__ne__" b) (fun r s' => ∃ v, r = some v ∧ Q v s') E s := by
    unfold tryCompare
    refine wpAny_bind (ne_bound X I hn (wpAny_call (codeAny_call_builtin F.cmp_object.ne.plain F.cmpEntry_ne ?_)))
    refine check_slot F.cmpKind_ne F.cmpSplit_ne ?_ (F.cmpArgs_ne _ _) ?_
    · exact I.type.andThen (looks_mroIn X hm)
    · refine obj_ne (A := A.in1) X hu I hs hf (wpAny_mono h (fun v s' hv => ?_) fun _ _ z => z)
      obtain ⟨c, rfl, hq⟩ := hv
      exact ⟨c, rfl, wpAny_pure ⟨_, rfl, hq⟩⟩
  unfold richCompare
  simp only [oneThing_ref]
  refine wpAny_holding (wpAny_bind (wpAny_cRoomFor (Nat.lt_of_succ_lt hu) ?_))
  rw [cmpInfo_NotEq]
  dsimp only
  refine wpAny_bind (I.type.here (wpAny_bind (hb.here ?_)))
  rw [show (Value.ref C != Value.ref C) = false from by simp]
  simp only [Bool.false_eq_true, if_false]
  refine wpAny_bind (wpAny_pure ?_)
  simp only [Bool.false_eq_true, if_false]
  refine wpAny_bind (wpAny_mono one (fun r s' z => ?_) fun _ _ z => z)
  obtain ⟨v, rfl, hq⟩ := z
  exact wpAny_pure hq
end
section
variable {X : Cx} {CX : CXT} {n : Nat} {C f : Addr} {fd : FuncData} {ps : List Str} {sp : Sp} {E : XK}
/-- x != y, instances of the class at C, by the text's own == -/
def rNeI (C : Addr) (sp : Sp) (E : XK) : R2 := fun x y H Q => ∃ a b dx dy fs gs, x = .ref a ∧ y = .ref b ∧ H a = some (.ins C dx fs) ∧ H b = some (.ins C dy gs) ∧ sp [.ref a, .ref b] H (fun v H' => ∃ c, v = .bl c ∧ Q (.bl (!c)) H') E
def rEqI (C : Addr) (sp : Sp) (E : XK) : R2 := fun x y H Q => ∃ a b dx dy fs gs, x = .ref a ∧ y = .ref b ∧ H a = some (.ins C dx fs) ∧ H b = some (.ins C dy gs) ∧ sp [.ref a, .ref b] H (fun v H' => ∃ c, v = .bl c ∧ Q (.bl c) H') E
theorem op_neI (G : FnOk X.prog X.w X.K X.mg X.base CX n f fd ps sp) (hr : Room (n + 1) X.A) (hn : findIn X.K (.ref C) "__ne__" = some (some (.builtin "object.__ne__"))) (hm : mroIn X.K C (.type "object") = some true)
    (hs : findIn X.K (.ref C) "__eq__" = some (some (.ref f))) (hf : isFn X.K (.ref f) = true) (hb : Binds X.K fd ps []) (hx : Passes CX X E) : OpR X (compareOp .NotEq) (rNeI C sp E) := by
  intro pins s σ H x y v u Q I rx ry hq
  obtain ⟨a, b, dx, dy, fs, gs, rfl, rfl, ha, hb', q⟩ := hq
  cases rx
  cases ry
  obtain ⟨mA, J, _⟩ := ins_get I.hok ha
  obtain ⟨mB, J', _⟩ := ins_get I.hok hb'
  obtain ⟨od, J, _⟩ := J.look
  obtain ⟨od', J', _⟩ := J'.look
  obtain ⟨m, hF⟩ := I.fr
  show wpAny (model X.prog X.w) X.A (richCompare .NotEq (.ref a) (.ref b)) (EP X pins σ Q) X.xe s
  refine cmp_ne (by have := hr.un; omega) hF I.ok.mod.kin J J'.type hn hm hs hf ?_
  have hl := G.len _ _ _ _ q
  have r2 : Vals [V.ref a, V.ref b] [Value.ref a, Value.ref b] := .cons rfl (.cons rfl .nil)
  refine wpAny_call (codeAny_mono (G.run X.A.in1 X.stack s H ⟨[.ref a, .ref b], []⟩ [.ref a, .ref b] [.ref a, .ref b] _ E hr.in1 I.env0.in1 (by simpa using hb s [.ref a, .ref b] I.kIn (by simpa using hl)) r2 q) fun r s' hq => ?_)
  cases r with
  | error e => exact hx pins σ H s e s' I hq
  | ok fl =>
    cases fl with
    | ret w =>
      obtain ⟨z, H', I', rz, c, ez, ex⟩ := I.after hq
      subst ez
      cases rz
      exact ⟨c, rfl, .bl (!c), H', I', rfl, ex⟩
    | next => exact False.elim hq
    | brk => exact False.elim hq
    | cont => exact False.elim hq
theorem op_eqI (G : FnOk X.prog X.w X.K X.mg X.base CX n f fd ps sp) (hr : Room n X.A)
    (hs : findIn X.K (.ref C) "__eq__" = some (some (.ref f))) (hf : isFn X.K (.ref f) = true) (hb : Binds X.K fd ps []) (hx : Passes CX X E) : OpR X (compareOp .Eq) (rEqI C sp E) := by
  intro pins s σ H x y v u Q I rx ry hq
  obtain ⟨a, b, dx, dy, fs, gs, rfl, rfl, ha, hb', q⟩ := hq
  cases rx
  cases ry
  obtain ⟨mA, J, _⟩ := ins_get I.hok ha
  obtain ⟨mB, J', _⟩ := ins_get I.hok hb'
  obtain ⟨od, J, _⟩ := J.look
  obtain ⟨od', J', _⟩ := J'.look
  obtain ⟨m, hF⟩ := I.fr
  show wpAny (model X.prog X.w) X.A (richCompare .Eq (.ref a) (.ref b)) (EP X pins σ Q) X.xe s
  refine PySem.W.cmp_K (op := .Eq) (tb := .ref C) hr.units0 hF I.ok.mod.kin J J'.type (by simp [PySem.W.notFirst]) hs hf ?_
  have hl := G.len _ _ _ _ q
  have r2 : Vals [V.ref a, V.ref b] [Value.ref a, Value.ref b] := .cons rfl (.cons rfl .nil)
  refine wpAny_call (codeAny_mono (G.run X.A X.stack s H ⟨[.ref a, .ref b], []⟩ [.ref a, .ref b] [.ref a, .ref b] _ E hr I.env0 (by simpa using hb s [.ref a, .ref b] I.kIn (by simpa using hl)) r2 q) fun r s' hq => ?_)
  cases r with
  | error e => exact hx pins σ H s e s' I hq
  | ok fl =>
    cases fl with
    | ret w =>
      obtain ⟨z, H', I', rz, c, ez, ex⟩ := I.after hq
      subst ez
      cases rz
      exact ⟨.bl c, H', I', rfl, ex⟩
    | next => exact False.elim hq
    | brk => exact False.elim hq
    | cont => exact False.elim hq
end
end RV
set_option maxHeartbeats 4000000
/-! set(xs) of tuples of ints, xs of any length, where few of them are unlike -/
namespace RV
open PySem PySem.Spec PyProof.Rows L2
/-- fewer than 63 unlike ones -/
def FewUnlike (ks : List (Addr × List Int)) : Prop := ∀ L : List (Addr × List Int), (L.map (·.2)).Nodup → (∀ p ∈ L, p ∈ ks) → L.length + 1 < 64
abbrev noneYet (w : World) : Obj := { cls := .type "set", dict := none, data := .set #[] 0 (.fresh 0 0 (!w.params.followText "set-order")) }
section
variable {P : Program} {w : World} {A : Around} {E : Value → Shared → Prop} {s : Shared}
theorem setN_loop {R : Result → Shared → Prop} (hh : A.in1.handled = none) (S l it : Addr) (hSl : S ≠ l) (hSi : S ≠ it) (hli : l ≠ it) (items : Array Value) (ks : List (Addr × List Int)) (few : FewUnlike ks)
    (refs : ∀ (i : Nat) (p : Addr × List Int), ks[i]? = some p → items[i]? = some (Value.ref p.1)) (size : items.size = ks.length) (old : Heap) (tups : ∀ p ∈ ks, IsT P w old p.2 p.1) (o1 : old.get? S = none) (o2 : old.get? it = none) (hu : A.in1.units < cLine) :
    ∀ (k i : Nat) (s : Shared), ks.length - i = k → i ≤ ks.length → s.heap.IsListIter it l i → s.heap.IsList l items → (∀ b o, old.get? b = some o → s.heap.get? b = some o) → (∃ L es ep t, SetTR P w s.heap S L es ep t ∧ Got ks i L) →
      (∀ h' tk L es ep t, SetTR P w h' S L es ep t → Got ks ks.length L → (∀ b o, old.get? b = some o → h'.get? b = some o) → R (.ok (.ret .none)) { s with heap := h', toks := tk }) →
      codeAny (model P w) A (.builtin "set.update.loop" ⟨[.ref S, .ref it], []⟩) R s
  | 0, i, s, hk, hi, hit, hl, keep, ⟨L, es, ep, t, hS, got⟩, fin => by
    obtain rfl : i = ks.length := by omega
    refine codeAny_builtin F.entry_set_update_loop ?_
    rw [Around.under_plainId F.plain_set_update_loop _]
    show wpAny _ A.in1 (pyNext (.ref it) >>= _) _ _ s
    refine wpAny_bind (wpAny_pyNext_list_end hh hit hl (by simp [size]) fun h' ext => ?_)
    have keep' : ∀ b o, old.get? b = some o → h'.get? b = some o := fun b o e => ext b o (fun z => by rw [z, o2] at e; cases e) (keep b o e)
    exact wpAny_pure (fin h' s.toks L es ep t (hS.keep (fun o e => ext S o hSi e) fun p hp => isT_keep (tups p (List.mem_of_mem_take (got.sub p hp))) keep') got keep')
  | k + 1, i, s, hk, hi, hit, hl, keep, ⟨L, es, ep, t, hS, got⟩, fin => by
    obtain ⟨p, hp⟩ : ∃ p, ks[i]? = some p := ⟨_, List.getElem?_eq_getElem (by omega)⟩
    refine codeAny_builtin F.entry_set_update_loop ?_
    rw [Around.under_plainId F.plain_set_update_loop _]
    show wpAny _ A.in1 (pyNext (.ref it) >>= _) _ _ s
    refine wpAny_bind (wpAny_pyNext_list_item hit hl (refs i p hp) fun h1 hit1 sb1 => ?_)
    have keep1 : ∀ b o, old.get? b = some o → h1.get? b = some o := fun b o e => (sb1.2 b fun z => by rw [z, o2] at e; cases e).trans (keep b o e)
    have inKs : ∀ q ∈ L, q ∈ ks := fun q hq => List.mem_of_mem_take (got.sub q hq)
    have hS1 : SetTR P w h1 S L es ep t := hS.keep (fun o e => (sb1.2 S hSi).trans e) fun q hq => isT_keep (tups q (inKs q hq)) keep1
    have hT : IsT P w h1 p.2 p.1 := isT_keep (tups p (List.mem_of_getElem? hp)) keep1
    show wpAny _ A.in1 (holding [Value.ref p.1] (setAdd S (.ref p.1)) >>= _) _ _ _
    refine wpAny_bind (wpAny_holding ?_)
    unfold setAdd
    refine wpAny_holding (wpAny_bind (wpAny_pyHash_tuple hu hT ?_))
    refine add_at (s := { s with heap := h1, toks := s.toks + (p.2.length + 1) }) hS1 hT hu (few L hS1.nd inKs) fun b h2 L2 es2 ep2 t2 sb2 hS2 yes no => ?_
    have got2 : Got ks (i + 1) L2 := by
      by_cases c : p.2 ∈ L.map (·.2)
      · rw [yes c]; exact got.same hp c
      · exact got.more hp (no c)
    have keep2 : ∀ b o, old.get? b = some o → h2.get? b = some o := fun b o e => (sb2.2 b fun z => by rw [z, o1] at e; cases e).trans (keep1 b o e)
    refine wpAny_pure ⟨plainId_quiet F.plain_set_update_loop _, setN_loop hh S l it hSl hSi hli items ks few refs size old tups o1 o2 hu k (i + 1) _ (by omega) (by omega)
      (hit1.at fun o e => (sb2.2 it (Ne.symm hSi)).trans e) ((hl.at fun o e => (sb1.2 l hli).trans e).at fun o e => (sb2.2 l (Ne.symm hSl)).trans e) keep2 ⟨L2, es2, ep2, t2, hS2, got2⟩ fun h' tk L' es' ep' t' z1 z2 z3 => ?_⟩
    exact fin h' tk L' es' ep' t' z1 z2 z3
set_option maxHeartbeats 8000000 in
theorem call_setN {l : Addr} {items : Array Value} (ks : List (Addr × List Int)) {Q : Value → Shared → Prop} (hh : A.handled = none) (hl : s.heap.IsList l items) (refs : items.toList = ks.map fun p => Value.ref p.1)
    (tups : ∀ p ∈ ks, IsT P w s.heap p.2 p.1) (few : FewUnlike ks) (hu : A.units + 3 < cLine)
    (k : ∀ (h' : Heap) (tk : Nat) L es ep t, SetTR P w h' s.heap.objs.size L es ep t → Got ks ks.length L → (∀ b o, s.heap.get? b = some o → h'.get? b = some o) → Q (.ref s.heap.objs.size) { s with heap := h', toks := tk }) :
    wpAny (model P w) A (call (.type "set") [.ref l]) Q E s := by
  have size : items.size = ks.length := by simpa using congrArg List.length refs
  have refs' : ∀ (i : Nat) (p : Addr × List Int), ks[i]? = some p → items[i]? = some (Value.ref p.1) := fun i p e => by
    rw [← Array.getElem?_toList, refs, List.getElem?_map, e]; rfl
  obtain ⟨c, tl, hm⟩ := F.called_set.mro
  have a1 := F.called_set.made
  have a2 := F.called_set.sub
  have a3 := F.called_set.notType
  have a4 := F.called_set.canCreate
  have a5 := F.typeCall_set_1 (.ref l)
  refine wpAny_call (codeAny_of_tree ?_)
  show wpAny _ _ (callAny (.type "set") _) _ _ _
  refine wpAny_pure ⟨Code.quiet_builtin _ (by decide +kernel), codeAny_builtin F.entry_type_call ?_⟩
  rw [Around.under_plain (weight_type_call_type "set" [.ref l] []) rfl]
  repeat (any_goals (first | assumption | wp_step))
  refine codeAny_mono (code_set_led1 (.ref l) (E := E) (Q₁ := fun obj s₁ => obj = .ref s.heap.objs.size ∧ s₁ = { s with heap := s.heap.push (noneYet w) }) ⟨rfl, rfl⟩) fun r s₁ hr => ?_
  match r, hr with
  | .error e, hr => exact hr
  | .ok .next, hr => exact hr.elim
  | .ok .brk, hr => exact hr.elim
  | .ok .cont, hr => exact hr.elim
  | .ok (.ret obj), hr =>
    obtain ⟨rfl, rfl⟩ := hr
    have hS : (s.heap.push (noneYet w)).get? s.heap.objs.size = some (noneYet w) := Heap.get?_push_size _ rfl
    have hT : Shared.TypeIs { s with heap := s.heap.push (noneYet w) } (.ref s.heap.objs.size) "set" := ⟨_, hS, rfl⟩
    have b1 := F.called_set.init.lookup
    have b2 := F.called_set.init.bind (.ref s.heap.objs.size)
    repeat (any_goals (first | assumption | wp_step))
    refine codeAny_mono (codeAny_call_builtin (R := wants (fun r s₂ => r = .none ∧ ∃ h' tk L es ep t, s₂ = { s with heap := h', toks := tk } ∧ SetTR P w h' s.heap.objs.size L es ep t ∧ Got ks ks.length L ∧
        (∀ b o, s.heap.get? b = some o → h'.get? b = some o)) E) F.called_set.init.plain F.entry_set_init (check_set_init_1 hT ?_)) fun r₂ s₂ hr₂ => ?_
    · obtain ⟨⟨oc, od, dt, os⟩, g1, g2, nl, g3⟩ := hl
      simp only at g2 g3
      subst g2 g3
      have g4 : (s.heap.push (noneYet w)).get? l = some { cls := .type "list", dict := od, data := .seq items nl, slots := os } := Heap.get?_push_of_some _ g1
      have c1 := F.sub_list_set
      have c2 := F.sub_list_frozenset
      have c3 : (Value.type "list" == Value.type "dict") = false := by decide
      have isl : (s.heap.push (noneYet w)).IsList l items := ⟨_, g4, rfl, nl, rfl⟩
      unfold Builtin.«set.__init__» noKeywords Builtin.Frozenset.updateFrom
      generalize hpi : pyIter = pI
      wp_walk
      subst hpi
      refine wpAny_pyIter_list isl (wpAny_bind (wpAny_runValue ?_))
      have lt : l < s.heap.objs.size := Heap.lt_size g1
      have z1 : (s.heap.push (noneYet w)).objs.size = s.heap.objs.size + 1 := Heap.size_push ..
      have none1 : ∀ b, s.heap.objs.size ≤ b → s.heap.get? b = none := fun b hb => by
        cases q : s.heap.get? b with
        | none => rfl
        | some o => exact absurd (Nat.lt_of_lt_of_le (Heap.lt_size q) hb) (Nat.lt_irrefl _)
      refine setN_loop (A := A.in1.in1) (by simp [hh]) s.heap.objs.size l (s.heap.push (noneYet w)).objs.size (Nat.ne_of_gt lt) (by rw [z1]; exact Nat.ne_of_lt (Nat.lt_succ_self _)) (by rw [z1]; exact Nat.ne_of_lt (Nat.lt_succ_of_lt lt)) items ks few refs' size s.heap tups (none1 _ (Nat.le_refl _)) (none1 _ (by rw [z1]; exact Nat.le_succ _)) hu (ks.length - 0) 0 _ rfl (Nat.zero_le _)
        ⟨_, Heap.get?_push_size _ rfl, rfl, rfl⟩ (isl.push _) (fun b o e => Heap.get?_push_of_some _ (Heap.get?_push_of_some _ e)) ⟨[], #[], 0, _, setTR_fresh (Heap.get?_push_of_some _ hS), Got.zero ks⟩ fun h' tk L es ep t q1 q2 q3 => ?_
      show wpAny _ _ _ _ _ _
      refine wpAny_pure ?_
      show wpAny _ _ (ret Value.none) _ _ _
      exact wpAny_pure ⟨rfl, h', tk, L, es, ep, t, rfl, q1, q2, q3⟩
    · match r₂, hr₂ with
      | .error e, hr₂ => exact hr₂
      | .ok .next, hr₂ => exact hr₂.elim
      | .ok .brk, hr₂ => exact hr₂.elim
      | .ok .cont, hr₂ => exact hr₂.elim
      | .ok (.ret r), hr₂ =>
        obtain ⟨rfl, h', tk, L, es, ep, t, rfl, q1, q2, q3⟩ := hr₂
        repeat (any_goals (first | assumption | wp_step))
        exact k _ _ _ _ _ _ q1 q2 q3
end
section
variable {X : Cx}
def rSetN (K : PySem.W.Frag) (P : Program) (w : World) : List V → Hp → VK → Prop := fun xs H Q => ∃ (l : Addr) (ks : List (Addr × List Int)), xs = [V.ref l] ∧ SqL K H l (ks.map fun p => V.ref p.1) ∧ (∀ p ∈ ks, SqT K H p.1 (p.2.map V.int)) ∧ FewUnlike ks ∧
  ∀ a L, H a = none → (∀ p ∈ L, p ∈ ks) → (∀ p ∈ ks, p.2 ∈ L.map (·.2)) → Q (.ref a) (upd H a (SetTO P w a L))
theorem cr_setN (hc : X.calm = true) (hu : X.A.units + 64 < cLine) : CallR X (.type "set") (rSetN X.K X.prog X.w) := by
  intro pins s σ H xs us Q I r h
  obtain ⟨l, ks, rfl, hl, hk, few, q⟩ := h
  rw [Vals.ref1 r]
  obtain ⟨its, rv, pl, hz⟩ := I.list hl
  refine call_setN ks (I.ok.hd hc) pl.isList (by simpa using refs_of_vals rv) (fun p hp => I.isT (hk p hp)) few (by omega) fun h' tk L es ep t R g kp => ?_
  refine ⟨.ref s.heap.objs.size, upd H s.heap.objs.size (SetTO X.prog X.w s.heap.objs.size L), I.laid (t' := tk) kp (Nat.le_refl _) (setTO_new R.t0), rfl, ?_⟩
  exact q _ L (I.hok.fresh (Nat.le_refl _)) (fun p hp => List.mem_of_mem_take (g.sub p hp)) fun p hp => g.all p (by rw [List.take_length]; exact hp)
end
end RV
set_option maxHeartbeats 4000000
namespace RV
open PySem PySem.Spec PyProof.Rows L2
/-! ### heaps -/
theorem same_upd {H : Hp} {p : Addr} {o : HO} (h : H p = none) : Same H (upd H p o) := fun b x e => by
  rw [upd_ne (ne_of_none e h)]
  exact e
theorem sqT_same {K : PySem.W.Frag} {H H' : Hp} {a : Addr} {xs : List V} (e : Same H H') (h : SqT K H a xs) : SqT K H' a xs := SqT.ext h e
theorem sqL_same {K : PySem.W.Frag} {H H' : Hp} {a : Addr} {xs : List V} (e : Same H H') (h : SqL K H a xs) : SqL K H' a xs := SqL.ext h e
theorem tyT {K : PySem.W.Frag} {H : Hp} {a : Addr} {xs : List V} (h : SqT K H a xs) : TyX K H (.ref a) (.type "tuple") := by
  rcases h with (h | ⟨o, h⟩) | ⟨o, its, n, h1, h2, _⟩
  · exact .base (.tup h)
  · exact .fTuple h
  · exact .kTuple h1 h2
theorem tupNew {K : PySem.W.Frag} {H : Hp} {a : Addr} {xs : List V} (h : H a = some (.tup xs)) : SqT K H a xs := .inl (.inl h)
theorem lstNew {K : PySem.W.Frag} {H : Hp} {a : Addr} {xs : List V} (h : H a = some (.lst xs)) : SqL K H a xs := .inl (.inl h)
theorem walk_enT {K : PySem.W.Frag} {a : Addr} {xs : List V} : Walk (IteT K a) xs.length (fun H => SqT K H a xs) (YPair (fun i => some (.int (i : Nat))) (fun i => xs[i]?)) := by
  refine ⟨fun i _ hi q => ⟨xs, xs[i], q, by simp [hi]⟩, fun _ q => ⟨xs, q, Nat.le_refl _⟩, fun i H v H' _ q y => ?_⟩
  obtain ⟨T, x, h1, h2, h3, h4⟩ := y
  exact ⟨T, .int (i : Nat), x, h1, h2, h3, rfl, h4 xs q⟩
theorem walk_zipT {K : PySem.W.Frag} {a b : Addr} {xs ys : List V} {n : Nat} (hn : n = min xs.length ys.length) : Walk (RZ.ItzT K a b) n (fun H => SqT K H a xs ∧ SqT K H b ys) (YPair (fun i => xs[i]?) (fun i => ys[i]?)) := by
  subst hn
  refine ⟨fun i _ hi q => ⟨xs, ys, xs[i]'(by omega), ys[i]'(by omega), q.1, q.2, List.getElem?_eq_getElem _, List.getElem?_eq_getElem _⟩, fun _ q => ⟨xs, ys, q.1, q.2, by omega⟩, fun i H v H' _ q y => ?_⟩
  obtain ⟨T, x, z, h1, h2, h3, h4, h5⟩ := y
  exact ⟨T, x, z, h1, h2, h3, h4 xs q.1, h5 ys q.2⟩
/-- a tuple of tuples of ints -/
def Tups (K : PySem.W.Frag) (H : Hp) (a : Addr) (ps : List (List Int)) : Prop := ∃ ks : List (Addr × List Int), ks.map (·.2) = ps ∧ SqT K H a (ks.map fun p => V.ref p.1) ∧ ∀ p ∈ ks, SqT K H p.1 (p.2.map V.int)
/-- a list of tuples of ints -/
def Lots (K : PySem.W.Frag) (H : Hp) (a : Addr) (ps : List (List Int)) : Prop := ∃ ks : List (Addr × List Int), ks.map (·.2) = ps ∧ SqL K H a (ks.map fun p => V.ref p.1) ∧ ∀ p ∈ ks, SqT K H p.1 (p.2.map V.int)
theorem Tups.same {K : PySem.W.Frag} {H H' : Hp} {a : Addr} {ps : List (List Int)} (h : Tups K H a ps) (e : Same H H') : Tups K H' a ps :=
  let ⟨ks, h1, h2, h3⟩ := h; ⟨ks, h1, sqT_same e h2, fun p hp => sqT_same e (h3 p hp)⟩
theorem Lots.same {K : PySem.W.Frag} {H H' : Hp} {a : Addr} {ps : List (List Int)} (h : Lots K H a ps) (e : Same H H') : Lots K H' a ps :=
  let ⟨ks, h1, h2, h3⟩ := h; ⟨ks, h1, sqL_same e h2, fun p hp => sqT_same e (h3 p hp)⟩
theorem dpInts {K : PySem.W.Frag} {H : Hp} : ∀ ns : List Int, DpAll K H (ns.map V.int) (ns.map PyData.int)
  | [] => .nil
  | n :: r => .cons (.int n) (dpInts r)
def dI (ns : List Int) : PyData := .tuple (ns.map PyData.int)
def dTT (ps : List (List Int)) : PyData := .tuple (ps.map dI)
theorem dpT {K : PySem.W.Frag} {H : Hp} {a : Addr} {ns : List Int} (h : SqT K H a (ns.map V.int)) : Dp K H (.ref a) (dI ns) := .tup h (dpInts ns)
theorem dpTs {K : PySem.W.Frag} {H : Hp} : ∀ ks : List (Addr × List Int), (∀ p ∈ ks, SqT K H p.1 (p.2.map V.int)) → DpAll K H (ks.map fun p => V.ref p.1) ((ks.map (·.2)).map dI)
  | [], _ => .nil
  | p :: r, h => .cons (dpT (h p (List.mem_cons_self ..))) (dpTs r fun q hq => h q (List.mem_cons_of_mem _ hq))
theorem Tups.dp {K : PySem.W.Frag} {H : Hp} {a : Addr} {ps : List (List Int)} (h : Tups K H a ps) : Dp K H (.ref a) (dTT ps) := by
  obtain ⟨ks, rfl, h2, h3⟩ := h
  exact .tup h2 (dpTs ks h3)
theorem map_at {α β : Type} {f : α → β} {l : List α} {i : Nat} {y : β} (h : (l.map f)[i]? = some y) : ∃ x, l[i]? = some x ∧ y = f x := by
  rw [List.getElem?_map] at h
  cases e : l[i]? with
  | none => rw [e] at h; cases h
  | some x => rw [e] at h; exact ⟨x, rfl, (Option.some.inj h).symm⟩
theorem all_true : ∀ n : Nat, (List.replicate n true).all id = true
  | 0 => rfl
  | n + 1 => by rw [List.replicate_succ, List.all_cons, all_true n]; rfl
theorem rep_bl (n : Nat) : List.replicate n (V.bl true) = (List.replicate n true).map V.bl := by rw [List.map_replicate]
theorem rep_next {α : Type} (n : Nat) (x : α) : List.replicate n x ++ [x] = List.replicate (n + 1) x := by rw [List.replicate_succ', ]
theorem tt_yes {σ : L2.St} {H : Hp} {A B : Hp → Prop} (h : A H) : tYes σ H (fun b H3 => if b = true then A H3 else B H3) := iteT (A := A H) (B := B H) h
theorem un65 {k : Nat} {A : Around} (r : Room k A) : A.units + 65 < cLine := by have := r.un; omega
theorem few1 {n : Nat} (h : n ≤ 1000) : n < sizeLine := small1000 h
/-! ### data of ints, tuples of these -/
theorem lay_ints : ∀ ns : List Int, PyData.canLayAll0 (ns.map PyData.int) = true
  | [] => by simp [PyData.canLayAll0]
  | n :: r => by simp [PyData.canLayAll0, PyData.canLay0, lay_ints r]
theorem dep_ints : ∀ ns : List Int, PyData.depthAll (ns.map PyData.int) = 0
  | [] => by simp [PyData.depthAll]
  | n :: r => by simp [PyData.depthAll, PyData.depth, dep_ints r]
theorem dI_lay (ns : List Int) : (dI ns).canLay0 = true := by simp only [dI, PyData.canLay0]; exact lay_ints ns
theorem dI_dep (ns : List Int) : (dI ns).depth = 1 := by simp only [dI, PyData.depth, dep_ints]
theorem lay_dI : ∀ ps : List (List Int), PyData.canLayAll0 (ps.map dI) = true
  | [] => by simp [PyData.canLayAll0]
  | n :: r => by simp [PyData.canLayAll0, dI_lay, lay_dI r]
theorem dep_dI : ∀ ps : List (List Int), PyData.depthAll (ps.map dI) ≤ 1
  | [] => by simp [PyData.depthAll]
  | n :: r => by
    have h := dep_dI r
    simp only [List.map_cons, PyData.depthAll, dI_dep]
    omega
theorem shapedI (ns : List Int) : SeqAt.shaped (dI ns) = true := by
  show ((dI ns).canLay0 && decide ((dI ns).depth ≤ 64)) = true
  rw [dI_lay, dI_dep]; rfl
theorem shapedTT (ps : List (List Int)) : SeqAt.shaped (dTT ps) = true := by
  have h := dep_dI ps
  have e : (dTT ps).depth ≤ 64 := by simp only [dTT, PyData.depth]; omega
  show ((dTT ps).canLay0 && decide ((dTT ps).depth ≤ 64)) = true
  rw [decide_eq_true e, Bool.and_true]
  simp only [dTT, PyData.canLay0]; exact lay_dI ps
theorem eqv_ints : ∀ ns ms : List Int, PyData.eqvAll (ns.map PyData.int) (ms.map PyData.int) = decide (ns = ms)
  | [], [] => by simp [PyData.eqvAll]
  | [], m :: r => by simp [PyData.eqvAll]
  | n :: r, [] => by simp [PyData.eqvAll]
  | n :: r, m :: q => by
    have h := eqv_ints r q
    simp only [List.map_cons, PyData.eqvAll, PyData.eqv, h]
    by_cases e : n = m
    · subst e; by_cases e2 : r = q <;> simp [e2]
    · simp [e]
theorem eqvI (ns ms : List Int) : PyData.eqv (dI ns) (dI ms) = decide (ns = ms) := by simp only [dI, PyData.eqv, eqv_ints]
theorem eqv_dIs : ∀ ns ms : List (List Int), PyData.eqvAll (ns.map dI) (ms.map dI) = decide (ns = ms)
  | [], [] => by simp [PyData.eqvAll]
  | [], m :: r => by simp [PyData.eqvAll]
  | n :: r, [] => by simp [PyData.eqvAll]
  | n :: r, m :: q => by
    have h := eqv_dIs r q
    simp only [List.map_cons, PyData.eqvAll, eqvI, h]
    by_cases e : n = m
    · subst e; by_cases e2 : r = q <;> simp [e2]
    · simp [e]
theorem eqvTT (ns ms : List (List Int)) : PyData.eqv (dTT ns) (dTT ms) = decide (ns = ms) := by simp only [dTT, PyData.eqv, eqv_dIs]
theorem any_dI (p : List Int) : ∀ ps : List (List Int), (ps.map dI).any (fun y => PyData.eqv y (dI p)) = decide (p ∈ ps)
  | [] => rfl
  | q :: r => by
    rw [List.map_cons, List.any_cons, any_dI p r, eqvI]
    by_cases e : q = p
    · subst e; simp
    · have e' : ¬ p = q := fun z => e z.symm
      by_cases e2 : p ∈ r <;> simp [e, e', e2]
section
variable {X : Cx}
/-- t in ts, of tuples of ints -/
def rInTs (K : PySem.W.Frag) : R2 := fun x y H Q => ∃ (a b : Addr) (p : List Int) (ps : List (List Int)), x = .ref a ∧ y = .ref b ∧ SqT K H a (p.map V.int) ∧ Tups K H b ps ∧ Q (.bl (decide (p ∈ ps))) H
theorem op_inTs (hu : X.A.units + 65 < cLine) : OpR X (compareOp .In) (rInTs X.K) := by
  intro pins s σ H x y v u Q I rx ry h
  obtain ⟨a, b, p, ps, rfl, rfl, h1, h2, q⟩ := h
  obtain ⟨as, r1⟩ := Dp.reads I (dI p) (.ref a) v (dpT h1) rx
  obtain ⟨bs, r2⟩ := Dp.reads I (dTT ps) (.ref b) u h2.dp ry
  refine SeqAt.in_tuple_reads (xs := ps.map dI) r2 r1 (lay_dI ps) (dI_lay p) ?_ ⟨.bl _, H, I, rfl, ?_⟩
  · have := Nat.min_le_right (PyData.depthAll (ps.map dI)) (dI p).depth
    have e := dI_dep p
    omega
  · rw [any_dI]; exact q
/-- two tuples of ints, two tuples of tuples of ints compared -/
def rEqI1 (K : PySem.W.Frag) : R2 := fun x y H Q => ∃ (a b : Addr) (p q : List Int), x = .ref a ∧ y = .ref b ∧ SqT K H a (p.map V.int) ∧ SqT K H b (q.map V.int) ∧ Q (.bl (decide (p = q))) H
def rEqTs (K : PySem.W.Frag) : R2 := fun x y H Q => ∃ (a b : Addr) (p q : List (List Int)), x = .ref a ∧ y = .ref b ∧ Tups K H a p ∧ Tups K H b q ∧ Q (.bl (decide (p = q))) H
theorem op_eqI1 (hu : X.A.units + 64 < cLine) : OpR X (compareOp .Eq) (rEqI1 X.K) := by
  intro pins s σ H x y v u Q I rx ry h
  obtain ⟨a, b, p, ps, rfl, rfl, h1, h2, q⟩ := h
  refine op_eqD hu pins s σ H _ _ v u Q I rx ry ⟨dI p, dI ps, dpT h1, dpT h2, shapedI p, shapedI ps, ?_⟩
  rw [eqvI]; exact q
theorem op_eqTs (hu : X.A.units + 64 < cLine) : OpR X (compareOp .Eq) (rEqTs X.K) := by
  intro pins s σ H x y v u Q I rx ry h
  obtain ⟨a, b, p, ps, rfl, rfl, h1, h2, q⟩ := h
  refine op_eqD hu pins s σ H _ _ v u Q I rx ry ⟨dTT p, dTT ps, h1.dp, h2.dp, shapedTT p, shapedTT ps, ?_⟩
  rw [eqvTT]; exact q
end
section
variable {X : Cx} {K : PySem.W.Frag}
/-! the rules whose reading names the written part, for a comprehension's block -/
theorem ix_tupK (h : X.K = K) : IxR X (rIxT K) := h ▸ ix_tup
theorem pg_tupK {es : List Expr} {k : Nat} {t : TGs} {n : Nat} {pos : Pos} (h : X.K = K) (hc : X.calm = true) (hg : PGs X es t)
    (hn : (assignEach es X.env).length = n := by rfl) (hst : (assignEach es X.env).findIdx? (·.1) = none := by rfl) : PG X (.Tuple es k pos) (gTup K n t) := h ▸ pg_tup hc hg hn hst
theorem op_inTsK (h : X.K = K) (hu : X.A.units + 65 < cLine) : OpR X (compareOp .In) (rInTs K) := h ▸ op_inTs hu
theorem op_ltTK (h : X.K = K) (hu : X.A.units < cLine) : OpR X (compareOp .Lt) (rLtT K) := h ▸ op_ltT hu
def rLenS (K : PySem.W.Frag) : List V → Hp → VK → Prop := fun xs H Q => ∃ p ys, xs = [.ref p] ∧ (SqL K H p ys ∨ SqT K H p ys) ∧ Q (.int ys.length) H
theorem call_lenK (h : X.K = K) : CallR X (.builtin "len") (rLenS K) := h ▸ call_len_seq
end
end RV
set_option maxHeartbeats 4000000
namespace K75
open PySem PySem.Spec PyProof.Rows L2 RV
/-! ### the text by places -/
def topS (i : Nat) : Stmt := PySem.Challenge.pw_ringvouch_k75_whole_all_rings_gone_throu.main.body.getD i (.Pass ⟨0, 0, 0, 0⟩)
abbrev sLed : Stmt := topS 1
abbrev sParts : Stmt := topS 2
abbrev sPartOf : Stmt := topS 3
abbrev sMirrorPart : Stmt := topS 4
abbrev sIsOwn : Stmt := topS 5
abbrev sAtOnce : Stmt := topS 7
abbrev sOfSteps : Stmt := topS 8
abbrev sEndsBehind : Stmt := topS 9
abbrev sOfWalks : Stmt := topS 10
abbrev sBegin : Stmt := topS 12
abbrev sLeadsInto : Stmt := topS 13
abbrev sBetween : Stmt := topS 14
abbrev sLeastW : Stmt := topS 15
abbrev sComeBack : Stmt := topS 17
abbrev sIsSize : Stmt := topS 18
abbrev sSizes : Stmt := topS 19
abbrev sBack : Stmt := topS 20
abbrev sHow : Stmt := topS 21
abbrev sLeastR : Stmt := topS 22
abbrev sOff : Stmt := topS 24
abbrev sMeasure : Stmt := topS 25
abbrev sPeriod : Stmt := topS 26
abbrev sClasses : Stmt := topS 27
abbrev sReadBack : Stmt := topS 29
abbrev sTurnedTo : Stmt := topS 31
abbrev sAxes : Stmt := topS 32
abbrev sIsAt : Stmt := topS 33
abbrev sAxisC : Stmt := topS 34
abbrev sHalfS : Stmt := topS 36
abbrev sHalfE : Stmt := topS 37
abbrev sHalfN : Stmt := topS 38
abbrev sIsMS : Stmt := topS 39
abbrev sLeastH : Stmt := topS 40
abbrev sWhole : Stmt := topS 45
abbrev sMark : Stmt := topS 46
abbrev sMarks : Stmt := topS 47
abbrev sMirrors : Stmt := topS 51
abbrev sSteps : Stmt := topS 52
abbrev sStep : Stmt := topS 53
abbrev sRising : Stmt := topS 54
abbrev sBehind : Stmt := topS 55
abbrev sHand : Stmt := topS 57
abbrev sDraw : Stmt := topS 58
abbrev sOf : Stmt := topS 59
abbrev sClosed : Stmt := topS 60
abbrev sDrawn : Stmt := topS 61
abbrev sKinds : Stmt := topS 62
abbrev sWheel : Stmt := topS 63
abbrev sSide : Stmt := topS 64
abbrev sRule : Stmt := topS 65
abbrev sCome : Stmt := topS 66
abbrev sLParts : Stmt := topS 67
abbrev sCommon : Stmt := topS 68
abbrev sLClasses : Stmt := topS 69
abbrev sRings : Stmt := topS 70
abbrev sPairs : Stmt := topS 71
abbrev sIsMir : Stmt := topS 72
abbrev sLAxis1 : Stmt := topS 73
abbrev sMade : Stmt := topS 74
abbrev sLHalfOf : Stmt := topS 75
abbrev sTuples : Stmt := topS 76
abbrev sRingsRight : Stmt := topS 77
abbrev sLaw : Stmt := topS 78
abbrev sInit : Stmt := inClass (topS 50) 0
abbrev sEq : Stmt := inClass (topS 50) 4
abbrev sMarksM : Stmt := inClass (topS 50) 1
abbrev sMirrorM : Stmt := inClass (topS 50) 2
abbrev sBehindM : Stmt := inClass (topS 50) 3
/-- a def of the text as the top has left it -/
structure DefAt (K : PySem.W.Frag) (mg : Str → Option Value) (x : Str) (st : Stmt) (ps : List Str) (f : Addr) (fd : FuncData) : Prop where
  fn : Fun K x x st f fd
  bi : Binds K fd ps []
  mg : mg x = some (.ref f)
/-- the names that are the interpreter's own -/
structure Bare (mg : Str → Option Value) : Prop where
  len : mg "len" = none
  sum : mg "sum" = none
  isinstance : mg "isinstance" = none
  int : mg "int" = none
  bool : mg "bool" = none
  tuple : mg "tuple" = none
  all : mg "all" = none
  enumerate : mg "enumerate" = none
  zip : mg "zip" = none
  range : mg "range" = none
  list : mg "list" = none
  set : mg "set" = none
  sorted : mg "sorted" = none
  abs : mg "abs" = none
  max : mg "max" = none
  min : mg "min" = none
  repr : mg "repr" = none
  dict : mg "dict" = none
  any : mg "any" = none
section
variable {P : Program} {w : World} {K : PySem.W.Frag} {mg : Str → Option Value} {base : Heap}
/-! ### is_whole -/
theorem scWhole : FnScope ["thing"] ["thing"] (defScope sWhole) := ⟨rfl, rfl, rfl, by decide +kernel, rfl, by decide +kernel, by decide +kernel⟩
def spWhole : Sp := fun vs H Q _ => ∃ i : Int, vs = [.int i] ∧ Q (.bl true) H
theorem ok_whole {f : Addr} {fd : FuncData} (F : Fun K "is_whole" "is_whole" sWhole f fd) (B : Bare mg) : FnOk P w K mg base CX0 1 f fd ["thing"] spWhole := by
  refine F.ok scWhole (fun vs H Q E h => ?_) (fun cdv A outer s H vs Q E hr h => ?_)
  · obtain ⟨i, rfl, _⟩ := h
    rfl
  · obtain ⟨i, rfl, q⟩ := h
    refine ⟨_, pss_one (ps_ret (pe_and (pe_callB call_isi (by rfl) B.isinstance (by decide +kernel) (pa_cons (pv 0) (pa_cons (pe_bltn (v := .ty "int") (by rfl) B.int boot_int rfl) pa_nil)))
      (pe_one (pe_not (pe_callB call_isi (by rfl) B.isinstance (by decide +kernel) (pa_cons (pv 0) (pa_cons (pe_bltn (v := .ty "bool") (by rfl) B.bool (by decide +kernel) rfl) pa_nil))))))), ?_⟩
    refine ⟨.int i, rfl, .int i, .ty "int", _, _, true, rfl, .ty "int", .base (.int i), kit_ty (by decide +kernel), true, rfl, iteT ?_⟩
    exact ⟨.int i, rfl, .int i, .ty "bool", _, _, false, rfl, .ty "bool", .base (.int i), kit_ty (by decide +kernel), false, rfl, q⟩
/-! ### is_below -/
theorem scMark : FnScope ["thing", "many"] ["thing", "many"] (defScope sMark) := ⟨rfl, rfl, rfl, by decide +kernel, rfl, by decide +kernel, by decide +kernel⟩
def spMark : Sp := fun vs H Q _ => ∃ i n : Int, vs = [.int i, .int n] ∧ 0 ≤ i ∧ i < n ∧ Q (.bl true) H
theorem ok_mark {f fW : Addr} {fd fdW : FuncData} (F : Fun K "is_below" "is_below" sMark f fd) (D : DefAt K mg "is_whole" sWhole ["thing"] fW fdW) (B : Bare mg) : FnOk P w K mg base CX0 2 f fd ["thing", "many"] spMark := by
  have GW : FnOk P w K mg base CX0 1 fW fdW ["thing"] spWhole := ok_whole D.fn B
  refine F.ok scMark (fun vs H Q E h => ?_) (fun cdv A outer s H vs Q E hr h => ?_)
  · obtain ⟨i, n, rfl, _⟩ := h
    rfl
  · obtain ⟨i, n, rfl, h1, h2, q⟩ := h
    refine ⟨_, pss_one (ps_ret (pe_and (pe_call GW hr (by rfl) D.mg D.fn.kp D.bi .nil pass0 (pa_cons (pv 0) pa_nil)) (pe_one (pe_chain op_le op_lt pe_int (pv 0) (pv 1))))), ?_⟩
    refine ⟨.int i, rfl, i, rfl, true, rfl, iteT ?_⟩
    refine ⟨.int i, rfl, 0, i, rfl, rfl, _, rfl, ?_⟩
    rw [decide_eq_true h1]
    refine iteT ⟨.int n, rfl, i, n, rfl, rfl, ?_⟩
    show Q (.bl (decide (i < n))) H
    rw [decide_eq_true h2]
    exact q
/-! ### are_marks -/
theorem scMarks : FnScope ["thing", "many", "mark"] ["thing", "many"] (defScope sMarks) := ⟨rfl, rfl, rfl, by decide +kernel, rfl, by decide +kernel, by decide +kernel⟩
def spMarks (K : PySem.W.Frag) : Sp := fun vs H Q _ => ∃ (a : Addr) (ns : List Int) (n : Int), vs = [.ref a, .int n] ∧ SqT K H a (ns.map V.int) ∧ 0 < ns.length ∧ ns.length ≤ 1000 ∧ (∀ i ∈ ns, 0 ≤ i ∧ i < n) ∧ ∀ H', Same H H' → Q (.bl true) H'
theorem ok_marks {f fM fW : Addr} {fd fdM fdW : FuncData} (F : Fun K "are_marks" "are_marks" sMarks f fd) (DM : DefAt K mg "is_below" sMark ["thing", "many"] fM fdM) (DW : DefAt K mg "is_whole" sWhole ["thing"] fW fdW) (B : Bare mg) :
    FnOk P w K mg base CX0 3 f fd ["thing", "many"] (spMarks K) := by
  have GM : FnOk P w K mg base CX0 2 fM fdM ["thing", "many"] spMark := ok_mark DM.fn DW B
  refine F.ok scMarks (fun vs H Q E h => ?_) (fun cdv A outer s H vs Q E hr h => ?_)
  · obtain ⟨a, ns, n, rfl, _⟩ := h
    rfl
  · obtain ⟨a, ns, n, rfl, hT, h0, hm, hin, q⟩ := h
    refine ⟨_, pss_one (ps_ret (pe_and (pe_callB call_isi (by rfl) B.isinstance (by decide +kernel) (pa_cons (pv 0) (pa_cons (pe_bltn (v := .ty "tuple") (by rfl) B.tuple (by decide +kernel) rfl) pa_nil)))
      (pe_and (pe_cmpR op_gt (pe_callB call_len_seq (by rfl) B.len PySem.boot_len (pa_cons (pv 0) pa_nil)) pe_int (nomark _))
      (pe_one (pe_callB (cr_all rfl) (by rfl) B.all (by decide +kernel) (pa_cons
        (pe_lc (own := [("mark", 2)]) (g := gName 2) (tt := tYes) rfl scMarks.nd (pi_tup (pv 0)) (blkOk_by (N := ["thing", "many", "mark"]) (sc := defScope sMarks) (by decide +kernel)) (fun _ _ _ _ _ => pg_name (i := 2) scMarks.nd rfl (Or.inl rfl)) (fun _ _ _ _ _ => pts_nil)
          (fun _ _ _ _ _ => pe_call GM hr (by rfl) DM.mg DM.fn.kp DM.bi .nil pass0 (pa_cons (pv 2) (pa_cons (pv 1) pa_nil)))) pa_nil)))))), ?_⟩
    refine ⟨.ref a, rfl, .ref a, .ty "tuple", _, _, true, rfl, .ty "tuple", tyT hT, kit_ty (by decide +kernel), true, rfl, iteT ?_⟩
    refine ⟨.ref a, rfl, a, _, rfl, .inr hT, _, _, rfl, rfl, decide (((ns.map V.int).length : Int) > 0), rfl, ?_⟩
    rw [decide_eq_true (show ((ns.map V.int).length : Int) > 0 by rw [List.length_map]; omega)]
    refine iteT ⟨.ref a, rfl, a, rfl, ⟨_, hT⟩, fun D nD => ?_⟩
    refine lc_tup (K := K) (a := a) (xs := ns.map V.int) (fun i H' => Same H H' ∧ H' D = some (.lst (List.replicate i (V.bl true)))) ⟨same_upd nD, upd_same⟩ (fun i H' _ p => sqT_same p.1 hT) (fun i x H' hx p => ?_) fun H' p => ?_
    · obtain ⟨m, hm', rfl⟩ := map_at hx
      have hi : i < ns.length := (List.getElem?_eq_some_iff.mp hm').1
      have hr' := hin m (List.mem_of_getElem? hm')
      refine ⟨rfl, tt_yes ⟨.int m, rfl, .int n, rfl, m, n, rfl, hr'.1, hr'.2, _, p.2, ?_, ?_, ?_⟩⟩
      · rw [List.length_replicate]; exact few1 (by omega)
      · exact fun b o e => by rw [upd_ne (ne_of_none e nD)]; exact p.1 b o e
      · rw [upd_same, rep_next]
    · rw [List.length_map, rep_bl] at p
      refine ⟨D, _, rfl, lstNew p.2, ?_⟩
      rw [all_true]
      exact q H' p.1
end
end K75
set_option maxHeartbeats 4000000
namespace K75
open PySem PySem.Spec PyProof.Rows L2 RV
/-- mirrors of one to eight marks -/
structure Mir (ns : List Int) : Prop where
  pos : 0 < ns.length
  few : ns.length ≤ 8
  inn : ∀ i ∈ ns, 0 ≤ i ∧ i < (ns.length : Int)
  back : ∀ (k : Nat) (m : Int), ns[k]? = some m → ns[m.toNat]? = some (k : Int)
/-- a rising tuple of steps, with their mirror steps -/
structure Stp (ns : List Int) (ps : List (List Int)) : Prop where
  few : ps.length ≤ 64
  pair : ∀ p ∈ ps, ∃ x y : Int, p = [x, y] ∧ (0 ≤ x ∧ x < (ns.length : Int)) ∧ (0 ≤ y ∧ y < (ns.length : Int))
  rise : ∀ (i : Nat) (p q : List Int), ps[i]? = some p → ps[i + 1]? = some q → HT.lexLt p q = true
  mirr : ∀ x y mx my : Int, [x, y] ∈ ps → ns[x.toNat]? = some mx → ns[y.toNat]? = some my → [my, mx] ∈ ps
  nd : ps.Nodup
section
variable {P : Program} {w : World} {K : PySem.W.Frag} {mg : Str → Option Value} {base : Heap}
/-! ### are_mirrors -/
theorem scMirrors : FnScope ["thing", "mark", "mirror"] ["thing"] (defScope sMirrors) := ⟨rfl, rfl, rfl, by decide +kernel, rfl, by decide +kernel, by decide +kernel⟩
def spMirrors (K : PySem.W.Frag) : Sp := fun vs H Q _ => ∃ (a : Addr) (ns : List Int), vs = [.ref a] ∧ SqT K H a (ns.map V.int) ∧ Mir ns ∧ ∀ H', Same H H' → Q (.bl true) H'
theorem ok_mirrors {f fA : Addr} {fd fdA : FuncData} {t : Tok} (F : Fun K "are_mirrors" "are_mirrors" sMirrors f fd) (DA : DefAt K mg "are_marks" sMarks ["thing", "many"] fA fdA) (GA : FnOk P w K mg base CX0 3 fA fdA ["thing", "many"] (spMarks K)) (B : Bare mg)
    (mM : mg "MOST_MARKS" = some (.int 8 t)) : FnOk P w K mg base CX0 4 f fd ["thing"] (spMirrors K) := by
  refine F.ok scMirrors (fun vs H Q E h => ?_) (fun cdv A outer s H vs Q E hr h => ?_)
  · obtain ⟨a, ns, rfl, _⟩ := h
    rfl
  · obtain ⟨a, ns, rfl, hT, hM, q⟩ := h
    refine ⟨_, pss_cons (ps_if (PW.pt (pw_or (pt_not (pt_val (pe_callB call_isi (by rfl) B.isinstance (by decide +kernel) (pa_cons (pv 0) (pa_cons (pe_bltn (v := .ty "tuple") (by rfl) B.tuple (by decide +kernel) rfl) pa_nil)))))
        (pw_or1 (pt_cmpR op_gt (pe_callB call_len_seq (by rfl) B.len PySem.boot_len (pa_cons (pv 0) pa_nil)) (pe_glob (v := .int 8) rfl mM ⟨_, rfl⟩) (nomark _))))) (pss_one (ps_ret pe_bl)) pss_nil)
      (pss_cons (ps_if (pt_not (pt_val (pe_call GA hr (by rfl) DA.mg DA.fn.kp DA.bi .nil pass0 (pa_cons (pv 0) (pa_cons (pe_callB call_len_seq (by rfl) B.len PySem.boot_len (pa_cons (pv 0) pa_nil)) pa_nil))))) (pss_one (ps_ret pe_bl)) pss_nil)
      (pss_one (ps_ret (pe_callB (cr_all rfl) (by rfl) B.all (by decide +kernel) (pa_cons
        (pe_lc (own := [("mark", 1), ("mirror", 2)]) (g := gTup K 2 (gCons (gName 1) (gCons (gName 2) gNil))) (tt := tYes) rfl scMirrors.nd (pi_enT (by rfl) B.enumerate (pa_cons (pv 0) pa_nil)) (blkOk_by (N := ["thing", "mark", "mirror"]) (sc := defScope sMirrors) (by decide +kernel))
          (fun _ _ _ _ _ => pg_tupK rfl rfl (pgs_cons (pg_name (i := 1) scMirrors.nd rfl (Or.inl rfl)) (pgs_cons (pg_name (i := 2) scMirrors.nd rfl (Or.inl rfl)) pgs_nil))) (fun _ _ _ _ _ => pts_nil)
          (fun _ _ _ _ _ => pe_cmpR op_eq (pe_ix (ix_tupK (K := K) rfl) (pv 0) (pv 2) (fun _ _ => rfl)) (pv 1) (nomark _))) pa_nil))))), ?_⟩
    refine ⟨.ref a, rfl, .ref a, .ty "tuple", _, _, true, rfl, .ty "tuple", tyT hT, kit_ty (by decide +kernel), true, rfl, iteF ?_⟩
    refine ⟨.ref a, rfl, a, _, rfl, .inr hT, _, _, rfl, rfl, decide (((ns.map V.int).length : Int) > 8), rfl, ?_⟩
    have h8 := hM.few
    rw [decide_eq_false (show ¬ ((ns.map V.int).length : Int) > 8 by rw [List.length_map]; omega)]
    refine iteF ?_
    refine ⟨.ref a, rfl, .ref a, rfl, a, _, rfl, .inr hT, a, ns, _, rfl, hT, hM.pos, by omega, fun i hi => ?_, fun H1 s1 => ⟨true, rfl, iteF ?_⟩⟩
    · rw [List.length_map]; exact hM.inn i hi
    · refine ⟨.ref a, rfl, a, _, rfl, sqT_same s1 hT, fun D nD => ?_⟩
      refine lc_it (walk_enT (K := K) (a := a) (xs := ns.map V.int)) (fun i H' => Same H1 H' ∧ H' D = some (.lst (List.replicate i (V.bl true)))) ⟨same_upd nD, upd_same⟩ (fun i H' _ p => sqT_same p.1 (sqT_same s1 hT)) (fun i x H2 H3 hi p y => ?_) fun H' p => ?_
      · obtain ⟨T, x1, x2, rfl, nT, rfl, e1, e2⟩ := y
        have e1' : x1 = .int (i : Nat) := (Option.some.inj e1).symm
        subst e1'
        obtain ⟨m, hm, rfl⟩ := map_at e2
        have hin := hM.inn m (List.mem_of_getElem? hm)
        have hil : i < ns.length := (List.getElem?_eq_some_iff.mp hm).1
        have hDT : D ≠ T := ne_of_none p.2 nT
        have sT : Same H2 (upd H2 T (.tup [.int (i : Nat), .int m])) := same_upd nT
        have hA : SqT K (upd H2 T (.tup [.int (i : Nat), .int m])) a (ns.map V.int) := sqT_same sT (sqT_same p.1 (sqT_same s1 hT))
        have gm : (ns.map V.int)[m.toNat]? = some (.int (i : Nat)) := by
          rw [List.getElem?_map, hM.back i m hm]; rfl
        refine ⟨T, _, rfl, tupNew upd_same, rfl, _, _, rfl, _, _, rfl, rfl, rfl, tt_yes ⟨.ref a, rfl, .int m, rfl, a, _, m, .int (i : Nat), rfl, rfl, hA, ?_, .int (i : Nat), rfl, rfl, _, (sT _ _ p.2), ?_, ?_, ?_⟩⟩
        · have e : m = ((m.toNat : Nat) : Int) := by omega
          rw [e]; exact atI_nat gm
        · rw [List.length_replicate]; exact few1 (by omega)
        · exact fun b o e => by rw [upd_ne (ne_of_none e nD)]; exact sT b o (p.1 b o e)
        · rw [upd_same, decide_eq_true rfl, rep_next]
      · rw [List.length_map, rep_bl] at p
        refine ⟨D, _, rfl, lstNew p.2, ?_⟩
        rw [all_true]
        exact q H' (s1.trans p.1)
end
end K75
namespace K75
open PySem PySem.Spec PyProof.Rows L2 RV
def rgI (a b : Int) : List Int := (List.range (b - a).toNat).map fun (i : Nat) => a + (i : Int)
theorem rgV_rgI (a b : Int) : rgV a b = (rgI a b).map V.int := by
  unfold rgV rgI
  rw [List.map_map]; rfl
theorem rgI_len (a b : Int) : (rgI a b).length = (b - a).toNat := by unfold rgI; rw [List.length_map, List.length_range]
theorem rgI_get {a b : Int} {k : Nat} {m : Int} : (rgI a b)[k]? = some m ↔ k < (b - a).toNat ∧ m = a + (k : Int) := by
  unfold rgI
  rw [List.getElem?_map]
  by_cases h : k < (b - a).toNat
  · rw [List.getElem?_range h]
    simp [h, eq_comm]
  · rw [List.getElem?_eq_none (by rw [List.length_range]; omega)]
    simp [h]
/-! ### mirrors drawn: fs so far, ls the marks left -/
structure Half (m : Nat) (fs ls : List Int) : Prop where
  len : fs.length = m
  inn : ∀ (k : Nat) (x : Int), fs[k]? = some x → 0 ≤ x ∧ x < (m : Int)
  back : ∀ (k : Nat) (x : Int), fs[k]? = some x → fs[x.toNat]? = some (k : Int)
  nd : ls.Nodup
  lin : ∀ x ∈ ls, 0 ≤ x ∧ x < (m : Int)
  self : ∀ x ∈ ls, fs[x.toNat]? = some x
theorem half_start (m : Nat) : Half m (rgI 0 (m : Int)) (rgI 0 (m : Int)) := by
  have mem : ∀ x ∈ rgI 0 (m : Int), 0 ≤ x ∧ x < (m : Int) := fun x hx => by
    obtain ⟨k, hk, e⟩ := List.getElem_of_mem hx
    have z : (rgI 0 (m : Int))[k]? = some x := by rw [List.getElem?_eq_getElem hk, e]
    rw [rgI_get] at z; omega
  refine ⟨by rw [rgI_len]; omega, fun k x h => ?_, fun k x h => ?_, ?_, mem, fun x hx => ?_⟩
  · rw [rgI_get] at h; omega
  · rw [rgI_get] at h ⊢; omega
  · unfold rgI
    refine List.Pairwise.map _ (fun a b (h : a < b) => ?_) List.pairwise_lt_range
    omega
  · have := mem x hx
    rw [rgI_get]; omega
theorem half_drop {m : Nat} {fs ls : List Int} {x : Int} (h : Half m fs (x :: ls)) : Half m fs ls :=
  ⟨h.len, h.inn, h.back, (List.nodup_cons.mp h.nd).2, fun y hy => h.lin y (List.mem_cons_of_mem _ hy), fun y hy => h.self y (List.mem_cons_of_mem _ hy)⟩
theorem not_in_erase : ∀ {ls : List Int} {r : Nat} {z : Int}, ls.Nodup → ls[r]? = some z → z ∉ ls.eraseIdx r
  | [], _, _, _, h => by simp at h
  | a :: l, 0, z, nd, h => by
    have e : a = z := Option.some.inj h
    subst e
    exact (List.nodup_cons.mp nd).1
  | a :: l, r + 1, z, nd, h => by
    have h' : l[r]? = some z := h
    intro hz
    rcases List.mem_cons.mp (show z ∈ a :: l.eraseIdx r from hz) with e | e
    · exact (List.nodup_cons.mp nd).1 (e ▸ List.mem_of_getElem? h')
    · exact not_in_erase (List.nodup_cons.mp nd).2 h' e
theorem half_pair {m : Nat} {fs ls : List Int} {x y : Int} {r : Nat} (h : Half m fs (x :: ls)) (hy : ls[r]? = some y) : Half m ((fs.set x.toNat y).set y.toNat x) (ls.eraseIdx r) := by
  have hx := h.lin x (List.mem_cons_self ..)
  have hyl : y ∈ ls := List.mem_of_getElem? hy
  have hy1 := h.lin y (List.mem_cons_of_mem _ hyl)
  have hxy : x ≠ y := fun e => (List.nodup_cons.mp h.nd).1 (e ▸ hyl)
  have sx := h.self x (List.mem_cons_self ..)
  have sy := h.self y (List.mem_cons_of_mem _ hyl)
  have hl := h.len
  have nxy : x.toNat ≠ y.toNat := by omega
  have get : ∀ k : Nat, ((fs.set x.toNat y).set y.toNat x)[k]? = if y.toNat = k then (if k < m then some x else none) else if x.toNat = k then (if k < m then some y else none) else fs[k]? := fun k => by
    rw [List.getElem?_set, List.getElem?_set, List.length_set, hl]
    by_cases e1 : y.toNat = k
    · simp [e1]
    · by_cases e2 : x.toNat = k
      · simp [e1, e2]
      · simp [e1, e2]
  have sub : ∀ z ∈ ls.eraseIdx r, z ∈ ls := fun z hz => List.mem_of_mem_eraseIdx hz
  refine ⟨by rw [List.length_set, List.length_set]; exact hl, fun k z hz => ?_, fun k z hz => ?_, ?_, fun z hz => h.lin z (List.mem_cons_of_mem _ (sub z hz)), fun z hz => ?_⟩
  · rw [get] at hz
    split at hz
    · split at hz
      · cases hz; exact hx
      · cases hz
    · split at hz
      · split at hz
        · cases hz; exact hy1
        · cases hz
      · exact h.inn k z hz
  · rw [get] at hz
    split at hz
    · rename_i e1
      split at hz
      · cases hz
        rw [get, if_neg (by omega), if_pos rfl, if_pos (by omega)]
        congr 1; omega
      · cases hz
    · rename_i e1
      split at hz
      · rename_i e2
        split at hz
        · cases hz
          rw [get, if_pos rfl, if_pos (by omega)]
          congr 1; omega
        · cases hz
      · rename_i e2
        have b1 := h.back k z hz
        have i1 := h.inn k z hz
        have n1 : y.toNat ≠ z.toNat := fun e => by
          have : z = y := by omega
          subst this
          rw [sy] at b1
          have := Option.some.inj b1
          omega
        have n2 : x.toNat ≠ z.toNat := fun e => by
          have : z = x := by omega
          subst this
          rw [sx] at b1
          have := Option.some.inj b1
          omega
        rw [get, if_neg n1, if_neg n2]; exact b1
  · exact List.Nodup.sublist (List.eraseIdx_sublist ls r) (List.nodup_cons.mp h.nd).2
  · have hzl := sub z hz
    have z1 := h.lin z (List.mem_cons_of_mem _ hzl)
    have zx : z ≠ x := fun e => (List.nodup_cons.mp h.nd).1 (e ▸ hzl)
    have zy : z ≠ y := fun e => by
      subst e
      exact not_in_erase (List.nodup_cons.mp h.nd).2 hy hz
    rw [get, if_neg (by omega), if_neg (by omega)]
    exact h.self z (List.mem_cons_of_mem _ hzl)
theorem half_mir {m : Nat} {fs : List Int} (h : Half m fs []) (h1 : 1 ≤ m) (h8 : m ≤ 8) : Mir fs := by
  have hl := h.len
  refine ⟨by omega, by omega, fun x hx => ?_, h.back⟩
  obtain ⟨k, hk, e⟩ := List.getElem_of_mem hx
  have := h.inn k x (by rw [List.getElem?_eq_getElem hk, e])
  omega
end K75
set_option maxHeartbeats 4000000
namespace K75
open PySem PySem.Spec PyProof.Rows L2 RV
/-- a pail of numbers stands at p, t have been mixed -/
def PailAt (H : Hp) (p : Addr) (t : Nat) : Prop := ∃ x y : Int, H p = some (.lst [.int x, .int y, .int (t : Int)]) ∧ 0 ≤ x ∧ 0 ≤ y ∧ y < 2305843009213693951
/-- all stands but what is at p -/
def But (p : Addr) (H H' : Hp) : Prop := ∀ c o, H c = some o → c ≠ p → H' c = some o
theorem But.refl (p : Addr) (H : Hp) : But p H H := fun _ _ e _ => e
theorem But.trans {p : Addr} {H H1 H2 : Hp} (a : But p H H1) (b : But p H1 H2) : But p H H2 := fun c o e z => b c o (a c o e z) z
theorem But.of {p : Addr} {H H' : Hp} (s : Same H H') : But p H H' := fun c o e _ => s c o e
theorem flag01 (b : Bool) : -(2 ^ 64) < (if b = true then (1 : Int) else 0) ∧ (if b = true then (1 : Int) else 0) < 2 ^ 64 := by cases b <;> decide
theorem mul_flag {x : Int} (h : 0 ≤ x) (b : Bool) : 0 ≤ x * (if b = true then (1 : Int) else 0) := by
  cases b
  · show 0 ≤ x * 0
    rw [Int.mul_zero]; exact Int.le_refl _
  · show 0 ≤ x * 1
    rw [Int.mul_one]; exact h
theorem pow60 : ((10 : Int) ^ (60 : Int).toNat).natAbs < 2 ^ 200 := by decide +kernel
theorem pow120 : ((10 : Int) ^ (60 : Int).toNat * (10 : Int) ^ (60 : Int).toNat).natAbs < 2 ^ 400 := by decide +kernel
theorem pow180 : (0 : Int) < (10 : Int) ^ (60 : Int).toNat * (10 : Int) ^ (60 : Int).toNat * (10 : Int) ^ (60 : Int).toNat := by decide +kernel
section
variable {P : Program} {w : World} {K : PySem.W.Frag} {mg : Str → Option Value} {base : Heap}
/-! ### _law_hand -/
theorem scHand : FnScope ["_law_script", "_law_k", "_law_cell", "_law_great"] ["_law_script", "_law_k"] (defScope sHand) := ⟨rfl, rfl, rfl, by decide +kernel, rfl, by decide +kernel, by decide +kernel⟩
def spHand (K : PySem.W.Frag) : Sp := fun vs H Q _ => ∃ (a : Addr) (ns : List Int) (k : Nat), vs = [.ref a, .int (k : Int)] ∧ SqL K H a (ns.map V.int) ∧ k < 64 ∧ ∀ H' p, Same H H' → H p = none → PailAt H' p 0 → Q (.ref p) H'
theorem ok_hand {f : Addr} {fd : FuncData} (F : Fun K "_law_hand" "_law_hand" sHand f fd) (B : Bare mg) : FnOk P w K mg base CX0 1 f fd ["_law_script", "_law_k"] (spHand K) := by
  refine F.ok scHand (fun vs H Q E h => ?_) (fun cdv A outer s H vs Q E hr h => ?_)
  · obtain ⟨a, ns, k, rfl, _⟩ := h
    rfl
  · obtain ⟨a, ns, k, rfl, hS, hk, q⟩ := h
    refine ⟨_, pss_cons (ps_set (i := 2) scHand.nd rfl (Or.inl rfl) (pe_ifExp (pt_cmpR op_lt (pv 1) (pe_callB call_len_seq (by rfl) B.len PySem.boot_len (pa_cons (pv 0) pa_nil)) (nomark _)) (pe_ix ix_list (pv 0) (pv 1) (fun _ _ => rfl)) pe_int))
      (pss_cons (ps_set (i := 3) scHand.nd rfl (Or.inl rfl) (pe_op op_mul (pe_op op_mod (pe_callB call_abs (by rfl) B.abs (by decide +kernel) (pa_cons (pv 2) pa_nil)) (pe_op op_mulW (pe_op op_mulW (pe_op op_pow pe_int pe_int) (pe_op op_pow pe_int pe_int)) (pe_op op_pow pe_int pe_int))) (pe_callTy call_int1 (by rfl) B.int boot_int (pa_cons (pe_cmpR op_ge (pe_callB call_abs (by rfl) B.abs (by decide +kernel) (pa_cons (pv 2) pa_nil)) (pe_op op_pow pe_int pe_int) (nomark _)) pa_nil))))
      (pss_one (ps_ret (pe_lst (pa_cons (pv 3) (pa_cons (pe_op op_mod (pe_op op_add (pe_op op_add (pe_op op_mod (pv 2) pe_int) (pe_op op_mul pe_int (pv 1))) pe_int) pe_int) (pa_cons pe_int pa_nil))))))), ?_⟩
    have go : ∀ (cell : Int), ∃ great : Int, great = ((if cell < 0 then -cell else cell) % ((10 : Int) ^ (60 : Int).toNat * (10 : Int) ^ (60 : Int).toNat * (10 : Int) ^ (60 : Int).toNat)) := fun cell => ⟨_, rfl⟩
    refine ⟨.int (k : Int), rfl, .ref a, rfl, a, _, rfl, .inl hS, (k : Int), _, rfl, rfl, _, rfl, ite2 (fun hlt => ?_) (fun _ => ?_)⟩
    · have hkl : k < ns.length := by
        have z := of_decide_eq_true hlt
        rw [List.length_map] at z; omega
      refine ⟨.ref a, rfl, .int (k : Int), rfl, a, _, (k : Int), .int ns[k], rfl, rfl, hS, atI_nat (by rw [List.getElem?_map, List.getElem?_eq_getElem hkl]; rfl), ?_⟩
      generalize ns[k] = cell
      have own0 := Int.emod_nonneg (if cell < 0 then -cell else cell) (Int.ne_of_gt pow180)
      refine ⟨_, rfl, cell, rfl, 10, 60, rfl, rfl, ⟨by decide, by decide, by decide⟩, 10, 60, rfl, rfl, ⟨by decide, by decide, by decide⟩, _, _, rfl, rfl, wide_mul pow60 pow60 (by decide) (by decide) (by decide), 10, 60, rfl, rfl, ⟨by decide, by decide, by decide⟩, _, _, rfl, rfl, wide_mul pow120 pow60 (by decide) (by decide) (by decide), _, _, rfl, rfl, pow180, _, rfl, cell, rfl, 10, 18, rfl, rfl, ⟨by decide, by decide, by decide⟩, _, _, rfl, rfl, .inr ⟨_, rfl, _, _, rfl, rfl, .inr ?_, ?_⟩⟩
      · exact flag01 _
      · refine ⟨_, rfl, _, rfl, cell, 2305843009213693951, rfl, rfl, (show (0 : Int) < 2305843009213693951 by decide), .int (k : Int), rfl, 104729, (k : Int), rfl, rfl, .inl ⟨by decide, by decide⟩, _, _, rfl, rfl, _, 61, rfl, rfl, _, 2305843009213693951, rfl, rfl, (show (0 : Int) < 2305843009213693951 by decide), (by show 3 ≤ sizeLine; decide), fun p np => ?_⟩
        exact q _ p (same_upd np) np ⟨_, _, upd_same, mul_flag own0 _, Int.emod_nonneg _ (by decide), Int.emod_lt_of_pos _ (by decide)⟩
    · have own0 := Int.emod_nonneg (if (0 : Int) < 0 then -0 else 0) (Int.ne_of_gt pow180)
      refine ⟨_, rfl, 0, rfl, 10, 60, rfl, rfl, ⟨by decide, by decide, by decide⟩, 10, 60, rfl, rfl, ⟨by decide, by decide, by decide⟩, _, _, rfl, rfl, wide_mul pow60 pow60 (by decide) (by decide) (by decide), 10, 60, rfl, rfl, ⟨by decide, by decide, by decide⟩, _, _, rfl, rfl, wide_mul pow120 pow60 (by decide) (by decide) (by decide), _, _, rfl, rfl, pow180, _, rfl, 0, rfl, 10, 18, rfl, rfl, ⟨by decide, by decide, by decide⟩, _, _, rfl, rfl, .inr ⟨_, rfl, _, _, rfl, rfl, .inr ?_, ?_⟩⟩
      · exact flag01 _
      · refine ⟨_, rfl, _, rfl, 0, 2305843009213693951, rfl, rfl, (show (0 : Int) < 2305843009213693951 by decide), .int (k : Int), rfl, 104729, (k : Int), rfl, rfl, .inl ⟨by decide, by decide⟩, _, _, rfl, rfl, _, 61, rfl, rfl, _, 2305843009213693951, rfl, rfl, (show (0 : Int) < 2305843009213693951 by decide), (by show 3 ≤ sizeLine; decide), fun p np => ?_⟩
        exact q _ p (same_upd np) np ⟨_, _, upd_same, mul_flag own0 _, Int.emod_nonneg _ (by decide), Int.emod_lt_of_pos _ (by decide)⟩
end
end K75
set_option maxHeartbeats 4000000
namespace K75
open PySem PySem.Spec PyProof.Rows L2 RV
section
variable {P : Program} {w : World} {K : PySem.W.Frag} {mg : Str → Option Value} {base : Heap}
/-! ### _law_take -/
theorem scDraw : FnScope ["_law_pot", "_law_many", "_law_digit", "_law_prime", "_law_mixed"] ["_law_pot", "_law_many"] (defScope sDraw) := ⟨rfl, rfl, rfl, by decide +kernel, rfl, by decide +kernel, by decide +kernel⟩
def spDraw : Sp := fun vs H Q _ => ∃ (p : Addr) (t : Nat) (m : Int), vs = [.ref p, .int m] ∧ PailAt H p t ∧ t ≤ 4000 ∧ 1 ≤ m ∧ m ≤ 1000 ∧
  ∀ (r : Int) (t' : Nat) (H' : Hp), 0 ≤ r → r < m → t' ≤ t + 1 → PailAt H' p t' → But p H H' → Q (.int r) H'
theorem primes_at (t : Int) (h : 0 ≤ t) : ∃ v : Int, atI [V.int 2305843009213693951, V.int 999999999989, V.int 1000000000039, V.int 67280421310721] (t % 4) = some (.int v) ∧ 0 < v ∧ v < 2305843009213693952 := by
  have h4 : t % 4 = 0 ∨ t % 4 = 1 ∨ t % 4 = 2 ∨ t % 4 = 3 := by omega
  rcases h4 with e | e | e | e <;> rw [e] <;> exact ⟨_, rfl, by decide, by decide⟩
theorem ok_draw {f : Addr} {fd : FuncData} (F : Fun K "_law_take" "_law_take" sDraw f fd) : FnOk P w K mg base CX0 1 f fd ["_law_pot", "_law_many"] spDraw := by
  refine F.ok scDraw (fun vs H Q E h => ?_) (fun cdv A outer s H vs Q E hr h => ?_)
  · obtain ⟨p, t, m, rfl, _⟩ := h
    rfl
  · obtain ⟨p, t, m, rfl, ⟨x, y, hp, hx, hy0, hy1⟩, ht, hm1, hm2, q⟩ := h
    refine ⟨_, pss_cons (ps_if (pt_cmpR op_gt (pe_ix ix_list (pv 0) pe_int (fun _ _ => rfl)) pe_int (nomark _))
        (pss_cons (ps_set (i := 2) scDraw.nd rfl (Or.inl rfl) (pe_op op_mod (pe_ix ix_list (pv 0) pe_int (fun _ _ => rfl)) (pv 1)))
        (pss_cons (ps_asg (pe_op op_fdiv (pe_ix ix_list (pv 0) pe_int (fun _ _ => rfl)) (pv 1)) (pg_sub (pv 0) pe_int set_list))
        (pss_one (ps_ret (pv 2))))) pss_nil)
      (pss_cons (ps_asg (pe_op op_add (pe_ix ix_list (pv 0) pe_int (fun _ _ => rfl)) pe_int) (pg_sub (pv 0) pe_int set_list))
      (pss_cons (ps_set (i := 3) scDraw.nd rfl (Or.inl rfl) (pe_ix ix_list (pe_lst (pa_cons pe_int (pa_cons pe_int (pa_cons pe_int (pa_cons pe_int pa_nil))))) (pe_op op_mod (pe_ix ix_list (pv 0) pe_int (fun _ _ => rfl)) pe_int) (fun _ _ => rfl)))
      (pss_cons (ps_set (i := 4) scDraw.nd rfl (Or.inl rfl) (pe_op op_mod (pe_op op_add (pe_op op_add (pe_ix ix_list (pv 0) pe_int (fun _ _ => rfl)) (pe_op op_mul (pe_op op_mul pe_int (pe_ix ix_list (pv 0) pe_int (fun _ _ => rfl))) (pe_ix ix_list (pv 0) pe_int (fun _ _ => rfl)))) (pe_op op_mul pe_int (pe_ix ix_list (pv 0) pe_int (fun _ _ => rfl)))) (pv 3)))
      (pss_cons (ps_set (i := 4) scDraw.nd rfl (Or.inl rfl) (pe_op op_mod (pe_op op_pow (pv 4) pe_int) (pv 3)))
      (pss_one (ps_ret (pe_op op_mod (pe_op op_add (pe_op op_fdiv (pv 4) pe_int) (pe_op op_mul (pe_op op_fdiv (pv 4) pe_int) pe_int)) (pv 1)))))))), ?_⟩
    refine ⟨.ref p, rfl, p, _, 0, .int x, rfl, rfl, lstNew hp, rfl, x, 0, rfl, rfl, _, rfl, ite2 (fun hx0 => ?_) (fun _ => ?_)⟩
    · refine ⟨.ref p, rfl, p, _, 0, .int x, rfl, rfl, lstNew hp, rfl, .int m, rfl, x, m, rfl, rfl, (show 0 < m by omega), ?_⟩
      refine ⟨.ref p, rfl, p, _, 0, .int x, rfl, rfl, lstNew hp, rfl, .int m, rfl, x, m, rfl, rfl, ⟨by omega, by omega⟩, .ref p, rfl, p, _, 0, 0, rfl, rfl, hp, rfl, ?_⟩
      refine ⟨_, rfl, ?_⟩
      exact q (x % m) t _ (Int.emod_nonneg _ (by omega)) (Int.emod_lt_of_pos _ (by omega)) (by omega) ⟨x / m, y, upd_same, Int.ediv_nonneg hx (by omega), hy0, hy1⟩ fun c o e z => by rw [upd_ne z]; exact e
    · refine ⟨.ref p, rfl, p, _, 2, .int (t : Int), rfl, rfl, lstNew hp, rfl, (t : Int), 1, rfl, rfl, .ref p, rfl, p, _, 2, 2, rfl, rfl, hp, rfl, ?_⟩
      have hp1 : (upd H p (.lst [.int x, .int y, .int ((t : Int) + 1)])) p = some (.lst [.int x, .int y, .int ((t : Int) + 1)]) := upd_same
      have b1 : But p H (upd H p (.lst [.int x, .int y, .int ((t : Int) + 1)])) := fun c o e z => by rw [upd_ne z]; exact e
      obtain ⟨v, hv, v0, v1⟩ := primes_at ((t : Int) + 1) (by omega)
      refine ⟨(by show 4 ≤ sizeLine; decide), fun l nl => ?_⟩
      have s2 := same_upd (H := upd H p (.lst [.int x, .int y, .int ((t : Int) + 1)])) (o := .lst [.int 2305843009213693951, .int 999999999989, .int 1000000000039, .int 67280421310721]) nl
      have hp2 := s2 _ _ hp1
      refine ⟨.ref p, rfl, p, _, 2, .int ((t : Int) + 1), rfl, rfl, lstNew hp2, rfl, (t : Int) + 1, 4, rfl, rfl, (show (0 : Int) < 4 by decide), l, _, _, .int v, rfl, rfl, lstNew upd_same, hv, ?_⟩
      have tt : 0 ≤ ((t : Int) + 1) ∧ ((t : Int) + 1) ≤ 4001 := by omega
      have sq0 : 0 ≤ 7919 * ((t : Int) + 1) * ((t : Int) + 1) := Int.mul_nonneg (by omega) tt.1
      refine ⟨.ref p, rfl, p, _, 1, .int y, rfl, rfl, lstNew hp2, rfl, .ref p, rfl, p, _, 2, .int ((t : Int) + 1), rfl, rfl, lstNew hp2, rfl, 7919, _, rfl, rfl, .inl ⟨by decide, by decide⟩, .ref p, rfl, p, _, 2, .int ((t : Int) + 1), rfl, rfl, lstNew hp2, rfl, _, _, rfl, rfl, .inl ⟨by omega, by omega⟩, y, _, rfl, rfl, .ref p, rfl, p, _, 2, .int ((t : Int) + 1), rfl, rfl, lstNew hp2, rfl, 65537, _, rfl, rfl, .inl ⟨by decide, by decide⟩, _, _, rfl, rfl, .int v, rfl, _, v, rfl, rfl, v0, ?_⟩
      have z0 := Int.emod_nonneg (y + 7919 * ((t : Int) + 1) * ((t : Int) + 1) + 65537 * ((t : Int) + 1)) (show v ≠ 0 by omega)
      have z1 := Int.emod_lt_of_pos (y + 7919 * ((t : Int) + 1) * ((t : Int) + 1) + 65537 * ((t : Int) + 1)) v0
      refine ⟨_, rfl, _, 5, rfl, rfl, ⟨by decide, by decide, ?_⟩, .int v, rfl, _, v, rfl, rfl, v0, ?_⟩
      · show ((y + 7919 * ((t : Int) + 1) * ((t : Int) + 1) + 65537 * ((t : Int) + 1)) % v).natAbs < 2 ^ 64
        omega
      refine ⟨_, rfl, _, 4099, rfl, rfl, ⟨by decide, by decide⟩, _, rfl, _, 1000003, rfl, rfl, ⟨by decide, by decide⟩, _, 7, rfl, rfl, .inr ⟨by decide, by decide⟩, _, _, rfl, rfl, .int m, rfl, _, m, rfl, rfl, (show 0 < m by omega), ?_⟩
      exact q _ (t + 1) _ (Int.emod_nonneg _ (by omega)) (Int.emod_lt_of_pos _ (by omega)) (Nat.le_refl _) ⟨x, y, hp2, hx, hy0, hy1⟩ (b1.trans (But.of s2))
end
end K75
set_option maxHeartbeats 4000000
namespace K75
open PySem PySem.Spec PyProof.Rows L2 RV
/-! ### what a draw leaves -/
theorem sqT_pail {K : PySem.W.Frag} {H H' : Hp} {p : Addr} {t : Nat} (hp : PailAt H p t) (b : But p H H') {a : Addr} {xs : List V} (h : SqT K H a xs) : SqT K H' a xs := by
  obtain ⟨x, y, e, _⟩ := hp
  rcases h with (h | ⟨o, h⟩) | h
  · exact .inl (.inl (b _ _ h fun z => by rw [z, e] at h; cases h))
  · exact .inl (.inr ⟨o, b _ _ h fun z => by rw [z, e] at h; cases h⟩)
  · exact .inr h
theorem sqL_but {K : PySem.W.Frag} {H H' : Hp} {p a : Addr} (b : But p H H') (n : a ≠ p) {xs : List V} (h : SqL K H a xs) : SqL K H' a xs := by
  rcases h with (h | ⟨o, h⟩) | h
  · exact .inl (.inl (b _ _ h n))
  · exact .inl (.inr ⟨o, b _ _ h n⟩)
  · exact .inr h
theorem tups_pail {K : PySem.W.Frag} {H H' : Hp} {p : Addr} {t : Nat} (hp : PailAt H p t) (b : But p H H') {a : Addr} {ps : List (List Int)} (h : Tups K H a ps) : Tups K H' a ps := by
  obtain ⟨ks, h1, h2, h3⟩ := h
  exact ⟨ks, h1, sqT_pail hp b h2, fun q hq => sqT_pail hp b (h3 q hq)⟩
theorem same_but {p : Addr} {H H1 H2 : Hp} (s : Same H H1) (n : H p = none) (b : But p H1 H2) : Same H H2 := fun c o e => b c o (s c o e) (ne_of_none e n)
theorem pail_same {p : Addr} {H H' : Hp} {t : Nat} (h : PailAt H p t) (s : Same H H') : PailAt H' p t := by
  obtain ⟨x, y, e, r⟩ := h
  exact ⟨x, y, s _ _ e, r⟩
theorem pail_new {p a : Addr} {H : Hp} {o : HO} {t : Nat} (h : PailAt H p t) (n : H a = none) : PailAt (upd H a o) p t := pail_same h (same_upd n)
theorem pail_set {p l : Addr} {H : Hp} {o : HO} {t : Nat} (h : PailAt H p t) (n : l ≠ p) : PailAt (upd H l o) p t := by
  obtain ⟨x, y, e, r⟩ := h
  exact ⟨x, y, by rw [upd_ne n.symm]; exact e, r⟩
theorem pail_ne {p a : Addr} {H : Hp} {t : Nat} (h : PailAt H p t) (n : H a = none) : a ≠ p := by
  obtain ⟨x, y, e, r⟩ := h
  exact (ne_of_none e n).symm
section
variable {P : Program} {w : World} {K : PySem.W.Frag} {mg : Str → Option Value} {base : Heap}
/-! ### _law_of -/
theorem scOf : FnScope ["_law_pot", "_law_some"] ["_law_pot", "_law_some"] (defScope sOf) := ⟨rfl, rfl, rfl, by decide +kernel, rfl, by decide +kernel, by decide +kernel⟩
def spOf (K : PySem.W.Frag) : Sp := fun vs H Q _ => ∃ (p a : Addr) (t : Nat) (xs : List V), vs = [.ref p, .ref a] ∧ PailAt H p t ∧ t ≤ 4000 ∧ SqL K H a xs ∧ a ≠ p ∧ 0 < xs.length ∧ xs.length ≤ 1000 ∧
  ∀ (j : Nat) (v : V) (t' : Nat) (H' : Hp), xs[j]? = some v → t' ≤ t + 1 → PailAt H' p t' → But p H H' → Q v H'
theorem ok_of {f fD : Addr} {fd fdD : FuncData} (F : Fun K "_law_of" "_law_of" sOf f fd) (DD : DefAt K mg "_law_take" sDraw ["_law_pot", "_law_many"] fD fdD) (B : Bare mg) : FnOk P w K mg base CX0 2 f fd ["_law_pot", "_law_some"] (spOf K) := by
  have GD : FnOk P w K mg base CX0 1 fD fdD ["_law_pot", "_law_many"] spDraw := ok_draw DD.fn
  refine F.ok scOf (fun vs H Q E h => ?_) (fun cdv A outer s H vs Q E hr h => ?_)
  · obtain ⟨p, a, t, xs, rfl, _⟩ := h
    rfl
  · obtain ⟨p, a, t, xs, rfl, hp, ht, hS, hne, h0, h1, q⟩ := h
    refine ⟨_, pss_one (ps_ret (pe_ix ix_list (pv 1) (pe_call GD hr (by rfl) DD.mg DD.fn.kp DD.bi .nil pass0 (pa_cons (pv 0) (pa_cons (pe_callB call_len_seq (by rfl) B.len PySem.boot_len (pa_cons (pv 1) pa_nil)) pa_nil))) (fun _ _ => rfl))), ?_⟩
    refine ⟨.ref a, rfl, .ref p, rfl, .ref a, rfl, a, xs, rfl, .inl hS, p, t, (xs.length : Int), rfl, hp, ht, by omega, by omega, fun r t1 H1 r0 r1 ht1 hp1 b1 => ?_⟩
    obtain ⟨v, hv⟩ : ∃ v, xs[r.toNat]? = some v := ⟨_, List.getElem?_eq_getElem (by omega)⟩
    refine ⟨a, xs, r, v, rfl, rfl, sqL_but b1 hne hS, ?_, q r.toNat v t1 H1 hv ht1 hp1 b1⟩
    rw [show r = ((r.toNat : Nat) : Int) by omega]
    exact atI_nat hv
theorem erase_map {α β : Type} (f : α → β) : ∀ (l : List α) (i : Nat), (l.map f).eraseIdx i = (l.eraseIdx i).map f
  | [], _ => rfl
  | a :: l, 0 => rfl
  | a :: l, i + 1 => by
    show f a :: (l.map f).eraseIdx i = f a :: (l.eraseIdx i).map f
    rw [erase_map f l i]
theorem ix_at {n : Nat} {i : Int} (h1 : i < (n : Int)) (h0 : 0 ≤ i) : ixN n i = some i.toNat := by
  unfold ixN
  rw [if_pos h0, if_pos h1]
def lenAt (H : Hp) (a : Addr) : Nat := match H a with
  | some (.lst xs) => xs.length
  | _ => 0
theorem lenAt_eq {H : Hp} {a : Addr} {xs : List V} (h : H a = some (.lst xs)) : lenAt H a = xs.length := by unfold lenAt; rw [h]
theorem shapedL (ns : List Int) : SeqAt.shaped (.list (ns.map PyData.int)) = true := by
  have h1 : (PyData.list (ns.map PyData.int)).canLay0 = true := by simp only [PyData.canLay0]; exact lay_ints ns
  have h2 : (PyData.list (ns.map PyData.int)).depth ≤ 64 := by simp only [PyData.depth, dep_ints]; omega
  show ((PyData.list (ns.map PyData.int)).canLay0 && decide ((PyData.list (ns.map PyData.int)).depth ≤ 64)) = true
  rw [h1, decide_eq_true h2]; rfl
theorem eqvL (ns ms : List Int) : PyData.eqv (.list (ns.map PyData.int)) (.list (ms.map PyData.int)) = decide (ns = ms) := by simp only [PyData.eqv, eqv_ints]
end
end K75
set_option maxHeartbeats 4000000
/-! sorted(d), d a dict whose keys are pairs of ints -/
namespace RV
open PySem PySem.Spec PyProof.Rows L2
/-- a pair of ints as a key, and back -/
def keyP (p : List Int) : List L2.Key := p.map Sum.inl
def pairOf (k : List L2.Key) : List Int := k.map fun x => match x with | .inl i => i | .inr _ => 0
theorem pairOf_keyP (p : List Int) : pairOf (keyP p) = p := by
  unfold pairOf keyP
  rw [List.map_map]
  exact List.map_id p
theorem kV_keyP (p : List Int) : (keyP p).map kV = p.map V.int := by
  unfold keyP
  rw [List.map_map]; rfl
abbrev two (p : List Int) : Int × Int := (p.getD 0 0, p.getD 1 0)
open Classical in
noncomputable def readP (h : Heap) (v : Value) : Int × Int := if e : ∃ p : Int × Int, Srt.IsPair h v p.1 p.2 then Classical.choose e else (0, 0)
theorem readP_eq {h : Heap} {v : Value} {x y : Int} (e : Srt.IsPair h v x y) : readP h v = (x, y) := by
  have ex : ∃ p : Int × Int, Srt.IsPair h v p.1 p.2 := ⟨(x, y), e⟩
  unfold readP
  rw [dif_pos ex]
  have c := Classical.choose_spec ex
  generalize Classical.choose ex = p at c
  obtain ⟨a, o, t, u, n, e1, e2, e3, e4⟩ := c
  obtain ⟨a', o', t', u', n', f1, f2, f3, f4⟩ := e
  rw [e1] at f1
  cases f1
  rw [e2] at f2
  cases f2
  rw [e4] at f4
  injection f4 with g1 g2
  have g3 : [Value.int p.1 t, Value.int p.2 u] = [Value.int x t', Value.int y u'] := by
    have := congrArg Array.toList g1
    simpa using this
  injection g3 with g4 g5
  injection g5 with g5 _
  injection g4 with g4 _
  injection g5 with g5 _
  obtain ⟨p1, p2⟩ := p
  simp only at g4 g5
  rw [g4, g5]
theorem paired_mem {α β : Type} {F : α → β → Prop} : ∀ {l : List α} {m : List β}, Paired F l m → ∀ y ∈ m, ∃ x ∈ l, F x y
  | _, _, .nil, y, h => nomatch h
  | _, _, .cons f t, y, h => by
    rcases List.mem_cons.mp h with e | e
    · rw [e]; exact ⟨_, List.mem_cons_self .., f⟩
    · obtain ⟨x, hx, fx⟩ := paired_mem t y e
      exact ⟨x, List.mem_cons_of_mem _ hx, fx⟩
theorem paired_map {α β γ : Type} {F : α → β → Prop} {f : α → γ} {g : β → γ} (h : ∀ a b, F a b → f a = g b) : ∀ {l : List α} {m : List β}, Paired F l m → l.map f = m.map g
  | _, _, .nil => rfl
  | _, _, .cons e t => by rw [List.map_cons, List.map_cons, h _ _ e, paired_map h t]
section
variable {X : Cx}
/-- sorted(d) -/
def rSortDT : List V → Hp → VK → Prop := fun xs H Q => ∃ (d : Addr) (kvs : List (List L2.Key × V)) (ps : List (List Int)), xs = [.ref d] ∧ Rd H d (.dT kvs) ∧ kvs.map (·.1) = ps.map keyP ∧ (∀ p ∈ ps, ∃ x y : Int, p = [x, y]) ∧ kvs.length ≤ 1000 ∧
  ∀ (L : List (Addr × List Int)) (q : Addr), H q = none → (L.map (·.2)).Perm ps → L.Pairwise (fun a b => SrtO.lexB (two b.2) (two a.2) = false) → (∀ a ∈ L, H a.1 = some (.tup (a.2.map V.int))) → Q (.ref q) (upd H q (.lst (L.map fun a => V.ref a.1)))
theorem cr_sortedDT (hc : X.calm = true) : CallR X (.builtin "sorted") rSortDT := by
  intro pins s σ H xs us Q I r h
  obtain ⟨d, kvs, ps, rfl, hd, hks, hpr, h1000, q⟩ := h
  obtain ⟨u, rfl, rx⟩ := vals1 r
  cases rx
  obtain ⟨z, hs, ks, pr, o, es, ep, ho, hx, hdt, he, hn⟩ := (show ObjOk X.prog X.w H s.heap d (.dT kvs) from hd.ok I.hok)
  have l1 : es.size = ks.length := size_of_entries he
  have l2 : kvs.length = ks.length := Paired.length pr
  refine Calls.call_function_entry kind_sorted plain_sorted entry_sorted (args_sorted1 _) ?_
  unfold Builtin.«sorted»
  refine wpAny_bind (m := checkCount "sorted" 1 1 _) (wpAny_pure ?_)
  refine wpAny_bind (PySem.W.kdu_collect (A := X.A.in1) (kdl_raw hs hx hdt) (I.ok.hd hc) ho (by rw [l1, ← l2]; exact Nat.le_of_lt (small1000 h1000)) fun h' tk acc kp it => ?_)
  -- what was collected
  have ea : acc.toList = ks.map fun x => Value.ref x.2.1 := by
    have hl : acc.toList.length = ks.length := by rw [Array.length_toList, it.1, l1]
    refine List.ext_getElem (by rw [hl, List.length_map]) fun j j1 j2 => ?_
    have ja : acc.toList[j]? = some acc.toList[j] := List.getElem?_eq_getElem j1
    obtain ⟨en, hen, hv⟩ := it.2 j _ (by rw [← Array.getElem?_toList]; exact ja)
    have qe := entry_at he j
    have jk : j < ks.length := by rw [List.length_map] at j2; exact j2
    rw [hen, List.getElem?_eq_getElem jk] at qe
    have e2 : en = entryOfKey (tupleKind (mixKind X.prog X.w)) ks[j] := Option.some.inj qe
    rw [hv, e2, List.getElem_map]; rfl
  have I1 : Inv X pins σ H { s with heap := h', toks := tk } := I.kept kp
  have hal : acc.toList.length = ks.length := by rw [ea, List.length_map]
  refine wpAny_bind (wpAny_newList ?_ (by rw [hal, ← l2]; exact Nat.le_of_lt (small1000 h1000)))
  have hoL : (h'.push (seqObj "list" acc.toList.toArray 0)).get? h'.objs.size = some (seqObj "list" acc.toList.toArray 0) := Heap.get?_push_size _ rfl
  show wpAny _ _ _ _ _ { s with heap := h'.push (seqObj "list" acc.toList.toArray 0), toks := tk }
  -- each is a pair
  have ent : ∀ v ∈ acc.toList, ∃ (b : Addr) (p : List Int), v = .ref b ∧ p ∈ ps ∧ H b = some (.tup (p.map V.int)) ∧ ∃ x y : Int, p = [x, y] ∧ Srt.IsPair h' v x y := by
    intro v hv
    rw [ea] at hv
    obtain ⟨x, hx1, rfl⟩ := List.mem_map.mp hv
    obtain ⟨kv, hkv, q1, q2, _⟩ := paired_mem pr x hx1
    have hk2 : kv.1 ∈ ps.map keyP := by rw [← hks]; exact List.mem_map_of_mem hkv
    obtain ⟨p, hp, ep⟩ := List.mem_map.mp hk2
    have hb : H x.2.1 = some (.tup (p.map V.int)) := by rw [q2, ← ep, kV_keyP]
    obtain ⟨x', y', e'⟩ := hpr p hp
    refine ⟨x.2.1, p, rfl, hp, hb, x', y', e', ?_⟩
    obtain ⟨_, its2, r2, oo, ho2, hc2, n2, hd2⟩ := (show ObjOk X.prog X.w H s.heap x.2.1 (.tup (p.map V.int)) from I.hok _ _ hb)
    rw [e'] at r2
    obtain ⟨u1, u2, rfl, ri, rj⟩ := vals2 r2
    obtain ⟨t1, rfl⟩ := ri
    obtain ⟨t2, rfl⟩ := rj
    exact ⟨x.2.1, oo, t1, t2, n2, rfl, kp _ _ ho2, hc2, hd2⟩
  have isp : ∀ v ∈ acc.toList, Srt.IsPair h' v (readP h' v).1 (readP h' v).2 := fun v hv => by
    obtain ⟨b, p, _, _, _, x, y, _, e⟩ := ent v hv
    rw [readP_eq e]; exact e
  refine wpAny_bind (wpAny_holding (wpAny_call_entry slot_list_sort ⟨_, hoL, rfl⟩ entry_list_sort (SrtO.list_sort_ord (s := { s with heap := h'.push (seqObj "list" acc.toList.toArray 0), toks := tk }) (ltv := fun v u => SrtO.lexB (readP h' v) (readP h' u)) (SrtO.swo_lex (readP h')) hoL
    (by rw [hal, ← l2]; exact Nat.le_of_lt (small1000 h1000)) (fun h2 => ?_) fun out g1 g2 => ⟨_, rfl, ?_⟩) (args_list_sort _)))
  · refine SrtO.pairs_sortableO (k := readP h') (s := { s with heap := h'.push (seqObj "list" acc.toList.toArray 0), toks := tk }) (by omega) (fun v hm => (isp v hm).keeps fun b o e _ => Heap.get?_push_of_some _ e) fun o e => ?_
    have e' : some o = some (seqObj "list" acc.toList.toArray 0) := e.symm.trans hoL
    cases e'
    intro c
    exact absurd (Value.type.inj c) (by decide)
  · obtain ⟨e', he'⟩ := sortedHeap_at (vs := acc.toList) (out := out.toArray) hoL
    -- as addresses with their ints
    have inV : ∀ v ∈ out, v ∈ acc.toList := fun v hv => g2.perm.mem_iff.mp hv
    let ad : Value → Addr := fun v => match v with | .ref b => b | _ => 0
    let L : List (Addr × List Int) := out.map fun v => (ad v, [(readP h' v).1, (readP h' v).2])
    have tell : ∀ v ∈ out, v = .ref (ad v) ∧ [(readP h' v).1, (readP h' v).2] ∈ ps ∧ H (ad v) = some (.tup (([(readP h' v).1, (readP h' v).2] : List Int).map V.int)) := fun v hv => by
      obtain ⟨b, p, rfl, hp, hb, x, y, rfl, e⟩ := ent v (inV v hv)
      rw [readP_eq e]
      exact ⟨rfl, hp, hb⟩
    have eo : out = L.map fun a => Value.ref a.1 := by
      show out = (out.map _).map _
      rw [List.map_map]
      conv => lhs; rw [← List.map_id out]
      exact List.map_congr_left fun v hv => (tell v hv).1
    have eks : ∀ v ∈ acc.toList, True := fun _ _ => trivial
    have hLlen : (L.map fun a => V.ref a.1).length ≤ sizeLine := by
      rw [List.length_map, List.length_map, g2.len, hal, ← l2]; exact Nat.le_of_lt (small1000 h1000)
    have rv : Vals (L.map fun a => V.ref a.1) out := by
      rw [eo]
      have : ∀ M : List (Addr × List Int), Vals (M.map fun a => V.ref a.1) (M.map fun a => Value.ref a.1) := fun M => by
        induction M with
        | nil => exact .nil
        | cons m r ih => exact .cons rfl ih
      exact this L
    have e2 : L.map (·.2) = out.map fun v => [(readP h' v).1, (readP h' v).2] := by
      show (out.map _).map _ = _
      rw [List.map_map]; rfl
    have e3 : (acc.toList.map fun v => [(readP h' v).1, (readP h' v).2]) = ps := by
      have w1 : ks.map (fun x => pairOf x.1) = ps := by
        rw [← paired_map (f := fun (a : List L2.Key × V) => pairOf a.1) (g := fun (b : List L2.Key × Addr × Value) => pairOf b.1) (fun a b f => by rw [f.1]) pr]
        have w2 : kvs.map (fun a => pairOf a.1) = (kvs.map (·.1)).map pairOf := by rw [List.map_map]; rfl
        rw [w2, hks, List.map_map]
        conv => rhs; rw [← List.map_id ps]
        exact List.map_congr_left fun p _ => pairOf_keyP p
      rw [← w1, ea, List.map_map]
      refine List.map_congr_left fun x hx1 => ?_
      obtain ⟨kv, hkv, q1, q2, _⟩ := paired_mem pr x hx1
      obtain ⟨b, p, eb, hp, hb, x', y', e', isP⟩ := ent (.ref x.2.1) (by rw [ea]; exact List.mem_map.mpr ⟨x, hx1, rfl⟩)
      cases eb
      show [(readP h' (.ref x.2.1)).1, (readP h' (.ref x.2.1)).2] = pairOf x.1
      rw [readP_eq isP, ← q1]
      have hk2 : kv.1 ∈ ps.map keyP := by rw [← hks]; exact List.mem_map_of_mem hkv
      obtain ⟨p2, hp2, ep2⟩ := List.mem_map.mp hk2
      rw [← ep2, pairOf_keyP]
      rw [hb, ← ep2, kV_keyP] at q2
      have q3 : p.map V.int = p2.map V.int := by
        injection q2 with q2
        injection q2
      have q4 : p = p2 := by
        have inj : ∀ l m : List Int, l.map V.int = m.map V.int → l = m := fun l => by
          induction l with
          | nil => intro m e; cases m with | nil => rfl | cons => cases e
          | cons a r ih =>
            intro m e
            cases m with
            | nil => cases e
            | cons b t =>
              rw [List.map_cons, List.map_cons] at e
              injection e with e1 e2
              injection e1 with e1
              rw [e1, ih t e2]
        exact inj p p2 q3
      rw [← q4, e']
    refine wpAny_pure ⟨_, rfl, .ref h'.objs.size, upd H h'.objs.size (.lst (L.map fun a => V.ref a.1)), I1.laid (t' := tk) (fun b u e => ?_) (Nat.le_refl _)
      (show ObjOk X.prog X.w _ _ _ (.lst (L.map fun a => V.ref a.1)) from ⟨hLlen, out, e', rv, he'⟩), rfl, q L _ (I1.hok.fresh (Nat.le_refl _)) ?_ ?_ fun a ha => ?_⟩
    · have hb : b < h'.objs.size := Heap.lt_size e
      rw [sortedHeap_old (Nat.ne_of_lt hb) (by rw [size_push']; exact Nat.lt_succ_of_lt hb)]
      exact Heap.get?_push_of_some _ e
    · rw [e2, ← e3]
      exact g2.perm.map _
    · show (out.map _).Pairwise _
      rw [List.pairwise_map]
      exact g1
    · obtain ⟨v, hv, rfl⟩ := List.mem_map.mp ha
      exact (tell v hv).2.2
end
end RV
set_option maxHeartbeats 4000000
namespace K75
open PySem PySem.Spec PyProof.Rows L2 RV
/-! ### a dict of pairs, by its keys -/
def addP (ps : List (List Int)) (p : List Int) : List (List Int) := if p ∈ ps then ps else ps ++ [p]
theorem keyP_inj {p q : List Int} (h : keyP p = keyP q) : p = q := by
  have := congrArg pairOf h
  rwa [pairOf_keyP, pairOf_keyP] at this
theorem key_mem {p : List Int} {ps : List (List Int)} : keyP p ∈ ps.map keyP ↔ p ∈ ps := by
  constructor
  · intro h
    obtain ⟨q, hq, e⟩ := List.mem_map.mp h
    rw [← keyP_inj e]; exact hq
  · exact fun h => List.mem_map_of_mem h
theorem put_keys {kvs : List (List L2.Key × V)} {ps : List (List Int)} {p : List Int} {v : V} (h : kvs.map (·.1) = ps.map keyP) : (putK kvs (keyP p) v).map (·.1) = (addP ps p).map keyP := by
  unfold addP
  cases e : valV kvs (keyP p) with
  | none =>
    have n : p ∉ ps := fun z => valV_not e (by rw [h]; exact key_mem.mpr z)
    rw [putK_new v e, if_neg n, List.map_append, List.map_append, h]; rfl
  | some x =>
    have y : p ∈ ps := key_mem.mp (by rw [← h]; exact valV_in e)
    rw [if_pos y, ← h]
    unfold putK
    rw [valV_any, e]
    show (kvs.map fun kv => if kv.1 = keyP p then (kv.1, v) else kv).map (·.1) = kvs.map (·.1)
    rw [List.map_map]
    refine List.map_congr_left fun kv _ => ?_
    show (if kv.1 = keyP p then (kv.1, v) else kv).1 = kv.1
    split <;> rfl
theorem mem_addP {ps : List (List Int)} {p q : List Int} : q ∈ addP ps p ↔ q ∈ ps ∨ q = p := by
  unfold addP
  split
  · rename_i h
    constructor
    · exact .inl
    · rintro (z | rfl)
      · exact z
      · exact h
  · rw [List.mem_append, List.mem_singleton]
theorem nd_addP {ps : List (List Int)} {p : List Int} (h : ps.Nodup) : (addP ps p).Nodup := by
  unfold addP
  split
  · exact h
  · rename_i n
    rw [List.nodup_append]
    exact ⟨h, by simp, fun a ha b hb e => n (by rw [← List.mem_singleton.mp hb, ← e]; exact ha)⟩
/-- a tuple of tuples of ints, all of them seen -/
def TupsH (H : Hp) (a : Addr) (ps : List (List Int)) : Prop := ∃ ks : List (Addr × List Int), ks.map (·.2) = ps ∧ H a = some (.tup (ks.map fun p => V.ref p.1)) ∧ ∀ p ∈ ks, H p.1 = some (.tup (p.2.map V.int))
theorem TupsH.tups {K : PySem.W.Frag} {H : Hp} {a : Addr} {ps : List (List Int)} (h : TupsH H a ps) : Tups K H a ps :=
  let ⟨ks, h1, h2, h3⟩ := h; ⟨ks, h1, tupNew h2, fun p hp => tupNew (h3 p hp)⟩
theorem TupsH.same {H H' : Hp} {a : Addr} {ps : List (List Int)} (h : TupsH H a ps) (e : Same H H') : TupsH H' a ps :=
  let ⟨ks, h1, h2, h3⟩ := h; ⟨ks, h1, e _ _ h2, fun p hp => e _ _ (h3 p hp)⟩
theorem TupsH.but {H H' : Hp} {p a : Addr} {t : Nat} {ps : List (List Int)} (h : TupsH H a ps) (hp : PailAt H p t) (b : But p H H') : TupsH H' a ps := by
  obtain ⟨ks, h1, h2, h3⟩ := h
  obtain ⟨x, y, e, _⟩ := hp
  exact ⟨ks, h1, b _ _ h2 fun z => (by rw [z, e] at h2; cases h2), fun q hq => b _ _ (h3 q hq) fun z => (by have h := h3 q hq; rw [z, e] at h; cases h)⟩
/-- steps drawn so far -/
structure Part (ns : List Int) (ps : List (List Int)) : Prop where
  nd : ps.Nodup
  pr : ∀ p ∈ ps, Pr (ns.length : Int) p
  mi : ∀ x y mx my : Int, [x, y] ∈ ps → ns[x.toNat]? = some mx → ns[y.toNat]? = some my → [my, mx] ∈ ps
theorem Part.nil (ns : List Int) : Part ns [] := ⟨List.nodup_nil, (fun _ h => nomatch h), fun _ _ _ _ h => nomatch h⟩
theorem Part.add {ns : List Int} {ps : List (List Int)} {x y mx my : Int} (M : Mir ns) (h : Part ns ps) (hx : 0 ≤ x ∧ x < (ns.length : Int)) (hy : 0 ≤ y ∧ y < (ns.length : Int)) (ex : ns[x.toNat]? = some mx) (ey : ns[y.toNat]? = some my) :
    Part ns (addP (addP ps [x, y]) [my, mx]) := by
  have bx := M.back _ _ ex
  have bY := M.back _ _ ey
  have ix := M.inn mx (List.mem_of_getElem? ex)
  have iy := M.inn my (List.mem_of_getElem? ey)
  refine ⟨nd_addP (nd_addP h.nd), fun p hp => ?_, fun a b ma mb hab ha hb => ?_⟩
  · rcases mem_addP.mp hp with z | rfl
    · rcases mem_addP.mp z with z | rfl
      · exact h.pr p z
      · exact ⟨x, y, rfl, hx, hy⟩
    · exact ⟨my, mx, rfl, iy, ix⟩
  · rw [mem_addP, mem_addP] at hab ⊢
    rcases hab with (z | z) | z
    · exact .inl (.inl (h.mi a b ma mb z ha hb))
    · injection z with z1 z2
      injection z2 with z2 _
      subst z1 z2
      rw [ex] at ha
      rw [ey] at hb
      cases ha
      cases hb
      exact .inr rfl
    · injection z with z1 z2
      injection z2 with z2 _
      subst z1 z2
      rw [bY] at ha
      rw [bx] at hb
      cases ha
      cases hb
      refine .inl (.inr ?_)
      rw [show ((x.toNat : Nat) : Int) = x by omega, show ((y.toNat : Nat) : Int) = y by omega]
theorem Part.len {ns : List Int} {ps : List (List Int)} (h : Part ns ps) (M : Mir ns) : ps.length ≤ 64 := by
  have := nodup_le (us := gridOf 0 (fun _ _ => true) ns.length ns.length) h.nd fun p hp => by
    obtain ⟨x, y, rfl, hx, hy⟩ := h.pr p hp
    refine mem_grid.mpr ⟨x.toNat, y.toNat, by omega, by omega, rfl, ?_⟩
    rw [show (0 + ((x.toNat : Nat) : Int)) = x by omega, show (0 + ((y.toNat : Nat) : Int)) = y by omega]
  have g := grid_len 0 (fun _ _ => true) ns.length ns.length
  have m8 : ns.length * ns.length ≤ 8 * 8 := Nat.mul_le_mul M.few M.few
  omega
theorem le_of_two {p q : List Int} (hp : Pr 64 p) (hq : Pr 64 q) (h : SrtO.lexB (two q) (two p) = false) : cd p ≤ cd q := by
  obtain ⟨x, y, rfl, hx, hy⟩ := hp
  obtain ⟨x', y', rfl, hx', hy'⟩ := hq
  have z := SrtO.lexB_no.mp h
  have z' : ¬ (x' < x ∨ (x' = x ∧ y' < y)) := z
  rw [cd_pair, cd_pair]; omega
/-- sorted, they are a rule's steps -/
theorem Part.stp {ns : List Int} {ps : List (List Int)} {L : List (Addr × List Int)} (M : Mir ns) (h : Part ns ps) (pm : (L.map (·.2)).Perm ps) (pw : L.Pairwise fun a b => SrtO.lexB (two b.2) (two a.2) = false) : Stp ns (L.map (·.2)) := by
  have h8 := M.few
  have pr : ∀ p ∈ L.map (·.2), Pr (ns.length : Int) p := fun p hp => h.pr p (pm.mem_iff.mp hp)
  have pr64 : ∀ p ∈ L.map (·.2), Pr 64 p := fun p hp => (pr p hp).mono (by omega)
  have le : (L.map (·.2)).Pairwise fun p q => cd p ≤ cd q := by
    rw [List.pairwise_map]
    exact List.Pairwise.imp_of_mem (fun {a b} ha hb z => le_of_two (pr64 _ (List.mem_map_of_mem ha)) (pr64 _ (List.mem_map_of_mem hb)) z) pw
  refine ⟨by rw [pm.length_eq]; exact h.len M, fun p hp => pr p hp, adj_rise pr64 (sorted_lt pr64 (pm.nodup_iff.mpr h.nd) le), fun x y mx my hxy hx hy => ?_, pm.nodup_iff.mpr h.nd⟩
  exact pm.mem_iff.mpr (h.mi x y mx my (pm.mem_iff.mp hxy) hx hy)
end K75
set_option maxHeartbeats 4000000
/-! dict(xs), xs a list of pairs (pair of ints, True) -/
namespace RV
open PySem PySem.Spec PyProof.Rows L2
/-- the dict that comes of these keys, one behind the other -/
def dictOfP (acc : List (List L2.Key × V)) (ps : List (List Int)) : List (List L2.Key × V) := ps.foldl (fun a p => putK a (keyP p) (.bl true)) acc
def addK (ps : List (List Int)) (p : List Int) : List (List Int) := if p ∈ ps then ps else ps ++ [p]
section
variable {X : Cx}
def rDictPT : List V → Hp → VK → Prop := fun xs H Q => ∃ (l : Addr) (qs : List (Addr × Addr × List Int)), xs = [.ref l] ∧ H l = some (.lst ((qs.map (·.1)).map V.ref)) ∧ (∀ q ∈ qs, H q.1 = some (.tup [.ref q.2.1, .bl true]) ∧ H q.2.1 = some (.tup (q.2.2.map V.int))) ∧ qs.length ≤ 1000 ∧
  ∀ d, H d = none → Q (.ref d) (upd H d (.dT (dictOfP [] (qs.map (·.2.2)))))
theorem kt_all {H : Hp} : ∀ (qs : List (Addr × Addr × List Int)) {kvs : List (List L2.Key × V)} {xs : List (List L2.Key × Addr × Value)}, KT H kvs xs → (∀ q ∈ qs, H q.2.1 = some (.tup (q.2.2.map V.int))) →
    KT H (dictOfP kvs (qs.map (·.2.2))) (storedAllH xs (qs.map fun q => (keyP q.2.2, q.2.1, Value.bool true)))
  | [], _, _, r, _ => r
  | q :: qs, kvs, xs, r, h => by
    have h1 : H q.2.1 = some (.tup ((keyP q.2.2).map kV)) := by rw [kV_keyP]; exact h q (List.mem_cons_self ..)
    exact kt_all qs (r.put (keyP q.2.2) (y := .bl true) h1 rfl) fun z hz => h z (List.mem_cons_of_mem _ hz)
theorem len_dictOfP : ∀ (ps : List (List Int)) (acc : List (List L2.Key × V)), (dictOfP acc ps).length ≤ acc.length + ps.length
  | [], acc => Nat.le_refl _
  | p :: ps, acc => by
    have h := len_dictOfP ps (putK acc (keyP p) (.bl true))
    have h2 := length_putK acc (keyP p) (.bl true)
    show (dictOfP (putK acc (keyP p) (.bl true)) ps).length ≤ _
    rw [List.length_cons]; omega
theorem cr_dictPT (hc : X.calm = true) (hu : X.A.units + 65 < cLine) : CallR X (.type "dict") rDictPT := by
  intro pins s σ H xs us Q I r h
  obtain ⟨l, qs, rfl, hl, hq, hlen, q⟩ := h
  obtain ⟨u, rfl, rx⟩ := vals1 r
  cases rx
  obtain ⟨its, rv, pl, hz⟩ := I.list (show SqL X.K H l _ from .inl (.inl hl))
  have ei := refs_at rv
  subst ei
  obtain ⟨o, n, ho, hco, hdo, hdat⟩ := pl
  have at_ : ∀ (j : Nat) (z : Addr × Addr × List Int), qs[j]? = some z → ((qs.map (·.1)).map Value.ref).toArray[j]? = some (.ref z.1) := fun j z e => by
    simp [e]
  let Ts : Nat → Addr := fun j => (qs.map (·.1)).getD j 0
  have hTs : ∀ (j : Nat) (z : Addr × Addr × List Int), qs[j]? = some z → Ts j = z.1 := fun j z e => by
    show (qs.map (·.1)).getD j 0 = z.1
    rw [List.getD_eq_getElem?_getD, List.getElem?_map, e]; rfl
  let prs : List (Value × Value) := qs.map fun z => (Value.ref z.2.1, Value.bool true)
  have hprs : ∀ (j : Nat) (k v : Value), prs[j]? = some (k, v) → ∃ z, qs[j]? = some z ∧ k = .ref z.2.1 ∧ v = .bool true := fun j k v e => by
    have e' : (qs.map fun z => (Value.ref z.2.1, Value.bool true))[j]? = some (k, v) := e
    rw [List.getElem?_map] at e'
    cases ez : qs[j]? with
    | none => rw [ez] at e'; cases e'
    | some z =>
      rw [ez] at e'
      have e2 : (Value.ref z.2.1, Value.bool true) = (k, v) := Option.some.inj e'
      injection e2 with e3 e4
      exact ⟨z, rfl, e3.symm, e4.symm⟩
  have items : PairItems s.heap ((qs.map (·.1)).map Value.ref).toArray Ts prs := by
    refine ⟨by show _ = (qs.map _).length; simp, fun j k v e => ?_⟩
    obtain ⟨z, ez, rfl, rfl⟩ := hprs j k v e
    rw [hTs j z ez]
    refine ⟨at_ j z ez, .inl ?_⟩
    obtain ⟨its2, r2, p2, _⟩ := I.tuple (show SqT X.K H z.1 _ from .inl (.inl (hq z (List.mem_of_getElem? ez)).1))
    obtain ⟨u1, u2, rfl, ra, rb⟩ := vals2 r2
    cases ra
    cases rb
    exact p2
  have room : (tupleKind (mixKind X.prog X.w)).room X.A.in1.in1 := tupleKind_room_in1 (A := X.A.in1) (by show X.A.units + 1 + 1 < cLine; omega)
  have keys : ∀ z ∈ qs, (tupleKind (mixKind X.prog X.w)).is s.heap (keyP z.2.2) z.2.1 := fun z hz => key_of I.hok (by rw [kV_keyP]; exact (hq z hz).2)
  refine call_dict_pairsH (knd := tupleKind (mixKind X.prog X.w)) (ps := qs.map fun z => (keyP z.2.2, z.2.1, Value.bool true)) (PairArg.list l _ Ts prs) (I.ok.hd hc) room ⟨⟨o, n, ho, hco, hdo, hdat⟩, items⟩ ⟨?_, fun j k v e => ?_⟩ (fun h' hk x hx => ?_) ?_ fun h' tk hd' kp => ?_
  · show (qs.map _).length = (qs.map _).length
    rw [List.length_map, List.length_map]
  · obtain ⟨z, ez, rfl, rfl⟩ := hprs j k v e
    exact ⟨keyP z.2.2, z.2.1, by rw [List.getElem?_map, ez]; rfl, rfl⟩
  · obtain ⟨z, hz1, rfl⟩ := List.mem_map.mp hx
    obtain ⟨o1, i1, n1, g1, g2, g3, g4⟩ := keys z hz1
    exact ⟨o1, i1, n1, hk _ _ (Nat.ne_of_lt (Heap.lt_size g1)) (by simp) g1, g2, g3, g4⟩
  · show (qs.map _).length ≤ sizeLine
    rw [List.length_map]; exact Nat.le_of_lt (small1000 hlen)
  · have hm : (s.heap.objs.size == sysModules) = false := beq_eq_false_iff_ne.mpr (Nat.ne_of_gt I.big)
    have nf : H s.heap.objs.size = none := I.hok.fresh (Nat.le_refl _)
    have rel := kt_all (H := H) qs (kvs := []) (xs := []) .nil fun z hz => (hq z hz).2
    have hl2 : (dictOfP [] (qs.map (·.2.2))).length ≤ sizeLine := by
      have := len_dictOfP (qs.map (·.2.2)) []
      rw [List.length_map, List.length_nil] at this
      exact Nat.le_trans this (by rw [Nat.zero_add]; exact Nat.le_of_lt (small1000 hlen))
    obtain ⟨q1, es, ep, w1, w2, w3, w4, _, w5⟩ := hd'
    refine ⟨.ref s.heap.objs.size, upd H s.heap.objs.size (.dT (dictOfP [] (qs.map (·.2.2)))), I.laid (t' := tk) (fun b u e => kp b u (by simp) e) (Nat.le_refl _) ⟨hl2, hm, _, rel.keeps fun c ys ec => ?_, q1, es, ep, w1, w2, w3, w4, w5⟩, rfl, q _ nf⟩
    rw [upd_ne (ne_of_none ec nf)]; exact ec
end
end RV
namespace K75
open PySem PySem.Spec PyProof.Rows L2 RV
/-! ### a dict of a list of pairs, by its keys -/
def addAll (ps : List (List Int)) : List (List Int) := ps.foldl addP []
theorem dict_keys : ∀ (ps : List (List Int)) {kvs : List (List L2.Key × V)} {qs : List (List Int)}, kvs.map (·.1) = qs.map keyP → (dictOfP kvs ps).map (·.1) = (ps.foldl addP qs).map keyP
  | [], _, _, h => h
  | p :: ps, kvs, qs, h => dict_keys ps (kvs := putK kvs (keyP p) (.bl true)) (qs := addP qs p) (put_keys h)
theorem mem_fold {q : List Int} : ∀ (ps qs : List (List Int)), q ∈ ps.foldl addP qs ↔ q ∈ qs ∨ q ∈ ps
  | [], qs => by simp
  | p :: ps, qs => by
    show q ∈ ps.foldl addP (addP qs p) ↔ _
    rw [mem_fold ps, mem_addP, List.mem_cons]
    constructor
    · rintro ((h | h) | h)
      · exact .inl h
      · exact .inr (.inl h)
      · exact .inr (.inr h)
    · rintro (h | h | h)
      · exact .inl (.inl h)
      · exact .inl (.inr h)
      · exact .inr h
theorem nd_fold : ∀ (ps qs : List (List Int)), qs.Nodup → (ps.foldl addP qs).Nodup
  | [], _, h => h
  | _ :: ps, _, h => nd_fold ps _ (nd_addP h)
theorem mem_all {q : List Int} {ps : List (List Int)} : q ∈ addAll ps ↔ q ∈ ps := by
  unfold addAll
  rw [mem_fold]; simp
/-- steps of which some are left -/
theorem part_of {ns : List Int} {ps : List (List Int)} (pr : ∀ p ∈ ps, Pr (ns.length : Int) p) (mi : ∀ x y mx my : Int, [x, y] ∈ ps → ns[x.toNat]? = some mx → ns[y.toNat]? = some my → [my, mx] ∈ ps) : Part ns (addAll ps) :=
  ⟨nd_fold ps [] List.nodup_nil, fun p hp => pr p (mem_all.mp hp), fun x y mx my h e1 e2 => mem_all.mpr (mi x y mx my (mem_all.mp h) e1 e2)⟩
theorem part_all {ns : List Int} {ps : List (List Int)} (S : Stp ns ps) : Part ns (addAll ps) := part_of S.pair S.mirr
theorem part_without {ns : List Int} {ps : List (List Int)} {g1 g2 m1 m2 : Int} (M : Mir ns) (S : Stp ns ps) (hg : [g1, g2] ∈ ps) (e1 : ns[g1.toNat]? = some m1) (e2 : ns[g2.toNat]? = some m2) : Part ns (addAll (ps.filter fun p => decide (p ∉ [[g1, g2], [m2, m1]]))) := by
  refine part_of (fun p hp => S.pair p (List.mem_filter.mp hp).1) fun x y mx my h ex ey => ?_
  obtain ⟨h1, h2⟩ := List.mem_filter.mp h
  have h2 := of_decide_eq_true h2
  refine List.mem_filter.mpr ⟨S.mirr x y mx my h1 ex ey, decide_eq_true fun z => h2 ?_⟩
  obtain ⟨x', y', exy, hx, hy⟩ := S.pair _ h1
  injection exy with exx exy
  injection exy with exy _
  subst exx exy
  obtain ⟨a', b', eab, ha, hb⟩ := S.pair _ hg
  injection eab with eaa eab
  injection eab with eab _
  subst eaa eab
  have bx := M.back _ _ ex
  have bY := M.back _ _ ey
  have b1 := M.back _ _ e1
  have b2 := M.back _ _ e2
  rcases List.mem_cons.mp z with z | z
  · injection z with z1 z2
    injection z2 with z2 _
    subst z1 z2
    rw [e1] at bY
    rw [e2] at bx
    have y1 := Option.some.inj bY
    have x1 := Option.some.inj bx
    refine List.mem_cons_of_mem _ (List.mem_cons.mpr (.inl ?_))
    rw [y1, x1, Int.toNat_of_nonneg hx.1, Int.toNat_of_nonneg hy.1]
  · have z := List.mem_singleton.mp z
    injection z with z1 z2
    injection z2 with z2 _
    subst z1 z2
    rw [b2] at bY
    rw [b1] at bx
    have y1 := Option.some.inj bY
    have x1 := Option.some.inj bx
    refine List.mem_cons.mpr (.inl ?_)
    rw [show x = g1 by omega, show y = g2 by omega]
theorem mir_more {ns : List Int} (M : Mir ns) (h : ns.length < 8) : Mir (ns ++ [(ns.length : Int)]) := by
  have hl : (ns ++ [(ns.length : Int)]).length = ns.length + 1 := by rw [List.length_append]; rfl
  refine ⟨by omega, by omega, fun i hi => ?_, fun k m hk => ?_⟩
  · rw [hl]
    rcases List.mem_append.mp hi with z | z
    · have := M.inn i z; omega
    · have := List.mem_singleton.mp z; omega
  · by_cases e : k < ns.length
    · rw [List.getElem?_append_left e] at hk
      have b := M.back k m hk
      have i := M.inn m (List.mem_of_getElem? hk)
      rw [List.getElem?_append_left (by omega)]; exact b
    · have hk2 := (List.getElem?_eq_some_iff.mp hk).1
      have ek : k = ns.length := by omega
      subst ek
      rw [List.getElem?_append_right (Nat.le_refl _), Nat.sub_self] at hk
      have em : (ns.length : Int) = m := Option.some.inj hk
      subst em
      rw [Int.toNat_natCast, List.getElem?_append_right (Nat.le_refl _), Nat.sub_self]; rfl
theorem part_more {ns : List Int} {ps : List (List Int)} (h : Part ns ps) : Part (ns ++ [(ns.length : Int)]) ps := by
  have hl : (ns ++ [(ns.length : Int)]).length = ns.length + 1 := by rw [List.length_append]; rfl
  refine ⟨h.nd, fun p hp => (h.pr p hp).mono (by omega), fun x y mx my hxy ex ey => ?_⟩
  obtain ⟨a, b, e, ha, hb⟩ := h.pr _ hxy
  injection e with e1 e2
  injection e2 with e2 _
  subst e1 e2
  rw [List.getElem?_append_left (by omega)] at ex ey
  exact h.mi x y mx my hxy ex ey
theorem mir_range {n : Nat} (h1 : 0 < n) (h8 : n ≤ 8) : Mir (rgI 0 (n : Int)) := by
  have h := half_start n
  refine ⟨by rw [h.len]; exact h1, by rw [h.len]; exact h8, fun i hi => ?_, h.back⟩
  rw [h.len]; exact h.lin i hi
theorem part_both {n : Nat} {ns : List Int} {ps : List (List Int)} (S : Stp ns ps) (hn : ns.length ≤ n) : Part (rgI 0 (n : Int)) (addAll (ps.filter fun p => decide (p.reverse ∈ ps))) := by
  have hl : (rgI 0 (n : Int)).length = n := (half_start n).len
  refine part_of (fun p hp => ?_) fun x y mx my h ex ey => ?_
  · obtain ⟨x, y, e, hx, hy⟩ := S.pair p (List.mem_filter.mp hp).1
    exact ⟨x, y, e, by omega, by omega⟩
  · obtain ⟨h1, h2⟩ := List.mem_filter.mp h
    have h2 : [y, x] ∈ ps := of_decide_eq_true h2
    obtain ⟨a, b, e, ha, hb⟩ := S.pair _ h1
    injection e with e1 e2
    injection e2 with e2 _
    subst e1 e2
    rw [rgI_get] at ex ey
    have e1 : mx = x := by omega
    have e2 : my = y := by omega
    subst e1 e2
    exact List.mem_filter.mpr ⟨h2, decide_eq_true h1⟩
/-! ### the list of pairs (step, True) -/
def Bagged (H : Hp) (D : Addr) (ks : List (Addr × List Int)) : Prop := ∃ qs : List (Addr × Addr × List Int), qs.map (·.2) = ks ∧ H D = some (.lst ((qs.map (·.1)).map V.ref)) ∧ ∀ q ∈ qs, H q.1 = some (.tup [.ref q.2.1, .bl true])
theorem Bagged.nil {H : Hp} {D : Addr} : Bagged (upd H D (.lst [])) D [] := ⟨[], rfl, upd_same, fun _ h => nomatch h⟩
theorem Bagged.add {H : Hp} {D T : Addr} {ks : List (Addr × List Int)} {k : Addr × List Int} {acc : List V} (h : Bagged H D ks) (nT : H T = none) (ha : H D = some (.lst acc)) :
    Bagged (upd (upd H T (.tup [.ref k.1, .bl true])) D (.lst (acc ++ [.ref T]))) D (ks ++ [k]) := by
  obtain ⟨qs, h1, h2, h3⟩ := h
  rw [h2] at ha
  have ea : (qs.map (·.1)).map V.ref = acc := by
    have z := Option.some.inj ha
    injection z
  have hDT : T ≠ D := (ne_of_none h2 nT).symm
  refine ⟨qs ++ [(T, k)], by rw [List.map_append, h1]; rfl, by rw [upd_same, ← ea, List.map_append, List.map_append]; rfl, fun q hq => ?_⟩
  rcases List.mem_append.mp hq with z | z
  · have z1 := h3 q z
    rw [upd_ne (fun e => by rw [e, h2] at z1; cases z1), upd_ne (ne_of_none z1 nT)]; exact z1
  · have z := List.mem_singleton.mp z
    subst z
    rw [upd_ne hDT, upd_same]
theorem Bagged.len {H : Hp} {D : Addr} {ks : List (Addr × List Int)} {acc : List V} (h : Bagged H D ks) (ha : H D = some (.lst acc)) : acc.length = ks.length := by
  obtain ⟨qs, h1, h2, h3⟩ := h
  rw [h2] at ha
  have ea : (qs.map (·.1)).map V.ref = acc := by
    have z := Option.some.inj ha
    injection z
  rw [← ea, ← h1]; simp
theorem Bagged.list {H : Hp} {D : Addr} {ks : List (Addr × List Int)} (h : Bagged H D ks) : ∃ acc, H D = some (.lst acc) := by
  obtain ⟨qs, h1, h2, h3⟩ := h
  exact ⟨_, h2⟩
theorem take_filter_next {α : Type} {c : α → Bool} {ks : List α} {k : α} {i : Nat} (g : ks[i]? = some k) : (ks.take (i + 1)).filter c = (ks.take i).filter c ++ (if c k = true then [k] else []) := by
  rw [List.take_add_one, g]
  show (ks.take i ++ [k]).filter c = _
  rw [List.filter_append]
  by_cases e : c k = true
  · rw [if_pos e]; simp [e]
  · rw [if_neg e]; simp [e]
theorem bag_dict {H : Hp} {D : Addr} {ks : List (Addr × List Int)} {R : List (Addr × Addr × List Int) → Addr → Prop} (h : Bagged H D ks) (hk : ∀ k ∈ ks, H k.1 = some (.tup (k.2.map V.int))) (hl : ks.length ≤ 1000)
    (q : ∀ qs d, qs.map (·.2.2) = ks.map (·.2) → H d = none → R qs d) : ∃ (l : Addr) (qs : List (Addr × Addr × List Int)), [V.ref D] = [V.ref l] ∧ H l = some (.lst ((qs.map (·.1)).map V.ref)) ∧ (∀ q ∈ qs, H q.1 = some (.tup [.ref q.2.1, .bl true]) ∧ H q.2.1 = some (.tup (q.2.2.map V.int))) ∧ qs.length ≤ 1000 ∧
      ∀ d, H d = none → R qs d := by
  obtain ⟨qs, h1, h2, h3⟩ := h
  refine ⟨D, qs, rfl, h2, fun z hz => ⟨h3 z hz, hk z.2 (by rw [← h1]; exact List.mem_map_of_mem hz)⟩, by rw [← h1, List.length_map] at hl; exact hl, fun d nd => q qs d ?_ nd⟩
  rw [← h1, List.map_map]; rfl
theorem filt_map {f : List Int → Bool} (ks : List (Addr × List Int)) : (ks.filter fun k => f k.2).map (·.2) = (ks.map (·.2)).filter f := by
  rw [List.filter_map]; rfl
end K75
set_option maxHeartbeats 4000000
namespace K75
open PySem PySem.Spec PyProof.Rows L2 RV
section
variable {P : Program} {w : World} {K : PySem.W.Frag} {mg : Str → Option Value} {base : Heap}
/-! ### is_step -/
theorem scStep : FnScope ["thing", "many"] ["thing", "many"] (defScope sStep) := ⟨rfl, rfl, rfl, by decide +kernel, rfl, by decide +kernel, by decide +kernel⟩
def spStep (K : PySem.W.Frag) : Sp := fun vs H Q _ => ∃ (a : Addr) (x y n : Int), vs = [.ref a, .int n] ∧ SqT K H a ([x, y].map V.int) ∧ (0 ≤ x ∧ x < n) ∧ (0 ≤ y ∧ y < n) ∧ ∀ H', Same H H' → Q (.bl true) H'
theorem ok_step {f fA : Addr} {fd fdA : FuncData} (F : Fun K "is_step" "is_step" sStep f fd) (DA : DefAt K mg "are_marks" sMarks ["thing", "many"] fA fdA) (GA : FnOk P w K mg base CX0 3 fA fdA ["thing", "many"] (spMarks K)) (B : Bare mg) :
    FnOk P w K mg base CX0 4 f fd ["thing", "many"] (spStep K) := by
  refine F.ok scStep (fun vs H Q E h => ?_) (fun cdv A outer s H vs Q E hr h => ?_)
  · obtain ⟨a, x, y, n, rfl, _⟩ := h
    rfl
  · obtain ⟨a, x, y, n, rfl, hT, hx, hy, q⟩ := h
    refine ⟨_, pss_one (ps_ret (pe_and (pe_call GA hr (by rfl) DA.mg DA.fn.kp DA.bi .nil pass0 (pa_cons (pv 0) (pa_cons (pv 1) pa_nil))) (pe_one (pe_cmpR op_eq (pe_callB call_len_seq (by rfl) B.len PySem.boot_len (pa_cons (pv 0) pa_nil)) pe_int (nomark _))))), ?_⟩
    refine ⟨.ref a, rfl, .int n, rfl, a, [x, y], n, rfl, hT, by simp, by simp, fun i hi => ?_, fun H1 s1 => ⟨true, rfl, iteT ?_⟩⟩
    · simp only [List.mem_cons, List.mem_nil_iff, or_false, List.not_mem_nil] at hi
      rcases hi with rfl | rfl
      · exact hx
      · exact hy
    · refine ⟨.ref a, rfl, a, _, rfl, .inr (sqT_same s1 hT), rfl, ?_⟩
      exact q H1 s1
/-! ### is_rising -/
theorem scRising : FnScope ["pairs", "one", "other"] ["pairs"] (defScope sRising) := ⟨rfl, rfl, rfl, by decide +kernel, rfl, by decide +kernel, by decide +kernel⟩
def spRising (K : PySem.W.Frag) : Sp := fun vs H Q _ => ∃ (a : Addr) (ps : List (List Int)), vs = [.ref a] ∧ Tups K H a ps ∧ ps.length ≤ 1000 ∧ (∀ (i : Nat) (p q : List Int), ps[i]? = some p → ps[i + 1]? = some q → HT.lexLt p q = true) ∧ ∀ H', Same H H' → Q (.bl true) H'
theorem cut1 (xs : List V) : cutV xs (some 1) none = xs.drop 1 := by
  unfold cutV
  rw [show HT.sIx xs.length 0 (some 1) = min 1 xs.length from HT.sIx_nat xs.length 0 1, HT.sIx_none]
  cases xs with
  | nil => rfl
  | cons x r =>
    rw [show min 1 (x :: r).length = 1 by rw [List.length_cons]; omega]
    show (List.take ((x :: r).length - 1) r) = r
    rw [List.length_cons, Nat.add_sub_cancel]
    exact List.take_length
theorem ok_rising {f : Addr} {fd : FuncData} (F : Fun K "is_rising" "is_rising" sRising f fd) (B : Bare mg) : FnOk P w K mg base CX0 1 f fd ["pairs"] (spRising K) := by
  refine F.ok scRising (fun vs H Q E h => ?_) (fun cdv A outer s H vs Q E hr h => ?_)
  · obtain ⟨a, ps, rfl, _⟩ := h
    rfl
  · obtain ⟨a, ps, rfl, hTT, hl, hrise, q⟩ := h
    obtain ⟨ks, rfl, hT, hks⟩ := hTT
    refine ⟨_, pss_one (ps_ret (pe_callB (cr_all rfl) (by rfl) B.all (by decide +kernel) (pa_cons
        (pe_lc (own := [("one", 1), ("other", 2)]) (g := gTup K 2 (gCons (gName 1) (gCons (gName 2) gNil))) (tt := tYes) rfl scRising.nd (RZ.pi_zipA (by rfl) B.zip (pa_cons (pv 0) (pa_cons (pe_slice sl_tupA (pv 0) (po_some pe_int) po_none) pa_nil))) (blkOk_by (N := ["pairs", "one", "other"]) (sc := defScope sRising) (by decide +kernel))
          (fun _ _ _ _ _ => pg_tupK rfl rfl (pgs_cons (pg_name (i := 1) scRising.nd rfl (Or.inl rfl)) (pgs_cons (pg_name (i := 2) scRising.nd rfl (Or.inl rfl)) pgs_nil))) (fun _ _ _ _ _ => pts_nil)
          (fun _ _ _ _ _ => pe_cmpR (op_ltTK (K := K) rfl hr.units0) (pv 1) (pv 2) (nomark _))) pa_nil))), ?_⟩
    have go : ∀ (b : Addr) (H1 : Hp) (Qc : VK), Same H H1 → SqT K H1 b ((ks.map fun p => V.ref p.1).drop 1) → (∀ D H', Same H1 H' → H' D = some (.lst (List.replicate (ks.length - 1) (V.bl true))) → Qc (.ref D) H') →
        tLc (fun _ H2 R => R (RZ.ItzT K a b) H2) (gTup K 2 (gCons (gName 1) (gCons (gName 2) gNil))) tYes (tOp (rLtT K) (tVar 1) (tVar 2)) [1, 2] (start ["pairs", "one", "other"] [.ref a]) H1 Qc := by
      intro b H1 Qc s1 hb fin D nD
      refine lc_it (walk_zipT (K := K) (a := a) (b := b) (xs := ks.map fun p => V.ref p.1) (ys := (ks.map fun p => V.ref p.1).drop 1) (n := ks.length - 1) (by rw [List.length_drop, List.length_map]; omega))
        (fun i H' => Same H1 H' ∧ H' D = some (.lst (List.replicate i (V.bl true)))) ⟨same_upd nD, upd_same⟩ (fun i H' _ p => ⟨sqT_same p.1 (sqT_same s1 hT), sqT_same p.1 hb⟩) (fun i x H2 H3 hi p y => ?_) fun H' p => fin D H' p.1 p.2
      obtain ⟨T, x1, x2, rfl, nT, rfl, e1, e2⟩ := y
      have e3 : ((ks.map fun p => V.ref p.1).drop 1)[i]? = some x2 := e2
      rw [List.getElem?_drop] at e3
      obtain ⟨k1, g1, rfl⟩ := map_at e1
      obtain ⟨k2, g2, rfl⟩ := map_at e3
      have sT : Same H2 (upd H2 T (.tup [V.ref k1.1, V.ref k2.1])) := same_upd nT
      have sA : Same H (upd H2 T (.tup [V.ref k1.1, V.ref k2.1])) := (s1.trans p.1).trans sT
      have lt : HT.lexLt k1.2 k2.2 = true := by
        refine hrise i k1.2 k2.2 ?_ ?_
        · rw [List.getElem?_map, g1]; rfl
        · rw [Nat.add_comm, List.getElem?_map, g2]; rfl
      refine ⟨T, _, rfl, tupNew upd_same, rfl, _, _, rfl, _, _, rfl, rfl, rfl, tt_yes ⟨.ref k1.1, rfl, .ref k2.1, rfl, k1.1, k2.1, k1.2, k2.2, rfl, rfl, sqT_same sA (hks k1 (List.mem_of_getElem? g1)), sqT_same sA (hks k2 (List.mem_of_getElem? g2)), _, sT _ _ p.2, ?_, ?_, ?_⟩⟩
      · rw [List.length_replicate]; rw [List.length_map] at hl; exact few1 (by omega)
      · exact fun b o e => by rw [upd_ne (ne_of_none e nD)]; exact sT b o (p.1 b o e)
      · rw [upd_same, lt, rep_next]
    have fin : ∀ (H1 : Hp), Same H H1 → ∀ D H', Same H1 H' → H' D = some (.lst (List.replicate (ks.length - 1) (V.bl true))) → ∃ (a : Addr) (bs : List Bool), [V.ref D] = [V.ref a] ∧ SqL K H' a (bs.map V.bl) ∧ Q (.bl (bs.all id)) H' := by
      intro H1 s1 D H' s2 e
      refine ⟨D, List.replicate (ks.length - 1) true, rfl, lstNew (by rw [e, rep_bl]), ?_⟩
      rw [all_true]
      exact q H' (s1.trans s2)
    refine ⟨.ref a, rfl, .ref a, rfl, 1, rfl, a, _, rfl, hT, fun hw => ?_, fun hw c nc => ?_⟩
    · have e0 : ks.map (fun p => V.ref p.1) = [] := by
        cases hk : ks.map (fun p => V.ref p.1) with
        | nil => rfl
        | cons x r =>
          rw [hk] at hw
          have h1 := hw.1
          rw [show HT.sIx (x :: r).length 0 (some 1) = min 1 (x :: r).length from HT.sIx_nat _ 0 1, List.length_cons] at h1
          omega
      refine ⟨a, a, _, _, rfl, .inr ⟨hT, hT, ?_⟩⟩
      refine go a H (fun v H2 => ∃ (a : Addr) (bs : List Bool), [v] = [V.ref a] ∧ SqL K H2 a (bs.map V.bl) ∧ Q (.bl (bs.all id)) H2) (Same.refl H) ?_ ?_
      · rw [e0]; rw [e0] at hT; exact hT
      · exact fin H (Same.refl H)
    · have s1 : Same H (upd H c (.tup (cutV (ks.map fun p => V.ref p.1) (some 1) none))) := same_upd nc
      refine ⟨a, c, _, _, rfl, .inr ⟨sqT_same s1 hT, tupNew upd_same, ?_⟩⟩
      refine go c _ (fun v H2 => ∃ (a : Addr) (bs : List Bool), [v] = [V.ref a] ∧ SqL K H2 a (bs.map V.bl) ∧ Q (.bl (bs.all id)) H2) s1 ?_ ?_
      · exact tupNew (by rw [upd_same, cut1])
      · exact fin _ s1
end
end K75
set_option maxHeartbeats 4000000
namespace K75
open PySem PySem.Spec PyProof.Rows L2 RV
/-- the marks behind m by the steps ps -/
def behindOf (ps : List (List Int)) (m : Int) : List Int := (ps.filter fun p => decide (p.getD 0 0 = m)).map fun p => p.getD 1 0
section
variable {P : Program} {w : World} {K : PySem.W.Frag} {mg : Str → Option Value} {base : Heap}
/-! ### marks_behind -/
theorem scBehind : FnScope ["steps", "mark", "a", "b"] ["steps", "mark"] (defScope sBehind) := ⟨rfl, rfl, rfl, by decide +kernel, rfl, by decide +kernel, by decide +kernel⟩
def spBehind (K : PySem.W.Frag) : Sp := fun vs H Q _ => ∃ (a : Addr) (ps : List (List Int)) (m : Int), vs = [.ref a, .int m] ∧ Tups K H a ps ∧ ps.length ≤ 1000 ∧ (∀ p ∈ ps, ∃ x y : Int, p = [x, y]) ∧
  ∀ H' t, Same H H' → H t = none → H' t = some (.tup ((behindOf ps m).map V.int)) → Q (.ref t) H'
theorem behind_next {ps : List (List Int)} {m : Int} {i : Nat} {x y : Int} (h : ps[i]? = some [x, y]) : behindOf (ps.take (i + 1)) m = behindOf (ps.take i) m ++ (if x = m then [y] else []) := by
  unfold behindOf
  rw [List.take_add_one, h]
  show List.map _ (List.filter _ (ps.take i ++ [[x, y]])) = _
  rw [List.filter_append, List.map_append]
  by_cases e : x = m
  · simp [e]
  · simp [e]
theorem behind_len (ps : List (List Int)) (m : Int) : (behindOf ps m).length ≤ ps.length := by
  unfold behindOf
  rw [List.length_map]
  exact List.length_filter_le _ _
theorem ok_behind {f : Addr} {fd : FuncData} (F : Fun K "marks_behind" "marks_behind" sBehind f fd) (B : Bare mg) : FnOk P w K mg base CX0 1 f fd ["steps", "mark"] (spBehind K) := by
  refine F.ok scBehind (fun vs H Q E h => ?_) (fun cdv A outer s H vs Q E hr h => ?_)
  · obtain ⟨a, ps, m, rfl, _⟩ := h
    rfl
  · obtain ⟨a, ps, m, rfl, hTT, hl, hp, q⟩ := h
    obtain ⟨ks, rfl, hT, hks⟩ := hTT
    refine ⟨_, pss_one (ps_ret (pe_tupleOf (by rfl) B.tuple
        (pe_lc (own := [("a", 2), ("b", 3)]) (g := gTup K 2 (gCons (gName 2) (gCons (gName 3) gNil))) rfl scBehind.nd (pi_tup (pv 0)) (blkOk_by (N := ["steps", "mark", "a", "b"]) (sc := defScope sBehind) (by decide +kernel))
          (fun _ _ _ _ _ => pg_tupK rfl rfl (pgs_cons (pg_name (i := 2) scBehind.nd rfl (Or.inl rfl)) (pgs_cons (pg_name (i := 3) scBehind.nd rfl (Or.inl rfl)) pgs_nil))) (fun _ _ _ _ _ => pts_one (pt_cmpR op_eq (pv 2) (pv 1) (nomark _)))
          (fun _ _ _ _ _ => pv 3)))), ?_⟩
    refine ⟨.ref a, rfl, a, rfl, ⟨_, hT⟩, fun D nD => ?_⟩
    refine lc_tup (K := K) (a := a) (xs := ks.map fun p => V.ref p.1) (fun i H' => Same H H' ∧ H' D = some (.lst ((behindOf ((ks.map (·.2)).take i) m).map V.int))) ⟨same_upd nD, by rw [upd_same]; rfl⟩ (fun i H' _ p => sqT_same p.1 hT) (fun i x H' hx p => ?_) fun H' p => ?_
    · obtain ⟨k, g, rfl⟩ := map_at hx
      have hk : k ∈ ks := List.mem_of_getElem? g
      obtain ⟨x, y, e⟩ := hp k.2 (List.mem_map_of_mem hk)
      have hkT : SqT K H' k.1 ([x, y].map V.int) := by rw [← e]; exact sqT_same p.1 (hks k hk)
      have gi : (ks.map (·.2))[i]? = some [x, y] := by rw [List.getElem?_map, g, ← e]; rfl
      refine ⟨k.1, _, rfl, hkT, rfl, _, _, rfl, _, _, rfl, rfl, rfl, .int x, rfl, .int m, rfl, rfl, _, rfl, ?_⟩
      have hle := behind_len ((ks.map (·.2)).take i) m
      rw [List.length_take] at hle
      by_cases e : x = m
      · subst e
        rw [decide_eq_true rfl]
        refine iteT ⟨.int y, rfl, _, p.2, ?_, ?_, ?_⟩
        · rw [List.length_map]; exact few1 (by omega)
        · exact fun b o z => by rw [upd_ne (ne_of_none z nD)]; exact p.1 b o z
        · rw [upd_same, behind_next gi, if_pos rfl, List.map_append]; rfl
      · rw [decide_eq_false (fun z => e (V.int.inj z))]
        refine iteF ⟨p.1, ?_⟩
        rw [p.2, behind_next gi, if_neg e, List.append_nil]
    · rw [List.length_map] at p
      have e : (ks.map (·.2)).take ks.length = ks.map (·.2) := List.take_of_length_le (by rw [List.length_map]; exact Nat.le_refl _)
      rw [e] at p
      refine .inl ⟨D, _, rfl, lstNew p.2, fun t nt => ?_⟩
      exact q _ t (p.1.trans (same_upd nt)) (p.1.free nt) upd_same
/-! ### are_steps -/
theorem scSteps : FnScope ["mirrors", "thing", "pair", "a", "b"] ["mirrors", "thing"] (defScope sSteps) := ⟨rfl, rfl, rfl, by decide +kernel, rfl, by decide +kernel, by decide +kernel⟩
def spSteps (K : PySem.W.Frag) : Sp := fun vs H Q _ => ∃ (a b : Addr) (ns : List Int) (ps : List (List Int)), vs = [.ref a, .ref b] ∧ SqT K H a (ns.map V.int) ∧ Tups K H b ps ∧ Mir ns ∧ Stp ns ps ∧ ∀ H', Same H H' → Q (.bl true) H'
theorem ok_steps {f fS fR : Addr} {fd fdS fdR : FuncData} (F : Fun K "are_steps" "are_steps" sSteps f fd) (DS : DefAt K mg "is_step" sStep ["thing", "many"] fS fdS) (GS : FnOk P w K mg base CX0 4 fS fdS ["thing", "many"] (spStep K))
    (DR : DefAt K mg "is_rising" sRising ["pairs"] fR fdR) (B : Bare mg) : FnOk P w K mg base CX0 5 f fd ["mirrors", "thing"] (spSteps K) := by
  have GR : FnOk P w K mg base CX0 1 fR fdR ["pairs"] (spRising K) := ok_rising DR.fn B
  refine F.ok scSteps (fun vs H Q E h => ?_) (fun cdv A outer s H vs Q E hr h => ?_)
  · obtain ⟨a, b, ns, ps, rfl, _⟩ := h
    rfl
  · obtain ⟨a, b, ns, ps, rfl, hA, hTT, hM, hS, q⟩ := h
    have hTT0 := hTT
    obtain ⟨ks, rfl, hT, hks⟩ := hTT
    have h64 := hS.few
    rw [List.length_map] at h64
    refine ⟨_, pss_cons (ps_if (pt_not (pt_val (pe_callB call_isi (by rfl) B.isinstance (by decide +kernel) (pa_cons (pv 1) (pa_cons (pe_bltn (v := .ty "tuple") (by rfl) B.tuple (by decide +kernel) rfl) pa_nil))))) (pss_one (ps_ret pe_bl)) pss_nil)
      (pss_cons (ps_if (pt_not (pt_val (pe_callB (cr_all rfl) (by rfl) B.all (by decide +kernel) (pa_cons
        (pe_lc (own := [("pair", 2)]) (g := gName 2) (tt := tYes) rfl scSteps.nd (pi_tup (pv 1)) (blkOk_by (N := ["mirrors", "thing", "pair", "a", "b"]) (sc := defScope sSteps) (by decide +kernel)) (fun _ _ _ _ _ => pg_name (i := 2) scSteps.nd rfl (Or.inl rfl)) (fun _ _ _ _ _ => pts_nil)
          (fun _ _ _ _ _ => pe_call GS hr (by rfl) DS.mg DS.fn.kp DS.bi .nil pass0 (pa_cons (pv 2) (pa_cons (pe_callB (call_lenK (K := K) rfl) (by rfl) B.len PySem.boot_len (pa_cons (pv 0) pa_nil)) pa_nil)))) pa_nil)))) (pss_one (ps_ret pe_bl)) pss_nil)
      (pss_cons (ps_if (pt_not (pt_val (pe_call GR (hr.mono (by decide)) (by rfl) DR.mg DR.fn.kp DR.bi .nil pass0 (pa_cons (pv 1) pa_nil)))) (pss_one (ps_ret pe_bl)) pss_nil)
      (pss_one (ps_ret (pe_callB (cr_all rfl) (by rfl) B.all (by decide +kernel) (pa_cons
        (pe_lc (own := [("a", 3), ("b", 4)]) (g := gTup K 2 (gCons (gName 3) (gCons (gName 4) gNil))) (tt := tYes) rfl scSteps.nd (pi_tup (pv 1)) (blkOk_by (N := ["mirrors", "thing", "pair", "a", "b"]) (sc := defScope sSteps) (by decide +kernel))
          (fun _ _ _ _ _ => pg_tupK rfl rfl (pgs_cons (pg_name (i := 3) scSteps.nd rfl (Or.inl rfl)) (pgs_cons (pg_name (i := 4) scSteps.nd rfl (Or.inl rfl)) pgs_nil))) (fun _ _ _ _ _ => pts_nil)
          (fun _ _ _ _ _ => pe_cmpR (op_inTsK (K := K) rfl (un65 hr)) (pe_tup (pa_cons (pe_ix (ix_tupK (K := K) rfl) (pv 0) (pv 4) (fun _ _ => rfl)) (pa_cons (pe_ix (ix_tupK (K := K) rfl) (pv 0) (pv 3) (fun _ _ => rfl)) pa_nil))) (pv 1) (by rfl))) pa_nil)))))), ?_⟩
    -- isinstance(thing, tuple)
    refine ⟨.ref b, rfl, .ref b, .ty "tuple", _, _, true, rfl, .ty "tuple", tyT hT, kit_ty (by decide +kernel), true, rfl, iteF ?_⟩
    -- all of them are steps
    refine ⟨.ref b, rfl, b, rfl, ⟨_, hT⟩, fun D nD => ?_⟩
    refine lc_tup (K := K) (a := b) (xs := ks.map fun p => V.ref p.1) (fun i H' => Same H H' ∧ H' D = some (.lst (List.replicate i (V.bl true)))) ⟨same_upd nD, upd_same⟩ (fun i H' _ p => sqT_same p.1 hT) (fun i x H' hx p => ?_) fun H1 p => ?_
    · obtain ⟨k, g, rfl⟩ := map_at hx
      have hk : k ∈ ks := List.mem_of_getElem? g
      have hi : i < ks.length := (List.getElem?_eq_some_iff.mp g).1
      obtain ⟨x, y, e, hx1, hy1⟩ := hS.pair k.2 (List.mem_map_of_mem hk)
      have hkT : SqT K H' k.1 ([x, y].map V.int) := by rw [← e]; exact sqT_same p.1 (hks k hk)
      refine ⟨rfl, tt_yes ⟨.ref k.1, rfl, .ref a, rfl, a, _, rfl, .inr (sqT_same p.1 hA), k.1, x, y, _, rfl, hkT, ?_, ?_, fun H2 s2 => ⟨_, s2 _ _ p.2, ?_, ?_, ?_⟩⟩⟩
      · rw [List.length_map]; exact hx1
      · rw [List.length_map]; exact hy1
      · rw [List.length_replicate]; exact few1 (by omega)
      · exact fun c o z => by rw [upd_ne (ne_of_none z nD)]; exact s2 c o (p.1 c o z)
      · rw [upd_same, rep_next]
    · rw [rep_bl] at p
      refine ⟨D, _, rfl, lstNew p.2, ?_⟩
      rw [all_true]
      refine ⟨true, rfl, iteF ?_⟩
      -- they rise
      refine ⟨.ref b, rfl, b, _, rfl, hTT0.same p.1, by rw [List.length_map]; omega, hS.rise, fun H2 s2 => ⟨true, rfl, iteF ?_⟩⟩
      have s02 : Same H H2 := p.1.trans s2
      -- their mirror steps
      refine ⟨.ref b, rfl, b, rfl, ⟨_, sqT_same s02 hT⟩, fun D2 nD2 => ?_⟩
      refine lc_tup (K := K) (a := b) (xs := ks.map fun p => V.ref p.1) (fun i H' => Same H2 H' ∧ H' D2 = some (.lst (List.replicate i (V.bl true)))) ⟨same_upd nD2, upd_same⟩ (fun i H' _ p => sqT_same p.1 (sqT_same s02 hT)) (fun i x H' hx p => ?_) fun H3 p => ?_
      · obtain ⟨k, g, rfl⟩ := map_at hx
        have hk : k ∈ ks := List.mem_of_getElem? g
        have hi : i < ks.length := (List.getElem?_eq_some_iff.mp g).1
        obtain ⟨x, y, e, hx1, hy1⟩ := hS.pair k.2 (List.mem_map_of_mem hk)
        have s0' : Same H H' := s02.trans p.1
        have hkT : SqT K H' k.1 ([x, y].map V.int) := by rw [← e]; exact sqT_same s0' (hks k hk)
        obtain ⟨mx, gx⟩ : ∃ mx, ns[x.toNat]? = some mx := ⟨_, List.getElem?_eq_getElem (by omega)⟩
        obtain ⟨my, gy⟩ : ∃ my, ns[y.toNat]? = some my := ⟨_, List.getElem?_eq_getElem (by omega)⟩
        have hin : [my, mx] ∈ ks.map (·.2) := hS.mirr x y mx my (by rw [← e]; exact List.mem_map_of_mem hk) gx gy
        have ax : atI (ns.map V.int) x = some (.int mx) := by
          rw [show x = ((x.toNat : Nat) : Int) by omega]; exact atI_nat (by rw [List.getElem?_map, gx]; rfl)
        have ay : atI (ns.map V.int) y = some (.int my) := by
          rw [show y = ((y.toNat : Nat) : Int) by omega]; exact atI_nat (by rw [List.getElem?_map, gy]; rfl)
        refine ⟨k.1, _, rfl, hkT, rfl, _, _, rfl, _, _, rfl, rfl, rfl, tt_yes ⟨.ref a, rfl, .int y, rfl, a, _, y, _, rfl, rfl, sqT_same s0' hA, ay, .ref a, rfl, .int x, rfl, a, _, x, _, rfl, rfl, sqT_same s0' hA, ax, (by show 2 ≤ sizeLine; decide), fun T nT => ?_⟩⟩
        have sT : Same H' (upd H' T (.tup [.int my, .int mx])) := same_upd nT
        refine ⟨.ref b, rfl, T, b, [my, mx], _, rfl, rfl, tupNew upd_same, (hTT0.same s0').same sT, _, sT _ _ p.2, ?_, ?_, ?_⟩
        · rw [List.length_replicate]; exact few1 (by omega)
        · exact fun c o z => by rw [upd_ne (ne_of_none z nD2)]; exact sT c o (p.1 c o z)
        · rw [upd_same, decide_eq_true hin, rep_next]
      · rw [rep_bl] at p
        refine ⟨D2, _, rfl, lstNew p.2, ?_⟩
        rw [all_true]
        exact q H3 (s02.trans p.1)
end
end K75
set_option maxHeartbeats 4000000
namespace K75
open PySem PySem.Spec PyProof.Rows L2 RV
/-! ### a Rule's fields -/
theorem n1 : ¬ (("mirrors" : Str) = "steps") := by decide +kernel
theorem n2 : ¬ (("mirrors" : Str) = "followers") := by decide +kernel
theorem n3 : ¬ (("steps" : Str) = "followers") := by decide +kernel
def flds (a b t : Addr) : List (Str × V) := putF "followers" (.ref t) (putF "steps" (.ref b) (putF "mirrors" (.ref a) []))
theorem flds_m (a b t : Addr) : (flds a b t).lookup ("mirrors" : Str) = some (.ref a) := by
  unfold flds
  rw [lookup_putF, if_neg n2, lookup_putF, if_neg n1, lookup_putF, if_pos rfl]
theorem flds_s (a b t : Addr) : (flds a b t).lookup ("steps" : Str) = some (.ref b) := by
  unfold flds
  rw [lookup_putF, if_neg n3, lookup_putF, if_pos rfl]
/-- all that a mark is followed by, mark by mark -/
def follow (n : Nat) (ps : List (List Int)) : List (List Int) := (List.range n).map fun (i : Nat) => behindOf ps (i : Int)
/-- a Rule stands at p -/
structure RuleAt (K : PySem.W.Frag) (C : Addr) (H : Hp) (p : Addr) (ns : List Int) (ps : List (List Int)) : Prop where
  ex : ∃ dx a b t, H p = some (.ins C dx (flds a b t)) ∧ SqT K H a (ns.map V.int) ∧ Tups K H b ps ∧ Tups K H t (follow ns.length ps)
theorem RuleAt.same {K : PySem.W.Frag} {C : Addr} {H H' : Hp} {p : Addr} {ns : List Int} {ps : List (List Int)} (r : RuleAt K C H p ns ps) (s : Same H H') : RuleAt K C H' p ns ps := by
  obtain ⟨dx, a, b, t, h1, h2, h3, h4⟩ := r.ex
  exact ⟨dx, a, b, t, s _ _ h1, sqT_same s h2, h3.same s, h4.same s⟩
/-- what the class is, behind the top -/
structure Txt (K : PySem.W.Frag) (mg : Str → Option Value) (C : Addr) : Prop where
  cl : Cls K C
  nM : NoAttr K C "mirrors"
  nS : NoAttr K C "steps"
  nF : NoAttr K C "followers"
  mgC : mg "Rule" = some (.ref C)
  c1 : PySem.W.findIn K (.ref C) "__class__" = some (some (.builtin "object.__class__"))
  c2 : PySem.W.specialIn K (.builtin "object.__class__") "__get__" = some (some (.builtin "getset_descriptor.__get__"))
  c3 : PySem.W.takesIn K (.builtin "object.__class__") = some true
  c4 : PySem.W.mroIn K C (.type "object") = some true
  c5 : PySem.W.kitOne K (.ref C) (.ref C) = some true
section
variable {P : Program} {w : World} {K : PySem.W.Frag} {mg : Str → Option Value} {base : Heap}
/-! ### __init__ -/
theorem scInit : FnScope ["self", "mirrors", "steps", "mark"] ["self", "mirrors", "steps"] (defScope sInit) := ⟨rfl, rfl, rfl, by decide +kernel, rfl, by decide +kernel, by decide +kernel⟩
def spInit (K : PySem.W.Frag) (C : Addr) : Sp := fun vs H Q _ => ∃ (p dx a b : Addr) (ns : List Int) (ps : List (List Int)), vs = [.ref p, .ref a, .ref b] ∧ H p = some (.ins C dx []) ∧ SqT K H a (ns.map V.int) ∧ Tups K H b ps ∧ Mir ns ∧ Stp ns ps ∧
  ∀ H' t, (∀ c o, H c = some o → c ≠ p → H' c = some o) → H' p = some (.ins C dx (flds a b t)) → Tups K H' t (follow ns.length ps) → Q .non H'
theorem sqT_but {H H' : Hp} {p C dx : Addr} {fs : List (Str × V)} (hp : H p = some (.ins C dx fs)) (k : ∀ c o, H c = some o → c ≠ p → H' c = some o) {a : Addr} {xs : List V} (h : SqT K H a xs) : SqT K H' a xs := by
  rcases h with (h | ⟨o, h⟩) | h
  · exact .inl (.inl (k _ _ h fun z => by rw [z, hp] at h; cases h))
  · exact .inl (.inr ⟨o, k _ _ h fun z => by rw [z, hp] at h; cases h⟩)
  · exact .inr h
theorem tups_but {H H' : Hp} {p C dx : Addr} {fs : List (Str × V)} (hp : H p = some (.ins C dx fs)) (k : ∀ c o, H c = some o → c ≠ p → H' c = some o) {a : Addr} {ps : List (List Int)} (h : Tups K H a ps) : Tups K H' a ps := by
  obtain ⟨ks, h1, h2, h3⟩ := h
  exact ⟨ks, h1, sqT_but hp k h2, fun q hq => sqT_but hp k (h3 q hq)⟩
theorem follow_next (i : Nat) (ps : List (List Int)) : follow (i + 1) ps = follow i ps ++ [behindOf ps (i : Int)] := by
  unfold follow
  rw [List.range_succ, List.map_append]; rfl
theorem ok_init {f fM fS fB C : Addr} {fd fdM fdS fdB : FuncData} (F : Fun K "__init__" "Rule.__init__" sInit f fd) (T : Txt K mg C)
    (DM : DefAt K mg "are_mirrors" sMirrors ["thing"] fM fdM) (GM : FnOk P w K mg base CX0 4 fM fdM ["thing"] (spMirrors K)) (DS : DefAt K mg "are_steps" sSteps ["mirrors", "thing"] fS fdS) (GS : FnOk P w K mg base CX0 5 fS fdS ["mirrors", "thing"] (spSteps K))
    (DB : DefAt K mg "marks_behind" sBehind ["steps", "mark"] fB fdB) (B : Bare mg) : FnOk P w K mg base CX0 6 f fd ["self", "mirrors", "steps"] (spInit K C) := by
  have GB : FnOk P w K mg base CX0 1 fB fdB ["steps", "mark"] (spBehind K) := ok_behind DB.fn B
  refine F.ok scInit (fun vs H Q E h => ?_) (fun cdv A outer s H vs Q E hr h => ?_)
  · obtain ⟨p, dx, a, b, ns, ps, rfl, _⟩ := h
    rfl
  · obtain ⟨p, dx, a, b, ns, ps, rfl, hp, hA, hB, hM, hS, q⟩ := h
    refine ⟨_, pss_cons (ps_if (pt_not (pt_val (pe_call GM (hr.mono (by decide)) (by rfl) DM.mg DM.fn.kp DM.bi .nil pass0 (pa_cons (pv 1) pa_nil)))) (pss_one ps_never) pss_nil)
      (pss_cons (ps_if (pt_not (pt_val (pe_call GS hr (by rfl) DS.mg DS.fn.kp DS.bi .nil pass0 (pa_cons (pv 1) (pa_cons (pv 2) pa_nil))))) (pss_one ps_never) pss_nil)
      (pss_cons (ps_fld (pv 0) (pv 1) rfl)
      (pss_cons (ps_fld (pv 0) (pv 2) rfl)
      (pss_one (ps_fld (pv 0) (pe_tupleOf (by rfl) B.tuple
        (pe_lc (own := [("mark", 3)]) (g := gName 3) (tt := tYes) rfl scInit.nd (pi_range1 (by rfl) B.range (pa_cons (pe_callB call_len_seq (by rfl) B.len PySem.boot_len (pa_cons (pv 1) pa_nil)) pa_nil)) (blkOk_by (N := ["self", "mirrors", "steps", "mark"]) (sc := defScope sInit) (by decide +kernel))
          (fun _ _ _ _ _ => pg_name (i := 3) scInit.nd rfl (Or.inl rfl)) (fun _ _ _ _ _ => pts_nil)
          (fun _ _ _ _ _ => pe_call GB (hr.mono (by decide)) (by rfl) DB.mg DB.fn.kp DB.bi .nil pass0 (pa_cons (pv 2) (pa_cons (pv 3) pa_nil))))) rfl))))), ?_⟩
    refine ⟨.ref a, rfl, a, ns, rfl, hA, hM, fun H1 s1 => ⟨true, rfl, iteF ?_⟩⟩
    refine ⟨.ref a, rfl, .ref b, rfl, a, b, ns, ps, rfl, sqT_same s1 hA, hB.same s1, hM, hS, fun H2 s2 => ⟨true, rfl, iteF ?_⟩⟩
    have s02 : Same H H2 := s1.trans s2
    have hp2 := s02 _ _ hp
    refine ⟨.ref a, rfl, .ref p, rfl, p, C, dx, [], rfl, hp2, T.cl, T.nM, (by show 0 < 1000; decide), ?_⟩
    refine ⟨.ref b, rfl, .ref p, rfl, p, C, dx, _, rfl, upd_same, T.cl, T.nS, (by show 1 < 1000; decide), ?_⟩
    -- the heap behind both stores
    have k4 : ∀ c o, H2 c = some o → c ≠ p → (upd (upd H2 p (.ins C dx (putF "mirrors" (.ref a) []))) p (.ins C dx (putF "steps" (.ref b) (putF "mirrors" (.ref a) [])))) c = some o := fun c o e z => by
      rw [upd_ne z, upd_ne z]; exact e
    generalize e4 : upd (upd H2 p (.ins C dx (putF "mirrors" (.ref a) []))) p (.ins C dx (putF "steps" (.ref b) (putF "mirrors" (.ref a) []))) = H4 at k4 ⊢
    have hp4 : H4 p = some (.ins C dx (putF "steps" (.ref b) (putF "mirrors" (.ref a) []))) := by rw [← e4, upd_same]
    have hA4 : SqT K H4 a (ns.map V.int) := sqT_but hp2 k4 (sqT_same s02 hA)
    have hB4 : Tups K H4 b ps := tups_but hp2 k4 (hB.same s02)
    have h8 := hM.few
    refine ⟨.ref a, rfl, a, _, rfl, .inr hA4, _, rfl, ?_, ?_, fun D nD => ?_⟩
    · rw [List.length_map]; omega
    · rw [List.length_map]; omega
    rw [List.length_map, Int.toNat_natCast]
    refine lc_range (lo := 0) (n := ns.length) (fun i H' => Same H4 H' ∧ ∃ ks : List (Addr × List Int), ks.map (·.2) = follow i ps ∧ H' D = some (.lst (ks.map fun p => V.ref p.1)) ∧ ∀ q ∈ ks, SqT K H' q.1 (q.2.map V.int)) ⟨same_upd nD, [], rfl, upd_same, fun _ z => nomatch z⟩ (fun i H' hi z => ?_) fun H' z => ?_
    · obtain ⟨s5, ks, e1, e2, e3⟩ := z
      have hkl : ks.length = i := by
        have := congrArg List.length e1
        rw [List.length_map] at this
        rw [this]; unfold follow; rw [List.length_map, List.length_range]
      refine ⟨rfl, tt_yes ⟨.ref b, rfl, .int (0 + (i : Nat)), rfl, b, ps, _, rfl, hB4.same s5, by have := hS.few; omega, fun q hq => ?_, fun H6 t s6 nt et => ⟨_, s6 _ _ e2, ?_, ?_, ?_⟩⟩⟩
      · obtain ⟨x, y, e, _⟩ := hS.pair q hq
        exact ⟨x, y, e⟩
      · rw [List.length_map]; exact few1 (by omega)
      · exact fun c o e => by rw [upd_ne (ne_of_none e nD)]; exact s6 c o (s5 c o e)
      · have hk6 : ∀ c o, H6 c = some o → c ≠ D → (upd H6 D (.lst ((ks.map fun p => V.ref p.1) ++ [V.ref t]))) c = some o := fun c o e z => by rw [upd_ne z]; exact e
        have tk : ∀ {c : Addr} {xs : List V}, SqT K H6 c xs → SqT K (upd H6 D (.lst ((ks.map fun p => V.ref p.1) ++ [V.ref t]))) c xs := by
          intro c xs h
          have eD := s6 _ _ e2
          rcases h with (h | ⟨o, h⟩) | h
          · exact .inl (.inl (hk6 _ _ h fun z => by rw [z, eD] at h; cases h))
          · exact .inl (.inr ⟨o, hk6 _ _ h fun z => by rw [z, eD] at h; cases h⟩)
          · exact .inr h
        refine ⟨ks ++ [(t, behindOf ps (i : Int))], ?_, ?_, fun q hq => ?_⟩
        · rw [List.map_append, e1, follow_next]; rfl
        · rw [upd_same, List.map_append]; rfl
        · rcases List.mem_append.mp hq with z | z
          · exact tk (sqT_same s6 (e3 q z))
          · rw [List.mem_singleton.mp z]
            refine tk (tupNew ?_)
            rw [et, show (0 + ((i : Nat) : Int)) = (i : Int) by omega]
    · obtain ⟨s5, ks, e1, e2, e3⟩ := z
      refine .inl ⟨D, _, rfl, lstNew e2, fun t nt => ?_⟩
      have sT : Same H' (upd H' t (.tup (ks.map fun p => V.ref p.1))) := same_upd nt
      have hpT := sT _ _ (s5 _ _ hp4)
      refine ⟨.ref p, rfl, p, C, dx, _, rfl, hpT, T.cl, T.nF, (by
        show (putF "steps" (V.ref b) (putF "mirrors" (V.ref a) [])).length < 1000
        show (if ("mirrors" : Str) = "steps" then [(("mirrors" : Str), V.ref b)] else (("mirrors" : Str), V.ref a) :: putF "steps" (V.ref b) []).length < 1000
        rw [if_neg n1]; show 2 < 1000; decide), ?_⟩
      refine q _ t (fun c o e z => ?_) upd_same ?_
      · rw [upd_ne z]
        exact sT _ _ (s5 _ _ (k4 _ _ (s02 _ _ e) z))
      · have tt : Tups K (upd H' t (.tup (ks.map fun p => V.ref p.1))) t (follow ns.length ps) := ⟨ks, e1, tupNew upd_same, fun q hq => sqT_same sT (e3 q hq)⟩
        exact tups_but hpT (fun c o e z => by rw [upd_ne z]; exact e) tt
end
end K75
set_option maxHeartbeats 4000000
namespace K75
open PySem PySem.Spec PyProof.Rows L2 RV
theorem mro_tuple : PySem.fastBuiltinMro "tuple" = some [.type "tuple", .type "object"] := by decide +kernel
theorem mro_none : PySem.fastBuiltinMro "NoneType" = some [.type "NoneType", .type "object"] := by decide +kernel
theorem mro_str : PySem.fastBuiltinMro "str" = some [.type "str", .type "object"] := by decide +kernel
theorem mro_int : PySem.fastBuiltinMro "int" = some [.type "int", .type "object"] := by decide +kernel
theorem kit_other {K : PySem.W.Frag} {C : Addr} {T : String} (h1 : (PySem.W.clsIn K C).isSome = true) (h2 : PySem.W.typeIn K (.ref C) = some (.type "type")) (h3 : PySem.fastBuiltinMro T = some [.type T, .type "object"]) : PySem.W.kitOne K (.type T) (.ref C) = some false := by
  unfold PySem.W.kitOne PySem.W.kitCls
  rw [if_neg (by simp)]
  show (if ((PySem.W.clsIn K C).isSome && PySem.W.typeIn K (.ref C) == some (.type "type")) = true then PySem.W.subIn K (.type T) (.ref C) else none) = some false
  rw [h1, h2, if_pos (by simp)]
  show (PySem.fastBuiltinMro T).map (·.contains (.ref C)) = some false
  rw [h3]
  simp
theorem kit_self {K : PySem.W.Frag} {C : Addr} : PySem.W.kitOne K (.ref C) (.ref C) = some true := by
  unfold PySem.W.kitOne
  simp
section
variable {P : Program} {w : World} {K : PySem.W.Frag} {mg : Str → Option Value} {base : Heap}
/-! ### __eq__ -/
theorem scEq : FnScope ["self", "other"] ["self", "other"] (defScope sEq) := ⟨rfl, rfl, rfl, by decide +kernel, rfl, by decide +kernel, by decide +kernel⟩
def spEq (K : PySem.W.Frag) (C : Addr) : Sp := fun vs H Q _ => ∃ (p : Addr) (v : V) (ns : List Int) (ps : List (List Int)), vs = [.ref p, v] ∧ RuleAt K C H p ns ps ∧
  ((∃ (q : Addr) (ns' : List Int) (ps' : List (List Int)), v = .ref q ∧ RuleAt K C H q ns' ps' ∧ Q (.bl (decide (ns = ns') && decide (ps = ps'))) H) ∨ (∃ t, TyX K H v t ∧ PySem.W.kitOne K t (.ref C) = some false ∧ Q (.bl false) H))
theorem ok_eq {f C : Addr} {fd : FuncData} (F : Fun K "__eq__" "Rule.__eq__" sEq f fd) (T : Txt K mg C) (B : Bare mg) : FnOk P w K mg base CX0 1 f fd ["self", "other"] (spEq K C) := by
  refine F.ok scEq (fun vs H Q E h => ?_) (fun cdv A outer s H vs Q E hr h => ?_)
  · obtain ⟨p, v, ns, ps, rfl, _⟩ := h
    rfl
  · obtain ⟨p, v, ns, ps, rfl, R1, h⟩ := h
    obtain ⟨dx, a, b, t, h1, h2, h3, h4⟩ := R1.ex
    refine ⟨_, pss_one (ps_ret (pe_and (pe_callB call_isi (by rfl) B.isinstance (by decide +kernel) (pa_cons (pv 1) (pa_cons (pe_glob (v := .ref C) rfl T.mgC rfl) pa_nil)))
      (pe_and (pe_cmpR (op_eqI1 hr.units) (pe_fld (pv 0) rfl) (pe_fld (pv 1) rfl) (nomark _)) (pe_one (pe_cmpR (op_eqTs hr.units) (pe_fld (pv 0) rfl) (pe_fld (pv 1) rfl) (nomark _)))))), ?_⟩
    rcases h with ⟨q, ns', ps', rfl, R2, k⟩ | ⟨ty, hty, hk, k⟩
    · obtain ⟨dx', a', b', t', g1, g2, g3, g4⟩ := R2.ex
      refine ⟨.ref q, rfl, .ref q, .ref C, _, _, true, rfl, .own C, .base (.ins g1 T.cl T.c1 T.c2 T.c3 T.c4), T.c5, true, rfl, iteT ?_⟩
      refine ⟨.ref p, rfl, p, C, dx, _, _, rfl, h1, T.cl, T.nM, flds_m _ _ _, .ref q, rfl, q, C, dx', _, _, rfl, g1, T.cl, T.nM, flds_m _ _ _, a, a', ns, ns', rfl, rfl, h2, g2, _, rfl, ?_⟩
      by_cases e : ns = ns'
      · rw [decide_eq_true e] at k ⊢
        refine iteT ⟨.ref p, rfl, p, C, dx, _, _, rfl, h1, T.cl, T.nS, flds_s _ _ _, .ref q, rfl, q, C, dx', _, _, rfl, g1, T.cl, T.nS, flds_s _ _ _, b, b', ps, ps', rfl, rfl, h3, g3, ?_⟩
        rw [Bool.true_and] at k
        exact k
      · rw [decide_eq_false e] at k ⊢
        rw [Bool.false_and] at k
        exact iteF k
    · exact ⟨v, rfl, v, .ref C, _, _, false, rfl, .own C, hty, hk, false, rfl, iteF k⟩
/-! ### marks, mirror, behind -/
theorem scMarksM : FnScope ["self"] ["self"] (defScope sMarksM) := ⟨rfl, rfl, rfl, by decide +kernel, rfl, by decide +kernel, by decide +kernel⟩
def spMarksM (K : PySem.W.Frag) (C : Addr) : Sp := fun vs H Q _ => ∃ (p : Addr) (ns : List Int) (ps : List (List Int)), vs = [.ref p] ∧ RuleAt K C H p ns ps ∧ Q (.int (ns.length : Int)) H
theorem ok_marksM {f C : Addr} {fd : FuncData} (F : Fun K "marks" "Rule.marks" sMarksM f fd) (T : Txt K mg C) (B : Bare mg) : FnOk P w K mg base CX0 1 f fd ["self"] (spMarksM K C) := by
  refine F.ok scMarksM (fun vs H Q E h => ?_) (fun cdv A outer s H vs Q E hr h => ?_)
  · obtain ⟨p, ns, ps, rfl, _⟩ := h
    rfl
  · obtain ⟨p, ns, ps, rfl, R1, k⟩ := h
    obtain ⟨dx, a, b, t, h1, h2, h3, h4⟩ := R1.ex
    refine ⟨_, pss_one (ps_ret (pe_callB call_len_seq (by rfl) B.len PySem.boot_len (pa_cons (pe_fld (pv 0) rfl) pa_nil))), ?_⟩
    refine ⟨.ref p, rfl, p, C, dx, _, _, rfl, h1, T.cl, T.nM, flds_m _ _ _, a, _, rfl, .inr h2, ?_⟩
    rw [List.length_map]; exact k
theorem scMirrorM : FnScope ["self", "mark"] ["self", "mark"] (defScope sMirrorM) := ⟨rfl, rfl, rfl, by decide +kernel, rfl, by decide +kernel, by decide +kernel⟩
def spMirrorM (K : PySem.W.Frag) (C : Addr) : Sp := fun vs H Q _ => ∃ (p : Addr) (ns : List Int) (ps : List (List Int)) (i : Nat) (x : Int), vs = [.ref p, .int (i : Int)] ∧ RuleAt K C H p ns ps ∧ ns[i]? = some x ∧ Q (.int x) H
theorem ok_mirrorM {f C : Addr} {fd : FuncData} (F : Fun K "mirror" "Rule.mirror" sMirrorM f fd) (T : Txt K mg C) : FnOk P w K mg base CX0 1 f fd ["self", "mark"] (spMirrorM K C) := by
  refine F.ok scMirrorM (fun vs H Q E h => ?_) (fun cdv A outer s H vs Q E hr h => ?_)
  · obtain ⟨p, ns, ps, i, x, rfl, _⟩ := h
    rfl
  · obtain ⟨p, ns, ps, i, x, rfl, R1, e, k⟩ := h
    obtain ⟨dx, a, b, t, h1, h2, h3, h4⟩ := R1.ex
    refine ⟨_, pss_one (ps_ret (pe_ix ix_tup (pe_fld (pv 0) rfl) (pv 1) (fun _ _ => rfl))), ?_⟩
    exact ⟨.ref p, rfl, p, C, dx, _, _, rfl, h1, T.cl, T.nM, flds_m _ _ _, .int (i : Int), rfl, a, _, _, _, rfl, rfl, h2, atI_nat (by rw [List.getElem?_map, e]; rfl), k⟩
theorem n4 : ¬ (("followers" : Str) = "steps") := by decide +kernel
theorem flds_f (a b t : Addr) : (flds a b t).lookup ("followers" : Str) = some (.ref t) := by
  unfold flds
  rw [lookup_putF, if_pos rfl]
theorem scBehindM : FnScope ["self", "mark"] ["self", "mark"] (defScope sBehindM) := ⟨rfl, rfl, rfl, by decide +kernel, rfl, by decide +kernel, by decide +kernel⟩
def spBehindM (K : PySem.W.Frag) (C : Addr) : Sp := fun vs H Q _ => ∃ (p : Addr) (ns : List Int) (ps : List (List Int)) (i : Nat), vs = [.ref p, .int (i : Int)] ∧ RuleAt K C H p ns ps ∧ i < ns.length ∧ ∀ c, SqT K H c ((behindOf ps (i : Int)).map V.int) → Q (.ref c) H
theorem ok_behindM {f C : Addr} {fd : FuncData} (F : Fun K "behind" "Rule.behind" sBehindM f fd) (T : Txt K mg C) : FnOk P w K mg base CX0 1 f fd ["self", "mark"] (spBehindM K C) := by
  refine F.ok scBehindM (fun vs H Q E h => ?_) (fun cdv A outer s H vs Q E hr h => ?_)
  · obtain ⟨p, ns, ps, i, rfl, _⟩ := h
    rfl
  · obtain ⟨p, ns, ps, i, rfl, R1, hi, k⟩ := h
    obtain ⟨dx, a, b, t, h1, h2, h3, h4⟩ := R1.ex
    obtain ⟨ks, e1, e2, e3⟩ := h4
    refine ⟨_, pss_one (ps_ret (pe_ix ix_tup (pe_fld (pv 0) rfl) (pv 1) (fun _ _ => rfl))), ?_⟩
    have hkl : ks.length = ns.length := by
      have z := congrArg List.length e1
      rw [List.length_map] at z
      rw [z]; unfold follow; rw [List.length_map, List.length_range]
    have hk : i < ks.length := by omega
    have e4 : (ks.map (·.2))[i]? = some ks[i].2 := by rw [List.getElem?_map, List.getElem?_eq_getElem hk]; rfl
    have e5 : ks[i].2 = behindOf ps (i : Int) := by
      rw [e1] at e4
      unfold follow at e4
      rw [List.getElem?_map, List.getElem?_range hi] at e4
      exact (Option.some.inj e4).symm
    refine ⟨.ref p, rfl, p, C, dx, _, _, rfl, h1, T.cl, T.nF, flds_f _ _ _, .int (i : Int), rfl, t, _, _, .ref ks[i].1, rfl, rfl, e2, atI_nat (by rw [List.getElem?_map, List.getElem?_eq_getElem hk]; rfl), k _ ?_⟩
    rw [← e5]; exact e3 _ (List.getElem_mem hk)
/-- what a call Rule(a, b) comes to -/
theorem make_rule {C a b x dx : Addr} {H : Hp} {Qh : Hp → Prop} {E : XK} {ns : List Int} {ps : List (List Int)} (hA : SqT K H a (ns.map V.int)) (hB : Tups K H b ps) (hM : Mir ns) (hS : Stp ns ps) (nx : H x = none) (nd : H dx = none) (ne : dx ≠ x)
    (k : ∀ H', Same H H' → RuleAt K C H' x ns ps → Qh H') :
    spInit K C (.ref x :: ([.ref a, .ref b] ++ [])) (upd (upd H dx (.own x)) x (.ins C dx [])) (fun v H2 => v = .non ∧ Qh H2) E := by
  have s0 : Same H (upd (upd H dx (.own x)) x (.ins C dx [])) := fun c o e => by
    rw [upd_ne (ne_of_none e nx), upd_ne (ne_of_none e nd)]; exact e
  refine ⟨x, dx, a, b, ns, ps, rfl, upd_same, sqT_same s0 hA, hB.same s0, hM, hS, fun H' t k1 k2 k3 => ⟨rfl, ?_⟩⟩
  have s1 : Same H H' := fun c o e => k1 c o (s0 c o e) (ne_of_none e nx)
  exact k H' s1 ⟨dx, a, b, t, k2, sqT_same s1 hA, hB.same s1, k3⟩
end
end K75
set_option maxHeartbeats 4000000
namespace RV
open PySem PySem.Spec PyProof.Rows L2
theorem nx_step {i : Nat} {v : V} {σ : L2.St} {H : Hp} {G : L2.St → Hp → Prop} (h : G (σ.set i (some v)) H) : gName i v σ H G := h
theorem seq_mid {t1 t2 : TS} {D : Ends} {σ : L2.St} {H : Hp} (J : L2.St → Hp → Prop) (h2 : ∀ σ H, J σ H → t2 D σ H) (h1 : (∀ σ H, J σ H → t2 D σ H) → tSeq t1 t2 D σ H) : tSeq t1 t2 D σ H := h1 h2
section
variable {X : Cx} {K : PySem.W.Frag}
theorem op_notInDK (h : X.K = K) (hu : X.A.units + 65 < cLine) : OpR X (compareOp .NotIn) (rNotInD K) := h ▸ op_notInD hu
theorem pe_backTK {e : Expr} {te : TE} {k : Nat} {p1 p2 p3 pos : Pos} (h : X.K = K) (he : PE X e te) : PE X (.Subscript e (.Slice none none (some (.UnaryOp .USub (.Constant (.int 1) k p1) p2)) p3) pos) (tBackT K te) := h ▸ pe_backT he
end
section
variable {X : Cx} {K : PySem.W.Frag}
theorem op_inDK (h : X.K = K) (hu : X.A.units + 65 < cLine) : OpR X (compareOp .In) (rInD K) := h ▸ op_inD hu
theorem ix_listK (h : X.K = K) : IxR X (rIxL K) := h ▸ ix_list
end
theorem take_filt {α : Type} {c : α → Bool} {ks : List α} {k : α} {i : Nat} (g : ks[i]? = some k) : (ks.take (i + 1)).filter c = (ks.take i).filter c ++ (if c k = true then [k] else []) := by
  rw [List.take_add_one, g]
  show (ks.take i ++ [k]).filter c = _
  rw [List.filter_append]
  by_cases e : c k = true
  · rw [if_pos e]; simp [e]
  · rw [if_neg e]; simp [e]
section
variable {K : PySem.W.Frag} {tt : TT} {te : TE} {f : Int → Bool} {σ : L2.St} {H1 : Hp} {a D : Addr} {v : Nat} {ns : List Int} {Qd : Hp → Prop}
/-- [x for x in t if ..], t a tuple of ints -/
theorem lc_filtT (hT : SqT K H1 a (ns.map V.int)) (hl : ns.length ≤ 1000) (nD : H1 D = none)
    (htest : ∀ x ∈ ns, ∀ H', Same H1 H' → ∀ A B : Hp → Prop, (∀ H2, Same H' H2 → if f x = true then A H2 else B H2) → tt ((wipe σ [v]).set v (some (.int x))) H' (fun b H3 => if b = true then A H3 else B H3))
    (hte : ∀ (x : Int) (H' : Hp) (Q : VK), Q (.int x) H' → te ((wipe σ [v]).set v (some (.int x))) H' Q)
    (hd : ∀ H', Same H1 H' → H' D = some (.lst ((ns.filter f).map V.int)) → Qd H') :
    ∃ W : Nat → Nat → Hp → Prop, (∃ m, W 0 m (upd H1 D (.lst []))) ∧ ∀ i m H, W i m H →
      ((Itt K a).stop i H ∧ Qd H) ∨ ((Itt K a).go i H ∧ ∃ Nx : Hp → Prop, (∀ H', Nx H' → ∃ m', m' < m ∧ W (i + 1) m' H') ∧ ∀ x H', (Itt K a).yld i H x H' → gName v x (wipe σ [v]) H' fun σ2 H2 => wipe σ2 [v] = wipe σ [v] ∧ tt σ2 H2 fun b H3 =>
        if b = true then te σ2 H3 fun y H4 => ∃ acc, H4 D = some (.lst acc) ∧ acc.length < sizeLine ∧ Nx (upd H4 D (.lst (acc ++ [y]))) else Nx H3) := by
  refine lc_tup (K := K) (a := a) (xs := ns.map V.int) (fun i H' => Same H1 H' ∧ H' D = some (.lst (((ns.take i).filter f).map V.int))) ⟨same_upd nD, upd_same⟩ (fun i H' _ p => sqT_same p.1 hT) (fun i x H' hx p => ?_) fun H' p => ?_
  · obtain ⟨k, g, rfl⟩ := map_at hx
    refine ⟨by simp [wipe, List.set_set], htest k (List.mem_of_getElem? g) H' p.1 _ _ fun H2 s2 => ?_⟩
    have s12 := p.1.trans s2
    have e2 := s2 _ _ p.2
    by_cases e : f k = true
    · rw [if_pos e]
      refine hte k H2 _ ⟨_, e2, ?_, fun b o z => ?_, ?_⟩
      · rw [List.length_map]
        exact few1 (Nat.le_trans (List.length_filter_le _ _) (by rw [List.length_take]; omega))
      · rw [upd_ne (ne_of_none z nD)]; exact s12 b o z
      · rw [upd_same, take_filt g, if_pos e, List.map_append]; rfl
    · rw [if_neg e]
      exact ⟨s12, by rw [take_filt g, if_neg e, List.append_nil]; exact e2⟩
  · rw [List.length_map, List.take_of_length_le (Nat.le_refl _)] at p
    exact hd H' p.1 p.2
/-- [x for x in l if ..], l a list of ints -/
theorem lc_filtL (hT : SqL K H1 a (ns.map V.int)) (hl : ns.length ≤ 1000) (nD : H1 D = none)
    (htest : ∀ x ∈ ns, ∀ H', Same H1 H' → ∀ A B : Hp → Prop, (∀ H2, Same H' H2 → if f x = true then A H2 else B H2) → tt ((wipe σ [v]).set v (some (.int x))) H' (fun b H3 => if b = true then A H3 else B H3))
    (hte : ∀ (x : Int) (H' : Hp) (Q : VK), Q (.int x) H' → te ((wipe σ [v]).set v (some (.int x))) H' Q)
    (hd : ∀ H', Same H1 H' → H' D = some (.lst ((ns.filter f).map V.int)) → Qd H') :
    ∃ W : Nat → Nat → Hp → Prop, (∃ m, W 0 m (upd H1 D (.lst []))) ∧ ∀ i m H, W i m H →
      ((Itl K a).stop i H ∧ Qd H) ∨ ((Itl K a).go i H ∧ ∃ Nx : Hp → Prop, (∀ H', Nx H' → ∃ m', m' < m ∧ W (i + 1) m' H') ∧ ∀ x H', (Itl K a).yld i H x H' → gName v x (wipe σ [v]) H' fun σ2 H2 => wipe σ2 [v] = wipe σ [v] ∧ tt σ2 H2 fun b H3 =>
        if b = true then te σ2 H3 fun y H4 => ∃ acc, H4 D = some (.lst acc) ∧ acc.length < sizeLine ∧ Nx (upd H4 D (.lst (acc ++ [y]))) else Nx H3) := by
  refine lc_list (K := K) (a := a) (xs := ns.map V.int) (fun i H' => Same H1 H' ∧ H' D = some (.lst (((ns.take i).filter f).map V.int))) ⟨same_upd nD, upd_same⟩ (fun i H' _ p => sqL_same p.1 hT) (fun i x H' hx p => ?_) fun H' p => ?_
  · obtain ⟨k, g, rfl⟩ := map_at hx
    refine ⟨by simp [wipe, List.set_set], htest k (List.mem_of_getElem? g) H' p.1 _ _ fun H2 s2 => ?_⟩
    have s12 := p.1.trans s2
    have e2 := s2 _ _ p.2
    by_cases e : f k = true
    · rw [if_pos e]
      refine hte k H2 _ ⟨_, e2, ?_, fun b o z => ?_, ?_⟩
      · rw [List.length_map]
        exact few1 (Nat.le_trans (List.length_filter_le _ _) (by rw [List.length_take]; omega))
      · rw [upd_ne (ne_of_none z nD)]; exact s12 b o z
      · rw [upd_same, take_filt g, if_pos e, List.map_append]; rfl
    · rw [if_neg e]
      exact ⟨s12, by rw [take_filt g, if_neg e, List.append_nil]; exact e2⟩
  · rw [List.length_map, List.take_of_length_le (Nat.le_refl _)] at p
    exact hd H' p.1 p.2
end
/-! ### x in l, of ints -/
theorem dpL {K : PySem.W.Frag} {H : Hp} {a : Addr} {ns : List Int} (h : SqL K H a (ns.map V.int)) : Dp K H (.ref a) (.list (ns.map PyData.int)) := .lst h (dpInts ns)
theorem shapedLI (ns : List Int) : SeqAt.shaped (.list (ns.map PyData.int)) = true := by
  have h1 : (PyData.list (ns.map PyData.int)).canLay0 = true := by simp only [PyData.canLay0]; exact lay_ints ns
  have h2 : (PyData.list (ns.map PyData.int)).depth ≤ 64 := by simp only [PyData.depth, dep_ints]; omega
  show ((PyData.list (ns.map PyData.int)).canLay0 && decide ((PyData.list (ns.map PyData.int)).depth ≤ 64)) = true
  rw [h1, decide_eq_true h2]; rfl
theorem shapedN (n : Int) : SeqAt.shaped (.int n) = true := by
  show ((PyData.int n).canLay0 && decide ((PyData.int n).depth ≤ 64)) = true
  simp [PyData.canLay0, PyData.depth]
theorem any_int (x : Int) : ∀ ns : List Int, (ns.map PyData.int).any (fun y => PyData.eqv y (.int x)) = decide (x ∈ ns)
  | [] => rfl
  | n :: r => by
    rw [List.map_cons, List.any_cons, any_int x r]
    by_cases e : x = n
    · subst e; simp [PyData.eqv]
    · have e' : ¬ n = x := fun z => e z.symm
      by_cases e2 : x ∈ r <;> simp [PyData.eqv, e, e', e2]
section
variable {X : Cx}
/-- n in t, t a tuple of ints -/
def rInTI (K : PySem.W.Frag) : R2 := fun x y H Q => ∃ (b : Addr) (n : Int) (ns : List Int), x = .int n ∧ y = .ref b ∧ SqT K H b (ns.map V.int) ∧ Q (.bl (decide (n ∈ ns))) H
theorem op_inTI (hu : X.A.units + 65 < cLine) : OpR X (compareOp .In) (rInTI X.K) := by
  intro pins s σ H x y v u Q I rx ry h
  obtain ⟨b, n, ns, rfl, rfl, h2, q⟩ := h
  obtain ⟨as, r1⟩ := Dp.reads I (.int n) (.int n) v (.int n) rx
  obtain ⟨bs, r2⟩ := Dp.reads I (dI ns) (.ref b) u (dpT h2) ry
  refine SeqAt.in_tuple_reads (xs := ns.map PyData.int) r2 r1 (lay_ints ns) (by simp [PyData.canLay0]) ?_ ⟨.bl _, H, I, rfl, ?_⟩
  · have := Nat.min_le_right (PyData.depthAll (ns.map PyData.int)) (PyData.int n).depth
    have e : (PyData.int n).depth = 0 := by simp [PyData.depth]
    omega
  · rw [any_int]; exact q
theorem op_inTIK {K : PySem.W.Frag} (h : X.K = K) (hu : X.A.units + 65 < cLine) : OpR X (compareOp .In) (rInTI K) := h ▸ op_inTI hu
end
end RV
namespace RV
open PySem L2
/-! ### who comes to whom by one step or more -/
inductive Rch (ps : List (List Int)) : Int → Int → Prop where
  | one {i j : Int} : [i, j] ∈ ps → Rch ps i j
  | more {i j k : Int} : Rch ps i j → [j, k] ∈ ps → Rch ps i k
theorem Rch.trans {ps : List (List Int)} {i j k : Int} (h : Rch ps i j) (g : Rch ps j k) : Rch ps i k := by
  induction g with
  | one e => exact .more h e
  | more _ e ih => exact .more ih e
theorem Rch.bound {ps : List (List Int)} {n : Int} (hb : ∀ p ∈ ps, Pr n p) {i j : Int} (h : Rch ps i j) : (0 ≤ i ∧ i < n) ∧ (0 ≤ j ∧ j < n) := by
  induction h with
  | one e =>
    obtain ⟨x, y, e2, hx, hy⟩ := hb _ e
    injection e2 with e3 e4
    injection e4 with e4 _
    subst e3 e4
    exact ⟨hx, hy⟩
  | more _ e ih =>
    obtain ⟨x, y, e2, hx, hy⟩ := hb _ e
    injection e2 with e3 e4
    injection e4 with e4 _
    subst e3 e4
    exact ⟨ih.1, hy⟩
/-- a lot that holds all right behind m and is closed -/
theorem rch_closed {ps : List (List Int)} {m : Int} {fs : List Int} (h1 : ∀ j, [m, j] ∈ ps → j ∈ fs) (h2 : ∀ x ∈ fs, ∀ j, [x, j] ∈ ps → j ∈ fs) {j : Int} (h : Rch ps m j) : j ∈ fs := by
  induction h with
  | one e => exact h1 _ e
  | more _ e ih => exact h2 _ ih _ e
noncomputable def rB (ps : List (List Int)) (i j : Int) : Bool := @decide (Rch ps i j) (Classical.propDecidable _)
theorem rB_iff {ps : List (List Int)} {i j : Int} : rB ps i j = true ↔ Rch ps i j := by
  unfold rB
  exact @decide_eq_true_iff _ (Classical.propDecidable _)
/-! ### numbers below n -/
def upN (n : Nat) : List Int := (List.range n).map fun (i : Nat) => (i : Int)
theorem upN_get {n k : Nat} (h : k < n) : (upN n)[k]? = some (k : Int) := by
  unfold upN
  rw [List.getElem?_map, List.getElem?_range h]; rfl
theorem upN_len (n : Nat) : (upN n).length = n := by unfold upN; rw [List.length_map, List.length_range]
theorem mem_upN {n : Nat} {x : Int} : x ∈ upN n ↔ 0 ≤ x ∧ x < (n : Int) := by
  unfold upN
  rw [List.mem_map]
  constructor
  · rintro ⟨k, hk, rfl⟩
    have := List.mem_range.mp hk
    omega
  · rintro ⟨h0, h1⟩
    exact ⟨x.toNat, List.mem_range.mpr (by omega), by omega⟩
theorem upN_rise (n : Nat) : (upN n).Pairwise (· < ·) := by
  unfold upN
  rw [List.pairwise_map]
  exact List.Pairwise.imp (fun {a b} (h : a < b) => by omega) List.pairwise_lt_range
/-! ### the lot of a mark -/
noncomputable def lotOf (ps : List (List Int)) (n : Nat) (m : Int) : List Int := (upN n).filter fun j => rB ps m j && rB ps j m
theorem mem_lot {ps : List (List Int)} {n : Nat} {m j : Int} : j ∈ lotOf ps n m ↔ (0 ≤ j ∧ j < (n : Int)) ∧ Rch ps m j ∧ Rch ps j m := by
  unfold lotOf
  rw [List.mem_filter, mem_upN, Bool.and_eq_true, rB_iff, rB_iff]
theorem lot_rise (ps : List (List Int)) (n : Nat) (m : Int) : (lotOf ps n m).Pairwise (· < ·) := (upN_rise n).filter _
theorem lot_len (ps : List (List Int)) (n : Nat) (m : Int) : (lotOf ps n m).length ≤ n := by
  have := List.length_filter_le (fun j => rB ps m j && rB ps j m) (upN n)
  rw [upN_len] at this
  exact this
theorem lot_eq {ps : List (List Int)} {n : Nat} {m j : Int} (h : j ∈ lotOf ps n m) : lotOf ps n j = lotOf ps n m := by
  obtain ⟨_, h1, h2⟩ := mem_lot.mp h
  unfold lotOf
  refine List.filter_congr fun x _ => ?_
  rw [Bool.eq_iff_iff, Bool.and_eq_true, Bool.and_eq_true, rB_iff, rB_iff, rB_iff, rB_iff]
  exact ⟨fun ⟨a, b⟩ => ⟨h1.trans a, b.trans h2⟩, fun ⟨a, b⟩ => ⟨h2.trans a, b.trans h1⟩⟩
theorem lot_self {ps : List (List Int)} {n : Nat} {m : Int} (hm : 0 ≤ m ∧ m < (n : Int)) (h : Rch ps m m) : m ∈ lotOf ps n m := mem_lot.mpr ⟨hm, h, h⟩
theorem lot_none {ps : List (List Int)} {n : Nat} {m : Int} (h : ¬ Rch ps m m) : lotOf ps n m = [] := by
  refine List.eq_nil_iff_forall_not_mem.mpr fun j hj => ?_
  obtain ⟨_, h1, h2⟩ := mem_lot.mp hj
  exact h (h1.trans h2)
theorem lot_some {ps : List (List Int)} {n : Nat} {m j : Int} (h : j ∈ lotOf ps n m) : Rch ps m m := by
  obtain ⟨_, h1, h2⟩ := mem_lot.mp h
  exact h1.trans h2
/-! ### the parts -/
noncomputable def isHead (ps : List (List Int)) (n : Nat) (m : Int) : Bool := decide ((lotOf ps n m).head? = some m)
noncomputable def partsOf (ps : List (List Int)) (n : Nat) : List (List Int) := ((upN n).filter (isHead ps n)).map (lotOf ps n)
theorem mem_parts {ps : List (List Int)} {n : Nat} {p : List Int} : p ∈ partsOf ps n ↔ ∃ m : Int, (0 ≤ m ∧ m < (n : Int)) ∧ (lotOf ps n m).head? = some m ∧ p = lotOf ps n m := by
  unfold partsOf isHead
  rw [List.mem_map]
  constructor
  · rintro ⟨m, hm, rfl⟩
    obtain ⟨h1, h2⟩ := List.mem_filter.mp hm
    exact ⟨m, mem_upN.mp h1, of_decide_eq_true h2, rfl⟩
  · rintro ⟨m, h1, h2, rfl⟩
    exact ⟨m, List.mem_filter.mpr ⟨mem_upN.mpr h1, decide_eq_true h2⟩, rfl⟩
theorem lot_part {ps : List (List Int)} {n : Nat} {m j : Int} (h : j ∈ lotOf ps n m) : lotOf ps n m ∈ partsOf ps n := by
  cases e : lotOf ps n m with
  | nil => rw [e] at h; cases h
  | cons x r =>
    have hx : x ∈ lotOf ps n m := by rw [e]; exact List.mem_cons_self ..
    have ex := lot_eq hx
    refine mem_parts.mpr ⟨x, (mem_lot.mp hx).1, ?_, ?_⟩
    · rw [ex, e]; rfl
    · rw [ex, e]
theorem part_ne {ps : List (List Int)} {n : Nat} {p : List Int} (h : p ∈ partsOf ps n) : p ≠ [] := by
  obtain ⟨m, _, h2, rfl⟩ := mem_parts.mp h
  intro e
  rw [e] at h2; cases h2
theorem part_lot {ps : List (List Int)} {n : Nat} {p : List Int} {x : Int} (h : p ∈ partsOf ps n) (hx : x ∈ p) : lotOf ps n x = p := by
  obtain ⟨m, _, _, rfl⟩ := mem_parts.mp h
  exact lot_eq hx
def hd0 (l : List Int) : Int := l.headD 0
theorem parts_rise (ps : List (List Int)) (n : Nat) : (partsOf ps n).Pairwise fun p q => hd0 p < hd0 q := by
  unfold partsOf
  rw [List.pairwise_map]
  refine List.Pairwise.imp_of_mem (fun {a b} ha hb (h : a < b) => ?_) ((upN_rise n).filter _)
  have ea : (lotOf ps n a).head? = some a := of_decide_eq_true (List.mem_filter.mp ha).2
  have eb : (lotOf ps n b).head? = some b := of_decide_eq_true (List.mem_filter.mp hb).2
  unfold hd0
  rw [List.headD_eq_head?_getD, List.headD_eq_head?_getD, ea, eb]
  exact h
theorem parts_nodup (ps : List (List Int)) (n : Nat) : (partsOf ps n).Nodup := (parts_rise ps n).imp fun {a b} h e => by rw [e] at h; omega
theorem parts_len (ps : List (List Int)) (n : Nat) : (partsOf ps n).length ≤ n := by
  unfold partsOf
  rw [List.length_map]
  have := List.length_filter_le (isHead ps n) (upN n)
  rw [upN_len] at this
  exact this
/-- of two lots unlike heads tell which is ahead -/
theorem part_hd {ps : List (List Int)} {n : Nat} {p q : List Int} (hp : p ∈ partsOf ps n) (hq : q ∈ partsOf ps n) (h : hd0 p = hd0 q) : p = q := by
  obtain ⟨a, _, ea, rfl⟩ := mem_parts.mp hp
  obtain ⟨b, _, eb, rfl⟩ := mem_parts.mp hq
  unfold hd0 at h
  rw [List.headD_eq_head?_getD, List.headD_eq_head?_getD, ea, eb] at h
  have h' : a = b := h
  rw [h']
/-! ### the table that is gone on with, mark by mark -/
def Wsh (ps : List (List Int)) : Nat → Int → Int → Prop
  | 0, i, j => [i, j] ∈ ps
  | k + 1, i, j => Wsh ps k i j ∨ (Wsh ps k i (k : Int) ∧ Wsh ps k (k : Int) j)
theorem Wsh.up {ps : List (List Int)} {i j : Int} (h : [i, j] ∈ ps) : ∀ k, Wsh ps k i j
  | 0 => h
  | k + 1 => .inl (Wsh.up h k)
theorem Wsh.rch {ps : List (List Int)} : ∀ {k : Nat} {i j : Int}, Wsh ps k i j → Rch ps i j
  | 0, _, _, h => .one h
  | k + 1, _, _, .inl h => Wsh.rch h
  | k + 1, _, _, .inr h => (Wsh.rch h.1).trans (Wsh.rch h.2)
theorem Wsh.amid {ps : List (List Int)} : ∀ (k : Nat) (m : Nat) (i j : Int), m < k → Wsh ps k i (m : Int) → Wsh ps k (m : Int) j → Wsh ps k i j
  | 0, _, _, _, h, _, _ => absurd h (Nat.not_lt_zero _)
  | k + 1, m, i, j, h, h1, h2 => by
    by_cases e : m = k
    · subst e
      have a1 : Wsh ps m i (m : Int) := h1.elim id fun z => z.1
      have a2 : Wsh ps m (m : Int) j := h2.elim id fun z => z.2
      exact .inr ⟨a1, a2⟩
    · have hm : m < k := by omega
      have T := fun i j => Wsh.amid (ps := ps) k m i j hm
      rcases h1 with h1 | ⟨p1, p2⟩
      · rcases h2 with h2 | ⟨q1, q2⟩
        · exact .inl (T _ _ h1 h2)
        · exact .inr ⟨T _ _ h1 q1, q2⟩
      · rcases h2 with h2 | ⟨q1, q2⟩
        · exact .inr ⟨p1, T _ _ p2 h2⟩
        · exact .inr ⟨p1, q2⟩
theorem rch_wsh {ps : List (List Int)} {n : Nat} (hb : ∀ p ∈ ps, Pr (n : Int) p) {i j : Int} (h : Rch ps i j) : Wsh ps n i j := by
  induction h with
  | one e => exact Wsh.up e n
  | @more j k _ e ih =>
    have b := (Rch.bound hb (.one e)).1
    have ej : j = ((j.toNat : Nat) : Int) := by omega
    rw [ej] at ih e
    exact Wsh.amid n j.toNat _ _ (by omega) ih (Wsh.up e n)
end RV
set_option maxHeartbeats 4000000
namespace K75
open PySem PySem.Spec PyProof.Rows L2 RV
theorem flds_no (a b t : Addr) {m : Str} (h1 : ¬ m = "mirrors") (h2 : ¬ m = "steps") (h3 : ¬ m = "followers") : (flds a b t).lookup m = none := by
  unfold flds
  rw [lookup_putF, if_neg h3, lookup_putF, if_neg h2, lookup_putF, if_neg h1]
  all_goals rfl
theorem mem_behind {n : Int} {ps : List (List Int)} (hp : ∀ p ∈ ps, Pr n p) {m j : Int} : j ∈ behindOf ps m ↔ [m, j] ∈ ps := by
  unfold behindOf
  rw [List.mem_map]
  constructor
  · rintro ⟨p, h1, h2⟩
    obtain ⟨h3, h4⟩ := List.mem_filter.mp h1
    obtain ⟨x, y, rfl, _⟩ := hp p h3
    have e1 : x = m := of_decide_eq_true h4
    have e2 : y = j := h2
    subst e1 e2
    exact h3
  · intro h
    exact ⟨[m, j], List.mem_filter.mpr ⟨h, decide_eq_true rfl⟩, rfl⟩
theorem behind_nodup {n : Int} {ps : List (List Int)} (hp : ∀ p ∈ ps, Pr n p) (nd : ps.Nodup) (m : Int) : (behindOf ps m).Nodup := by
  unfold behindOf
  refine List.pairwise_map.mpr (List.Pairwise.imp_of_mem (fun {a b} ha hb ne e => ?_) (nd.filter _))
  obtain ⟨a1, a2⟩ := List.mem_filter.mp ha
  obtain ⟨b1, b2⟩ := List.mem_filter.mp hb
  obtain ⟨x, y, rfl, _⟩ := hp a a1
  obtain ⟨x', y', rfl, _⟩ := hp b b1
  have e1 : x = m := of_decide_eq_true a2
  have e2 : x' = m := of_decide_eq_true b2
  have e3 : y = y' := e
  exact ne (by rw [e1, e2, e3])
section
variable {P : Program} {w : World} {K : PySem.W.Frag} {mg : Str → Option Value} {base : Heap}
/-! ### led_to -/
theorem scLed : FnScope ["rule", "mark", "found", "at", "fresh", "other"] ["rule", "mark"] (defScope sLed) := ⟨rfl, rfl, rfl, by decide +kernel, rfl, by decide +kernel, by decide +kernel⟩
def spLed (K : PySem.W.Frag) (C : Addr) : Sp := fun vs H Q _ => ∃ (r : Addr) (m : Int) (ns : List Int) (ps : List (List Int)), vs = [.ref r, .int m] ∧ RuleAt K C H r ns ps ∧ Mir ns ∧ Stp ns ps ∧ (0 ≤ m ∧ m < (ns.length : Int)) ∧
  ∀ (H' : Hp) (c : Addr) (fs : List Int), Same H H' → H c = none → H' c = some (.lst (fs.map V.int)) → fs.length ≤ 8 → (∀ j, j ∈ fs ↔ Rch ps m j) → Q (.ref c) H'
def atOf : L2.St → Nat
  | [_, _, _, some (.int a), _, _] => 8 - a.toNat
  | _ => 0
theorem ok_led {f C fB : Addr} {fd dB : FuncData} (F : Fun K "led_to" "led_to" sLed f fd) (T : Txt K mg C) (B : Bare mg)
    (FB : Fun K "behind" "Rule.behind" sBehindM fB dB) (bB : Binds K dB ["self", "mark"] []) (mB : Meth K C "behind" fB) : FnOk P w K mg base CX0 2 f fd ["rule", "mark"] (spLed K C) := by
  have GB : FnOk P w K mg base CX0 1 fB dB ["self", "mark"] (spBehindM K C) := ok_behindM FB T
  refine F.ok scLed (fun vs H Q E h => ?_) (fun cdv A outer s H vs Q E hr h => ?_)
  · obtain ⟨r, m, ns, ps, rfl, _⟩ := h
    rfl
  · obtain ⟨r, m, ns, ps, rfl, R, M, S, hm, q⟩ := h
    have hu5 := un65 hr
    refine ⟨_, pss_cons (ps_set (i := 2) scLed.nd rfl (Or.inr rfl) (pe_callTy call_list_of (by rfl) B.list boot_list (pa_cons (pe_meth (pv 0) T.cl mB GB hr bB .nil pass0 (pa_cons (pv 1) pa_nil)) pa_nil)))
      (pss_cons (ps_set (i := 3) scLed.nd rfl (Or.inl rfl) pe_int)
      (pss_cons (ps_while PassesOwn.never (pt_cmpR op_lt (pv 3) (pe_callB call_len_seq (by rfl) B.len PySem.boot_len (pa_cons (pv 2) pa_nil)) (nomark _))
        (pss_cons (ps_setLc (i := 4) (own := [("other", 5)]) (g := gName 5) rfl scLed.nd rfl rfl (by rfl) (pi_tup (pe_meth (pv 0) T.cl mB GB hr bB .nil pass0 (pa_cons (pe_ix ix_list (pv 2) (pv 3) (fun _ _ => rfl)) pa_nil))) (blkOk_by (N := ["rule", "mark", "found", "at", "fresh", "other"]) (sc := defScope sLed) (by decide +kernel))
            (fun _ _ _ _ _ => pg_name (i := 5) scLed.nd rfl (Or.inl rfl)) (fun _ _ _ _ _ => pts_one (pt_cmpR (op_notInDK (K := K) rfl hu5) (pv 5) (pv 2) (by rfl))) (fun _ _ _ _ _ => pv 5))
        (pss_cons (ps_expr (pe_bm PySem.F.plainAttrs_list PySem.F.slot_list_extend PySem.F.type_list_extend mt_extend (pv 2) (pa_cons (pv 4) pa_nil)))
        (pss_one (ps_aug (i := 3) scLed.nd rfl (.inl rfl) pe_int ip_add)))))
      (pss_one (ps_ret (pv 2))))), ?_⟩
    obtain ⟨dx, a0, b0, t0, g1, g2, g3, g4⟩ := R.ex
    have fno := flds_no a0 b0 t0 (m := "behind") (by decide +kernel) (by decide +kernel) (by decide +kernel)
    have h8 := M.few
    have hP : ∀ p ∈ ps, Pr (ns.length : Int) p := fun p hp => S.pair p hp
    -- found = list(rule.behind(mark))
    refine ⟨.ref r, rfl, r, dx, _, rfl, g1, fno, .int m, rfl, r, ns, ps, m.toNat, by rw [Int.toNat_of_nonneg hm.1]; rfl, R, by omega, fun c hc => ?_⟩
    rw [Int.toNat_of_nonneg hm.1] at hc
    refine ⟨c, _, rfl, .inr hc, fun F0 nF => ?_⟩
    have small : ∀ fs : List Int, fs.Nodup → (∀ x ∈ fs, Rch ps m x) → fs.length ≤ 8 := fun fs nd hr => by
      have z := nodup_le (us := upN ns.length) nd fun x hx => mem_upN.mpr (Rch.bound hP (hr x hx)).2
      rw [upN_len] at z; omega
    refine while_by (fun σ H' => ∃ (fs : List Int) (a : Nat) (y4 y5 : Option V), σ = [some (.ref r), some (.int m), some (.ref F0), some (.int (a : Int)), y4, y5] ∧ Same H H' ∧ H' F0 = some (.lst (fs.map V.int)) ∧ fs.Nodup ∧ (∀ x ∈ fs, Rch ps m x) ∧ (∀ j, [m, j] ∈ ps → j ∈ fs) ∧ (∀ (k : Nat) (x : Int), k < a → fs[k]? = some x → ∀ j, [x, j] ∈ ps → j ∈ fs) ∧ a ≤ fs.length)
      (fun σ _ => atOf σ) ?_ ?_ ?_
    · exact ⟨behindOf ps m, 0, none, none, rfl, same_upd nF, upd_same, behind_nodup hP S.nd m, fun x hx => .one ((mem_behind hP).mp hx), fun j hj => (mem_behind hP).mpr hj, fun k x hk => absurd hk (Nat.not_lt_zero _), Nat.zero_le _⟩
    · rintro σ H1 ⟨fs, a, y4, y5, rfl, s1, eF, nd, rc, cl, up, hle⟩
      have hl8 := small fs nd rc
      refine ⟨.int (a : Int), rfl, .ref F0, rfl, F0, _, rfl, .inl (lstNew eF), _, _, rfl, rfl, _, rfl, ite2 (fun hlt => ?_) (fun hge => ?_)⟩
      · have hlt : a < fs.length := by
          have z := of_decide_eq_true hlt
          rw [List.length_map] at z; omega
        obtain ⟨x, gx⟩ : ∃ x, fs[a]? = some x := ⟨_, List.getElem?_eq_getElem hlt⟩
        have hx := (Rch.bound hP (rc x (List.mem_of_getElem? gx))).2
        have R1 := R.same s1
        refine ⟨.ref r, rfl, r, dx, _, rfl, s1 _ _ g1, fno, .ref F0, rfl, .int (a : Int), rfl, F0, _, _, .int x, rfl, rfl, lstNew eF, atI_nat (by rw [List.getElem?_map, gx]; rfl), ?_⟩
        refine ⟨r, ns, ps, x.toNat, by rw [Int.toNat_of_nonneg hx.1]; rfl, R1, by omega, fun c2 hc2 => ?_⟩
        rw [Int.toNat_of_nonneg hx.1] at hc2
        refine ⟨c2, rfl, ⟨_, hc2⟩, fun D nD => ?_⟩
        have hbl : (behindOf ps x).length ≤ 64 := by
          have := behind_len ps x
          have := S.few
          omega
        refine lc_filtT (f := fun y => decide (y ∉ fs)) hc2 (by omega) nD (fun y hy H' s' A B h => ?_) (fun y H' Q h => ⟨.int y, rfl, h⟩) fun H2 s2 eD => ?_
        · refine ⟨.int y, rfl, .ref F0, rfl, .int y, fs.map PyData.int, .int y, dpL (lstNew (s' _ _ eF)), shapedN y, shapedLI fs, _, rfl, ?_⟩
          rw [any_int, ← decide_not]
          exact h H' (Same.refl H')
        · have eF2 := s2 _ _ eF
          have nF2 : ∀ H' o, Same H H' → Same H (upd H' F0 o) := fun H' o s b u e => by
            rw [upd_ne (ne_of_none e nF)]; exact s b u e
          have fl : ((behindOf ps x).filter fun y => decide (y ∉ fs)).length ≤ 64 := Nat.le_trans (List.length_filter_le _ _) hbl
          refine ⟨.ref F0, rfl, .inl ⟨rfl, _, lstNew eF2⟩, .ref D, rfl, F0, D, _, _, rfl, rfl, eF2, eD, ?_, ?_⟩
          · rw [List.length_map, List.length_map]; exact Nat.le_of_lt (few1 (by omega))
          refine ⟨.int (a : Int), rfl, _, _, rfl, rfl, ?_⟩
          have mem2 : ∀ j, j ∈ fs ++ (behindOf ps x).filter (fun y => decide (y ∉ fs)) ↔ j ∈ fs ∨ [x, j] ∈ ps := fun j => by
            rw [List.mem_append, List.mem_filter, mem_behind hP]
            constructor
            · rintro (z | z)
              · exact .inl z
              · exact .inr z.1
            · rintro (z | z)
              · exact .inl z
              · by_cases e : j ∈ fs
                · exact .inl e
                · exact .inr ⟨z, decide_eq_true e⟩
          refine ⟨⟨fs ++ (behindOf ps x).filter (fun y => decide (y ∉ fs)), a + 1, _, _, rfl, nF2 _ _ (s1.trans s2), ?_, ?_, ?_, ?_, ?_, ?_⟩, ?_⟩
          · rw [upd_same, List.map_append]
          · rw [List.nodup_append]
            refine ⟨nd, (behind_nodup hP S.nd x).filter _, fun u hu v hv e => ?_⟩
            subst e
            exact of_decide_eq_true (List.mem_filter.mp hv).2 hu
          · intro j hj
            rcases (mem2 j).mp hj with z | z
            · exact rc j z
            · exact .more (rc x (List.mem_of_getElem? gx)) z
          · exact fun j hj => (mem2 j).mpr (.inl (cl j hj))
          · intro k z hk hz j hj
            refine (mem2 j).mpr ?_
            by_cases e : k = a
            · subst e
              rw [List.getElem?_append_left hlt, gx] at hz
              cases hz
              exact .inr hj
            · rw [List.getElem?_append_left (by omega)] at hz
              exact .inl (up k z (by omega) hz j hj)
          · rw [List.length_append]; omega
          · show 8 - ((a : Int) + 1).toNat < 8 - ((a : Int)).toNat
            omega
      · have hge : fs.length ≤ a := by
          have z : ¬ ((a : Int) < ((fs.map V.int).length : Int)) := fun z => hge (decide_eq_true z)
          rw [List.length_map] at z; omega
        refine ⟨.ref F0, rfl, q H1 F0 fs s1 nF eF hl8 fun j => ⟨rc j, fun h => ?_⟩⟩
        refine rch_closed cl (fun x hx j hj => ?_) h
        obtain ⟨k, hk, e⟩ := List.getElem_of_mem hx
        exact up k x (by omega) (by rw [List.getElem?_eq_getElem hk, e]) j hj
    · intro σ H1 Q1 Q2 hq h
      obtain ⟨x, e1, y, e2, p, l, e3, e4, i, j, e5, e6, b, e7, h⟩ := h
      exact ⟨x, e1, y, e2, p, l, e3, e4, i, j, e5, e6, b, e7, hq _ _ h⟩
end
end K75
namespace RV
open PySem PySem.Spec PyProof.Rows L2
/-! ### what repr asks of tuples of pairs -/
theorem small_log {i : Int} (h : i.natAbs < 10 ^ 12) : i.natAbs.log2 < 1920 := by
  rcases Nat.eq_zero_or_pos i.natAbs with e | e
  · rw [e]; decide
  · have h1 : i.natAbs < 2 ^ 64 := Nat.lt_of_lt_of_le h (by decide)
    have h2 : i.natAbs.log2 < 64 := (Nat.log2_lt (by omega)).mpr h1
    omega
theorem show_ints : ∀ ns : List Int, (∀ n ∈ ns, n.natAbs < 10 ^ 12) → PyData.showableAll (ns.map PyData.int) = true
  | [], _ => by simp [PyData.showableAll]
  | n :: r, h => by
    have h1 := small_log (h n (List.mem_cons_self ..))
    have h2 := show_ints r fun m hm => h m (List.mem_cons_of_mem _ hm)
    simp [PyData.showableAll, PyData.showable, h1, h2]
theorem show_dIs : ∀ ps : List (List Int), (∀ p ∈ ps, ∀ n ∈ p, n.natAbs < 10 ^ 12) → PyData.showableAll (ps.map dI) = true
  | [], _ => by simp [PyData.showableAll]
  | p :: r, h => by
    have h1 := show_ints p (h p (List.mem_cons_self ..))
    have h2 := show_dIs r fun m hm => h m (List.mem_cons_of_mem _ hm)
    have h3 : (dI p).showable = true := by simp only [dI, PyData.showable]; exact h1
    simp [PyData.showableAll, h3, h2]
theorem short_dIs : ∀ ps : List (List Int), (∀ p ∈ ps, ∀ n ∈ p, n.natAbs < 10 ^ 12) → PyData.intsShortAll 13 (ps.map dI) = true
  | [], _ => by simp [PyData.intsShortAll]
  | p :: r, h => by
    have h1 := PyData.intsShortAll_ints p (h p (List.mem_cons_self ..))
    have h2 := short_dIs r fun m hm => h m (List.mem_cons_of_mem _ hm)
    have h3 : (dI p).intsShort 13 = true := by simp only [dI, PyData.intsShort]; exact h1
    simp [PyData.intsShortAll, h3, h2]
theorem bulk_ints : ∀ ns : List Int, PyData.bulkAll (ns.map PyData.int) = ns.length
  | [] => by simp [PyData.bulkAll]
  | n :: r => by simp [PyData.bulkAll, PyData.bulk, bulk_ints r]; omega
theorem bulk_dIs : ∀ ps : List (List Int), (∀ p ∈ ps, p.length ≤ 2) → PyData.bulkAll (ps.map dI) ≤ 3 * ps.length
  | [], _ => by simp [PyData.bulkAll]
  | p :: r, h => by
    have h1 : (dI p).bulk = p.length := by simp only [dI, PyData.bulk, bulk_ints]
    have h2 := bulk_dIs r fun m hm => h m (List.mem_cons_of_mem _ hm)
    have h3 := h p (List.mem_cons_self ..)
    simp only [List.map_cons, PyData.bulkAll, h1, List.length_cons]
    omega
/-- (ps, os), two tuples of pairs -/
def d2 (ps os : List (List Int)) : PyData := .tuple [dTT ps, dTT os]
theorem pr_small {b : Int} (hb : b ≤ 64) {ps : List (List Int)} (h : ∀ p ∈ ps, Pr b p) : ∀ p ∈ ps, ∀ n ∈ p, n.natAbs < 10 ^ 12 := fun p hp n hn => by
  obtain ⟨x, y, rfl, hx, hy⟩ := h p hp
  simp only [List.mem_cons, List.not_mem_nil, or_false] at hn
  rcases hn with rfl | rfl <;> omega
theorem pr_len {b : Int} {ps : List (List Int)} (h : ∀ p ∈ ps, Pr b p) : ∀ p ∈ ps, p.length ≤ 2 := fun p hp => by
  obtain ⟨x, y, rfl, _⟩ := h p hp
  simp
structure Reprs (ps os : List (List Int)) : Prop where
  h1 : (d2 ps os).showable = true
  h2 : (d2 ps os).hasDict = false
  h3 : (d2 ps os).depth ≤ 64
  h4 : (d2 ps os).shown.length ≤ sizeLine
theorem reprs {b c : Int} (hb : b ≤ 64) (hc : c ≤ 64) {ps os : List (List Int)} (h : ∀ p ∈ ps, Pr b p) (h' : ∀ p ∈ os, Pr c p) (l1 : ps.length ≤ 1000) (l2 : os.length ≤ 1000) : Reprs ps os := by
  have lay : (d2 ps os).canLay0 = true := by
    simp only [d2, dTT, PyData.canLay0, PyData.canLayAll0, lay_dI, Bool.and_self]
  refine ⟨?_, PyData.hasDict_of_canLay _ lay, ?_, ?_⟩
  · simp only [d2, dTT, PyData.showable, PyData.showableAll, show_dIs ps (pr_small hb h), show_dIs os (pr_small hc h'), Bool.and_self]
  · have h1 := dep_dI ps
    have h2 := dep_dI os
    simp only [d2, dTT, PyData.depth, PyData.depthAll]
    omega
  · refine PyData.shown_fits_bulk (B := 13) (by decide) (by decide) (PyData.leavesShort_of_canLay0 13 _ lay ?_) ?_
    · simp only [d2, dTT, PyData.intsShort, PyData.intsShortAll, short_dIs ps (pr_small hb h), short_dIs os (pr_small hc h'), Bool.and_self]
    · have h1 := bulk_dIs ps (pr_len h)
      have h2 := bulk_dIs os (pr_len h')
      simp only [d2, dTT, PyData.bulk, PyData.bulkAll]
      omega
theorem d2_dp {K : PySem.W.Frag} {H : Hp} {T a b : Addr} {ps os : List (List Int)} (h : H T = some (.tup [.ref a, .ref b])) (h1 : Tups K H a ps) (h2 : Tups K H b os) : Dp K H (.ref T) (d2 ps os) :=
  .tup (.inl (.inl h)) (.cons h1.dp (.cons h2.dp .nil))
end RV
namespace RV
open PySem PySem.Spec PyProof.Rows L2
/-- (ns, ps): mirrors and steps -/
def d1 (ns : List Int) (ps : List (List Int)) : PyData := .tuple [dI ns, dTT ps]
structure Shows (d : PyData) : Prop where
  h1 : d.showable = true
  h2 : d.hasDict = false
  h3 : d.depth ≤ 64
  h4 : d.shown.length ≤ sizeLine
theorem shows_d1 {b : Int} (hb : b ≤ 64) {ns : List Int} {ps : List (List Int)} (hn : ∀ n ∈ ns, n.natAbs < 10 ^ 12) (ln : ns.length ≤ 1000) (h : ∀ p ∈ ps, Pr b p) (l1 : ps.length ≤ 1000) : Shows (d1 ns ps) := by
  have lay : (d1 ns ps).canLay0 = true := by
    simp only [d1, dTT, PyData.canLay0, PyData.canLayAll0, lay_dI, dI_lay, Bool.and_self]
  have i1 : (dI ns).showable = true := by simp only [dI, PyData.showable]; exact show_ints ns hn
  have i2 : (dI ns).intsShort 13 = true := by simp only [dI, PyData.intsShort]; exact PyData.intsShortAll_ints ns hn
  have i3 : (dI ns).bulk = ns.length := by simp only [dI, PyData.bulk, bulk_ints]
  refine ⟨?_, PyData.hasDict_of_canLay _ lay, ?_, ?_⟩
  · simp only [d1, dTT, PyData.showable, PyData.showableAll, i1, show_dIs ps (pr_small hb h), Bool.and_self]
  · have h1 := dep_dI ps
    simp only [d1, dTT, PyData.depth, PyData.depthAll, dI_dep]
    omega
  · refine PyData.shown_fits_bulk (B := 13) (by decide) (by decide) (PyData.leavesShort_of_canLay0 13 _ lay ?_) ?_
    · simp only [d1, dTT, PyData.intsShort, PyData.intsShortAll, i2, short_dIs ps (pr_small hb h), Bool.and_self]
    · have h1 := bulk_dIs ps (pr_len h)
      simp only [d1, dTT, PyData.bulk, PyData.bulkAll, i3]
      omega
theorem shows_dI {ns : List Int} (hn : ∀ n ∈ ns, n.natAbs < 10 ^ 12) (ln : ns.length ≤ 1000) : Shows (dI ns) := by
  have i3 : (dI ns).bulk = ns.length := by simp only [dI, PyData.bulk, bulk_ints]
  refine ⟨by simp only [dI, PyData.showable]; exact show_ints ns hn, PyData.hasDict_of_canLay _ (dI_lay ns), by rw [dI_dep]; decide, ?_⟩
  refine PyData.shown_fits_bulk (B := 13) (by decide) (by decide) (PyData.leavesShort_of_canLay0 13 _ (dI_lay ns) ?_) (by rw [i3]; omega)
  simp only [dI, PyData.intsShort]; exact PyData.intsShortAll_ints ns hn
theorem d1_dp {K : PySem.W.Frag} {H : Hp} {T a b : Addr} {ns : List Int} {ps : List (List Int)} (h : H T = some (.tup [.ref a, .ref b])) (h1 : SqT K H a (ns.map V.int)) (h2 : Tups K H b ps) : Dp K H (.ref T) (d1 ns ps) :=
  .tup (.inl (.inl h)) (.cons (dpT h1) (.cons h2.dp .nil))
theorem shaped_d1 (ns : List Int) (ps : List (List Int)) : SeqAt.shaped (d1 ns ps) = true := by
  have h1 := dep_dI ps
  have e : (d1 ns ps).depth ≤ 64 := by simp only [d1, dTT, PyData.depth, PyData.depthAll, dI_dep]; omega
  show ((d1 ns ps).canLay0 && decide ((d1 ns ps).depth ≤ 64)) = true
  rw [decide_eq_true e, Bool.and_true]
  simp only [d1, dTT, PyData.canLay0, PyData.canLayAll0, lay_dI, dI_lay, Bool.and_self]
theorem eqv_d1 (ns ms : List Int) (ps qs : List (List Int)) : PyData.eqv (d1 ns ps) (d1 ms qs) = (decide (ns = ms) && decide (ps = qs)) := by
  simp only [d1, PyData.eqv, PyData.eqvAll, eqvI, eqvTT, Bool.and_true]
end RV
set_option maxHeartbeats 4000000
namespace RV
open PySem PySem.Spec PyProof.Rows L2
section
variable {X : Cx}
/-- ts.index(t), tuples of ints in a tuple -/
def rIndexTs (K : PySem.W.Frag) : V → List V → Hp → VK → Prop := fun x xs H Q => ∃ (a b : Addr) (ps : List (List Int)) (p : List Int) (j : Nat), x = V.ref a ∧ xs = [V.ref b] ∧ Tups K H a ps ∧ SqT K H b (p.map V.int) ∧ ps[j]? = some p ∧ (∀ m, m < j → ps[m]? ≠ some p) ∧ Q (.int (j : Nat)) H
theorem mt_indexTs (hu : X.A.units + 65 < cLine) : MtR X "tuple.index" (rIndexTs X.K) := by
  intro pins s σ H x xs v us Q I rx rxs h
  obtain ⟨a, b, ps, p, j, rfl, rfl, hT, hb, hj, hno, q⟩ := h
  cases rx
  obtain ⟨u, rfl, ru⟩ := vals1 rxs
  cases ru
  obtain ⟨bs, r1⟩ := Dp.reads I (dI p) (.ref b) (.ref b) (dpT hb) rfl
  have lay := lay_dI ps
  have room : X.A.units + 1 + min (PyData.depthAll (ps.map dI)) (dI p).depth < cLine := by
    have := Nat.min_le_right (PyData.depthAll (ps.map dI)) (dI p).depth
    have e := dI_dep p
    omega
  obtain ⟨ks, rfl, hs, hks⟩ := hT
  obtain ⟨its, rv, ⟨⟨cls, dd, dat, sls⟩, ho, hc, n, hd⟩, hlen⟩ := I.tuple hs
  simp only at hc hd
  subst hc hd
  obtain ⟨as, rall⟩ := Dp.readsAll I ((ks.map (·.2)).map dI) _ its (dpTs ks hks) rv
  have ln : its.length = ((ks.map (·.2)).map dI).length := SeqAt.ReadsAll.length _ its as rall
  have mp : its.map (SeqAt.readOf s.heap) = (ks.map (·.2)).map dI := SeqAt.readsAll_map _ its as lay rall
  have jl : j < its.toArray.size := by
    have := (List.getElem?_eq_some_iff.mp hj).1
    rw [List.size_toArray, ln, List.length_map]; exact this
  have at_ : ∀ (m : Nat) (hm : m < its.toArray.size), ∃ z, (ks.map (·.2))[m]? = some z ∧ SeqAt.readOf s.heap its.toArray[m] = dI z := fun m hm => by
    have hm2 : m < (ks.map (·.2)).length := by rw [List.size_toArray, ln, List.length_map] at hm; exact hm
    refine ⟨_, List.getElem?_eq_getElem hm2, ?_⟩
    have e : (its.map (SeqAt.readOf s.heap))[m]? = some (dI (ks.map (·.2))[m]) := by rw [mp, List.getElem?_map, List.getElem?_eq_getElem hm2]; rfl
    have hml : m < its.length := by simpa using hm
    rw [List.getElem?_map, List.getElem?_eq_getElem hml] at e
    have e' := Option.some.inj e
    simpa using e'
  refine call_meets PySem.F.slot_tuple_index ⟨_, ho, rfl⟩ PySem.F.entry_tuple_index (PySem.F.args_tuple_index_2 _ _) (TI.tuple_indexAt a its.toArray n dd sls (.ref b) (fun y => PyData.eqv (SeqAt.readOf s.heap y) (dI p)) j jl ?_ ?_)
    ⟨ho, SeqAt.items_eqAt (vs := its.toArray) (show ReadsAll s.heap its.toArray.toList _ as from rall) r1 lay (dI_lay p) room, ⟨.int (j : Nat), H, I.tok _, ⟨_, rfl⟩, q⟩⟩
  · obtain ⟨z, e1, e2⟩ := at_ j jl
    rw [hj] at e1
    cases e1
    show PyData.eqv (SeqAt.readOf s.heap its.toArray[j]) (dI p) = true
    rw [e2, eqvI]
    exact decide_eq_true rfl
  · intro m hm hmj
    obtain ⟨z, e1, e2⟩ := at_ m hm
    show PyData.eqv (SeqAt.readOf s.heap its.toArray[m]) (dI p) = false
    rw [e2, eqvI]
    exact decide_eq_false fun e => hno m hmj (by rw [e1, e])
/-- repr(None), repr of a whole number -/
def rReprO : List V → Hp → VK → Prop := fun xs H Q => (∃ i : Int, xs = [.int i] ∧ i.natAbs.log2 < 1920 ∧ Q (.str (toString i)) H) ∨ (xs = [.non] ∧ Q (.str "None") H)
theorem call_reprO : CallR X (.builtin "repr") rReprO := by
  intro pins s σ H xs us Q I r h
  rcases h with h | ⟨rfl, q⟩
  · exact SkE.call_repr_int pins s σ H xs us Q I r h
  · obtain ⟨u, rfl, rx⟩ := vals1 r
    cases (show u = Value.none from rx)
    exact PySem.P.repr_of_none ⟨.str "None", H, I.tok _, ⟨_, rfl⟩, q⟩
theorem op_neDK {K : PySem.W.Frag} (h : X.K = K) (hu : X.A.units + 64 < cLine) : OpR X (compareOp .NotEq) (rNeD K) := h ▸ op_neD hu
end
theorem bulk_any : ∀ (ps : List (List Int)) (k : Nat), (∀ p ∈ ps, p.length ≤ k) → PyData.bulkAll (ps.map dI) ≤ (k + 1) * ps.length
  | [], k, _ => by simp [PyData.bulkAll]
  | p :: r, k, h => by
    have h1 : (dI p).bulk = p.length := by simp only [dI, PyData.bulk, bulk_ints]
    have h2 := bulk_any r k fun m hm => h m (List.mem_cons_of_mem _ hm)
    have h3 := h p (List.mem_cons_self ..)
    simp only [List.map_cons, PyData.bulkAll, h1, List.length_cons, Nat.mul_succ]
    omega
theorem shows_dTT {ps : List (List Int)} (hn : ∀ p ∈ ps, ∀ n ∈ p, n.natAbs < 10 ^ 12) (h1 : ∀ p ∈ ps, p.length ≤ 8) (h2 : ps.length ≤ 64) : Shows (dTT ps) := by
  have lay : (dTT ps).canLay0 = true := by simp only [dTT, PyData.canLay0]; exact lay_dI ps
  refine ⟨by simp only [dTT, PyData.showable]; exact show_dIs ps hn, PyData.hasDict_of_canLay _ lay, ?_, ?_⟩
  · have h := dep_dI ps
    simp only [dTT, PyData.depth]; omega
  · refine PyData.shown_fits_bulk (B := 13) (by decide) (by decide) (PyData.leavesShort_of_canLay0 13 _ lay ?_) ?_
    · simp only [dTT, PyData.intsShort]; exact short_dIs ps hn
    · have b := bulk_any ps 8 h1
      simp only [dTT, PyData.bulk]
      omega
/-! ### lots in order -/
end RV
set_option maxHeartbeats 4000000
/-! sorted(s), s a set of tuples of ints of any lengths, none of them empty -/
namespace RV
open PySem PySem.Spec PyProof.Rows L2 TS
/-- one tuple ahead of another -/
def lexA : List Int → List Int → Bool
  | [], [] => false
  | [], _ :: _ => true
  | _ :: _, [] => false
  | p :: ns, q :: ms => if p = q then lexA ns ms else decide (p < q)
section
variable {prog : Program} {w : World} {A : Around} {E : Value → Shared → Prop} {s : Shared}
theorem kat_any {Q : Bool → Shared → Prop} {b fin : Bool} : ∀ {ns ms : List Int} {xs ys : List Value} (i : Nat), IntsAre xs ns → IntsAre ys ms → fin = decide (ns.length < ms.length) → Q (lexA ns ms) s → PySem.W.KatLex prog w A b fin Q (xs.zip ys) i s
  | [], [], _, _, i, .nil, .nil, hf, h => by
    have e : fin = false := hf
    rw [e]; exact PySem.W.kat_nil h
  | [], _ :: ms, _, _, i, .nil, .cons _ _ _, hf, h => by
    have e : fin = true := by rw [hf]; simp
    rw [e]; exact PySem.W.kat_nil h
  | _ :: _, [], _, _, i, .cons _ _ _, .nil, hf, h => by
    have e : fin = false := by rw [hf]; simp
    rw [e]; exact PySem.W.kat_nil h
  | p :: ns, q :: ms, _, _, i, .cons _ t hx, .cons _ u hy, hf, h => by
    refine PySem.W.kat_cons (wpAny_eqBool_int ?_)
    by_cases e : p = q
    · subst e
      rw [beq_self_eq_true]
      have h' : Q (lexA ns ms) s := by simpa [lexA] using h
      refine PySem.W.kat_yes (kat_any (i + 1) hx hy ?_ h')
      rw [hf]; simp
    · rw [beq_eq_false_iff_ne.mpr e]
      refine PySem.W.kat_no (oneLt_ints _ ?_)
      simpa [lexA, e] using h
theorem heads_of {h : Heap} : ∀ vs : List Value, (∀ v ∈ vs, ∃ ns, TupInts h v ns ∧ ns ≠ []) → ∃ fs, PySem.W.KatTups h vs fs ∧ fs.length = vs.length ∧ ∀ f ∈ fs, ∃ n t, f = Value.int n t
  | [], _ => ⟨[], .nil, rfl, fun _ z => nomatch z⟩
  | v :: vs, x => by
    obtain ⟨fs, kt, hlen, hall⟩ := heads_of vs fun z hz => x z (List.mem_cons_of_mem _ hz)
    obtain ⟨ns, ⟨a, xs, rfl, ⟨ob, hob, hcl, k, hdata⟩, hi⟩, hne⟩ := x v (List.mem_cons_self ..)
    cases hxs : xs.toList with
    | nil =>
      rw [hxs] at hi
      cases hi
      exact absurd rfl hne
    | cons y ys =>
      rw [hxs] at hi
      cases hi with
      | cons m t _ =>
        have z : xs[0]? = some (Value.int m t) := by rw [← Array.getElem?_toList, hxs]; rfl
        refine ⟨.int m t :: fs, .cons hob hcl hdata z kt, by rw [List.length_cons, hlen, List.length_cons], fun f hf => ?_⟩
        rcases List.mem_cons.mp hf with rfl | hf
        · exact ⟨m, t, rfl⟩
        · exact hall f hf
theorem kind_any {vs : List Value} (h2 : 2 ≤ vs.length) (x : ∀ v ∈ vs, ∃ ns, TupInts s.heap v ns ∧ ns ≠ []) (r : Value → Int) (hr : ∀ u ∈ vs, ∀ v ∈ vs, ∀ ns ms, TupInts s.heap u ns → TupInts s.heap v ms → lexA ns ms = decide (r u < r v)) (Q : SortKind → Shared → Prop)
    (h : ∀ κ, Cmp prog w A s κ (pairsOf vs) r → Q κ s) : wpAny (model prog w) A (keyKind' vs.toArray) Q E s := by
  obtain ⟨fs, kt, hlen, hall⟩ := heads_of vs x
  refine PySem.W.kat_kind (T := .type "int") kt (by rw [hlen]; omega) (fun f hf => ?_) rfl (h _ fun p q hp hq Q' E' hQ => ?_)
  · obtain ⟨n, t, rfl⟩ := hall f hf
    exact .of_pure rfl
  · rw [pairsOf_toList] at hp hq
    have ip := mem_zip_self hp
    have iq := mem_zip_self hq
    obtain ⟨ns, tp, _⟩ := x _ ip.2
    obtain ⟨ms, tq, _⟩ := x _ iq.2
    have hlex := hr _ ip.2 _ iq.2 ns ms tp tq
    rw [← hlex] at hQ
    obtain ⟨a, xs, e1, ⟨o1, ho1, _, n1, hd1⟩, i1⟩ := tp
    obtain ⟨b, ys, e2, ⟨o2, ho2, _, n2, hd2⟩, i2⟩ := tq
    rw [e1, e2]
    refine PySem.W.kat_lt ho1 hd1 ho2 hd2 (kat_any 0 i1 i2 ?_ hQ)
    rw [← i1.length, ← i2.length, Array.length_toList, Array.length_toList]
theorem call_sort_any {a : Addr} {vs : List Value} {n : Nat} {Q : Value → Shared → Prop} (ρ : List Int → Int) (ho : s.heap.get? a = some (seqObj "list" vs.toArray n)) (h64 : vs.length < 64) (x : ∀ v ∈ vs, ∃ ns, TupInts s.heap v ns ∧ ns ≠ [])
    (hr : ∀ u ∈ vs, ∀ v ∈ vs, ∀ ns ms, TupInts s.heap u ns → TupInts s.heap v ms → lexA ns ms = decide (ρ ns < ρ ms))
    (h : ∀ out : Array Value, out.toList.Perm vs → out.toList.Pairwise (fun u v => ρ (intsOf s.heap u) ≤ ρ (intsOf s.heap v)) → Q .none { s with heap := sortedHeap s.heap a vs out }) :
    wpAny (model prog w) A (call (.builtin "list.sort") [.ref a]) Q E s := by
  have stays : ∀ b o, s.heap.get? b = some o → o.cls = .type "tuple" → (midHeap s.heap a vs).get? b = some o := fun b o e hc => by
    refine midHeap_old (fun z => ?_) e
    rw [z, ho] at e
    cases e
    have hc2 : Value.type "list" = Value.type "tuple" := hc
    injection hc2 with hc3
    exact absurd hc3 (by decide)
  refine wpAny_call_entry slot_list_sort ⟨_, ho, rfl⟩ entry_list_sort (SK.plain_sort (r := fun v => ρ (intsOf s.heap v)) ho h64 (fun h2 Q hQ => ?_) fun ps out h1 h2 h3 => ?_) (args_list_sort _)
  · refine kind_any (s := { s with heap := midHeap s.heap a vs }) h2 (fun v hv => ?_) _ (fun u hu v hv ns ms tu tv => ?_) Q hQ
    · obtain ⟨ns, t, ne⟩ := x v hv
      exact ⟨ns, t.keeps stays, ne⟩
    · obtain ⟨ns0, t0, _⟩ := x u hu
      obtain ⟨ms0, t1, _⟩ := x v hv
      have e0 : ns = ns0 := tu.ints.symm.trans (t0.keeps stays).ints
      have e1 : ms = ms0 := tv.ints.symm.trans (t1.keeps stays).ints
      subst e0 e1
      rw [hr u hu v hv ns ms t0 t1]
      show decide _ = decide (ρ (intsOf s.heap u) < ρ (intsOf s.heap v))
      rw [t0.ints, t1.ints]
  · obtain ⟨p, o⟩ := out_rank (r := fun v => ρ (intsOf s.heap v)) h1 h2 h3
    exact ⟨_, rfl, h out p o⟩
end
section
variable {P : Program} {w : World} {A : Around} {E : Value → Shared → Prop} {s : Shared}
theorem refs_some : ∀ (L : List (Addr × List Int)) (vs : List Value), (∀ v ∈ vs, ∃ q ∈ L, v = Value.ref q.1) → ∃ L1 : List (Addr × List Int), vs = L1.map (fun q => Value.ref q.1) ∧ ∀ q ∈ L1, q ∈ L
  | _, [], _ => ⟨[], rfl, fun _ z => nomatch z⟩
  | L, v :: vs, h => by
    obtain ⟨q, hq, rfl⟩ := h v (List.mem_cons_self ..)
    obtain ⟨L1, rfl, hs⟩ := refs_some L vs fun z hz => h z (List.mem_cons_of_mem _ hz)
    exact ⟨q :: L1, rfl, fun z hz => (List.mem_cons.mp hz).elim (fun e => e ▸ hq) (hs z)⟩
theorem sorted_setA {a : Addr} {L : List (Addr × List Int)} {es : Array (Int × Value)} {ep : Nat} {t : SetTable} {Q : Value → Shared → Prop} (ρ : List Int → Int) (R : SetTR P w s.heap a L es ep t) (hh : A.handled = none)
    (hne : ∀ p ∈ L, p.2 ≠ []) (hr : ∀ p ∈ L, ∀ q ∈ L, lexA p.2 q.2 = decide (ρ p.2 < ρ q.2))
    (hQ : ∀ s' p (out : Array Value) (c : Nat) (L' : List (Addr × List Int)), (∀ b o, s.heap.get? b = some o → s'.heap.get? b = some o) → s'.gens = s.gens → s'.os = s.os → s.heap.objs.size ≤ p → s'.heap.get? p = some (seqObj "list" out c) →
      out.toList = L'.map (fun q => Value.ref q.1) → L'.Perm L → L'.Pairwise (fun q r => ρ q.2 ≤ ρ r.2) → Q (.ref p) s') : wpAny (model P w) A (call (.builtin "sorted") [.ref a]) Q E s := by
  obtain ⟨o, ho, hex, hd⟩ := R.ob
  have size64 := R.size
  have few64 := R.few
  refine Calls.call_function_entry kind_sorted plain_sorted entry_sorted (args_sorted1 _) ?_
  unfold Builtin.«sorted»
  refine wpAny_bind (m := checkCount "sorted" 1 1 _) (wpAny_pure (wpAny_bind (collect_set (A := A.in1) hh ⟨o, ho, hex.1, hd⟩ R.fits (by unfold scanBound; omega) R.tab.ris R.led fun s1 vs k1 hz g1 o1 pm => ?_)))
  have rows : es.toList.map (·.2) = L.map fun q => Value.ref q.1 := by
    rw [R.rows]; unfold rowsOf
    rw [List.map_map]; rfl
  rw [rows] at pm
  have same1 : ∀ q ∈ L, ∀ r ∈ L, q.1 = r.1 → q = r := fun q hq r hr e => by
    have z := R.tup q hq
    rw [e] at z
    exact Prod.ext e (z.inj (R.tup r hr))
  have nodL : L.Nodup := nodup_of_map R.nd
  have nodR : (L.map fun q => Value.ref q.1).Nodup := List.pairwise_map.mpr (List.Pairwise.imp_of_mem (fun {q r} hq hr ne e => ne (same1 q hq r hr (Value.ref.inj e))) nodL)
  have lvs : vs.length < 64 := by rw [pm.length_eq, List.length_map]; exact few64
  refine wpAny_bind (wpAny_newList ?_ (by rw [sizeLine_eq]; omega))
  have atL : (s1.heap.push (seqObj "list" vs.toArray 0)).get? s1.heap.objs.size = some (seqObj "list" vs.toArray 0) := Heap.get?_push_size _ rfl
  have tups : ∀ q ∈ L, TupInts (s1.heap.push (seqObj "list" vs.toArray 0)) (.ref q.1) q.2 := fun q hq => tupInts_of (P := P) (w := w) (isT_keep (R.tup q hq) fun b u e => Heap.get?_push_of_some _ (k1 b u e))
  have from_ : ∀ v ∈ vs, ∃ q ∈ L, v = Value.ref q.1 := fun v hv => by
    obtain ⟨q, hq, e⟩ := List.mem_map.mp (pm.mem_iff.mp hv)
    exact ⟨q, hq, e.symm⟩
  refine wpAny_bind (wpAny_holding (call_sort_any (s := { s1 with heap := s1.heap.push (seqObj "list" vs.toArray 0) }) ρ atL lvs (fun v hv => ?_) (fun u hu v hv ns ms tu tv => ?_) fun out a1 a2 => ?_))
  · obtain ⟨q, hq, rfl⟩ := from_ v hv
    exact ⟨q.2, tups q hq, hne q hq⟩
  · obtain ⟨q, hq, rfl⟩ := from_ u hu
    obtain ⟨r, hr', rfl⟩ := from_ v hv
    have e1 : ns = q.2 := tu.ints.symm.trans (tups q hq).ints
    have e2 : ms = r.2 := tv.ints.symm.trans (tups r hr').ints
    subst e1 e2
    exact hr q hq r hr'
  · obtain ⟨c, hc⟩ := sortedHeap_at (vs := vs) (out := out) atL
    obtain ⟨L', e', hs'⟩ := refs_some L out.toList fun v hv => from_ v (a1.mem_iff.mp hv)
    have pm' : (L'.map fun q => Value.ref q.1).Perm (L.map fun q => Value.ref q.1) := by rw [← e']; exact a1.trans pm
    have pL : L'.Perm L := by
      refine (List.perm_ext_iff_of_nodup (nodup_of_map (pm'.nodup_iff.mpr nodR)) nodL).mpr fun q => ⟨hs' q, fun hq => ?_⟩
      obtain ⟨r, hr', e⟩ := List.mem_map.mp (pm'.mem_iff.mpr (List.mem_map.mpr ⟨q, hq, rfl⟩))
      rw [← same1 r (hs' r hr') q hq (Value.ref.inj e)]; exact hr'
    have pw : L'.Pairwise (fun q r => ρ q.2 ≤ ρ r.2) := by
      rw [e'] at a2
      refine List.Pairwise.imp_of_mem (fun {q r} hq hr' z => ?_) (List.pairwise_map.mp a2)
      have z' : ρ (intsOf (s1.heap.push (seqObj "list" vs.toArray 0)) (.ref q.1)) ≤ ρ (intsOf (s1.heap.push (seqObj "list" vs.toArray 0)) (.ref r.1)) := z
      rwa [(tups q (hs' q hq)).ints, (tups r (hs' r hr')).ints] at z'
    refine wpAny_pure ⟨_, rfl, hQ _ s1.heap.objs.size out c L' (fun b u e => ?_) g1 o1 hz hc e' pL pw⟩
    have lt := Heap.lt_size (k1 b u e)
    show (sortedHeap (s1.heap.push (seqObj "list" vs.toArray 0)) s1.heap.objs.size vs out).get? b = some u
    rw [sortedHeap_old (Nat.ne_of_lt lt) (by rw [size_push']; exact Nat.lt_succ_of_lt lt)]
    exact Heap.get?_push_of_some _ (k1 b u e)
end
section
variable {X : Cx}
def rSortA (K : PySem.W.Frag) (P : Program) (w : World) : List V → Hp → VK → Prop := fun vs H Q => ∃ (a : Addr) (L : List (Addr × List Int)) (ρ : List Int → Int), vs = [V.ref a] ∧ H a = some (SetTO P w a L) ∧ (∀ p ∈ L, SqT K H p.1 (p.2.map V.int)) ∧
  (∀ p ∈ L, p.2 ≠ []) ∧ (∀ p ∈ L, ∀ q ∈ L, lexA p.2 q.2 = decide (ρ p.2 < ρ q.2)) ∧
  ∀ (L' : List (Addr × List Int)) (p : Addr), L'.Perm L → (L'.map (·.2)).Nodup → L'.length < 64 → L'.Pairwise (fun q r => ρ q.2 ≤ ρ r.2) → H p = none → Q (.ref p) (upd H p (.lst (L'.map fun q => V.ref q.1)))
theorem cr_sortedA (hc : X.calm = true) : CallR X (.builtin "sorted") (rSortA X.K X.prog X.w) := by
  intro pins s σ H vs us Q I r h
  obtain ⟨a, L, ρ, rfl, ha, hk, hne, hr, q⟩ := h
  have R0 : SetT0 X.prog X.w s.heap a L := (I.hok a _ ha).1
  obtain ⟨es, ep, t, R⟩ := R0.full fun p hp => I.isT (hk p hp)
  rw [Vals.ref1 r]
  refine sorted_setA ρ R (I.ok.hd hc) hne hr fun s' p out c L' k g o hp hg hout pm pw => ?_
  have few : L'.length < 64 := by rw [pm.length_eq]; exact R.few
  have len : (L'.map fun q => V.ref q.1).length ≤ sizeLine := by rw [List.length_map, sizeLine_eq]; omega
  have new : H p = none := I.hok.fresh hp
  have vals : Vals (L'.map fun q => V.ref q.1) out.toList := by rw [hout]; exact vals_of_refs L'
  have J : Inv X pins σ (upd H p (.lst (L'.map fun q => V.ref q.1))) { s with heap := s'.heap, gens := s'.gens, drawn := s'.drawn, toks := s'.toks } :=
    I.call (ch := []) (Un.laid k hp new) (I.hok.laid k hp ⟨len, out.toList, c, vals, hg⟩) (by rw [g]; exact I.bare) (fun _ z => nomatch z)
  have e : s' = { s with heap := s'.heap, gens := s'.gens, drawn := s'.drawn, toks := s'.toks } := by
    cases s'; cases s; cases o; rfl
  rw [e]
  exact ⟨.ref p, _, J, rfl, q L' p pm ((pm.map (·.2)).nodup_iff.mpr R.nd) few pw new⟩
end
end RV
set_option maxHeartbeats 4000000
namespace RV
open PySem PySem.Spec PyProof.Rows L2
/-- a tuple known to be plain: its methods may be asked -/
def TupD (H : Hp) (a : Addr) (xs : List V) : Prop := ∃ o : Obj, o.dict = none ∧ o.cls = .type "tuple" ∧ H a = some (.frz o (.tup xs))
theorem TupD.sq {K : PySem.W.Frag} {H : Hp} {a : Addr} {xs : List V} (h : TupD H a xs) : SqT K H a xs := by
  obtain ⟨o, _, _, h⟩ := h
  exact .inl (.inr ⟨o, h⟩)
theorem TupD.same {H H' : Hp} {a : Addr} {xs : List V} (h : TupD H a xs) (s : Same H H') : TupD H' a xs := by
  obtain ⟨o, h1, h2, h⟩ := h
  exact ⟨o, h1, h2, s _ _ h⟩
/-- a tuple of plain tuples of ints -/
def TupsD (H : Hp) (a : Addr) (ps : List (List Int)) : Prop := ∃ ks : List (Addr × List Int), ks.map (·.2) = ps ∧ H a = some (.tup (ks.map fun p => V.ref p.1)) ∧ ∀ p ∈ ks, TupD H p.1 (p.2.map V.int)
theorem TupsD.tups {K : PySem.W.Frag} {H : Hp} {a : Addr} {ps : List (List Int)} (h : TupsD H a ps) : Tups K H a ps :=
  let ⟨ks, h1, h2, h3⟩ := h; ⟨ks, h1, tupNew h2, fun p hp => (h3 p hp).sq⟩
theorem TupsD.same {H H' : Hp} {a : Addr} {ps : List (List Int)} (h : TupsD H a ps) (e : Same H H') : TupsD H' a ps :=
  let ⟨ks, h1, h2, h3⟩ := h; ⟨ks, h1, e _ _ h2, fun p hp => (h3 p hp).same e⟩
section
variable {X : Cx} {a : Expr} {ta : TE}
/-- tuple(x) of a list: a new plain tuple -/
def kTupF (K : PySem.W.Frag) (x : V) (H : Hp) (Q : VK) : Prop := ∃ p xs, x = .ref p ∧ SqL K H p xs ∧ ∀ (q : Addr) (o : Obj), H q = none → o.dict = none → o.cls = .type "tuple" → Q (.ref q) (upd H q (.frz o (.tup xs)))
theorem rl_tupleF (pins : List (Addr × Obj)) (s : Shared) (σ : L2.St) (H : Hp) (x : V) (v : Value) (Q : VK) (I : Inv X pins σ H s) (r : RelV x v) (h : kTupF X.K x H Q) :
    wpAny (model X.prog X.w) X.A (call (.type "tuple") [v]) (EP X pins σ Q) X.xe s := by
  obtain ⟨p, xs, rfl, hs, q⟩ := h
  obtain rfl : v = .ref p := r
  obtain ⟨its, rv, pl, hz⟩ := I.list hs
  refine call_tuple_list pl.isList (fun h' hk => ?_) (by rw [List.size_toArray, ← rv.length]; exact hz)
  have I1 : Inv X pins σ H { s with heap := h' } := I.kept (t' := s.toks) hk
  have I2 : Inv X pins σ (upd H h'.objs.size (.frz { cls := .type "tuple", data := .seq its.toArray } (.tup xs))) { s with heap := h'.push { cls := .type "tuple", data := .seq its.toArray } } :=
    I1.laid (t' := s.toks) (fun b o e => Heap.get?_push_of_some _ e) (Nat.le_refl _) (show ObjOk X.prog X.w _ _ _ (.frz { cls := .type "tuple", data := .seq its.toArray } (.tup xs)) from ⟨Heap.get?_push_size _ rfl, hz, its, rv, IsTup.new _ _⟩)
  exact ⟨.ref h'.objs.size, _, I2, rfl, q _ _ (I1.hok.fresh (Nat.le_refl _)) rfl rfl⟩
theorem pe_tupleF {p pos : Pos} (hg : Gl X "tuple") (hm : X.mg "tuple" = none) (ha : PE X a ta) (na : starEach [a] X.env = (false, eval a X.env) :: starEach [] X.env := by rfl) :
    PE X (.Call (.Name "tuple" p) [a] [] pos) (tThen ta (kTupF X.K)) := by
  refine ⟨fun pins s σ H Q I h => ?_⟩
  exact Call_ (ld_blt I hg hm boot_tuple (PyProof.Rows.callWith_type1 (one_arg ha I h (fun v s2 x H2 I2 r q => rl_tupleF pins s2 σ H2 x v Q I2 r q) na) na))
def tBMT (r : V → List V → Hp → VK → Prop) (to : TE) (t : TA) : TE := fun σ H Q => to σ H fun x H1 => (∃ p xs, x = .ref p ∧ TupD H1 p xs) ∧ t σ H1 fun xs H2 => r x xs H2 Q
variable {o e : Expr} {es : List Expr} {to : TE} {t : TA} {name : Str} {apos cpos : Pos} {id : String} {r : V → List V → Hp → VK → Prop}
/-- t.m(e, ..), a plain tuple's method -/
theorem pe_bmT (slot : Slot "tuple" name id) (hty : typeOf (.builtin id) = pure (.type "method_descriptor")) (hm : MtR X id r) (ho : PE X o to) (ha : PA X (e :: es) t)
    (hbase : attributeBase o name X.env (eval o X.env) = eval o X.env := by rfl)
    (hfew : ((backTo cpos (starEach (e :: es) X.env)).all (fun x => !x.1) && (backToKw cpos (keywordEach [] X.env)).all (fun x => x.1.isSome)
      && decide ((e :: es).length + ([] : List Keyword).length + (if ([] : List Keyword).isEmpty then 0 else 1) < 30)) = true := by rfl)
    (hline : (apos.endLine == cpos.line) = true := by rfl) (hs : starEach (e :: es) X.env = (false, eval e X.env) :: starEach es X.env := by rfl) (hplain : (backTo cpos (starEach es X.env)).any (·.1) = false := by rfl) :
    PE X (.Call (.Attribute o name apos) (e :: es) [] cpos) (tBMT r to t) := by
  refine ⟨fun pins s σ H Q I h => ?_⟩
  refine wpAny_Call_method_late hbase hfew hline rfl (thn (ho.run pins s σ H _ I h) fun v s1 ⟨x, H1, I1, r1, ty, q1⟩ => ?_)
  obtain ⟨p, xs, rfl, ob, od, oc, hp⟩ := ty
  obtain rfl : v = .ref p := r1
  have g : s1.heap.get? p = some ob := (I1.hok p _ hp).1
  refine ⟨"tuple", id, PySem.F.plainAttrs_tuple, slot, hty, ⟨ob, g, oc⟩, fun a e => ?_, ?_⟩
  · cases e
    exact ⟨ob, g, od⟩
  have hA := ha.run cpos pins s1 σ H1 _ I1 q1
  rw [hs] at hA ⊢
  refine Calls.callWith_builtin (by show (false || (backTo cpos (starEach es X.env)).any (·.1)) = false; rw [hplain] <;> rfl) (Calls.evalArgs_plain ?_)
  exact thn hA fun us s2 ⟨vs, H2, I2, r2, q2⟩ => hm pins s2 σ H2 (.ref p) vs (.ref p) us Q I2 rfl r2 q2
end
section
variable {X : Cx}
/-- t.index(n), t a tuple of ints -/
def rIndexI (K : PySem.W.Frag) : V → List V → Hp → VK → Prop := fun x xs H Q => ∃ (a : Addr) (ns : List Int) (n : Int) (j : Nat), x = V.ref a ∧ xs = [V.int n] ∧ SqT K H a (ns.map V.int) ∧ ns[j]? = some n ∧ (∀ m, m < j → ns[m]? ≠ some n) ∧ Q (.int (j : Nat)) H
theorem mt_indexI (hu : X.A.units + 65 < cLine) : MtR X "tuple.index" (rIndexI X.K) := by
  intro pins s σ H x xs v us Q I rx rxs h
  obtain ⟨a, ns, n, j, rfl, rfl, hs, hj, hno, q⟩ := h
  cases rx
  obtain ⟨u, rfl, ru⟩ := vals1 rxs
  obtain ⟨bs, r1⟩ := Dp.reads I (.int n) (.int n) u (.int n) ru
  have lay := lay_ints ns
  have room : X.A.units + 1 + min (PyData.depthAll (ns.map PyData.int)) (PyData.int n).depth < cLine := by
    have := Nat.min_le_right (PyData.depthAll (ns.map PyData.int)) (PyData.int n).depth
    have e : (PyData.int n).depth = 0 := by simp [PyData.depth]
    omega
  obtain ⟨its, rv, ⟨⟨cls, dd, dat, sls⟩, ho, hc, m, hd⟩, hlen⟩ := I.tuple hs
  simp only at hc hd
  subst hc hd
  obtain ⟨as, rall⟩ := Dp.readsAll I (ns.map PyData.int) _ its (dpInts ns) rv
  have ln : its.length = (ns.map PyData.int).length := SeqAt.ReadsAll.length _ its as rall
  have mp : its.map (SeqAt.readOf s.heap) = ns.map PyData.int := SeqAt.readsAll_map _ its as lay rall
  have jl : j < its.toArray.size := by
    have := (List.getElem?_eq_some_iff.mp hj).1
    rw [List.size_toArray, ln, List.length_map]; exact this
  have at_ : ∀ (m : Nat) (hm : m < its.toArray.size), ∃ z, ns[m]? = some z ∧ SeqAt.readOf s.heap its.toArray[m] = PyData.int z := fun m hm => by
    have hm2 : m < ns.length := by rw [List.size_toArray, ln, List.length_map] at hm; exact hm
    refine ⟨_, List.getElem?_eq_getElem hm2, ?_⟩
    have e : (its.map (SeqAt.readOf s.heap))[m]? = some (PyData.int ns[m]) := by rw [mp, List.getElem?_map, List.getElem?_eq_getElem hm2]; rfl
    have hml : m < its.length := by simpa using hm
    rw [List.getElem?_map, List.getElem?_eq_getElem hml] at e
    have e' := Option.some.inj e
    simpa using e'
  refine call_meets PySem.F.slot_tuple_index ⟨_, ho, rfl⟩ PySem.F.entry_tuple_index (PySem.F.args_tuple_index_2 _ _) (TI.tuple_indexAt a its.toArray m dd sls u (fun y => PyData.eqv (SeqAt.readOf s.heap y) (.int n)) j jl ?_ ?_)
    ⟨ho, SeqAt.items_eqAt (vs := its.toArray) (show ReadsAll s.heap its.toArray.toList _ as from rall) r1 lay (by simp [PyData.canLay0]) room, ⟨.int (j : Nat), H, I.tok _, ⟨_, rfl⟩, q⟩⟩
  · obtain ⟨z, e1, e2⟩ := at_ j jl
    rw [hj] at e1
    cases e1
    show PyData.eqv (SeqAt.readOf s.heap its.toArray[j]) (.int n) = true
    rw [e2]
    simp [PyData.eqv]
  · intro m hm hmj
    obtain ⟨z, e1, e2⟩ := at_ m hm
    show PyData.eqv (SeqAt.readOf s.heap its.toArray[m]) (.int n) = false
    rw [e2]
    have ne : z ≠ n := fun e => hno m hmj (by rw [e1, e])
    simp [PyData.eqv, ne]
end
section
variable {X : Cx} {P : Program} {w : World} {K : PySem.W.Frag}
theorem cr_setNK (h : X.K = K) (hP : X.prog = P) (hw : X.w = w) (hc : X.calm = true) (hu : X.A.units + 64 < cLine) : CallR X (.type "set") (rSetN K P w) := by
  subst h hP hw
  exact cr_setN hc hu
theorem cr_sortedAK (h : X.K = K) (hP : X.prog = P) (hw : X.w = w) (hc : X.calm = true) : CallR X (.builtin "sorted") (rSortA K P w) := by
  subst h hP hw
  exact cr_sortedA hc
end
end RV
set_option maxHeartbeats 4000000
namespace K75
open PySem PySem.Spec PyProof.Rows L2 RV
theorem rgV_upN (n : Nat) : rgV 0 (n : Int) = (upN n).map V.int := by
  rw [rgV_rgI]
  unfold rgI upN
  rw [show ((n : Int) - 0).toNat = n by omega]
  congr 1
  refine List.map_congr_left fun i _ => ?_
  omega
/-- the ways of the first i marks -/
def Ways (H : Hp) (D : Addr) (ps : List (List Int)) (ws : List (Addr × List Int)) : Prop := H D = some (.lst (ws.map fun p => V.ref p.1)) ∧ ∀ (k : Nat) (x : Addr × List Int), ws[k]? = some x → H x.1 = some (.lst (x.2.map V.int)) ∧ x.1 ≠ D ∧ x.2.length ≤ 8 ∧ ∀ j, j ∈ x.2 ↔ Rch ps (k : Int) j
theorem Ways.same {H H' : Hp} {D : Addr} {ps : List (List Int)} {ws : List (Addr × List Int)} (h : Ways H D ps ws) (s : Same H H') : Ways H' D ps ws :=
  ⟨s _ _ h.1, fun k x g => let ⟨a, b⟩ := h.2 k x g; ⟨s _ _ a, b⟩⟩
theorem in_way {ps : List (List Int)} {k : Nat} {y : Int} {fs : List Int} (h : ∀ j, j ∈ fs ↔ Rch ps (k : Int) j) : decide (y ∈ fs) = rB ps (k : Int) y := by
  rw [Bool.eq_iff_iff, decide_eq_true_iff, rB_iff]
  exact h y
noncomputable def partsTo (ps : List (List Int)) (n i : Nat) : List (List Int) := (((upN n).take i).filter (isHead ps n)).map (lotOf ps n)
theorem partsTo_next {ps : List (List Int)} {n i : Nat} {m : Int} (g : (upN n)[i]? = some m) : partsTo ps n (i + 1) = partsTo ps n i ++ (if isHead ps n m = true then [lotOf ps n m] else []) := by
  unfold partsTo
  rw [take_filt g, List.map_append]
  by_cases e : isHead ps n m = true
  · rw [if_pos e, if_pos e]; rfl
  · rw [if_neg e, if_neg e]; rfl
theorem partsTo_all (ps : List (List Int)) (n : Nat) : partsTo ps n n = partsOf ps n := by
  unfold partsTo partsOf
  rw [List.take_of_length_le (by rw [upN_len]; exact Nat.le_refl _)]
theorem partsTo_len (ps : List (List Int)) (n i : Nat) : (partsTo ps n i).length ≤ n := by
  unfold partsTo
  rw [List.length_map]
  refine Nat.le_trans (List.length_filter_le _ _) ?_
  rw [List.length_take, upN_len]; omega
section
variable {P : Program} {w : World} {K : PySem.W.Frag} {mg : Str → Option Value} {base : Heap}
/-! ### parts -/
theorem scParts : FnScope ["rule", "every", "mark", "ways", "found", "part", "other"] ["rule"] (defScope sParts) := ⟨rfl, rfl, rfl, by decide +kernel, rfl, by decide +kernel, by decide +kernel⟩
def spParts (K : PySem.W.Frag) (C : Addr) : Sp := fun vs H Q _ => ∃ (r : Addr) (ns : List Int) (ps : List (List Int)), vs = [.ref r] ∧ RuleAt K C H r ns ps ∧ Mir ns ∧ Stp ns ps ∧
  ∀ (H' : Hp) (c : Addr), Same H H' → H c = none → TupsD H' c (partsOf ps ns.length) → Q (.ref c) H'
theorem ok_parts {f C fL fM : Addr} {fd dL dM : FuncData} (F : Fun K "parts" "parts" sParts f fd) (T : Txt K mg C) (B : Bare mg) (DL : DefAt K mg "led_to" sLed ["rule", "mark"] fL dL) (GL : FnOk P w K mg base CX0 2 fL dL ["rule", "mark"] (spLed K C))
    (FM : Fun K "marks" "Rule.marks" sMarksM fM dM) (bM : Binds K dM ["self"] []) (mM : Meth K C "marks" fM) : FnOk P w K mg base CX0 3 f fd ["rule"] (spParts K C) := by
  have GM : FnOk P w K mg base CX0 1 fM dM ["self"] (spMarksM K C) := ok_marksM FM T B
  refine F.ok scParts (fun vs H Q E h => ?_) (fun cdv A outer s H vs Q E hr h => ?_)
  · obtain ⟨r, ns, ps, rfl, _⟩ := h
    rfl
  · obtain ⟨r, ns, ps, rfl, R, M, S, q⟩ := h
    have hu5 := un65 hr
    have hr1 := hr.mono (show 1 ≤ 2 by decide)
    refine ⟨_, pss_cons (ps_set (i := 1) scParts.nd rfl (Or.inl rfl) (pe_listRg rfl (by rfl) B.list (prg_1 (by rfl) B.range (pe_meth0 (pv 0) T.cl mM GM hr1 bM .nil pass0))))
      (pss_cons (ps_set (i := 3) scParts.nd rfl (Or.inr rfl) (pe_lc (own := [("mark", 2)]) (g := gName 2) (tt := tYes) rfl scParts.nd (pi_list (pv 1)) (blkOk_by (N := ["rule", "every", "mark", "ways", "found", "part", "other"]) (sc := defScope sParts) (by decide +kernel))
          (fun _ _ _ _ _ => pg_name (i := 2) scParts.nd rfl (Or.inl rfl)) (fun _ _ _ _ _ => pts_nil) (fun _ _ _ _ _ => pe_call GL hr (by rfl) DL.mg DL.fn.kp DL.bi .nil pass0 (pa_cons (pv 0) (pa_cons (pv 2) pa_nil)))))
      (pss_cons (ps_set (i := 4) scParts.nd rfl (Or.inl rfl) (pe_lst pa_nil))
      (pss_cons (ps_for PassesOwn.never rfl (pi_list (pv 1)) (pg_name (i := 2) scParts.nd rfl (Or.inr rfl))
        (pss_cons (ps_set (i := 5) scParts.nd rfl (Or.inl rfl) (pe_tupleF (by rfl) B.tuple
          (pe_lc (own := [("other", 6)]) (g := gName 6) rfl scParts.nd (pi_list (pv 1)) (blkOk_by (N := ["rule", "every", "mark", "ways", "found", "part", "other"]) (sc := defScope sParts) (by decide +kernel))
            (fun _ _ _ _ _ => pg_name (i := 6) scParts.nd rfl (Or.inl rfl))
            (fun _ _ _ _ _ => pts_one (PW.pt (pw_and (pt_cmpR (op_inDK (K := K) rfl hu5) (pv 6) (pe_ix (ix_listK (K := K) rfl) (pv 3) (pv 2) (fun _ _ => rfl)) (by rfl)) (pw_and1 (pt_cmpR (op_inDK (K := K) rfl hu5) (pv 2) (pe_ix (ix_listK (K := K) rfl) (pv 3) (pv 6) (fun _ _ => rfl)) (by rfl))))))
            (fun _ _ _ _ _ => pv 6))))
        (pss_one (ps_if (PW.pt (pw_and (pt_cmpR op_gt (pe_callB call_len_seq (by rfl) B.len PySem.boot_len (pa_cons (pv 5) pa_nil)) pe_int (nomark _)) (pw_and1 (pt_cmpR op_eq (pe_ix ix_tup (pv 5) pe_int (fun _ _ => rfl)) (pv 2) (nomark _)))))
          (pss_one (ps_expr (pe_bm PySem.F.plainAttrs_list PySem.F.slot_list_append PySem.F.type_list_append mt_append (pv 4) (pa_cons (pv 5) pa_nil)))) pss_nil))))
      (pss_one (ps_ret (pe_tupleOf (by rfl) B.tuple (pv 4))))))), ?_⟩
    obtain ⟨dx, a0, b0, t0, g1, g2, g3, g4⟩ := R.ex
    have fno := flds_no a0 b0 t0 (m := "marks") (by decide +kernel) (by decide +kernel) (by decide +kernel)
    have h8 := M.few
    have hP : ∀ p ∈ ps, Pr (ns.length : Int) p := fun p hp => S.pair p hp
    -- every
    refine ⟨.ref r, rfl, r, dx, _, rfl, g1, fno, r, ns, ps, rfl, R, _, rfl, RgOk.of_le (by omega) (by omega) (by omega) (by omega), fun E0 nE => ?_⟩
    rw [rgV_upN]
    have s1 := same_upd (o := .lst ((upN ns.length).map V.int)) nE
    have eE : (upd H E0 (.lst ((upN ns.length).map V.int))) E0 = some (.lst ((upN ns.length).map V.int)) := upd_same
    generalize upd H E0 (.lst ((upN ns.length).map V.int)) = H1 at s1 eE ⊢
    -- ways
    refine ⟨.ref E0, rfl, E0, rfl, ⟨_, lstNew eE⟩, fun D nD => ?_⟩
    refine lc_list (K := K) (a := E0) (xs := (upN ns.length).map V.int) (fun i H' => Same H1 H' ∧ ∃ ws, ws.length = i ∧ Ways H' D ps ws) ⟨same_upd nD, [], rfl, upd_same, fun k x g => nomatch g⟩ (fun i H' _ p => lstNew (p.1 _ _ eE)) (fun i x H' hx p => ?_) fun H2 p => ?_
    · obtain ⟨k, g, rfl⟩ := map_at hx
      have hil : i < ns.length := by
        have := (List.getElem?_eq_some_iff.mp g).1
        rwa [upN_len] at this
      rw [upN_get hil] at g
      have ek : (i : Int) = k := Option.some.inj g
      subst ek
      obtain ⟨p1, ws, hws, W⟩ := p
      refine ⟨rfl, tt_yes ⟨.ref r, rfl, .int (i : Int), rfl, r, (i : Int), ns, ps, rfl, R.same (s1.trans p1), M, S, ⟨by omega, by omega⟩, fun H3 c fs s3 nc e3 l3 m3 => ?_⟩⟩
      have W3 := W.same s3
      have cD : c ≠ D := (ne_of_none W.1 nc).symm
      refine ⟨_, W3.1, by rw [List.length_map]; exact few1 (by omega), fun b o z => ?_, ws ++ [(c, fs)], by rw [List.length_append, hws]; rfl, ?_, fun k x gx => ?_⟩
      · rw [upd_ne (ne_of_none z nD)]; exact s3 _ _ (p1 b o z)
      · rw [upd_same, List.map_append]; rfl
      · by_cases hk : k < ws.length
        · rw [List.getElem?_append_left hk] at gx
          obtain ⟨w1, w2, w3, w4⟩ := W3.2 k x gx
          exact ⟨by rw [upd_ne w2]; exact w1, w2, w3, w4⟩
        · have hk2 := (List.getElem?_eq_some_iff.mp gx).1
          rw [List.length_append] at hk2
          have hk3 : k = ws.length := by
            have : ([(c, fs)] : List (Addr × List Int)).length = 1 := rfl
            omega
          subst hk3
          rw [List.getElem?_append_right (Nat.le_refl _), Nat.sub_self] at gx
          have ex : (c, fs) = x := Option.some.inj gx
          subst ex
          exact ⟨by rw [upd_ne cD]; exact e3, cD, l3, by rw [hws]; exact m3⟩
    · obtain ⟨p1, ws, hws, W⟩ := p
      rw [List.length_map, upN_len] at hws
      refine nx_step ?_
      dsimp only
      -- found
      refine ⟨Nat.zero_le _, fun F0 nF => ?_⟩
      have sF := same_upd (o := .lst []) nF
      refine ⟨.ref E0, rfl, E0, rfl, ⟨_, lstNew (sF _ _ (p1 _ _ eE))⟩, ?_⟩
      have nFH : H F0 = none := s1.free (p1.free nF)
      refine for_list (K := K) (a := E0) (xs := (upN ns.length).map V.int) (fun i σ H' => ∃ (ks : List (Addr × List Int)) (y2 y5 y6 : Option V), σ = [some (.ref r), some (.ref E0), y2, some (.ref D), some (.ref F0), y5, y6] ∧ Same H2 H' ∧ H' F0 = some (.lst (ks.map fun p => V.ref p.1)) ∧ ks.map (·.2) = partsTo ps ns.length i ∧ ∀ k ∈ ks, TupD H' k.1 (k.2.map V.int))
        ⟨[], none, none, none, rfl, sF, upd_same, rfl, fun _ z => nomatch z⟩ (fun i σ H' _ h => ?_) (fun i x σ H' hx h => ?_) (fun σ H' h => ?_)
      · obtain ⟨_, _, _, _, _, s', _⟩ := h
        exact lstNew (s' _ _ (p1 _ _ eE))
      · obtain ⟨ks, y2, y5, y6, rfl, s', eF, eks, hks⟩ := h
        obtain ⟨m, g, rfl⟩ := map_at hx
        have hil : i < ns.length := by
          have := (List.getElem?_eq_some_iff.mp g).1
          rwa [upN_len] at this
        have g' := g
        rw [upN_get hil] at g'
        have ek : (i : Int) = m := Option.some.inj g'
        subst ek
        have W' := W.same s'
        have lks : ks.length ≤ ns.length := by
          have z := congrArg List.length eks
          rw [List.length_map] at z
          have := partsTo_len ps ns.length i
          omega
        -- part
        refine ⟨.ref E0, rfl, E0, rfl, ⟨_, lstNew (s' _ _ (p1 _ _ eE))⟩, fun D2 nD2 => ?_⟩
        refine lc_filtL (f := fun y => rB ps (i : Int) y && rB ps y (i : Int)) (lstNew (s' _ _ (p1 _ _ eE))) (by rw [upN_len]; omega) nD2 (fun y hy H4 s4 A B h => ?_) (fun y H' Q h => ⟨.int y, rfl, h⟩) fun H4 s4 eD2 => ?_
        · have W4 := W'.same s4
          have hy' := mem_upN.mp hy
          obtain ⟨wi, gwi⟩ : ∃ x, ws[i]? = some x := ⟨_, List.getElem?_eq_getElem (by omega)⟩
          obtain ⟨wy, gwy⟩ : ∃ x, ws[y.toNat]? = some x := ⟨_, List.getElem?_eq_getElem (by omega)⟩
          obtain ⟨u1, _, _, u4⟩ := W4.2 _ _ gwi
          obtain ⟨v1, _, _, v4⟩ := W4.2 _ _ gwy
          have hh := h H4 (Same.refl H4)
          refine ⟨.int y, rfl, .ref D, rfl, .int (i : Int), rfl, D, _, _, .ref wi.1, rfl, rfl, lstNew W4.1, atI_nat (by rw [List.getElem?_map, gwi]; rfl), .int y, wi.2.map PyData.int, .int y, dpL (lstNew u1), shapedN y, shapedLI _, _, rfl, ?_⟩
          rw [any_int, in_way u4]
          cases e1 : rB ps (i : Int) y with
          | false =>
            rw [e1] at hh
            exact iteF hh
          | true =>
            rw [e1] at hh
            refine iteT ?_
            have ey : atI (ws.map fun p => V.ref p.1) y = some (.ref wy.1) := by
              have z : atI (ws.map fun p => V.ref p.1) ((y.toNat : Nat) : Int) = some (.ref wy.1) := atI_nat (by rw [List.getElem?_map, gwy]; rfl)
              rwa [Int.toNat_of_nonneg hy'.1] at z
            refine ⟨.int (i : Int), rfl, .ref D, rfl, .int y, rfl, D, _, _, .ref wy.1, rfl, rfl, lstNew W4.1, ey, .int (i : Int), wy.2.map PyData.int, .int (i : Int), dpL (lstNew v1), shapedN _, shapedLI _, _, rfl, ?_⟩
            rw [any_int, in_way v4, Int.toNat_of_nonneg hy'.1]
            rw [Bool.true_and] at hh
            exact hh
        · change H4 D2 = some (.lst ((lotOf ps ns.length (i : Int)).map V.int)) at eD2
          refine ⟨D2, _, rfl, lstNew eD2, fun T0 ob nT od oc => ?_⟩
          have sT := same_upd (o := .frz ob (.tup ((lotOf ps ns.length (i : Int)).map V.int))) nT
          have eT : TupD (upd H4 T0 (.frz ob (.tup ((lotOf ps ns.length (i : Int)).map V.int)))) T0 ((lotOf ps ns.length (i : Int)).map V.int) := ⟨ob, od, oc, upd_same⟩
          have s5 := s4.trans sT
          generalize upd H4 T0 (.frz ob (.tup ((lotOf ps ns.length (i : Int)).map V.int))) = H5 at eT s5 ⊢
          have eF5 := s5 _ _ eF
          have s25 := s'.trans s5
          refine ⟨.ref T0, rfl, T0, _, rfl, .inr eT.sq, _, _, rfl, rfl, _, rfl, ?_⟩
          have nxt := partsTo_next (ps := ps) g
          have no : isHead ps ns.length (i : Int) = false → partsTo ps ns.length (i + 1) = partsTo ps ns.length i := fun e => by
            rw [nxt, e, if_neg (by simp), List.append_nil]
          cases el : lotOf ps ns.length (i : Int) with
          | nil =>
            have e0 : isHead ps ns.length (i : Int) = false := by unfold isHead; rw [el]; rfl
            refine iteF (iteF ?_)
            exact ⟨ks, _, _, _, rfl, s25, eF5, by rw [no e0]; exact eks, fun k hk => (hks k hk).same s5⟩
          | cons x l =>
            rw [el] at eT
            have e0 : decide ((List.map V.int (x :: l)).length > (0 : Int)) = true := decide_eq_true (by rw [List.map_cons, List.length_cons]; omega)
            rw [e0]
            refine iteT ⟨.ref T0, rfl, T0, _, 0, .int x, rfl, rfl, eT.sq, atI_nat (j := 0) rfl, .int (i : Int), rfl, rfl, _, rfl, ?_⟩
            by_cases ex : x = (i : Int)
            · have e1 : isHead ps ns.length (i : Int) = true := by unfold isHead; rw [el, ex]; exact decide_eq_true rfl
              rw [decide_eq_true (by rw [ex])]
              refine iteT ⟨.ref F0, rfl, .inl ⟨rfl, _, lstNew eF5⟩, .ref T0, rfl, F0, _, _, rfl, rfl, eF5, by rw [List.length_map]; exact few1 (by omega), ?_⟩
              have tF : ∀ (c : Addr) (xs : List V), TupD H5 c xs → TupD (upd H5 F0 (.lst (ks.map (fun p => V.ref p.1) ++ [.ref T0]))) c xs := fun c xs ⟨o, z1, z2, e⟩ => ⟨o, z1, z2, by
                rw [upd_ne (fun z => by rw [z, eF5] at e; cases e)]; exact e⟩
              refine ⟨ks ++ [(T0, lotOf ps ns.length (i : Int))], _, _, _, rfl, fun b o z => ?_, ?_, ?_, fun k hk => ?_⟩
              · rw [upd_ne (ne_of_none z nF)]; exact s25 b o z
              · rw [upd_same, List.map_append]; rfl
              · rw [nxt, if_pos e1, List.map_append, eks]; rfl
              · rcases List.mem_append.mp hk with z | z
                · exact tF _ _ ((hks k z).same s5)
                · rw [List.mem_singleton.mp z]
                  refine tF _ _ ?_
                  rw [el]; exact eT
            · have e1 : isHead ps ns.length (i : Int) = false := by
                unfold isHead
                rw [el]
                exact decide_eq_false fun z => ex (Option.some.inj z)
              rw [decide_eq_false (fun z => ex (V.int.inj z))]
              refine iteF ?_
              exact ⟨ks, _, _, _, rfl, s25, eF5, by rw [no e1]; exact eks, fun k hk => (hks k hk).same s5⟩
      · obtain ⟨ks, y2, y5, y6, rfl, s', eF, eks, hks⟩ := h
        rw [List.length_map, upN_len, partsTo_all] at eks
        refine ⟨.ref F0, rfl, .inl ⟨F0, _, rfl, lstNew eF, fun c nc => ?_⟩⟩
        have sc := same_upd (o := .tup (ks.map fun p => V.ref p.1)) nc
        have s02 := s1.trans (p1.trans s')
        exact q _ c (s02.trans sc) (s02.free nc) ⟨ks, eks, upd_same, fun k hk => (hks k hk).same sc⟩
end
end K75
set_option maxHeartbeats 4000000
namespace RV
open PySem PySem.Spec PyProof.Rows L2
section
variable {K : PySem.W.Frag} {tt : TT} {te : TE} {f : Int → Bool} {σ : L2.St} {H1 : Hp} {D : Addr} {v n : Nat} {Qd : Hp → Prop}
/-- [x for x in range(n) if ..] -/
theorem lc_filtR (hl : n ≤ 1000) (nD : H1 D = none)
    (htest : ∀ x : Int, 0 ≤ x → x < (n : Int) → ∀ H', Same H1 H' → ∀ A B : Hp → Prop, (∀ H2, Same H' H2 → if f x = true then A H2 else B H2) → tt ((wipe σ [v]).set v (some (.int x))) H' (fun b H3 => if b = true then A H3 else B H3))
    (hte : ∀ (x : Int) (H' : Hp) (Q : VK), Q (.int x) H' → te ((wipe σ [v]).set v (some (.int x))) H' Q)
    (hd : ∀ H', Same H1 H' → H' D = some (.lst (((upN n).filter f).map V.int)) → Qd H') :
    ∃ W : Nat → Nat → Hp → Prop, (∃ m, W 0 m (upd H1 D (.lst []))) ∧ ∀ i m H, W i m H →
      ((Itr 0 n).stop i H ∧ Qd H) ∨ ((Itr 0 n).go i H ∧ ∃ Nx : Hp → Prop, (∀ H', Nx H' → ∃ m', m' < m ∧ W (i + 1) m' H') ∧ ∀ x H', (Itr 0 n).yld i H x H' → gName v x (wipe σ [v]) H' fun σ2 H2 => wipe σ2 [v] = wipe σ [v] ∧ tt σ2 H2 fun b H3 =>
        if b = true then te σ2 H3 fun y H4 => ∃ acc, H4 D = some (.lst acc) ∧ acc.length < sizeLine ∧ Nx (upd H4 D (.lst (acc ++ [y]))) else Nx H3) := by
  refine lc_range (lo := 0) (n := n) (fun i H' => Same H1 H' ∧ H' D = some (.lst ((((upN n).take i).filter f).map V.int))) ⟨same_upd nD, upd_same⟩ (fun i H' hi p => ?_) fun H' p => ?_
  · have g : (upN n)[i]? = some (i : Int) := upN_get hi
    rw [Int.zero_add]
    refine ⟨by simp [wipe, List.set_set], htest (i : Int) (by omega) (by omega) H' p.1 _ _ fun H2 s2 => ?_⟩
    have s12 := p.1.trans s2
    have e2 := s2 _ _ p.2
    by_cases e : f (i : Int) = true
    · rw [if_pos e]
      refine hte _ H2 _ ⟨_, e2, ?_, fun b o z => ?_, ?_⟩
      · rw [List.length_map]
        exact few1 (Nat.le_trans (List.length_filter_le _ _) (by rw [List.length_take, upN_len]; omega))
      · rw [upd_ne (ne_of_none z nD)]; exact s12 b o z
      · rw [upd_same, take_filt g, if_pos e, List.map_append]; rfl
    · rw [if_neg e]
      exact ⟨s12, by rw [take_filt g, if_neg e, List.append_nil]; exact e2⟩
  · rw [List.take_of_length_le (by rw [upN_len]; exact Nat.le_refl _)] at p
    exact hd H' p.1 p.2
end
end RV
set_option maxHeartbeats 4000000
namespace RV
open PySem PySem.Spec PyProof.Rows L2
def fromN (lo : Int) (n : Nat) : List Int := (List.range n).map fun (i : Nat) => lo + (i : Int)
theorem fromN_get {lo : Int} {n k : Nat} (h : k < n) : (fromN lo n)[k]? = some (lo + (k : Int)) := by
  unfold fromN
  rw [List.getElem?_map, List.getElem?_range h]; rfl
theorem fromN_len (lo : Int) (n : Nat) : (fromN lo n).length = n := by unfold fromN; rw [List.length_map, List.length_range]
theorem mem_fromN {lo : Int} {n : Nat} {x : Int} : x ∈ fromN lo n ↔ lo ≤ x ∧ x < lo + (n : Int) := by
  unfold fromN
  rw [List.mem_map]
  constructor
  · rintro ⟨k, hk, rfl⟩
    have := List.mem_range.mp hk
    omega
  · rintro ⟨h0, h1⟩
    exact ⟨(x - lo).toNat, List.mem_range.mpr (by omega), by omega⟩
theorem pe_weakR {X : Cx} {e : Expr} {t t' : TE} (h : PE X e t) (imp : ∀ σ H Q, t' σ H Q → t σ H Q) : PE X e t' := ⟨fun pins s σ H Q I q => h.run pins s σ H Q I (imp σ H Q q)⟩
section
variable {X : Cx} {K : PySem.W.Frag}
theorem cr_allK (h : X.K = K) (hc : X.calm = true) : CallR X (.builtin "all") (rAll K) := h ▸ cr_all hc
theorem pi_listK {tg l : Expr} {tl : TE} (h : X.K = K) (hl : PE X l tl) : PI X tg l (iList K tl) := h ▸ pi_list hl
theorem pi_tupK {tg l : Expr} {tl : TE} (h : X.K = K) (hl : PE X l tl) : PI X tg l (iTup K tl) := h ▸ pi_tup hl
end
section
variable {K : PySem.W.Frag} {tt : TT} {te : TE} {f : Int → Bool} {h : Int → Int} {σ : L2.St} {H1 : Hp} {D : Addr} {v n : Nat} {lo : Int} {Qd : Hp → Prop}
/-- [h(x) for x in range(lo, ..) if f(x)] -/
theorem lc_mapR (hl : n ≤ 1000) (nD : H1 D = none)
    (htest : ∀ x ∈ fromN lo n, ∀ H', Same H1 H' → ∀ A B : Hp → Prop, (∀ H2, Same H' H2 → if f x = true then A H2 else B H2) → tt ((wipe σ [v]).set v (some (.int x))) H' (fun b H3 => if b = true then A H3 else B H3))
    (hte : ∀ x ∈ fromN lo n, ∀ (H' : Hp) (Q : VK), Same H1 H' → f x = true → (∀ H2, Same H' H2 → Q (.int (h x)) H2) → te ((wipe σ [v]).set v (some (.int x))) H' Q)
    (hd : ∀ H', Same H1 H' → H' D = some (.lst ((((fromN lo n).filter f).map h).map V.int)) → Qd H') :
    ∃ W : Nat → Nat → Hp → Prop, (∃ m, W 0 m (upd H1 D (.lst []))) ∧ ∀ i m H, W i m H →
      ((Itr lo n).stop i H ∧ Qd H) ∨ ((Itr lo n).go i H ∧ ∃ Nx : Hp → Prop, (∀ H', Nx H' → ∃ m', m' < m ∧ W (i + 1) m' H') ∧ ∀ x H', (Itr lo n).yld i H x H' → gName v x (wipe σ [v]) H' fun σ2 H2 => wipe σ2 [v] = wipe σ [v] ∧ tt σ2 H2 fun b H3 =>
        if b = true then te σ2 H3 fun y H4 => ∃ acc, H4 D = some (.lst acc) ∧ acc.length < sizeLine ∧ Nx (upd H4 D (.lst (acc ++ [y]))) else Nx H3) := by
  refine lc_range (lo := lo) (n := n) (fun i H' => Same H1 H' ∧ H' D = some (.lst (((((fromN lo n).take i).filter f).map h).map V.int))) ⟨same_upd nD, upd_same⟩ (fun i H' hi p => ?_) fun H' p => ?_
  · have g : (fromN lo n)[i]? = some (lo + (i : Int)) := fromN_get hi
    have hm := List.mem_of_getElem? g
    refine ⟨by simp [wipe, List.set_set], htest _ hm H' p.1 _ _ fun H2 s2 => ?_⟩
    have s12 := p.1.trans s2
    have e2 := s2 _ _ p.2
    by_cases e : f (lo + (i : Int)) = true
    · rw [if_pos e]
      refine hte _ hm H2 _ s12 e fun H3 s3 => ⟨_, s3 _ _ e2, ?_, fun b o z => ?_, ?_⟩
      · rw [List.length_map, List.length_map]
        exact few1 (Nat.le_trans (List.length_filter_le _ _) (by rw [List.length_take, fromN_len]; omega))
      · rw [upd_ne (ne_of_none z nD)]; exact s3 _ _ (s12 b o z)
      · rw [upd_same, take_filt g, if_pos e, List.map_append, List.map_append]; rfl
    · rw [if_neg e]
      exact ⟨s12, by rw [take_filt g, if_neg e, List.append_nil]; exact e2⟩
  · rw [List.take_of_length_le (by rw [fromN_len]; exact Nat.le_refl _)] at p
    exact hd H' p.1 p.2
end
/-- [c(x) for x in l] of truths, l a list of ints -/
theorem lc_blL {K : PySem.W.Frag} {te : TE} {c : Int → Bool} {σ : L2.St} {H1 : Hp} {a D : Addr} {v : Nat} {ns : List Int} {Qd : Hp → Prop} (hT : SqL K H1 a (ns.map V.int)) (hl : ns.length ≤ 1000) (nD : H1 D = none)
    (hte : ∀ x ∈ ns, ∀ (H' : Hp) (Q : VK), Same H1 H' → Q (.bl (c x)) H' → te ((wipe σ [v]).set v (some (.int x))) H' Q)
    (hd : ∀ H', Same H1 H' → H' D = some (.lst ((ns.map c).map V.bl)) → Qd H') :
    ∃ W : Nat → Nat → Hp → Prop, (∃ m, W 0 m (upd H1 D (.lst []))) ∧ ∀ i m H, W i m H →
      ((Itl K a).stop i H ∧ Qd H) ∨ ((Itl K a).go i H ∧ ∃ Nx : Hp → Prop, (∀ H', Nx H' → ∃ m', m' < m ∧ W (i + 1) m' H') ∧ ∀ x H', (Itl K a).yld i H x H' → gName v x (wipe σ [v]) H' fun σ2 H2 => wipe σ2 [v] = wipe σ [v] ∧ tYes σ2 H2 fun b H3 =>
        if b = true then te σ2 H3 fun y H4 => ∃ acc, H4 D = some (.lst acc) ∧ acc.length < sizeLine ∧ Nx (upd H4 D (.lst (acc ++ [y]))) else Nx H3) := by
  refine lc_list (K := K) (a := a) (xs := ns.map V.int) (fun i H' => Same H1 H' ∧ H' D = some (.lst (((ns.take i).map c).map V.bl))) ⟨same_upd nD, upd_same⟩ (fun i H' _ p => sqL_same p.1 hT) (fun i x H' hx p => ?_) fun H' p => ?_
  · obtain ⟨k, g, rfl⟩ := map_at hx
    refine ⟨by simp [wipe, List.set_set], tt_yes (hte k (List.mem_of_getElem? g) H' _ p.1 ⟨_, p.2, ?_, fun b o z => ?_, ?_⟩)⟩
    · rw [List.length_map, List.length_map, List.length_take]; exact few1 (by omega)
    · rw [upd_ne (ne_of_none z nD)]; exact p.1 b o z
    · rw [upd_same, List.take_add_one, g, List.map_append, List.map_append]; rfl
  · rw [List.length_map, List.take_of_length_le (Nat.le_refl _)] at p
    exact hd H' p.1 p.2
end RV
set_option maxHeartbeats 4000000
namespace K75
open PySem PySem.Spec PyProof.Rows L2 RV
/-- a list of tuples of ints, all of them seen -/
def LotsH (H : Hp) (a : Addr) (ls : List (List Int)) : Prop := ∃ ks : List (Addr × List Int), ks.map (·.2) = ls ∧ H a = some (.lst (ks.map fun p => V.ref p.1)) ∧ ∀ p ∈ ks, H p.1 = some (.tup (p.2.map V.int))
theorem LotsH.same {H H' : Hp} {a : Addr} {ls : List (List Int)} (h : LotsH H a ls) (s : Same H H') : LotsH H' a ls := by
  obtain ⟨ks, h1, h2, h3⟩ := h
  exact ⟨ks, h1, s _ _ h2, fun p hp => s _ _ (h3 p hp)⟩
theorem half_sub {m : Nat} {fs ls xs : List Int} (h : Half m fs ls) (nd : xs.Nodup) (sub : ∀ x ∈ xs, x ∈ ls) : Half m fs xs := ⟨h.len, h.inn, h.back, nd, fun x hx => h.lin x (sub x hx), fun x hx => h.self x (sub x hx)⟩
theorem half_len {m : Nat} {fs ls : List Int} (h : Half m fs ls) (h8 : m ≤ 8) : ls.length ≤ 8 := by
  have := nodup_le (us := rgI 0 (m : Int)) h.nd fun z hz => by
    have h1 := h.lin z hz
    exact List.mem_of_getElem? (i := z.toNat) (rgI_get.mpr ⟨by omega, by omega⟩)
  rw [rgI_len] at this; omega
def leftAt : L2.St → Hp → Nat
  | [_, _, _, _, some (.ref lf), _, _], H => lenAt H lf
  | _, _ => 0
section
variable {P : Program} {w : World} {K : PySem.W.Frag} {mg : Str → Option Value} {base : Heap}
/-! ### _law_closed -/
theorem scClosed : FnScope ["_law_mirrors", "_law_pairs", "_law_found", "_law_a", "_law_b"] ["_law_mirrors", "_law_pairs"] (defScope sClosed) := ⟨rfl, rfl, rfl, by decide +kernel, rfl, by decide +kernel, by decide +kernel⟩
def spClosed (K : PySem.W.Frag) : Sp := fun vs H Q _ => ∃ (u l : Addr) (ns : List Int) (qs : List (List Int)), vs = [.ref u, .ref l] ∧ SqT K H u (ns.map V.int) ∧ LotsH H l qs ∧ Mir ns ∧ (∀ q ∈ qs, Pr (ns.length : Int) q) ∧ qs.length ≤ 1000 ∧
  ∀ (H' : Hp) (c : Addr) (ps : List (List Int)), Same H H' → H c = none → TupsH H' c ps → Stp ns ps → Q (.ref c) H'
theorem ok_closed {f : Addr} {fd : FuncData} (F : Fun K "_law_closed" "_law_closed" sClosed f fd) (B : Bare mg) : FnOk P w K mg base CX0 1 f fd ["_law_mirrors", "_law_pairs"] (spClosed K) := by
  refine F.ok scClosed (fun vs H Q E h => ?_) (fun cdv A outer s H vs Q E hr h => ?_)
  · obtain ⟨u, l, ns, qs, rfl, _⟩ := h
    rfl
  · obtain ⟨u, l, ns, qs, rfl, hU, hL, M, hpr, hlen, q⟩ := h
    have hu := hu_of hr
    have two : (2 : Nat) ≤ sizeLine := by decide
    refine ⟨_, pss_cons (ps_set (i := 2) scClosed.nd rfl (Or.inl rfl) pe_dnewT)
      (pss_cons (ps_for PassesOwn.never rfl (pi_list (pv 1)) (pg_tup rfl (pgs_cons (pg_name (i := 3) scClosed.nd rfl (Or.inl rfl)) (pgs_cons (pg_name (i := 4) scClosed.nd rfl (Or.inl rfl)) pgs_nil)))
        (pss_cons (ps_dput hu (pv 2) (pe_tup (pa_cons (pv 3) (pa_cons (pv 4) pa_nil))) pe_bl rfl)
        (pss_one (ps_dput hu (pv 2) (pe_tup (pa_cons (pe_ix ix_tup (pv 0) (pv 4) (fun _ _ => rfl)) (pa_cons (pe_ix ix_tup (pv 0) (pv 3) (fun _ _ => rfl)) pa_nil))) pe_bl rfl))))
      (pss_one (ps_ret (pe_tupleOf (by rfl) B.tuple (pe_callB (cr_sortedDT rfl) (by rfl) B.sorted (by decide +kernel) (pa_cons (pv 2) pa_nil)))))), ?_⟩
    intro d nd
    have sd := same_upd (o := .dT []) nd
    obtain ⟨ks, ek, hl, hks⟩ := hL
    have h8 := M.few
    have lks : ks.length = qs.length := by rw [← ek, List.length_map]
    refine ⟨.ref l, rfl, l, rfl, ⟨_, lstNew (sd _ _ hl)⟩, ?_⟩
    refine for_list (K := K) (a := l) (xs := ks.map fun p => V.ref p.1) (fun i σ H' => ∃ (kvs : List (List L2.Key × V)) (ps : List (List Int)) (y3 y4 : Option V), σ = [some (.ref u), some (.ref l), some (.ref d), y3, y4] ∧ Same H H' ∧ H' d = some (.dT kvs) ∧ kvs.map (·.1) = ps.map keyP ∧ Part ns ps)
      ⟨[], [], none, none, rfl, sd, upd_same, rfl, Part.nil ns⟩ (fun i σ H' _ h => ?_) (fun i x σ H' hx h => ?_) (fun σ H' h => ?_)
    · obtain ⟨_, _, _, _, _, s', _⟩ := h
      exact lstNew (s' _ _ hl)
    · obtain ⟨kvs, ps, y3, y4, rfl, s', ed, ek', P'⟩ := h
      obtain ⟨k, g, rfl⟩ := map_at hx
      have hk : k ∈ ks := List.mem_of_getElem? g
      obtain ⟨x, y, e, bx, by_⟩ := hpr k.2 (by rw [← ek]; exact List.mem_map_of_mem hk)
      have hkT : SqT K H' k.1 ([x, y].map V.int) := by rw [← e]; exact tupNew (s' _ _ (hks k hk))
      have hl64 := P'.len M
      have hkl : kvs.length ≤ 64 := by
        have z := congrArg List.length ek'
        rw [List.length_map, List.length_map] at z; omega
      refine ⟨k.1, _, rfl, hkT, rfl, _, _, rfl, _, _, rfl, rfl, ?_⟩
      refine ⟨.ref d, rfl, .int x, rfl, .int y, rfl, two, fun T2 nT2 => ?_⟩
      have sT2 := same_upd (o := .tup [.int x, .int y]) nT2
      have eT2 : (upd H' T2 (.tup [.int x, .int y])) T2 = some (.tup ((keyP [x, y]).map kV)) := upd_same
      refine ⟨d, _, rfl, DPut.t (sT2 _ _ ed) eT2 (few1 (by omega)), ?_⟩
      have ed2 : (upd (upd H' T2 (.tup [.int x, .int y])) d (.dT (putK kvs (keyP [x, y]) (.bl true)))) d = some (.dT (putK kvs (keyP [x, y]) (.bl true))) := upd_same
      have s2 : Same H (upd (upd H' T2 (.tup [.int x, .int y])) d (.dT (putK kvs (keyP [x, y]) (.bl true)))) := fun b o e => by rw [upd_ne (ne_of_none e nd)]; exact sT2 _ _ (s' b o e)
      have ek2 := put_keys (p := [x, y]) (v := .bl true) ek'
      have l2 : (putK kvs (keyP [x, y]) (.bl true)).length ≤ 65 := by
        have z := congrArg List.length ek2
        rw [List.length_map, List.length_map] at z
        have z2 : (addP ps [x, y]).length ≤ ps.length + 1 := by unfold addP; split <;> simp
        omega
      generalize upd (upd H' T2 (.tup [.int x, .int y])) d (.dT (putK kvs (keyP [x, y]) (.bl true))) = H2 at ed2 s2 ⊢
      generalize putK kvs (keyP [x, y]) (.bl true) = kvs2 at ed2 ek2 l2
      obtain ⟨mx, gx⟩ : ∃ m, ns[x.toNat]? = some m := ⟨_, List.getElem?_eq_getElem (by omega)⟩
      obtain ⟨my, gy⟩ : ∃ m, ns[y.toNat]? = some m := ⟨_, List.getElem?_eq_getElem (by omega)⟩
      have ax : atI (ns.map V.int) x = some (.int mx) := by
        have z : atI (ns.map V.int) ((x.toNat : Nat) : Int) = some (.int mx) := atI_nat (by rw [List.getElem?_map, gx]; rfl)
        rwa [Int.toNat_of_nonneg bx.1] at z
      have ay : atI (ns.map V.int) y = some (.int my) := by
        have z : atI (ns.map V.int) ((y.toNat : Nat) : Int) = some (.int my) := atI_nat (by rw [List.getElem?_map, gy]; rfl)
        rwa [Int.toNat_of_nonneg by_.1] at z
      refine ⟨.ref d, rfl, .ref u, rfl, .int y, rfl, u, _, _, _, rfl, rfl, sqT_same s2 hU, ay, .ref u, rfl, .int x, rfl, u, _, _, _, rfl, rfl, sqT_same s2 hU, ax, two, fun T3 nT3 => ?_⟩
      have sT3 := same_upd (o := .tup [.int my, .int mx]) nT3
      have eT3 : (upd H2 T3 (.tup [.int my, .int mx])) T3 = some (.tup ((keyP [my, mx]).map kV)) := upd_same
      refine ⟨d, _, rfl, DPut.t (sT3 _ _ ed2) eT3 (few1 (by omega)), ?_⟩
      refine ⟨_, addP (addP ps [x, y]) [my, mx], _, _, rfl, fun b o e => ?_, upd_same, put_keys ek2, Part.add M P' bx by_ gx gy⟩
      rw [upd_ne (ne_of_none e nd)]; exact sT3 _ _ (s2 b o e)
    · obtain ⟨kvs, ps, y3, y4, rfl, s', ed, ek', P'⟩ := h
      have hl64 := P'.len M
      have hkl : kvs.length ≤ 64 := by
        have z := congrArg List.length ek'
        rw [List.length_map, List.length_map] at z; omega
      refine ⟨.ref d, rfl, d, kvs, ps, rfl, .inl ed, ek', fun z hz => ?_, by omega, fun L c nc pm pw tu => .inl ⟨c, _, rfl, lstNew upd_same, fun e ne => ?_⟩⟩
      · obtain ⟨x, y, e, _⟩ := P'.pr z hz
        exact ⟨x, y, e⟩
      · have s3 := (same_upd (o := .lst (L.map fun a => V.ref a.1)) nc).trans (same_upd (o := .tup (L.map fun a => V.ref a.1)) ne)
        exact q _ e (L.map (·.2)) (s'.trans s3) ((s'.trans (same_upd (o := .lst (L.map fun a => V.ref a.1)) nc)).free ne) ⟨L, rfl, upd_same, fun k hk => s3 _ _ (tu k hk)⟩ (P'.stp M pm pw)
/-! ### _law_drawn_mirrors -/
theorem scDrawn : FnScope ["_law_pot", "_law_many", "_law_style", "_law_found", "_law_left", "_law_mark", "_law_other"] ["_law_pot", "_law_many", "_law_style"] (defScope sDrawn) := ⟨rfl, rfl, rfl, by decide +kernel, rfl, by decide +kernel, by decide +kernel⟩
def spDrawn (K : PySem.W.Frag) : Sp := fun vs H Q _ => ∃ (p : Addr) (t m : Nat) (st : Int), vs = [.ref p, .int (m : Int), .int st] ∧ PailAt H p t ∧ t ≤ 3000 ∧ 1 ≤ m ∧ m ≤ 8 ∧
  ∀ (H' : Hp) (u : Addr) (t' : Nat) (ns : List Int), PailAt H' p t' → t' ≤ t + 20 → But p H H' → SqT K H' u (ns.map V.int) → Mir ns → ns.length = m → Q (.ref u) H'
theorem ok_drawn {f fD : Addr} {fd fdD : FuncData} (F : Fun K "_law_drawn_mirrors" "_law_drawn_mirrors" sDrawn f fd) (DD : DefAt K mg "_law_take" sDraw ["_law_pot", "_law_many"] fD fdD) (B : Bare mg) : FnOk P w K mg base CX0 2 f fd ["_law_pot", "_law_many", "_law_style"] (spDrawn K) := by
  have GD : FnOk P w K mg base CX0 1 fD fdD ["_law_pot", "_law_many"] spDraw := ok_draw DD.fn
  refine F.ok scDrawn (fun vs H Q E h => ?_) (fun cdv A outer s H vs Q E hr h => ?_)
  · obtain ⟨p, t, m, st, rfl, _⟩ := h
    rfl
  · obtain ⟨p, t, m, st, rfl, hp, ht, m1, m8, q⟩ := h
    have two : (2 : Nat) ≤ sizeLine := by decide
    refine ⟨_, pss_cons (ps_par (i := 3) (j := 4) (by rfl) scDrawn.nd rfl rfl (by decide) rfl rfl (pa_cons (pe_listRg rfl (by rfl) B.list (prg_1 (by rfl) B.range (pv 1))) (pa_cons (pe_listRg rfl (by rfl) B.list (prg_1 (by rfl) B.range (pv 1))) pa_nil)) (by rfl))
      (pss_cons (ps_while PassesOwn.never (pt_cmpR op_gt (pe_callB call_len_seq (by rfl) B.len PySem.boot_len (pa_cons (pv 4) pa_nil)) pe_int (nomark _))
        (pss_cons (ps_set (i := 5) scDrawn.nd rfl (Or.inl rfl) (pe_bm PySem.F.plainAttrs_list PySem.F.slot_list_pop PySem.F.type_list_pop mt_popAt (pv 4) (pa_cons pe_int pa_nil)))
        (pss_one (ps_if (PW.pt (pw_or (pt_cmpR op_eq (pv 2) pe_int (nomark _)) (pw_or1 (PW.pt (pw_and (pt_cmpR op_gt (pv 2) pe_int (nomark _)) (pw_and1 (pt_cmpR op_eq (pe_call GD hr (by rfl) DD.mg DD.fn.kp DD.bi .nil pass0 (pa_cons (pv 0) (pa_cons pe_int pa_nil))) pe_int (nomark _))))))))
          (pss_cons (ps_set (i := 6) scDrawn.nd rfl (Or.inl rfl) (pe_bm PySem.F.plainAttrs_list PySem.F.slot_list_pop PySem.F.type_list_pop mt_popAt (pv 4) (pa_cons (pe_call GD hr (by rfl) DD.mg DD.fn.kp DD.bi .nil pass0 (pa_cons (pv 0) (pa_cons (pe_callB call_len_seq (by rfl) B.len PySem.boot_len (pa_cons (pv 4) pa_nil)) pa_nil))) pa_nil)))
          (pss_one (ps_asg (pe_tup (pa_cons (pv 6) (pa_cons (pv 5) pa_nil))) (pg_tup rfl (pgs_cons (pg_sub (pv 3) (pv 5) set_list) (pgs_cons (pg_sub (pv 3) (pv 6) set_list) pgs_nil)))))) pss_nil))))
      (pss_one (ps_ret (pe_tupleOf (by rfl) B.tuple (pv 3))))), ?_⟩
    refine ⟨.int (m : Int), rfl, (m : Int), rfl, RgOk.of_le (by omega) (by omega) (by omega) (by omega), fun b nb => ?_⟩
    refine ⟨.int (m : Int), rfl, (m : Int), rfl, RgOk.of_le (by omega) (by omega) (by omega) (by omega), fun a na' => ⟨.ref b, .ref a, rfl, ?_⟩⟩
    have hab : b ≠ a := ne_of_none upd_same na'
    have hbp : b ≠ p := pail_ne hp nb
    have hap : a ≠ p := pail_ne (pail_new hp nb) na'
    have na : H a = none := (same_upd nb).free na'
    have s0 := (same_upd (o := .lst (rgV 0 (m : Int))) nb).trans (same_upd (o := .lst (rgV 0 (m : Int))) na')
    refine while_by (fun σ H' => ∃ (y5 y6 : Option V) (t' : Nat) (fs ls : List Int), σ = [some (.ref p), some (.int (m : Int)), some (.int st), some (.ref b), some (.ref a), y5, y6] ∧ But p H H' ∧ PailAt H' p t' ∧ t' + 2 * ls.length ≤ t + 16 ∧ H' a = some (.lst (ls.map V.int)) ∧ H' b = some (.lst (fs.map V.int)) ∧ Half m fs ls)
      (fun σ H' => lenAt H' a) ?_ ?_ ?_
    · refine ⟨none, none, t, rgI 0 (m : Int), rgI 0 (m : Int), rfl, But.of s0, pail_same hp s0, by rw [rgI_len]; omega, ?_, ?_, half_start m⟩
      · rw [upd_same, rgV_rgI]
      · rw [upd_ne hab, upd_same, rgV_rgI]
    · rintro σ H2 ⟨y5, y6, t1, fs, ls, rfl, b2, hp2, ht1, ea2, eb2, hh⟩
      refine ⟨.ref a, rfl, a, _, rfl, .inl (lstNew ea2), _, _, rfl, rfl, _, rfl, ?_⟩
      have lt1 : lenAt H2 a = ls.length := by rw [lenAt_eq ea2, List.length_map]
      rw [List.length_map]
      refine ite2 (fun z => ?_) (fun z => ?_)
      · match ls, hh, ea2, lt1, ht1, z with
        | [], _, _, _, _, z => exact absurd z (by simp)
        | [x], _, _, _, _, z => exact absurd z (by simp)
        | x :: y0 :: l, hh, ea2, lt1, ht1, _ =>
        -- mark = left.pop(0)
        refine ⟨.ref a, rfl, .inl ⟨rfl, _, lstNew ea2⟩, a, _, 0, 0, .int x, rfl, rfl, ea2, by decide, by decide, by simp [seqIndex?]; omega, rfl, ?_⟩
        have ea3 : (upd H2 a (.lst (((x :: y0 :: l).map V.int).eraseIdx 0))) a = some (.lst ((y0 :: l).map V.int)) := upd_same
        have eb3 : (upd H2 a (.lst (((x :: y0 :: l).map V.int).eraseIdx 0))) b = some (.lst (fs.map V.int)) := by rw [upd_ne hab]; exact eb2
        have hp3 := pail_set (o := .lst (((x :: y0 :: l).map V.int).eraseIdx 0)) hp2 hap
        have b3 : But p H (upd H2 a (.lst (((x :: y0 :: l).map V.int).eraseIdx 0))) := fun k o e z => by rw [upd_ne (ne_of_none e na)]; exact b2 k o e z
        generalize upd H2 a (.lst (((x :: y0 :: l).map V.int).eraseIdx 0)) = H3 at ea3 eb3 hp3 b3 ⊢
        clear ea2 eb2 hp2 b2
        rw [List.length_cons, List.length_cons] at lt1 ht1
        have hxl := hh.lin x (List.mem_cons_self ..)
        have hl8 := half_len (half_drop hh) m8
        rw [List.length_cons] at hl8
        refine ⟨.int st, rfl, rfl, _, rfl, ite2 (fun _ => ?_) (fun _ => ?_)⟩
        · obtain ⟨t5, ht5⟩ : ∃ t5, t5 = t1 := ⟨_, rfl⟩
          have hp5 : PailAt H3 p t5 := by rw [ht5]; exact hp3
          have b5 := b3
          have ea5 := ea3
          have eb5 := eb3
          · refine ⟨.ref a, rfl, .inl ⟨rfl, _, lstNew ea5⟩, .ref p, rfl, .ref a, rfl, a, _, rfl, .inl (lstNew ea5), p, t5, _, rfl, hp5, by omega, by simp; omega, by simp; omega, fun r2 t6 H6 r20 r21 ht6 hp6 b6 => ?_⟩
            have ea6 := b6 _ _ ea5 hap
            have eb6 := b6 _ _ eb5 hbp
            rw [List.length_map, List.length_cons] at r21
            obtain ⟨y, hy⟩ : ∃ y, (y0 :: l)[r2.toNat]? = some y := ⟨_, List.getElem?_eq_getElem (by rw [List.length_cons]; omega)⟩
            refine ⟨a, _, r2, r2.toNat, .int y, rfl, rfl, ea6, by omega, by omega, ?_, by rw [List.getElem?_map, hy]; rfl, ?_⟩
            · rw [List.length_map]
              unfold seqIndex?
              simp only [if_neg (show ¬ r2 < 0 by omega)]
              rw [if_pos]
              simp only [Bool.and_eq_true, decide_eq_true_eq]
              exact ⟨r20, by rw [List.length_cons]; omega⟩
            have hyl := (half_drop hh).lin y (List.mem_of_getElem? hy)
            have hfl := hh.len
            have b06 : But p H H6 := b5.trans b6
            have ea7 : (upd H6 a (.lst (((y0 :: l).map V.int).eraseIdx r2.toNat))) a = some (.lst (((y0 :: l).eraseIdx r2.toNat).map V.int)) := by rw [upd_same, erase_map]
            have eb7 : (upd H6 a (.lst (((y0 :: l).map V.int).eraseIdx r2.toNat))) b = some (.lst (fs.map V.int)) := by rw [upd_ne hab]; exact eb6
            have hp7 := pail_set (o := .lst (((y0 :: l).map V.int).eraseIdx r2.toNat)) hp6 hap
            have b7 : But p H (upd H6 a (.lst (((y0 :: l).map V.int).eraseIdx r2.toNat))) := fun k o e z => by rw [upd_ne (ne_of_none e na)]; exact b06 k o e z
            generalize upd H6 a (.lst (((y0 :: l).map V.int).eraseIdx r2.toNat)) = H7 at ea7 eb7 hp7 b7 ⊢
            refine ⟨.int y, rfl, .int x, rfl, two, fun T nT => ?_⟩
            have sT := same_upd (o := .tup [.int y, .int x]) nT
            have eT : (upd H7 T (.tup [.int y, .int x])) T = some (.tup [.int y, .int x]) := upd_same
            refine ⟨T, _, rfl, tupNew eT, rfl, ?_⟩
            have ea8 := sT _ _ ea7
            have eb8 := sT _ _ eb7
            have hp8 := pail_same hp7 sT
            have b8 := b7.trans (But.of (p := p) sT)
            generalize upd H7 T (.tup [.int y, .int x]) = H8 at ea8 eb8 hp8 b8 ⊢
            refine ⟨_, _, rfl, .ref b, rfl, .int x, rfl, b, _, x, x.toNat, rfl, rfl, eb8, ix_at (by rw [List.length_map]; omega) hxl.1, ?_⟩
            refine ⟨_, _, rfl, .ref b, rfl, .int y, rfl, b, _, y, y.toNat, rfl, rfl, upd_same, ix_at (by rw [List.length_set, List.length_map]; omega) hyl.1, rfl, ?_⟩
            have hlen : ((y0 :: l).eraseIdx r2.toNat).length = l.length := by rw [List.length_eraseIdx_of_lt (by rw [List.length_cons]; omega)]; rfl
            refine ⟨⟨_, _, t6, (fs.set x.toNat y).set y.toNat x, (y0 :: l).eraseIdx r2.toNat, rfl, fun k o e z => ?_, pail_set (pail_set hp8 hbp) hbp, by rw [hlen]; omega, ?_, ?_, half_pair hh hy⟩, ?_⟩
            · rw [upd_ne (ne_of_none e nb), upd_ne (ne_of_none e nb)]; exact b8 k o e z
            · rw [upd_ne hab.symm, upd_ne hab.symm]; exact ea8
            · rw [upd_same, List.map_set, List.map_set]
            · rw [lenAt_eq (xs := ((y0 :: l).eraseIdx r2.toNat).map V.int) (by rw [upd_ne hab.symm, upd_ne hab.symm]; exact ea8), lt1, List.length_map, hlen]; omega
        · refine ⟨.int st, rfl, _, _, rfl, rfl, _, rfl, ite2 (fun _ => ?_) (fun _ => ?_)⟩
          · refine ⟨.ref p, rfl, p, t1, 2, rfl, hp3, by omega, by decide, by decide, fun r t5 H5 r0 r1 ht5 hp5 b5' => ⟨rfl, _, rfl, ite2 (fun _ => ?_) (fun _ => ?_)⟩⟩
            · have ea5 := b5' _ _ ea3 hap
              have eb5 := b5' _ _ eb3 hbp
              have b5 := b3.trans b5'
              · refine ⟨.ref a, rfl, .inl ⟨rfl, _, lstNew ea5⟩, .ref p, rfl, .ref a, rfl, a, _, rfl, .inl (lstNew ea5), p, t5, _, rfl, hp5, by omega, by simp; omega, by simp; omega, fun r2 t6 H6 r20 r21 ht6 hp6 b6 => ?_⟩
                have ea6 := b6 _ _ ea5 hap
                have eb6 := b6 _ _ eb5 hbp
                rw [List.length_map, List.length_cons] at r21
                obtain ⟨y, hy⟩ : ∃ y, (y0 :: l)[r2.toNat]? = some y := ⟨_, List.getElem?_eq_getElem (by rw [List.length_cons]; omega)⟩
                refine ⟨a, _, r2, r2.toNat, .int y, rfl, rfl, ea6, by omega, by omega, ?_, by rw [List.getElem?_map, hy]; rfl, ?_⟩
                · rw [List.length_map]
                  unfold seqIndex?
                  simp only [if_neg (show ¬ r2 < 0 by omega)]
                  rw [if_pos]
                  simp only [Bool.and_eq_true, decide_eq_true_eq]
                  exact ⟨r20, by rw [List.length_cons]; omega⟩
                have hyl := (half_drop hh).lin y (List.mem_of_getElem? hy)
                have hfl := hh.len
                have b06 : But p H H6 := b5.trans b6
                have ea7 : (upd H6 a (.lst (((y0 :: l).map V.int).eraseIdx r2.toNat))) a = some (.lst (((y0 :: l).eraseIdx r2.toNat).map V.int)) := by rw [upd_same, erase_map]
                have eb7 : (upd H6 a (.lst (((y0 :: l).map V.int).eraseIdx r2.toNat))) b = some (.lst (fs.map V.int)) := by rw [upd_ne hab]; exact eb6
                have hp7 := pail_set (o := .lst (((y0 :: l).map V.int).eraseIdx r2.toNat)) hp6 hap
                have b7 : But p H (upd H6 a (.lst (((y0 :: l).map V.int).eraseIdx r2.toNat))) := fun k o e z => by rw [upd_ne (ne_of_none e na)]; exact b06 k o e z
                generalize upd H6 a (.lst (((y0 :: l).map V.int).eraseIdx r2.toNat)) = H7 at ea7 eb7 hp7 b7 ⊢
                refine ⟨.int y, rfl, .int x, rfl, two, fun T nT => ?_⟩
                have sT := same_upd (o := .tup [.int y, .int x]) nT
                have eT : (upd H7 T (.tup [.int y, .int x])) T = some (.tup [.int y, .int x]) := upd_same
                refine ⟨T, _, rfl, tupNew eT, rfl, ?_⟩
                have ea8 := sT _ _ ea7
                have eb8 := sT _ _ eb7
                have hp8 := pail_same hp7 sT
                have b8 := b7.trans (But.of (p := p) sT)
                generalize upd H7 T (.tup [.int y, .int x]) = H8 at ea8 eb8 hp8 b8 ⊢
                refine ⟨_, _, rfl, .ref b, rfl, .int x, rfl, b, _, x, x.toNat, rfl, rfl, eb8, ix_at (by rw [List.length_map]; omega) hxl.1, ?_⟩
                refine ⟨_, _, rfl, .ref b, rfl, .int y, rfl, b, _, y, y.toNat, rfl, rfl, upd_same, ix_at (by rw [List.length_set, List.length_map]; omega) hyl.1, rfl, ?_⟩
                have hlen : ((y0 :: l).eraseIdx r2.toNat).length = l.length := by rw [List.length_eraseIdx_of_lt (by rw [List.length_cons]; omega)]; rfl
                refine ⟨⟨_, _, t6, (fs.set x.toNat y).set y.toNat x, (y0 :: l).eraseIdx r2.toNat, rfl, fun k o e z => ?_, pail_set (pail_set hp8 hbp) hbp, by rw [hlen]; omega, ?_, ?_, half_pair hh hy⟩, ?_⟩
                · rw [upd_ne (ne_of_none e nb), upd_ne (ne_of_none e nb)]; exact b8 k o e z
                · rw [upd_ne hab.symm, upd_ne hab.symm]; exact ea8
                · rw [upd_same, List.map_set, List.map_set]
                · rw [lenAt_eq (xs := ((y0 :: l).eraseIdx r2.toNat).map V.int) (by rw [upd_ne hab.symm, upd_ne hab.symm]; exact ea8), lt1, List.length_map, hlen]; omega
            · refine ⟨⟨_, _, t5, fs, y0 :: l, rfl, b3.trans b5', hp5, by rw [List.length_cons]; omega, b5' _ _ ea3 hap, b5' _ _ eb3 hbp, half_drop hh⟩, ?_⟩
              rw [lenAt_eq (b5' _ _ ea3 hap), lt1, List.length_map, List.length_cons]; omega
          · refine ⟨⟨_, _, t1, fs, y0 :: l, rfl, b3, hp3, by rw [List.length_cons]; omega, ea3, eb3, half_drop hh⟩, ?_⟩
            rw [lenAt_eq ea3, lt1, List.length_map, List.length_cons]; omega
      · have hh3 : Half m fs [] := half_sub hh List.nodup_nil (by simp)
        refine ⟨.ref b, rfl, .inl ⟨b, _, rfl, lstNew eb2, fun u nu => ?_⟩⟩
        exact q _ u t1 fs (pail_new hp2 nu) (by omega) (b2.trans (But.of (same_upd nu))) (tupNew upd_same) (half_mir hh3 m1 m8) hh3.len
    · intro σ H1 Q1 Q2 hq h
      obtain ⟨v, e, a', xs', h1, h2, n1, n2, h3, h4, k, h5, h6⟩ := h
      exact ⟨v, e, a', xs', h1, h2, n1, n2, h3, h4, k, h5, hq _ _ h6⟩
end
end K75
set_option maxHeartbeats 4000000
namespace K75
open PySem PySem.Spec PyProof.Rows L2 RV
def Kd (wh : Int) (v : V) : Prop := v = .non ∨ ∃ n : Int, v = .int n ∧ 0 ≤ n ∧ n < wh
section
variable {P : Program} {w : World} {K : PySem.W.Frag} {mg : Str → Option Value} {base : Heap}
/-! ### _law_kinds -/
theorem scKinds : FnScope ["_law_pot", "_law_mirrors", "_law_wheel", "_law_kind", "_law_found", "_law_mark", "_law_other", "_law_some", "_law_n"] ["_law_pot", "_law_mirrors", "_law_wheel", "_law_kind"] (defScope sKinds) := ⟨rfl, rfl, rfl, by decide +kernel, rfl, by decide +kernel, by decide +kernel⟩
def spKinds (K : PySem.W.Frag) : Sp := fun vs H Q _ => ∃ (p u : Addr) (t : Nat) (wh : Nat) (kd : Int) (ns : List Int), vs = [.ref p, .ref u, .int (wh : Int), .int kd] ∧ PailAt H p t ∧ t ≤ 3500 ∧ SqT K H u (ns.map V.int) ∧ Mir ns ∧ 1 ≤ wh ∧ wh ≤ 100 ∧ 0 ≤ kd ∧ kd < (wh : Int) ∧
  ∀ (H' : Hp) (L : Addr) (t' : Nat) (xs : List V), PailAt H' p t' → t' ≤ t + 8 → But p H H' → H L = none → H' L = some (.lst xs) → xs.length = ns.length → (∀ v ∈ xs, Kd (wh : Int) v) → Q (.ref L) H'
theorem ok_kinds {f fO fD : Addr} {fd fdO fdD : FuncData} (F : Fun K "_law_kinds" "_law_kinds" sKinds f fd) (DO : DefAt K mg "_law_of" sOf ["_law_pot", "_law_some"] fO fdO) (DD : DefAt K mg "_law_take" sDraw ["_law_pot", "_law_many"] fD fdD) (B : Bare mg) : FnOk P w K mg base CX0 3 f fd ["_law_pot", "_law_mirrors", "_law_wheel", "_law_kind"] (spKinds K) := by
  have GO : FnOk P w K mg base CX0 2 fO fdO ["_law_pot", "_law_some"] (spOf K) := ok_of DO.fn DD B
  refine F.ok scKinds (fun vs H Q E h => ?_) (fun cdv A outer s H vs Q E hr h => ?_)
  · obtain ⟨p, u, t, wh, kd, ns, rfl, _⟩ := h
    rfl
  · obtain ⟨p, u, t, wh, kd, ns, rfl, hp, ht, hU, M, w1, w2, k1, k2, q⟩ := h
    have two : (2 : Nat) ≤ sizeLine := by decide
    have one : (1 : Nat) ≤ sizeLine := by decide
    refine ⟨_, pss_cons (ps_set (i := 4) scKinds.nd rfl (Or.inl rfl) (pe_op op_rep (pe_lst (pa_cons pe_non pa_nil)) (pe_callB call_len_seq (by rfl) B.len PySem.boot_len (pa_cons (pv 1) pa_nil))))
      (pss_cons (ps_for PassesOwn.never rfl (pi_enT (by rfl) B.enumerate (pa_cons (pv 1) pa_nil)) (pg_tup rfl (pgs_cons (pg_name (i := 5) scKinds.nd rfl (Or.inr rfl)) (pgs_cons (pg_name (i := 6) scKinds.nd rfl (Or.inr rfl)) pgs_nil)))
        (pss_cons (ps_setLc (i := 7) (own := [("_law_n", 8)]) (g := gName 8) rfl scKinds.nd rfl rfl (by rfl) (pi_range1 (by rfl) B.range (pa_cons (pv 2) pa_nil)) (blkOk_by (N := ["_law_pot", "_law_mirrors", "_law_wheel", "_law_kind", "_law_found", "_law_mark", "_law_other", "_law_some", "_law_n"]) (sc := defScope sKinds) (by decide +kernel))
            (fun _ _ _ _ _ => pg_name (i := 8) scKinds.nd rfl (Or.inl rfl))
            (fun _ _ _ _ _ => pts_one (PW.pt (pw_or (pt_cmpR op_ne (pv 5) (pv 6) (nomark _)) (pw_or1 (pt_cmpR op_eq (pe_op op_mod (pe_op op_sub (pe_op op_mul pe_int (pv 8)) (pv 3)) (pv 2)) pe_int (nomark _))))))
            (fun _ _ _ _ _ => pv 8))
        (pss_one (ps_if (PW.pt (pw_and (pt_cmpR op_isN (pe_ix ix_list (pv 4) (pv 5) (fun _ _ => rfl)) pe_non (nomark _)) (pw_and1 (pt_cmpR (op_neD hr.units) (pv 7) (pe_lst pa_nil) (nomark _)))))
          (pss_cons (ps_asg (pe_call GO hr (by rfl) DO.mg DO.fn.kp DO.bi .nil pass0 (pa_cons (pv 0) (pa_cons (pv 7) pa_nil))) (pg_sub (pv 4) (pv 5) set_list))
          (pss_one (ps_asg (pe_op op_mod (pe_op op_sub (pv 3) (pe_ix ix_list (pv 4) (pv 5) (fun _ _ => rfl))) (pv 2)) (pg_sub (pv 4) (pv 6) set_list)))) pss_nil))))
      (pss_one (ps_ret (pv 4)))), ?_⟩
    have m8 := M.few
    have lm : (ns.map V.int).length = ns.length := List.length_map ..
    refine ⟨one, fun N nN => ?_⟩
    have sN := same_upd (o := .lst [.non]) nN
    refine ⟨.ref u, rfl, u, _, rfl, .inr (sqT_same sN hU), N, _, _, rfl, rfl, upd_same, by omega, by omega, ?_, fun L nL => ?_⟩
    · rw [lm, Int.toNat_natCast]; exact Nat.le_trans (by simp; omega) (show 8 ≤ sizeLine by decide)
    rw [lm, Int.toNat_natCast]
    have eR : (List.replicate ns.length [V.non]).flatten = List.replicate ns.length V.non := by
      generalize ns.length = n
      induction n with
      | zero => rfl
      | succ n ih => rw [List.replicate_succ, List.flatten_cons, ih]; rfl
    rw [eR]
    have sL := sN.trans (same_upd (o := .lst (List.replicate ns.length V.non)) nL)
    have nLH : H L = none := sN.free nL
    have hLp : L ≠ p := pail_ne (pail_same hp sN) nL
    have eL0 : (upd (upd H N (.lst [.non])) L (.lst (List.replicate ns.length V.non))) L = some (.lst (List.replicate ns.length V.non)) := upd_same
    have hp0 := pail_same hp sL
    generalize upd (upd H N (.lst [.non])) L (.lst (List.replicate ns.length V.non)) = H0 at sL eL0 hp0 ⊢
    refine ⟨.ref u, rfl, u, _, rfl, sqT_same sL hU, ?_⟩
    refine for_it (walk_enT (K := K) (a := u) (xs := ns.map V.int)) (fun i σ H' => ∃ (y5 y6 y7 y8 : Option V) (t' : Nat) (xs : List V), σ = [some (.ref p), some (.ref u), some (.int (wh : Int)), some (.int kd), some (.ref L), y5, y6, y7, y8] ∧ But p H H' ∧ PailAt H' p t' ∧ t' ≤ t + i ∧ H' L = some (.lst xs) ∧ xs.length = ns.length ∧ ∀ v ∈ xs, Kd (wh : Int) v)
      ⟨none, none, none, none, t, _, rfl, But.of sL, hp0, by omega, eL0, List.length_replicate, fun v hv => .inl (List.eq_of_mem_replicate hv)⟩ (fun i σ H' _ h => ?_) (fun i x σ H1 H2 hx h y => ?_) (fun σ H' h => ?_)
    · obtain ⟨_, _, _, _, _, _, _, b', _⟩ := h
      exact sqT_pail hp b' hU
    · obtain ⟨y5, y6, y7, y8, t1, xs, rfl, b1, hp1, ht1, eL, hxl, hK⟩ := h
      obtain ⟨T0, x1, x2, rfl, nT, rfl, e1, e2⟩ := y
      have e1' : x1 = .int (i : Nat) := (Option.some.inj e1).symm
      subst e1'
      obtain ⟨mk, g, rfl⟩ := map_at e2
      have sT := same_upd (o := .tup [.int (i : Nat), .int mk]) nT
      refine ⟨T0, _, rfl, tupNew upd_same, rfl, _, _, rfl, _, _, rfl, rfl, ?_⟩
      have b2 := b1.trans (But.of (p := p) sT)
      have hp2 := pail_same hp1 sT
      have eL2 := sT _ _ eL
      generalize upd H1 T0 (.tup [.int (i : Nat), .int mk]) = H2 at b2 hp2 eL2 ⊢
      have hin : i < ns.length := (List.getElem?_eq_some_iff.mp g).1
      have hmk := M.inn mk (List.mem_of_getElem? g)
      refine ⟨.int (wh : Int), rfl, (wh : Int), rfl, by omega, by omega, fun D nD => ?_⟩
      rw [Int.toNat_natCast]
      refine lc_filtR (f := fun n => !decide (V.int (i : Nat) = V.int mk) || decide (V.int ((2 * n - kd) % (wh : Int)) = V.int 0)) (by omega) nD (fun z z0 z1 H3 s3 A B h => ?_) (fun z H' Q h => ⟨.int z, rfl, h⟩) fun H3 s3 eD => ?_
      · refine ⟨.int (i : Nat), rfl, .int mk, rfl, rfl, _, rfl, ?_⟩
        have hh := h H3 (Same.refl _)
        cases e1 : decide (V.int (i : Nat) = V.int mk) with
        | false =>
          rw [e1] at hh
          exact iteT hh
        | true =>
          rw [e1] at hh
          refine iteF ⟨.int z, rfl, 2, z, rfl, rfl, .inl ⟨by decide, by decide⟩, .int kd, rfl, _, kd, rfl, rfl, .int (wh : Int), rfl, _, _, rfl, rfl, (show (0 : Int) < wh by omega), rfl, _, rfl, ?_⟩
          exact hh
      have hsm : ∀ z ∈ (upN wh).filter (fun n => !decide (V.int (i : Nat) = V.int mk) || decide (V.int ((2 * n - kd) % (wh : Int)) = V.int 0)), 0 ≤ z ∧ z < (wh : Int) := fun z hz => by
        have := mem_upN.mp (List.mem_filter.mp hz).1
        omega
      have hsl : ((upN wh).filter (fun n => !decide (V.int (i : Nat) = V.int mk) || decide (V.int ((2 * n - kd) % (wh : Int)) = V.int 0))).length ≤ 100 := Nat.le_trans (List.length_filter_le _ _) (by rw [upN_len]; omega)
      generalize (upN wh).filter (fun n => !decide (V.int (i : Nat) = V.int mk) || decide (V.int ((2 * n - kd) % (wh : Int)) = V.int 0)) = zs at eD hsm hsl
      have hDp : D ≠ p := pail_ne hp2 nD
      have hDL : D ≠ L := (ne_of_none eL2 nD).symm
      have b3 := b2.trans (But.of (p := p) s3)
      have hp3 := pail_same hp2 s3
      have eL3 := s3 _ _ eL2
      obtain ⟨v, hv⟩ : ∃ v, xs[i]? = some v := ⟨_, List.getElem?_eq_getElem (by omega)⟩
      have av : atI xs ((i : Nat) : Int) = some v := atI_nat hv
      have ends : ∀ (H' : Hp) (t' : Nat) (ys : List V) (σ' : L2.St), (∃ y5 y6 y7 y8 : Option V, σ' = [some (.ref p), some (.ref u), some (.int (wh : Int)), some (.int kd), some (.ref L), y5, y6, y7, y8]) → But p H H' → PailAt H' p t' → t' ≤ t1 + 1 → H' L = some (.lst ys) → ys.length = ns.length → (∀ v ∈ ys, Kd (wh : Int) v) → ∃ (y5 y6 y7 y8 : Option V) (t' : Nat) (xs : List V), σ' = [some (.ref p), some (.ref u), some (.int (wh : Int)), some (.int kd), some (.ref L), y5, y6, y7, y8] ∧ But p H H' ∧ PailAt H' p t' ∧ t' ≤ t + (i + 1) ∧ H' L = some (.lst xs) ∧ xs.length = ns.length ∧ ∀ v ∈ xs, Kd (wh : Int) v := fun H' t' ys σ' ⟨y5, y6, y7, y8, e⟩ h1 h2 h3 h4 h5 h6 => ⟨y5, y6, y7, y8, t', ys, e, h1, h2, by omega, h4, h5, h6⟩
      refine ⟨.ref L, rfl, .int (i : Nat), rfl, L, _, _, v, rfl, rfl, lstNew eL3, av, rfl, _, rfl, ?_⟩
      refine ite2 (fun hv0 => ?_) (fun _ => ?_)
      · refine ⟨.ref D, rfl, Nat.zero_le _, fun c nc => ?_⟩
        have sc := same_upd (o := .lst []) nc
        have b4 := b3.trans (But.of (p := p) sc)
        have hp4 := pail_same hp3 sc
        have eL4 := sc _ _ eL3
        have eD4 := sc _ _ eD
        have ec : (upd H3 c (.lst [])) c = some (.lst []) := upd_same
        refine ⟨.list (zs.map PyData.int), .list (([] : List Int).map PyData.int), .lst (lstNew eD4) (dpInts zs), .lst (lstNew ec) .nil, shapedL zs, shapedL [], _, rfl, ?_⟩
        rw [eqvL]
        generalize upd H3 c (.lst []) = H4 at b4 hp4 eL4 eD4 ⊢
        cases zs with
        | nil =>
          rw [decide_eq_true rfl]
          exact iteF (ends _ t1 xs _ ⟨_, _, _, _, rfl⟩ b4 hp4 (by omega) eL4 hxl hK)
        | cons z0 zs =>
          rw [decide_eq_false (by simp)]
          refine iteT ?_
          refine ⟨.ref p, rfl, .ref D, rfl, p, D, t1, _, rfl, hp4, by omega, lstNew eD4, hDp, by simp, by rw [List.length_map]; omega, fun j v t5 H5 hj ht5 hp5 b5 => ?_⟩
          obtain ⟨z, hz, rfl⟩ := map_at hj
          have hz1 := hsm z (List.mem_of_getElem? hz)
          have eL5 := b5 _ _ eL4 hLp
          have b05 := b4.trans b5
          refine ⟨.ref L, rfl, .int (i : Nat), rfl, L, _, (i : Int), i, rfl, rfl, eL5, ix_at (by omega) (by omega), ?_⟩
          have eL6 : (upd H5 L (.lst (xs.set i (.int z)))) L = some (.lst (xs.set i (.int z))) := upd_same
          have b6 : But p H (upd H5 L (.lst (xs.set i (.int z)))) := fun k o e n => by rw [upd_ne (ne_of_none e nLH)]; exact b05 k o e n
          have hp6 := pail_set (o := .lst (xs.set i (.int z))) hp5 hLp
          generalize upd H5 L (.lst (xs.set i (.int z))) = H6 at eL6 b6 hp6 ⊢
          have az : atI (xs.set i (.int z)) ((i : Nat) : Int) = some (.int z) := atI_nat (by rw [List.getElem?_set_self (by omega)])
          refine ⟨.int kd, rfl, .ref L, rfl, .int (i : Nat), rfl, L, _, _, _, rfl, rfl, lstNew eL6, az, kd, z, rfl, rfl, .int (wh : Int), rfl, _, _, rfl, rfl, (show (0 : Int) < wh by omega), ?_⟩
          refine ⟨.ref L, rfl, .int mk, rfl, L, _, mk, mk.toNat, rfl, rfl, eL6, ix_at (by rw [List.length_set]; omega) hmk.1, ?_⟩
          refine ends _ t5 ((xs.set i (.int z)).set mk.toNat (.int ((kd - z) % (wh : Int)))) _ ⟨_, _, _, _, rfl⟩ (fun k o e n => by rw [upd_ne (ne_of_none e nLH)]; exact b6 k o e n) (pail_set hp6 hLp) ht5 upd_same (by rw [List.length_set, List.length_set]; exact hxl) fun v hv => ?_
          rcases List.mem_or_eq_of_mem_set hv with hv | rfl
          · rcases List.mem_or_eq_of_mem_set hv with hv | rfl
            · exact hK v hv
            · exact .inr ⟨z, rfl, hz1⟩
          · exact .inr ⟨_, rfl, Int.emod_nonneg _ (by omega), Int.emod_lt_of_pos _ (by omega)⟩
      · exact iteF (ends _ t1 xs _ ⟨_, _, _, _, rfl⟩ b3 hp3 (by omega) eL3 hxl hK)
    · obtain ⟨y5, y6, y7, y8, t1, xs, rfl, b1, hp1, ht1, eL, hxl, hK⟩ := h
      exact ⟨.ref L, rfl, q _ L t1 xs hp1 (by rw [lm] at ht1; omega) b1 nLH eL hxl hK⟩
end
end K75
set_option maxHeartbeats 4000000
namespace K75
open PySem PySem.Spec PyProof.Rows L2 RV
/-- a list of at most n pairs of marks -/
def PairsH (m : Int) (H : Hp) (L : Addr) (n : Nat) : Prop := ∃ qs : List (List Int), LotsH H L qs ∧ (∀ q ∈ qs, Pr m q) ∧ qs.length ≤ n
theorem PairsH.nil {m : Int} {H : Hp} {L : Addr} (e : H L = some (.lst [])) : PairsH m H L 0 := ⟨[], ⟨[], rfl, e, fun _ z => nomatch z⟩, fun _ z => (nomatch z), Nat.le_refl _⟩
theorem PairsH.le {m : Int} {H : Hp} {L : Addr} {n k : Nat} (h : PairsH m H L n) (e : n ≤ k) : PairsH m H L k := let ⟨qs, h1, h2, h3⟩ := h; ⟨qs, h1, h2, Nat.le_trans h3 e⟩
theorem PairsH.same {m : Int} {H H' : Hp} {L : Addr} {n : Nat} (h : PairsH m H L n) (s : Same H H') : PairsH m H' L n := let ⟨qs, h1, h2, h3⟩ := h; ⟨qs, h1.same s, h2, h3⟩
theorem PairsH.but {m : Int} {H H' : Hp} {L p : Addr} {n t : Nat} (h : PairsH m H L n) (hp : PailAt H p t) (b : But p H H') (hn : L ≠ p) : PairsH m H' L n := by
  obtain ⟨qs, ⟨ks, h1, h2, h3⟩, h4, h5⟩ := h
  obtain ⟨x, y, e, _⟩ := hp
  exact ⟨qs, ⟨ks, h1, b _ _ h2 hn, fun k hk => b _ _ (h3 k hk) fun z => by have w := h3 k hk; rw [z, e] at w; cases w⟩, h4, h5⟩
theorem PairsH.lst {m : Int} {H : Hp} {L : Addr} {n : Nat} (h : PairsH m H L n) : ∃ vs : List V, H L = some (.lst vs) ∧ vs.length ≤ n := by
  obtain ⟨qs, ⟨ks, h1, h2, h3⟩, h4, h5⟩ := h
  exact ⟨_, h2, by rw [List.length_map, ← List.length_map (f := fun p : Addr × List Int => p.2), h1]; exact h5⟩
theorem PairsH.add {m : Int} {H : Hp} {L T : Addr} {n : Nat} {x y : Int} {vs : List V} (h : PairsH m H L n) (e : H L = some (.lst vs)) (nT : H T = none) (hx : 0 ≤ x ∧ x < m) (hy : 0 ≤ y ∧ y < m) : PairsH m (upd (upd H T (.tup [.int x, .int y])) L (.lst (vs ++ [.ref T]))) L (n + 1) := by
  obtain ⟨qs, ⟨ks, h1, h2, h3⟩, h4, h5⟩ := h
  have sT := same_upd (o := .tup [.int x, .int y]) nT
  have ev : vs = ks.map fun p => V.ref p.1 := by rw [e] at h2; cases h2; rfl
  subst ev
  refine ⟨qs ++ [[x, y]], ⟨ks ++ [(T, [x, y])], by rw [List.map_append, h1]; rfl, by rw [upd_same, List.map_append]; rfl, fun k hk => ?_⟩, fun q hq => ?_, by rw [List.length_append]; simp; omega⟩
  · rcases List.mem_append.mp hk with hk | hk
    · rw [upd_ne (fun z => by have w := h3 k hk; rw [z, e] at w; cases w)]; exact sT _ _ (h3 k hk)
    · rw [List.mem_singleton.mp hk, upd_ne (ne_of_none e nT).symm]; exact upd_same
  · rcases List.mem_append.mp hq with hq | hq
    · exact h4 q hq
    · rw [List.mem_singleton.mp hq]; exact ⟨x, y, rfl, hx, hy⟩
theorem but_free {p a : Addr} {H H' : Hp} {t : Nat} (b : But p H H') (hp : PailAt H' p t) (n : H' a = none) : H a = none := by
  cases e : H a with
  | none => rfl
  | some o =>
    have z := b a o e (pail_ne hp n)
    rw [n] at z; cases z
section
variable {P : Program} {w : World} {K : PySem.W.Frag} {mg : Str → Option Value} {base : Heap}
/-! ### _law_wheel_pairs -/
theorem scWheel : FnScope ["_law_pot", "_law_mirrors", "_law_wheel", "_law_kind", "_law_thick", "_law_numbers", "_law_found", "_law_placed", "_law_a", "_law_b", "_law_mark"] ["_law_pot", "_law_mirrors", "_law_wheel", "_law_kind", "_law_thick"] (defScope sWheel) := ⟨rfl, rfl, rfl, by decide +kernel, rfl, by decide +kernel, by decide +kernel⟩
def spWheel (K : PySem.W.Frag) : Sp := fun vs H Q _ => ∃ (p u : Addr) (t : Nat) (wh : Nat) (kd th : Int) (ns : List Int), vs = [.ref p, .ref u, .int (wh : Int), .int kd, .int th] ∧ PailAt H p t ∧ t ≤ 3400 ∧ SqT K H u (ns.map V.int) ∧ Mir ns ∧ 1 ≤ wh ∧ wh ≤ 100 ∧ 0 ≤ kd ∧ kd < (wh : Int) ∧
  ∀ (H' : Hp) (L : Addr) (t' : Nat), PailAt H' p t' → t' ≤ t + 80 → But p H H' → H L = none → PairsH (ns.length : Int) H' L 64 → Q (.ref L) H'
theorem ok_wheel {f fK fO fD : Addr} {fd fdK fdO fdD : FuncData} (F : Fun K "_law_wheel_pairs" "_law_wheel_pairs" sWheel f fd) (DK : DefAt K mg "_law_kinds" sKinds ["_law_pot", "_law_mirrors", "_law_wheel", "_law_kind"] fK fdK) (DO : DefAt K mg "_law_of" sOf ["_law_pot", "_law_some"] fO fdO) (DD : DefAt K mg "_law_take" sDraw ["_law_pot", "_law_many"] fD fdD) (B : Bare mg) : FnOk P w K mg base CX0 4 f fd ["_law_pot", "_law_mirrors", "_law_wheel", "_law_kind", "_law_thick"] (spWheel K) := by
  have GD : FnOk P w K mg base CX0 1 fD fdD ["_law_pot", "_law_many"] spDraw := ok_draw DD.fn
  have GK : FnOk P w K mg base CX0 3 fK fdK ["_law_pot", "_law_mirrors", "_law_wheel", "_law_kind"] (spKinds K) := ok_kinds DK.fn DO DD B
  refine F.ok scWheel (fun vs H Q E h => ?_) (fun cdv A outer s H vs Q E hr h => ?_)
  · obtain ⟨p, u, t, wh, kd, th, ns, rfl, _⟩ := h
    rfl
  · obtain ⟨p, u, t, wh, kd, th, ns, rfl, hp, ht, hU, M, w1, w2, k1, k2, q⟩ := h
    have two : (2 : Nat) ≤ sizeLine := by decide
    refine ⟨_, pss_cons (ps_asg (pe_tup (pa_cons (pe_call GK hr (by rfl) DK.mg DK.fn.kp DK.bi .nil pass0 (pa_cons (pv 0) (pa_cons (pv 1) (pa_cons (pv 2) (pa_cons (pv 3) pa_nil))))) (pa_cons (pe_lst pa_nil) pa_nil))) (pg_tup rfl (pgs_cons (pg_name (i := 5) scWheel.nd rfl (Or.inr rfl)) (pgs_cons (pg_name (i := 6) scWheel.nd rfl (Or.inl rfl)) pgs_nil))))
      (pss_cons (ps_setLc (i := 7) (own := [("_law_mark", 10)]) (g := gName 10) rfl scWheel.nd rfl rfl (by rfl) (pi_range1 (by rfl) B.range (pa_cons (pe_callB call_len_seq (by rfl) B.len PySem.boot_len (pa_cons (pv 1) pa_nil)) pa_nil)) (blkOk_by (N := ["_law_pot", "_law_mirrors", "_law_wheel", "_law_kind", "_law_thick", "_law_numbers", "_law_found", "_law_placed", "_law_a", "_law_b", "_law_mark"]) (sc := defScope sWheel) (by decide +kernel))
            (fun _ _ _ _ _ => pg_name (i := 10) scWheel.nd rfl (Or.inl rfl))
            (fun _ _ _ _ _ => pts_one (pt_cmpR op_notN (pe_ix (ix_listK (K := K) rfl) (pv 5) (pv 10) (fun _ _ => rfl)) pe_non (nomark _)))
            (fun _ _ _ _ _ => pv 10))
      (pss_cons (ps_for PassesOwn.never rfl (pi_list (pv 7)) (pg_name (i := 8) scWheel.nd rfl (Or.inl rfl))
        (pss_one (ps_for PassesOwn.never rfl (pi_list (pv 7)) (pg_name (i := 9) scWheel.nd rfl (Or.inl rfl))
          (pss_one (ps_if (PW.pt (pw_and (pt_cmpR op_eq (pe_op op_mod (pe_op op_sub (pe_op op_sub (pe_ix ix_list (pv 5) (pv 9) (fun _ _ => rfl)) (pe_ix ix_list (pv 5) (pv 8) (fun _ _ => rfl))) pe_int) (pv 2)) pe_int (nomark _)) (pw_and1 (pt_cmpR op_lt (pe_call GD (hr.mono (by omega)) (by rfl) DD.mg DD.fn.kp DD.bi .nil pass0 (pa_cons (pv 0) (pa_cons pe_int pa_nil))) (pv 4) (nomark _)))))
            (pss_one (ps_expr (pe_bm PySem.F.plainAttrs_list PySem.F.slot_list_append PySem.F.type_list_append mt_append (pv 6) (pa_cons (pe_tup (pa_cons (pv 8) (pa_cons (pv 9) pa_nil))) pa_nil)))) pss_nil)))))
      (pss_one (ps_ret (pv 6))))), ?_⟩
    have m8 := M.few
    have lm : (ns.map V.int).length = ns.length := List.length_map ..
    refine ⟨.ref p, rfl, .ref u, rfl, .int (wh : Int), rfl, .int kd, rfl, p, u, t, wh, kd, ns, rfl, hp, by omega, hU, M, w1, w2, k1, k2, fun H1 N t1 xs hp1 ht1 b1 nN eN hxl hK => ⟨Nat.zero_le _, fun F0 nF' => ⟨two, fun U nU => ?_⟩⟩⟩
    have sF := same_upd (o := .lst []) nF'
    have sU := same_upd (o := .tup [.ref N, .ref F0]) nU
    have eF0 := sU _ _ (upd_same (H := H1) (a := F0) (o := .lst []))
    refine ⟨U, _, rfl, tupNew upd_same, rfl, _, _, rfl, _, _, rfl, rfl, ?_⟩
    have nFH : H F0 = none := but_free b1 hp1 nF'
    have hFp : F0 ≠ p := pail_ne hp1 nF'
    have hNp : N ≠ p := pail_ne hp nN
    have b2 := b1.trans (But.of (p := p) (sF.trans sU))
    have hp2 := pail_same hp1 (sF.trans sU)
    have eN2 := sU _ _ (sF _ _ eN)
    generalize upd (upd H1 F0 (.lst [])) U (.tup [.ref N, .ref F0]) = H2 at b2 hp2 eN2 eF0 ⊢
    refine ⟨.ref u, rfl, u, _, rfl, .inr (sqT_pail hp b2 hU), (ns.length : Int), by rw [lm], by omega, by omega, fun D nD => ?_⟩
    rw [Int.toNat_natCast]
    refine lc_filtR (f := fun z => !decide (xs.getD z.toNat .non = .non)) (by omega) nD (fun z z0 z1 H3 s3 A B h => ?_) (fun z H' Q h => ⟨.int z, rfl, h⟩) fun H3 s3 eD => ?_
    · obtain ⟨v, hv⟩ : ∃ v, xs[z.toNat]? = some v := ⟨_, List.getElem?_eq_getElem (by omega)⟩
      have av : atI xs ((z.toNat : Nat) : Int) = some v := atI_nat hv
      rw [Int.toNat_of_nonneg z0] at av
      refine ⟨.ref N, rfl, .int z, rfl, N, _, _, v, rfl, rfl, lstNew (s3 _ _ eN2), av, rfl, _, rfl, ?_⟩
      have hh := h H3 (Same.refl _)
      rw [show xs.getD z.toNat V.non = v by rw [List.getD_eq_getElem?_getD, hv]; rfl] at hh
      exact hh
    have hsm : ∀ z ∈ (upN ns.length).filter (fun z => !decide (xs.getD z.toNat .non = .non)), (0 ≤ z ∧ z < (ns.length : Int)) ∧ ∃ n : Int, atI xs z = some (.int n) := fun z hz => by
      have h1 := List.mem_filter.mp hz
      have h2 := mem_upN.mp h1.1
      refine ⟨h2, ?_⟩
      obtain ⟨v, hv⟩ : ∃ v, xs[z.toNat]? = some v := ⟨_, List.getElem?_eq_getElem (by omega)⟩
      have h3 := h1.2
      rw [show xs.getD z.toNat V.non = v by rw [List.getD_eq_getElem?_getD, hv]; rfl] at h3
      have av : atI xs ((z.toNat : Nat) : Int) = some v := atI_nat hv
      rw [Int.toNat_of_nonneg h2.1] at av
      rcases hK v (List.mem_of_getElem? hv) with rfl | ⟨n, rfl, _⟩
      · simp at h3
      · exact ⟨n, av⟩
    have hsl : ((upN ns.length).filter (fun z => !decide (xs.getD z.toNat .non = .non))).length ≤ 8 := Nat.le_trans (List.length_filter_le _ _) (by rw [upN_len]; omega)
    generalize (upN ns.length).filter (fun z => !decide (xs.getD z.toNat .non = .non)) = zs at eD hsm hsl
    have lz : (zs.map V.int).length = zs.length := List.length_map ..
    have hDp : D ≠ p := pail_ne hp2 nD
    have hDF : D ≠ F0 := (ne_of_none eF0 nD).symm
    have hNF : N ≠ F0 := ne_of_none eN nF'
    have b3 := b2.trans (But.of (p := p) s3)
    have hp3 := pail_same hp2 s3
    have eN3 := s3 _ _ eN2
    have eF3 := s3 _ _ eF0
    refine ⟨.ref D, rfl, D, rfl, ⟨_, lstNew eD⟩, ?_⟩
    refine for_list (K := K) (a := D) (xs := zs.map V.int) (fun i σ H' => ∃ (y8 y9 y10 : Option V) (t' : Nat), σ = [some (.ref p), some (.ref u), some (.int (wh : Int)), some (.int kd), some (.int th), some (.ref N), some (.ref F0), some (.ref D), y8, y9, y10] ∧ But p H H' ∧ PailAt H' p t' ∧ t' ≤ t + 8 + 8 * i ∧ PairsH (ns.length : Int) H' F0 (8 * i) ∧ H' N = some (.lst xs) ∧ H' D = some (.lst (zs.map V.int)))
      ⟨none, none, none, t1, rfl, b3, hp3, by omega, PairsH.nil eF3, eN3, eD⟩ (fun i σ H' _ h => ?_) (fun i x σ H4 hx h => ?_) (fun σ H' h => ?_)
    · obtain ⟨_, _, _, _, _, _, _, _, _, _, e⟩ := h
      exact lstNew e
    · obtain ⟨y8, y9, y10, t4, rfl, b4, hp4, ht4, hF4, eN4, eD4⟩ := h
      obtain ⟨xa, ga, rfl⟩ := map_at hx
      have hi : i < zs.length := (List.getElem?_eq_some_iff.mp ga).1
      obtain ⟨ha, na, ea⟩ := hsm xa (List.mem_of_getElem? ga)
      refine ⟨.ref D, rfl, D, rfl, ⟨_, lstNew eD4⟩, ?_⟩
      refine for_list (K := K) (a := D) (xs := zs.map V.int) (fun j σ H' => ∃ (y9 y10 : Option V) (t' : Nat), σ = [some (.ref p), some (.ref u), some (.int (wh : Int)), some (.int kd), some (.int th), some (.ref N), some (.ref F0), some (.ref D), some (.int xa), y9, y10] ∧ But p H H' ∧ PailAt H' p t' ∧ t' ≤ t + 8 + 8 * i + j ∧ PairsH (ns.length : Int) H' F0 (8 * i + j) ∧ H' N = some (.lst xs) ∧ H' D = some (.lst (zs.map V.int)))
        ⟨_, _, t4, rfl, b4, hp4, by omega, hF4, eN4, eD4⟩ (fun j σ H' _ h => ?_) (fun j x σ H5 hx5 h => ?_) (fun σ H' h => ?_)
      · obtain ⟨_, _, _, _, _, _, _, _, _, e⟩ := h
        exact lstNew e
      · obtain ⟨y9, y10, t5, rfl, b5, hp5, ht5, hF5, eN5, eD5⟩ := h
        obtain ⟨xb, gb, rfl⟩ := map_at hx5
        have hj : j < zs.length := (List.getElem?_eq_some_iff.mp gb).1
        obtain ⟨hb, nb, eb⟩ := hsm xb (List.mem_of_getElem? gb)
        refine ⟨.ref N, rfl, .int xb, rfl, N, _, _, _, rfl, rfl, lstNew eN5, eb, .ref N, rfl, .int xa, rfl, N, _, _, _, rfl, rfl, lstNew eN5, ea, _, _, rfl, rfl, _, _, rfl, rfl, .int (wh : Int), rfl, _, _, rfl, rfl, (show (0 : Int) < wh by omega), rfl, _, rfl, ite2 (fun _ => ?_) (fun _ => ?_)⟩
        · refine ⟨.ref p, rfl, p, t5, 8, rfl, hp5, by omega, by decide, by decide, fun r t6 H6 r0 r1 ht6 hp6 b6 => ⟨.int th, rfl, _, _, rfl, rfl, _, rfl, ite2 (fun _ => ?_) (fun _ => ?_)⟩⟩
          · have hF6 := hF5.but hp5 b6 hFp
            have eN6 := b6 _ _ eN5 hNp
            have eD6 := b6 _ _ eD5 hDp
            have b06 := b5.trans b6
            obtain ⟨vs, eF6, hvl⟩ := hF6.lst
            refine ⟨.ref F0, rfl, .inl ⟨rfl, _, lstNew eF6⟩, .int xa, rfl, .int xb, rfl, two, fun T nT => ?_⟩
            have sT := same_upd (o := .tup [.int xa, .int xb]) nT
            refine ⟨F0, _, _, rfl, rfl, sT _ _ eF6, few1 (by omega), _, _, t6, rfl, fun k o e n => ?_, pail_set (pail_same hp6 sT) hFp, by omega, hF6.add eF6 nT ha hb, ?_, ?_⟩
            · rw [upd_ne (ne_of_none e nFH)]; exact sT _ _ (b06 k o e n)
            · rw [upd_ne hNF]; exact sT _ _ eN6
            · rw [upd_ne hDF]; exact sT _ _ eD6
          · exact ⟨_, _, t6, rfl, b5.trans b6, hp6, by omega, (hF5.but hp5 b6 hFp).le (by omega), b6 _ _ eN5 hNp, b6 _ _ eD5 hDp⟩
        · exact iteF ⟨_, _, t5, rfl, b5, hp5, by omega, hF5.le (by omega), eN5, eD5⟩
      · obtain ⟨y9, y10, t5, rfl, b5, hp5, ht5, hF5, eN5, eD5⟩ := h
        rw [lz] at ht5 hF5
        exact ⟨_, _, _, t5, rfl, b5, hp5, by omega, hF5.le (by omega), eN5, eD5⟩
    · obtain ⟨y8, y9, y10, t4, rfl, b4, hp4, ht4, hF4, eN4, eD4⟩ := h
      rw [lz] at ht4 hF4
      exact ⟨.ref F0, rfl, q _ F0 t4 hp4 (by omega) b4 nFH (hF4.le (by omega))⟩
end
end K75
set_option maxHeartbeats 4000000
namespace K75
open PySem PySem.Spec PyProof.Rows L2 RV
section
variable {P : Program} {w : World} {K : PySem.W.Frag} {mg : Str → Option Value} {base : Heap}
/-! ### _law_side_pairs -/
theorem scSide : FnScope ["_law_pot", "_law_mirrors", "_law_thick", "_law_found", "_law_a", "_law_b", "_law_side", "_law_other"] ["_law_pot", "_law_mirrors", "_law_thick"] (defScope sSide) := ⟨rfl, rfl, rfl, by decide +kernel, rfl, by decide +kernel, by decide +kernel⟩
def spSide (K : PySem.W.Frag) : Sp := fun vs H Q _ => ∃ (p u : Addr) (t : Nat) (th : Int) (ns : List Int), vs = [.ref p, .ref u, .int th] ∧ PailAt H p t ∧ t ≤ 3400 ∧ SqT K H u (ns.map V.int) ∧ Mir ns ∧
  ∀ (H' : Hp) (L : Addr) (t' : Nat), PailAt H' p t' → t' ≤ t + 128 → But p H H' → H L = none → PairsH (ns.length : Int) H' L 64 → Q (.ref L) H'
theorem ok_side {f fD : Addr} {fd fdD : FuncData} (F : Fun K "_law_side_pairs" "_law_side_pairs" sSide f fd) (DD : DefAt K mg "_law_take" sDraw ["_law_pot", "_law_many"] fD fdD) (B : Bare mg) : FnOk P w K mg base CX0 2 f fd ["_law_pot", "_law_mirrors", "_law_thick"] (spSide K) := by
  have GD : FnOk P w K mg base CX0 1 fD fdD ["_law_pot", "_law_many"] spDraw := ok_draw DD.fn
  refine F.ok scSide (fun vs H Q E h => ?_) (fun cdv A outer s H vs Q E hr h => ?_)
  · obtain ⟨p, u, t, th, ns, rfl, _⟩ := h
    rfl
  · obtain ⟨p, u, t, th, ns, rfl, hp, ht, hU, M, q⟩ := h
    have two : (2 : Nat) ≤ sizeLine := by decide
    refine ⟨_, pss_cons (ps_set (i := 3) scSide.nd rfl (Or.inl rfl) (pe_lst pa_nil))
      (pss_cons (ps_for PassesOwn.never rfl (pi_range1 (by rfl) B.range (pa_cons (pe_callB call_len_seq (by rfl) B.len PySem.boot_len (pa_cons (pv 1) pa_nil)) pa_nil)) (pg_name (i := 4) scSide.nd rfl (Or.inl rfl))
        (pss_one (ps_for PassesOwn.never rfl (pi_range1 (by rfl) B.range (pa_cons (pe_callB call_len_seq (by rfl) B.len PySem.boot_len (pa_cons (pv 1) pa_nil)) pa_nil)) (pg_name (i := 5) scSide.nd rfl (Or.inl rfl))
          (pss_cons (ps_par (i := 6) (j := 7) (by rfl) scSide.nd rfl rfl (by decide) rfl rfl (pa_cons (pe_callTy call_int1 (by rfl) B.int boot_int (pa_cons (pe_cmpR op_gt (pv 4) (pe_ix ix_tup (pv 1) (pv 4) (fun _ _ => rfl)) (nomark _)) pa_nil)) (pa_cons (pe_callTy call_int1 (by rfl) B.int boot_int (pa_cons (pe_cmpR op_gt (pv 5) (pe_ix ix_tup (pv 1) (pv 5) (fun _ _ => rfl)) (nomark _)) pa_nil)) pa_nil)) (by rfl))
          (pss_one (ps_if (PW.pt (pw_or (PW.pt (pw_and (pt_cmpR op_eq (pv 6) (pv 7) (nomark _)) (pw_and1 (pt_cmpR op_lt (pe_call GD hr (by rfl) DD.mg DD.fn.kp DD.bi .nil pass0 (pa_cons (pv 0) (pa_cons pe_int pa_nil))) (pv 2) (nomark _)))))
              (pw_or1 (PW.pt (pw_and (pt_cmpR op_lt (pv 6) (pv 7) (nomark _)) (pw_and1 (pt_cmpR op_eq (pe_call GD hr (by rfl) DD.mg DD.fn.kp DD.bi .nil pass0 (pa_cons (pv 0) (pa_cons pe_int pa_nil))) pe_int (nomark _))))))))
            (pss_one (ps_expr (pe_bm PySem.F.plainAttrs_list PySem.F.slot_list_append PySem.F.type_list_append mt_append (pv 3) (pa_cons (pe_tup (pa_cons (pv 4) (pa_cons (pv 5) pa_nil))) pa_nil)))) pss_nil))))))
      (pss_one (ps_ret (pv 3)))), ?_⟩
    have m8 := M.few
    have lm : (ns.map V.int).length = ns.length := List.length_map ..
    refine ⟨Nat.zero_le _, fun F0 nF => ?_⟩
    have sF := same_upd (o := .lst []) nF
    have hFp : F0 ≠ p := pail_ne hp nF
    have eF0 : (upd H F0 (.lst [])) F0 = some (.lst []) := upd_same
    have hp0 := pail_same hp sF
    generalize upd H F0 (.lst []) = H0 at sF eF0 hp0 ⊢
    refine ⟨.ref u, rfl, u, _, rfl, .inr (sqT_same sF hU), (ns.length : Int), by rw [lm], by omega, by omega, ?_⟩
    rw [Int.toNat_natCast]
    have at_ : ∀ i : Nat, i < ns.length → ∃ m : Int, atI (ns.map V.int) ((i : Nat) : Int) = some (.int m) := fun i hi => ⟨ns[i], atI_nat (by rw [List.getElem?_map, List.getElem?_eq_getElem hi]; rfl)⟩
    refine for_range (lo := 0) (n := _) (fun i σ H' => ∃ (y4 y5 y6 y7 : Option V) (t' : Nat), σ = [some (.ref p), some (.ref u), some (.int th), some (.ref F0), y4, y5, y6, y7] ∧ But p H H' ∧ PailAt H' p t' ∧ t' ≤ t + 16 * i ∧ PairsH (ns.length : Int) H' F0 (8 * i))
      ⟨none, none, none, none, t, rfl, But.of sF, hp0, by omega, PairsH.nil eF0⟩ ?_ ?_
    · rintro i σ H4 hi ⟨y4, y5, y6, y7, t4, rfl, b4, hp4, ht4, hF4⟩
      have e0 : (0 + ((i : Nat) : Int)) = (i : Int) := by omega
      rw [e0]
      obtain ⟨ma, ea⟩ := at_ i hi
      refine ⟨.ref u, rfl, u, _, rfl, .inr (sqT_pail hp b4 hU), (ns.length : Int), by rw [lm], by omega, by omega, ?_⟩
      rw [Int.toNat_natCast]
      refine for_range (lo := 0) (n := _) (fun j σ H' => ∃ (y5 y6 y7 : Option V) (t' : Nat), σ = [some (.ref p), some (.ref u), some (.int th), some (.ref F0), some (.int (i : Int)), y5, y6, y7] ∧ But p H H' ∧ PailAt H' p t' ∧ t' ≤ t + 16 * i + 2 * j ∧ PairsH (ns.length : Int) H' F0 (8 * i + j))
        ⟨_, _, _, t4, rfl, b4, hp4, by omega, hF4⟩ ?_ ?_
      · rintro j σ H5 hj ⟨y5, y6, y7, t5, rfl, b5, hp5, ht5, hF5⟩
        have e0 : (0 + ((j : Nat) : Int)) = (j : Int) := by omega
        rw [e0]
        obtain ⟨mb, eb⟩ := at_ j hj
        have hU5 := sqT_pail hp b5 hU
        have keep : ∀ (H6 : Hp) (t6 : Nat) (σ' : L2.St), (∃ y6 y7 : Option V, σ' = [some (.ref p), some (.ref u), some (.int th), some (.ref F0), some (.int (i : Int)), some (.int (j : Int)), y6, y7]) → But p H5 H6 → PailAt H6 p t6 → t6 ≤ t5 + 2 → ∃ (y5 y6 y7 : Option V) (t' : Nat), σ' = [some (.ref p), some (.ref u), some (.int th), some (.ref F0), some (.int (i : Int)), y5, y6, y7] ∧ But p H H6 ∧ PailAt H6 p t' ∧ t' ≤ t + 16 * i + 2 * (j + 1) ∧ PairsH (ns.length : Int) H6 F0 (8 * i + (j + 1)) := fun H6 t6 σ' ⟨y6, y7, e⟩ b6 hp6 ht6 => ⟨_, y6, y7, t6, e, b5.trans b6, hp6, by omega, (hF5.but hp5 b6 hFp).le (by omega)⟩
        have add : ∀ (H6 : Hp) (t6 : Nat) (σ' : L2.St), (∃ y6 y7 : Option V, σ' = [some (.ref p), some (.ref u), some (.int th), some (.ref F0), some (.int (i : Int)), some (.int (j : Int)), y6, y7]) → But p H5 H6 → PailAt H6 p t6 → t6 ≤ t5 + 2 → ∃ vs : List V, H6 F0 = some (.lst vs) ∧ vs.length ≤ 64 ∧ ∀ T, H6 T = none → ∃ (y5 y6 y7 : Option V) (t' : Nat), σ' = [some (.ref p), some (.ref u), some (.int th), some (.ref F0), some (.int (i : Int)), y5, y6, y7] ∧ But p H (upd (upd H6 T (.tup [.int (i : Int), .int (j : Int)])) F0 (.lst (vs ++ [.ref T]))) ∧ PailAt (upd (upd H6 T (.tup [.int (i : Int), .int (j : Int)])) F0 (.lst (vs ++ [.ref T]))) p t' ∧ t' ≤ t + 16 * i + 2 * (j + 1) ∧ PairsH (ns.length : Int) (upd (upd H6 T (.tup [.int (i : Int), .int (j : Int)])) F0 (.lst (vs ++ [.ref T]))) F0 (8 * i + (j + 1)) := fun H6 t6 σ' ⟨y6, y7, e⟩ b6 hp6 ht6 => by
          have hF6 := hF5.but hp5 b6 hFp
          obtain ⟨vs, eF6, hvl⟩ := hF6.lst
          refine ⟨vs, eF6, by omega, fun T nT => ?_⟩
          have sT := same_upd (o := .tup [.int (i : Int), .int (j : Int)]) nT
          refine ⟨_, y6, y7, t6, e, fun k o e n => ?_, pail_set (pail_same hp6 sT) hFp, by omega, hF6.add eF6 nT (by omega) (by omega)⟩
          rw [upd_ne (ne_of_none e nF)]; exact sT _ _ ((b5.trans b6) k o e n)
        refine ⟨.int (i : Int), rfl, .ref u, rfl, .int (i : Int), rfl, u, _, _, _, rfl, rfl, hU5, ea, _, _, rfl, rfl, .inr ⟨_, rfl, .int (j : Int), rfl, .ref u, rfl, .int (j : Int), rfl, u, _, _, _, rfl, rfl, hU5, eb, _, _, rfl, rfl, .inr ⟨_, rfl, _, _, rfl, ?_⟩⟩⟩
        refine ⟨_, rfl, _, rfl, rfl, _, rfl, ite2 (fun _ => ?_) (fun _ => ?_)⟩
        · refine ⟨.ref p, rfl, p, t5, 8, rfl, hp5, by omega, by decide, by decide, fun r t6 H6 r0 r1 ht6 hp6 b6 => ⟨.int th, rfl, _, _, rfl, rfl, _, rfl, ite2 (fun _ => iteT ?_) (fun _ => ?_)⟩⟩
          · obtain ⟨vs, eF6, hvl, z⟩ := add _ t6 _ ⟨_, _, rfl⟩ b6 hp6 (by omega)
            exact ⟨.ref F0, rfl, .inl ⟨rfl, _, lstNew eF6⟩, .int (i : Int), rfl, .int (j : Int), rfl, two, fun T nT => ⟨F0, _, _, rfl, rfl, same_upd nT _ _ eF6, few1 (by omega), z T nT⟩⟩
          · refine ⟨_, rfl, _, rfl, _, _, rfl, rfl, _, rfl, ite2 (fun _ => ?_) (fun _ => ?_)⟩
            · refine ⟨.ref p, rfl, p, t6, 6, rfl, hp6, by omega, by decide, by decide, fun r2 t7 H7 r20 r21 ht7 hp7 b7 => ⟨rfl, _, rfl, ite2 (fun _ => ?_) (fun _ => ?_)⟩⟩
              · obtain ⟨vs, eF6, hvl, z⟩ := add _ t7 _ ⟨_, _, rfl⟩ (b6.trans b7) hp7 (by omega)
                exact ⟨.ref F0, rfl, .inl ⟨rfl, _, lstNew eF6⟩, .int (i : Int), rfl, .int (j : Int), rfl, two, fun T nT => ⟨F0, _, _, rfl, rfl, same_upd nT _ _ eF6, few1 (by omega), z T nT⟩⟩
              · exact keep _ t7 _ ⟨_, _, rfl⟩ (b6.trans b7) hp7 (by omega)
            · exact iteF (keep _ t6 _ ⟨_, _, rfl⟩ b6 hp6 (by omega))
        · refine iteF ?_
          refine ⟨_, rfl, _, rfl, _, _, rfl, rfl, _, rfl, ite2 (fun _ => ?_) (fun _ => ?_)⟩
          · refine ⟨.ref p, rfl, p, t5, 6, rfl, hp5, by omega, by decide, by decide, fun r2 t7 H7 r20 r21 ht7 hp7 b7 => ⟨rfl, _, rfl, ite2 (fun _ => ?_) (fun _ => ?_)⟩⟩
            · obtain ⟨vs, eF6, hvl, z⟩ := add _ t7 _ ⟨_, _, rfl⟩ ((But.refl p H5).trans b7) hp7 (by omega)
              exact ⟨.ref F0, rfl, .inl ⟨rfl, _, lstNew eF6⟩, .int (i : Int), rfl, .int (j : Int), rfl, two, fun T nT => ⟨F0, _, _, rfl, rfl, same_upd nT _ _ eF6, few1 (by omega), z T nT⟩⟩
            · exact keep _ t7 _ ⟨_, _, rfl⟩ ((But.refl p H5).trans b7) hp7 (by omega)
          · exact iteF (keep _ t5 _ ⟨_, _, rfl⟩ (But.refl p H5) hp5 (by omega))
      · rintro σ H5 ⟨y5, y6, y7, t5, rfl, b5, hp5, ht5, hF5⟩
        exact ⟨_, _, _, _, t5, rfl, b5, hp5, by omega, hF5.le (by omega)⟩
    · rintro σ H4 ⟨y4, y5, y6, y7, t4, rfl, b4, hp4, ht4, hF4⟩
      exact ⟨.ref F0, rfl, q _ F0 t4 hp4 (by omega) b4 nF (hF4.le (by omega))⟩
end
end K75
set_option maxHeartbeats 4000000
namespace K75
open PySem PySem.Spec PyProof.Rows L2 RV
/-- mirrors and steps as one pair -/
def OwnH (K : PySem.W.Frag) (H : Hp) (R : Addr) (ns : List Int) (ps : List (List Int)) : Prop := ∃ u c : Addr, H R = some (.tup [.ref u, .ref c]) ∧ SqT K H u (ns.map V.int) ∧ TupsH H c ps ∧ Mir ns ∧ Stp ns ps
theorem sqT_lst {K : PySem.W.Frag} {H : Hp} {D : Addr} {vs : List V} {o' : HO} (e : H D = some (.lst vs)) {a : Addr} {xs : List V} (h : SqT K H a xs) : SqT K (upd H D o') a xs := by
  rcases h with (h | ⟨o, h⟩) | h
  · exact .inl (.inl (by rw [upd_ne (fun z => by rw [z, e] at h; cases h)]; exact h))
  · exact .inl (.inr ⟨o, by rw [upd_ne (fun z => by rw [z, e] at h; cases h)]; exact h⟩)
  · exact .inr h
section
variable {P : Program} {w : World} {K : PySem.W.Frag} {mg : Str → Option Value} {base : Heap}
/-! ### _law_rule -/
theorem scRule : FnScope ["_law_pot", "_law_most", "_law_style", "_law_thick", "_law_many", "_law_mirrors", "_law_wheel", "_law_pairs", "_law_often", "_law_k"] ["_law_pot", "_law_most"] (defScope sRule) := ⟨rfl, rfl, rfl, by decide +kernel, rfl, by decide +kernel, by decide +kernel⟩
def spRule (K : PySem.W.Frag) : Sp := fun vs H Q _ => ∃ (p : Addr) (t m : Nat), vs = [.ref p, .int (m : Int)] ∧ PailAt H p t ∧ t ≤ 2500 ∧ 1 ≤ m ∧ m ≤ 8 ∧
  ∀ (H' : Hp) (R : Addr) (t' : Nat) (ns : List Int) (ps : List (List Int)), PailAt H' p t' → t' ≤ t + 200 → But p H H' → OwnH K H' R ns ps → Q (.ref R) H'
theorem ok_rule {f fM fW fS fC fK fO fD : Addr} {fd fdM fdW fdS fdC fdK fdO fdD : FuncData} (F : Fun K "_law_rule" "_law_rule" sRule f fd) (DM : DefAt K mg "_law_drawn_mirrors" sDrawn ["_law_pot", "_law_many", "_law_style"] fM fdM) (DW : DefAt K mg "_law_wheel_pairs" sWheel ["_law_pot", "_law_mirrors", "_law_wheel", "_law_kind", "_law_thick"] fW fdW) (DS : DefAt K mg "_law_side_pairs" sSide ["_law_pot", "_law_mirrors", "_law_thick"] fS fdS) (DC : DefAt K mg "_law_closed" sClosed ["_law_mirrors", "_law_pairs"] fC fdC)
    (DK : DefAt K mg "_law_kinds" sKinds ["_law_pot", "_law_mirrors", "_law_wheel", "_law_kind"] fK fdK) (DO : DefAt K mg "_law_of" sOf ["_law_pot", "_law_some"] fO fdO) (DD : DefAt K mg "_law_take" sDraw ["_law_pot", "_law_many"] fD fdD) (B : Bare mg) : FnOk P w K mg base CX0 5 f fd ["_law_pot", "_law_most"] (spRule K) := by
  have GD : FnOk P w K mg base CX0 1 fD fdD ["_law_pot", "_law_many"] spDraw := ok_draw DD.fn
  have GM : FnOk P w K mg base CX0 2 fM fdM ["_law_pot", "_law_many", "_law_style"] (spDrawn K) := ok_drawn DM.fn DD B
  have GW : FnOk P w K mg base CX0 4 fW fdW ["_law_pot", "_law_mirrors", "_law_wheel", "_law_kind", "_law_thick"] (spWheel K) := ok_wheel DW.fn DK DO DD B
  have GS : FnOk P w K mg base CX0 2 fS fdS ["_law_pot", "_law_mirrors", "_law_thick"] (spSide K) := ok_side DS.fn DD B
  have GC : FnOk P w K mg base CX0 1 fC fdC ["_law_mirrors", "_law_pairs"] (spClosed K) := ok_closed DC.fn B
  refine F.ok scRule (fun vs H Q E h => ?_) (fun cdv A outer s H vs Q E hr h => ?_)
  · obtain ⟨p, t, m, rfl, _⟩ := h
    rfl
  · obtain ⟨p, t, m, rfl, hp, ht, m1, m8, q⟩ := h
    have hu := un65 hr
    have two : (2 : Nat) ≤ sizeLine := by decide
    have r1 := hr.mono (show 1 ≤ 4 by omega)
    have r2 := hr.mono (show 2 ≤ 4 by omega)
    refine ⟨_, pss_cons (ps_par (i := 2) (j := 3) (by rfl) scRule.nd rfl rfl (by decide) rfl rfl (pa_cons (pe_call GD r1 (by rfl) DD.mg DD.fn.kp DD.bi .nil pass0 (pa_cons (pv 0) (pa_cons pe_int pa_nil))) (pa_cons (pe_op op_add pe_int (pe_call GD r1 (by rfl) DD.mg DD.fn.kp DD.bi .nil pass0 (pa_cons (pv 0) (pa_cons pe_int pa_nil)))) pa_nil)) (by rfl))
      (pss_cons (ps_set (i := 4) scRule.nd rfl (Or.inr rfl) (pe_op op_add pe_int (pe_call GD r1 (by rfl) DD.mg DD.fn.kp DD.bi .nil pass0 (pa_cons (pv 0) (pa_cons (pv 1) pa_nil)))))
      (pss_cons (ps_set (i := 5) scRule.nd rfl (Or.inl rfl) (pe_call GM r2 (by rfl) DM.mg DM.fn.kp DM.bi .nil pass0 (pa_cons (pv 0) (pa_cons (pv 4) (pa_cons (pe_ix ix_list (pe_lst (pa_cons pe_int (pa_cons pe_int (pa_cons pe_int (pa_cons pe_int (pa_cons pe_int (pa_cons pe_int pa_nil))))))) (pv 2) (fun _ _ => rfl)) pa_nil)))))
      (pss_cons (ps_if (pt_cmpR (op_inTI hu) (pv 2) (pe_tup (pa_cons pe_int (pa_cons pe_int pa_nil))) (by rfl))
        (pss_cons (ps_set (i := 6) scRule.nd rfl (Or.inl rfl) (pe_op op_add pe_int (pe_call GD r1 (by rfl) DD.mg DD.fn.kp DD.bi .nil pass0 (pa_cons (pv 0) (pa_cons pe_int pa_nil)))))
        (pss_one (ps_set (i := 7) scRule.nd rfl (Or.inl rfl) (pe_call GW hr (by rfl) DW.mg DW.fn.kp DW.bi .nil pass0 (pa_cons (pv 0) (pa_cons (pv 5) (pa_cons (pv 6) (pa_cons (pe_call GD r1 (by rfl) DD.mg DD.fn.kp DD.bi .nil pass0 (pa_cons (pv 0) (pa_cons (pv 6) pa_nil))) (pa_cons (pe_op op_add (pv 3) pe_int) pa_nil)))))))))
        (pss_one (ps_if (pt_cmpR op_eq (pv 2) pe_int (nomark _))
          (pss_one (ps_set (i := 7) scRule.nd rfl (Or.inl rfl) (pe_call GS r2 (by rfl) DS.mg DS.fn.kp DS.bi .nil pass0 (pa_cons (pv 0) (pa_cons (pv 5) (pa_cons (pv 3) pa_nil))))))
          (pss_cons (ps_set (i := 8) scRule.nd rfl (Or.inr rfl) (pe_ix ix_list (pe_lst (pa_cons (pv 3) (pa_cons pe_int (pa_cons pe_int (pa_cons (pe_op op_sub (pv 3) pe_int) (pa_cons pe_int pa_nil)))))) (pv 2) (fun _ _ => rfl)))
          (pss_one (ps_setLc (i := 7) (own := [("_law_k", 9)]) (g := gName 9) rfl scRule.nd rfl rfl (by rfl) (pi_range1 (by rfl) B.range (pa_cons (pe_op op_mul (pv 4) (pv 4)) pa_nil)) (blkOk_by (N := ["_law_pot", "_law_most", "_law_style", "_law_thick", "_law_many", "_law_mirrors", "_law_wheel", "_law_pairs", "_law_often", "_law_k"]) (sc := defScope sRule) (by decide +kernel))
            (fun _ _ _ _ _ => pg_name (i := 9) scRule.nd rfl (Or.inl rfl))
            (fun _ _ _ _ _ => pts_one (pt_cmpR op_lt (pe_call GD r1 (by rfl) DD.mg DD.fn.kp DD.bi .nil pass0 (pa_cons (pv 0) (pa_cons pe_int pa_nil))) (pv 8) (nomark _)))
            (fun _ _ _ _ _ => pe_tup (pa_cons (pe_op op_fdiv (pv 9) (pv 4)) (pa_cons (pe_op op_mod (pv 9) (pv 4)) pa_nil)))))))))
      (pss_one (ps_ret (pe_tup (pa_cons (pv 5) (pa_cons (pe_call GC r1 (by rfl) DC.mg DC.fn.kp DC.bi .nil pass0 (pa_cons (pv 5) (pa_cons (pv 7) pa_nil))) pa_nil)))))))), ?_⟩
    refine ⟨.ref p, rfl, p, t, 6, rfl, hp, by omega, by decide, by decide, fun st t1 H1 st0 st1 ht1 hp1 b1 => ?_⟩
    refine ⟨.ref p, rfl, p, t1, 5, rfl, hp1, by omega, by decide, by decide, fun th t2 H2 th0 th1 ht2 hp2 b2 => ⟨_, _, rfl, rfl, _, _, rfl, ?_⟩⟩
    refine ⟨.ref p, rfl, .int (m : Int), rfl, p, t2, (m : Int), rfl, hp2, by omega, by omega, by omega, fun mm t3 H3 mm0 mm1 ht3 hp3 b3 => ⟨_, _, rfl, rfl, ?_⟩⟩
    obtain ⟨n, en⟩ : ∃ n : Nat, 1 + mm = (n : Int) := ⟨(1 + mm).toNat, by omega⟩
    show gName 4 (V.int (1 + mm)) _ _ _
    rw [en]
    have six : (6 : Nat) ≤ sizeLine := by decide
    obtain ⟨sv, hsv⟩ : ∃ sv : Int, atI [V.int 2, V.int 2, V.int 1, V.int 0, V.int 2, V.int 3] st = some (.int sv) := by
      have h6 : st = 0 ∨ st = 1 ∨ st = 2 ∨ st = 3 ∨ st = 4 ∨ st = 5 := by omega
      rcases h6 with e | e | e | e | e | e <;> rw [e] <;> exact ⟨_, rfl⟩
    refine ⟨.ref p, rfl, .int (n : Int), rfl, six, fun l nl => ⟨.int st, rfl, l, _, _, _, rfl, rfl, lstNew upd_same, hsv, ?_⟩⟩
    have sl := same_upd (o := .lst [.int 2, .int 2, .int 1, .int 0, .int 2, .int 3]) nl
    refine ⟨p, t3, n, sv, rfl, pail_same hp3 sl, by omega, by omega, by omega, fun H4 u t4 ns hp4 ht4 b4 hU4 M hn => ?_⟩
    have m8' := M.few
    have b04 : But p H H4 := (((b1.trans b2).trans b3).trans (But.of sl)).trans b4
    clear hp1 hp2 hp3 b1 b2 b3 b4 nl sl
    refine nx_step ?_
    dsimp only
    refine seq_mid (fun σ H' => ∃ (L : Addr) (t' : Nat) (y6 y8 y9 : Option V), σ = [some (.ref p), some (.int (m : Int)), some (.int st), some (.int (2 + th)), some (.int (n : Int)), some (.ref u), y6, some (.ref L), y8, y9] ∧ But p H H' ∧ SqT K H' u (ns.map V.int) ∧ PailAt H' p t' ∧ t' ≤ t + 200 ∧ PairsH (ns.length : Int) H' L 64) (fun σ H' h => ?_) (fun tail => ?_)
    · obtain ⟨L, t5, y6, y8, y9, rfl, b5, hU5, hp5, ht5, qs, hL, hpr, hlen⟩ := h
      refine ⟨.ref u, rfl, .ref u, rfl, .ref L, rfl, u, L, ns, qs, rfl, hU5, hL, M, hpr, by omega, fun H6 c ps s6 nc hC S => ⟨two, fun R nR => ?_⟩⟩
      have sR := same_upd (o := .tup [.ref u, .ref c]) nR
      exact q _ R t5 ns ps (pail_same hp5 (s6.trans sR)) ht5 (b5.trans (But.of (s6.trans sR))) ⟨u, c, upd_same, sqT_same (s6.trans sR) hU5, hC.same sR, M, S⟩
    · refine ⟨.int st, rfl, two, fun w0 nw => ?_⟩
      have sw := same_upd (o := .tup [.int 1, .int 5]) nw
      refine ⟨w0, st, [1, 5], rfl, rfl, tupNew upd_same, _, rfl, ?_⟩
      have hp5 := pail_same hp4 sw
      have hU5 := sqT_same sw hU4
      have b5 := b04.trans (But.of (p := p) sw)
      generalize upd H4 w0 (.tup [.int 1, .int 5]) = H5 at hp5 hU5 b5 ⊢
      refine ite2 (fun _ => ?_) (fun hst => ?_)
      · refine ⟨.ref p, rfl, p, t4, 4, rfl, hp5, by omega, by decide, by decide, fun wv t6 H6 wv0 wv1 ht6 hp6 b6 => ⟨_, _, rfl, rfl, ?_⟩⟩
        obtain ⟨wh, ewh⟩ : ∃ wh : Nat, 1 + wv = (wh : Int) := ⟨(1 + wv).toNat, by omega⟩
        show gName 6 (V.int (1 + wv)) _ _ _
        rw [ewh]
        have hU6 := sqT_pail hp5 b6 hU5
        refine ⟨.ref p, rfl, .ref u, rfl, .int (wh : Int), rfl, .ref p, rfl, .int (wh : Int), rfl, p, t6, (wh : Int), rfl, hp6, by omega, by omega, by omega, fun kd t7 H7 kd0 kd1 ht7 hp7 b7 => ?_⟩
        have hU7 := sqT_pail hp6 b7 hU6
        refine ⟨.int (2 + th), rfl, _, _, rfl, rfl, p, u, t7, wh, kd, _, ns, rfl, hp7, by omega, hU7, M, by omega, by omega, kd0, kd1, fun H8 L t8 hp8 ht8 b8 nL hL => ?_⟩
        exact tail _ _ ⟨L, t8, _, _, _, rfl, ((b5.trans b6).trans b7).trans b8, sqT_pail hp7 b8 hU7, hp8, by omega, hL⟩
      · refine ⟨.int st, rfl, rfl, _, rfl, ite2 (fun _ => ?_) (fun hs2 => ?_)⟩
        · refine ⟨.ref p, rfl, .ref u, rfl, .int (2 + th), rfl, p, u, t4, _, ns, rfl, hp5, by omega, hU5, M, fun H8 L t8 hp8 ht8 b8 nL hL => ?_⟩
          exact tail _ _ ⟨L, t8, _, _, _, rfl, b5.trans b8, sqT_pail hp5 b8 hU5, hp8, by omega, hL⟩
        · have hst' : st = 0 ∨ st = 3 ∨ st = 4 := by
            have a1 : st ≠ 1 := fun e => hst (by rw [e]; decide)
            have a5 : st ≠ 5 := fun e => hst (by rw [e]; decide)
            have a2 : st ≠ 2 := fun e => hs2 (by rw [e]; decide)
            omega
          have five : (5 : Nat) ≤ sizeLine := by decide
          obtain ⟨ov, hov⟩ : ∃ ov : Int, atI [V.int (2 + th), V.int 0, V.int 0, V.int (2 + th - 1), V.int 2] st = some (.int ov) := by
            rcases hst' with e | e | e <;> rw [e] <;> exact ⟨_, rfl⟩
          refine ⟨.int (2 + th), rfl, .int (2 + th), rfl, _, _, rfl, rfl, five, fun l nl => ⟨.int st, rfl, l, _, _, _, rfl, rfl, lstNew upd_same, hov, ?_⟩⟩
          have sl := same_upd (o := .lst [.int (2 + th), .int 0, .int 0, .int (2 + th - 1), .int 2]) nl
          have hp6 := pail_same hp5 sl
          have hU6 := sqT_same sl hU5
          have b6 := b5.trans (But.of (p := p) sl)
          generalize upd H5 l (.lst [.int (2 + th), .int 0, .int 0, .int (2 + th - 1), .int 2]) = H6 at hp6 hU6 b6 ⊢
          have hn8 : n ≤ 8 := by omega
          have hnn : (n : Int) * (n : Int) = ((n * n : Nat) : Int) := by rw [Int.natCast_mul]
          have hn64 : n * n ≤ 64 := Nat.mul_le_mul hn8 hn8
          refine ⟨.int (n : Int), rfl, .int (n : Int), rfl, _, _, rfl, rfl, .inl ⟨by omega, by omega⟩, (n : Int) * (n : Int), rfl, by omega, by omega, fun D nD => ?_⟩
          have hDp : D ≠ p := pail_ne hp6 nD
          have nDH : H D = none := but_free b6 hp6 nD
          have sD := same_upd (o := .lst []) nD
          rw [hnn, Int.toNat_natCast]
          refine lc_range (lo := 0) (n := _) (fun i H' => ∃ t', But p H H' ∧ PailAt H' p t' ∧ t' ≤ t4 + i ∧ SqT K H' u (ns.map V.int) ∧ PairsH (ns.length : Int) H' D i)
            ⟨t4, b6.trans (But.of sD), pail_same hp6 sD, by omega, sqT_same sD hU6, PairsH.nil upd_same⟩ (fun i H7 hi h => ?_) fun H7 h => ?_
          · obtain ⟨t7, b7, hp7, ht7, hU7, hD7⟩ := h
            have e0 : (0 + ((i : Nat) : Int)) = (i : Int) := by omega
            rw [e0]
            refine ⟨by simp [wipe, List.set_set], .ref p, rfl, p, t7, 8, rfl, hp7, by omega, by decide, by decide, fun r t8 H8 r0 r1 ht8 hp8 b8 => ⟨.int ov, rfl, _, _, rfl, rfl, _, rfl, ite2 (fun _ => ?_) (fun _ => ?_)⟩⟩
            · refine ⟨.int (i : Int), rfl, .int (n : Int), rfl, _, _, rfl, rfl, ⟨by omega, by omega⟩, .int (i : Int), rfl, .int (n : Int), rfl, _, _, rfl, rfl, (show (0 : Int) < n by omega), two, fun T nT => ?_⟩
              have sT := same_upd (o := .tup [.int ((i : Int) / (n : Int)), .int ((i : Int) % (n : Int))]) nT
              have hD8 := hD7.but hp7 b8 hDp
              obtain ⟨vs, eD8, hvl⟩ := hD8.lst
              refine ⟨_, sT _ _ eD8, few1 (by omega), t8, fun k o e z => ?_, pail_set (pail_same hp8 sT) hDp, by omega, sqT_lst (sT _ _ eD8) (sqT_same sT (sqT_pail hp7 b8 hU7)), hD8.add eD8 nT ?_ ?_⟩
              · rw [upd_ne (ne_of_none e nDH)]; exact sT _ _ ((b7.trans b8) k o e z)
              · rw [hn]
                exact ⟨Int.ediv_nonneg (by omega) (by omega), Int.ediv_lt_of_lt_mul (by omega) (by rw [hnn]; omega)⟩
              · rw [hn]
                exact ⟨Int.emod_nonneg _ (by omega), Int.emod_lt_of_pos _ (by omega)⟩
            · exact ⟨t8, b7.trans b8, hp8, by omega, sqT_pail hp7 b8 hU7, (hD7.but hp7 b8 hDp).le (by omega)⟩
          · obtain ⟨t7, b7, hp7, ht7, hU7, hD7⟩ := h
            exact tail _ _ ⟨D, t7, _, _, _, rfl, b7, hU7, hp7, by omega, hD7.le (by omega)⟩
end
end K75
set_option maxHeartbeats 4000000
namespace K75
open PySem PySem.Spec PyProof.Rows L2 RV
/-! ### sorted of a list of pairs -/
def kOf (H : Hp) : V → Int × Int
  | .ref t => match H t with
    | some (.tup [.int i, .int j]) => (i, j)
    | _ => (0, 0)
  | _ => (0, 0)
def adOf : V → Addr
  | .ref t => t
  | _ => 0
theorem LotsH.add {H : Hp} {L T : Addr} {qs : List (List Int)} {q : List Int} {vs : List V} (h : LotsH H L qs) (e : H L = some (.lst vs)) (nT : H T = none) : LotsH (upd (upd H T (.tup (q.map V.int))) L (.lst (vs ++ [.ref T]))) L (qs ++ [q]) := by
  obtain ⟨ks, h1, h2, h3⟩ := h
  have sT := same_upd (o := .tup (q.map V.int)) nT
  have ev : vs = ks.map fun p => V.ref p.1 := by rw [e] at h2; cases h2; rfl
  subst ev
  refine ⟨ks ++ [(T, q)], by rw [List.map_append, h1]; rfl, by rw [upd_same, List.map_append]; rfl, fun k hk => ?_⟩
  rcases List.mem_append.mp hk with hk | hk
  · rw [upd_ne (fun z => by have w := h3 k hk; rw [z, e] at w; cases w)]; exact sT _ _ (h3 k hk)
  · rw [List.mem_singleton.mp hk, upd_ne (ne_of_none e nT).symm]; exact upd_same
theorem sort_lots {K : PySem.W.Frag} {H : Hp} {a : Addr} {ps : List (List Int)} {Q : VK} (h : LotsH H a ps) (pr : ∀ p ∈ ps, ∃ x y : Int, p = [x, y])
    (q : ∀ (L : List (Addr × List Int)) (p : Addr), (L.map (·.2)).Perm ps → L.Pairwise (fun a b => SrtO.lexB (two b.2) (two a.2) = false) → (∀ k ∈ L, H k.1 = some (.tup (k.2.map V.int))) → H p = none → Q (.ref p) (upd H p (.lst (L.map fun p => V.ref p.1)))) : rSortedPO K [.ref a] H Q := by
  obtain ⟨ks, h1, h2, h3⟩ := h
  have two_ : ∀ k ∈ ks, kOf H (.ref k.1) = two k.2 ∧ k.2 = [(kOf H (.ref k.1)).1, (kOf H (.ref k.1)).2] := fun k hk => by
    obtain ⟨x, y, e⟩ := pr k.2 (by rw [← h1]; exact List.mem_map_of_mem hk)
    have z := h3 k hk
    rw [e] at z
    have z2 : kOf H (.ref k.1) = (x, y) := by
      show (match H k.1 with | some (.tup [.int i, .int j]) => (i, j) | _ => (0, 0)) = _
      rw [z]; rfl
    rw [z2, e]
    exact ⟨rfl, rfl⟩
  refine ⟨a, _, kOf H, rfl, lstNew h2, fun x hx => ?_, fun ys p srt stb np => ?_⟩
  · obtain ⟨k, hk, rfl⟩ := List.mem_map.mp hx
    refine ⟨k.1, rfl, ?_⟩
    have z := h3 k hk
    rw [(two_ k hk).2] at z
    exact z
  · have pm := stb.perm
    have hy : ∀ y ∈ ys, ∃ k ∈ ks, y = V.ref k.1 := fun y hy => by
      obtain ⟨k, hk, e⟩ := List.mem_map.mp (pm.mem_iff.mp hy)
      exact ⟨k, hk, e.symm⟩
    let g : V → Addr × List Int := fun v => (adOf v, [(kOf H v).1, (kOf H v).2])
    have gk : ∀ k ∈ ks, g (V.ref k.1) = k := fun k hk => by
      show (k.1, _) = k
      rw [← (two_ k hk).2]
    have e1 : (ys.map g).map (fun p => V.ref p.1) = ys := by
      rw [List.map_map]
      conv => rhs; rw [← List.map_id ys]
      refine List.map_congr_left fun y m => ?_
      obtain ⟨k, hk, rfl⟩ := hy y m
      show V.ref (g (V.ref k.1)).1 = _
      rw [gk k hk]; rfl
    have pk : (ys.map g).Perm ks := by
      have z := pm.map g
      rw [List.map_map] at z
      have e2 : ks.map (g ∘ fun p => V.ref p.1) = ks := by
        conv => rhs; rw [← List.map_id ks]
        exact List.map_congr_left fun k hk => gk k hk
      rwa [e2] at z
    have z := q (ys.map g) p (by rw [← h1]; exact pk.map _) ?_ (fun k hk => h3 k (pk.mem_iff.mp hk)) np
    · rwa [e1] at z
    · rw [List.pairwise_map]
      refine List.Pairwise.imp_of_mem ?_ srt
      intro y y' m m' l
      obtain ⟨k, hk, rfl⟩ := hy y m
      obtain ⟨k', hk', rfl⟩ := hy y' m'
      rw [gk k hk, gk k' hk', ← (two_ k hk).1, ← (two_ k' hk').1]
      exact l
end K75
set_option maxHeartbeats 4000000
namespace K75
open PySem PySem.Spec PyProof.Rows L2 RV
/-! ### [b for a, b in pairs if ..] -/
def sel (c : Int → Int → Bool) (ps : List (List Int)) : List Int := (ps.filter fun p => c (p.getD 0 0) (p.getD 1 0)).map fun p => p.getD 1 0
theorem sel_next {c : Int → Int → Bool} {ps : List (List Int)} {i : Nat} {x y : Int} (h : ps[i]? = some [x, y]) : sel c (ps.take (i + 1)) = sel c (ps.take i) ++ (if c x y = true then [y] else []) := by
  unfold sel
  rw [List.take_add_one, h]
  show List.map _ (List.filter _ (ps.take i ++ [[x, y]])) = _
  rw [List.filter_append, List.map_append]
  by_cases e : c x y = true
  · simp [e]
  · simp [e]
theorem sel_len (c : Int → Int → Bool) (ps : List (List Int)) : (sel c ps).length ≤ ps.length := by
  unfold sel
  rw [List.length_map]
  exact List.length_filter_le _ _
theorem mem_sel {c : Int → Int → Bool} {n : Int} {ps : List (List Int)} (hp : ∀ p ∈ ps, Pr n p) {j : Int} : j ∈ sel c ps ↔ ∃ x : Int, [x, j] ∈ ps ∧ c x j = true := by
  unfold sel
  rw [List.mem_map]
  constructor
  · rintro ⟨p, h1, h2⟩
    obtain ⟨h3, h4⟩ := List.mem_filter.mp h1
    obtain ⟨x, y, rfl, _⟩ := hp p h3
    have e2 : y = j := h2
    subst e2
    exact ⟨x, h3, h4⟩
  · rintro ⟨x, h, e⟩
    exact ⟨[x, j], List.mem_filter.mpr ⟨h, e⟩, rfl⟩
theorem sel_nodup {c : Int → Int → Bool} {n m : Int} {ps : List (List Int)} (hp : ∀ p ∈ ps, Pr n p) (nd : ps.Nodup) (hc : ∀ x y, c x y = true → x = m) : (sel c ps).Nodup := by
  unfold sel
  refine List.pairwise_map.mpr (List.Pairwise.imp_of_mem (fun {a b} ha hb ne e => ?_) (nd.filter _))
  obtain ⟨a1, a2⟩ := List.mem_filter.mp ha
  obtain ⟨b1, b2⟩ := List.mem_filter.mp hb
  obtain ⟨x, y, rfl, _⟩ := hp a a1
  obtain ⟨x', y', rfl, _⟩ := hp b b1
  have e1 := hc x y a2
  have e2 := hc x' y' b2
  have e3 : y = y' := e
  exact ne (by rw [e1, e2, e3])
theorem lc_pairs {K : PySem.W.Frag} {tt : TT} {te : TE} {c : Int → Int → Bool} {σ : L2.St} {H1 : Hp} {a D : Addr} {va vb : Nat} {ps : List (List Int)} {Qd : Hp → Prop} (hT : Tups K H1 a ps) (hl : ps.length ≤ 1000) (hp : ∀ p ∈ ps, ∃ x y : Int, p = [x, y]) (nD : H1 D = none) (hw : ∀ x y : Int, wipe (((wipe σ [va, vb]).set va (some (.int x))).set vb (some (.int y))) [va, vb] = wipe σ [va, vb])
    (htest : ∀ x y : Int, [x, y] ∈ ps → ∀ H', Same H1 H' → ∀ A B : Hp → Prop, (∀ H2, Same H' H2 → if c x y = true then A H2 else B H2) → tt (((wipe σ [va, vb]).set va (some (.int x))).set vb (some (.int y))) H' (fun b H3 => if b = true then A H3 else B H3))
    (hte : ∀ (x y : Int) (H' : Hp) (Q : VK), Q (.int y) H' → te (((wipe σ [va, vb]).set va (some (.int x))).set vb (some (.int y))) H' Q)
    (hd : ∀ H', Same H1 H' → H' D = some (.lst ((sel c ps).map V.int)) → Qd H') :
    ∃ W : Nat → Nat → Hp → Prop, (∃ m, W 0 m (upd H1 D (.lst []))) ∧ ∀ i m H, W i m H →
      ((Itt K a).stop i H ∧ Qd H) ∨ ((Itt K a).go i H ∧ ∃ Nx : Hp → Prop, (∀ H', Nx H' → ∃ m', m' < m ∧ W (i + 1) m' H') ∧ ∀ x H', (Itt K a).yld i H x H' → gTup K 2 (gCons (gName va) (gCons (gName vb) gNil)) x (wipe σ [va, vb]) H' fun σ2 H2 => wipe σ2 [va, vb] = wipe σ [va, vb] ∧ tt σ2 H2 fun b H3 =>
        if b = true then te σ2 H3 fun y H4 => ∃ acc, H4 D = some (.lst acc) ∧ acc.length < sizeLine ∧ Nx (upd H4 D (.lst (acc ++ [y]))) else Nx H3) := by
  obtain ⟨ks, rfl, hT, hks⟩ := hT
  refine lc_tup (K := K) (a := a) (xs := ks.map fun p => V.ref p.1) (fun i H' => Same H1 H' ∧ H' D = some (.lst ((sel c ((ks.map (·.2)).take i)).map V.int))) ⟨same_upd nD, by rw [upd_same]; rfl⟩ (fun i H' _ p => sqT_same p.1 hT) (fun i x H' hx p => ?_) fun H' p => ?_
  · obtain ⟨k, g, rfl⟩ := map_at hx
    have hk : k ∈ ks := List.mem_of_getElem? g
    have hm : k.2 ∈ ks.map (·.2) := List.mem_map_of_mem hk
    obtain ⟨x, y, e⟩ := hp k.2 hm
    rw [e] at hm
    have hkT : SqT K H' k.1 ([x, y].map V.int) := by rw [← e]; exact sqT_same p.1 (hks k hk)
    have gi : (ks.map (·.2))[i]? = some [x, y] := by rw [List.getElem?_map, g, ← e]; rfl
    have hle := sel_len c ((ks.map (·.2)).take i)
    rw [List.length_take] at hle
    refine ⟨k.1, _, rfl, hkT, rfl, _, _, rfl, _, _, rfl, rfl, hw x y, htest x y hm H' p.1 _ _ fun H2 s2 => ?_⟩
    have s12 := p.1.trans s2
    have e2 := s2 _ _ p.2
    by_cases e : c x y = true
    · rw [if_pos e]
      refine hte x y H2 _ ⟨_, e2, ?_, fun b o z => ?_, ?_⟩
      · rw [List.length_map]; exact few1 (by omega)
      · rw [upd_ne (ne_of_none z nD)]; exact s12 b o z
      · rw [upd_same, sel_next gi, if_pos e, List.map_append]; rfl
    · rw [if_neg e]
      exact ⟨s12, by rw [sel_next gi, if_neg e, List.append_nil]; exact e2⟩
  · rw [List.length_map] at p
    have e : (ks.map (·.2)).take ks.length = ks.map (·.2) := List.take_of_length_le (by rw [List.length_map]; exact Nat.le_refl _)
    rw [e] at p
    exact hd H' p.1 p.2
end K75
set_option maxHeartbeats 4000000
namespace K75
open PySem PySem.Spec PyProof.Rows L2 RV
section
variable {P : Program} {w : World} {K : PySem.W.Frag} {mg : Str → Option Value} {base : Heap}
/-! ### _law_come_to -/
theorem scCome : FnScope ["_law_steps", "_law_mark", "_law_met", "_law_at", "_law_a", "_law_b"] ["_law_steps", "_law_mark"] (defScope sCome) := ⟨rfl, rfl, rfl, by decide +kernel, rfl, by decide +kernel, by decide +kernel⟩
def spCome (K : PySem.W.Frag) : Sp := fun vs H Q _ => ∃ (c : Addr) (m : Int) (n : Nat) (ps : List (List Int)), vs = [.ref c, .int m] ∧ TupsH H c ps ∧ n ≤ 8 ∧ ps.length ≤ 64 ∧ (∀ p ∈ ps, Pr (n : Int) p) ∧ ps.Nodup ∧
  ∀ (H' : Hp) (d : Addr) (fs : List Int), Same H H' → H d = none → H' d = some (.lst (fs.map V.int)) → fs.length ≤ 8 → fs.Nodup → (∀ j, j ∈ fs ↔ Rch ps m j) → Q (.ref d) H'
abbrev nCome : List Str := ["_law_steps", "_law_mark", "_law_met", "_law_at", "_law_a", "_law_b"]
theorem ok_come {f : Addr} {fd : FuncData} (F : Fun K "_law_come_to" "_law_come_to" sCome f fd) (B : Bare mg) : FnOk P w K mg base CX0 1 f fd ["_law_steps", "_law_mark"] (spCome K) := by
  refine F.ok scCome (fun vs H Q E h => ?_) (fun cdv A outer s H vs Q E hr h => ?_)
  · obtain ⟨c, m, n, ps, rfl, _⟩ := h
    rfl
  · obtain ⟨c, m, n, ps, rfl, hC, h8, h64, hP, hnd, q⟩ := h
    have hu5 := un65 hr
    have two : (2 : Nat) ≤ sizeLine := by decide
    refine ⟨_, pss_cons (ps_asg (pe_tup (pa_cons (pe_lc (own := [("_law_a", 4), ("_law_b", 5)]) (g := gTup K 2 (gCons (gName 4) (gCons (gName 5) gNil))) rfl scCome.nd (pi_tup (pv 0)) (blkOk_by (N := nCome) (sc := defScope sCome) (by decide +kernel))
          (fun _ _ _ _ _ => pg_tupK rfl rfl (pgs_cons (pg_name (i := 4) scCome.nd rfl (Or.inl rfl)) (pgs_cons (pg_name (i := 5) scCome.nd rfl (Or.inl rfl)) pgs_nil))) (fun _ _ _ _ _ => pts_one (pt_cmpR op_eq (pv 4) (pv 1) (nomark _)))
          (fun _ _ _ _ _ => pv 5)) (pa_cons pe_int pa_nil))) (pg_tup rfl (pgs_cons (pg_name (i := 2) scCome.nd rfl (Or.inr rfl)) (pgs_cons (pg_name (i := 3) scCome.nd rfl (Or.inr rfl)) pgs_nil))))
      (pss_cons (ps_while PassesOwn.never (pt_cmpR op_lt (pv 3) (pe_callB call_len_seq (by rfl) B.len PySem.boot_len (pa_cons (pv 2) pa_nil)) (nomark _))
        (pss_cons (ps_expr (pe_bm PySem.F.plainAttrs_list PySem.F.slot_list_extend PySem.F.type_list_extend mt_extend (pv 2) (pa_cons (pe_lc (own := [("_law_a", 4), ("_law_b", 5)]) (g := gTup K 2 (gCons (gName 4) (gCons (gName 5) gNil))) rfl scCome.nd (pi_tup (pv 0)) (blkOk_by (N := nCome) (sc := defScope sCome) (by decide +kernel))
          (fun _ _ _ _ _ => pg_tupK rfl rfl (pgs_cons (pg_name (i := 4) scCome.nd rfl (Or.inl rfl)) (pgs_cons (pg_name (i := 5) scCome.nd rfl (Or.inl rfl)) pgs_nil)))
          (fun _ _ _ _ _ => pts_one (PW.pt (pw_and (pt_cmpR op_eq (pv 4) (pe_ix (ix_listK (K := K) rfl) (pv 2) (pv 3) (fun _ _ => rfl)) (nomark _)) (pw_and1 (pt_cmpR (op_notInDK (K := K) rfl hu5) (pv 5) (pv 2) (by rfl))))))
          (fun _ _ _ _ _ => pv 5)) pa_nil)))
        (pss_one (ps_set (i := 3) scCome.nd rfl (Or.inr rfl) (pe_op op_add (pv 3) pe_int)))))
      (pss_one (ps_ret (pv 2)))), ?_⟩
    have hpp : ∀ p ∈ ps, ∃ x y : Int, p = [x, y] := fun p hp => by
      obtain ⟨x, y, e, _⟩ := hP p hp
      exact ⟨x, y, e⟩
    have small : ∀ fs : List Int, fs.Nodup → (∀ x ∈ fs, Rch ps m x) → fs.length ≤ 8 := fun fs nd hr => by
      have z := nodup_le (us := upN n) nd fun x hx => mem_upN.mpr (Rch.bound hP (hr x hx)).2
      rw [upN_len] at z; omega
    refine ⟨.ref c, rfl, c, rfl, ⟨_, hC.tups.choose_spec.2.1⟩, fun F0 nF => ?_⟩
    refine lc_pairs (c := fun x y => decide (V.int x = V.int m)) hC.tups (by omega) hpp nF (fun x y => rfl) (fun x y hxy H' s' A B h => ?_) (fun x y H' Q h => ⟨.int y, rfl, h⟩) fun H1 s1 eF1 => ?_
    · exact ⟨.int x, rfl, .int m, rfl, rfl, _, rfl, h H' (Same.refl _)⟩
    refine ⟨two, fun U nU => ?_⟩
    have sU := same_upd (o := .tup [.ref F0, .int 0]) nU
    refine ⟨U, _, rfl, tupNew upd_same, rfl, _, _, rfl, _, _, rfl, rfl, ?_⟩
    have m0 : ∀ j, j ∈ sel (fun x y => decide (V.int x = V.int m)) ps ↔ [m, j] ∈ ps := fun j => by
      rw [mem_sel hP]
      constructor
      · rintro ⟨x, h, e⟩
        have e := V.int.inj (of_decide_eq_true e)
        rw [← e]; exact h
      · intro h
        exact ⟨m, h, decide_eq_true rfl⟩
    refine while_by (fun σ H' => ∃ (fs : List Int) (a : Nat) (y4 y5 : Option V), σ = [some (.ref c), some (.int m), some (.ref F0), some (.int (a : Int)), y4, y5] ∧ Same H H' ∧ H' F0 = some (.lst (fs.map V.int)) ∧ fs.Nodup ∧ (∀ x ∈ fs, Rch ps m x) ∧ (∀ j, [m, j] ∈ ps → j ∈ fs) ∧ (∀ (k : Nat) (x : Int), k < a → fs[k]? = some x → ∀ j, [x, j] ∈ ps → j ∈ fs) ∧ a ≤ fs.length)
      (fun σ _ => atOf σ) ?_ ?_ ?_
    · exact ⟨_, 0, none, none, rfl, s1.trans sU, sU _ _ eF1, sel_nodup (m := m) hP hnd fun x y e => V.int.inj (of_decide_eq_true e), fun x hx => .one ((m0 x).mp hx), fun j hj => (m0 j).mpr hj, fun k x hk => absurd hk (Nat.not_lt_zero _), Nat.zero_le _⟩
    · rintro σ H2 ⟨fs, a, y4, y5, rfl, s2, eF, nd, rc, cl, up, hle⟩
      have hl8 := small fs nd rc
      refine ⟨.int (a : Int), rfl, .ref F0, rfl, F0, _, rfl, .inl (lstNew eF), _, _, rfl, rfl, _, rfl, ite2 (fun hlt => ?_) (fun hge => ?_)⟩
      · have hlt : a < fs.length := by
          have z := of_decide_eq_true hlt
          rw [List.length_map] at z; omega
        obtain ⟨x, gx⟩ : ∃ x, fs[a]? = some x := ⟨_, List.getElem?_eq_getElem hlt⟩
        have ax : atI (fs.map V.int) ((a : Nat) : Int) = some (.int x) := atI_nat (by rw [List.getElem?_map, gx]; rfl)
        have hC2 := hC.same s2
        refine ⟨.ref F0, rfl, .inl ⟨rfl, _, lstNew eF⟩, .ref c, rfl, c, rfl, ⟨_, hC2.tups.choose_spec.2.1⟩, fun D nD => ?_⟩
        refine lc_pairs (c := fun u y => decide (V.int u = V.int x) && decide (y ∉ fs)) hC2.tups (by omega) hpp nD (fun x y => rfl) (fun u y hxy H' s' A B h => ?_) (fun x y H' Q h => ⟨.int y, rfl, h⟩) fun H3 s3 eD => ?_
        · refine ⟨.int u, rfl, .ref F0, rfl, .int (a : Int), rfl, F0, _, _, .int x, rfl, rfl, lstNew (s' _ _ eF), ax, rfl, _, rfl, ?_⟩
          have hh := h H' (Same.refl H')
          cases e1 : decide (V.int u = V.int x) with
          | false =>
            rw [e1] at hh
            exact iteF hh
          | true =>
            rw [e1] at hh
            refine iteT ⟨.int y, rfl, .ref F0, rfl, .int y, fs.map PyData.int, .int y, dpL (lstNew (s' _ _ eF)), shapedN y, shapedLI fs, _, rfl, ?_⟩
            rw [any_int, ← decide_not]
            exact hh
        · have eF2 := s3 _ _ eF
          have nF2 : ∀ H' o, Same H H' → Same H (upd H' F0 o) := fun H' o s b u e => by
            rw [upd_ne (ne_of_none e nF)]; exact s b u e
          have fl : (sel (fun u y => decide (V.int u = V.int x) && decide (y ∉ fs)) ps).length ≤ 64 := Nat.le_trans (sel_len _ _) h64
          refine ⟨F0, D, _, _, rfl, rfl, eF2, eD, ?_, ?_⟩
          · rw [List.length_map, List.length_map]; exact Nat.le_of_lt (few1 (by omega))
          refine ⟨.int (a : Int), rfl, _, _, rfl, rfl, ?_⟩
          have mem2 : ∀ j, j ∈ fs ++ sel (fun u y => decide (V.int u = V.int x) && decide (y ∉ fs)) ps ↔ j ∈ fs ∨ [x, j] ∈ ps := fun j => by
            rw [List.mem_append, mem_sel hP]
            constructor
            · rintro (z | ⟨u, z, e⟩)
              · exact .inl z
              · rw [Bool.and_eq_true] at e
                have e := V.int.inj (of_decide_eq_true e.1)
                rw [← e]; exact .inr z
            · rintro (z | z)
              · exact .inl z
              · by_cases e : j ∈ fs
                · exact .inl e
                · exact .inr ⟨x, z, by rw [Bool.and_eq_true]; exact ⟨decide_eq_true rfl, decide_eq_true e⟩⟩
          refine ⟨⟨fs ++ sel (fun u y => decide (V.int u = V.int x) && decide (y ∉ fs)) ps, a + 1, _, _, rfl, nF2 _ _ (s2.trans s3), ?_, ?_, ?_, ?_, ?_, ?_⟩, ?_⟩
          · rw [upd_same, List.map_append]
          · rw [List.nodup_append]
            refine ⟨nd, sel_nodup (m := x) hP hnd fun u y e => V.int.inj (of_decide_eq_true (Bool.and_eq_true _ _ ▸ e).1), fun u hu v hv e => ?_⟩
            subst e
            obtain ⟨_, _, e⟩ := (mem_sel hP).mp hv
            rw [Bool.and_eq_true] at e
            exact of_decide_eq_true e.2 hu
          · intro j hj
            rcases (mem2 j).mp hj with z | z
            · exact rc j z
            · exact .more (rc x (List.mem_of_getElem? gx)) z
          · exact fun j hj => (mem2 j).mpr (.inl (cl j hj))
          · intro k z hk hz j hj
            refine (mem2 j).mpr ?_
            by_cases e : k = a
            · subst e
              rw [List.getElem?_append_left hlt, gx] at hz
              cases hz
              exact .inr hj
            · rw [List.getElem?_append_left (by omega)] at hz
              exact .inl (up k z (by omega) hz j hj)
          · rw [List.length_append]; omega
          · show 8 - ((a : Int) + 1).toNat < 8 - ((a : Int)).toNat
            omega
      · have hge : fs.length ≤ a := by
          have z : ¬ ((a : Int) < ((fs.map V.int).length : Int)) := fun z => hge (decide_eq_true z)
          rw [List.length_map] at z; omega
        refine ⟨.ref F0, rfl, q H2 F0 fs s2 nF eF hl8 nd fun j => ⟨rc j, fun h => ?_⟩⟩
        refine rch_closed cl (fun x hx j hj => ?_) h
        obtain ⟨k, hk, e⟩ := List.getElem_of_mem hx
        exact up k x (by omega) (by rw [List.getElem?_eq_getElem hk, e]) j hj
    · intro σ H1 Q1 Q2 hq h
      obtain ⟨x, e1, y, e2, p, l, e3, e4, i, j, e5, e6, b, e7, h⟩ := h
      exact ⟨x, e1, y, e2, p, l, e3, e4, i, j, e5, e6, b, e7, hq _ _ h⟩
end
end K75
set_option maxHeartbeats 4000000
/-! sorted(l), l a list of unlike tuples of ints of any lengths, none of them empty -/
namespace RV
open PySem PySem.Spec PyProof.Rows L2 TS
section
variable {P : Program} {w : World} {A : Around} {E : Value → Shared → Prop} {s : Shared}
theorem sorted_listA {a : Addr} {L : List (Addr × List Int)} {Q : Value → Shared → Prop} (ρ : List Int → Int) (hl : s.heap.IsList a (L.map fun q => Value.ref q.1).toArray) (tup : ∀ q ∈ L, IsT P w s.heap q.2 q.1) (nd : (L.map (·.2)).Nodup) (few64 : L.length < 64)
    (hne : ∀ p ∈ L, p.2 ≠ []) (hr : ∀ p ∈ L, ∀ q ∈ L, lexA p.2 q.2 = decide (ρ p.2 < ρ q.2))
    (hQ : ∀ (h' : Heap) (d : Addr) (out : Array Value) (c : Nat) (L' : List (Addr × List Int)), (∀ b o, s.heap.get? b = some o → h'.get? b = some o) → s.heap.objs.size ≤ d → h'.get? d = some (seqObj "list" out c) →
      out.toList = L'.map (fun q => Value.ref q.1) → L'.Perm L → L'.Pairwise (fun q r => ρ q.2 ≤ ρ r.2) → Q (.ref d) { s with heap := h' }) : wpAny (model P w) A (call (.builtin "sorted") [.ref a]) Q E s := by
  have same1 : ∀ q ∈ L, ∀ r ∈ L, q.1 = r.1 → q = r := fun q hq r hr e => by
    have z := tup q hq
    rw [e] at z
    exact Prod.ext e (z.inj (tup r hr))
  have nodL : L.Nodup := nodup_of_map nd
  have nodR : (L.map fun q => Value.ref q.1).Nodup := List.pairwise_map.mpr (List.Pairwise.imp_of_mem (fun {q r} hq hr ne e => ne (same1 q hq r hr (Value.ref.inj e))) nodL)
  have lvs : (L.map fun q => Value.ref q.1).length < 64 := by rw [List.length_map]; exact few64
  have hz : (L.map fun q => Value.ref q.1).length ≤ sizeLine := by rw [sizeLine_eq]; omega
  have from_ : ∀ v ∈ L.map (fun q => Value.ref q.1), ∃ q ∈ L, v = Value.ref q.1 := fun v hv => by
    obtain ⟨q, hq, e⟩ := List.mem_map.mp hv
    exact ⟨q, hq, e.symm⟩
  generalize ev : L.map (fun q => Value.ref q.1) = vs at hl lvs hz from_ nodR
  refine Calls.call_function_entry kind_sorted plain_sorted entry_sorted (args_sorted1 _) (show wpAny _ _ _ _ _ _ from ?_)
  unfold Builtin.«sorted»
  refine wpAny_bind (m := checkCount "sorted" 1 1 _) (wpAny_pure (wpAny_bind (collect_list hl (wpAny_bind (wpAny_newList ?_ hz)) hz)))
  have hsz : ((s.heap.push (seqObj "list" #[] 0)).update s.heap.objs.size (Obj.mapSeq (· ++ vs.toArray))).objs.size = s.heap.objs.size + 1 := (Heap.size_update ..).trans (size_push' ..)
  have hoL : (((s.heap.push (seqObj "list" #[] 0)).update s.heap.objs.size (Obj.mapSeq (· ++ vs.toArray))).push (seqObj "list" vs.toArray 0)).get? (s.heap.objs.size + 1) = some (seqObj "list" vs.toArray 0) := hsz ▸ Heap.get?_push_size _ rfl
  have keep : ∀ b o, s.heap.get? b = some o → b < s.heap.objs.size ∧ (((s.heap.push (seqObj "list" #[] 0)).update s.heap.objs.size (Obj.mapSeq (· ++ vs.toArray))).push (seqObj "list" vs.toArray 0)).get? b = some o := fun b o z => by
    have hlt := Heap.lt_size z
    refine ⟨hlt, Heap.get?_push_of_some _ ?_⟩
    exact (Heap.get?_update_ne _ _ _ _ (Nat.ne_of_lt hlt)).trans (Heap.get?_push_of_some _ z)
  show wpAny _ _ _ _ _ { s with heap := ((s.heap.push (seqObj "list" #[] 0)).update s.heap.objs.size (Obj.mapSeq (· ++ vs.toArray))).push (seqObj "list" vs.toArray 0) }
  rw [hsz]
  generalize ((s.heap.push (seqObj "list" #[] 0)).update s.heap.objs.size (Obj.mapSeq (· ++ vs.toArray))).push (seqObj "list" vs.toArray 0) = h1 at hoL keep ⊢
  have tups : ∀ q ∈ L, TupInts h1 (.ref q.1) q.2 := fun q hq => tupInts_of (P := P) (w := w) (isT_keep (tup q hq) fun b u e => (keep b u e).2)
  refine wpAny_bind (wpAny_holding (call_sort_any (s := { s with heap := h1 }) ρ hoL lvs (fun v hv => ?_) (fun u hu v hv ns ms tu tv => ?_) fun out a1 a2 => ?_))
  · obtain ⟨q, hq, rfl⟩ := from_ v hv
    exact ⟨q.2, tups q hq, hne q hq⟩
  · obtain ⟨q, hq, rfl⟩ := from_ u hu
    obtain ⟨r, hr', rfl⟩ := from_ v hv
    have e1 : ns = q.2 := tu.ints.symm.trans (tups q hq).ints
    have e2 : ms = r.2 := tv.ints.symm.trans (tups r hr').ints
    subst e1 e2
    exact hr q hq r hr'
  · obtain ⟨c, hc⟩ := sortedHeap_at (vs := vs) (out := out) hoL
    obtain ⟨L', e', hs'⟩ := refs_some L out.toList fun v hv => from_ v (a1.mem_iff.mp hv)
    have pm' : (L'.map fun q => Value.ref q.1).Perm (L.map fun q => Value.ref q.1) := by rw [← e', ev]; exact a1
    have pL : L'.Perm L := by
      refine (List.perm_ext_iff_of_nodup (nodup_of_map (pm'.nodup_iff.mpr (ev ▸ nodR))) nodL).mpr fun q => ⟨hs' q, fun hq => ?_⟩
      obtain ⟨r, hr', e⟩ := List.mem_map.mp (pm'.mem_iff.mpr (List.mem_map.mpr ⟨q, hq, rfl⟩))
      rw [← same1 r (hs' r hr') q hq (Value.ref.inj e)]; exact hr'
    have pw : L'.Pairwise (fun q r => ρ q.2 ≤ ρ r.2) := by
      rw [e'] at a2
      refine List.Pairwise.imp_of_mem (fun {q r} hq hr' z => ?_) (List.pairwise_map.mp a2)
      have z' : ρ (intsOf h1 (.ref q.1)) ≤ ρ (intsOf h1 (.ref r.1)) := z
      rwa [(tups q (hs' q hq)).ints, (tups r (hs' r hr')).ints] at z'
    refine wpAny_pure ⟨_, rfl, hQ _ (s.heap.objs.size + 1) out c L' (fun b u e => ?_) (Nat.le_succ _) hc e' pL pw⟩
    have lt := (keep b u e).1
    have lt1 := Heap.lt_size hoL
    show (sortedHeap h1 (s.heap.objs.size + 1) vs out).get? b = some u
    rw [sortedHeap_old (Nat.ne_of_lt (Nat.lt_succ_of_lt lt)) (Nat.lt_trans (Nat.lt_succ_of_lt lt) lt1)]
    exact (keep b u e).2
end
section
variable {X : Cx}
def rSortL (K : PySem.W.Frag) : List V → Hp → VK → Prop := fun vs H Q => ∃ (a : Addr) (L : List (Addr × List Int)) (ρ : List Int → Int), vs = [V.ref a] ∧ SqL K H a (L.map fun q => V.ref q.1) ∧ (∀ p ∈ L, SqT K H p.1 (p.2.map V.int)) ∧ (L.map (·.2)).Nodup ∧ L.length < 64 ∧
  (∀ p ∈ L, p.2 ≠ []) ∧ (∀ p ∈ L, ∀ q ∈ L, lexA p.2 q.2 = decide (ρ p.2 < ρ q.2)) ∧
  ∀ (L' : List (Addr × List Int)) (p : Addr), L'.Perm L → L'.Pairwise (fun q r => ρ q.2 ≤ ρ r.2) → H p = none → Q (.ref p) (upd H p (.lst (L'.map fun q => V.ref q.1)))
theorem cr_sortedL : CallR X (.builtin "sorted") (rSortL X.K) := by
  intro pins s σ H vs us Q I r h
  obtain ⟨a, L, ρ, rfl, hs, hk, nd, few, hne, hr, q⟩ := h
  obtain ⟨its, rv, hl, hz⟩ := I.list hs
  rw [Vals.ref1 r]
  have ei : its = L.map fun q => Value.ref q.1 := by
    clear hs hk nd few hne hr q hl hz
    induction L generalizing its with
    | nil => cases rv; rfl
    | cons k L ih =>
      cases rv with
      | cons r1 r2 =>
        cases r1
        rw [List.map_cons, ih _ r2]
  subst ei
  refine sorted_listA ρ hl.isList (fun p hp => I.isT (hk p hp)) nd few hne hr fun h' d out c L' kp hd hg hout pm pw => ?_
  have len : (L'.map fun q => V.ref q.1).length ≤ sizeLine := by rw [List.length_map, sizeLine_eq, pm.length_eq]; omega
  have vals : Vals (L'.map fun q => V.ref q.1) out.toList := by rw [hout]; exact vals_of_refs L'
  exact ⟨.ref d, upd H d (.lst (L'.map fun q => V.ref q.1)), I.laid (t' := s.toks) kp hd ⟨len, out.toList, c, vals, by simpa using hg⟩, rfl, q L' d pm pw (I.hok.fresh hd)⟩
end
end RV
set_option maxHeartbeats 4000000
namespace K75
open PySem PySem.Spec PyProof.Rows L2 RV
/-- what the first i marks come to -/
def Rches (H : Hp) (D : Addr) (ps : List (List Int)) (ws : List (Addr × List Int)) : Prop := H D = some (.lst (ws.map fun p => V.ref p.1)) ∧ ∀ (k : Nat) (x : Addr × List Int), ws[k]? = some x → H x.1 = some (.lst (x.2.map V.int)) ∧ x.1 ≠ D ∧ x.2.length ≤ 8 ∧ x.2.Nodup ∧ ∀ j, j ∈ x.2 ↔ Rch ps (k : Int) j
theorem Rches.same {H H' : Hp} {D : Addr} {ps : List (List Int)} {ws : List (Addr × List Int)} (h : Rches H D ps ws) (s : Same H H') : Rches H' D ps ws :=
  ⟨s _ _ h.1, fun k x g => let ⟨a, b⟩ := h.2 k x g; ⟨s _ _ a, b⟩⟩
theorem eq_of_rise {xs ys : List Int} (h : xs.Perm ys) (h1 : xs.Pairwise (· ≤ ·)) (h2 : ys.Pairwise (· ≤ ·)) : xs = ys := List.Perm.eq_of_pairwise (le := (· ≤ ·)) (fun a b _ _ x y => Int.le_antisymm x y) h1 h2 h
/-- what sorted tells of the marks that are come to and come back -/
theorem some_lot {ps : List (List Int)} {n : Nat} {m : Int} {fs zs : List Int} (hp : ∀ p ∈ ps, Pr (n : Int) p) (nd : fs.Nodup) (hf : ∀ j, j ∈ fs ↔ Rch ps m j) (pm : zs.Perm (fs.filter fun j => rB ps j m)) (pw : zs.Pairwise (· ≤ ·)) : zs = lotOf ps n m := by
  have nd2 : (lotOf ps n m).Nodup := (lot_rise ps n m).imp fun h => by omega
  refine eq_of_rise (pm.trans ((List.perm_ext_iff_of_nodup (nd.filter _) nd2).mpr fun x => ?_)) pw ((lot_rise ps n m).imp fun h => Int.le_of_lt h)
  rw [List.mem_filter, mem_lot, hf, rB_iff]
  exact ⟨fun h => ⟨(Rch.bound hp h.1).2, h⟩, fun h => h.2⟩
theorem head_iff {ps : List (List Int)} {n i : Nat} (hi : i < n) : isHead ps n (i : Int) = (decide ((i : Int) ∈ lotOf ps n (i : Int)) && decide (lotOf ps n (i : Int) ∉ partsTo ps n i)) := by
  rw [Bool.eq_iff_iff, Bool.and_eq_true, decide_eq_true_iff, decide_eq_true_iff]
  unfold isHead
  rw [decide_eq_true_iff]
  have memT : ∀ p, p ∈ partsTo ps n i ↔ ∃ m : Int, (0 ≤ m ∧ m < (i : Int)) ∧ (lotOf ps n m).head? = some m ∧ p = lotOf ps n m := fun p => by
    unfold partsTo isHead
    rw [List.mem_map]
    constructor
    · rintro ⟨m, hm, rfl⟩
      obtain ⟨h1, h2⟩ := List.mem_filter.mp hm
      obtain ⟨k, hk, e⟩ := List.getElem_of_mem h1
      rw [List.length_take, upN_len] at hk
      have e2 : ((upN n).take i)[k]? = some m := by rw [List.getElem?_eq_getElem (by rw [List.length_take, upN_len]; exact hk), e]
      rw [List.getElem?_take, if_pos (by omega), upN_get (by omega)] at e2
      have e3 : (k : Int) = m := Option.some.inj e2
      exact ⟨m, by omega, of_decide_eq_true h2, rfl⟩
    · rintro ⟨m, h1, h2, rfl⟩
      refine ⟨m, List.mem_filter.mpr ⟨?_, decide_eq_true h2⟩, rfl⟩
      refine List.mem_of_getElem? (i := m.toNat) ?_
      rw [List.getElem?_take, if_pos (by omega), upN_get (by omega), Int.toNat_of_nonneg h1.1]
  constructor
  · intro h
    refine ⟨List.mem_of_mem_head? (by rw [h]; rfl), fun z => ?_⟩
    obtain ⟨m, h1, h2, h3⟩ := (memT _).mp z
    rw [← h3, h] at h2
    have := Option.some.inj h2
    omega
  · rintro ⟨h1, h2⟩
    cases e : lotOf ps n (i : Int) with
    | nil => rw [e] at h1; cases h1
    | cons x r =>
      by_cases ex : x = (i : Int)
      · rw [ex]; rfl
      · exfalso
        have hx : x ∈ lotOf ps n (i : Int) := by rw [e]; exact List.mem_cons_self ..
        have exl := lot_eq hx
        have hlt : x < (i : Int) := by
          have rise := lot_rise ps n (i : Int)
          rw [e] at rise h1
          rcases List.mem_cons.mp h1 with z | z
          · exact absurd z.symm ex
          · exact (List.pairwise_cons.mp rise).1 _ z
        refine h2 ((memT _).mpr ⟨x, ⟨(mem_lot.mp hx).1.1, hlt⟩, by rw [exl, e]; rfl, exl.symm⟩)
theorem lexA_hd {ps : List (List Int)} {n : Nat} {p q : List Int} (hp : p ∈ partsOf ps n) (hq : q ∈ partsOf ps n) : lexA p q = decide (hd0 p < hd0 q) := by
  have irr : ∀ xs : List Int, lexA xs xs = false := fun xs => by
    induction xs with
    | nil => rfl
    | cons x xs ih =>
      show (if x = x then lexA xs xs else decide (x < x)) = false
      rw [if_pos rfl]; exact ih
  by_cases e : hd0 p = hd0 q
  · have := part_hd hp hq e
    subst this
    rw [irr, decide_eq_false (Int.lt_irrefl _)]
  · have np := part_ne hp
    have nq := part_ne hq
    cases p with
    | nil => exact absurd rfl np
    | cons x xs =>
      cases q with
      | nil => exact absurd rfl nq
      | cons y ys =>
        have e : x ≠ y := e
        show (if x = y then lexA xs ys else decide (x < y)) = decide (x < y)
        rw [if_neg e]
theorem parts_sorted {ps : List (List Int)} {n : Nat} {ls : List (List Int)} (pm : ls.Perm (partsOf ps n)) (pw : ls.Pairwise fun p q => hd0 p ≤ hd0 q) : ls = partsOf ps n :=
  List.Perm.eq_of_pairwise (le := fun p q => hd0 p ≤ hd0 q) (fun a b ha hb h1 h2 => part_hd (pm.mem_iff.mp ha) hb (Int.le_antisymm h1 h2)) pw ((parts_rise ps n).imp fun h => Int.le_of_lt h) pm
theorem any_lots (p : List Int) (ls : List (List Int)) : (ls.map RV.dI).any (fun y => PyData.eqv y (RV.dI p)) = decide (p ∈ ls) := any_dI p ls
theorem shapedLs (ls : List (List Int)) : SeqAt.shaped (.list (ls.map RV.dI)) = true := by
  have h1 := dep_dI ls
  have e : (PyData.list (ls.map RV.dI)).depth ≤ 64 := by simp only [PyData.depth]; omega
  show ((PyData.list (ls.map RV.dI)).canLay0 && decide ((PyData.list (ls.map RV.dI)).depth ≤ 64)) = true
  rw [decide_eq_true e, Bool.and_true]
  simp only [PyData.canLay0]
  exact lay_dI ls
theorem LotsH.dp {K : PySem.W.Frag} {H : Hp} {a : Addr} {ls : List (List Int)} (h : LotsH H a ls) : Dp K H (.ref a) (.list (ls.map RV.dI)) := by
  obtain ⟨ks, rfl, h2, h3⟩ := h
  exact .lst (lstNew h2) (dpTs ks fun p hp => tupNew (h3 p hp))
section
variable {P : Program} {w : World} {K : PySem.W.Frag} {mg : Str → Option Value} {base : Heap}
/-! ### _law_parts -/
abbrev nLParts : List Str := ["_law_own", "_law_mirrors", "_law_steps", "_law_reach", "_law_found", "_law_mark", "_law_some", "_law_other"]
theorem scLParts : FnScope nLParts ["_law_own"] (defScope sLParts) := ⟨rfl, rfl, rfl, by decide +kernel, rfl, by decide +kernel, by decide +kernel⟩
def spLParts (K : PySem.W.Frag) : Sp := fun vs H Q _ => ∃ (R : Addr) (ns : List Int) (ps : List (List Int)), vs = [.ref R] ∧ OwnH K H R ns ps ∧ ∀ (H' : Hp) (l : Addr), Same H H' → H l = none → LotsH H' l (partsOf ps ns.length) → Q (.ref l) H'
theorem ok_lparts {f fC : Addr} {fd dC : FuncData} (F : Fun K "_law_parts" "_law_parts" sLParts f fd) (DC : DefAt K mg "_law_come_to" sCome ["_law_steps", "_law_mark"] fC dC) (B : Bare mg) : FnOk P w K mg base CX0 2 f fd ["_law_own"] (spLParts K) := by
  have GC : FnOk P w K mg base CX0 1 fC dC ["_law_steps", "_law_mark"] (spCome K) := ok_come DC.fn B
  refine F.ok scLParts (fun vs H Q E h => ?_) (fun cdv A outer s H vs Q E hr h => ?_)
  · obtain ⟨R, ns, ps, rfl, _⟩ := h
    rfl
  · obtain ⟨R, ns, ps, rfl, ⟨u, c, o1, o2, o3, M, S⟩, q⟩ := h
    have hu5 := un65 hr
    have two : (2 : Nat) ≤ sizeLine := by decide
    refine ⟨_, pss_cons (ps_asg (pv 0) (pg_tup rfl (pgs_cons (pg_name (i := 1) scLParts.nd rfl (Or.inl rfl)) (pgs_cons (pg_name (i := 2) scLParts.nd rfl (Or.inr rfl)) pgs_nil))))
      (pss_cons (ps_asg (pe_tup (pa_cons (pe_lc (own := [("_law_mark", 5)]) (g := gName 5) (tt := tYes) rfl scLParts.nd (pi_range1 (by rfl) B.range (pa_cons (pe_callB call_len_seq (by rfl) B.len PySem.boot_len (pa_cons (pv 1) pa_nil)) pa_nil)) (blkOk_by (N := nLParts) (sc := defScope sLParts) (by decide +kernel))
            (fun _ _ _ _ _ => pg_name (i := 5) scLParts.nd rfl (Or.inl rfl)) (fun _ _ _ _ _ => pts_nil) (fun _ _ _ _ _ => pe_call GC hr (by rfl) DC.mg DC.fn.kp DC.bi .nil pass0 (pa_cons (pv 2) (pa_cons (pv 5) pa_nil))))
          (pa_cons (pe_lst pa_nil) pa_nil))) (pg_tup rfl (pgs_cons (pg_name (i := 3) scLParts.nd rfl (Or.inr rfl)) (pgs_cons (pg_name (i := 4) scLParts.nd rfl (Or.inl rfl)) pgs_nil))))
      (pss_cons (ps_for PassesOwn.never rfl (pi_range1 (by rfl) B.range (pa_cons (pe_callB call_len_seq (by rfl) B.len PySem.boot_len (pa_cons (pv 1) pa_nil)) pa_nil)) (pg_name (i := 5) scLParts.nd rfl (Or.inr rfl))
        (pss_cons (ps_set (i := 6) scLParts.nd rfl (Or.inl rfl) (pe_tupleOf (by rfl) B.tuple (pe_callB cr_sortedI (by rfl) B.sorted (by decide +kernel) (pa_cons
          (pe_lc (own := [("_law_other", 7)]) (g := gName 7) rfl scLParts.nd (pi_list (pe_ix ix_list (pv 3) (pv 5) (fun _ _ => rfl))) (blkOk_by (N := nLParts) (sc := defScope sLParts) (by decide +kernel))
            (fun _ _ _ _ _ => pg_name (i := 7) scLParts.nd rfl (Or.inl rfl)) (fun _ _ _ _ _ => pts_one (pt_cmpR (op_inDK (K := K) rfl hu5) (pv 5) (pe_ix (ix_listK (K := K) rfl) (pv 3) (pv 7) (fun _ _ => rfl)) (by rfl))) (fun _ _ _ _ _ => pv 7)) pa_nil))))
        (pss_one (ps_if (PW.pt (pw_and (pt_cmpR (op_inTI hu5) (pv 5) (pv 6) (by rfl)) (pw_and1 (pt_cmpR (op_notInD hu5) (pv 6) (pv 4) (by rfl)))))
          (pss_one (ps_expr (pe_bm PySem.F.plainAttrs_list PySem.F.slot_list_append PySem.F.type_list_append mt_append (pv 4) (pa_cons (pv 6) pa_nil)))) pss_nil))))
      (pss_one (ps_ret (pe_callB cr_sortedL (by rfl) B.sorted (by decide +kernel) (pa_cons (pv 4) pa_nil)))))), ?_⟩
    have h8 := M.few
    have hP : ∀ p ∈ ps, Pr (ns.length : Int) p := fun p hp => S.pair p hp
    -- mirrors, steps
    refine ⟨.ref R, rfl, R, _, rfl, tupNew o1, rfl, _, _, rfl, _, _, rfl, rfl, ?_⟩
    -- reach
    refine ⟨.ref u, rfl, u, _, rfl, .inr o2, _, rfl, by rw [List.length_map]; omega, by rw [List.length_map]; omega, fun D nD => ?_⟩
    rw [List.length_map, Int.toNat_natCast]
    refine lc_range (lo := 0) (n := ns.length) (fun i H' => Same H H' ∧ ∃ ws, ws.length = i ∧ Rches H' D ps ws) ⟨same_upd nD, [], rfl, upd_same, fun k x g => by simp at g⟩ (fun i H1 hi h => ?_) fun H1 h => ?_
    · obtain ⟨s1, ws, lw, hW⟩ := h
      have e0 : (0 + ((i : Nat) : Int)) = (i : Int) := by omega
      rw [e0]
      refine ⟨by simp [wipe, List.set_set], tt_yes ⟨.ref c, rfl, .int (i : Int), rfl, c, _, ns.length, ps, rfl, o3.same s1, h8, S.few, hP, S.nd, fun H2 d fs s2 nd2 ed lf nf hf => ⟨_, s2 _ _ hW.1, ?_, fun b o z => ?_, ws ++ [(d, fs)], ?_, ?_⟩⟩⟩
      · rw [List.length_map]; exact few1 (by omega)
      · rw [upd_ne (ne_of_none z nD)]; exact s2 _ _ (s1 b o z)
      · rw [List.length_append, lw]; rfl
      · have hdD : d ≠ D := (ne_of_none hW.1 nd2).symm
        refine ⟨by rw [upd_same, List.map_append]; rfl, fun k x g => ?_⟩
        by_cases hk : k < ws.length
        · rw [List.getElem?_append_left hk] at g
          obtain ⟨a1, a2, a3⟩ := hW.2 k x g
          exact ⟨by rw [upd_ne a2]; exact s2 _ _ a1, a2, a3⟩
        · have hk2 : k = ws.length := by
            have := (List.getElem?_eq_some_iff.mp g).1
            rw [List.length_append] at this
            simp at this; omega
          subst hk2
          rw [List.getElem?_append_right (Nat.le_refl _), Nat.sub_self] at g
          cases g
          exact ⟨by rw [upd_ne hdD]; exact ed, hdD, lf, nf, fun j => by rw [lw]; exact hf j⟩
    obtain ⟨s1, ws, lw, hW⟩ := h
    -- found
    refine ⟨Nat.zero_le _, fun Fo nF => ⟨two, fun T0 nT => ?_⟩⟩
    refine ⟨T0, _, rfl, tupNew upd_same, rfl, _, _, rfl, _, _, rfl, rfl, ?_⟩
    have sF := (same_upd (o := .lst []) nF).trans (same_upd (o := .tup [.ref D, .ref Fo]) nT)
    have nFH : H Fo = none := s1.free nF
    have eF0 : (upd (upd H1 Fo (.lst [])) T0 (.tup [.ref D, .ref Fo])) Fo = some (.lst []) := by
      rw [upd_ne (ne_of_none upd_same nT), upd_same]
    have hFD : ∀ (k : Nat) (x : Addr × List Int), ws[k]? = some x → x.1 ≠ Fo := fun k x g => ne_of_none (hW.2 k x g).1 nF
    have hDF : D ≠ Fo := ne_of_none hW.1 nF
    have s2 := s1.trans sF
    have hW2 := hW.same sF
    generalize upd (upd H1 Fo (.lst [])) T0 (.tup [.ref D, .ref Fo]) = H2 at eF0 s2 hW2 ⊢
    clear hW sF nF nT s1
    refine ⟨.ref u, rfl, u, _, rfl, .inr (sqT_same s2 o2), _, rfl, by rw [List.length_map]; omega, by rw [List.length_map]; omega, ?_⟩
    rw [List.length_map, Int.toNat_natCast]
    refine for_range (lo := 0) (n := ns.length) (fun i σ H' => ∃ (y5 y6 y7 : Option V), σ = [some (.ref R), some (.ref u), some (.ref c), some (.ref D), some (.ref Fo), y5, y6, y7] ∧ Same H H' ∧ Rches H' D ps ws ∧ LotsH H' Fo (partsTo ps ns.length i))
      ⟨_, _, _, rfl, s2, hW2, [], rfl, eF0, fun _ z => nomatch z⟩ (fun i σ H3 hi h => ?_) (fun σ H3 h => ?_)
    · obtain ⟨y5, y6, y7, rfl, s3, hW3, hL3⟩ := h
      have e0 : (0 + ((i : Nat) : Int)) = (i : Int) := by omega
      rw [e0]
      obtain ⟨wi, gi⟩ : ∃ x, ws[i]? = some x := ⟨_, List.getElem?_eq_getElem (by omega)⟩
      obtain ⟨e1, _, l1, n1, m1⟩ := hW3.2 i wi gi
      refine ⟨.ref D, rfl, .int (i : Int), rfl, D, _, _, .ref wi.1, rfl, rfl, lstNew hW3.1, atI_nat (by rw [List.getElem?_map, gi]; rfl), wi.1, rfl, ⟨_, lstNew e1⟩, fun D2 nD2 => ?_⟩
      refine lc_filtL (f := fun y => rB ps y (i : Int)) (lstNew e1) (by omega) nD2 (fun y hy H' s' A B k => ?_) (fun y H' Q' k => ⟨.int y, rfl, k⟩) fun H4 s4 e4 => ?_
      · have by_ := (Rch.bound hP ((m1 y).mp hy)).2
        obtain ⟨wy, gy⟩ : ∃ x, ws[y.toNat]? = some x := ⟨_, List.getElem?_eq_getElem (by omega)⟩
        obtain ⟨a1, _, _, _, a5⟩ := (hW3.same s').2 y.toNat wy gy
        rw [Int.toNat_of_nonneg by_.1] at a5
        refine ⟨.int (i : Int), rfl, .ref D, rfl, .int y, rfl, D, _, _, .ref wy.1, rfl, rfl, lstNew (s' _ _ hW3.1), ?_, .int (i : Int), wy.2.map PyData.int, .int _, dpL (lstNew a1), shapedN _, shapedLI _, _, rfl, ?_⟩
        · rw [show y = ((y.toNat : Nat) : Int) by omega]
          exact atI_nat (by rw [List.getElem?_map, gy]; rfl)
        · rw [any_int]
          have e : decide ((i : Int) ∈ wy.2) = rB ps y (i : Int) := by
            rw [Bool.eq_iff_iff, decide_eq_true_iff, rB_iff]
            exact a5 _
          rw [e]
          exact k H' (Same.refl H')
      refine ⟨D2, _, rfl, lstNew e4, fun zs Z pm pw nZ => .inl ⟨Z, _, rfl, lstNew upd_same, fun U nU => ?_⟩⟩
      have ez := some_lot (n := ns.length) hP n1 m1 pm pw
      subst ez
      have sZ := (same_upd (o := .lst ((lotOf ps ns.length (i : Int)).map V.int)) nZ).trans (same_upd (o := .tup ((lotOf ps ns.length (i : Int)).map V.int)) nU)
      have eU : (upd (upd H4 Z (.lst ((lotOf ps ns.length (i : Int)).map V.int))) U (.tup ((lotOf ps ns.length (i : Int)).map V.int))) U = some (.tup ((lotOf ps ns.length (i : Int)).map V.int)) := upd_same
      have s5 := s4.trans sZ
      have s05 := s3.trans s5
      have hW5 := hW3.same s5
      have hL5 := hL3.same s5
      generalize upd (upd H4 Z (.lst ((lotOf ps ns.length (i : Int)).map V.int))) U (.tup ((lotOf ps ns.length (i : Int)).map V.int)) = H5 at eU s05 hW5 hL5 ⊢
      have hh := head_iff (ps := ps) hi
      have nxt := partsTo_next (ps := ps) (upN_get hi)
      refine ⟨.int (i : Int), rfl, .ref U, rfl, U, _, _, rfl, rfl, tupNew eU, _, rfl, ?_⟩
      by_cases c1 : (i : Int) ∈ lotOf ps ns.length (i : Int)
      · rw [decide_eq_true c1]
        rw [decide_eq_true c1, Bool.true_and] at hh
        refine iteT ⟨.ref U, rfl, .ref Fo, rfl, RV.dI _, (partsTo ps ns.length i).map RV.dI, dpT (tupNew eU), hL5.dp, shapedI _, shapedLs _, _, rfl, ?_⟩
        rw [any_lots, ← decide_not, ← hh]
        cases e : isHead ps ns.length (i : Int) with
        | true =>
          rw [e, if_pos rfl] at nxt
          obtain ⟨ks, k1, k2, k3⟩ := hL5
          have lk : ks.length ≤ ns.length := by rw [← List.length_map (f := (·.2)), k1]; exact partsTo_len _ _ _
          refine iteT ⟨.ref Fo, rfl, .inl ⟨rfl, _, lstNew k2⟩, .ref U, rfl, Fo, _, _, rfl, rfl, k2, by rw [List.length_map]; exact few1 (by omega), ?_⟩
          have kp : ∀ (b : Addr) (o : HO), H5 b = some o → b ≠ Fo → (upd H5 Fo (.lst ((ks.map fun p => V.ref p.1) ++ [.ref U]))) b = some o := fun b o e z => by rw [upd_ne z]; exact e
          refine ⟨_, _, _, rfl, fun b o z => ?_, ⟨kp _ _ hW5.1 hDF, fun k x g => ?_⟩, ks ++ [(U, lotOf ps ns.length (i : Int))], ?_, ?_, fun p hp => ?_⟩
          · rw [upd_ne (ne_of_none z nFH)]; exact s05 b o z
          · obtain ⟨a1, a2⟩ := hW5.2 k x g
            exact ⟨kp _ _ a1 (hFD k x g), a2⟩
          · rw [List.map_append, k1, nxt]; rfl
          · rw [upd_same, List.map_append]; rfl
          · rcases List.mem_append.mp hp with z | z
            · have e9 := k3 p z
              exact kp _ _ e9 fun z => by rw [z, k2] at e9; cases e9
            · rw [List.mem_singleton.mp z]
              exact kp _ _ eU fun z => by have z : U = Fo := z; rw [z, k2] at eU; cases eU
        | false =>
          rw [e, if_neg (by decide), List.append_nil] at nxt
          refine iteF ⟨_, _, _, rfl, s05, hW5, ?_⟩
          rw [nxt]; exact hL5
      · rw [decide_eq_false c1]
        rw [decide_eq_false c1, Bool.false_and] at hh
        rw [hh, if_neg (by decide), List.append_nil] at nxt
        refine iteF (A := True) ⟨_, _, _, rfl, s05, hW5, ?_⟩
        rw [nxt]; exact hL5
    · obtain ⟨y5, y6, y7, rfl, s3, hW3, hL3⟩ := h
      rw [partsTo_all] at hL3
      obtain ⟨ks, k1, k2, k3⟩ := hL3
      have lk : ks.length ≤ 8 := by rw [← List.length_map (f := (·.2)), k1]; exact Nat.le_trans (parts_len _ _) h8
      have mk : ∀ p ∈ ks, p.2 ∈ partsOf ps ns.length := fun p hp => by rw [← k1]; exact List.mem_map_of_mem hp
      refine ⟨.ref Fo, rfl, Fo, ks, hd0, rfl, lstNew k2, fun p hp => tupNew (k3 p hp), by rw [k1]; exact parts_nodup _ _, by omega, fun p hp => part_ne (mk p hp), fun p hp p' hp' => lexA_hd (mk p hp) (mk p' hp'), fun L' Z pm pw nZ => ?_⟩
      have e9 : L'.map (·.2) = partsOf ps ns.length := parts_sorted (by rw [← k1]; exact pm.map _) (List.pairwise_map.mpr pw)
      have sZ := same_upd (o := .lst (L'.map fun q => V.ref q.1)) nZ
      exact q _ Z (s3.trans sZ) (s3.free nZ) ⟨L', e9, upd_same, fun p hp => sZ _ _ (k3 p (pm.mem_iff.mp hp))⟩
end
end K75
set_option maxHeartbeats 4000000
namespace RV
open PySem PySem.Spec PyProof.Rows L2
section
variable {X : Cx} {K : PySem.W.Frag}
/-- t + u of any two tuples, wherever the sum stands -/
def rCatW (K : PySem.W.Frag) : R2 := fun x y H Q => ∃ a b xs ys, x = .ref a ∧ y = .ref b ∧ SqT K H a xs ∧ SqT K H b ys ∧ xs.length + ys.length ≤ sizeLine ∧ ∀ (p : Addr) (H' : Hp), Same H H' → SqT K H' p (xs ++ ys) → Q (.ref p) H'
theorem op_catW : OpR X (binaryOp .Add) (rCatW X.K) := by
  intro pins s σ H x y v u Q I rx ry h
  obtain ⟨a, b, xs, ys, e1, e2, h1, h2, hl, q⟩ := h
  refine op_catA pins s σ H x y v u Q I rx ry ⟨a, b, xs, ys, e1, e2, h1, h2, hl, fun z => ?_, fun _ z => ?_, fun _ _ p np => ?_⟩
  · exact q b H (fun _ _ e => e) (by rw [z]; exact h2)
  · exact q a H (fun _ _ e => e) (by rw [z, List.append_nil]; exact h1)
  · exact q p _ (same_upd np) (tupNew upd_same)
theorem op_catWK (h : X.K = K) : OpR X (binaryOp .Add) (rCatW K) := h ▸ op_catW
/-- t[lo:hi], wherever the slice stands -/
def rSlW (K : PySem.W.Frag) : V → Option Int → Option Int → Hp → VK → Prop := fun x lo hi H Q => ∃ a xs, x = .ref a ∧ SqT K H a xs ∧ ∀ (p : Addr) (H' : Hp), Same H H' → SqT K H' p (cutV xs lo hi) → Q (.ref p) H'
theorem sl_tupW : SlR X (rSlW X.K) := by
  intro pins s σ H x v vl vu lo hi sl Q I rx hs pl pu h
  obtain ⟨a, xs, e, h1, q⟩ := h
  refine sl_tupA pins s σ H x v vl vu lo hi sl Q I rx hs pl pu ⟨a, xs, e, h1, fun z => ?_, fun _ p np => ?_⟩
  · refine q a H (fun _ _ e => e) ?_
    unfold cutV
    rw [z.1, z.2, List.drop_zero, Nat.sub_zero, List.take_of_length_le (Nat.le_refl _)]
    exact h1
  · exact q p _ (same_upd np) (tupNew upd_same)
theorem sl_tupWK (h : X.K = K) : SlR X (rSlW K) := h ▸ sl_tupW
theorem cut_from (xs : List V) (k : Nat) : cutV xs (some (k : Int)) none = xs.drop k := by
  unfold cutV
  rw [HT.sIx_nat, HT.sIx_none]
  rcases Nat.le_total k xs.length with h | h
  · rw [Nat.min_eq_left h, List.take_of_length_le (by rw [List.length_drop]; exact Nat.le_refl _)]
  · rw [Nat.min_eq_right h, Nat.sub_self, List.take_zero, List.drop_eq_nil_of_le h]
theorem cut_to (xs : List V) (k : Nat) : cutV xs none (some (k : Int)) = xs.take k := by
  unfold cutV
  rw [HT.sIx_nat, HT.sIx_none, List.drop_zero, Nat.sub_zero]
  rcases Nat.le_total k xs.length with h | h
  · rw [Nat.min_eq_left h]
  · rw [Nat.min_eq_right h, List.take_of_length_le (Nat.le_refl _), List.take_of_length_le h]
theorem tuple_mul1 (l : Addr) (items : Array Value) (n : Nat) (dd : Option Addr) (sl : Array (Option Value)) (x : Int) (u : Tok) (c0 : (decide (x < -(2 ^ 63)) || decide (x ≥ 2 ^ 63)) = false) (c1 : (items.isEmpty || x == 1) = true) :
    Meets (Builtin.«tuple.__mul__» ⟨[.ref l, .int x u], []⟩) (fun _ R s => s.heap.get? l = some { cls := .type "tuple", dict := dd, data := .seq items n, slots := sl } ∧ R (.ok (.ret (Value.ref l))) s) :=
  .of_wp fun prog w A R s h => by
    obtain ⟨hp, g, d, tk, os⟩ := s
    obtain ⟨hl, h⟩ := h
    have f1 := AutoSeq1.idx_int
    wp_walk using wpAny_loadPart' hl
    repeat (first
      | (refine wpAny_ite_false (decide_eq_false (by rw [c0]; exact Bool.false_ne_true)) ?_; wp_walk using wpAny_loadPart' hl)
      | (refine wpAny_ite_true (decide_eq_true (by rw [c1])) ?_; wp_walk using wpAny_loadPart' hl))
    exact ⟨_, rfl, h⟩
theorem tuple_mul0 (l : Addr) (items : Array Value) (n : Nat) (dd : Option Addr) (sl : Array (Option Value)) (x : Int) (u : Tok) (c0 : (decide (x < -(2 ^ 63)) || decide (x ≥ 2 ^ 63)) = false) (c1 : (items.isEmpty || x == 1) = false) (c2 : (decide (x ≤ 0) || items.isEmpty) = true) :
    Meets (Builtin.«tuple.__mul__» ⟨[.ref l, .int x u], []⟩) (fun _ R s => s.heap.get? l = some { cls := .type "tuple", dict := dd, data := .seq items n, slots := sl } ∧ R (.ok (.ret (Value.ref s.heap.objs.size))) { s with heap := s.heap.push { cls := Value.type "tuple", data := Data.seq #[] }, toks := s.toks }) :=
  .of_wp fun prog w A R s h => by
    obtain ⟨hp, g, d, tk, os⟩ := s
    obtain ⟨hl, h⟩ := h
    have f1 := AutoSeq1.idx_int
    wp_walk using wpAny_loadPart' hl
    repeat (first
      | (refine wpAny_ite_false (decide_eq_false (by rw [c0]; exact Bool.false_ne_true)) ?_; wp_walk using wpAny_loadPart' hl)
      | (refine wpAny_ite_false (decide_eq_false (by rw [c1]; exact Bool.false_ne_true)) ?_; wp_walk using wpAny_loadPart' hl)
      | (refine wpAny_ite_true (decide_eq_true (by rw [c2])) ?_; wp_walk using wpAny_loadPart' hl))
    exact ⟨_, rfl, h⟩
/-- t * k, k from 0 on -/
def rRepW (K : PySem.W.Frag) : R2 := fun x y H Q => ∃ l k xs, x = .ref l ∧ y = .int k ∧ SqT K H l xs ∧ 0 ≤ k ∧ k ≤ 1000 ∧ xs.length ≤ 1000 ∧ ∀ (p : Addr) (H' : Hp), Same H H' → SqT K H' p (List.replicate k.toNat xs).flatten → Q (.ref p) H'
theorem flat_nil : ∀ m : Nat, (List.replicate m ([] : List V)).flatten = []
  | 0 => rfl
  | m + 1 => by rw [List.replicate_succ, List.flatten_cons, flat_nil m]; rfl
theorem op_repW : OpR X (binaryOp .Mult) (rRepW X.K) := by
  intro pins s σ H x y v u Q I rx ry h
  obtain ⟨l, k, xs, rfl, rfl, hT, h0, h1, hz, q⟩ := h
  by_cases hbig : xs ≠ [] ∧ 2 ≤ k
  · exact op_repT pins s σ H _ _ v u Q I rx ry ⟨l, k, xs, rfl, rfl, hT, hbig.1, hbig.2, h1, hz, fun p np => q p _ (same_upd np) (tupNew upd_same)⟩
  cases rx
  obtain ⟨t, rfl⟩ := ry
  obtain ⟨its, r, ⟨⟨cls, dd, data, sl⟩, ho, hc, n, hd⟩, hs⟩ := I.tuple hT
  simp only at hc hd
  subst hc hd
  have hle : its.length = xs.length := r.length.symm
  have c0 : (decide (k < -(2 ^ 63)) || decide (k ≥ 2 ^ 63)) = false := by
    rw [decide_eq_false (by omega), decide_eq_false (by omega)] <;> rfl
  by_cases e1 : xs = [] ∨ k = 1
  · have c1 : (its.toArray.isEmpty || k == 1) = true := by
      rcases e1 with e | e
      · have : its = [] := List.eq_nil_of_length_eq_zero (by rw [hle, e]; rfl)
        rw [this]; rfl
      · rw [e]; simp
    refine wpAny_binaryOp_repeat_ref (T := "tuple") (U := "int") (by decide) ⟨_, ho, rfl⟩ (fun s' => typeIs_int s' k t) noFill_tuple_mul F.fills_int_mul F.slot_int_rmul repeat_tuple F.slot_int_index.lookup
      (call_meets F.slot_int_rmul (typeIs_int s k t) F.entry_int_rmul (F.args_int_rmul_2 _ _) (int_rmul_tuple k t l its.toArray n dd sl)
        ⟨ho, rfl, ⟨_, ho, rfl⟩, call_meets F.slot_tuple_mul ⟨_, ho, rfl⟩ F.entry_tuple_mul (F.args_tuple_mul_2 _ _) (tuple_mul1 l its.toArray n dd sl k t c0 c1) ⟨ho, ?_⟩⟩)
    refine ⟨.ref l, H, I, rfl, q l H (fun _ _ e => e) ?_⟩
    rcases e1 with e | e
    · subst e; rw [flat_nil]; exact hT
    · subst e
      show SqT X.K H l ([xs].flatten)
      rw [List.flatten_cons, List.flatten_nil, List.append_nil]; exact hT
  · have e2 : xs ≠ [] := fun e => e1 (.inl e)
    have e3 : k = 0 := by
      rcases Int.lt_or_le k 2 with z | z
      · have : k ≠ 1 := fun e => e1 (.inr e)
        omega
      · exact absurd ⟨e2, z⟩ hbig
    have hi : its.toArray.isEmpty = false := by
      cases its with
      | nil => exact absurd (List.eq_nil_of_length_eq_zero hle.symm) e2
      | cons a b => rfl
    have c1 : (its.toArray.isEmpty || k == 1) = false := by
      rw [hi, e3]; rfl
    have c2 : (decide (k ≤ 0) || its.toArray.isEmpty) = true := by
      rw [e3]; rfl
    refine wpAny_binaryOp_repeat_ref (T := "tuple") (U := "int") (by decide) ⟨_, ho, rfl⟩ (fun s' => typeIs_int s' k t) noFill_tuple_mul F.fills_int_mul F.slot_int_rmul repeat_tuple F.slot_int_index.lookup
      (call_meets F.slot_int_rmul (typeIs_int s k t) F.entry_int_rmul (F.args_int_rmul_2 _ _) (int_rmul_tuple k t l its.toArray n dd sl)
        ⟨ho, rfl, ⟨_, ho, rfl⟩, call_meets F.slot_tuple_mul ⟨_, ho, rfl⟩ F.entry_tuple_mul (F.args_tuple_mul_2 _ _) (tuple_mul0 l its.toArray n dd sl k t c0 c1 c2) ⟨ho, ?_⟩⟩)
    refine ⟨.ref s.heap.objs.size, _, I.laid (t' := s.toks) (o := .tup []) (fun b ob q => Heap.get?_push_of_some _ q) (Nat.le_refl _) ?_, rfl, q _ _ (same_upd (I.hok.fresh (Nat.le_refl _))) (by rw [e3]; exact tupNew upd_same)⟩
    exact ⟨Nat.zero_le _, [], .nil, IsTup.new _ _⟩
theorem op_eqI1K (h : X.K = K) (hu : X.A.units + 64 < cLine) : OpR X (compareOp .Eq) (rEqI1 K) := h ▸ op_eqI1 hu
theorem op_repWK (h : X.K = K) : OpR X (binaryOp .Mult) (rRepW K) := h ▸ op_repW
end
/-- [h(x) for x in t], t a tuple of ints -/
theorem lc_mapT {K : PySem.W.Frag} {te : TE} {h : Int → Int} {σ : L2.St} {H1 : Hp} {a D : Addr} {v : Nat} {ns : List Int} {Qd : Hp → Prop} (hT : SqT K H1 a (ns.map V.int)) (hl : ns.length ≤ 1000) (nD : H1 D = none)
    (hte : ∀ x ∈ ns, ∀ (H' : Hp) (Q : VK), Same H1 H' → (∀ H2, Same H' H2 → Q (.int (h x)) H2) → te ((wipe σ [v]).set v (some (.int x))) H' Q)
    (hd : ∀ H', Same H1 H' → H' D = some (.lst ((ns.map h).map V.int)) → Qd H') :
    ∃ W : Nat → Nat → Hp → Prop, (∃ m, W 0 m (upd H1 D (.lst []))) ∧ ∀ i m H, W i m H →
      ((Itt K a).stop i H ∧ Qd H) ∨ ((Itt K a).go i H ∧ ∃ Nx : Hp → Prop, (∀ H', Nx H' → ∃ m', m' < m ∧ W (i + 1) m' H') ∧ ∀ x H', (Itt K a).yld i H x H' → gName v x (wipe σ [v]) H' fun σ2 H2 => wipe σ2 [v] = wipe σ [v] ∧ tYes σ2 H2 fun b H3 =>
        if b = true then te σ2 H3 fun y H4 => ∃ acc, H4 D = some (.lst acc) ∧ acc.length < sizeLine ∧ Nx (upd H4 D (.lst (acc ++ [y]))) else Nx H3) := by
  refine lc_tup (K := K) (a := a) (xs := ns.map V.int) (fun i H' => Same H1 H' ∧ H' D = some (.lst (((ns.take i).map h).map V.int))) ⟨same_upd nD, upd_same⟩ (fun i H' _ p => sqT_same p.1 hT) (fun i x H' hx p => ?_) fun H' p => ?_
  · obtain ⟨k, g, rfl⟩ := map_at hx
    refine ⟨by simp [wipe, List.set_set], tt_yes (hte k (List.mem_of_getElem? g) H' _ p.1 fun H2 s2 => ⟨_, s2 _ _ p.2, ?_, fun b o z => ?_, ?_⟩)⟩
    · rw [List.length_map, List.length_map, List.length_take]; exact few1 (by omega)
    · rw [upd_ne (ne_of_none z nD)]; exact s2 _ _ (p.1 b o z)
    · rw [upd_same, List.take_add_one, g, List.map_append, List.map_append]; rfl
  · rw [List.length_map, List.take_of_length_le (Nat.le_refl _)] at p
    exact hd H' p.1 p.2
end RV
set_option maxHeartbeats 4000000
/-! how many walks there are -/
namespace RV
/-- the sum of f over l -/
def sm {α : Type} (l : List α) (f : α → Int) : Int := (l.map f).sum
section
variable {α β : Type}
theorem sm_nil (f : α → Int) : sm [] f = 0 := rfl
theorem sm_cons (a : α) (l : List α) (f : α → Int) : sm (a :: l) f = f a + sm l f := by unfold sm; rw [List.map_cons, List.sum_cons]
theorem sm_app (l r : List α) (f : α → Int) : sm (l ++ r) f = sm l f + sm r f := by unfold sm; rw [List.map_append, List.sum_append]
theorem sm_congr {l : List α} {f g : α → Int} (h : ∀ a ∈ l, f a = g a) : sm l f = sm l g := by unfold sm; rw [List.map_congr_left h]
theorem sm_zero {l : List α} {f : α → Int} (h : ∀ a ∈ l, f a = 0) : sm l f = 0 := by
  induction l with
  | nil => rfl
  | cons a l ih => rw [sm_cons, h a (List.mem_cons_self ..), ih fun b hb => h b (List.mem_cons_of_mem _ hb)]; rfl
theorem sm_add (l : List α) (f g : α → Int) : sm l (fun a => f a + g a) = sm l f + sm l g := by
  induction l with
  | nil => rfl
  | cons a l ih => rw [sm_cons, sm_cons, sm_cons, ih]; omega
theorem sm_mul (l : List α) (f : α → Int) (c : Int) : sm l (fun a => c * f a) = c * sm l f := by
  induction l with
  | nil => rw [sm_nil, sm_nil, Int.mul_zero]
  | cons a l ih => rw [sm_cons, sm_cons, ih, Int.mul_add]
theorem sm_comm (l : List α) (r : List β) (F : α → β → Int) : sm l (fun a => sm r (F a)) = sm r (fun b => sm l fun a => F a b) := by
  induction l with
  | nil => exact (sm_zero fun b _ => rfl).symm
  | cons a l ih =>
    rw [sm_cons, ih, ← sm_add]
    exact sm_congr fun b _ => (sm_cons a l fun a => F a b).symm
theorem sm_map {γ : Type} (l : List γ) (g : γ → α) (f : α → Int) : sm (l.map g) f = sm l (fun c => f (g c)) := by unfold sm; rw [List.map_map]; rfl
theorem sm_filter (l : List α) (c : α → Bool) (f : α → Int) : sm (l.filter c) f = sm l fun a => if c a = true then f a else 0 := by
  induction l with
  | nil => rfl
  | cons a l ih =>
    rw [List.filter_cons, sm_cons]
    by_cases e : c a = true
    · rw [if_pos e, if_pos e, sm_cons, ih]
    · rw [if_neg e, if_neg e, ih, Int.zero_add]
theorem sm_flat (l : List (List α)) (f : α → Int) : sm l.flatten f = sm l fun r => sm r f := by
  induction l with
  | nil => rfl
  | cons a l ih => rw [List.flatten_cons, sm_app, sm_cons, ih]
theorem sm_len (l : List α) : sm l (fun _ => 1) = (l.length : Int) := by
  induction l with
  | nil => rfl
  | cons a l ih => rw [sm_cons, ih, List.length_cons]; omega
theorem sm_at [DecidableEq α] {l : List α} (nd : l.Nodup) {a : α} (ha : a ∈ l) (f : α → Int) : sm l (fun b => if b = a then f b else 0) = f a := by
  induction l with
  | nil => cases ha
  | cons b l ih =>
    rw [sm_cons]
    have nd' := List.nodup_cons.mp nd
    by_cases e : b = a
    · rw [if_pos e, sm_zero fun c hc => if_neg fun z => nd'.1 (by rw [e, ← z]; exact hc), e, Int.add_zero]
    · rw [if_neg e, ih nd'.2 ((List.mem_cons.mp ha).resolve_left fun z => e z.symm), Int.zero_add]
theorem sm_out [DecidableEq α] {l : List α} {a : α} (ha : a ∉ l) (f : α → Int) : sm l (fun b => if b = a then f b else 0) = 0 := sm_zero fun b hb => if_neg fun z => ha (by rw [← z]; exact hb)
/-- the sum over xs is that over l where f is nought elsewhere -/
theorem sm_part [DecidableEq α] {l : List α} (ndl : l.Nodup) (f : α → Int) : ∀ {xs : List α}, xs.Nodup → (∀ x ∈ xs, x ∉ l → f x = 0) → sm xs f = sm l fun y => if y ∈ xs then f y else 0
  | [], _, _ => by rw [sm_nil, sm_zero fun y _ => if_neg (by simp)]
  | x :: xs, nd, h => by
    have nd' := List.nodup_cons.mp nd
    rw [sm_cons, sm_part ndl f nd'.2 fun y hy => h y (List.mem_cons_of_mem _ hy)]
    have e1 : sm l (fun y => if y ∈ x :: xs then f y else 0) = sm l (fun y => (if y = x then f y else 0) + (if y ∈ xs then f y else 0)) := sm_congr fun y _ => by
      by_cases e : y = x
      · subst e
        rw [if_pos (List.mem_cons_self ..), if_pos rfl, if_neg nd'.1, Int.add_zero]
      · rw [if_neg e, Int.zero_add]
        by_cases e2 : y ∈ xs
        · rw [if_pos e2, if_pos (List.mem_cons_of_mem _ e2)]
        · rw [if_neg e2, if_neg fun z => (List.mem_cons.mp z).elim e e2]
    rw [e1, sm_add]
    by_cases hx : x ∈ l
    · rw [sm_at ndl hx]
    · rw [sm_out hx, h x (List.mem_cons_self ..) hx]
end
/-- one step on: what comes to j -/
def stp (ps : List (List Int)) (f : Int → Int) (j : Int) : Int := sm (ps.filter fun p => decide (p.getD 1 0 = j)) fun p => f (p.getD 0 0)
theorem stp_next {ps : List (List Int)} {f : Int → Int} {i : Nat} {x y : Int} (h : ps[i]? = some [x, y]) (j : Int) : stp (ps.take (i + 1)) f j = stp (ps.take i) f j + (if y = j then f x else 0) := by
  unfold stp
  rw [List.take_add_one, h]
  show sm ((ps.take i ++ [[x, y]]).filter _) _ = _
  rw [List.filter_append, sm_app]
  congr 1
  by_cases e : y = j
  · rw [if_pos e, List.filter_cons, if_pos (by exact decide_eq_true e)]
    exact Int.add_zero _
  · rw [if_neg e, List.filter_cons, if_neg (by show ¬ decide (y = j) = true; rw [decide_eq_false e]; decide)]
    rfl
/-- all walks of n steps from m to j -/
def cw (ps : List (List Int)) : Nat → Int → Int → Int
  | 0, m, j => if j = m then 1 else 0
  | n + 1, m, j => stp ps (cw ps n m) j
/-- those that keep to p -/
def lw (ps : List (List Int)) (p : List Int) : Nat → Int → Int → Int
  | 0, m, j => if j = m then 1 else 0
  | n + 1, m, j => if j ∈ p then stp ps (lw ps p n m) j else 0
theorem stp_mem {ps : List (List Int)} {b : Int} (hP : ∀ q ∈ ps, Pr b q) {j : Int} {q : List Int} (h : q ∈ ps.filter fun p => decide (p.getD 1 0 = j)) : [q.getD 0 0, j] ∈ ps := by
  obtain ⟨h1, h2⟩ := List.mem_filter.mp h
  obtain ⟨x, y, rfl, _⟩ := hP q h1
  have e : y = j := of_decide_eq_true h2
  rw [← e]; exact h1
theorem cw_rch {ps : List (List Int)} {b : Int} (hP : ∀ q ∈ ps, Pr b q) {m : Int} : ∀ {n : Nat} {j : Int}, cw ps n m j ≠ 0 → j = m ∨ Rch ps m j
  | 0, j, h => by
    by_cases e : j = m
    · exact .inl e
    · exact absurd (if_neg e) h
  | n + 1, j, h => by
    refine Classical.byContradiction fun no => h ?_
    show stp ps (cw ps n m) j = 0
    refine sm_zero fun q hq => Classical.byContradiction fun z => no (.inr ?_)
    have e := stp_mem hP hq
    rcases cw_rch hP z with e2 | e2
    · rw [← e2]; exact .one e
    · exact .more e2 e
/-- a walk from a mark of a lot back into it never leaves it -/
theorem lw_cw {ps : List (List Int)} {N : Nat} (hP : ∀ q ∈ ps, Pr (N : Int) q) {m : Int} (hm : m ∈ lotOf ps N m) : ∀ (n : Nat), (∀ j, j ∈ lotOf ps N m → lw ps (lotOf ps N m) n m j = cw ps n m j) ∧ (∀ j, j ∉ lotOf ps N m → lw ps (lotOf ps N m) n m j = 0)
  | 0 => ⟨fun j _ => rfl, fun j h => if_neg fun e => h (by rw [e]; exact hm)⟩
  | n + 1 => by
    obtain ⟨h1, h2⟩ := lw_cw hP hm n
    refine ⟨fun j hj => ?_, fun j hj => if_neg hj⟩
    show (if j ∈ lotOf ps N m then stp ps (lw ps (lotOf ps N m) n m) j else 0) = stp ps (cw ps n m) j
    rw [if_pos hj]
    refine sm_congr fun q hq => ?_
    have e := stp_mem hP hq
    by_cases c : q.getD 0 0 ∈ lotOf ps N m
    · exact h1 _ c
    · rw [h2 _ c]
      refine Classical.byContradiction fun z => c ?_
      have r := cw_rch hP (fun y => z y.symm)
      obtain ⟨_, j1, j2⟩ := mem_lot.mp hj
      have back : Rch ps (q.getD 0 0) m := (Rch.one e).trans j2
      rcases r with r | r
      · rw [r]; exact hm
      · exact mem_lot.mpr ⟨(Rch.bound hP (.one e)).1, r, back⟩
/-- one step on within p, by the marks of p -/
theorem stp_part {ps : List (List Int)} {b : Int} (hP : ∀ q ∈ ps, Pr b q) (nd : ps.Nodup) {p : List Int} (ndp : p.Nodup) {f : Int → Int} (hf : ∀ a, a ∉ p → f a = 0) (j : Int) : stp ps f j = sm p fun a => if [a, j] ∈ ps then f a else 0 := by
  unfold stp
  have e1 : sm (ps.filter fun p => decide (p.getD 1 0 = j)) (fun q => f (q.getD 0 0)) = sm ((ps.filter fun p => decide (p.getD 1 0 = j)).map fun q => q.getD 0 0) f := (sm_map _ _ _).symm
  rw [e1]
  have ndx : ((ps.filter fun p => decide (p.getD 1 0 = j)).map fun q => q.getD 0 0).Nodup := by
    refine List.pairwise_map.mpr (List.Pairwise.imp_of_mem (fun {x y} hx hy ne e => ne ?_) (nd.filter _))
    obtain ⟨x1, x2⟩ := List.mem_filter.mp hx
    obtain ⟨y1, y2⟩ := List.mem_filter.mp hy
    obtain ⟨a, b', rfl, _⟩ := hP x x1
    obtain ⟨c, d, rfl, _⟩ := hP y y1
    have e1 : b' = j := of_decide_eq_true x2
    have e2 : d = j := of_decide_eq_true y2
    have e3 : a = c := e
    rw [e1, e2, e3]
  rw [sm_part ndp f ndx fun x _ hx => hf x hx]
  refine sm_congr fun a _ => ?_
  have iff : a ∈ ((ps.filter fun p => decide (p.getD 1 0 = j)).map fun q => q.getD 0 0) ↔ [a, j] ∈ ps := by
    rw [List.mem_map]
    constructor
    · rintro ⟨q, hq, rfl⟩
      exact stp_mem hP hq
    · intro h
      exact ⟨[a, j], List.mem_filter.mpr ⟨h, decide_eq_true rfl⟩, rfl⟩
  by_cases c : [a, j] ∈ ps
  · rw [if_pos c, if_pos (iff.mpr c)]
  · rw [if_neg c, if_neg fun z => c (iff.mp z)]
/-! ### rows of marks, each behind the one ahead, of p -/
def lst0 (r : List Int) : Int := r.getLastD 0
/-- all rows one mark longer -/
def longer (ps : List (List Int)) (p : List Int) (rows : List (List Int)) : List (List Int) := (rows.map fun r => (p.filter fun b => decide ([lst0 r, b] ∈ ps)).map fun b => r ++ [b]).flatten
def rowsN (ps : List (List Int)) (p : List Int) : Nat → List (List Int)
  | 0 => p.map fun m => [m]
  | n + 1 => longer ps p (rowsN ps p n)
theorem rows_ne {ps : List (List Int)} {p : List Int} : ∀ {n : Nat} {r : List Int}, r ∈ rowsN ps p n → r ≠ []
  | 0, r, h => by
    obtain ⟨m, _, rfl⟩ := List.mem_map.mp h
    simp
  | n + 1, r, h => by
    obtain ⟨l, hl, hr⟩ := List.mem_flatten.mp h
    obtain ⟨r', _, rfl⟩ := List.mem_map.mp hl
    obtain ⟨b, _, rfl⟩ := List.mem_map.mp hr
    simp
theorem hd_app {r : List Int} (h : r ≠ []) (b : Int) : hd0 (r ++ [b]) = hd0 r := by
  cases r with
  | nil => exact absurd rfl h
  | cons x r => rfl
theorem lst_app (r : List Int) (b : Int) : lst0 (r ++ [b]) = b := by unfold lst0; simp
/-- how often each first and last mark comes -/
theorem rows_sum {ps : List (List Int)} {N : Nat} (hP : ∀ q ∈ ps, Pr (N : Int) q) (nd : ps.Nodup) {p : List Int} (hp : ∀ m ∈ p, lotOf ps N m = p) : ∀ (n : Nat) (φ : Int → Int → Int), sm (rowsN ps p n) (fun r => φ (hd0 r) (lst0 r)) = sm p fun m => sm p fun j => lw ps p n m j * φ m j
  | 0, φ => by
    show sm (p.map fun m => [m]) (fun r => φ (hd0 r) (lst0 r)) = _
    rw [sm_map]
    refine sm_congr fun m hm => ?_
    have ndp : p.Nodup := by rw [← hp m hm]; exact (lot_rise ps N m).imp fun h => by omega
    have e : sm p (fun j => lw ps p 0 m j * φ m j) = sm p (fun j => if j = m then φ m j else 0) := sm_congr fun j _ => by
      show (if j = m then (1 : Int) else 0) * φ m j = _
      by_cases c : j = m
      · rw [if_pos c, if_pos c, Int.one_mul]
      · rw [if_neg c, if_neg c, Int.zero_mul]
    rw [e, sm_at ndp hm]; rfl
  | n + 1, φ => by
    have e0 : sm (rowsN ps p (n + 1)) (fun r => φ (hd0 r) (lst0 r)) = sm (rowsN ps p n) (fun r => (fun m a => sm p fun b => if [a, b] ∈ ps then φ m b else 0) (hd0 r) (lst0 r)) := by
      show sm (longer ps p (rowsN ps p n)) _ = _
      unfold longer
      rw [sm_flat, sm_map]
      refine sm_congr fun r hr => ?_
      rw [sm_map, sm_filter]
      refine sm_congr fun b _ => ?_
      rw [hd_app (rows_ne hr), lst_app]
      by_cases c : [lst0 r, b] ∈ ps
      · rw [if_pos (decide_eq_true c), if_pos c]
      · rw [if_neg (by rw [decide_eq_false c]; decide), if_neg c]
    rw [e0]
    refine (rows_sum hP nd hp n (fun m a => sm p fun b => if [a, b] ∈ ps then φ m b else 0)).trans ?_
    refine sm_congr fun m hm => ?_
    have hl := hp m hm
    have hmm : m ∈ lotOf ps N m := by rw [hl]; exact hm
    have ndp : p.Nodup := by rw [← hl]; exact (lot_rise ps N m).imp fun h => by omega
    have out := (lw_cw hP hmm n).2
    rw [hl] at out
    have e1 : sm p (fun j => lw ps p n m j * sm p fun b => if [j, b] ∈ ps then φ m b else 0) = sm p fun j => sm p fun b => lw ps p n m j * (if [j, b] ∈ ps then φ m b else 0) := sm_congr fun j _ => (sm_mul p _ _).symm
    rw [e1, sm_comm]
    refine sm_congr fun b hb => ?_
    show _ = (if b ∈ p then stp ps (lw ps p n m) b else 0) * φ m b
    rw [if_pos hb, stp_part hP nd ndp out b, Int.mul_comm, ← sm_mul]
    refine sm_congr fun a _ => ?_
    by_cases c : [a, b] ∈ ps
    · rw [if_pos c, if_pos c, Int.mul_comm]
    · rw [if_neg c, if_neg c, Int.mul_zero, Int.mul_zero]
/-- all rings of n + 1 places -/
theorem rings_count {ps : List (List Int)} {N : Nat} (hP : ∀ q ∈ ps, Pr (N : Int) q) (nd : ps.Nodup) {p : List Int} (hp : ∀ m ∈ p, lotOf ps N m = p) (n : Nat) :
    (((rowsN ps p n).filter fun r => decide ([lst0 r, hd0 r] ∈ ps)).length : Int) = sm p fun m => cw ps (n + 1) m m := by
  rw [← sm_len, sm_filter]
  have e := rows_sum hP nd hp n (fun m j => if [j, m] ∈ ps then 1 else 0)
  have e0 : sm (rowsN ps p n) (fun r => if (decide ([lst0 r, hd0 r] ∈ ps)) = true then (1 : Int) else 0) = sm (rowsN ps p n) (fun r => (fun m j => if [j, m] ∈ ps then (1 : Int) else 0) (hd0 r) (lst0 r)) := sm_congr fun r _ => by
    by_cases c : [lst0 r, hd0 r] ∈ ps
    · rw [if_pos (decide_eq_true c)]; exact (if_pos c).symm
    · rw [if_neg (by rw [decide_eq_false c]; decide)]; exact (if_neg c).symm
  rw [e0, e]
  refine sm_congr fun m hm => ?_
  have hl := hp m hm
  have hmm : m ∈ lotOf ps N m := by rw [hl]; exact hm
  have ndp : p.Nodup := by rw [← hl]; exact (lot_rise ps N m).imp fun h => by omega
  have out := (lw_cw hP hmm n).2
  have inn := (lw_cw hP hmm (n + 1)).1 m hmm
  rw [hl] at out inn
  rw [← inn]
  show _ = (if m ∈ p then stp ps (lw ps p n m) m else 0)
  rw [if_pos hm, stp_part hP nd ndp out m]
  refine sm_congr fun a _ => ?_
  by_cases c : [a, m] ∈ ps
  · rw [if_pos c, if_pos c, Int.mul_one]
  · rw [if_neg c, if_neg c, Int.mul_zero]
theorem longer_len {ps : List (List Int)} {p : List Int} (rows : List (List Int)) : (longer ps p rows).length ≤ rows.length * p.length := by
  unfold longer
  induction rows with
  | nil => simp
  | cons r rows ih =>
    rw [List.map_cons, List.flatten_cons, List.length_append, List.length_map, List.length_cons, Nat.add_mul, Nat.one_mul]
    have := List.length_filter_le (fun b => decide ([lst0 r, b] ∈ ps)) p
    omega
theorem rows_len {ps : List (List Int)} {p : List Int} : ∀ n : Nat, (rowsN ps p n).length ≤ p.length ^ (n + 1)
  | 0 => by
    show (p.map fun m => [m]).length ≤ _
    rw [List.length_map, Nat.pow_one]; exact Nat.le_refl _
  | n + 1 => by
    rw [Nat.pow_succ]
    exact Nat.le_trans (longer_len _) (Nat.mul_le_mul (rows_len n) (Nat.le_refl _))
end RV
set_option maxHeartbeats 4000000
namespace K75
open PySem PySem.Spec PyProof.Rows L2 RV
theorem cap_next {m i : Nat} (h : m ≤ 8) : min (10 ^ 6) (min (10 ^ 6) (m ^ i) * m) = min (10 ^ 6) (m ^ (i + 1)) := by
  rw [show m ^ (i + 1) = m ^ i * m from Nat.pow_succ ..]
  rcases Nat.eq_zero_or_pos m with e | e
  · rw [e]; simp
  · by_cases z : m ^ i ≤ 10 ^ 6
    · rw [Nat.min_eq_right z]
    · have z1 : 10 ^ 6 ≤ m ^ i := by omega
      rw [Nat.min_eq_left z1]
      have z2 : 10 ^ 6 ≤ 10 ^ 6 * m := Nat.le_mul_of_pos_right _ e
      have z3 : m ^ i ≤ m ^ i * m := Nat.le_mul_of_pos_right _ e
      rw [Nat.min_eq_left z2, Nat.min_eq_left (Nat.le_trans z1 z3)]
section
variable {P : Program} {w : World} {K : PySem.W.Frag} {mg : Str → Option Value} {base : Heap}
/-! ### _law_tuples_of -/
theorem scTuples : FnScope ["_law_part", "_law_n", "_law_found", "_law_turn"] ["_law_part", "_law_n"] (defScope sTuples) := ⟨rfl, rfl, rfl, by decide +kernel, rfl, by decide +kernel, by decide +kernel⟩
def spTuples (K : PySem.W.Frag) : Sp := fun vs H Q _ => ∃ (a : Addr) (n : Nat) (p : List Int), vs = [.ref a, .int (n : Int)] ∧ SqT K H a (p.map V.int) ∧ p.length ≤ 8 ∧ n ≤ 9 ∧ Q (.int ((min (10 ^ 6) (p.length ^ n) : Nat) : Int)) H
theorem ok_tuples {f : Addr} {fd : FuncData} (F : Fun K "_law_tuples_of" "_law_tuples_of" sTuples f fd) (B : Bare mg) : FnOk P w K mg base CX0 1 f fd ["_law_part", "_law_n"] (spTuples K) := by
  refine F.ok scTuples (fun vs H Q E h => ?_) (fun cdv A outer s H vs Q E hr h => ?_)
  · obtain ⟨a, n, p, rfl, _⟩ := h
    rfl
  · obtain ⟨a, n, p, rfl, hA, lp, hn, q⟩ := h
    refine ⟨_, pss_cons (ps_set (i := 2) scTuples.nd rfl (Or.inl rfl) pe_int)
      (pss_cons (ps_for PassesOwn.never rfl (pi_range1 (by rfl) B.range (pa_cons (pv 1) pa_nil)) (pg_name (i := 3) scTuples.nd rfl (Or.inl rfl))
        (pss_one (ps_set (i := 2) scTuples.nd rfl (Or.inl rfl) (pe_callB (call_min2 rfl) (by rfl) B.min (by decide +kernel) (pa_cons (pe_op op_pow pe_int pe_int) (pa_cons (pe_op op_mul (pv 2) (pe_callB call_len_seq (by rfl) B.len PySem.boot_len (pa_cons (pv 0) pa_nil))) pa_nil))))))
      (pss_one (ps_ret (pv 2)))), ?_⟩
    refine ⟨.int (n : Int), rfl, (n : Int), rfl, by omega, by omega, ?_⟩
    rw [Int.toNat_natCast]
    refine for_range (lo := 0) (n := n) (fun i σ H' => ∃ y3 : Option V, σ = [some (.ref a), some (.int (n : Int)), some (.int ((min (10 ^ 6) (p.length ^ i) : Nat) : Int)), y3] ∧ H' = H) ⟨_, rfl, rfl⟩ (fun i σ H1 hi h => ?_) (fun σ H1 h => ?_)
    · obtain ⟨y3, rfl, rfl⟩ := h
      have b0 : min (10 ^ 6) (p.length ^ i) ≤ 10 ^ 6 := Nat.min_le_left _ _
      have b1 : (10 ^ 6 : Nat) = 1000000 := rfl
      refine ⟨10, 6, rfl, rfl, ⟨by decide, by decide, by decide⟩, .int _, rfl, .ref a, rfl, a, _, rfl, .inr hA, _, _, rfl, rfl, .inl ⟨by omega, by omega⟩, _, _, rfl, ?_⟩
      rw [List.length_map]
      have e := cap_next (i := i) lp
      have e2 : (if ((min (10 ^ 6) (p.length ^ i) : Nat) : Int) * (p.length : Int) < 10 ^ (6 : Int).toNat then ((min (10 ^ 6) (p.length ^ i) : Nat) : Int) * (p.length : Int) else 10 ^ (6 : Int).toNat) = ((min (10 ^ 6) (p.length ^ (i + 1)) : Nat) : Int) := by
        rw [← e, show (10 : Int) ^ (6 : Int).toNat = 1000000 from rfl]
        generalize min (10 ^ 6) (p.length ^ i) = u
        rw [← Int.natCast_mul]
        generalize u * p.length = v
        split <;> omega
      rw [e2]
      exact ⟨_, rfl, rfl⟩
    · obtain ⟨y3, rfl, rfl⟩ := h
      exact ⟨.int _, rfl, q⟩
/-! ### _law_made -/
theorem scMade : FnScope ["_law_own"] ["_law_own"] (defScope sMade) := ⟨rfl, rfl, rfl, by decide +kernel, rfl, by decide +kernel, by decide +kernel⟩
def spMade (K : PySem.W.Frag) (C : Addr) : Sp := fun vs H Q _ => ∃ (o : Addr) (ns : List Int) (ps : List (List Int)), vs = [.ref o] ∧ OwnH K H o ns ps ∧ ∀ (H' : Hp) (r : Addr), Same H H' → RuleAt K C H' r ns ps → Q (.ref r) H'
theorem ok_made {f fI C : Addr} {fd fdI : FuncData} (F : Fun K "_law_made" "_law_made" sMade f fd) (T : Txt K mg C) (M : Mk K C fI) (bI : Binds K fdI ["self", "mirrors", "steps"] []) (GI : FnOk P w K mg base CX0 6 fI fdI ["self", "mirrors", "steps"] (spInit K C)) (B : Bare mg) :
    FnOk P w K mg base CX0 8 f fd ["_law_own"] (spMade K C) := by
  refine F.ok scMade (fun vs H Q E h => ?_) (fun cdv A outer s H vs Q E hr h => ?_)
  · obtain ⟨o, ns, ps, rfl, _⟩ := h
    rfl
  · obtain ⟨o, ns, ps, rfl, ⟨u, c, o1, o2, o3, hM, S⟩, q⟩ := h
    refine ⟨_, pss_one (ps_ret (pe_make M GI hr (by rfl) T.mgC bI .nil pass0 (pa_cons (pe_ix ix_tup (pv 0) pe_int (fun _ _ => rfl)) (pa_cons (pe_ix ix_tup (pv 0) pe_int (fun _ _ => rfl)) pa_nil)))), ?_⟩
    refine ⟨.ref o, rfl, o, _, 0, .ref u, rfl, rfl, tupNew o1, rfl, .ref o, rfl, o, _, 1, .ref c, rfl, rfl, tupNew o1, rfl, fun x dx nx nd ne => ?_⟩
    exact make_rule o2 o3.tups hM S nx nd ne fun H' s' R => q H' x s' R
end
end K75
set_option maxHeartbeats 4000000
namespace K75
open PySem PySem.Spec PyProof.Rows L2 RV
abbrev PR := (Addr × List Int) × Int
/-- each row with each mark -/
def prs (ks : List (Addr × List Int)) (p : List Int) : List PR := (ks.map fun k => p.map fun b => (k, b)).flatten
theorem prs_app (ks : List (Addr × List Int)) (k : Addr × List Int) (p : List Int) : prs (ks ++ [k]) p = prs ks p ++ p.map fun b => (k, b) := by
  unfold prs
  rw [List.map_append, List.flatten_append]
  show _ ++ [p.map fun b => (k, b)].flatten = _
  rw [List.flatten_cons, List.flatten_nil, List.append_nil]
theorem prs_len (ks : List (Addr × List Int)) (p : List Int) : (prs ks p).length = ks.length * p.length := by
  unfold prs
  induction ks with
  | nil => simp
  | cons k ks ih => rw [List.map_cons, List.flatten_cons, List.length_append, ih, List.length_map, List.length_cons, Nat.add_mul, Nat.one_mul, Nat.add_comm]
theorem prs_mem {ks : List (Addr × List Int)} {p : List Int} {q : PR} (h : q ∈ prs ks p) : q.1 ∈ ks ∧ q.2 ∈ p := by
  obtain ⟨l, hl, hq⟩ := List.mem_flatten.mp h
  obtain ⟨k, hk, rfl⟩ := List.mem_map.mp hl
  obtain ⟨b, hb, rfl⟩ := List.mem_map.mp hq
  exact ⟨hk, hb⟩
theorem prs_longer (ps : List (List Int)) (ks : List (Addr × List Int)) (p : List Int) : ((prs ks p).filter fun q => decide ([lst0 q.1.2, q.2] ∈ ps)).map (fun q => q.1.2 ++ [q.2]) = longer ps p (ks.map (·.2)) := by
  unfold prs longer
  induction ks with
  | nil => rfl
  | cons k ks ih =>
    rw [List.map_cons, List.flatten_cons, List.filter_append, List.map_append, ih, List.map_cons, List.map_cons, List.flatten_cons]
    congr 1
    rw [List.filter_map, List.map_map]
    rfl
theorem at_lst {r : List Int} (h : r ≠ []) : atI (r.map V.int) (-1) = some (.int (lst0 r)) := by
  obtain ⟨r', x, rfl⟩ : ∃ r' x, r = r' ++ [x] := ⟨r.dropLast, r.getLast h, (List.dropLast_concat_getLast h).symm⟩
  rw [List.map_append, lst_app]
  exact atI_last _ _
theorem at_hd {r : List Int} (h : r ≠ []) : atI (r.map V.int) 0 = some (.int (hd0 r)) := by
  cases r with
  | nil => exact absurd rfl h
  | cons x r => exact atI_nat (j := 0) rfl
section
variable {P : Program} {w : World} {K : PySem.W.Frag} {mg : Str → Option Value} {base : Heap}
/-! ### _law_all_pairs -/
abbrev nAPairs : List Str := ["_law_rows", "_law_part", "_law_found", "_law_row", "_law_mark"]
theorem scAPairs : FnScope nAPairs ["_law_rows", "_law_part"] (defScope sPairs) := ⟨rfl, rfl, rfl, by decide +kernel, rfl, by decide +kernel, by decide +kernel⟩
def spAPairs (K : PySem.W.Frag) : Sp := fun vs H Q _ => ∃ (l a : Addr) (ks : List (Addr × List Int)) (p : List Int), vs = [.ref l, .ref a] ∧ H l = some (.lst (ks.map fun k => V.ref k.1)) ∧ SqT K H a (p.map V.int) ∧ p.length ≤ 8 ∧ ks.length * p.length ≤ 900 ∧
  ∀ (H' : Hp) (Fo : Addr) (qs : List (Addr × PR)), Same H H' → H Fo = none → qs.map (·.2) = prs ks p → H' Fo = some (.lst (qs.map fun q => V.ref q.1)) → (∀ q ∈ qs, H' q.1 = some (.tup [.ref q.2.1.1, .int q.2.2])) → Q (.ref Fo) H'
theorem ok_apairs {f : Addr} {fd : FuncData} (F : Fun K "_law_all_pairs" "_law_all_pairs" sPairs f fd) (B : Bare mg) : FnOk P w K mg base CX0 1 f fd ["_law_rows", "_law_part"] (spAPairs K) := by
  refine F.ok scAPairs (fun vs H Q E h => ?_) (fun cdv A outer s H vs Q E hr h => ?_)
  · obtain ⟨l, a, ks, p, rfl, _⟩ := h
    rfl
  · obtain ⟨l, a, ks, p, rfl, hl, hA, lp, hlen, q⟩ := h
    have two : (2 : Nat) ≤ sizeLine := by decide
    refine ⟨_, pss_cons (ps_set (i := 2) scAPairs.nd rfl (Or.inl rfl) (pe_lst pa_nil))
      (pss_cons (ps_for PassesOwn.never rfl (pi_list (pv 0)) (pg_name (i := 3) scAPairs.nd rfl (Or.inr rfl))
        (pss_one (ps_expr (pe_bm PySem.F.plainAttrs_list PySem.F.slot_list_extend PySem.F.type_list_extend mt_extend (pv 2) (pa_cons
          (pe_lc (own := [("_law_mark", 4)]) (g := gName 4) (tt := tYes) rfl scAPairs.nd (pi_tup (pv 1)) (blkOk_by (N := nAPairs) (sc := defScope sPairs) (by decide +kernel))
            (fun _ _ _ _ _ => pg_name (i := 4) scAPairs.nd rfl (Or.inl rfl)) (fun _ _ _ _ _ => pts_nil) (fun _ _ _ _ _ => pe_tup (pa_cons (pv 3) (pa_cons (pv 4) pa_nil)))) pa_nil)))))
      (pss_one (ps_ret (pv 2)))), ?_⟩
    refine ⟨Nat.zero_le _, fun Fo nF => ?_⟩
    refine ⟨.ref l, rfl, l, rfl, ⟨_, lstNew (same_upd nF _ _ hl)⟩, ?_⟩
    refine for_list (K := K) (a := l) (xs := ks.map fun k => V.ref k.1) (fun i σ H' => ∃ (y3 y4 : Option V) (qs : List (Addr × PR)), σ = [some (.ref l), some (.ref a), some (.ref Fo), y3, y4] ∧ Same H H' ∧ qs.map (·.2) = prs (ks.take i) p ∧ H' Fo = some (.lst (qs.map fun q => V.ref q.1)) ∧ ∀ q ∈ qs, H' q.1 = some (.tup [.ref q.2.1.1, .int q.2.2]))
      ⟨_, _, [], rfl, same_upd nF, rfl, upd_same, fun _ z => nomatch z⟩ (fun i σ H' _ h => ?_) (fun i x σ H1 hx h => ?_) (fun σ H1 h => ?_)
    · obtain ⟨_, _, _, _, s', _⟩ := h
      exact lstNew (s' _ _ hl)
    · obtain ⟨y3, y4, qs, rfl, s1, eq, eF, hq⟩ := h
      obtain ⟨k, gk, rfl⟩ := map_at hx
      have hi : i < ks.length := (List.getElem?_eq_some_iff.mp gk).1
      have hA1 := sqT_same s1 hA
      refine ⟨.ref Fo, rfl, .inl ⟨rfl, _, lstNew eF⟩, .ref a, rfl, a, rfl, ⟨_, hA1⟩, fun D nD => ?_⟩
      refine lc_tup (K := K) (a := a) (xs := p.map V.int) (fun j H' => Same H1 H' ∧ ∃ rs : List (Addr × PR), rs.map (·.2) = (p.take j).map (fun b => (k, b)) ∧ H' D = some (.lst (rs.map fun q => V.ref q.1)) ∧ ∀ r ∈ rs, H' r.1 = some (.tup [.ref r.2.1.1, .int r.2.2]))
        ⟨same_upd nD, [], rfl, upd_same, fun _ z => nomatch z⟩ (fun j H' _ h => sqT_same h.1 hA1) (fun j x H2 hx h => ?_) fun H2 h => ?_
      · obtain ⟨b, gb, rfl⟩ := map_at hx
        have hj : j < p.length := (List.getElem?_eq_some_iff.mp gb).1
        obtain ⟨s2, rs, er, eD, hr2⟩ := h
        have lrs : rs.length ≤ p.length := by rw [← List.length_map (f := (·.2)), er, List.length_map, List.length_take]; omega
        refine ⟨by simp [wipe, List.set_set], tt_yes ⟨.ref k.1, rfl, .int b, rfl, two, fun T nT => ?_⟩⟩
        have sT := same_upd (o := .tup [.ref k.1, .int b]) nT
        have eD2 := sT _ _ eD
        have hTD : T ≠ D := (ne_of_none eD nT).symm
        refine ⟨_, eD2, by rw [List.length_map]; exact few1 (by omega), fun b' o z => ?_, rs ++ [(T, (k, b))], ?_, ?_, fun r hr => ?_⟩
        · rw [upd_ne (ne_of_none z nD)]; exact sT _ _ (s2 b' o z)
        · rw [List.map_append, er, List.take_add_one, gb, List.map_append]; rfl
        · rw [upd_same, List.map_append]; rfl
        · rcases List.mem_append.mp hr with z | z
          · have e9 := hr2 r z
            have n9 : r.1 ≠ D := fun y => by rw [y, eD] at e9; cases e9
            rw [upd_ne n9]; exact sT _ _ e9
          · rw [List.mem_singleton.mp z]
            show (upd (upd H2 T (.tup [.ref k.1, .int b])) D _) T = _
            rw [upd_ne hTD, upd_same]
      · obtain ⟨s2, rs, er, eD, hr2⟩ := h
        rw [List.length_map, List.take_of_length_le (Nat.le_refl _)] at er
        have eF2 := s2 _ _ eF
        have lrs : rs.length = p.length := by rw [← List.length_map (f := (·.2)), er, List.length_map]
        have lqs : qs.length = i * p.length := by rw [← List.length_map (f := (·.2)), eq, prs_len, List.length_take]; congr 1; omega
        have lim : i * p.length + p.length ≤ 900 := by
          have : (i + 1) * p.length ≤ ks.length * p.length := Nat.mul_le_mul (by omega) (Nat.le_refl _)
          rw [Nat.add_mul, Nat.one_mul] at this; omega
        refine ⟨Fo, D, _, _, rfl, rfl, eF2, eD, ?_, ?_⟩
        · rw [List.length_map, List.length_map]; exact Nat.le_of_lt (few1 (by omega))
        have hFD : Fo ≠ D := ne_of_none eF nD
        refine ⟨_, _, qs ++ rs, rfl, fun b o z => ?_, ?_, ?_, fun r hr => ?_⟩
        · rw [upd_ne (ne_of_none z nF)]; exact s2 _ _ (s1 b o z)
        · rw [List.map_append, eq, er, List.take_add_one, gk]
          exact (prs_app _ _ _).symm
        · rw [upd_same, List.map_append]
        · have e9 : H2 r.1 = some (.tup [.ref r.2.1.1, .int r.2.2]) := (List.mem_append.mp hr).elim (fun z => s2 _ _ (hq r z)) fun z => hr2 r z
          rw [upd_ne fun y => by rw [y, eF2] at e9; cases e9]; exact e9
    · obtain ⟨y3, y4, qs, rfl, s1, eq, eF, hq⟩ := h
      rw [List.length_map, List.take_of_length_le (Nat.le_refl _)] at eq
      exact ⟨.ref Fo, rfl, q H1 Fo qs s1 nF eq eF hq⟩
/-! ### _law_all_rings -/
abbrev nRings : List Str := ["_law_own", "_law_part", "_law_n", "_law_found", "_law_turn", "_law_row", "_law_b", "_law_mark"]
theorem scRings : FnScope nRings ["_law_own", "_law_part", "_law_n"] (defScope sRings) := ⟨rfl, rfl, rfl, by decide +kernel, rfl, by decide +kernel, by decide +kernel⟩
def spRings (K : PySem.W.Frag) : Sp := fun vs H Q _ => ∃ (R a : Addr) (n : Nat) (ns p : List Int) (ps : List (List Int)), vs = [.ref R, .ref a, .int (n : Int)] ∧ OwnH K H R ns ps ∧ SqT K H a (p.map V.int) ∧ p.length ≤ 8 ∧ 1 ≤ n ∧ n ≤ 9 ∧ p.length ^ n ≤ 300 ∧
  ∀ (H' : Hp) (l : Addr) (zs : List (Addr × List Int)), Same H H' → H' l = some (.lst (zs.map fun k => V.ref k.1)) → zs.map (·.2) = ((rowsN ps p (n - 1)).filter fun r => decide ([lst0 r, hd0 r] ∈ ps)) → (∀ k ∈ zs, SqT K H' k.1 (k.2.map V.int)) → Q (.ref l) H'
theorem ok_rings {f fP : Addr} {fd dP : FuncData} (F : Fun K "_law_all_rings" "_law_all_rings" sRings f fd) (DP : DefAt K mg "_law_all_pairs" sPairs ["_law_rows", "_law_part"] fP dP) (B : Bare mg) : FnOk P w K mg base CX0 2 f fd ["_law_own", "_law_part", "_law_n"] (spRings K) := by
  have GP : FnOk P w K mg base CX0 1 fP dP ["_law_rows", "_law_part"] (spAPairs K) := ok_apairs DP.fn B
  refine F.ok scRings (fun vs H Q E h => ?_) (fun cdv A outer s H vs Q E hr h => ?_)
  · obtain ⟨R, a, n, ns, p, ps, rfl, _⟩ := h
    rfl
  · obtain ⟨R, a, n, ns, p, ps, rfl, ⟨u, c, o1, o2, o3, M, S⟩, hA, lp, n1, n4, hlen, q⟩ := h
    have hu5 := un65 hr
    have one : (1 : Nat) ≤ sizeLine := by decide
    have two : (2 : Nat) ≤ sizeLine := by decide
    refine ⟨_, pss_cons (ps_setLc (i := 3) (own := [("_law_mark", 7)]) (g := gName 7) (tt := tYes) rfl scRings.nd rfl rfl (by rfl) (pi_tup (pv 1)) (blkOk_by (N := nRings) (sc := defScope sRings) (by decide +kernel))
          (fun _ _ _ _ _ => pg_name (i := 7) scRings.nd rfl (Or.inl rfl)) (fun _ _ _ _ _ => pts_nil) (fun _ _ _ _ _ => pe_tup (pa_cons (pv 7) pa_nil)))
      (pss_cons (ps_for PassesOwn.never rfl (pi_range1 (by rfl) B.range (pa_cons (pe_op op_sub (pv 2) pe_int) pa_nil)) (pg_name (i := 4) scRings.nd rfl (Or.inl rfl))
        (pss_one (ps_setLc (i := 3) (own := [("_law_row", 5), ("_law_b", 6)]) (g := gTup K 2 (gCons (gName 5) (gCons (gName 6) gNil))) rfl scRings.nd rfl rfl (by rfl) (pi_list (pe_call GP hr (by rfl) DP.mg DP.fn.kp DP.bi .nil pass0 (pa_cons (pv 3) (pa_cons (pv 1) pa_nil)))) (blkOk_by (N := nRings) (sc := defScope sRings) (by decide +kernel))
          (fun _ _ _ _ _ => pg_tupK rfl rfl (pgs_cons (pg_name (i := 5) scRings.nd rfl (Or.inl rfl)) (pgs_cons (pg_name (i := 6) scRings.nd rfl (Or.inl rfl)) pgs_nil)))
          (fun _ _ _ _ _ => pts_one (pt_cmpR (op_inTsK (K := K) rfl hu5) (pe_tup (pa_cons (pe_ix (ix_tupK (K := K) rfl) (pv 5) (pe_un un_neg pe_int) (fun _ _ => rfl)) (pa_cons (pv 6) pa_nil))) (pe_ix (ix_tupK (K := K) rfl) (pv 0) pe_int (fun _ _ => rfl)) (by rfl)))
          (fun _ _ _ _ _ => pe_op (op_catWK (K := K) rfl) (pv 5) (pe_tup (pa_cons (pv 6) pa_nil))))))
      (pss_one (ps_ret (pe_lc (own := [("_law_row", 5)]) (g := gName 5) rfl scRings.nd (pi_list (pv 3)) (blkOk_by (N := nRings) (sc := defScope sRings) (by decide +kernel))
          (fun _ _ _ _ _ => pg_name (i := 5) scRings.nd rfl (Or.inl rfl))
          (fun _ _ _ _ _ => pts_one (pt_cmpR (op_inTsK (K := K) rfl hu5) (pe_tup (pa_cons (pe_ix (ix_tupK (K := K) rfl) (pv 5) (pe_un un_neg pe_int) (fun _ _ => rfl)) (pa_cons (pe_ix (ix_tupK (K := K) rfl) (pv 5) pe_int (fun _ _ => rfl)) pa_nil))) (pe_ix (ix_tupK (K := K) rfl) (pv 0) pe_int (fun _ _ => rfl)) (by rfl)))
          (fun _ _ _ _ _ => pv 5))))), ?_⟩
    -- found
    refine ⟨.ref a, rfl, a, rfl, ⟨_, hA⟩, fun D nD => ?_⟩
    refine lc_tup (K := K) (a := a) (xs := p.map V.int) (fun j H' => Same H H' ∧ ∃ ks : List (Addr × List Int), ks.map (·.2) = (p.take j).map (fun m => [m]) ∧ H' D = some (.lst (ks.map fun k => V.ref k.1)) ∧ ∀ k ∈ ks, SqT K H' k.1 (k.2.map V.int))
      ⟨same_upd nD, [], rfl, upd_same, fun _ z => nomatch z⟩ (fun j H' _ h => sqT_same h.1 hA) (fun j x H1 hx h => ?_) fun H1 h => ?_
    · obtain ⟨m, gm, rfl⟩ := map_at hx
      have hj : j < p.length := (List.getElem?_eq_some_iff.mp gm).1
      obtain ⟨s1, ks, ek, eD, hk⟩ := h
      have lks : ks.length ≤ p.length := by rw [← List.length_map (f := (·.2)), ek, List.length_map, List.length_take]; omega
      refine ⟨by simp [wipe, List.set_set], tt_yes ⟨.int m, rfl, one, fun T nT => ?_⟩⟩
      have sT := same_upd (o := .tup [.int m]) nT
      have eD2 := sT _ _ eD
      refine ⟨_, eD2, by rw [List.length_map]; exact few1 (by omega), fun b' o z => ?_, ks ++ [(T, [m])], ?_, ?_, fun r hr => ?_⟩
      · rw [upd_ne (ne_of_none z nD)]; exact sT _ _ (s1 b' o z)
      · rw [List.map_append, ek, List.take_add_one, gm, List.map_append]; rfl
      · rw [upd_same, List.map_append]; rfl
      · rcases List.mem_append.mp hr with z | z
        · exact sqT_lst eD2 (sqT_same sT (hk r z))
        · rw [List.mem_singleton.mp z]
          exact sqT_lst eD2 (tupNew upd_same)
    obtain ⟨s1, ks1, ek1, eD1, hk1⟩ := h
    rw [List.length_map, List.take_of_length_le (Nat.le_refl _)] at ek1
    refine ⟨.int (n : Int), rfl, _, 1, rfl, rfl, _, rfl, by omega, by omega, ?_⟩
    rw [show ((n : Int) - 1).toNat = n - 1 by omega]
    refine for_range (lo := 0) (n := n - 1) (fun t σ H' => ∃ (l : Addr) (y4 y5 y6 y7 : Option V) (ks : List (Addr × List Int)), σ = [some (.ref R), some (.ref a), some (.int (n : Int)), some (.ref l), y4, y5, y6, y7] ∧ Same H H' ∧ ks.map (·.2) = rowsN ps p t ∧ H' l = some (.lst (ks.map fun k => V.ref k.1)) ∧ ∀ k ∈ ks, SqT K H' k.1 (k.2.map V.int))
      ⟨D, _, _, _, _, ks1, rfl, s1, ek1, eD1, hk1⟩ (fun t σ H2 ht h => ?_) (fun σ H2 h => ?_)
    · obtain ⟨l, y4, y5, y6, y7, ks, rfl, s2, ek, el, hk⟩ := h
      have lks : ks.length ≤ p.length ^ (t + 1) := by rw [← List.length_map (f := (·.2)), ek]; exact rows_len t
      have lim : ks.length * p.length ≤ 300 := by
        refine Nat.le_trans (Nat.mul_le_mul lks (Nat.le_refl _)) ?_
        rw [← Nat.pow_succ]
        rcases Nat.eq_zero_or_pos p.length with z | z
        · rw [z, Nat.zero_pow (by omega)]; omega
        · exact Nat.le_trans (Nat.pow_le_pow_right z (by omega)) hlen
      have nek : ∀ k ∈ ks, k.2 ≠ [] := fun k hk' => rows_ne (n := t) (by rw [← ek]; exact List.mem_map_of_mem hk')
      refine ⟨.ref l, rfl, .ref a, rfl, l, a, ks, p, rfl, el, sqT_same s2 hA, lp, by omega, fun H3 Fo qs s3 nFo eq eF hq => ?_⟩
      have lqs : qs.length ≤ 300 := by rw [← List.length_map (f := (·.2)), eq, prs_len]; exact lim
      refine ⟨Fo, rfl, ⟨_, lstNew eF⟩, fun D2 nD2 => ?_⟩
      refine lc_list (K := K) (a := Fo) (xs := qs.map fun q => V.ref q.1) (fun j H' => Same H3 H' ∧ ∃ zs : List (Addr × List Int), zs.map (·.2) = (((qs.map (·.2)).take j).filter fun q => decide ([lst0 q.1.2, q.2] ∈ ps)).map (fun q => q.1.2 ++ [q.2]) ∧ H' D2 = some (.lst (zs.map fun k => V.ref k.1)) ∧ ∀ k ∈ zs, SqT K H' k.1 (k.2.map V.int))
        ⟨same_upd nD2, [], rfl, upd_same, fun _ z => nomatch z⟩ (fun j H' _ h => lstNew (h.1 _ _ eF)) (fun j x H4 hx h => ?_) fun H4 h => ?_
      · obtain ⟨qq, gq, rfl⟩ := map_at hx
        obtain ⟨s4, zs, ez, eD2, hz⟩ := h
        have hqm : qq ∈ qs := List.mem_of_getElem? gq
        have gq2 : (qs.map (·.2))[j]? = some qq.2 := by rw [List.getElem?_map, gq]; rfl
        have hin := prs_mem (ks := ks) (p := p) (by rw [← eq]; exact List.mem_map_of_mem hqm : qq.2 ∈ prs ks p)
        have eT := s4 _ _ (hq qq hqm)
        have hrow : SqT K H4 qq.2.1.1 (qq.2.1.2.map V.int) := sqT_same (s3.trans s4) (hk _ hin.1)
        have hne := nek _ hin.1
        have lzs : zs.length ≤ 300 := by
          rw [← List.length_map (f := (·.2)), ez, List.length_map]
          exact Nat.le_trans (List.length_filter_le _ _) (by rw [List.length_take, List.length_map]; omega)
        refine ⟨qq.1, _, rfl, tupNew eT, rfl, _, _, rfl, _, _, rfl, rfl, by simp [wipe, List.set_set], ?_⟩
        refine ⟨.ref qq.2.1.1, rfl, 1, rfl, qq.2.1.1, _, _, _, rfl, rfl, hrow, at_lst hne, .int qq.2.2, rfl, two, fun T nT => ?_⟩
        have sT := same_upd (o := .tup [.int (lst0 qq.2.1.2), .int qq.2.2]) nT
        have s5 := s4.trans sT
        have s05 := (s2.trans s3).trans s5
        have eTT : SqT K (upd H4 T (.tup [.int (lst0 qq.2.1.2), .int qq.2.2])) T ([lst0 qq.2.1.2, qq.2.2].map V.int) := tupNew upd_same
        refine ⟨.ref R, rfl, R, _, 1, .ref c, rfl, rfl, tupNew (s05 _ _ o1), rfl, T, c, _, ps, rfl, rfl, eTT, (o3.same s05).tups, _, rfl, ?_⟩
        have nxt : (((qs.map (·.2)).take (j + 1)).filter fun q => decide ([lst0 q.1.2, q.2] ∈ ps)).map (fun q => q.1.2 ++ [q.2]) = (((qs.map (·.2)).take j).filter fun q => decide ([lst0 q.1.2, q.2] ∈ ps)).map (fun q => q.1.2 ++ [q.2]) ++ (if decide ([lst0 qq.2.1.2, qq.2.2] ∈ ps) = true then [qq.2.1.2 ++ [qq.2.2]] else []) := by
          rw [take_filt gq2, List.map_append]
          by_cases cc : decide ([lst0 qq.2.1.2, qq.2.2] ∈ ps) = true
          · rw [if_pos cc, if_pos cc]; rfl
          · rw [if_neg cc, if_neg cc]; rfl
        have eD5 := sT _ _ eD2
        by_cases cc : [lst0 qq.2.1.2, qq.2.2] ∈ ps
        · rw [decide_eq_true cc, if_pos rfl] at nxt
          rw [decide_eq_true cc]
          refine iteT ⟨.ref qq.2.1.1, rfl, .int qq.2.2, rfl, one, fun T2 nT2 => ?_⟩
          have sT2 := same_upd (o := .tup [.int qq.2.2]) nT2
          have eT2 : SqT K (upd (upd H4 T (.tup [.int (lst0 qq.2.1.2), .int qq.2.2])) T2 (.tup [.int qq.2.2])) T2 ([qq.2.2].map V.int) := tupNew upd_same
          have lrow : qq.2.1.2.length ≤ 900 := by
            have z : qq.2.1.2 ∈ rowsN ps p t := by rw [← ek]; exact List.mem_map_of_mem hin.1
            have rl : ∀ (m : Nat) (r : List Int), r ∈ rowsN ps p m → r.length = m + 1 := fun m => by
              induction m with
              | zero => intro r hr; obtain ⟨x, _, rfl⟩ := List.mem_map.mp hr; rfl
              | succ m ih =>
                intro r hr
                obtain ⟨l', hl', hr'⟩ := List.mem_flatten.mp hr
                obtain ⟨r', hr'', rfl⟩ := List.mem_map.mp hl'
                obtain ⟨b, _, rfl⟩ := List.mem_map.mp hr'
                rw [List.length_append, ih r' hr'']; rfl
            rw [rl t _ z]; omega
          refine ⟨qq.2.1.1, T2, _, _, rfl, rfl, sqT_same (sT.trans sT2) hrow, eT2, ?_, fun nr H6 s6 e6 => ?_⟩
          · rw [List.length_map, List.length_map]; exact Nat.le_of_lt (few1 (by simp; omega))
          rw [← List.map_append] at e6
          have eD6 := s6 _ _ (sT2 _ _ eD5)
          refine ⟨_, eD6, by rw [List.length_map]; exact few1 (by omega), fun b o z => ?_, zs ++ [(nr, qq.2.1.2 ++ [qq.2.2])], ?_, ?_, fun r hr => ?_⟩
          · rw [upd_ne (ne_of_none z nD2)]; exact s6 _ _ (sT2 _ _ (s5 b o z))
          · rw [List.map_append, ez, nxt]; rfl
          · rw [upd_same, List.map_append]; rfl
          · rcases List.mem_append.mp hr with z | z
            · exact sqT_lst eD6 (sqT_same ((sT.trans sT2).trans s6) (hz r z))
            · rw [List.mem_singleton.mp z]
              exact sqT_lst eD6 e6
        · rw [decide_eq_false cc, if_neg (by decide), List.append_nil] at nxt
          rw [decide_eq_false cc]
          refine iteF ⟨s5, zs, ?_, eD5, fun k hk' => sqT_same sT (hz k hk')⟩
          rw [ez, nxt]
      · obtain ⟨s4, zs, ez, eD2, hz⟩ := h
        rw [List.length_map, show (qs.map (·.2)).take qs.length = qs.map (·.2) from List.take_of_length_le (by rw [List.length_map]; exact Nat.le_refl _), eq, prs_longer, ek] at ez
        exact ⟨D2, _, _, _, _, zs, rfl, (s2.trans s3).trans s4, ez, eD2, hz⟩
    · obtain ⟨l, y4, y5, y6, y7, ks, rfl, s2, ek, el, hk⟩ := h
      have lks : ks.length ≤ 300 := by
        rw [← List.length_map (f := (·.2)), ek]
        refine Nat.le_trans (rows_len _) ?_
        rw [show n - 1 + 1 = n by omega]; exact hlen
      have nek : ∀ k ∈ ks, k.2 ≠ [] := fun k hk' => rows_ne (n := n - 1) (by rw [← ek]; exact List.mem_map_of_mem hk')
      refine ⟨.ref l, rfl, l, rfl, ⟨_, lstNew el⟩, fun D3 nD3 => ?_⟩
      refine lc_list (K := K) (a := l) (xs := ks.map fun k => V.ref k.1) (fun j H' => Same H2 H' ∧ ∃ zs : List (Addr × List Int), H' D3 = some (.lst (zs.map fun k => V.ref k.1)) ∧ zs.map (·.2) = (((ks.map (·.2)).take j).filter fun r => decide ([lst0 r, hd0 r] ∈ ps)) ∧ ∀ k ∈ zs, SqT K H2 k.1 (k.2.map V.int))
        ⟨same_upd nD3, [], upd_same, rfl, fun _ z => nomatch z⟩ (fun j H' _ h => lstNew (h.1 _ _ el)) (fun j x H3 hx h => ?_) fun H3 h => ?_
      · obtain ⟨k, gk, rfl⟩ := map_at hx
        obtain ⟨s3, zs, e3, lx, hz⟩ := h
        have hkm : k ∈ ks := List.mem_of_getElem? gk
        have gk2 : (ks.map (·.2))[j]? = some k.2 := by rw [List.getElem?_map, gk]; rfl
        have hrow := sqT_same s3 (hk k hkm)
        have hne := nek k hkm
        have lxs : zs.length ≤ 300 := by
          rw [← List.length_map (f := (·.2)), lx]
          exact Nat.le_trans (List.length_filter_le _ _) (by rw [List.length_take, List.length_map]; omega)
        refine ⟨by simp [wipe, List.set_set], ?_⟩
        refine ⟨.ref k.1, rfl, 1, rfl, k.1, _, _, _, rfl, rfl, hrow, at_lst hne, .ref k.1, rfl, k.1, _, 0, _, rfl, rfl, hrow, at_hd hne, two, fun T nT => ?_⟩
        have sT := same_upd (o := .tup [.int (lst0 k.2), .int (hd0 k.2)]) nT
        have s4 := s3.trans sT
        have s04 := s2.trans s4
        have eTT : SqT K (upd H3 T (.tup [.int (lst0 k.2), .int (hd0 k.2)])) T ([lst0 k.2, hd0 k.2].map V.int) := tupNew upd_same
        refine ⟨.ref R, rfl, R, _, 1, .ref c, rfl, rfl, tupNew (s04 _ _ o1), rfl, T, c, _, ps, rfl, rfl, eTT, (o3.same s04).tups, _, rfl, ?_⟩
        have eD4 := sT _ _ e3
        have nxt := take_filt (c := fun r => decide ([lst0 r, hd0 r] ∈ ps)) gk2
        by_cases cc : [lst0 k.2, hd0 k.2] ∈ ps
        · rw [if_pos (decide_eq_true cc)] at nxt
          rw [decide_eq_true cc]
          refine iteT ⟨.ref k.1, rfl, _, eD4, by rw [List.length_map]; exact few1 (by omega), fun b o z => ?_, zs ++ [k], by rw [upd_same, List.map_append]; rfl, ?_, fun r hr => ?_⟩
          · rw [upd_ne (ne_of_none z nD3)]; exact s4 b o z
          · rw [List.map_append, nxt, lx]; rfl
          · rcases List.mem_append.mp hr with z | z
            · exact hz r z
            · rw [List.mem_singleton.mp z]; exact hk k hkm
        · rw [if_neg (by rw [decide_eq_false cc]; decide), List.append_nil] at nxt
          rw [decide_eq_false cc]
          exact iteF ⟨s4, zs, eD4, by rw [nxt]; exact lx, hz⟩
      · obtain ⟨s3, zs, e3, lx, hz⟩ := h
        rw [List.length_map, show (ks.map (·.2)).take ks.length = ks.map (·.2) from List.take_of_length_le (by rw [List.length_map]; exact Nat.le_refl _), ek] at lx
        exact q H3 D3 zs (s2.trans s3) e3 lx fun r hr => sqT_same s3 (hz r hr)
end
end K75
set_option maxHeartbeats 4000000
namespace K75
open PySem PySem.Spec PyProof.Rows L2 RV
/-! ### seen from the other side -/
theorem rch_mirror {ns : List Int} {ps : List (List Int)} (M : Mir ns) (S : Stp ns ps) {a b : Int} (h : Rch ps a b) : ∀ {ma mb : Int}, ns[a.toNat]? = some ma → ns[b.toNat]? = some mb → Rch ps mb ma := by
  have hP : ∀ p ∈ ps, Pr (ns.length : Int) p := fun p hp => S.pair p hp
  induction h with
  | one e => exact fun ha hb => .one (S.mirr _ _ _ _ e ha hb)
  | @more j k h1 e ih =>
    intro ma mb ha hb
    have bj := (Rch.bound hP (.one e)).1
    obtain ⟨mj, hj⟩ : ∃ x, ns[j.toNat]? = some x := ⟨_, List.getElem?_eq_getElem (by omega)⟩
    exact (Rch.one (S.mirr _ _ _ _ e hj hb)).trans (ih ha hj)
theorem mir_back {ns : List Int} (M : Mir ns) {a ma : Int} (ha : 0 ≤ a) (h : ns[a.toNat]? = some ma) : ns[ma.toNat]? = some a := by
  have z := M.back _ _ h
  rwa [Int.toNat_of_nonneg ha] at z
theorem lot_mirror {ns : List Int} {ps : List (List Int)} (M : Mir ns) (S : Stp ns ps) {x mx y my : Int} (h0 : 0 ≤ x) (hx : ns[x.toNat]? = some mx) (hy : ns[y.toNat]? = some my) (h : y ∈ lotOf ps ns.length x) : my ∈ lotOf ps ns.length mx := by
  obtain ⟨_, h1, h2⟩ := mem_lot.mp h
  have := M.inn my (List.mem_of_getElem? hy)
  exact mem_lot.mpr ⟨this, rch_mirror M S h2 hy hx, rch_mirror M S h1 hx hy⟩
/-- what part_of tells -/
def PartNo (ps : List (List Int)) (n : Nat) (m : Int) (v : V) : Prop := (¬ Rch ps m m ∧ v = .non) ∨ ∃ k : Nat, (partsOf ps n)[k]? = some (lotOf ps n m) ∧ Rch ps m m ∧ v = .int (k : Int)
section
variable {P : Program} {w : World} {K : PySem.W.Frag} {mg : Str → Option Value} {base : Heap}
/-! ### part_of -/
theorem scPartOf : FnScope ["rule", "mark", "number", "part"] ["rule", "mark"] (defScope sPartOf) := ⟨rfl, rfl, rfl, by decide +kernel, rfl, by decide +kernel, by decide +kernel⟩
def spPartOf (K : PySem.W.Frag) (C : Addr) : Sp := fun vs H Q _ => ∃ (r : Addr) (m : Int) (ns : List Int) (ps : List (List Int)), vs = [.ref r, .int m] ∧ RuleAt K C H r ns ps ∧ Mir ns ∧ Stp ns ps ∧ (0 ≤ m ∧ m < (ns.length : Int)) ∧
  ∀ (H' : Hp) (v : V), Same H H' → PartNo ps ns.length m v → Q v H'
theorem ok_partOf {f C fP : Addr} {fd dP : FuncData} (F : Fun K "part_of" "part_of" sPartOf f fd) (B : Bare mg) (DP : DefAt K mg "parts" sParts ["rule"] fP dP) (GP : FnOk P w K mg base CX0 3 fP dP ["rule"] (spParts K C)) : FnOk P w K mg base CX0 4 f fd ["rule", "mark"] (spPartOf K C) := by
  refine F.ok scPartOf (fun vs H Q E h => ?_) (fun cdv A outer s H vs Q E hr h => ?_)
  · obtain ⟨r, m, ns, ps, rfl, _⟩ := h
    rfl
  · obtain ⟨r, m, ns, ps, rfl, R, M, S, hm, q⟩ := h
    have hu5 := un65 hr
    refine ⟨_, pss_cons (ps_for PassesOwn.never rfl (pi_enT (by rfl) B.enumerate (pa_cons (pe_call GP hr (by rfl) DP.mg DP.fn.kp DP.bi .nil pass0 (pa_cons (pv 0) pa_nil)) pa_nil)) (pg_tup rfl (pgs_cons (pg_name (i := 2) scPartOf.nd rfl (Or.inl rfl)) (pgs_cons (pg_name (i := 3) scPartOf.nd rfl (Or.inl rfl)) pgs_nil)))
        (pss_one (ps_if (pt_cmpR (op_inTI hu5) (pv 1) (pv 3) (by rfl)) (pss_one (ps_ret (pv 2))) pss_nil)))
      (pss_one (ps_ret pe_non)), ?_⟩
    refine ⟨.ref r, rfl, r, ns, ps, rfl, R, M, S, fun H1 c s1 nc hC => ?_⟩
    obtain ⟨ks, ek, hc, hks⟩ := hC
    refine ⟨c, _, rfl, tupNew hc, ?_⟩
    refine for_it (walk_enT (K := K) (a := c) (xs := ks.map fun p => V.ref p.1)) (fun i σ H' => ∃ (y2 y3 : Option V), σ = [some (.ref r), some (.int m), y2, y3] ∧ Same H1 H' ∧ ∀ (k : Nat) (p : List Int), k < i → (partsOf ps ns.length)[k]? = some p → m ∉ p)
      ⟨none, none, rfl, Same.refl H1, fun k p hk => absurd hk (Nat.not_lt_zero _)⟩ (fun i σ H' _ h => ?_) (fun i x σ H2 H3 hi h y => ?_) (fun σ H' h => ?_)
    · obtain ⟨_, _, _, s', _⟩ := h
      exact tupNew (s' _ _ hc)
    · obtain ⟨y2, y3, rfl, s', no⟩ := h
      obtain ⟨T, x1, x2, rfl, nT, rfl, e1, e2⟩ := y
      have e1' : x1 = .int (i : Nat) := (Option.some.inj e1).symm
      subst e1'
      obtain ⟨k, g, rfl⟩ := map_at e2
      have sT := same_upd (o := .tup [.int (i : Nat), .ref k.1]) nT
      have s13 := s'.trans sT
      have gp : (partsOf ps ns.length)[i]? = some k.2 := by rw [← ek, List.getElem?_map, g]; rfl
      refine ⟨T, _, rfl, tupNew upd_same, rfl, _, _, rfl, _, _, rfl, rfl, .int m, rfl, .ref k.1, rfl, k.1, m, k.2, rfl, rfl, ((hks k (List.mem_of_getElem? g)).same s13).sq, _, rfl, ite2 (fun hin => ?_) (fun hno => ?_)⟩
      · have hin := of_decide_eq_true hin
        have hpm := List.mem_of_getElem? gp
        have el := part_lot hpm hin
        refine ⟨.int (i : Nat), rfl, q _ _ (s1.trans s13) (.inr ⟨i, by rw [gp, el], ?_, rfl⟩)⟩
        rw [← el] at hin
        exact lot_some hin
      · refine ⟨_, _, rfl, s13, fun j p hj gj => ?_⟩
        by_cases e : j = i
        · subst e
          rw [gp] at gj
          cases gj
          exact fun z => hno (decide_eq_true z)
        · exact no j p (by omega) gj
    · obtain ⟨y2, y3, rfl, s', no⟩ := h
      refine q _ _ (s1.trans s') (.inl ⟨fun z => ?_, rfl⟩)
      have hs := lot_self hm z
      obtain ⟨k, hk, e⟩ := List.getElem_of_mem (lot_part hs)
      have lk : (ks.map fun p => V.ref p.1).length = (partsOf ps ns.length).length := by rw [← ek, List.length_map, List.length_map]
      exact no k _ (by omega) (by rw [List.getElem?_eq_getElem hk, e]) hs
/-! ### mirror_part -/
theorem scMirrorPart : FnScope ["rule", "part", "mark"] ["rule", "part"] (defScope sMirrorPart) := ⟨rfl, rfl, rfl, by decide +kernel, rfl, by decide +kernel, by decide +kernel⟩
def spMirrorPart (K : PySem.W.Frag) (C : Addr) : Sp := fun vs H Q _ => ∃ (r : Addr) (k : Nat) (p : List Int) (ns : List Int) (ps : List (List Int)), vs = [.ref r, .int (k : Int)] ∧ RuleAt K C H r ns ps ∧ Mir ns ∧ Stp ns ps ∧ (partsOf ps ns.length)[k]? = some p ∧
  ∀ (H' : Hp) (x mx : Int) (k' : Nat), Same H H' → x ∈ p → ns[x.toNat]? = some mx → (partsOf ps ns.length)[k']? = some (lotOf ps ns.length mx) → Q (.int (k' : Int)) H'
theorem ok_mirrorPart {f C fP fO fR : Addr} {fd dP dO dR : FuncData} (F : Fun K "mirror_part" "mirror_part" sMirrorPart f fd) (T : Txt K mg C) (DP : DefAt K mg "parts" sParts ["rule"] fP dP) (GP : FnOk P w K mg base CX0 3 fP dP ["rule"] (spParts K C))
    (DO : DefAt K mg "part_of" sPartOf ["rule", "mark"] fO dO) (GO : FnOk P w K mg base CX0 4 fO dO ["rule", "mark"] (spPartOf K C)) (FR : Fun K "mirror" "Rule.mirror" sMirrorM fR dR) (bR : Binds K dR ["self", "mark"] []) (mR : Meth K C "mirror" fR) : FnOk P w K mg base CX0 5 f fd ["rule", "part"] (spMirrorPart K C) := by
  have GR : FnOk P w K mg base CX0 1 fR dR ["self", "mark"] (spMirrorM K C) := ok_mirrorM FR T
  refine F.ok scMirrorPart (fun vs H Q E h => ?_) (fun cdv A outer s H vs Q E hr h => ?_)
  · obtain ⟨r, k, p, ns, ps, rfl, _⟩ := h
    rfl
  · obtain ⟨r, k, p, ns, ps, rfl, R, M, S, hk, q⟩ := h
    have hr1 := hr.mono (show 1 ≤ 4 by decide)
    have hr3 := hr.mono (show 3 ≤ 4 by decide)
    refine ⟨_, pss_cons (ps_set (i := 2) scMirrorPart.nd rfl (Or.inl rfl) (pe_ix ix_tup (pe_ix ix_tup (pe_call GP hr3 (by rfl) DP.mg DP.fn.kp DP.bi .nil pass0 (pa_cons (pv 0) pa_nil)) (pv 1) (fun _ _ => rfl)) pe_int (fun _ _ => rfl)))
      (pss_one (ps_ret (pe_call GO hr (by rfl) DO.mg DO.fn.kp DO.bi .nil pass0 (pa_cons (pv 0) (pa_cons (pe_meth (pv 0) T.cl mR GR hr1 bR .nil pass0 (pa_cons (pv 2) pa_nil)) pa_nil))))), ?_⟩
    refine ⟨.ref r, rfl, r, ns, ps, rfl, R, M, S, fun H1 c s1 nc hC => ?_⟩
    obtain ⟨ks, ek, hc, hks⟩ := hC
    have gk : (ks.map (·.2))[k]? = some p := by rw [ek]; exact hk
    obtain ⟨kk, g, ekk⟩ := map_at gk
    have hpm := List.mem_of_getElem? hk
    cases ep : p with
    | nil => exact absurd ep (part_ne hpm)
    | cons x l =>
      have hxp : x ∈ p := by rw [ep]; exact List.mem_cons_self ..
      have hlot := part_lot hpm hxp
      have hxl : x ∈ lotOf ps ns.length x := by rw [hlot]; exact hxp
      have hx := (mem_lot.mp hxl).1
      obtain ⟨mx, gm⟩ : ∃ m, ns[x.toNat]? = some m := ⟨_, List.getElem?_eq_getElem (by omega)⟩
      have hT : SqT K H1 kk.1 ((x :: l).map V.int) := by rw [← ep, ekk]; exact (hks kk (List.mem_of_getElem? g)).sq
      refine ⟨.int (k : Int), rfl, c, _, _, .ref kk.1, rfl, rfl, tupNew hc, atI_nat (by rw [List.getElem?_map, g]; rfl), kk.1, _, 0, .int x, rfl, rfl, hT, atI_nat (j := 0) rfl, ?_⟩
      obtain ⟨dx, a0, b0, t0, g1, _⟩ := (R.same s1).ex
      have fno := flds_no a0 b0 t0 (m := "mirror") (by decide +kernel) (by decide +kernel) (by decide +kernel)
      refine ⟨.ref r, rfl, .ref r, rfl, r, dx, _, rfl, g1, fno, .int x, rfl, r, ns, ps, x.toNat, mx, by rw [Int.toNat_of_nonneg hx.1]; rfl, R.same s1, gm, ?_⟩
      refine ⟨r, mx, ns, ps, rfl, R.same s1, M, S, M.inn mx (List.mem_of_getElem? gm), fun H2 v s2 hv => ?_⟩
      rcases hv with ⟨hn, _⟩ | ⟨k', hk', _, rfl⟩
      · exact absurd (lot_some (lot_mirror M S hx.1 gm gm hxl)) hn
      · exact q H2 x mx k' (s1.trans s2) hxp gm hk'
end
end K75
namespace RV
open PySem L2
/-! ### walks by their steps -/
inductive Wk (ps : List (List Int)) : Nat → Int → Int → Prop where
  | nil (i : Int) : Wk ps 0 i i
  | more {n : Nat} {i j k : Int} : Wk ps n i j → [j, k] ∈ ps → Wk ps (n + 1) i k
theorem Wk.trans {ps : List (List Int)} {n m : Nat} {i j k : Int} (h : Wk ps n i j) (g : Wk ps m j k) : Wk ps (n + m) i k := by
  induction g with
  | nil _ => exact h
  | more _ e ih => exact .more (ih h) e
theorem Wk.one {ps : List (List Int)} {i j : Int} (h : [i, j] ∈ ps) : Wk ps 1 i j := .more (.nil i) h
theorem Wk.rch {ps : List (List Int)} {n : Nat} {i j : Int} (h : Wk ps n i j) : n = 0 ∧ i = j ∨ Rch ps i j := by
  induction h with
  | nil _ => exact .inl ⟨rfl, rfl⟩
  | more _ e ih =>
    rcases ih with ⟨_, rfl⟩ | ih
    · exact .inr (.one e)
    · exact .inr (.more ih e)
theorem Wk.lead {ps : List (List Int)} {n : Nat} {i j : Int} (h : Wk ps (n + 1) i j) : Rch ps i j := by
  rcases h.rch with ⟨z, _⟩ | z
  · omega
  · exact z
theorem rch_wk {ps : List (List Int)} {i j : Int} (h : Rch ps i j) : ∃ n, Wk ps (n + 1) i j := by
  induction h with
  | one e => exact ⟨0, .one e⟩
  | more _ e ih =>
    obtain ⟨n, w⟩ := ih
    exact ⟨n + 1, .more w e⟩
theorem Wk.zero {ps : List (List Int)} {i j : Int} (h : Wk ps 0 i j) : i = j := by
  cases h; rfl
theorem Wk.bound {ps : List (List Int)} {b : Int} (hb : ∀ p ∈ ps, Pr b p) {n : Nat} {i j : Int} (h : Wk ps n i j) (hi : 0 ≤ i ∧ i < b) : 0 ≤ j ∧ j < b := by
  rcases h.rch with ⟨_, rfl⟩ | z
  · exact hi
  · exact (Rch.bound hb z).2
/-- whatever is come to is come to by few steps -/
theorem wk_grow {ps : List (List Int)} (i : Int) : ∀ k : Nat, (∃ k', k' ≤ k ∧ ∀ x y : Int, (∃ m, m ≤ k' ∧ Wk ps m i x) → [x, y] ∈ ps → ∃ m, m ≤ k' ∧ Wk ps m i y) ∨ ∃ L : List Int, L.Nodup ∧ L.length = k + 1 ∧ ∀ x ∈ L, ∃ m, m ≤ k ∧ Wk ps m i x
  | 0 => .inr ⟨[i], by simp, rfl, fun x hx => ⟨0, Nat.le_refl _, by rw [List.mem_singleton.mp hx]; exact .nil i⟩⟩
  | k + 1 => by
    rcases wk_grow i k with ⟨k', h1, h2⟩ | ⟨L, nd, len, all⟩
    · exact .inl ⟨k', by omega, h2⟩
    · by_cases c : ∀ x y : Int, (∃ m, m ≤ k ∧ Wk ps m i x) → [x, y] ∈ ps → ∃ m, m ≤ k ∧ Wk ps m i y
      · exact .inl ⟨k, by omega, c⟩
      · refine .inr ?_
        obtain ⟨x, hx⟩ := Classical.not_forall.mp c
        obtain ⟨y, hy⟩ := Classical.not_forall.mp hx
        obtain ⟨h1, hy⟩ := Classical.not_imp.mp hy
        obtain ⟨h2, h3⟩ := Classical.not_imp.mp hy
        obtain ⟨m, hm, wm⟩ := h1
        refine ⟨y :: L, List.nodup_cons.mpr ⟨fun z => h3 (all y z), nd⟩, by rw [List.length_cons, len], fun z hz => ?_⟩
        rcases List.mem_cons.mp hz with rfl | hz
        · exact ⟨m + 1, by omega, .more wm h2⟩
        · obtain ⟨m', h4, h5⟩ := all z hz
          exact ⟨m', by omega, h5⟩
theorem wk_in {ps : List (List Int)} {i : Int} {k : Nat} : ∀ {m : Nat} {j : Int}, Wk ps m i j → (∀ x y : Int, (∃ m, m ≤ k ∧ Wk ps m i x) → [x, y] ∈ ps → ∃ m, m ≤ k ∧ Wk ps m i y) → ∃ m', m' ≤ k ∧ Wk ps m' i j
  | _, _, .nil _, _ => ⟨0, Nat.zero_le _, .nil _⟩
  | _, _, .more w e, h2 => h2 _ _ (wk_in w h2) e
theorem wk_short {ps : List (List Int)} {n : Nat} (hb : ∀ p ∈ ps, Pr (n : Int) p) {i j : Int} (hi : 0 ≤ i ∧ i < (n : Int)) {m : Nat} (h : Wk ps m i j) : ∃ m', m' ≤ n ∧ Wk ps m' i j := by
  rcases wk_grow (ps := ps) i n with ⟨k', h1, h2⟩ | ⟨L, nd, len, all⟩
  · obtain ⟨m', h3, h4⟩ := wk_in h h2
    exact ⟨m', by omega, h4⟩
  · have := nodup_le (us := upN n) nd fun x hx => by
      obtain ⟨m', _, w⟩ := all x hx
      exact mem_upN.mpr (w.bound hb hi)
    rw [upN_len] at this
    omega
/-! ### periods -/
structure Per (ps : List (List Int)) (x : Int) (g : Nat) : Prop where
  all : ∀ n, Wk ps n x x → g ∣ n
  most : ∀ d : Nat, (∀ n, n ≤ 24 → Wk ps n x x → d ∣ n) → d ∣ g
theorem Per.uniq {ps : List (List Int)} {x : Int} {g g' : Nat} (h : Per ps x g) (h' : Per ps x g') : g = g' :=
  Nat.dvd_antisymm (h'.most g fun n _ w => h.all n w) (h.most g' fun n _ w => h'.all n w)
open Classical in
noncomputable def perN (ps : List (List Int)) (x : Int) : Nat := if h : ∃ g, Per ps x g then Classical.choose h else 0
theorem Per.is {ps : List (List Int)} {x : Int} {g : Nat} (h : Per ps x g) : perN ps x = g := by
  have e : ∃ g, Per ps x g := ⟨g, h⟩
  unfold perN
  rw [dif_pos e]
  exact (Classical.choose_spec e).uniq h
open Classical in
noncomputable def clsN (ps : List (List Int)) (x : Int) (g : Nat) (m : Int) : Nat := if h : ∃ n, Wk ps n x m then Classical.choose h % g else 0
theorem mod_of_dvd {g a b r : Nat} (h1 : g ∣ a + r) (h2 : g ∣ b + r) : a % g = b % g := by
  have e : ((a : Int) - b) % g = 0 := by
    have z : (g : Int) ∣ ((a + r : Nat) : Int) - ((b + r : Nat) : Int) := Int.dvd_sub (Int.ofNat_dvd.mpr h1) (Int.ofNat_dvd.mpr h2)
    have e2 : ((a + r : Nat) : Int) - ((b + r : Nat) : Int) = (a : Int) - b := by omega
    rw [e2] at z
    exact Int.emod_eq_zero_of_dvd z
  have z := Int.emod_eq_emod_iff_emod_sub_eq_zero.mpr e
  omega
/-- any way to a mark that leads back tells its class -/
theorem Per.cls {ps : List (List Int)} {x m : Int} {g n : Nat} (h : Per ps x g) (w : Wk ps n x m) (back : ∃ r, Wk ps r m x) : n % g = clsN ps x g m := by
  have e : ∃ n, Wk ps n x m := ⟨n, w⟩
  unfold clsN
  rw [dif_pos e]
  obtain ⟨r, wr⟩ := back
  exact mod_of_dvd (h.all _ (w.trans wr)) (h.all _ ((Classical.choose_spec e).trans wr))
theorem Per.self {ps : List (List Int)} {x : Int} {g : Nat} (h : Per ps x g) : clsN ps x g x = 0 := by
  rw [← h.cls (.nil x) ⟨0, .nil x⟩]; exact Nat.zero_mod g
theorem Per.pos {ps : List (List Int)} {x : Int} {g : Nat} (h : Per ps x g) (r : Rch ps x x) : 0 < g := by
  obtain ⟨n, w⟩ := rch_wk r
  have z := h.all _ w
  rcases Nat.eq_zero_or_pos g with e | e
  · rw [e] at z
    have := Nat.eq_zero_of_zero_dvd z
    omega
  · exact e
theorem dvd_mid {g t n r : Nat} (h1 : g ∣ t + n + r) (h2 : g ∣ t + r) : g ∣ n := by
  have z : (t + n + r) - (t + r) = n := by omega
  rw [← z]
  exact Nat.dvd_sub h1 h2
end RV
set_option maxHeartbeats 4000000
namespace RV
open PySem PySem.Spec PyProof.Rows L2
/-! ### dicts of ints -/
def kO (u : Int × Nat) : L2.Key × V := (Sum.inl u.1, V.int (u.2 : Int))
theorem kO_keys (us : List (Int × Nat)) : (us.map kO).map (·.1) = (us.map (·.1)).map Sum.inl := by
  rw [List.map_map, List.map_map]; rfl
theorem inl_mem {m : Int} {l : List Int} : (Sum.inl m : L2.Key) ∈ l.map Sum.inl ↔ m ∈ l := by
  rw [List.mem_map]
  constructor
  · rintro ⟨x, hx, e⟩
    cases e; exact hx
  · exact fun h => ⟨m, h, rfl⟩
theorem valO_not {us : List (Int × Nat)} {m : Int} (h : valV (us.map kO) (Sum.inl m) = none) : m ∉ us.map (·.1) := fun z => valV_not h (by rw [kO_keys]; exact inl_mem.mpr z)
theorem valO_in {us : List (Int × Nat)} {m : Int} {v : V} (h : valV (us.map kO) (Sum.inl m) = some v) : m ∈ us.map (·.1) := by
  have z := valV_in h
  rw [kO_keys] at z
  exact inl_mem.mp z
theorem valO_at : ∀ {us : List (Int × Nat)} {u : Int × Nat}, (us.map (·.1)).Nodup → u ∈ us → valV (us.map kO) (Sum.inl u.1) = some (.int (u.2 : Int))
  | [], u, _, h => nomatch h
  | v :: us, u, nd, h => by
    rw [List.map_cons, List.nodup_cons] at nd
    rw [List.map_cons]
    rcases List.mem_cons.mp h with rfl | h
    · exact valV_pos rfl
    · rw [valV_neg]
      · exact valO_at nd.2 h
      · intro e
        have e' : v.1 = u.1 := Sum.inl.inj e
        exact nd.1 (by rw [e']; exact List.mem_map_of_mem h)
theorem putO_new {us : List (Int × Nat)} {m : Int} {n : Nat} (h : valV (us.map kO) (Sum.inl m) = none) : putK (us.map kO) (Sum.inl m) (.int (n : Int)) = (us ++ [(m, n)]).map kO := by
  rw [putK_new _ h, List.map_append]; rfl
/-! ### steps off the least mark -/
structure Offs (ps : List (List Int)) (p : List Int) (x : Int) (us : List (Int × Nat)) : Prop where
  nd : (us.map (·.1)).Nodup
  wk : ∀ u ∈ us, Wk ps u.2 x u.1 ∧ u.1 ∈ p ∧ u.2 ≤ 7
  all : ∀ m ∈ p, m ∈ us.map (·.1)
/-- as they are found -/
structure Bf (ps : List (List Int)) (p : List Int) (x : Int) (us : List (Int × Nat)) : Prop where
  nd : (us.map (·.1)).Nodup
  first : us[0]? = some (x, 0)
  wk : ∀ (i : Nat) (u : Int × Nat), us[i]? = some u → Wk ps u.2 x u.1 ∧ u.1 ∈ p ∧ u.2 ≤ i
theorem Bf.len {ps : List (List Int)} {p : List Int} {x : Int} {us : List (Int × Nat)} (h : Bf ps p x us) : us.length ≤ p.length := by
  have := nodup_le (us := p) h.nd fun m hm => by
    obtain ⟨u, hu, rfl⟩ := List.mem_map.mp hm
    obtain ⟨i, hi, e⟩ := List.getElem_of_mem hu
    exact (h.wk i u (by rw [List.getElem?_eq_getElem hi, e])).2.1
  rwa [List.length_map] at this
theorem Bf.start {ps : List (List Int)} {p : List Int} {x : Int} (hx : x ∈ p) : Bf ps p x [(x, 0)] := by
  refine ⟨by simp, rfl, fun i u h => ?_⟩
  cases i with
  | zero =>
    have e : (x, 0) = u := Option.some.inj h
    subst e
    exact ⟨.nil x, hx, Nat.le_refl _⟩
  | succ i => simp at h
theorem Bf.add {ps : List (List Int)} {p : List Int} {x : Int} {us : List (Int × Nat)} (h : Bf ps p x us) {a : Nat} {u : Int × Nat} {y : Int} (hu : us[a]? = some u) (e : [u.1, y] ∈ ps) (hy : y ∈ p) (ny : y ∉ us.map (·.1)) : Bf ps p x (us ++ [(y, u.2 + 1)]) := by
  have hl : 0 < us.length := by
    have := (List.getElem?_eq_some_iff.mp h.first).1
    exact this
  refine ⟨?_, by rw [List.getElem?_append_left hl]; exact h.first, fun i v hv => ?_⟩
  · rw [List.map_append, List.nodup_append]
    exact ⟨h.nd, by simp, fun b hb c hc e => ny (by
      have := List.mem_singleton.mp (show c ∈ [y] from hc)
      rw [← this, ← e]; exact hb)⟩
  · by_cases hi : i < us.length
    · rw [List.getElem?_append_left hi] at hv
      exact h.wk i v hv
    · have hi2 := (List.getElem?_eq_some_iff.mp hv).1
      rw [List.length_append] at hi2
      have ei : i = us.length := by
        have : [(y, u.2 + 1)].length = 1 := rfl
        omega
      subst ei
      rw [List.getElem?_append_right (Nat.le_refl _), Nat.sub_self] at hv
      have ev : (y, u.2 + 1) = v := Option.some.inj hv
      subst ev
      obtain ⟨w1, w2, w3⟩ := h.wk a u hu
      have := (List.getElem?_eq_some_iff.mp hu).1
      exact ⟨.more w1 e, hy, by show u.2 + 1 ≤ us.length; omega⟩
/-- a part: what lies between its marks is in it -/
structure Knot (ps : List (List Int)) (p : List Int) (x : Int) : Prop where
  x_in : x ∈ p
  out : ∀ m ∈ p, ∃ n, Wk ps n x m
  back : ∀ m ∈ p, ∃ n, Wk ps n m x
  mid : ∀ m, (∃ n, Wk ps n x m) → (∃ n, Wk ps n m x) → m ∈ p
theorem Knot.way {ps : List (List Int)} {p : List Int} {x : Int} (k : Knot ps p x) {n : Nat} {j m : Int} (h : Wk ps n x j) (e : [j, m] ∈ ps) (hm : m ∈ p) : j ∈ p := by
  obtain ⟨r, w⟩ := k.back m hm
  exact k.mid j ⟨n, h⟩ ⟨1 + r, (Wk.one e).trans w⟩
theorem Bf.offs {ps : List (List Int)} {p : List Int} {x : Int} {us : List (Int × Nat)} (h : Bf ps p x us) (k : Knot ps p x) (h8 : p.length ≤ 8) (done : ∀ (i : Nat) (u : Int × Nat), us[i]? = some u → ∀ y ∈ p, [u.1, y] ∈ ps → y ∈ us.map (·.1)) : Offs ps p x us := by
  refine ⟨h.nd, fun u hu => ?_, fun m hm => ?_⟩
  · obtain ⟨i, hi, e⟩ := List.getElem_of_mem hu
    obtain ⟨w1, w2, w3⟩ := h.wk i u (by rw [List.getElem?_eq_getElem hi, e])
    have := h.len
    exact ⟨w1, w2, by omega⟩
  · have : ∀ {n : Nat} {m : Int}, Wk ps n x m → m ∈ p → m ∈ us.map (·.1) := by
      intro n
      induction n with
      | zero =>
        intro m w _
        rw [← w.zero]
        exact List.mem_map_of_mem (List.mem_of_getElem? h.first)
      | succ n ih =>
        intro m w hm
        cases w with
        | more w e =>
          have hj := ih w (k.way w e hm)
          obtain ⟨u, hu, eu⟩ := List.mem_map.mp hj
          obtain ⟨i, hi, ei⟩ := List.getElem_of_mem hu
          exact done i u (by rw [List.getElem?_eq_getElem hi, ei]) m hm (by rw [eu]; exact e)
    obtain ⟨n, w⟩ := k.out m hm
    exact this w hm
/-! ### the period by these -/
theorem Offs.get {ps : List (List Int)} {p : List Int} {x : Int} {us : List (Int × Nat)} (h : Offs ps p x us) {m : Int} (hm : m ∈ p) : ∃ o : Nat, (m, o) ∈ us ∧ Wk ps o x m ∧ o ≤ 7 := by
  obtain ⟨u, hu, e⟩ := List.mem_map.mp (h.all m hm)
  obtain ⟨w1, _, w3⟩ := h.wk u hu
  refine ⟨u.2, ?_, by rw [← e]; exact w1, w3⟩
  rw [← e]; exact hu
theorem Offs.one {ps : List (List Int)} {p : List Int} {x : Int} {us : List (Int × Nat)} (h : Offs ps p x us) {m : Int} {a b : Nat} (h1 : (m, a) ∈ us) (h2 : (m, b) ∈ us) : a = b := by
  have e1 := valO_at h.nd h1
  have e2 := valO_at h.nd h2
  rw [e1] at e2
  have := Option.some.inj e2
  injection this with e
  omega
def gapO (a b : Nat) : Nat := ((a : Int) + 1 - (b : Int)).natAbs
/-- what period has found so far -/
structure Gf (ps : List (List Int)) (p : List Int) (us : List (Int × Nat)) (qs : List (List Int)) (g : Nat) : Prop where
  all : ∀ (x y : Int) (a b : Nat), [x, y] ∈ qs → x ∈ p → y ∈ p → (x, a) ∈ us → (y, b) ∈ us → g ∣ gapO a b
  most : ∀ d : Nat, (∀ (x y : Int) (a b : Nat), [x, y] ∈ qs → x ∈ p → y ∈ p → (x, a) ∈ us → (y, b) ∈ us → d ∣ gapO a b) → d ∣ g
theorem gap_dvd {g a b : Nat} (h : g ∣ gapO a b) : ((a : Int) + 1) % g = (b : Int) % g := by
  have z : (g : Int) ∣ (a : Int) + 1 - (b : Int) := Int.ofNat_dvd_left.mpr h
  exact Int.emod_eq_emod_iff_emod_sub_eq_zero.mpr (Int.emod_eq_zero_of_dvd z)
theorem dvd_gap {d a b r : Nat} (h1 : d ∣ a + 1 + r) (h2 : d ∣ b + r) : d ∣ gapO a b := by
  have z : (d : Int) ∣ ((a + 1 + r : Nat) : Int) - ((b + r : Nat) : Int) := Int.dvd_sub (Int.ofNat_dvd.mpr h1) (Int.ofNat_dvd.mpr h2)
  have e : ((a + 1 + r : Nat) : Int) - ((b + r : Nat) : Int) = (a : Int) + 1 - (b : Int) := by omega
  rw [e] at z
  exact Int.ofNat_dvd_left.mp z
theorem Gf.per {ps : List (List Int)} {p : List Int} {x : Int} {us : List (Int × Nat)} {g n : Nat} (G : Gf ps p us ps g) (O : Offs ps p x us) (k : Knot ps p x) (hb : ∀ q ∈ ps, Pr (n : Int) q) (h8 : n ≤ 8) (hp : ∀ m ∈ p, 0 ≤ m ∧ m < (n : Int)) : Per ps x g := by
  obtain ⟨o0, m0, w0, _⟩ := O.get k.x_in
  have key : ∀ {t : Nat} {m : Int}, Wk ps t x m → m ∈ p → ∀ a, (m, a) ∈ us → ((t : Int) + o0) % g = (a : Int) % g := by
    intro t
    induction t with
    | zero =>
      intro m w hm a ha
      rw [← w.zero] at ha
      rw [O.one ha m0]
      simp
    | succ t ih =>
      intro m w hm a ha
      cases w with
      | @more _ _ j _ w e =>
        have hj := k.way w e hm
        obtain ⟨b, hb', _, _⟩ := O.get hj
        have h1 := ih w hj b hb'
        have h2 := gap_dvd (G.all j m b a e hj hm hb' ha)
        have e3 : ((t + 1 : Nat) : Int) + o0 = ((t : Int) + o0) + 1 := by omega
        rw [e3, ← h2, Int.add_emod, h1, ← Int.add_emod]
  have o0z : (o0 : Int) % g = 0 := by
    have z := key w0 k.x_in o0 m0
    have e : ((o0 : Int) + o0 - o0) % g = 0 := Int.emod_eq_emod_iff_emod_sub_eq_zero.mp z
    have e2 : (o0 : Int) + o0 - o0 = o0 := by omega
    rwa [e2] at e
  refine ⟨fun t w => ?_, fun d hd => ?_⟩
  · have z := key w k.x_in o0 m0
    have e : ((t : Int) + o0 - o0) % g = 0 := Int.emod_eq_emod_iff_emod_sub_eq_zero.mp z
    have e2 : (t : Int) + o0 - o0 = t := by omega
    rw [e2] at e
    exact Int.ofNat_dvd.mp (Int.dvd_of_emod_eq_zero e)
  · refine G.most d fun y z a b hyz hy hz ha hb' => ?_
    obtain ⟨r0, wr0⟩ := k.back z hz
    obtain ⟨r, hr, wr⟩ := wk_short hb (hp z hz) wr0
    have wa := (O.wk _ ha)
    have wb := (O.wk _ hb')
    have a7 : a ≤ 7 := wa.2.2
    have b7 : b ≤ 7 := wb.2.2
    exact dvd_gap (hd (a + 1 + r) (by omega) ((Wk.more wa.1 hyz).trans wr)) (hd (b + r) (by omega) (Wk.trans wb.1 wr))
theorem Gf.nil {ps : List (List Int)} {p : List Int} {us : List (Int × Nat)} : Gf ps p us [] 0 := ⟨(fun _ _ _ _ h => nomatch h), fun d _ => Nat.dvd_zero d⟩
theorem Gf.skip {ps : List (List Int)} {p : List Int} {us : List (Int × Nat)} {qs : List (List Int)} {g : Nat} {x y : Int} (G : Gf ps p us qs g) (no : ¬ (x ∈ p ∧ y ∈ p)) : Gf ps p us (qs ++ [[x, y]]) g := by
  refine ⟨fun x' y' a b h hx hy ha hb => ?_, fun d hd => G.most d fun x' y' a b h => hd x' y' a b (List.mem_append_left _ h)⟩
  rcases List.mem_append.mp h with z | z
  · exact G.all x' y' a b z hx hy ha hb
  · have z := List.mem_singleton.mp z
    injection z with z1 z2
    injection z2 with z2 _
    subst z1 z2
    exact absurd ⟨hx, hy⟩ no
theorem Gf.add {ps : List (List Int)} {p : List Int} {us : List (Int × Nat)} {qs : List (List Int)} {g : Nat} {x y : Int} {a b : Nat} {z : Int} (O : Offs ps p z us) (G : Gf ps p us qs g) (hx : x ∈ p) (hy : y ∈ p) (ha : (x, a) ∈ us) (hb : (y, b) ∈ us) : Gf ps p us (qs ++ [[x, y]]) (Nat.gcd g (gapO a b)) := by
  refine ⟨fun x' y' a' b' h hx' hy' ha' hb' => ?_, fun d hd => Nat.dvd_gcd (G.most d fun x' y' a b h => hd x' y' a b (List.mem_append_left _ h)) (hd x y a b (List.mem_append_right _ (List.mem_singleton.mpr rfl)) hx hy ha hb)⟩
  rcases List.mem_append.mp h with e | e
  · exact Nat.dvd_trans (Nat.gcd_dvd_left _ _) (G.all x' y' a' b' e hx' hy' ha' hb')
  · have e := List.mem_singleton.mp e
    injection e with e1 e2
    injection e2 with e2 _
    subst e1 e2
    rw [O.one ha' ha, O.one hb' hb]
    exact Nat.gcd_dvd_right _ _
end RV
set_option maxHeartbeats 4000000
namespace K75
open PySem PySem.Spec PyProof.Rows L2 RV
theorem part_hd_in {ps : List (List Int)} {n : Nat} {p : List Int} (hp : p ∈ partsOf ps n) : hd0 p ∈ p ∧ lotOf ps n (hd0 p) = p := by
  have ne := part_ne hp
  cases e : p with
  | nil => exact absurd e ne
  | cons x l =>
    have hx : x ∈ p := by rw [e]; exact List.mem_cons_self ..
    refine ⟨List.mem_cons_self .., ?_⟩
    have z := part_lot hp hx
    rw [e] at z
    exact z
theorem knot_of {ps : List (List Int)} {n : Nat} (hb : ∀ q ∈ ps, Pr (n : Int) q) {p : List Int} (hp : p ∈ partsOf ps n) : Knot ps p (hd0 p) := by
  obtain ⟨hx, hl⟩ := part_hd_in hp
  have hx' : hd0 p ∈ lotOf ps n (hd0 p) := by rw [hl]; exact hx
  have bx := (mem_lot.mp hx').1
  refine ⟨hx, fun m hm => ?_, fun m hm => ?_, fun m h1 h2 => ?_⟩
  · rw [← hl] at hm
    obtain ⟨k, w⟩ := rch_wk (mem_lot.mp hm).2.1
    exact ⟨_, w⟩
  · rw [← hl] at hm
    obtain ⟨k, w⟩ := rch_wk (mem_lot.mp hm).2.2
    exact ⟨_, w⟩
  · obtain ⟨a, wa⟩ := h1
    obtain ⟨b, wb⟩ := h2
    rcases wa.rch with ⟨_, e⟩ | r1
    · rw [← e]; exact hx
    · rcases wb.rch with ⟨_, e⟩ | r2
      · rw [e]; exact hx
      · rw [← hl]
        exact mem_lot.mpr ⟨wa.bound hb bx, r1, r2⟩
theorem part_len8 {ps : List (List Int)} {n : Nat} (h8 : n ≤ 8) {p : List Int} (hp : p ∈ partsOf ps n) : p.length ≤ 8 := by
  obtain ⟨m, _, _, rfl⟩ := mem_parts.mp hp
  exact Nat.le_trans (lot_len ps n m) h8
theorem part_bd {ps : List (List Int)} {n : Nat} {p : List Int} {x : Int} (h : p ∈ partsOf ps n) (hx : x ∈ p) : 0 ≤ x ∧ x < (n : Int) := by
  have e := part_lot h hx
  rw [← e] at hx
  exact (mem_lot.mp hx).1
section
variable {P : Program} {w : World} {K : PySem.W.Frag} {mg : Str → Option Value} {base : Heap}
/-! ### steps_off -/
theorem scOff : FnScope ["rule", "marks", "least", "off", "queue", "at", "here", "mark"] ["rule", "marks"] (defScope sOff) := ⟨rfl, rfl, rfl, by decide +kernel, rfl, by decide +kernel, by decide +kernel⟩
def spOff (K : PySem.W.Frag) (C : Addr) : Sp := fun vs H Q _ => ∃ (r a : Addr) (ns : List Int) (ps : List (List Int)) (p : List Int), vs = [.ref r, .ref a] ∧ RuleAt K C H r ns ps ∧ Mir ns ∧ Stp ns ps ∧ p ∈ partsOf ps ns.length ∧ SqT K H a (p.map V.int) ∧
  ∀ (H' : Hp) (d : Addr) (us : List (Int × Nat)), Same H H' → H d = none → H' d = some (.dK (us.map kO)) → Offs ps p (hd0 p) us → Q (.ref d) H'
def atOff : L2.St → Nat
  | [_, _, _, _, _, some (.int a), _, _] => 8 - a.toNat
  | _ => 0
theorem ok_off {f C fB : Addr} {fd dB : FuncData} (F : Fun K "steps_off" "steps_off" sOff f fd) (T : Txt K mg C) (B : Bare mg)
    (FB : Fun K "behind" "Rule.behind" sBehindM fB dB) (bB : Binds K dB ["self", "mark"] []) (mB : Meth K C "behind" fB) : FnOk P w K mg base CX0 2 f fd ["rule", "marks"] (spOff K C) := by
  have GB : FnOk P w K mg base CX0 1 fB dB ["self", "mark"] (spBehindM K C) := ok_behindM FB T
  refine F.ok scOff (fun vs H Q E h => ?_) (fun cdv A outer s H vs Q E hr h => ?_)
  · obtain ⟨r, a, ns, ps, p, rfl, _⟩ := h
    rfl
  · obtain ⟨r, a, ns, ps, p, rfl, R, M, S, hp, hA, q⟩ := h
    have hu := hu_of hr
    have hu5 := un65 hr
    refine ⟨_, pss_cons (ps_set (i := 2) scOff.nd rfl (Or.inl rfl) (pe_ix ix_tup (pv 1) pe_int (fun _ _ => rfl)))
      (pss_cons (ps_set (i := 3) scOff.nd rfl (Or.inl rfl) (pe_disp (pps_cons (pv 2) pe_int pps_nil) rfl rfl (by simp) (by decide)))
      (pss_cons (ps_set (i := 4) scOff.nd rfl (Or.inl rfl) (pe_lst (pa_cons (pv 2) pa_nil)))
      (pss_cons (ps_set (i := 5) scOff.nd rfl (Or.inl rfl) pe_int)
      (pss_cons (ps_while PassesOwn.never (pt_cmpR op_lt (pv 5) (pe_callB call_len_seq (by rfl) B.len PySem.boot_len (pa_cons (pv 4) pa_nil)) (nomark _))
        (pss_cons (ps_set (i := 6) scOff.nd rfl (Or.inl rfl) (pe_ix ix_list (pv 4) (pv 5) (fun _ _ => rfl)))
        (pss_cons (ps_for PassesOwn.never rfl (pi_tup (pe_meth (pv 0) T.cl mB GB hr bB .nil pass0 (pa_cons (pv 6) pa_nil))) (pg_name (i := 7) scOff.nd rfl (Or.inl rfl))
          (pss_one (ps_if (PW.pt (pw_and (pt_cmpR (op_inTI hu5) (pv 7) (pv 1) (by rfl)) (pw_and1 (pt_cmp (pc_dnotin hu (pv 7) (pv 3))))))
            (pss_cons (ps_dput hu (pv 3) (pv 7) (pe_op op_add (pe_dget hu (pv 3) (pv 6) (fun _ _ => rfl)) pe_int) rfl)
            (pss_one (ps_expr (pe_bm PySem.F.plainAttrs_list PySem.F.slot_list_append PySem.F.type_list_append mt_append (pv 4) (pa_cons (pv 7) pa_nil))))) pss_nil)))
        (pss_one (ps_aug (i := 5) scOff.nd rfl (.inl rfl) pe_int ip_add)))))
      (pss_one (ps_ret (pv 3))))))), ?_⟩
    obtain ⟨dx, a0, b0, t0, g1, g2, g3, g4⟩ := R.ex
    have fno := flds_no a0 b0 t0 (m := "behind") (by decide +kernel) (by decide +kernel) (by decide +kernel)
    have h8 := M.few
    have hP : ∀ q ∈ ps, Pr (ns.length : Int) q := fun q hq => S.pair q hq
    have kn := knot_of hP hp
    have l8 := part_len8 h8 hp
    have hx0 : (p.map V.int)[0]? = some (.int (hd0 p)) := by
      cases e : p with
      | nil => exact absurd e (part_ne hp)
      | cons x l => rfl
    refine ⟨.ref a, rfl, a, _, 0, .int (hd0 p), rfl, rfl, hA, atI_nat (j := 0) hx0, fun d nd => ?_⟩
    generalize hx : hd0 p = x at kn q ⊢
    refine ⟨.int x, rfl, upd_same, [(Sum.inl x, .int 0)], rfl, (by show 1 ≤ 15; decide), ?_⟩
    have s1 : Same H (upd (upd H d (.dK [])) d (.dK (mergeK [] [(Sum.inl x, .int 0)]))) := fun b o e => by
      rw [upd_ne (ne_of_none e nd), upd_ne (ne_of_none e nd)]; exact e
    have ed : (upd (upd H d (.dK [])) d (.dK (mergeK [] [(Sum.inl x, .int 0)]))) d = some (.dK ([(x, 0)].map kO)) := upd_same
    generalize upd (upd H d (.dK [])) d (.dK (mergeK [] [(Sum.inl x, .int 0)])) = H1 at s1 ed ⊢
    refine ⟨.int x, rfl, (by show 1 ≤ sizeLine; decide), fun L nL => ?_⟩
    have sL := same_upd (o := .lst [.int x]) nL
    have nLH : H L = none := s1.free nL
    have ndL : d ≠ L := ne_of_none ed nL
    refine while_by (fun σ H' => ∃ (us : List (Int × Nat)) (at_ : Nat) (y6 y7 : Option V), σ = [some (.ref r), some (.ref a), some (.int x), some (.ref d), some (.ref L), some (.int (at_ : Int)), y6, y7] ∧ Same H H' ∧ H' d = some (.dK (us.map kO)) ∧ H' L = some (.lst ((us.map (·.1)).map V.int)) ∧ Bf ps p x us ∧ at_ ≤ us.length ∧ ∀ (i : Nat) (u : Int × Nat), i < at_ → us[i]? = some u → ∀ y ∈ p, [u.1, y] ∈ ps → y ∈ us.map (·.1))
      (fun σ _ => atOff σ) ?_ ?_ ?_
    · exact ⟨[(x, 0)], 0, none, none, rfl, s1.trans sL, sL _ _ ed, upd_same, Bf.start kn.x_in, Nat.zero_le _, fun i u hi => absurd hi (Nat.not_lt_zero _)⟩
    · rintro σ H2 ⟨us, at_, y6, y7, rfl, s2, ed2, eL2, bf, hle, dn⟩
      refine ⟨.int (at_ : Int), rfl, .ref L, rfl, L, _, rfl, .inl (lstNew eL2), _, _, rfl, rfl, _, rfl, ite2 (fun hlt => ?_) (fun hge => ?_)⟩
      · have hlt : at_ < us.length := by
          have z := of_decide_eq_true hlt
          rw [List.length_map, List.length_map] at z; omega
        obtain ⟨u, gu⟩ : ∃ u, us[at_]? = some u := ⟨_, List.getElem?_eq_getElem hlt⟩
        obtain ⟨wu1, wu2, wu3⟩ := bf.wk _ _ gu
        have bu := part_bd hp wu2
        refine ⟨.ref L, rfl, .int (at_ : Int), rfl, L, _, _, .int u.1, rfl, rfl, lstNew eL2, atI_nat (by rw [List.getElem?_map, List.getElem?_map, gu]; rfl), ?_⟩
        refine ⟨.ref r, rfl, r, dx, _, rfl, s2 _ _ g1, fno, .int u.1, rfl, r, ns, ps, u.1.toNat, by rw [Int.toNat_of_nonneg bu.1]; rfl, R.same s2, by omega, fun c hc => ?_⟩
        rw [Int.toNat_of_nonneg bu.1] at hc
        refine ⟨c, rfl, ⟨_, hc⟩, ?_⟩
        have hbl : (behindOf ps u.1).length ≤ 64 := by
          have := behind_len ps u.1
          have := S.few
          omega
        refine for_it (walk_tup (K := K) (a := c) (xs := (behindOf ps u.1).map V.int)) (fun j σ H' => ∃ (us' : List (Int × Nat)) (y7 : Option V), σ = [some (.ref r), some (.ref a), some (.int x), some (.ref d), some (.ref L), some (.int (at_ : Int)), some (.int u.1), y7] ∧ Same H H' ∧ SqT K H' c ((behindOf ps u.1).map V.int) ∧ H' d = some (.dK (us'.map kO)) ∧ H' L = some (.lst ((us'.map (·.1)).map V.int)) ∧ Bf ps p x us' ∧ (∃ nw, us' = us ++ nw) ∧ ∀ y ∈ (behindOf ps u.1).take j, y ∈ p → y ∈ us'.map (·.1))
          ⟨us, _, rfl, s2, hc, ed2, eL2, bf, ⟨[], (List.append_nil us).symm⟩, fun y hy => by simp at hy⟩ (fun j σ H' _ h => ?_) (fun j z σ H4 H3 hj h y => ?_) (fun σ H3 h => ?_)
        · obtain ⟨_, _, _, _, hc', _⟩ := h
          exact hc'
        · obtain ⟨us', y7', rfl, s3, hc3, ed3, eL3, bf3, ⟨nw, enw⟩, tk⟩ := h
          obtain ⟨rfl, gz⟩ := y
          obtain ⟨y, gy, rfl⟩ := map_at gz
          have gu' : us'[at_]? = some u := by rw [enw, List.getElem?_append_left hlt]; exact gu
          have ebeh : [u.1, y] ∈ ps := (mem_behind hP).mp (List.mem_of_getElem? gy)
          have tkn : ∀ us2 : List (Int × Nat), (∀ z ∈ us'.map (·.1), z ∈ us2.map (·.1)) → (y ∈ p → y ∈ us2.map (·.1)) → ∀ z ∈ (behindOf ps u.1).take (j + 1), z ∈ p → z ∈ us2.map (·.1) := fun us2 h1 h2 z hz hzp => by
            rw [List.take_add_one, gy] at hz
            rcases List.mem_append.mp hz with e | e
            · exact h1 z (tk z e hzp)
            · have e : z = y := List.mem_singleton.mp e
              subst e
              exact h2 hzp
          refine ⟨.int y, rfl, .ref a, rfl, a, y, p, rfl, rfl, sqT_same s3 hA, _, rfl, ?_⟩
          by_cases hyp : y ∈ p
          · rw [decide_eq_true hyp]
            refine iteT ⟨.int y, rfl, .ref d, rfl, d, _, rfl, DGet.k (k := Sum.inl y) ed3, _, rfl, ?_⟩
            cases ev : valV (us'.map kO) (Sum.inl y) with
            | some v =>
              refine iteF ?_
              exact ⟨us', _, rfl, s3, hc3, ed3, eL3, bf3, ⟨nw, enw⟩, tkn us' (fun _ z => z) fun _ => valO_in ev⟩
            | none =>
              refine iteT ?_
              have ev' := valO_at bf3.nd (List.mem_of_getElem? gu')
              have hl3 := bf3.len
              have dput : DPut H3 d (kV (Sum.inl y)) (.int ((u.2 : Int) + 1)) (upd H3 d (.dK ((us' ++ [(y, u.2 + 1)]).map kO))) := by
                rw [← putO_new ev]
                exact DPut.k ed3 (by rw [List.length_map]; exact few1 (by omega))
              refine ⟨.ref d, rfl, .int u.1, rfl, d, _, rfl, (by rw [← ev']; exact DGet.k (k := Sum.inl u.1) ed3), _, _, rfl, rfl, .ref d, rfl, .int y, rfl, d, upd H3 d (.dK ((us' ++ [(y, u.2 + 1)]).map kO)), rfl, dput, ?_⟩
              have eL4 : (upd H3 d (.dK ((us' ++ [(y, u.2 + 1)]).map kO))) L = some (.lst ((us'.map (·.1)).map V.int)) := by rw [upd_ne ndL.symm]; exact eL3
              refine ⟨.ref L, rfl, .inl ⟨rfl, _, lstNew eL4⟩, .int y, rfl, L, _, _, rfl, rfl, eL4, by rw [List.length_map, List.length_map]; exact few1 (by omega), ?_⟩
              have s5 : Same H (upd (upd H3 d (.dK ((us' ++ [(y, u.2 + 1)]).map kO))) L (.lst ((us'.map (·.1)).map V.int ++ [.int y]))) := fun b o e => by
                rw [upd_ne (ne_of_none e nLH), upd_ne (ne_of_none e nd)]; exact s3 b o e
              refine ⟨us' ++ [(y, u.2 + 1)], _, rfl, s5, ?_, ?_, ?_, bf3.add gu' ebeh hyp (valO_not ev), ⟨nw ++ [(y, u.2 + 1)], by rw [enw, List.append_assoc]⟩, tkn _ (fun z hz => by rw [List.map_append]; exact List.mem_append_left _ hz) fun _ => by rw [List.map_append]; exact List.mem_append_right _ (List.mem_singleton.mpr rfl)⟩
              · have keep : ∀ b o, H3 b = some o → (∃ xs, o = .tup xs) ∨ (∃ ob xs, o = .frz ob (.tup xs)) → (upd (upd H3 d (.dK ((us' ++ [(y, u.2 + 1)]).map kO))) L (.lst ((us'.map (·.1)).map V.int ++ [.int y]))) b = some o := fun b o e k => by
                  rw [upd_ne (fun z => by rw [z, eL3] at e; cases e; rcases k with ⟨_, k⟩ | ⟨_, _, k⟩ <;> cases k), upd_ne (fun z => by rw [z, ed3] at e; cases e; rcases k with ⟨_, k⟩ | ⟨_, _, k⟩ <;> cases k)]
                  exact e
                rcases hc3 with (z | ⟨ob, z⟩) | z
                · exact .inl (.inl (keep _ _ z (.inl ⟨_, rfl⟩)))
                · exact .inl (.inr ⟨ob, keep _ _ z (.inr ⟨_, _, rfl⟩)⟩)
                · exact .inr z
              · rw [upd_ne ndL, upd_same]
              · rw [upd_same, List.map_append, List.map_append]; rfl
          · rw [decide_eq_false hyp]
            refine iteF (iteF ?_)
            exact ⟨us', _, rfl, s3, hc3, ed3, eL3, bf3, ⟨nw, enw⟩, tkn us' (fun _ z => z) fun z => absurd z hyp⟩
        · obtain ⟨us', y7', rfl, s3, hc3, ed3, eL3, bf3, ⟨nw, enw⟩, tk⟩ := h
          rw [List.length_map, List.take_of_length_le (Nat.le_refl _)] at tk
          refine ⟨.int (at_ : Int), rfl, _, _, rfl, rfl, ⟨us', at_ + 1, _, _, rfl, s3, ed3, eL3, bf3, ?_, fun i v hi hv y hy e => ?_⟩, ?_⟩
          · rw [enw, List.length_append]; omega
          · by_cases ei : i = at_
            · subst ei
              rw [enw, List.getElem?_append_left hlt, gu] at hv
              cases hv
              exact tk y ((mem_behind hP).mpr e) hy
            · rw [enw, List.getElem?_append_left (by omega)] at hv
              have := dn i v (by omega) hv y hy e
              rw [enw, List.map_append]
              exact List.mem_append_left _ this
          · show 8 - ((at_ : Int) + 1).toNat < 8 - ((at_ : Int)).toNat
            have := bf.len
            omega
      · have hge : us.length ≤ at_ := by
          have z : ¬ ((at_ : Int) < (((us.map (·.1)).map V.int).length : Int)) := fun z => hge (decide_eq_true z)
          rw [List.length_map, List.length_map] at z; omega
        refine ⟨.ref d, rfl, q H2 d us s2 nd ed2 ?_⟩
        refine bf.offs kn l8 fun i u hu => ?_
        exact dn i u (by have := (List.getElem?_eq_some_iff.mp hu).1; omega) hu
    · intro σ H1 Q1 Q2 hq h
      obtain ⟨x, e1, y, e2, p, l, e3, e4, i, j, e5, e6, b, e7, h⟩ := h
      exact ⟨x, e1, y, e2, p, l, e3, e4, i, j, e5, e6, b, e7, hq _ _ h⟩
end
end K75
set_option maxHeartbeats 4000000
namespace K75
open PySem PySem.Spec PyProof.Rows L2 RV
section
variable {P : Program} {w : World} {K : PySem.W.Frag} {mg : Str → Option Value} {base : Heap}
/-! ### common_measure -/
theorem scMeasure : FnScope ["one", "other"] ["one", "other"] (defScope sMeasure) := ⟨rfl, rfl, rfl, by decide +kernel, rfl, by decide +kernel, by decide +kernel⟩
def spMeasure : Sp := fun vs H Q _ => ∃ a b : Nat, vs = [.int (a : Int), .int (b : Int)] ∧ Q (.int ((Nat.gcd a b : Nat) : Int)) H
def otherOf : L2.St → Nat
  | [_, some (.int b)] => b.toNat
  | _ => 0
theorem ok_measure {f : Addr} {fd : FuncData} (F : Fun K "common_measure" "common_measure" sMeasure f fd) : FnOk P w K mg base CX0 1 f fd ["one", "other"] spMeasure := by
  refine F.ok scMeasure (fun vs H Q E h => ?_) (fun cdv A outer s H vs Q E hr h => ?_)
  · obtain ⟨a, b, rfl, _⟩ := h
    rfl
  · obtain ⟨a, b, rfl, q⟩ := h
    refine ⟨_, pss_cons (ps_while PassesOwn.never (pt_cmpR op_gt (pv 1) pe_int (nomark _))
        (pss_one (ps_par (i := 0) (j := 1) (by rfl) scMeasure.nd rfl rfl (by decide) rfl rfl (pa_cons (pv 1) (pa_cons (pe_op op_mod (pv 0) (pv 1)) pa_nil)) (by rfl))))
      (pss_one (ps_ret (pv 0))), ?_⟩
    refine while_by (fun σ H' => ∃ c d : Nat, σ = [some (.int (c : Int)), some (.int (d : Int))] ∧ H' = H ∧ Nat.gcd c d = Nat.gcd a b) (fun σ _ => otherOf σ) ?_ ?_ ?_
    · exact ⟨a, b, rfl, rfl, rfl⟩
    · rintro σ H1 ⟨c, d, rfl, rfl, e⟩
      refine ⟨.int (d : Int), rfl, _, _, rfl, rfl, _, rfl, ite2 (fun h0 => ?_) (fun h0 => ?_)⟩
      · have h0 : (d : Int) > 0 := of_decide_eq_true h0
        refine ⟨.int (d : Int), rfl, .int (c : Int), rfl, .int (d : Int), rfl, _, _, rfl, rfl, h0, _, _, rfl, ⟨d, c % d, rfl, rfl, ?_⟩, ?_⟩
        · rw [← e, Nat.gcd_comm d (c % d), ← Nat.gcd_rec, Nat.gcd_comm]
        · show ((c : Int) % (d : Int)).toNat < ((d : Int)).toNat
          have := Int.emod_lt_of_pos (c : Int) h0
          have := Int.emod_nonneg (c : Int) (show (d : Int) ≠ 0 by omega)
          omega
      · have h0 : d = 0 := by
          have z : ¬ ((d : Int) > 0) := fun z => h0 (decide_eq_true z)
          omega
        subst h0
        rw [Nat.gcd_zero_right] at e
        refine ⟨.int (c : Int), rfl, ?_⟩
        rw [e]; exact q
    · intro σ H1 Q1 Q2 hq h
      obtain ⟨x, e1, i, j, e5, e6, b, e7, h⟩ := h
      exact ⟨x, e1, i, j, e5, e6, b, e7, hq _ _ h⟩
/-! ### period -/
theorem scPeriod : FnScope ["rule", "part", "marks", "off", "found", "a", "b"] ["rule", "part"] (defScope sPeriod) := ⟨rfl, rfl, rfl, by decide +kernel, rfl, by decide +kernel, by decide +kernel⟩
def spPeriod (K : PySem.W.Frag) (C : Addr) : Sp := fun vs H Q _ => ∃ (r : Addr) (k : Nat) (ns : List Int) (ps : List (List Int)) (p : List Int), vs = [.ref r, .int (k : Int)] ∧ RuleAt K C H r ns ps ∧ Mir ns ∧ Stp ns ps ∧ (partsOf ps ns.length)[k]? = some p ∧
  ∀ H', Same H H' → Per ps (hd0 p) (perN ps (hd0 p)) → Q (.int ((perN ps (hd0 p) : Nat) : Int)) H'
theorem abs_gap (a b : Nat) : (if ((a : Int) + 1 - (b : Int)) < 0 then -((a : Int) + 1 - (b : Int)) else ((a : Int) + 1 - (b : Int))) = ((gapO a b : Nat) : Int) := by
  unfold gapO
  split <;> omega
theorem ok_period {f C fP fO fM : Addr} {fd dP dO dM : FuncData} (F : Fun K "period" "period" sPeriod f fd) (T : Txt K mg C) (B : Bare mg) (DP : DefAt K mg "parts" sParts ["rule"] fP dP) (GP : FnOk P w K mg base CX0 3 fP dP ["rule"] (spParts K C))
    (DO : DefAt K mg "steps_off" sOff ["rule", "marks"] fO dO) (GO : FnOk P w K mg base CX0 2 fO dO ["rule", "marks"] (spOff K C)) (DM : DefAt K mg "common_measure" sMeasure ["one", "other"] fM dM) : FnOk P w K mg base CX0 4 f fd ["rule", "part"] (spPeriod K C) := by
  have GM : FnOk P w K mg base CX0 1 fM dM ["one", "other"] spMeasure := ok_measure DM.fn
  refine F.ok scPeriod (fun vs H Q E h => ?_) (fun cdv A outer s H vs Q E hr h => ?_)
  · obtain ⟨r, k, ns, ps, p, rfl, _⟩ := h
    rfl
  · obtain ⟨r, k, ns, ps, p, rfl, R, M, S, gk, q⟩ := h
    have hu := hu_of hr
    have hu5 := un65 hr
    have hr1 := hr.mono (show 1 ≤ 3 by decide)
    have hr2 := hr.mono (show 2 ≤ 3 by decide)
    refine ⟨_, pss_cons (ps_set (i := 2) scPeriod.nd rfl (Or.inl rfl) (pe_ix ix_tup (pe_call GP hr (by rfl) DP.mg DP.fn.kp DP.bi .nil pass0 (pa_cons (pv 0) pa_nil)) (pv 1) (fun _ _ => rfl)))
      (pss_cons (ps_set (i := 3) scPeriod.nd rfl (Or.inl rfl) (pe_call GO hr2 (by rfl) DO.mg DO.fn.kp DO.bi .nil pass0 (pa_cons (pv 0) (pa_cons (pv 2) pa_nil))))
      (pss_cons (ps_set (i := 4) scPeriod.nd rfl (Or.inl rfl) pe_int)
      (pss_cons (ps_for PassesOwn.never rfl (pi_tup (pe_fld (pv 0) rfl)) (pg_tup rfl (pgs_cons (pg_name (i := 5) scPeriod.nd rfl (Or.inl rfl)) (pgs_cons (pg_name (i := 6) scPeriod.nd rfl (Or.inl rfl)) pgs_nil)))
        (pss_one (ps_if (PW.pt (pw_and (pt_cmpR (op_inTI hu5) (pv 5) (pv 2) (by rfl)) (pw_and1 (pt_cmpR (op_inTI hu5) (pv 6) (pv 2) (by rfl)))))
          (pss_one (ps_set (i := 4) scPeriod.nd rfl (Or.inl rfl) (pe_call GM hr1 (by rfl) DM.mg DM.fn.kp DM.bi .nil pass0 (pa_cons (pv 4) (pa_cons (pe_callB call_abs (by rfl) B.abs (by decide +kernel) (pa_cons (pe_op op_sub (pe_op op_add (pe_dget hu (pv 3) (pv 5) (fun _ _ => rfl)) pe_int) (pe_dget hu (pv 3) (pv 6) (fun _ _ => rfl))) pa_nil)) pa_nil))))) pss_nil)))
      (pss_one (ps_ret (pv 4)))))), ?_⟩
    have h8 := M.few
    have hP : ∀ q ∈ ps, Pr (ns.length : Int) q := fun q hq => S.pair q hq
    have hp := List.mem_of_getElem? gk
    refine ⟨.ref r, rfl, r, ns, ps, rfl, R, M, S, fun H1 c s1 nc hC => ?_⟩
    obtain ⟨ks, ek, hc, hks⟩ := hC
    have gk' : (ks.map (·.2))[k]? = some p := by rw [ek]; exact gk
    obtain ⟨kk, g, ekk⟩ := map_at gk'
    have hT1 : SqT K H1 kk.1 (p.map V.int) := by rw [ekk]; exact (hks kk (List.mem_of_getElem? g)).sq
    refine ⟨.int (k : Int), rfl, c, _, _, .ref kk.1, rfl, rfl, tupNew hc, atI_nat (by rw [List.getElem?_map, g]; rfl), ?_⟩
    refine ⟨.ref r, rfl, .ref kk.1, rfl, r, kk.1, ns, ps, p, rfl, R.same s1, M, S, hp, hT1, fun H2 d us s2 nd ed O => ?_⟩
    have s02 := s1.trans s2
    obtain ⟨dx, a0, b0, t0, g1, g2, g3, g4⟩ := (R.same s02).ex
    obtain ⟨js, ej, hb, hjs⟩ := g3
    refine ⟨.ref r, rfl, r, C, dx, _, _, rfl, g1, T.cl, T.nS, flds_s _ _ _, b0, rfl, ⟨_, hb⟩, ?_⟩
    refine for_it (walk_tup (K := K) (a := b0) (xs := js.map fun p => V.ref p.1)) (fun i σ H' => ∃ (g : Nat) (y5 y6 : Option V), σ = [some (.ref r), some (.int (k : Int)), some (.ref kk.1), some (.ref d), some (.int (g : Int)), y5, y6] ∧ H' = H2 ∧ Gf ps p us (ps.take i) g)
      ⟨0, none, none, rfl, rfl, Gf.nil⟩ (fun i σ H' _ h => ?_) (fun i z σ H4 H3 hi h y => ?_) (fun σ H3 h => ?_)
    · obtain ⟨_, _, _, _, rfl, _⟩ := h
      exact hb
    · obtain ⟨g0, y5, y6, rfl, rfl, G⟩ := h
      obtain ⟨rfl, gz⟩ := y
      obtain ⟨j, gj, rfl⟩ := map_at gz
      have hj : j ∈ js := List.mem_of_getElem? gj
      have hjp : j.2 ∈ ps := by rw [← ej]; exact List.mem_map_of_mem hj
      obtain ⟨x, y, e, _⟩ := S.pair j.2 hjp
      have hjT : SqT K H3 j.1 ([x, y].map V.int) := by rw [← e]; exact hjs j hj
      have gi : ps[i]? = some [x, y] := by rw [← ej, List.getElem?_map, gj, ← e]; rfl
      have tk : ps.take (i + 1) = ps.take i ++ [[x, y]] := by rw [List.take_add_one, gi]; rfl
      have hTp := sqT_same s2 hT1
      refine ⟨j.1, _, rfl, hjT, rfl, _, _, rfl, _, _, rfl, rfl, ?_⟩
      refine ⟨.int x, rfl, .ref kk.1, rfl, kk.1, x, p, rfl, rfl, hTp, _, rfl, ?_⟩
      by_cases hx : x ∈ p
      · rw [decide_eq_true hx]
        refine iteT ⟨.int y, rfl, .ref kk.1, rfl, kk.1, y, p, rfl, rfl, hTp, _, rfl, ?_⟩
        by_cases hy : y ∈ p
        · rw [decide_eq_true hy]
          obtain ⟨a, ha, _, _⟩ := O.get hx
          obtain ⟨b, hb', _, _⟩ := O.get hy
          have ea := valO_at O.nd ha
          have eb := valO_at O.nd hb'
          refine iteT ⟨.int (g0 : Int), rfl, .ref d, rfl, .int x, rfl, d, _, rfl, (by rw [← ea]; exact DGet.k (k := Sum.inl x) ed), _, _, rfl, rfl, .ref d, rfl, .int y, rfl, d, _, rfl, (by rw [← eb]; exact DGet.k (k := Sum.inl y) ed), _, _, rfl, rfl, _, rfl, g0, gapO a b, ?_, ?_⟩
          · rw [abs_gap]; rfl
          · refine ⟨_, _, _, rfl, rfl, ?_⟩
            rw [tk]
            exact G.add O hx hy ha hb'
        · rw [decide_eq_false hy]
          refine iteF ⟨g0, _, _, rfl, rfl, ?_⟩
          rw [tk]
          exact G.skip fun z => hy z.2
      · rw [decide_eq_false hx]
        refine iteF (iteF ⟨g0, _, _, rfl, rfl, ?_⟩)
        rw [tk]
        exact G.skip fun z => hx z.1
    · obtain ⟨g0, y5, y6, rfl, rfl, G⟩ := h
      have ef : ps.take (js.map fun p => V.ref p.1).length = ps := by
        rw [List.length_map]
        have lj : js.length = ps.length := by rw [← ej, List.length_map]
        exact List.take_of_length_le (by omega)
      rw [ef] at G
      have per := G.per O (knot_of hP hp) hP h8 fun m hm => part_bd hp hm
      have e := per.is
      refine ⟨.int (g0 : Int), rfl, ?_⟩
      have z := q H3 s02 (by rw [e]; exact per)
      rw [e] at z
      exact z
end
end K75
set_option maxHeartbeats 4000000
namespace K75
open PySem PySem.Spec PyProof.Rows L2 RV
/-- the class of a mark -/
noncomputable def clsM (ps : List (List Int)) (n : Nat) (m : Int) : Nat := clsN ps (hd0 (lotOf ps n m)) (perN ps (hd0 (lotOf ps n m))) m
noncomputable def clsL (ps : List (List Int)) (n : Nat) (p : List Int) : List Int := p.map fun m => ((clsM ps n m : Nat) : Int)
theorem clsM_of {ps : List (List Int)} {n : Nat} {p : List Int} {m : Int} (hp : p ∈ partsOf ps n) (hm : m ∈ p) : clsM ps n m = clsN ps (hd0 p) (perN ps (hd0 p)) m := by
  unfold clsM
  rw [part_lot hp hm]
section
variable {P : Program} {w : World} {K : PySem.W.Frag} {mg : Str → Option Value} {base : Heap}
/-! ### classes -/
theorem scClasses : FnScope ["rule", "part", "marks", "off", "its_period", "mark"] ["rule", "part"] (defScope sClasses) := ⟨rfl, rfl, rfl, by decide +kernel, rfl, by decide +kernel, by decide +kernel⟩
def spClasses (K : PySem.W.Frag) (C : Addr) : Sp := fun vs H Q _ => ∃ (r : Addr) (k : Nat) (ns : List Int) (ps : List (List Int)) (p : List Int), vs = [.ref r, .int (k : Int)] ∧ RuleAt K C H r ns ps ∧ Mir ns ∧ Stp ns ps ∧ (partsOf ps ns.length)[k]? = some p ∧
  ∀ (H' : Hp) (c : Addr), Same H H' → H c = none → H' c = some (.tup ((clsL ps ns.length p).map V.int)) → Per ps (hd0 p) (perN ps (hd0 p)) → Q (.ref c) H'
theorem ok_classes {f C fP fO fM : Addr} {fd dP dO dM : FuncData} (F : Fun K "classes" "classes" sClasses f fd) (B : Bare mg) (DP : DefAt K mg "parts" sParts ["rule"] fP dP) (GP : FnOk P w K mg base CX0 3 fP dP ["rule"] (spParts K C))
    (DO : DefAt K mg "steps_off" sOff ["rule", "marks"] fO dO) (GO : FnOk P w K mg base CX0 2 fO dO ["rule", "marks"] (spOff K C)) (DM : DefAt K mg "period" sPeriod ["rule", "part"] fM dM) (GM : FnOk P w K mg base CX0 4 fM dM ["rule", "part"] (spPeriod K C)) : FnOk P w K mg base CX0 5 f fd ["rule", "part"] (spClasses K C) := by
  refine F.ok scClasses (fun vs H Q E h => ?_) (fun cdv A outer s H vs Q E hr h => ?_)
  · obtain ⟨r, k, ns, ps, p, rfl, _⟩ := h
    rfl
  · obtain ⟨r, k, ns, ps, p, rfl, R, M, S, gk, q⟩ := h
    have hu := hu_of hr
    have hr2 := hr.mono (show 2 ≤ 4 by decide)
    have hr3 := hr.mono (show 3 ≤ 4 by decide)
    refine ⟨_, pss_cons (ps_set (i := 2) scClasses.nd rfl (Or.inl rfl) (pe_ix ix_tup (pe_call GP hr3 (by rfl) DP.mg DP.fn.kp DP.bi .nil pass0 (pa_cons (pv 0) pa_nil)) (pv 1) (fun _ _ => rfl)))
      (pss_cons (ps_set (i := 3) scClasses.nd rfl (Or.inr rfl) (pe_call GO hr2 (by rfl) DO.mg DO.fn.kp DO.bi .nil pass0 (pa_cons (pv 0) (pa_cons (pv 2) pa_nil))))
      (pss_cons (ps_set (i := 4) scClasses.nd rfl (Or.inr rfl) (pe_call GM hr (by rfl) DM.mg DM.fn.kp DM.bi .nil pass0 (pa_cons (pv 0) (pa_cons (pv 1) pa_nil))))
      (pss_one (ps_ret (pe_tupleOf (by rfl) B.tuple
        (pe_lc (own := [("mark", 5)]) (g := gName 5) (tt := tYes) rfl scClasses.nd (pi_tup (pv 2)) (blkOk_by (N := ["rule", "part", "marks", "off", "its_period", "mark"]) (sc := defScope sClasses) (by decide +kernel))
          (fun _ _ _ _ _ => pg_name (i := 5) scClasses.nd rfl (Or.inl rfl)) (fun _ _ _ _ _ => pts_nil) (fun _ _ _ _ _ => pe_op op_mod (pe_dget hu (pv 3) (pv 5) (fun _ _ => rfl)) (pv 4)))))))), ?_⟩
    have h8 := M.few
    have hP : ∀ q ∈ ps, Pr (ns.length : Int) q := fun q hq => S.pair q hq
    have hp := List.mem_of_getElem? gk
    have kn := knot_of hP hp
    refine ⟨.ref r, rfl, r, ns, ps, rfl, R, M, S, fun H1 c s1 nc hC => ?_⟩
    obtain ⟨ks, ek, hc, hks⟩ := hC
    have gk' : (ks.map (·.2))[k]? = some p := by rw [ek]; exact gk
    obtain ⟨kk, g, ekk⟩ := map_at gk'
    have hT1 : SqT K H1 kk.1 (p.map V.int) := by rw [ekk]; exact (hks kk (List.mem_of_getElem? g)).sq
    refine ⟨.int (k : Int), rfl, c, _, _, .ref kk.1, rfl, rfl, tupNew hc, atI_nat (by rw [List.getElem?_map, g]; rfl), ?_⟩
    refine ⟨.ref r, rfl, .ref kk.1, rfl, r, kk.1, ns, ps, p, rfl, R.same s1, M, S, hp, hT1, fun H2 d us s2 nd ed O => ?_⟩
    have s02 := s1.trans s2
    refine ⟨.ref r, rfl, .int (k : Int), rfl, r, k, ns, ps, p, rfl, R.same s02, M, S, gk, fun H3 s3 per => ?_⟩
    obtain ⟨hx0, hl0⟩ := part_hd_in hp
    have hxl : hd0 p ∈ lotOf ps ns.length (hd0 p) := by rw [hl0]; exact hx0
    have pos : 0 < perN ps (hd0 p) := per.pos (lot_some hxl)
    have s03 := s02.trans s3
    have hT3 := sqT_same (s2.trans s3) hT1
    have ed3 := s3 _ _ ed
    have l8 := part_len8 h8 hp
    refine ⟨.ref kk.1, rfl, kk.1, rfl, ⟨_, hT3⟩, fun D nD => ?_⟩
    refine lc_tup (K := K) (a := kk.1) (xs := p.map V.int) (fun i H' => Same H3 H' ∧ H' D = some (.lst ((clsL ps ns.length (p.take i)).map V.int))) ⟨same_upd nD, by rw [upd_same]; rfl⟩ (fun i H' _ h => sqT_same h.1 hT3) (fun i x H' hx h => ?_) fun H4 h => ?_
    · obtain ⟨m, gm, rfl⟩ := map_at hx
      have hm := List.mem_of_getElem? gm
      obtain ⟨o, ho, wo, _⟩ := O.get hm
      have eo := valO_at O.nd ho
      refine ⟨rfl, tt_yes ⟨.ref d, rfl, .int m, rfl, d, _, rfl, (by rw [← eo]; exact DGet.k (k := Sum.inl m) (h.1 _ _ ed3)), .int ((perN ps (hd0 p) : Nat) : Int), rfl, _, _, rfl, rfl, (by show (0 : Int) < ((perN ps (hd0 p) : Nat) : Int); omega), _, h.2, ?_, fun b o' z => ?_, ?_⟩⟩
      · rw [List.length_map]
        unfold clsL
        rw [List.length_map, List.length_take]; exact few1 (by omega)
      · rw [upd_ne (ne_of_none z nD)]; exact h.1 b o' z
      · have ec : ((o : Int) % ((perN ps (hd0 p) : Nat) : Int)) = ((clsM ps ns.length m : Nat) : Int) := by
          rw [clsM_of hp hm, ← per.cls wo (kn.back m hm)]
          exact (Int.natCast_emod _ _).symm
        rw [upd_same, List.take_add_one, gm]
        unfold clsL
        rw [List.map_append, List.map_append]
        show some (HO.lst (_ ++ [V.int ((o : Int) % ((perN ps (hd0 p) : Nat) : Int))])) = some (HO.lst (_ ++ [V.int ((clsM ps ns.length m : Nat) : Int)]))
        rw [ec]
    · rw [List.length_map, List.take_of_length_le (Nat.le_refl _)] at h
      refine .inl ⟨D, _, rfl, lstNew h.2, fun c2 nc2 => ?_⟩
      have s4 := s03.trans h.1
      exact q _ c2 (s4.trans (same_upd nc2)) (s4.free nc2) upd_same per
end
end K75
set_option maxHeartbeats 4000000
namespace K75
open PySem PySem.Spec PyProof.Rows L2 RV
/-- the mirrors from behind -/
def backOf (ns ms : List Int) : List Int := ms.reverse.map fun x => ns.getD x.toNat 0
/-- the marks as a ring that begins at k -/
def turnI (ms : List Int) (k : Int) : List Int := ms.drop (k % (ms.length : Int)).toNat ++ ms.take (k % (ms.length : Int)).toNat
/-- the half places at which they are mirrored, as the program finds them -/
def axesI (ns ms : List Int) : List Int := (upN (2 * ms.length)).filter fun s => decide (turnI ms (s + 1) = backOf ns ms)
theorem atI_map {ns : List Int} {i : Int} (h0 : 0 ≤ i) (h1 : i < (ns.length : Int)) : atI (ns.map V.int) i = some (.int (ns.getD i.toNat 0)) := by
  rw [show i = ((i.toNat : Nat) : Int) by omega]
  refine atI_nat ?_
  have : i.toNat < ns.length := by omega
  rw [List.getElem?_map, List.getElem?_eq_getElem this, Int.toNat_natCast]
  simp [List.getD, this]
section
variable {P : Program} {w : World} {K : PySem.W.Frag} {mg : Str → Option Value} {base : Heap}
/-! ### read_back -/
theorem scReadBack : FnScope ["rule", "marks", "mark"] ["rule", "marks"] (defScope sReadBack) := ⟨rfl, rfl, rfl, by decide +kernel, rfl, by decide +kernel, by decide +kernel⟩
def spReadBack (K : PySem.W.Frag) (C : Addr) : Sp := fun vs H Q _ => ∃ (r a : Addr) (ns ms : List Int) (ps : List (List Int)), vs = [.ref r, .ref a] ∧ RuleAt K C H r ns ps ∧ SqT K H a (ms.map V.int) ∧ (∀ m ∈ ms, 0 ≤ m ∧ m < (ns.length : Int)) ∧ ms.length ≤ 1000 ∧
  ∀ (H' : Hp) (t : Addr), Same H H' → SqT K H' t ((backOf ns ms).map V.int) → Q (.ref t) H'
theorem ok_readBack {f C fR : Addr} {fd dR : FuncData} (F : Fun K "read_back" "read_back" sReadBack f fd) (T : Txt K mg C) (B : Bare mg)
    (FR : Fun K "mirror" "Rule.mirror" sMirrorM fR dR) (bR : Binds K dR ["self", "mark"] []) (mR : Meth K C "mirror" fR) : FnOk P w K mg base CX0 2 f fd ["rule", "marks"] (spReadBack K C) := by
  have GR : FnOk P w K mg base CX0 1 fR dR ["self", "mark"] (spMirrorM K C) := ok_mirrorM FR T
  refine F.ok scReadBack (fun vs H Q E h => ?_) (fun cdv A outer s H vs Q E hr h => ?_)
  · obtain ⟨r, a, ns, ms, ps, rfl, _⟩ := h
    rfl
  · obtain ⟨r, a, ns, ms, ps, rfl, R, hT, hin, hl, q⟩ := h
    refine ⟨_, pss_one (ps_ret (pe_tupleOf (by rfl) B.tuple
      (pe_lc (own := [("mark", 2)]) (g := gName 2) (tt := tYes) rfl scReadBack.nd (pi_tup (pe_backT (pv 1))) (blkOk_by (N := ["rule", "marks", "mark"]) (sc := defScope sReadBack) (by decide +kernel))
        (fun _ _ _ _ _ => pg_name (i := 2) scReadBack.nd rfl (Or.inl rfl)) (fun _ _ _ _ _ => pts_nil) (fun _ _ _ _ _ => pe_meth (pv 0) T.cl mR GR hr bR .nil pass0 (pa_cons (pv 2) pa_nil))))), ?_⟩
    obtain ⟨dx, a0, b0, t0, g1, g2, g3, g4⟩ := R.ex
    have fno := flds_no a0 b0 t0 (m := "mirror") (by decide +kernel) (by decide +kernel) (by decide +kernel)
    refine ⟨.ref a, rfl, a, _, rfl, hT, fun p np => ⟨p, rfl, ⟨_, tupNew upd_same⟩, fun D nD => ?_⟩⟩
    have s1 := same_upd (o := .tup (ms.map V.int).reverse) np
    have hT1 : SqT K (upd H p (.tup (ms.map V.int).reverse)) p (ms.reverse.map V.int) := by
      rw [List.map_reverse]; exact tupNew upd_same
    refine lc_mapT (h := fun x => ns.getD x.toNat 0) hT1 (by rw [List.length_reverse]; exact hl) nD (fun x hx H' Q' s' k => ?_) fun H2 s2 e2 => ?_
    · have bx := hin x (List.mem_reverse.mp hx)
      have sx := s1.trans s'
      refine ⟨.ref r, rfl, r, dx, _, rfl, sx _ _ g1, fno, .int x, rfl, r, ns, ps, x.toNat, ns.getD x.toNat 0, by rw [Int.toNat_of_nonneg bx.1]; rfl, R.same sx, ?_, k H' (Same.refl H')⟩
      have : x.toNat < ns.length := by omega
      rw [List.getElem?_eq_getElem this]; simp [List.getD, this]
    · exact .inl ⟨D, _, rfl, lstNew e2, fun t nt => q _ t ((s1.trans s2).trans (same_upd nt)) (tupNew upd_same)⟩
/-! ### turned_to -/
theorem scTurned : FnScope ["marks", "place", "at"] ["marks", "place"] (defScope sTurnedTo) := ⟨rfl, rfl, rfl, by decide +kernel, rfl, by decide +kernel, by decide +kernel⟩
def spTurned (K : PySem.W.Frag) : Sp := fun vs H Q _ => ∃ (a : Addr) (k : Int) (ms : List Int), vs = [.ref a, .int k] ∧ SqT K H a (ms.map V.int) ∧ 0 < ms.length ∧ ms.length ≤ 1000 ∧
  ∀ (H' : Hp) (t : Addr), Same H H' → SqT K H' t ((turnI ms k).map V.int) → Q (.ref t) H'
theorem ok_turned {f : Addr} {fd : FuncData} (F : Fun K "turned_to" "turned_to" sTurnedTo f fd) (B : Bare mg) : FnOk P w K mg base CX0 1 f fd ["marks", "place"] (spTurned K) := by
  refine F.ok scTurned (fun vs H Q E h => ?_) (fun cdv A outer s H vs Q E hr h => ?_)
  · obtain ⟨a, k, ms, rfl, _⟩ := h
    rfl
  · obtain ⟨a, k, ms, rfl, hT, h0, hl, q⟩ := h
    refine ⟨_, pss_cons (ps_set (i := 2) scTurned.nd rfl (Or.inl rfl) (pe_op op_mod (pv 1) (pe_callB call_len_seq (by rfl) B.len PySem.boot_len (pa_cons (pv 0) pa_nil))))
      (pss_one (ps_ret (pe_op op_catW (pe_slice sl_tupW (pv 0) (po_some (pv 2)) po_none) (pe_slice sl_tupW (pv 0) po_none (po_some (pv 2)))))), ?_⟩
    refine ⟨.int k, rfl, .ref a, rfl, a, _, rfl, .inr hT, k, _, rfl, rfl, by rw [List.length_map]; omega, ?_⟩
    rw [List.length_map]
    have z0 := Int.emod_nonneg k (show (ms.length : Int) ≠ 0 by omega)
    have z1 := Int.emod_lt_of_pos k (show (0 : Int) < (ms.length : Int) by omega)
    have ej : k % (ms.length : Int) = (((k % (ms.length : Int)).toNat : Nat) : Int) := by omega
    refine ⟨.ref a, rfl, _, rfl, _, rfl, a, _, rfl, hT, fun p1 H1 s1 e1 => ?_⟩
    refine ⟨.ref a, rfl, _, rfl, _, rfl, a, _, rfl, sqT_same s1 hT, fun p2 H2 s2 e2 => ?_⟩
    rw [ej, cut_from, ← List.map_drop] at e1
    rw [ej, cut_to, ← List.map_take] at e2
    refine ⟨p1, p2, _, _, rfl, rfl, sqT_same s2 e1, e2, ?_, fun p3 H3 s3 e3 => ?_⟩
    · rw [List.length_map, List.length_map, List.length_drop, List.length_take]
      exact Nat.le_of_lt (few1 (by omega))
    · rw [← List.map_append] at e3
      exact q H3 p3 ((s1.trans s2).trans s3) e3
/-! ### axes -/
theorem scAxes : FnScope ["rule", "marks", "back", "s"] ["rule", "marks"] (defScope sAxes) := ⟨rfl, rfl, rfl, by decide +kernel, rfl, by decide +kernel, by decide +kernel⟩
def spAxes (K : PySem.W.Frag) (C : Addr) : Sp := fun vs H Q _ => ∃ (r a : Addr) (ns ms : List Int) (ps : List (List Int)), vs = [.ref r, .ref a] ∧ RuleAt K C H r ns ps ∧ SqT K H a (ms.map V.int) ∧ (∀ m ∈ ms, 0 ≤ m ∧ m < (ns.length : Int)) ∧ 0 < ms.length ∧ ms.length ≤ 400 ∧
  ∀ (H' : Hp) (t : Addr), Same H H' → SqT K H' t ((axesI ns ms).map V.int) → Q (.ref t) H'
theorem ok_axes {f C fR fB fT : Addr} {fd dR dB dT : FuncData} (F : Fun K "axes" "axes" sAxes f fd) (T : Txt K mg C) (B : Bare mg)
    (FR : Fun K "mirror" "Rule.mirror" sMirrorM fR dR) (bR : Binds K dR ["self", "mark"] []) (mR : Meth K C "mirror" fR)
    (DB : DefAt K mg "read_back" sReadBack ["rule", "marks"] fB dB) (DT : DefAt K mg "turned_to" sTurnedTo ["marks", "place"] fT dT) : FnOk P w K mg base CX0 3 f fd ["rule", "marks"] (spAxes K C) := by
  have GB : FnOk P w K mg base CX0 2 fB dB ["rule", "marks"] (spReadBack K C) := ok_readBack DB.fn T B FR bR mR
  have GT : FnOk P w K mg base CX0 1 fT dT ["marks", "place"] (spTurned K) := ok_turned DT.fn B
  refine F.ok scAxes (fun vs H Q E h => ?_) (fun cdv A outer s H vs Q E hr h => ?_)
  · obtain ⟨r, a, ns, ms, ps, rfl, _⟩ := h
    rfl
  · obtain ⟨r, a, ns, ms, ps, rfl, R, hT, hin, h0, hl, q⟩ := h
    have hr1 := hr.mono (show 1 ≤ 2 by decide)
    refine ⟨_, pss_cons (ps_set (i := 2) scAxes.nd rfl (Or.inr rfl) (pe_call GB hr (by rfl) DB.mg DB.fn.kp DB.bi .nil pass0 (pa_cons (pv 0) (pa_cons (pv 1) pa_nil))))
      (pss_one (ps_ret (pe_tupleOf (by rfl) B.tuple
        (pe_lc (own := [("s", 3)]) (g := gName 3) rfl scAxes.nd (pi_range1 (by rfl) B.range (pa_cons (pe_op op_mul pe_int (pe_callB call_len_seq (by rfl) B.len PySem.boot_len (pa_cons (pv 1) pa_nil))) pa_nil)) (blkOk_by (N := ["rule", "marks", "back", "s"]) (sc := defScope sAxes) (by decide +kernel))
          (fun _ _ _ _ _ => pg_name (i := 3) scAxes.nd rfl (Or.inl rfl))
          (fun _ _ _ _ _ => pts_one (pt_cmpR (op_eqI1K (K := K) rfl hr.units) (pe_call GT hr1 (by rfl) DT.mg DT.fn.kp DT.bi .nil pass0 (pa_cons (pv 1) (pa_cons (pe_op op_add (pv 3) pe_int) pa_nil))) (pv 2) (nomark _)))
          (fun _ _ _ _ _ => pv 3))))), ?_⟩
    refine ⟨.ref r, rfl, .ref a, rfl, r, a, ns, ms, ps, rfl, R, hT, hin, by omega, fun H1 b s1 hb => ?_⟩
    have hT1 := sqT_same s1 hT
    refine ⟨.ref a, rfl, a, _, rfl, .inr hT1, 2, _, rfl, rfl, .inl ⟨by decide, by decide⟩, _, rfl, ?_, ?_, fun D nD => ?_⟩
    · rw [List.length_map]; omega
    · rw [List.length_map]; omega
    rw [List.length_map, show (2 * (ms.length : Int)).toNat = 2 * ms.length by omega]
    refine lc_filtR (f := fun s => decide (turnI ms (s + 1) = backOf ns ms)) (by omega) nD (fun x x0 x1 H' s' A B k => ?_) (fun x H' Q' k => ⟨.int x, rfl, k⟩) fun H2 s2 e2 => ?_
    · refine ⟨.ref a, rfl, .int x, rfl, x, 1, rfl, rfl, a, x + 1, ms, rfl, sqT_same s' hT1, h0, by omega, fun H3 t s3 e3 => ?_⟩
      exact ⟨.ref b, rfl, t, b, _, _, rfl, rfl, e3, sqT_same (s'.trans s3) hb, _, rfl, k H3 s3⟩
    · exact .inl ⟨D, _, rfl, lstNew e2, fun t nt => q _ t ((s1.trans s2).trans (same_upd nt)) (tupNew upd_same)⟩
end
end K75
set_option maxHeartbeats 4000000
/-! {elt for a in x for b in y}: ints, two clauses, no tests -/
namespace RV
open PySem PySem.Spec PyProof.Rows L2
/-- two clauses, no tests -/
abbrev sc2 (el ta ia tb ib : Expr) (sco : Scope) (p : Pos) : Expr := .SetComp el [⟨ta, ia, [], 0⟩, ⟨tb, ib, [], 0⟩] sco p
/-- the code of a comprehension's turn: store what comes, then body -/
def turnOf (p : Pos) (tg : Expr) (it : Value) (env : Env) (rest : Sem Fin) : Sem Fin := standAt p >>= fun _ => pyNext it >>= fun r => match r with
  | none => pure (.done .next)
  | some v => letOwnedTupleGo tg it v >>= fun _ => assign tg env v >>= fun _ => rest
/-- a loop of a comprehension's block whose turns are of that form -/
theorem walk {Y : Cx} {el ta ia t1 ib tg : Expr} {sco : Scope} {pp : Pos} {d : Nat} {it : Addr} {acc : Value} {p : Pos} {rest : Sem Fin} {fp : List Addr} {tn : Nat → Heap → Prop} {J : It} {pins : List (Addr × Obj)} {σ0 : L2.St} {H0 : Hp} {s0 : Shared} {g : TG} {tb : L2.St → Hp → (Hp → Prop) → Prop} {R : Result → Shared → Prop}
    (hc : Y.calm = true) (T : Turn Y.prog Y.w Y.K tg J fp it tn) (form : compTurn (sc2 el ta ia t1 ib sco pp) d (.ref it) acc Y.env = turnOf p tg (.ref it) Y.env rest)
    (fpok : ∀ {H s}, Inv Y pins σ0 H s → (∀ b ∈ fp, H b = none) → ∀ b ∈ fp, FpOk Y pins H b) (pg : PG Y tg g) (noerr : ∀ e s, Y.xe e s → False)
    (hb : ∀ (pins' : List (Addr × Obj)) (σ2 : L2.St) (H2 : Hp) (s2 : Shared) (Nx : Hp → Prop), Inv Y pins' σ2 H2 s2 → tb σ2 H2 Nx → wpAny (model Y.prog Y.w) Y.A rest (fun fin s3 => fin = .again (.compLoop (sc2 el ta ia t1 ib sco pp) d (.ref it) acc Y.env) ∧ ∃ H3, Inv Y pins' σ0 H3 s3 ∧ Nx H3) (fun _ _ => False) s2)
    (W : Nat → Nat → Hp → Prop) {m0 : Nat} (I0 : Inv Y pins σ0 H0 s0) (t0 : tn 0 s0.heap) (n0 : ∀ b ∈ fp, H0 b = none) (w0 : W 0 m0 H0)
    (turn : ∀ i m H, W i m H → (J.stop i H ∧ ∀ s, Inv Y pins σ0 H s → R (.ok .next) s) ∨ (J.go i H ∧ ∃ Nx : Hp → Prop, (∀ H', Nx H' → ∃ m', m' < m ∧ W (i + 1) m' H') ∧ ∀ x H', J.yld i H x H' → g x σ0 H' fun σ2 H2 => tb σ2 H2 Nx)) :
    codeAny (model Y.prog Y.w) Y.A (.compLoop (sc2 el ta ia t1 ib sco pp) d (.ref it) acc Y.env) R s0 := by
  refine codeAny_loop rfl (fun n s => ∃ i H, Inv Y pins σ0 H s ∧ tn i s.heap ∧ (∀ b ∈ fp, H b = none) ∧ W i n H) (fun n s h => ?_) m0 ⟨0, H0, I0, t0, n0, w0⟩
  obtain ⟨i, H, I, st, nf, hw⟩ := h
  show wpAny (model Y.prog Y.w) Y.A ((compTurn (sc2 el ta ia t1 ib sco pp) d (.ref it) acc Y.env).onRaise fun x => do noteFrame x Y.env; theTreesLotGoes x) _ _ s
  refine wpAny_noted ?_
  rw [form]
  refine wpAny_bind (wpAny_standAt (wpAny_bind ?_))
  rcases turn i n H hw with ⟨stop, fin⟩ | ⟨go, Nx, hNx, step⟩
  · refine thnF (T.done Y rfl rfl rfl hc i pins s σ0 H (fun _ _ => False) I (fpok I nf) st stop) fun r s1 ⟨hr, I1⟩ => ?_
    subst hr
    exact wpAny_pure (fin s1 I1)
  · refine thnF (T.item Y rfl rfl rfl hc i pins s σ0 H (fun _ _ => False) I (fpok I nf) st go) fun r s1 ⟨u, hr, h1⟩ => ?_
    subst hr
    refine wpAny_bind (thnF h1 fun _ s2 ⟨x, H2, I2, rx, yx, st2, nf2⟩ => ?_)
    have J2 := I2.pinned (fpok I2 nf2) (T.obj _ _ st2)
    refine wpAny_bind (wpAny_mono (pg.run _ s2 σ0 H2 x u _ J2 rx (step x H2 yx)) (fun _ s3 h3 => ?_) fun e s' z => (noerr e s' z).elim)
    obtain ⟨σ3, H3, I3, b3⟩ := h3
    refine thnF (hb _ σ3 H3 s3 Nx I3 b3) fun fin s4 ⟨ef, H4, I4, nx⟩ => ?_
    subst ef
    refine ⟨rfl, ?_⟩
    obtain ⟨m', lt, w'⟩ := hNx H4 nx
    have held : ∀ b ∈ fp, ∀ o, s2.heap.get? b = some o → s4.heap.get? b = some o ∧ H4 b = none := fun b hb' o e => by
      have z := I4.pin (b, o) (List.mem_append_right _ (List.mem_append_right _ (mem_pinsAt hb' e)))
      exact ⟨z.1, z.2.1⟩
    refine ⟨m', lt, i + 1, H4, I4.unpinned, T.keep _ _ _ st2 fun b hb' o e => (held b hb' o e).1, fun b hb' => ?_, w'⟩
    obtain ⟨o, e, _⟩ := T.obj _ _ st2 b hb'
    exact (held b hb' o e).2
/-- a clause's start goes to its loop -/
theorem start_of {P : Program} {w : World} {A : Around} {env : Env} {R : Result → Shared → Prop} {s : Shared} {el ta ia t1 ib : Expr} {sco : Scope} {pp : Pos} {d : Nat} {it acc : Value} (hd : d < 2) (self : ∀ (Q : Value → Shared → Prop) (E : Value → Shared → Prop), Q it s → wpAny (model P w) A (pyIter it) Q E s)
    (h : codeAny (model P w) A (.compLoop (sc2 el ta ia t1 ib sco pp) d it acc env) R s) : codeAny (model P w) A (.compStart (sc2 el ta ia t1 ib sco pp) d it acc env) R s := by
  refine codeAny_of_tree ?_
  show wpAny (model P w) A ((compStart (sc2 el ta ia t1 ib sco pp) d it acc env).onRaise fun x => do noteFrame x env; standAt theWindowsPlace) _ _ s
  refine wpAny_notedAt ?_
  have go : ∀ q : Pos, wpAny (model P w) A (standAt q >>= fun _ => pyIter it >>= fun j => again (.compLoop (sc2 el ta ia t1 ib sco pp) d j acc env)) (fun fin s' => match fin with | .done f => R (.ok f) s' | .again c' => c'.quiet = true ∧ codeAny (model P w) A c' R s') (notedBy (model P w) A env fun e s' => R (.error e) s') s := fun q =>
    wpAny_bind (wpAny_standAt (wpAny_bind (self _ _ (wpAny_pure ⟨rfl, h⟩))))
  have now : wpAny (model P w) A (again (.compLoop (sc2 el ta ia t1 ib sco pp) d it acc env)) (fun fin s' => match fin with | .done f => R (.ok f) s' | .again c' => c'.quiet = true ∧ codeAny (model P w) A c' R s') (notedBy (model P w) A env fun e s' => R (.error e) s') s := wpAny_pure ⟨rfl, h⟩
  obtain rfl | rfl : d = 0 ∨ d = 1 := by omega
  all_goals
    unfold compStart
    show wpAny (model P w) A (ask >>= _) _ _ s
    refine wpAny_bind (wpAny_askSetting (wpAny_ite ?_))
    split
    · exact wpAny_bind (wpAny_pure now)
    · exact wpAny_bind (wpAny_rule (go _))
section
variable {el ta ia t1 ib : Expr} {sco : Scope} {pp : Pos}
theorem form0 (it acc : Value) (env : Env) : compTurn (sc2 el ta ia t1 ib sco pp) 0 it acc env = turnOf ia.pos ta it env
    (eval ib env >>= fun x => standAt ib.pos >>= fun _ => foldedSetIterable ib env x >>= fun x => holding [x] (pyIter x) >>= fun j => runOwn (.compStart (sc2 el ta ia t1 ib sco pp) 1 j acc env) env >>= fun _ => again (.compLoop (sc2 el ta ia t1 ib sco pp) 0 it acc env)) := by rfl
theorem form1 (it acc : Value) (env : Env) : compTurn (sc2 el ta ia t1 ib sco pp) 1 it acc env = turnOf ib.pos t1 it env
    ((eval el env >>= fun v => standAt el.pos >>= fun _ => call (.builtin "set.add") [acc, v] >>= fun _ => pure ()) >>= fun _ => again (.compLoop (sc2 el ta ia t1 ib sco pp) 1 it acc env)) := by rfl
end
/-- what the inner loop must do, from what the outer one stored -/
def tInner (w : World) (D : Addr) (wi1 : TI) (g1 : TG) (te : TE) (vs1 : List Nat) : L2.St → Hp → (Hp → Prop) → Prop := fun σ2 H2 Nx => wi1 σ2 H2 fun J1 H4 => ∃ W1 : Nat → Nat → Hp → Prop, (∃ m, W1 0 m H4) ∧ ∀ j k H, W1 j k H →
  (J1.stop j H ∧ Nx H) ∨ (J1.go j H ∧ ∃ Nx1 : Hp → Prop, (∀ H', Nx1 H' → ∃ k', k' < k ∧ W1 (j + 1) k' H') ∧ ∀ x H', J1.yld j H x H' → g1 x (wipe σ2 vs1) H' fun σ3 H5 => wipe σ3 vs1 = wipe σ2 vs1 ∧
    te σ3 H5 fun y H7 => ∃ (c : Int) (S : Int → Bool) (n : Nat), y = .int c ∧ H7 D = some (SetO w D S n) ∧ n + 1 < scanBound ∧ Nx1 (upd H7 D (SetO w D (fun j => S j || decide (j = c)) (if S c = true then n else n + 1))))
/-- {el for ta in ia for t1 in ib}: D the new set, vs the block's names, vs1 those of the second target -/
def tS2 (w : World) (wi : TI) (g : TG) (wi1 : TI) (g1 : TG) (te : TE) (vs vs1 : List Nat) : TE := fun σ H Q => wi σ H fun J H1 => ∀ D, H1 D = none → ∃ W : Nat → Nat → Hp → Prop, (∃ m, W 0 m (upd H1 D (SetO w D (fun _ => false) 0))) ∧ ∀ i m H, W i m H →
  (J.stop i H ∧ Q (.ref D) H) ∨ (J.go i H ∧ ∃ Nx : Hp → Prop, (∀ H', Nx H' → ∃ m', m' < m ∧ W (i + 1) m' H') ∧ ∀ x H', J.yld i H x H' → g x (wipe σ vs) H' fun σ2 H2 => wipe σ2 vs = wipe σ vs ∧ tInner w D wi1 g1 te vs1 σ2 H2 Nx)
theorem wipe_keep {σ : L2.St} {j : Nat} : ∀ {vs : List Nat}, j ∉ vs → (wipe σ vs)[j]? = σ[j]?
  | [], _ => rfl
  | v :: vs, h => by
    have h1 := List.ne_of_not_mem_cons h
    show ((wipe σ vs).set v none)[j]? = _
    rw [List.getElem?_set_ne (Ne.symm h1), wipe_keep (List.not_mem_of_not_mem_cons h)]
section
variable {Y : Cx} {el ta ia t1 ib : Expr} {sco : Scope} {pp : Pos} {D : Addr} {wi1 : TI} {g1 : TG} {te : TE} {vs vs1 : List Nat} {σ0 : L2.St}
/-- the outer loop's body -/
theorem inner {o : Addr} (hc : Y.calm = true) (noerr : ∀ e s, Y.xe e s → False) (hv : ∀ i ∈ vs1, i ∈ vs) (hs : ∀ x, foldedSetIterable ib Y.env x = pure x) (p1 : PI Y t1 ib wi1) (pg1 : PG Y t1 g1) (pe : PE Y el te)
    (pins : List (Addr × Obj)) (σ2 : L2.St) (H2 : Hp) (s2 : Shared) (Nx : Hp → Prop) (I2 : Inv Y pins σ2 H2 s2) (h : wipe σ2 vs = σ0 ∧ tInner Y.w D wi1 g1 te vs1 σ2 H2 Nx) :
    wpAny (model Y.prog Y.w) Y.A (eval ib Y.env >>= fun x => standAt ib.pos >>= fun _ => foldedSetIterable ib Y.env x >>= fun x => holding [x] (pyIter x) >>= fun j => runOwn (.compStart (sc2 el ta ia t1 ib sco pp) 1 j (.ref D) Y.env) Y.env >>= fun _ => again (.compLoop (sc2 el ta ia t1 ib sco pp) 0 (.ref o) (.ref D) Y.env))
      (fun fin s3 => fin = .again (.compLoop (sc2 el ta ia t1 ib sco pp) 0 (.ref o) (.ref D) Y.env) ∧ ∃ H3, Inv Y pins σ0 H3 s3 ∧ Nx H3) (fun _ _ => False) s2 := by
  obtain ⟨hw, h⟩ := h
  refine wpAny_bind (wpAny_mono (p1.run pins s2 σ2 H2 _ I2 h) (fun x s3 hx => ?_) fun e s z => (noerr e s z).elim)
  refine wpAny_bind (wpAny_standAt (wpAny_bind (wpAny_of_eq (hs x) (wpAny_bind (wpAny_holding (wpAny_mono hx (fun j s4 h4 => ?_) fun e s z => (noerr e s z).elim))))))
  obtain ⟨it, fp, tn, J1, H4, e, I4, T, st4, f4, W1, ⟨m1, w1⟩, turn1⟩ := h4
  subst e
  have back : ∀ {H s}, Inv Y pins (wipe σ2 vs1) H s → Inv Y pins σ0 H s := fun I => by
    subst hw
    refine I.weak (by rw [wipe_length, wipe_length]) fun i v e => ?_
    obtain ⟨e1, e2⟩ := wipe_some e
    rw [wipe_keep fun z => e2 (hv i z)]; exact e1
  refine wpAny_bind (wpAny_runOwn ?_)
  rw [Around.mark_none]
  have loop := walk (tb := fun σ3 H5 Nx1 => wipe σ3 vs1 = wipe σ2 vs1 ∧ te σ3 H5 fun y H7 => ∃ (c : Int) (S : Int → Bool) (n : Nat), y = .int c ∧ H7 D = some (SetO Y.w D S n) ∧ n + 1 < scanBound ∧ Nx1 (upd H7 D (SetO Y.w D (fun j => S j || decide (j = c)) (if S c = true then n else n + 1))))
    (R := fun r s' => match r with | .ok _ => ∃ H3, Inv Y pins σ0 H3 s' ∧ Nx H3 | .error _ => False) hc T (form1 (el := el) (ta := ta) (ia := ia) (t1 := t1) (ib := ib) (sco := sco) (pp := pp) (.ref it) (.ref D) Y.env)
    (fun {H s} _ hn b hb => ⟨hn b hb, (f4 b hb).2⟩) pg1 noerr
    (fun pins' σ3 H5 s5 Nx1 I5 ⟨hw5, h5⟩ => by
      refine wpAny_bind (wpAny_bind (wpAny_mono (pe.run pins' s5 σ3 H5 _ I5 h5) (fun z s6 h6 => ?_) fun e s z => (noerr e s z).elim))
      obtain ⟨y, H7, I7, r7, c, S, n, ey, hD, room, nx⟩ := h6
      subst ey
      refine wpAny_bind (wpAny_standAt (wpAny_bind ?_))
      refine wpAny_mono (mt_sadd pins' s6 σ3 H7 (.ref D) [.int c] (.ref D) [z] (fun _ H' => Nx1 H') I7 rfl (.cons r7 .nil) ⟨D, c, S, n, rfl, rfl, hD, room, nx⟩) (fun _ s8 h8 => ?_) fun e s z => (noerr e s z).elim
      obtain ⟨y8, H8, I8, _, q8⟩ := h8
      exact wpAny_pure (wpAny_pure ⟨rfl, H8, I8.weak (by rw [← hw5, wipe_length]) fun i v e => by rw [← hw5] at e; exact (wipe_some e).1, q8⟩))
    W1 (I4.weak (wipe_length _ _) fun i v e => (wipe_some e).1) st4 (fun b hb => (f4 b hb).1) w1
    (fun j k H hW => by
      rcases turn1 j k H hW with ⟨stop, nx⟩ | ⟨go, Nx1, hN1, step⟩
      · exact .inl ⟨stop, fun s I => ⟨H, back I, nx⟩⟩
      · exact .inr ⟨go, Nx1, hN1, step⟩)
  refine codeAny_mono (start_of (by decide) (fun Q E q => T.self _ 0 _ _ _ st4 q) loop) fun r s' hr => ?_
  cases r with
  | ok f => exact wpAny_pure ⟨rfl, hr⟩
  | error e => exact hr.elim
end
section
variable {X : Cx}
abbrev blkEnv (X : Cx) (sco : Scope) (s : Shared) : Env := compEnvC sco (cellsFrom (s.heap.objs.size + 1) sco.names (cloFrom X.env.cells sco.names [])) s.heap.objs.size X.env
theorem block {el ta ia t1 ib : Expr} {sco : Scope} {own : List (PySem.Str × Nat)} {vs1 : List Nat} {pp : Pos} {wi1 : TI} {g g1 : TG} {te : TE} {pins : List (Addr × Obj)} {σ : L2.St} {H : Hp} {s : Shared} {it D : Addr} {fp : List Addr} {tn : Nat → Heap → Prop} {J : It} {Q : VK} {W : Nat → Nat → Hp → Prop} {m0 : Nat} {Z : Result → Shared → Prop}
    (hc : X.calm = true) (hN : X.N.Nodup) (ok : BlkOk X.N X.env.scope sco own) (hv : ∀ i ∈ vs1, i ∈ own.map (·.2)) (hs1 : ∀ env x, foldedSetIterable ib env x = pure x)
    (pg : PG (X.blk s H sco (blkEnv X sco s) fp) ta g) (p1 : PI (X.blk s H sco (blkEnv X sco s) fp) t1 ib wi1) (pg1 : PG (X.blk s H sco (blkEnv X sco s) fp) t1 g1) (pe : PE (X.blk s H sco (blkEnv X sco s) fp) el te)
    (I : Inv X pins σ H s) (T : Turn X.prog X.w X.K ta J fp it tn) (st : tn 0 s.heap) (hf : ∀ b ∈ fp, FpOk X pins H b ∧ b < s.heap.objs.size) (w0 : W 0 m0 H)
    (turn : ∀ i m H, W i m H → (J.stop i H ∧ Q (.ref D) H) ∨ (J.go i H ∧ ∃ Nx : Hp → Prop, (∀ H', Nx H' → ∃ m', m' < m ∧ W (i + 1) m' H') ∧ ∀ x H', J.yld i H x H' → g x (wipe σ (own.map (·.2))) H' fun σ2 H2 => wipe σ2 (own.map (·.2)) = wipe σ (own.map (·.2)) ∧ tInner X.w D wi1 g1 te vs1 σ2 H2 Nx))
    (fin : ∀ s' H' m, Inv X pins σ H' s' → Q (.ref D) H' → s'.heap.Ns s.heap.objs.size m → FpOk X pins H' s.heap.objs.size → Z (.ok .next) s') :
    codeAny (model X.prog X.w) X.A (.compStart (sc2 el ta ia t1 ib sco pp) 0 (.ref it) (.ref D) (blkEnv X sco s)) Z { s with heap := pushCells (s.heap.push { cls := .type "dict", data := .dict #[] }) sco.names } := by
  have I4 := block_start I ok hN hf
  have st4 : tn 0 (pushCells (s.heap.push { cls := .type "dict", data := .dict #[] }) sco.names) := T.keep _ _ _ st fun b _ o e => pushCells_keeps _ _ _ _ (Heap.get?_push_of_some _ e)
  refine start_of (by decide) (fun Q' E q => T.self _ 0 _ _ _ st4 q) ?_
  refine walk (Y := X.blk s H sco (blkEnv X sco s) fp) (tb := fun σ2 H2 Nx => wipe σ2 (own.map (·.2)) = wipe σ (own.map (·.2)) ∧ tInner X.w D wi1 g1 te vs1 σ2 H2 Nx) hc T (form0 (.ref it) (.ref D) (blkEnv X sco s))
    (fun {H' s'} I' hn b hb => ⟨hn b hb, (I'.ok.exf b hb).1, I'.ok.exfs b hb, .inl hb, fun x c e => (I'.ok.exf b hb).2 x c e, fun p hp => nomatch (show p ∈ ([] : List (Addr × Obj)) from hp)⟩) pg (fun _ _ z => z)
    (fun pins' σ2 H2 s2 Nx I2 h2 => inner (Y := X.blk s H sco (blkEnv X sco s) fp) (vs := own.map (·.2)) hc (fun _ _ z => z) hv (hs1 _) p1 pg1 pe pins' σ2 H2 s2 Nx I2 h2) W I4 st4 (fun b hb => (hf b hb).1.1) w0 (fun i m H' hW => ?_)
  rcases turn i m H' hW with ⟨stop, qq⟩ | z
  · refine .inl ⟨stop, fun s6 I6 => ?_⟩
    obtain ⟨m', hn, _⟩ := I6.loc
    exact fin s6 H' m' (I.call' (ch := fp) I6.os I6.base I6.hok I6.bare fun b hb => (hf b hb).1.2.2.2.1 |> fun z => ⟨z, (hf b hb).1.2.1, (hf b hb).1.2.2.2.2.1, (hf b hb).1.2.2.2.2.2⟩) qq hn (I.fpOk (Nat.le_refl _) I6.free)
  · exact .inr z
theorem pe_sc2 {el ta ia t1 ib : Expr} {sco : Scope} {own : List (PySem.Str × Nat)} {vs1 : List Nat} {pp : Pos} {wi wi1 : TI} {g g1 : TG} {te : TE} (hc : X.calm = true) (hN : X.N.Nodup) (hi : PI X ta ia wi) (ok : BlkOk X.N X.env.scope sco own) (hv : ∀ i ∈ vs1, i ∈ own.map (·.2))
    (hg : ∀ s H C cl fp, PG (X.blk s H sco (compEnvC sco cl C X.env) fp) ta g) (hi1 : ∀ s H C cl fp, PI (X.blk s H sco (compEnvC sco cl C X.env) fp) t1 ib wi1) (hg1 : ∀ s H C cl fp, PG (X.blk s H sco (compEnvC sco cl C X.env) fp) t1 g1)
    (he : ∀ s H C cl fp, PE (X.blk s H sco (compEnvC sco cl C X.env) fp) el te) (hs : ∀ x, foldedSetIterable ia X.env x = pure x := by intro _; rfl) (hs1 : ∀ env x, foldedSetIterable ib env x = pure x := by intro _ _; rfl) :
    PE X (.SetComp el [⟨ta, ia, [], 0⟩, ⟨t1, ib, [], 0⟩] sco pp) (tS2 X.w wi g wi1 g1 te (own.map (·.2)) vs1) := by
  refine ⟨fun pins s σ H Q I h => ?_⟩
  rw [PpSet.eval_SetComp]
  have known : ∀ y ∈ sco.names, y.2 = .free → ∃ c, X.env.cells.lookup y.1 = some c := fun y hy e => I.ok.has _ (ok.free y hy e)
  refine wpAny_comprehension_free (use := none) rfl hs (closure_ok known) ok.kind (fun y hy e => by rw [ok.uniq y hy, e]) (thn (hi.run pins s σ H _ I h) fun _ _ hx => thn hx fun iv s2 h2 => ?_)
  obtain ⟨it, fp, tn, J, H2, e, I2, T, st2, f2, q⟩ := h2
  subst e
  refine PpSet.newSet_ok (newEnv_comp ?_)
  have nD : H2 s2.heap.objs.size = none := I2.hok.fresh (Nat.le_refl _)
  obtain ⟨W, ⟨m0, w0⟩, turn⟩ := q _ nD
  have I3 := I2.laid (t' := s2.toks) (o := SetO X.w s2.heap.objs.size (fun _ => false) 0) (fun b o e => Heap.get?_push_of_some { cls := .type "set", dict := none, data := .set #[] 0 (.fresh 0 0 (!X.w.params.followText "set-order")) } e) (Nat.le_refl _) (setO_new (setR_fresh X.w))
  have young : ∀ b ∈ fp, b < s2.heap.objs.size := fun b hb => (T.obj _ _ st2 b hb).elim fun o e => Heap.lt_size e.1
  exact block hc hN ok hv hs1 (hg _ _ _ _ _) (hi1 _ _ _ _ _) (hg1 _ _ _ _ _) (he _ _ _ _ _) I3 T (T.keep _ _ _ st2 fun b _ o e => Heap.get?_push_of_some _ e)
    (fun b hb => ⟨⟨by rw [upd_ne (Nat.ne_of_lt (young b hb))]; exact (f2 b hb).1, (f2 b hb).2⟩, by show b < (Heap.push _ _).objs.size; rw [Heap.size_push]; exact Nat.lt_succ_of_lt (young b hb)⟩) w0 turn
    fun s' H' m I' qq hn ⟨f0, f1, _, f3, f4, f5⟩ => ⟨m, hn, fun h'' sb => ⟨.ref s2.heap.objs.size, H', I'.turned (t' := s'.toks) (fun b o hb e => (sb.2 b hb).trans e) f0 f1 f3 f4 f5, rfl, qq⟩⟩
end
end RV
set_option maxHeartbeats 4000000
/-! {elt for a in x for b in y if ..}: ints, two clauses, tests on the second -/
namespace RV
open PySem PySem.Spec PyProof.Rows L2
/-- two clauses, tests on the second -/
abbrev scT (el ta ia tb ib : Expr) (cs : List Expr) (sco : Scope) (p : Pos) : Expr := .SetComp el [⟨ta, ia, [], 0⟩, ⟨tb, ib, cs, 0⟩] sco p
/-- a loop of a comprehension's block whose turns are of that form -/
theorem walkT {Y : Cx} {el ta ia t1 ib tg : Expr} {cs : List Expr} {sco : Scope} {pp : Pos} {d : Nat} {it : Addr} {acc : Value} {p : Pos} {rest : Sem Fin} {fp : List Addr} {tn : Nat → Heap → Prop} {J : It} {pins : List (Addr × Obj)} {σ0 : L2.St} {H0 : Hp} {s0 : Shared} {g : TG} {tb : L2.St → Hp → (Hp → Prop) → Prop} {R : Result → Shared → Prop}
    (hc : Y.calm = true) (T : Turn Y.prog Y.w Y.K tg J fp it tn) (form : compTurn (scT el ta ia t1 ib cs sco pp) d (.ref it) acc Y.env = turnOf p tg (.ref it) Y.env rest)
    (fpok : ∀ {H s}, Inv Y pins σ0 H s → (∀ b ∈ fp, H b = none) → ∀ b ∈ fp, FpOk Y pins H b) (pg : PG Y tg g) (noerr : ∀ e s, Y.xe e s → False)
    (hb : ∀ (pins' : List (Addr × Obj)) (σ2 : L2.St) (H2 : Hp) (s2 : Shared) (Nx : Hp → Prop), Inv Y pins' σ2 H2 s2 → tb σ2 H2 Nx → wpAny (model Y.prog Y.w) Y.A rest (fun fin s3 => fin = .again (.compLoop (scT el ta ia t1 ib cs sco pp) d (.ref it) acc Y.env) ∧ ∃ H3, Inv Y pins' σ0 H3 s3 ∧ Nx H3) (fun _ _ => False) s2)
    (W : Nat → Nat → Hp → Prop) {m0 : Nat} (I0 : Inv Y pins σ0 H0 s0) (t0 : tn 0 s0.heap) (n0 : ∀ b ∈ fp, H0 b = none) (w0 : W 0 m0 H0)
    (turn : ∀ i m H, W i m H → (J.stop i H ∧ ∀ s, Inv Y pins σ0 H s → R (.ok .next) s) ∨ (J.go i H ∧ ∃ Nx : Hp → Prop, (∀ H', Nx H' → ∃ m', m' < m ∧ W (i + 1) m' H') ∧ ∀ x H', J.yld i H x H' → g x σ0 H' fun σ2 H2 => tb σ2 H2 Nx)) :
    codeAny (model Y.prog Y.w) Y.A (.compLoop (scT el ta ia t1 ib cs sco pp) d (.ref it) acc Y.env) R s0 := by
  refine codeAny_loop rfl (fun n s => ∃ i H, Inv Y pins σ0 H s ∧ tn i s.heap ∧ (∀ b ∈ fp, H b = none) ∧ W i n H) (fun n s h => ?_) m0 ⟨0, H0, I0, t0, n0, w0⟩
  obtain ⟨i, H, I, st, nf, hw⟩ := h
  show wpAny (model Y.prog Y.w) Y.A ((compTurn (scT el ta ia t1 ib cs sco pp) d (.ref it) acc Y.env).onRaise fun x => do noteFrame x Y.env; theTreesLotGoes x) _ _ s
  refine wpAny_noted ?_
  rw [form]
  refine wpAny_bind (wpAny_standAt (wpAny_bind ?_))
  rcases turn i n H hw with ⟨stop, fin⟩ | ⟨go, Nx, hNx, step⟩
  · refine thnF (T.done Y rfl rfl rfl hc i pins s σ0 H (fun _ _ => False) I (fpok I nf) st stop) fun r s1 ⟨hr, I1⟩ => ?_
    subst hr
    exact wpAny_pure (fin s1 I1)
  · refine thnF (T.item Y rfl rfl rfl hc i pins s σ0 H (fun _ _ => False) I (fpok I nf) st go) fun r s1 ⟨u, hr, h1⟩ => ?_
    subst hr
    refine wpAny_bind (thnF h1 fun _ s2 ⟨x, H2, I2, rx, yx, st2, nf2⟩ => ?_)
    have J2 := I2.pinned (fpok I2 nf2) (T.obj _ _ st2)
    refine wpAny_bind (wpAny_mono (pg.run _ s2 σ0 H2 x u _ J2 rx (step x H2 yx)) (fun _ s3 h3 => ?_) fun e s' z => (noerr e s' z).elim)
    obtain ⟨σ3, H3, I3, b3⟩ := h3
    refine thnF (hb _ σ3 H3 s3 Nx I3 b3) fun fin s4 ⟨ef, H4, I4, nx⟩ => ?_
    subst ef
    refine ⟨rfl, ?_⟩
    obtain ⟨m', lt, w'⟩ := hNx H4 nx
    have held : ∀ b ∈ fp, ∀ o, s2.heap.get? b = some o → s4.heap.get? b = some o ∧ H4 b = none := fun b hb' o e => by
      have z := I4.pin (b, o) (List.mem_append_right _ (List.mem_append_right _ (mem_pinsAt hb' e)))
      exact ⟨z.1, z.2.1⟩
    refine ⟨m', lt, i + 1, H4, I4.unpinned, T.keep _ _ _ st2 fun b hb' o e => (held b hb' o e).1, fun b hb' => ?_, w'⟩
    obtain ⟨o, e, _⟩ := T.obj _ _ st2 b hb'
    exact (held b hb' o e).2
/-- a clause's start goes to its loop -/
theorem start_ofT {P : Program} {w : World} {A : Around} {env : Env} {R : Result → Shared → Prop} {s : Shared} {el ta ia t1 ib : Expr} {cs : List Expr} {sco : Scope} {pp : Pos} {d : Nat} {it acc : Value} (hd : d < 2) (self : ∀ (Q : Value → Shared → Prop) (E : Value → Shared → Prop), Q it s → wpAny (model P w) A (pyIter it) Q E s)
    (h : codeAny (model P w) A (.compLoop (scT el ta ia t1 ib cs sco pp) d it acc env) R s) : codeAny (model P w) A (.compStart (scT el ta ia t1 ib cs sco pp) d it acc env) R s := by
  refine codeAny_of_tree ?_
  show wpAny (model P w) A ((compStart (scT el ta ia t1 ib cs sco pp) d it acc env).onRaise fun x => do noteFrame x env; standAt theWindowsPlace) _ _ s
  refine wpAny_notedAt ?_
  have go : ∀ q : Pos, wpAny (model P w) A (standAt q >>= fun _ => pyIter it >>= fun j => again (.compLoop (scT el ta ia t1 ib cs sco pp) d j acc env)) (fun fin s' => match fin with | .done f => R (.ok f) s' | .again c' => c'.quiet = true ∧ codeAny (model P w) A c' R s') (notedBy (model P w) A env fun e s' => R (.error e) s') s := fun q =>
    wpAny_bind (wpAny_standAt (wpAny_bind (self _ _ (wpAny_pure ⟨rfl, h⟩))))
  have now : wpAny (model P w) A (again (.compLoop (scT el ta ia t1 ib cs sco pp) d it acc env)) (fun fin s' => match fin with | .done f => R (.ok f) s' | .again c' => c'.quiet = true ∧ codeAny (model P w) A c' R s') (notedBy (model P w) A env fun e s' => R (.error e) s') s := wpAny_pure ⟨rfl, h⟩
  obtain rfl | rfl : d = 0 ∨ d = 1 := by omega
  all_goals
    unfold compStart
    show wpAny (model P w) A (ask >>= _) _ _ s
    refine wpAny_bind (wpAny_askSetting (wpAny_ite ?_))
    split
    · exact wpAny_bind (wpAny_pure now)
    · exact wpAny_bind (wpAny_rule (go _))
section
variable {el ta ia t1 ib : Expr} {cs : List Expr} {sco : Scope} {pp : Pos}
theorem form0T (it acc : Value) (env : Env) : compTurn (scT el ta ia t1 ib cs sco pp) 0 it acc env = turnOf ia.pos ta it env
    (eval ib env >>= fun x => standAt ib.pos >>= fun _ => foldedSetIterable ib env x >>= fun x => holding [x] (pyIter x) >>= fun j => runOwn (.compStart (scT el ta ia t1 ib cs sco pp) 1 j acc env) env >>= fun _ => again (.compLoop (scT el ta ia t1 ib cs sco pp) 0 it acc env)) := by rfl
theorem form1T (it acc : Value) (env : Env) : compTurn (scT el ta ia t1 ib cs sco pp) 1 it acc env = turnOf ib.pos t1 it env
    (do
      let mut ok := true
      for c in cs do
        if ok then ok ← isTrue c env (eval c env)
      if ok then
        (do let v ← eval el env; standAt el.pos; let _ ← call (.builtin "set.add") [acc, v])
      again (.compLoop (scT el ta ia t1 ib cs sco pp) 1 it acc env)) := by rfl
end
/-- what the inner loop must do, from what the outer one stored -/
def tInnerT (w : World) (D : Addr) (wi1 : TI) (g1 : TG) (tt : TT) (te : TE) (vs1 : List Nat) : L2.St → Hp → (Hp → Prop) → Prop := fun σ2 H2 Nx => wi1 σ2 H2 fun J1 H4 => ∃ W1 : Nat → Nat → Hp → Prop, (∃ m, W1 0 m H4) ∧ ∀ j k H, W1 j k H →
  (J1.stop j H ∧ Nx H) ∨ (J1.go j H ∧ ∃ Nx1 : Hp → Prop, (∀ H', Nx1 H' → ∃ k', k' < k ∧ W1 (j + 1) k' H') ∧ ∀ x H', J1.yld j H x H' → g1 x (wipe σ2 vs1) H' fun σ3 H5 => wipe σ3 vs1 = wipe σ2 vs1 ∧
    tt σ3 H5 fun b H6 => if b = true then te σ3 H6 fun y H7 => ∃ (c : Int) (S : Int → Bool) (n : Nat), y = .int c ∧ H7 D = some (SetO w D S n) ∧ n + 1 < scanBound ∧ Nx1 (upd H7 D (SetO w D (fun j => S j || decide (j = c)) (if S c = true then n else n + 1))) else Nx1 H6)
/-- {el for ta in ia for t1 in ib}: D the new set, vs the block's names, vs1 those of the second target -/
def tST (w : World) (wi : TI) (g : TG) (wi1 : TI) (g1 : TG) (tt : TT) (te : TE) (vs vs1 : List Nat) : TE := fun σ H Q => wi σ H fun J H1 => ∀ D, H1 D = none → ∃ W : Nat → Nat → Hp → Prop, (∃ m, W 0 m (upd H1 D (SetO w D (fun _ => false) 0))) ∧ ∀ i m H, W i m H →
  (J.stop i H ∧ Q (.ref D) H) ∨ (J.go i H ∧ ∃ Nx : Hp → Prop, (∀ H', Nx H' → ∃ m', m' < m ∧ W (i + 1) m' H') ∧ ∀ x H', J.yld i H x H' → g x (wipe σ vs) H' fun σ2 H2 => wipe σ2 vs = wipe σ vs ∧ tInnerT w D wi1 g1 tt te vs1 σ2 H2 Nx)
section
variable {Y : Cx} {el ta ia t1 ib : Expr} {cs : List Expr} {sco : Scope} {pp : Pos} {D : Addr} {wi1 : TI} {g1 : TG} {tt : TT} {te : TE} {vs vs1 : List Nat} {σ0 : L2.St}
/-- the outer loop's body -/
theorem innerT {o : Addr} (hc : Y.calm = true) (noerr : ∀ e s, Y.xe e s → False) (hv : ∀ i ∈ vs1, i ∈ vs) (hs : ∀ x, foldedSetIterable ib Y.env x = pure x) (p1 : PI Y t1 ib wi1) (pg1 : PG Y t1 g1) (pt : PTs Y cs tt) (pe : PE Y el te)
    (pins : List (Addr × Obj)) (σ2 : L2.St) (H2 : Hp) (s2 : Shared) (Nx : Hp → Prop) (I2 : Inv Y pins σ2 H2 s2) (h : wipe σ2 vs = σ0 ∧ tInnerT Y.w D wi1 g1 tt te vs1 σ2 H2 Nx) :
    wpAny (model Y.prog Y.w) Y.A (eval ib Y.env >>= fun x => standAt ib.pos >>= fun _ => foldedSetIterable ib Y.env x >>= fun x => holding [x] (pyIter x) >>= fun j => runOwn (.compStart (scT el ta ia t1 ib cs sco pp) 1 j (.ref D) Y.env) Y.env >>= fun _ => again (.compLoop (scT el ta ia t1 ib cs sco pp) 0 (.ref o) (.ref D) Y.env))
      (fun fin s3 => fin = .again (.compLoop (scT el ta ia t1 ib cs sco pp) 0 (.ref o) (.ref D) Y.env) ∧ ∃ H3, Inv Y pins σ0 H3 s3 ∧ Nx H3) (fun _ _ => False) s2 := by
  obtain ⟨hw, h⟩ := h
  refine wpAny_bind (wpAny_mono (p1.run pins s2 σ2 H2 _ I2 h) (fun x s3 hx => ?_) fun e s z => (noerr e s z).elim)
  refine wpAny_bind (wpAny_standAt (wpAny_bind (wpAny_of_eq (hs x) (wpAny_bind (wpAny_holding (wpAny_mono hx (fun j s4 h4 => ?_) fun e s z => (noerr e s z).elim))))))
  obtain ⟨it, fp, tn, J1, H4, e, I4, T, st4, f4, W1, ⟨m1, w1⟩, turn1⟩ := h4
  subst e
  have back : ∀ {H s}, Inv Y pins (wipe σ2 vs1) H s → Inv Y pins σ0 H s := fun I => by
    subst hw
    refine I.weak (by rw [wipe_length, wipe_length]) fun i v e => ?_
    obtain ⟨e1, e2⟩ := wipe_some e
    rw [wipe_keep fun z => e2 (hv i z)]; exact e1
  refine wpAny_bind (wpAny_runOwn ?_)
  rw [Around.mark_none]
  have loop := walkT (tb := fun σ3 H5 Nx1 => wipe σ3 vs1 = wipe σ2 vs1 ∧ tt σ3 H5 fun b H6 => if b = true then te σ3 H6 fun y H7 => ∃ (c : Int) (S : Int → Bool) (n : Nat), y = .int c ∧ H7 D = some (SetO Y.w D S n) ∧ n + 1 < scanBound ∧ Nx1 (upd H7 D (SetO Y.w D (fun j => S j || decide (j = c)) (if S c = true then n else n + 1))) else Nx1 H6)
    (R := fun r s' => match r with | .ok _ => ∃ H3, Inv Y pins σ0 H3 s' ∧ Nx H3 | .error _ => False) hc T (form1T (el := el) (ta := ta) (ia := ia) (t1 := t1) (ib := ib) (sco := sco) (pp := pp) (.ref it) (.ref D) Y.env)
    (fun {H s} _ hn b hb => ⟨hn b hb, (f4 b hb).2⟩) pg1 noerr
    (fun pins' σ3 H5 s5 Nx1 I5 ⟨hw5, h5⟩ => by
      have weak : ∀ {H8 s8}, Inv Y pins' σ3 H8 s8 → Inv Y pins' (wipe σ2 vs1) H8 s8 := fun I8 => I8.weak (by rw [← hw5, wipe_length]) fun i v e => by rw [← hw5] at e; exact (wipe_some e).1
      refine wpAny_bind (wpAny_mono (pt.run pins' s5 σ3 H5 _ I5 h5) (fun ok s6 h6 => ?_) fun e s z => (noerr e s z).elim)
      obtain ⟨H6, I6, q6⟩ := h6
      cases ok with
      | false =>
        simp only [Bool.false_eq_true, if_false] at q6 ⊢
        exact wpAny_pure ⟨rfl, H6, weak I6, q6⟩
      | true =>
        simp only [if_true] at q6 ⊢
        refine wpAny_bind (wpAny_bind (wpAny_mono (pe.run pins' s6 σ3 H6 _ I6 q6) (fun z s7 h7 => ?_) fun e s z => (noerr e s z).elim))
        obtain ⟨y, H7, I7, r7, c, S, n, ey, hD, room, nx⟩ := h7
        subst ey
        refine wpAny_bind (wpAny_standAt (wpAny_bind ?_))
        refine wpAny_mono (mt_sadd pins' s7 σ3 H7 (.ref D) [.int c] (.ref D) [z] (fun _ H' => Nx1 H') I7 rfl (.cons r7 .nil) ⟨D, c, S, n, rfl, rfl, hD, room, nx⟩) (fun _ s8 h8 => ?_) fun e s z => (noerr e s z).elim
        obtain ⟨y8, H8, I8, _, q8⟩ := h8
        exact wpAny_pure (wpAny_pure ⟨rfl, H8, weak I8, q8⟩))
    W1 (I4.weak (wipe_length _ _) fun i v e => (wipe_some e).1) st4 (fun b hb => (f4 b hb).1) w1
    (fun j k H hW => by
      rcases turn1 j k H hW with ⟨stop, nx⟩ | ⟨go, Nx1, hN1, step⟩
      · exact .inl ⟨stop, fun s I => ⟨H, back I, nx⟩⟩
      · exact .inr ⟨go, Nx1, hN1, step⟩)
  refine codeAny_mono (start_ofT (by decide) (fun Q E q => T.self _ 0 _ _ _ st4 q) loop) fun r s' hr => ?_
  cases r with
  | ok f => exact wpAny_pure ⟨rfl, hr⟩
  | error e => exact hr.elim
end
section
variable {X : Cx}
abbrev blkEnvT (X : Cx) (sco : Scope) (s : Shared) : Env := compEnvC sco (cellsFrom (s.heap.objs.size + 1) sco.names (cloFrom X.env.cells sco.names [])) s.heap.objs.size X.env
theorem blockT {el ta ia t1 ib : Expr} {cs : List Expr} {sco : Scope} {own : List (PySem.Str × Nat)} {vs1 : List Nat} {pp : Pos} {wi1 : TI} {g g1 : TG} {tt : TT} {te : TE} {pins : List (Addr × Obj)} {σ : L2.St} {H : Hp} {s : Shared} {it D : Addr} {fp : List Addr} {tn : Nat → Heap → Prop} {J : It} {Q : VK} {W : Nat → Nat → Hp → Prop} {m0 : Nat} {Z : Result → Shared → Prop}
    (hc : X.calm = true) (hN : X.N.Nodup) (ok : BlkOk X.N X.env.scope sco own) (hv : ∀ i ∈ vs1, i ∈ own.map (·.2)) (hs1 : ∀ env x, foldedSetIterable ib env x = pure x)
    (pg : PG (X.blk s H sco (blkEnvT X sco s) fp) ta g) (p1 : PI (X.blk s H sco (blkEnvT X sco s) fp) t1 ib wi1) (pg1 : PG (X.blk s H sco (blkEnvT X sco s) fp) t1 g1) (pt : PTs (X.blk s H sco (blkEnvT X sco s) fp) cs tt) (pe : PE (X.blk s H sco (blkEnvT X sco s) fp) el te)
    (I : Inv X pins σ H s) (T : Turn X.prog X.w X.K ta J fp it tn) (st : tn 0 s.heap) (hf : ∀ b ∈ fp, FpOk X pins H b ∧ b < s.heap.objs.size) (w0 : W 0 m0 H)
    (turn : ∀ i m H, W i m H → (J.stop i H ∧ Q (.ref D) H) ∨ (J.go i H ∧ ∃ Nx : Hp → Prop, (∀ H', Nx H' → ∃ m', m' < m ∧ W (i + 1) m' H') ∧ ∀ x H', J.yld i H x H' → g x (wipe σ (own.map (·.2))) H' fun σ2 H2 => wipe σ2 (own.map (·.2)) = wipe σ (own.map (·.2)) ∧ tInnerT X.w D wi1 g1 tt te vs1 σ2 H2 Nx))
    (fin : ∀ s' H' m, Inv X pins σ H' s' → Q (.ref D) H' → s'.heap.Ns s.heap.objs.size m → FpOk X pins H' s.heap.objs.size → Z (.ok .next) s') :
    codeAny (model X.prog X.w) X.A (.compStart (scT el ta ia t1 ib cs sco pp) 0 (.ref it) (.ref D) (blkEnvT X sco s)) Z { s with heap := pushCells (s.heap.push { cls := .type "dict", data := .dict #[] }) sco.names } := by
  have I4 := block_start I ok hN hf
  have st4 : tn 0 (pushCells (s.heap.push { cls := .type "dict", data := .dict #[] }) sco.names) := T.keep _ _ _ st fun b _ o e => pushCells_keeps _ _ _ _ (Heap.get?_push_of_some _ e)
  refine start_ofT (by decide) (fun Q' E q => T.self _ 0 _ _ _ st4 q) ?_
  refine walkT (Y := X.blk s H sco (blkEnvT X sco s) fp) (tb := fun σ2 H2 Nx => wipe σ2 (own.map (·.2)) = wipe σ (own.map (·.2)) ∧ tInnerT X.w D wi1 g1 tt te vs1 σ2 H2 Nx) hc T (form0T (.ref it) (.ref D) (blkEnvT X sco s))
    (fun {H' s'} I' hn b hb => ⟨hn b hb, (I'.ok.exf b hb).1, I'.ok.exfs b hb, .inl hb, fun x c e => (I'.ok.exf b hb).2 x c e, fun p hp => nomatch (show p ∈ ([] : List (Addr × Obj)) from hp)⟩) pg (fun _ _ z => z)
    (fun pins' σ2 H2 s2 Nx I2 h2 => innerT (Y := X.blk s H sco (blkEnvT X sco s) fp) (vs := own.map (·.2)) hc (fun _ _ z => z) hv (hs1 _) p1 pg1 pt pe pins' σ2 H2 s2 Nx I2 h2) W I4 st4 (fun b hb => (hf b hb).1.1) w0 (fun i m H' hW => ?_)
  rcases turn i m H' hW with ⟨stop, qq⟩ | z
  · refine .inl ⟨stop, fun s6 I6 => ?_⟩
    obtain ⟨m', hn, _⟩ := I6.loc
    exact fin s6 H' m' (I.call' (ch := fp) I6.os I6.base I6.hok I6.bare fun b hb => (hf b hb).1.2.2.2.1 |> fun z => ⟨z, (hf b hb).1.2.1, (hf b hb).1.2.2.2.2.1, (hf b hb).1.2.2.2.2.2⟩) qq hn (I.fpOk (Nat.le_refl _) I6.free)
  · exact .inr z
theorem pe_scT {el ta ia t1 ib : Expr} {cs : List Expr} {sco : Scope} {own : List (PySem.Str × Nat)} {vs1 : List Nat} {pp : Pos} {wi wi1 : TI} {g g1 : TG} {tt : TT} {te : TE} (hc : X.calm = true) (hN : X.N.Nodup) (hi : PI X ta ia wi) (ok : BlkOk X.N X.env.scope sco own) (hv : ∀ i ∈ vs1, i ∈ own.map (·.2))
    (hg : ∀ s H C cl fp, PG (X.blk s H sco (compEnvC sco cl C X.env) fp) ta g) (hi1 : ∀ s H C cl fp, PI (X.blk s H sco (compEnvC sco cl C X.env) fp) t1 ib wi1) (hg1 : ∀ s H C cl fp, PG (X.blk s H sco (compEnvC sco cl C X.env) fp) t1 g1)
    (ht1 : ∀ s H C cl fp, PTs (X.blk s H sco (compEnvC sco cl C X.env) fp) cs tt) (he : ∀ s H C cl fp, PE (X.blk s H sco (compEnvC sco cl C X.env) fp) el te) (hs : ∀ x, foldedSetIterable ia X.env x = pure x := by intro _; rfl) (hs1 : ∀ env x, foldedSetIterable ib env x = pure x := by intro _ _; rfl) :
    PE X (.SetComp el [⟨ta, ia, [], 0⟩, ⟨t1, ib, cs, 0⟩] sco pp) (tST X.w wi g wi1 g1 tt te (own.map (·.2)) vs1) := by
  refine ⟨fun pins s σ H Q I h => ?_⟩
  rw [PpSet.eval_SetComp]
  have known : ∀ y ∈ sco.names, y.2 = .free → ∃ c, X.env.cells.lookup y.1 = some c := fun y hy e => I.ok.has _ (ok.free y hy e)
  refine wpAny_comprehension_free (use := none) rfl hs (closure_ok known) ok.kind (fun y hy e => by rw [ok.uniq y hy, e]) (thn (hi.run pins s σ H _ I h) fun _ _ hx => thn hx fun iv s2 h2 => ?_)
  obtain ⟨it, fp, tn, J, H2, e, I2, T, st2, f2, q⟩ := h2
  subst e
  refine PpSet.newSet_ok (newEnv_comp ?_)
  have nD : H2 s2.heap.objs.size = none := I2.hok.fresh (Nat.le_refl _)
  obtain ⟨W, ⟨m0, w0⟩, turn⟩ := q _ nD
  have I3 := I2.laid (t' := s2.toks) (o := SetO X.w s2.heap.objs.size (fun _ => false) 0) (fun b o e => Heap.get?_push_of_some { cls := .type "set", dict := none, data := .set #[] 0 (.fresh 0 0 (!X.w.params.followText "set-order")) } e) (Nat.le_refl _) (setO_new (setR_fresh X.w))
  have young : ∀ b ∈ fp, b < s2.heap.objs.size := fun b hb => (T.obj _ _ st2 b hb).elim fun o e => Heap.lt_size e.1
  exact blockT hc hN ok hv hs1 (hg _ _ _ _ _) (hi1 _ _ _ _ _) (hg1 _ _ _ _ _) (ht1 _ _ _ _ _) (he _ _ _ _ _) I3 T (T.keep _ _ _ st2 fun b _ o e => Heap.get?_push_of_some _ e)
    (fun b hb => ⟨⟨by rw [upd_ne (Nat.ne_of_lt (young b hb))]; exact (f2 b hb).1, (f2 b hb).2⟩, by show b < (Heap.push _ _).objs.size; rw [Heap.size_push]; exact Nat.lt_succ_of_lt (young b hb)⟩) w0 turn
    fun s' H' m I' qq hn ⟨f0, f1, _, f3, f4, f5⟩ => ⟨m, hn, fun h'' sb => ⟨.ref s2.heap.objs.size, H', I'.turned (t' := s'.toks) (fun b o hb e => (sb.2 b hb).trans e) f0 f1 f3 f4 f5, rfl, qq⟩⟩
end
end RV
set_option maxHeartbeats 4000000
/-! min of tuples of ints: of two, of a list of them -/
namespace RV
open PySem PySem.Spec PyProof.Rows L2
theorem lex_irr (xs : List Int) : HT.lexLt xs xs = false := by
  cases e : HT.lexLt xs xs with
  | false => rfl
  | true => have := NtL.lex_asym _ _ e; rw [e] at this; cases this
/-- the place of the first least -/
theorem best_least (l : Nat → List Int) : ∀ n : Nat, argBest (fun i j => HT.lexLt (l i) (l j)) n ≤ n ∧ ∀ j, j ≤ n → HT.lexLt (l j) (l (argBest (fun i j => HT.lexLt (l i) (l j)) n)) = false
  | 0 => ⟨Nat.le_refl _, fun j hj => by
    have : j = 0 := by omega
    subst this
    exact lex_irr _⟩
  | n + 1 => by
    obtain ⟨h1, h2⟩ := best_least l n
    have e0 : argBest (fun i j => HT.lexLt (l i) (l j)) (n + 1) = if HT.lexLt (l (n + 1)) (l (argBest (fun i j => HT.lexLt (l i) (l j)) n)) then n + 1 else argBest (fun i j => HT.lexLt (l i) (l j)) n := rfl
    rw [e0]
    generalize argBest (fun i j => HT.lexLt (l i) (l j)) n = b at h1 h2
    cases e : HT.lexLt (l (n + 1)) (l b) with
    | true =>
      rw [if_pos rfl]
      refine ⟨Nat.le_refl _, fun j hj => ?_⟩
      rcases Nat.lt_or_ge j (n + 1) with z | z
      · exact NtL.lex_tr _ _ _ (NtL.lex_asym _ _ e) (h2 j (by omega))
      · have : j = n + 1 := by omega
        subst this; exact lex_irr _
    | false =>
      rw [if_neg (by decide)]
      refine ⟨by omega, fun j hj => ?_⟩
      rcases Nat.lt_or_ge j (n + 1) with z | z
      · exact h2 j (by omega)
      · have : j = n + 1 := by omega
        subst this; exact e
section
variable {prog : Program} {w : World} {A : Around} {E : Value → Shared → Prop} {s : Shared}
/-- v is a tuple of the ints ns in h -/
def TupIn (h : Heap) (v : Value) (ns : List Int) : Prop := ∃ (a : Addr) (items : Array Value), v = .ref a ∧ IsTup h a items ∧ IntsAre items.toList ns
theorem TupIn.keep {h h' : Heap} {v : Value} {ns : List Int} (t : TupIn h v ns) (k : ∀ b o, h.get? b = some o → h'.get? b = some o) : TupIn h' v ns := by
  obtain ⟨a, items, e, ⟨o, h1, h2, h3⟩, hi⟩ := t
  exact ⟨a, items, e, ⟨o, k _ _ h1, h2, h3⟩, hi⟩
theorem cmp_tups {vs : Array Value} {l : Nat → List Int} (hu : A.units < cLine) (ht : ∀ i v, vs[i]? = some v → TupIn s.heap v (l i)) :
    CmpIn prog w A .Lt s.heap (fun i v => vs[i]? = some v) (fun i j => HT.lexLt (l i) (l j)) := fun i j vi vj s' Q E hk hi hj hq => by
  obtain ⟨a, it1, rfl, t1, i1⟩ := (ht i vi hi).keep hk
  obtain ⟨b, it2, rfl, t2, i2⟩ := (ht j vj hj).keep hk
  exact HT.lt_tupInts t1 t2 i1 i2 hu hq
/-- min(l) of a list of tuples of ints -/
theorem min_tups {a : Addr} {vs : Array Value} {l : Nat → List Int} {Q : Value → Shared → Prop} (hh : A.handled = none) (hl : s.heap.IsList a vs) (h0 : 0 < vs.size) (hu : A.units + 1 < cLine) (ht : ∀ i v, vs[i]? = some v → TupIn s.heap v (l i))
    (h : ∀ (i : Nat) v h' tk, vs[i]? = some v → (∀ j, j < vs.size → HT.lexLt (l j) (l i) = false) → (∀ b o, s.heap.get? b = some o → h'.get? b = some o) → Q v { s with heap := h', toks := tk }) :
    wpAny (model prog w) A (call (.builtin "min") [.ref a]) Q E s := by
  refine call_min_walkH (PySem.W.iter_listW (A := A.in1) hh hl fun s₂ e W st hfp hw hk => ?_)
  refine ⟨_, _, _, _, _, _, _, s.heap, _, rfl, W, st, hfp, h0, hw, hk, cmp_tups (A := A.in1) (show A.units + 1 < cLine from hu) ht, fun v s' hP m => ?_⟩
  obtain ⟨h', tk, rfl, hk'⟩ := PySem.W.moved_old e rfl m
  obtain ⟨b1, b2⟩ := best_least l (vs.size - 1)
  exact h _ v h' tk hP (fun j hj => b2 j (by omega)) hk'
/-- min(v, u) of two tuples of ints -/
theorem min_two_tups {v u : Value} {ns ms : List Int} {Q : Value → Shared → Prop} (hh : A.handled = none) (hu : A.units + 1 < cLine) (hv : TupIn s.heap v ns) (hw : TupIn s.heap u ms)
    (h : ∀ h' tk, (∀ b o, s.heap.get? b = some o → h'.get? b = some o) → Q (if HT.lexLt ms ns = true then u else v) { s with heap := h', toks := tk }) :
    wpAny (model prog w) A (call (.builtin "min") [v, u]) Q E s := by
  have hname : (toString "min" ++ toString ".loop" : String) = "min.loop" := by decide
  refine call_function_tree F.kind_min F.plain_min F.entry_min (F.args_min2 _ _) ?_
  show wpAny _ A.in1 (Builtin.Builtins.bindParams "min" ["key", "default"] 0 ⟨[], []⟩ >>= _) _ _ s
  refine wpAny_bind (wpAny_of_eq (show Builtin.Builtins.bindParams "min" ["key", "default"] 0 ⟨[], []⟩ = pure [none, none] from rfl) ?_)
  show wpAny _ A.in1 (newTuple [v, u] >>= _) _ _ s
  refine wpAny_bind (wpAny_newObj_type ?_)
  have hT : (s.heap.push { cls := .type "tuple", data := .seq #[v, u] }).IsTuple s.heap.objs.size #[v, u] := ⟨_, Heap.get?_push_size _ rfl, rfl, 0, rfl⟩
  have k0 : ∀ b o, s.heap.get? b = some o → (s.heap.push { cls := .type "tuple", data := .seq #[v, u] }).get? b = some o := fun b o e => Heap.get?_push_of_some _ e
  have ht : ∀ i x, (#[v, u] : Array Value)[i]? = some x → TupIn (s.heap.push { cls := .type "tuple", data := .seq #[v, u] }) x ((fun i : Nat => if i = 0 then ns else ms) i) := fun i x hx => by
    match i, hx with
    | 0, hx => cases hx; exact hv.keep k0
    | 1, hx => cases hx; exact hw.keep k0
    | i + 2, hx => simp at hx
  refine wpAny_bind (PySem.W.iter_tupleW (s := { s with heap := s.heap.push { cls := .type "tuple", data := .seq #[v, u] } }) (A := A.in1) hh hT fun s₂ e W st hfp hw' hk => ?_)
  refine wpAny_bind (wpAny_newObj_type ?_)
  have hSf : s₂.heap.objs.size ∉ [(s.heap.push { cls := .type "tuple", data := .seq #[v, u] }).objs.size, s.heap.objs.size] := fun hm => Nat.lt_irrefl _ (hfp _ hm)
  rw [hname]
  refine wpAny_pure ⟨plainId_quiet F.plain_min_loop _, codeAny_min_loop_firstH W _ hw' _ (cmp_tups (s := { s with heap := s.heap.push { cls := .type "tuple", data := .seq #[v, u] } }) (A := A.in1) (show A.units + 1 < cLine from hu) ht) s₂.heap.objs.size hSf (fresh_in hk) _ (by show 0 < 2; decide) (fun b o e => Heap.get?_push_of_some _ (hk b o e)) (W.frame 0 s₂ _ s₂.toks st (Nat.le_refl _) fun b _ o e => Heap.get?_push_of_some _ e) (Heap.get?_push_size _ rfl) fun x s' hP hm => ?_⟩
  have m := Moved.drop_new (tk := s₂.toks) hm (Nat.le_refl _)
  obtain ⟨h', tk, rfl, hk'⟩ := PySem.W.moved_old e rfl m
  have z := h h' tk fun b o eb => hk' b o (k0 b o eb)
  have ex : x = if HT.lexLt ms ns = true then u else v := by
    have hP1 : (#[v, u] : Array Value)[argBest (fun i j => HT.lexLt ((fun i : Nat => if i = 0 then ns else ms) i) ((fun i : Nat => if i = 0 then ns else ms) j)) 1]? = some x := hP
    cases el : HT.lexLt ms ns with
    | true =>
      have e1 : argBest (fun i j => HT.lexLt ((fun i : Nat => if i = 0 then ns else ms) i) ((fun i : Nat => if i = 0 then ns else ms) j)) 1 = 1 := by simp [argBest, el]
      rw [e1] at hP1
      rw [if_pos rfl]; cases hP1; rfl
    | false =>
      have e1 : argBest (fun i j => HT.lexLt ((fun i : Nat => if i = 0 then ns else ms) i) ((fun i : Nat => if i = 0 then ns else ms) j)) 1 = 0 := by simp [argBest, el]
      rw [e1] at hP1
      rw [if_neg (by decide)]; cases hP1; rfl
  rw [ex]; exact z
end
section
variable {X : Cx}
theorem tupIn_of {pins : List (Addr × Obj)} {s : Shared} {σ : L2.St} {H : Hp} (I : Inv X pins σ H s) {a : Addr} {ns : List Int} (h : SqT X.K H a (ns.map V.int)) : TupIn s.heap (.ref a) ns := by
  obtain ⟨its, r1, p1, _⟩ := I.tuple h
  exact ⟨a, _, rfl, p1, intsAre_of r1⟩
/-- min(t, u) of two tuples of ints -/
def rMin2T (K : PySem.W.Frag) : List V → Hp → VK → Prop := fun vs H Q => ∃ (a b : Addr) (ns ms : List Int), vs = [.ref a, .ref b] ∧ SqT K H a (ns.map V.int) ∧ SqT K H b (ms.map V.int) ∧ Q (.ref (if HT.lexLt ms ns = true then b else a)) H
theorem cr_min2T (hc : X.calm = true) (hu : X.A.units + 1 < cLine) : CallR X (.builtin "min") (rMin2T X.K) := by
  intro pins s σ H vs us Q I r h
  obtain ⟨a, b, ns, ms, rfl, ha, hb, q⟩ := h
  obtain ⟨u, w', rfl, e1, e2⟩ := vals2 r
  cases e1
  cases e2
  refine min_two_tups (I.ok.hd hc) hu (tupIn_of I ha) (tupIn_of I hb) fun h' tk k => ⟨_, H, I.kept k, ?_, q⟩
  cases HT.lexLt ms ns <;> rfl
/-! sorted of two tuples of ints of one length -/
theorem code_lex {B : Int} : ∀ {xs ys : List Int}, xs.length = ys.length → TS.Bd B xs → TS.Bd B ys → HT.lexLt xs ys = decide (TS.code B xs < TS.code B ys)
  | [], [], _, _, _ => by
    show false = decide (TS.code B [] < TS.code B [])
    rw [decide_eq_false (Int.lt_irrefl _)]
  | x :: xs, y :: ys, hl, h1, h2 => by
    have hl' : xs.length = ys.length := by simpa using hl
    have t1 : TS.Bd B xs := fun m hm => h1 m (List.mem_cons_of_mem _ hm)
    have t2 : TS.Bd B ys := fun m hm => h2 m (List.mem_cons_of_mem _ hm)
    rw [HT.lexLt_cons]
    by_cases e : x = y
    · rw [if_pos e, code_lex hl' t1 t2, e]
      refine decide_eq_decide.mpr ?_
      show TS.code B xs < TS.code B ys ↔ y * B ^ xs.length + TS.code B xs < y * B ^ ys.length + TS.code B ys
      rw [hl']
      omega
    · rw [if_neg e]
      refine decide_eq_decide.mpr ⟨fun z => TS.code_lt hl' t1 t2 z, fun z => ?_⟩
      rcases Int.lt_trichotomy x y with c | c | c
      · exact c
      · exact absurd c e
      · have := TS.code_lt hl'.symm t2 t1 c
        omega
theorem lex_tot : ∀ {xs ys : List Int}, HT.lexLt xs ys = false → HT.lexLt ys xs = false → xs = ys
  | [], [], _, _ => rfl
  | [], y :: ys, h, _ => by cases h
  | x :: xs, [], _, h => by cases h
  | x :: xs, y :: ys, h1, h2 => by
    rw [HT.lexLt_cons] at h1 h2
    by_cases e : x = y
    · rw [if_pos e] at h1
      rw [if_pos e.symm] at h2
      rw [e, lex_tot h1 h2]
    · rw [if_neg e] at h1
      rw [if_neg (fun z => e z.symm)] at h2
      have a1 := of_decide_eq_false h1
      have a2 := of_decide_eq_false h2
      omega
def rSort2T (K : PySem.W.Frag) : List V → Hp → VK → Prop := fun vs H Q => ∃ (l a b : Addr) (ns ms : List Int) (B : Int), vs = [.ref l] ∧ SqL K H l [.ref a, .ref b] ∧ SqT K H a (ns.map V.int) ∧ SqT K H b (ms.map V.int) ∧ ns.length = ms.length ∧ 1 ≤ ns.length ∧ TS.Bd B ns ∧ TS.Bd B ms ∧
  ∀ (c d p : Addr), SqT K H c ((if HT.lexLt ms ns = true then ms else ns).map V.int) → H p = none → Q (.ref p) (upd H p (.lst [.ref c, .ref d]))
theorem cr_sort2T : CallR X (.builtin "sorted") (rSort2T X.K) := by
  intro pins s σ H vs us Q I r h
  obtain ⟨l, a, b, ns, ms, B, rfl, hL, ha, hb, hlen, h1, B1, B2, q⟩ := h
  refine cr_sortT (d := ns.length) (B := B) h1 pins s σ H _ us Q I r ⟨l, _, rfl, hL, by show 2 < 64; decide, fun x hx => ?_, fun ys p pm pw np => ?_⟩
  · simp only [List.mem_cons, List.not_mem_nil, or_false] at hx
    rcases hx with rfl | rfl
    · exact ⟨ns, ⟨a, rfl, ha⟩, rfl, B1⟩
    · exact ⟨ms, ⟨b, rfl, hb⟩, hlen.symm, B2⟩
  · have hl2 : ys.length = 2 := pm.length_eq
    match ys, hl2, pm, pw with
    | [x, y], _, pm, pw =>
      have rel : ∀ n m, TupI X.K H x n → TupI X.K H y m → TS.code B n ≤ TS.code B m := by
        have z := pw
        rw [List.pairwise_cons] at z
        exact z.1 y (List.mem_singleton.mpr rfl)
      have ma : V.ref a = x ∨ V.ref a = y := by
        have z := pm.mem_iff.mpr (show V.ref a ∈ [V.ref a, V.ref b] by simp)
        simpa using z
      have mb : V.ref b = x ∨ V.ref b = y := by
        have z := pm.mem_iff.mpr (show V.ref b ∈ [V.ref a, V.ref b] by simp)
        simpa using z
      have my : y = V.ref a ∨ y = V.ref b := by
        have z := pm.mem_iff.mp (show y ∈ [x, y] by simp)
        simpa using z
      obtain ⟨d, ed⟩ : ∃ d, y = V.ref d := my.elim (fun e => ⟨_, e⟩) fun e => ⟨_, e⟩
      have fst : ∀ ty : TupI X.K H y ms, x = V.ref a → Q (.ref p) (upd H p (.lst [x, y])) := fun ty ex => by
        have le := rel ns ms ⟨a, ex, ha⟩ ty
        have z := code_lex hlen.symm B2 B1
        rw [decide_eq_false (by omega)] at z
        rw [ex, ed]
        refine q a d p ?_ np
        rw [z, if_neg (by decide)]; exact ha
      rcases ma with ea | ea
      · rcases mb with eb | eb
        · have eab : a = b := V.ref.inj (ea.trans eb.symm)
          refine fst ?_ ea.symm
          rcases my with e | e
          · exact ⟨a, e, by rw [eab]; exact hb⟩
          · exact ⟨b, e, hb⟩
        · exact fst ⟨b, eb.symm, hb⟩ ea.symm
      · rcases mb with eb | eb
        · have le := rel ms ns ⟨b, eb.symm, hb⟩ ⟨a, ea.symm, ha⟩
          rw [← eb, ed]
          refine q b d p ?_ np
          have z := code_lex hlen.symm B2 B1
          cases el : HT.lexLt ms ns with
          | true => rw [if_pos rfl]; exact hb
          | false =>
            rw [if_neg (by decide)]
            have z2 := code_lex hlen B1 B2
            rw [decide_eq_false (by omega)] at z2
            rw [lex_tot z2 el]; exact hb
        · have eab : a = b := V.ref.inj (ea.trans eb.symm)
          have mx : x = V.ref a ∨ x = V.ref b := by
            have z := pm.mem_iff.mp (show x ∈ [x, y] by simp)
            simpa using z
          refine fst ⟨b, eb.symm, hb⟩ ?_
          rcases mx with e | e
          · exact e
          · rw [e, eab]
end
end RV
set_option maxHeartbeats 4000000
/-! the least of all walks: mark by mark, and of all gone through -/
namespace RV
open PyProof.Rows
section
variable {bh : Int → List Int} {N : Nat} {E : List Int}
/-- from where so many steps lead to E -/
def beg (bh : Int → List Int) (N : Nat) (E : List Int) : Nat → List Int
  | 0 => E
  | n + 1 => (upN N).filter fun m => (bh m).any fun c => decide (c ∈ beg bh N E n)
theorem mem_beg {n : Nat} {m : Int} : m ∈ beg bh N E (n + 1) ↔ (0 ≤ m ∧ m < (N : Int)) ∧ ∃ c ∈ bh m, c ∈ beg bh N E n := by
  show m ∈ (upN N).filter _ ↔ _
  rw [List.mem_filter, mem_upN, List.any_eq_true]
  simp only [decide_eq_true_eq]
/-- mark by mark the least that still leads there -/
def Gr (bh : Int → List Int) (B : Nat → List Int) : Nat → Int → List Int → Prop
  | 0, m, w => w = [m]
  | n + 1, m, w => ∃ c w', w = m :: w' ∧ c ∈ bh m ∧ c ∈ B n ∧ (∀ y ∈ bh m, y ∈ B n → c ≤ y) ∧ Gr bh B n c w'
theorem Gr.uniq {B : Nat → List Int} : ∀ {n : Nat} {m : Int} {w v : List Int}, Gr bh B n m w → Gr bh B n m v → w = v
  | 0, m, w, v, h, h' => by rw [show w = [m] from h, show v = [m] from h']
  | n + 1, m, w, v, h, h' => by
    obtain ⟨c, w', rfl, a1, a2, a3, a4⟩ := h
    obtain ⟨d, v', rfl, b1, b2, b3, b4⟩ := h'
    have : c = d := Int.le_antisymm (a3 d b1 b2) (b3 c a1 a2)
    subst this
    rw [a4.uniq b4]
theorem Gr.len {B : Nat → List Int} : ∀ {n : Nat} {m : Int} {w : List Int}, Gr bh B n m w → w.length = n + 1
  | 0, m, w, h => by rw [show w = [m] from h]; rfl
  | n + 1, m, w, h => by
    obtain ⟨c, w', rfl, _, _, _, a4⟩ := h
    rw [List.length_cons, a4.len]
theorem Gr.congr {B B' : Nat → List Int} : ∀ {n : Nat} (_ : ∀ k, k < n → ∀ m, m ∈ B k ↔ m ∈ B' k) {m : Int} {w : List Int}, Gr bh B n m w → Gr bh B' n m w
  | 0, _, m, w, h => h
  | n + 1, e, m, w, h => by
    obtain ⟨c, w', rfl, a1, a2, a3, a4⟩ := h
    exact ⟨c, w', rfl, a1, (e n (by omega) c).mp a2, fun y y1 y2 => a3 y y1 ((e n (by omega) y).mpr y2), a4.congr fun k hk => e k (by omega)⟩
theorem Gr.inn {B : Nat → List Int} {P : Int → Prop} (hb : ∀ m, P m → ∀ c ∈ bh m, P c) : ∀ {n : Nat} {m : Int} {w : List Int}, Gr bh B n m w → P m → ∀ x ∈ w, P x
  | 0, m, w, h, hm, x, hx => by
    rw [show w = [m] from h, List.mem_singleton] at hx
    rw [hx]; exact hm
  | n + 1, m, w, h, hm, x, hx => by
    obtain ⟨c, w', rfl, a1, a2, a3, a4⟩ := h
    rcases List.mem_cons.mp hx with rfl | z
    · exact hm
    · exact a4.inn hb (hb m hm c a1) x z
/-- a walk of so many steps from m to o -/
def WkL (bh : Int → List Int) : Nat → Int → Int → List Int → Prop
  | 0, m, o, w => w = [m] ∧ m = o
  | n + 1, m, o, w => ∃ c w', w = m :: w' ∧ c ∈ bh m ∧ WkL bh n c o w'
theorem WkL.head : ∀ {n : Nat} {m o : Int} {w : List Int}, WkL bh n m o w → ∃ v, w = m :: v
  | 0, m, o, w, h => ⟨[], h.1⟩
  | n + 1, m, o, w, h => by
    obtain ⟨c, w', e, _⟩ := h
    exact ⟨w', e⟩
theorem Gr.head {B : Nat → List Int} : ∀ {n : Nat} {m : Int} {w : List Int}, Gr bh B n m w → ∃ v, w = m :: v
  | 0, m, w, h => ⟨[], h⟩
  | n + 1, m, w, h => by
    obtain ⟨c, w', e, _⟩ := h
    exact ⟨w', e⟩
theorem WkL.beg (hb : ∀ m, (0 ≤ m ∧ m < (N : Int)) → ∀ c ∈ bh m, 0 ≤ c ∧ c < (N : Int)) {o : Int} : ∀ {n : Nat} {m : Int} {w : List Int}, WkL bh n m o w → (0 ≤ m ∧ m < (N : Int)) → m ∈ RV.beg bh N [o] n
  | 0, m, w, h, _ => by rw [h.2]; exact List.mem_singleton.mpr rfl
  | n + 1, m, w, h, hm => by
    obtain ⟨c, w', _, h1, h2⟩ := h
    exact mem_beg.mpr ⟨hm, c, h1, h2.beg hb (hb m hm c h1)⟩
theorem Gr.wk {o : Int} : ∀ {n : Nat} {m : Int} {w : List Int}, Gr bh (RV.beg bh N [o]) n m w → m ∈ RV.beg bh N [o] n → WkL bh n m o w
  | 0, m, w, h, hm => ⟨h, List.mem_singleton.mp hm⟩
  | n + 1, m, w, h, hm => by
    obtain ⟨c, w', e, a1, a2, a3, a4⟩ := h
    exact ⟨c, w', e, a1, a4.wk a2⟩
theorem Gr.least (hb : ∀ m, (0 ≤ m ∧ m < (N : Int)) → ∀ c ∈ bh m, 0 ≤ c ∧ c < (N : Int)) {o : Int} : ∀ {n : Nat} {m : Int} {g w : List Int}, Gr bh (RV.beg bh N [o]) n m g → WkL bh n m o w → (0 ≤ m ∧ m < (N : Int)) → HT.lexLt w g = false
  | 0, m, g, w, h, h', _ => by rw [show g = [m] from h, h'.1]; exact lex_irr _
  | n + 1, m, g, w, h, h', hm => by
    obtain ⟨c, g', rfl, a1, a2, a3, a4⟩ := h
    obtain ⟨d, w', rfl, b1, b2⟩ := h'
    have hd := hb m hm d b1
    have le := a3 d b1 (b2.beg hb hd)
    rw [HT.lexLt_cons, if_pos rfl]
    by_cases e : d = c
    · subst e
      exact a4.least hb b2 hd
    · obtain ⟨x, rfl⟩ := a4.head
      obtain ⟨y, rfl⟩ := b2.head
      rw [HT.lexLt_cons, if_neg e, decide_eq_false (by omega)]
theorem ex_gr : ∀ {n : Nat} {m : Int}, m ∈ RV.beg bh N E n → ∃ w, Gr bh (RV.beg bh N E) n m w
  | 0, m, _ => ⟨[m], rfl⟩
  | n + 1, m, h => by
    obtain ⟨_, c, h1, h2⟩ := mem_beg.mp h
    have lst : ∀ (l : List Int), l ≠ [] → ∃ x ∈ l, ∀ y ∈ l, x ≤ y := by
      intro l
      induction l with
      | nil => intro z; exact absurd rfl z
      | cons a l ih =>
        intro _
        by_cases e : l = []
        · subst e
          exact ⟨a, List.mem_singleton.mpr rfl, fun y hy => by rw [List.mem_singleton.mp hy]; exact Int.le_refl _⟩
        · obtain ⟨x, x1, x2⟩ := ih e
          rcases Int.le_total a x with z | z
          · exact ⟨a, List.mem_cons_self, fun y hy => by
              rcases List.mem_cons.mp hy with rfl | y1
              · exact Int.le_refl _
              · exact Int.le_trans z (x2 y y1)⟩
          · exact ⟨x, List.mem_cons_of_mem _ x1, fun y hy => by
              rcases List.mem_cons.mp hy with rfl | y1
              · exact z
              · exact x2 y y1⟩
    obtain ⟨x, x1, x2⟩ := lst ((bh m).filter fun y => decide (y ∈ RV.beg bh N E n)) (fun z => by
      have : c ∈ (bh m).filter fun y => decide (y ∈ RV.beg bh N E n) := List.mem_filter.mpr ⟨h1, decide_eq_true h2⟩
      rw [z] at this; cases this)
    obtain ⟨x3, x4⟩ := List.mem_filter.mp x1
    have x4 := of_decide_eq_true x4
    obtain ⟨w, hw⟩ := ex_gr x4
    exact ⟨m :: w, x, w, rfl, x3, x4, fun y y1 y2 => x2 y (List.mem_filter.mpr ⟨y1, decide_eq_true y2⟩), hw⟩
/-- the last mark -/
def la (w : List Int) : Int := w.getLast?.getD 0
theorem la_add (w : List Int) (c : Int) : la (w ++ [c]) = c := by unfold la; simp
theorem WkL.snoc {o d : Int} : ∀ {n : Nat} {m : Int} {w : List Int}, WkL bh n m o w → d ∈ bh o → WkL bh (n + 1) m d (w ++ [d])
  | 0, m, w, h, hd => by
    obtain ⟨rfl, rfl⟩ := h
    exact ⟨d, [d], rfl, hd, rfl, rfl⟩
  | n + 1, m, w, h, hd => by
    obtain ⟨c, w', rfl, h1, h2⟩ := h
    exact ⟨c, w' ++ [d], rfl, h1, h2.snoc hd⟩
theorem WkL.unsnoc {d : Int} : ∀ {n : Nat} {m : Int} {w : List Int}, WkL bh (n + 1) m d w → ∃ o v, WkL bh n m o v ∧ d ∈ bh o ∧ w = v ++ [d]
  | 0, m, w, h => by
    obtain ⟨c, w', rfl, h1, h2, rfl⟩ := h
    exact ⟨m, [m], ⟨rfl, rfl⟩, h1, by rw [h2]; rfl⟩
  | n + 1, m, w, h => by
    obtain ⟨c, w', rfl, h1, h2⟩ := h
    obtain ⟨o, v, k1, k2, rfl⟩ := h2.unsnoc
    exact ⟨o, m :: v, ⟨c, v, rfl, h1, k1⟩, k2, rfl⟩
theorem WkL.la : ∀ {n : Nat} {m o : Int} {w : List Int}, WkL bh n m o w → RV.la w = o
  | 0, m, o, w, h => by rw [h.1, h.2]; rfl
  | n + 1, m, o, w, h => by
    obtain ⟨c, v, _, _, rfl⟩ := h.unsnoc
    exact la_add _ _
theorem WkL.len : ∀ {n : Nat} {m o : Int} {w : List Int}, WkL bh n m o w → w.length = n + 1
  | 0, m, o, w, h => by rw [h.1]; rfl
  | n + 1, m, o, w, h => by
    obtain ⟨c, v, rfl, _, h2⟩ := h
    rw [List.length_cons, h2.len]
/-- all walks of so many steps from m, gone through -/
def alw (bh : Int → List Int) (m : Int) : Nat → List (List Int)
  | 0 => [[m]]
  | n + 1 => (alw bh m n).flatMap fun w => (bh (la w)).map fun c => w ++ [c]
theorem mem_alw {m : Int} : ∀ {n : Nat} {w : List Int}, w ∈ alw bh m n ↔ ∃ o, WkL bh n m o w
  | 0, w => by
    show w ∈ [[m]] ↔ _
    rw [List.mem_singleton]
    exact ⟨fun h => ⟨m, h, rfl⟩, fun ⟨o, h, _⟩ => h⟩
  | n + 1, w => by
    show w ∈ (alw bh m n).flatMap _ ↔ _
    rw [List.mem_flatMap]
    constructor
    · rintro ⟨v, h1, h2⟩
      obtain ⟨o, ho⟩ := mem_alw.mp h1
      obtain ⟨c, c1, rfl⟩ := List.mem_map.mp h2
      rw [ho.la] at c1
      exact ⟨c, ho.snoc c1⟩
    · rintro ⟨d, hd⟩
      obtain ⟨o, v, k1, k2, rfl⟩ := hd.unsnoc
      refine ⟨v, mem_alw.mpr ⟨o, k1⟩, List.mem_map.mpr ⟨d, ?_, rfl⟩⟩
      rw [k1.la]; exact k2
theorem alw_len {m : Int} {b : Nat} (hb : ∀ x, (bh x).length ≤ b) : ∀ n, (alw bh m n).length ≤ b ^ n
  | 0 => Nat.le_refl _
  | n + 1 => by
    show ((alw bh m n).flatMap _).length ≤ _
    have h : ∀ L : List (List Int), (L.flatMap fun w => (bh (la w)).map fun c => w ++ [c]).length ≤ L.length * b := by
      intro L
      induction L with
      | nil => simp
      | cons w L ih =>
        rw [List.flatMap_cons, List.length_append, List.length_map, List.length_cons, Nat.succ_mul]
        have := hb (la w)
        omega
    exact Nat.le_trans (h _) (by rw [Nat.pow_succ]; exact Nat.mul_le_mul (alw_len hb n) (Nat.le_refl _))
end
end RV
set_option maxHeartbeats 4000000
namespace RV
open PySem PySem.Spec PyProof.Rows L2
theorem shows_dI7 {ns : List Int} (hn : ∀ n ∈ ns, n.natAbs < 10 ^ 12) (ln : ns.length ≤ 7000) : Shows (dI ns) := by
  have i3 : (dI ns).bulk = ns.length := by simp only [dI, PyData.bulk, bulk_ints]
  refine ⟨by simp only [dI, PyData.showable]; exact show_ints ns hn, PyData.hasDict_of_canLay _ (dI_lay ns), by rw [dI_dep]; decide, ?_⟩
  refine PyData.shown_fits_bulk (B := 13) (by decide) (by decide) (PyData.leavesShort_of_canLay0 13 _ (dI_lay ns) ?_) (by rw [i3]; omega)
  simp only [dI, PyData.intsShort]; exact PyData.intsShortAll_ints ns hn
section
variable {X : Cx}
/-- repr of a tuple or of None -/
def rReprT (K : PySem.W.Frag) : List V → Hp → VK → Prop := fun xs H Q => (∃ (a : Addr) (ns : List Int), xs = [.ref a] ∧ SqT K H a (ns.map V.int) ∧ Shows (dI ns) ∧ Q (.str (dI ns).shown) H) ∨ (xs = [.non] ∧ Q (.str "None") H)
theorem call_reprT (gd : X.A.guards = some []) (hu : X.A.units + 65 < cLine) : CallR X (.builtin "repr") (rReprT X.K) := by
  intro pins s σ H xs us Q I r h
  rcases h with ⟨a, ns, e, hT, sh, q⟩ | ⟨rfl, q⟩
  · exact call_reprD gd hu pins s σ H xs us Q I r ⟨a, dI ns, e, dpT hT, sh.h1, sh.h2, sh.h3, sh.h4, q⟩
  · obtain ⟨u, rfl, rx⟩ := vals1 r
    cases (show u = Value.none from rx)
    exact PySem.P.repr_of_none ⟨.str "None", H, I.tok _, ⟨_, rfl⟩, q⟩
end
/-- unlike numbers below n are at most n -/
theorem few_below : ∀ {n : Nat} {l : List Int}, l.Nodup → (∀ x ∈ l, 0 ≤ x ∧ x < (n : Int)) → l.length ≤ n
  | 0, l, _, h => by
    cases l with
    | nil => exact Nat.le_refl _
    | cons x l => have := h x List.mem_cons_self; omega
  | n + 1, l, nd, h => by
    have nd2 : (l.erase (n : Int)).Nodup := nd.erase _
    have h2 : ∀ x ∈ l.erase (n : Int), 0 ≤ x ∧ x < (n : Int) := fun x hx => by
      have h3 := (List.Nodup.mem_erase_iff nd).mp hx
      have h4 := h x h3.2
      have h5 := h3.1
      omega
    have z := few_below nd2 h2
    rw [List.length_erase] at z
    split at z
    · omega
    · rename_i hno
      omega
end RV
set_option maxHeartbeats 4000000
/-! walks of so many steps, and tables of where they end -/
namespace RV
open PySem PySem.Spec PyProof.Rows L2
section
variable {bh : Int → List Int} {N : Nat}
/-- so many steps lead from the one to the other -/
def lk (bh : Int → List Int) : Nat → Int → Int → Prop
  | 0, a, b => a = b
  | n + 1, a, b => ∃ c, c ∈ bh a ∧ lk bh n c b
theorem lk_add {n : Nat} {b : Int} : ∀ {m : Nat} {a : Int}, lk bh (m + n) a b ↔ ∃ c, lk bh m a c ∧ lk bh n c b
  | 0, a => by
    rw [Nat.zero_add]
    exact ⟨fun h => ⟨a, rfl, h⟩, fun ⟨c, h1, h2⟩ => by rw [show a = c from h1]; exact h2⟩
  | m + 1, a => by
    rw [show m + 1 + n = (m + n) + 1 by omega]
    constructor
    · rintro ⟨c, h1, h2⟩
      obtain ⟨d, h3, h4⟩ := lk_add.mp h2
      exact ⟨d, ⟨c, h1, h3⟩, h4⟩
    · rintro ⟨d, ⟨c, h1, h3⟩, h4⟩
      exact ⟨c, h1, lk_add.mpr ⟨d, h3, h4⟩⟩
theorem lk_one {a b : Int} : lk bh 1 a b ↔ b ∈ bh a :=
  ⟨fun ⟨c, h1, h2⟩ => by rw [← show c = b from h2]; exact h1, fun h => ⟨b, h, rfl⟩⟩
theorem lk_inn (hb : ∀ m, ∀ c ∈ bh m, 0 ≤ c ∧ c < (N : Int)) {b : Int} : ∀ {n : Nat} {a : Int}, lk bh n a b → (0 ≤ a ∧ a < (N : Int)) → 0 ≤ b ∧ b < (N : Int)
  | 0, a, h, ha => by rw [← show a = b from h]; exact ha
  | n + 1, a, ⟨c, h1, h2⟩, _ => lk_inn hb h2 (hb a c h1)
theorem beg_lk (hb : ∀ m, ∀ c ∈ bh m, 0 ≤ c ∧ c < (N : Int)) {b : Int} : ∀ {n : Nat} {a : Int}, (0 ≤ a ∧ a < (N : Int)) → (a ∈ beg bh N [b] n ↔ lk bh n a b)
  | 0, a, _ => by show a ∈ [b] ↔ a = b; rw [List.mem_singleton]
  | n + 1, a, ha => by
    rw [mem_beg]
    exact ⟨fun ⟨_, c, h1, h2⟩ => ⟨c, h1, (beg_lk hb (hb a c h1)).mp h2⟩, fun ⟨c, h1, h2⟩ => ⟨ha, c, h1, (beg_lk hb (hb a c h1)).mpr h2⟩⟩
end
/-- a tuple of rising tuples: x in the row of i just where f i x -/
def Tab (K : PySem.W.Frag) (H : Hp) (t : Addr) (N : Nat) (f : Int → Int → Prop) : Prop := ∃ as : List Addr, SqT K H t (as.map V.ref) ∧ as.length = N ∧
  ∀ (i : Nat) (a : Addr), as[i]? = some a → ∃ xs : List Int, SqT K H a (xs.map V.int) ∧ xs.Pairwise (· < ·) ∧ (∀ x ∈ xs, 0 ≤ x ∧ x < (N : Int)) ∧ ∀ x, x ∈ xs ↔ f (i : Int) x
theorem Tab.same {K : PySem.W.Frag} {H H' : Hp} {t : Addr} {N : Nat} {f : Int → Int → Prop} (h : Tab K H t N f) (s : Same H H') : Tab K H' t N f := by
  obtain ⟨as, h1, h2, h3⟩ := h
  exact ⟨as, sqT_same s h1, h2, fun i a e => (h3 i a e).imp fun xs q => ⟨sqT_same s q.1, q.2⟩⟩
theorem Tab.congr {K : PySem.W.Frag} {H : Hp} {t : Addr} {N : Nat} {f g : Int → Int → Prop} (h : Tab K H t N f) (e : ∀ i x : Int, 0 ≤ i → i < (N : Int) → (f i x ↔ g i x)) : Tab K H t N g := by
  obtain ⟨as, h1, h2, h3⟩ := h
  refine ⟨as, h1, h2, fun i a ea => ?_⟩
  obtain ⟨xs, q1, q2, q3, q4⟩ := h3 i a ea
  have hi := (List.getElem?_eq_some_iff.mp ea).1
  exact ⟨xs, q1, q2, q3, fun x => (q4 x).trans (e i x (by omega) (by omega))⟩
theorem Tab.at {K : PySem.W.Frag} {H : Hp} {t : Addr} {N : Nat} {f : Int → Int → Prop} (h : Tab K H t N f) {m : Int} (h0 : 0 ≤ m) (h1 : m < (N : Int)) : ∃ (vs : List V) (a : Addr) (xs : List Int), SqT K H t vs ∧ atI vs m = some (.ref a) ∧ SqT K H a (xs.map V.int) ∧ xs.Pairwise (· < ·) ∧ (∀ x ∈ xs, 0 ≤ x ∧ x < (N : Int)) ∧ ∀ x, x ∈ xs ↔ f m x := by
  obtain ⟨as, q1, q2, q3⟩ := h
  have hm : m.toNat < as.length := by omega
  have e : ((m.toNat : Nat) : Int) = m := Int.toNat_of_nonneg h0
  obtain ⟨xs, z1, z2, z3, z4⟩ := q3 m.toNat _ (List.getElem?_eq_getElem hm)
  rw [e] at z4
  refine ⟨_, as[m.toNat], xs, q1, ?_, z1, z2, z3, z4⟩
  have := atI_nat (xs := as.map V.ref) (j := m.toNat) (v := .ref as[m.toNat]) (by rw [List.getElem?_map, List.getElem?_eq_getElem hm]; rfl)
  rw [e] at this; exact this
theorem rise_nodup {xs : List Int} (h : xs.Pairwise (· < ·)) : xs.Nodup := h.imp fun {a b} z e => by omega
section
variable {X : Cx} {K : PySem.W.Frag} {w : World}
theorem pe_tupleOfK {a : Expr} {ta : TE} {p pos : Pos} (h : X.K = K) (hg : Gl X "tuple") (hm : X.mg "tuple" = none) (ha : PE X a ta) (na : starEach [a] X.env = (false, eval a X.env) :: starEach [] X.env := by rfl) :
    PE X (.Call (.Name "tuple" p) [a] [] pos) (tThen ta (kTup K)) := h ▸ pe_tupleOf hg hm ha na
theorem cr_sortedSetW (h : X.w = w) (hc : X.calm = true) : CallR X (.builtin "sorted") (rSortedSet w) := h ▸ cr_sortedSet hc
theorem pe_sc2W {el ta ia t1 ib : Expr} {sco : Scope} {own : List (PySem.Str × Nat)} {vs1 : List Nat} {pp : Pos} {wi wi1 : TI} {g g1 : TG} {te : TE} (h : X.w = w) (hc : X.calm = true) (hN : X.N.Nodup) (hi : PI X ta ia wi) (ok : BlkOk X.N X.env.scope sco own) (hv : ∀ i ∈ vs1, i ∈ own.map (·.2))
    (hg : ∀ s H C cl fp, PG (X.blk s H sco (compEnvC sco cl C X.env) fp) ta g) (hi1 : ∀ s H C cl fp, PI (X.blk s H sco (compEnvC sco cl C X.env) fp) t1 ib wi1) (hg1 : ∀ s H C cl fp, PG (X.blk s H sco (compEnvC sco cl C X.env) fp) t1 g1)
    (he : ∀ s H C cl fp, PE (X.blk s H sco (compEnvC sco cl C X.env) fp) el te) (hs : ∀ x, foldedSetIterable ia X.env x = pure x := by intro _; rfl) (hs1 : ∀ env x, foldedSetIterable ib env x = pure x := by intro _ _; rfl) :
    PE X (.SetComp el [⟨ta, ia, [], 0⟩, ⟨t1, ib, [], 0⟩] sco pp) (tS2 w wi g wi1 g1 te (own.map (·.2)) vs1) := h ▸ pe_sc2 hc hN hi ok hv hg hi1 hg1 he hs hs1
end
/-- a loop over a tuple that its turns leave as it is -/
theorem it_tup {K : PySem.W.Frag} {a : Addr} {xs : List V} {H0 : Hp} {Fin : Hp → Prop} {Bd : V → Hp → (Hp → Prop) → Prop} (Pv : Nat → Hp → Prop) (h0 : Pv 0 H0) (hl : ∀ i H, i ≤ xs.length → Pv i H → SqT K H a xs)
    (hs : ∀ i x H, xs[i]? = some x → Pv i H → Bd x H (Pv (i + 1))) (hd : ∀ H, Pv xs.length H → Fin H) :
    ∃ W : Nat → Nat → Hp → Prop, (∃ m, W 0 m H0) ∧ ∀ i m H, W i m H → ((Itt K a).stop i H ∧ Fin H) ∨ ((Itt K a).go i H ∧ ∃ Nx : Hp → Prop, (∀ H', Nx H' → ∃ m', m' < m ∧ W (i + 1) m' H') ∧ ∀ x H', (Itt K a).yld i H x H' → Bd x H' Nx) := by
  refine ⟨fun i m H => i ≤ xs.length ∧ m + i = xs.length ∧ Pv i H, ⟨xs.length, Nat.zero_le _, rfl, h0⟩, fun i m H ⟨hi, hm, hp⟩ => ?_⟩
  have hq := hl i H hi hp
  rcases Nat.lt_or_ge i xs.length with z | z
  · refine .inr ⟨⟨xs, xs[i], hq, List.getElem?_eq_getElem z⟩, Pv (i + 1), fun H' p' => ⟨m - 1, by omega, z, by omega, p'⟩, fun x H' y => ?_⟩
    obtain ⟨rfl, y⟩ := y
    exact hs i x _ (y xs hq) hp
  · obtain rfl : i = xs.length := by omega
    exact .inl ⟨⟨xs, hq, Nat.le_refl _⟩, hd H hp⟩
/-- a set that has just these -/
def SetL (w : World) (H : Hp) (D : Addr) (ls : List Int) : Prop := ∃ S : Int → Bool, H D = some (SetO w D S ls.length) ∧ ls.Nodup ∧ ∀ k, S k = true ↔ k ∈ ls
theorem SetL.nil {w : World} {H : Hp} {D : Addr} : SetL w (upd H D (SetO w D (fun _ => false) 0)) D [] := ⟨_, upd_same, List.nodup_nil, fun k => by simp⟩
theorem SetL.add {w : World} {H : Hp} {D : Addr} {ls : List Int} (h : SetL w H D ls) (c : Int) (room : ls.length ≤ 1000) : ∃ (S : Int → Bool) (n : Nat), H D = some (SetO w D S n) ∧ n + 1 < scanBound ∧ ∃ ls', SetL w (upd H D (SetO w D (fun j => S j || decide (j = c)) (if S c = true then n else n + 1))) D ls' ∧ ∀ k, k ∈ ls' ↔ k ∈ ls ∨ k = c := by
  obtain ⟨S, h1, h2, h3⟩ := h
  refine ⟨S, ls.length, h1, by show ls.length + 1 < 4096; omega, ?_⟩
  by_cases e : S c = true
  · refine ⟨ls, ⟨_, by rw [upd_same, if_pos e], h2, fun k => ?_⟩, fun k => ⟨.inl, fun z => z.elim id fun z => by rw [z]; exact (h3 c).mp e⟩⟩
    rw [Bool.or_eq_true, h3, decide_eq_true_iff]
    exact ⟨fun z => z.elim id fun z => by rw [z]; exact (h3 c).mp e, .inl⟩
  · refine ⟨c :: ls, ⟨_, by rw [upd_same, if_neg e]; rfl, List.nodup_cons.mpr ⟨fun z => e ((h3 c).mpr z), h2⟩, fun k => ?_⟩, fun k => by rw [List.mem_cons, or_comm]⟩
    rw [Bool.or_eq_true, h3, decide_eq_true_iff, List.mem_cons, or_comm]
theorem SetL.same {w : World} {H H' : Hp} {D : Addr} {ls : List Int} (h : SetL w H D ls) (s : Same H H') : SetL w H' D ls := by
  obtain ⟨S, h1, h2⟩ := h
  exact ⟨S, s _ _ h1, h2⟩
theorem sqT_set {w : World} {K : PySem.W.Frag} {H : Hp} {D D' : Addr} {S : Int → Bool} {n : Nat} {o' : HO} (e : H D = some (SetO w D' S n)) {a : Addr} {xs : List V} (h : SqT K H a xs) : SqT K (upd H D o') a xs := by
  rcases h with (h | ⟨o, h⟩) | h
  · exact .inl (.inl (by rw [upd_ne (fun z => by rw [z, e] at h; cases h)]; exact h))
  · exact .inl (.inr ⟨o, by rw [upd_ne (fun z => by rw [z, e] at h; cases h)]; exact h⟩)
  · exact .inr h
end RV
set_option maxHeartbeats 4000000
/-! list(zip(s, t)) of two tuples -/
namespace RV
open PySem PySem.Spec PyProof.Rows L2
section
variable {prog : Program} {w : World} {A : Around} {E : Value → Shared → Prop} {s : Shared}
/-- the next pair, while the first one is still out -/
theorem zt_item {z TI TO T0 i1 i2 u1 u2 : Addr} {f : Bool} {ob : Obj} {j : Nat} {xs ys : Array Value} {x y : Value} {Q : Option Value → Shared → Prop} (D : ZipApart z TI TO i1 i2 u1 u2)
    (hz : IsZipHeld s.heap z TI TO T0 f) (h0 : s.heap.get? T0 = some ob) (hP : IsPair s.heap TI (.ref i1) (.ref i2)) (a1 : s.heap.IsTupleIter i1 u1 j) (a2 : s.heap.IsTupleIter i2 u2 j) (b1 : s.heap.IsTuple u1 xs) (b2 : s.heap.IsTuple u2 ys)
    (ex : xs[j]? = some x) (ey : ys[j]? = some y)
    (q : ∀ hh, IsZipHeld hh z TI TO T0 true → hh.IsTupleIter i1 u1 (j + 1) → hh.IsTupleIter i2 u2 (j + 1) → IsPair hh s.heap.objs.size x y → hh.objs.size = s.heap.objs.size + 1 → (∀ c o, c ≠ z → c ≠ i1 → c ≠ i2 → s.heap.get? c = some o → hh.get? c = some o) → Q (some (.ref s.heap.objs.size)) { s with heap := hh }) :
    wpAny (model prog w) A (pyNext (.ref z)) Q E s := by
  have tz : s.TypeIs (.ref z) "zip" := ⟨_, hz, rfl⟩
  unfold pyNext
  refine wpAny_bind (wpAny_attempt (wpAny_callSpecial?_slot (name := Str.ofString "__next__") tz F.slot_zip_next (wpAny_call_entry F.slot_zip_next tz F.entry_zip_next ?_ (F.args_zip_next_1 _))))
  show wpAny _ _ (field (.ref z) 2 >>= fun _ => _) _ _ s
  refine wpAny_bind (wpAny_field hz rfl (x := .bool false) rfl (wpAny_bind (wpAny_field hz rfl (x := .ref TI) rfl (wpAny_bind (wpAny_seqItems hP rfl (wpAny_bind (wpAny_tupleHeld_zip hz h0 fun g1 z1 k1 => ?_)))))))
  simp only [Bool.false_eq_true, if_false]
  refine wpAny_bind ?_
  rw [← Array.forIn_toList]; simp only [List.forIn_cons, List.forIn_nil]
  refine wpAny_bind (wpAny_bind (wpAny_holding (wpAny_bind (wpAny_nextOf_tuple_item (s := { s with heap := g1 }) (a1.extBut k1.extBut D.i1z) (b1.extBut k1.extBut D.l1z) ex fun g2 c1 k2 => wpAny_pure (wpAny_pure ?_)))))
  refine wpAny_bind (wpAny_bind (wpAny_holding (wpAny_bind (wpAny_nextOf_tuple_item (s := { s with heap := g2 }) ((a2.extBut k1.extBut D.i2z).extBut k2.extBut D.i12.symm) ((b2.extBut k1.extBut D.l2z).extBut k2.extBut D.l2i1) ey fun g3 c2 k3 => wpAny_pure (wpAny_pure (wpAny_pure ?_))))))
  show wpAny _ _ (newTuple [x, y] >>= fun _ => _) _ _ _
  refine wpAny_bind (wpAny_newTuple ?_)
  have ez : g3.objs.size = s.heap.objs.size := by rw [k3.1, k2.1, k1.1]
  have z3 : IsZipHeld g3 z TI TO T0 true := k3.extBut _ _ D.i2z.symm (k2.extBut _ _ D.i1z.symm z1)
  have c13 := c1.extBut k3.extBut D.i12
  have np : IsPair (g3.push { cls := .type "tuple", data := .seq #[x, y] }) g3.objs.size x y := Heap.get?_push_size _ rfl
  have nz : (g3.push { cls := .type "tuple", data := .seq #[x, y] }).objs.size = g3.objs.size + 1 := Heap.size_push ..
  refine wpAny_pure ⟨_, rfl, wpAny_pure ?_⟩
  show Q (some (.ref g3.objs.size)) _
  rw [ez] at np nz ⊢
  exact q _ (Heap.get?_push_of_some _ z3) (c13.at fun o e => Heap.get?_push_of_some _ e) (c2.at fun o e => Heap.get?_push_of_some _ e) np nz fun c o n1 n2 n3 e => Heap.get?_push_of_some _ (k3.extBut _ _ n3 (k2.extBut _ _ n2 (k1.extBut _ _ n1 e)))
theorem zt_end {z TI TO T0 i1 i2 u1 u2 : Addr} {f : Bool} {ob : Obj} {j : Nat} {xs ys : Array Value} {Q : Option Value → Shared → Prop} (hh : A.handled = none) (D : ZipApart z TI TO i1 i2 u1 u2)
    (hz : IsZipHeld s.heap z TI TO T0 f) (h0 : s.heap.get? T0 = some ob) (hP : IsPair s.heap TI (.ref i1) (.ref i2)) (a1 : s.heap.IsTupleIter i1 u1 j) (a2 : s.heap.IsTupleIter i2 u2 j) (b1 : s.heap.IsTuple u1 xs) (b2 : s.heap.IsTuple u2 ys)
    (no : xs[j]? = none ∨ ys[j]? = none) (q : ∀ hp, (∀ c o, c ≠ z → c ≠ i1 → c ≠ i2 → s.heap.get? c = some o → hp.get? c = some o) → Q none { s with heap := hp }) : wpAny (model prog w) A (pyNext (.ref z)) Q E s := by
  have tz : s.TypeIs (.ref z) "zip" := ⟨_, hz, rfl⟩
  unfold pyNext
  have fin : ∀ (hp : Heap) (e : Addr), (∀ c o, c ≠ z → c ≠ i1 → c ≠ i2 → s.heap.get? c = some o → hp.get? c = some o) → (∃ o, hp.get? e = some o ∧ o.cls = .type "StopIteration") →
      wpAny (model prog w) A (do if ← isInstance (.ref e) (.type "StopIteration") then pure none else throw (.ref e)) Q E { s with heap := hp } := fun hp e k ⟨o, ho, hc⟩ => by
    refine wpAny_bind (wpAny_isInstance (T := "StopIteration") (b := true) ⟨o, ho, hc⟩ isSubtype_stop ?_)
    exact wpAny_pure (q _ k)
  refine wpAny_bind (wpAny_attempt (wpAny_callSpecial?_slot (name := Str.ofString "__next__") tz F.slot_zip_next (wpAny_call_entry F.slot_zip_next tz F.entry_zip_next ?_ (F.args_zip_next_1 _))))
  show wpAny _ _ (field (.ref z) 2 >>= fun _ => _) _ _ s
  refine wpAny_bind (wpAny_field hz rfl (x := .bool false) rfl (wpAny_bind (wpAny_field hz rfl (x := .ref TI) rfl (wpAny_bind (wpAny_seqItems hP rfl (wpAny_bind (wpAny_tupleHeld_zip hz h0 fun g1 z1 k1 => ?_)))))))
  simp only [Bool.false_eq_true, if_false]
  refine wpAny_bind ?_
  rw [← Array.forIn_toList]; simp only [List.forIn_cons, List.forIn_nil]
  refine wpAny_bind (wpAny_bind (wpAny_holding ?_))
  cases ex : xs[j]? with
  | none => exact wpAny_bind (wpAny_nextOf_tuple_end (s := { s with heap := g1 }) hh (a1.extBut k1.extBut D.i1z) (b1.extBut k1.extBut D.l1z) ex fun g2 e k2 he => fin g2 e (fun c o n1 n2 _ y => k2 _ _ n2 (k1.extBut _ _ n1 y)) he)
  | some x =>
    have ey : ys[j]? = none := by
      rcases no with n | n
      · rw [ex] at n; cases n
      · exact n
    refine wpAny_bind (wpAny_nextOf_tuple_item (s := { s with heap := g1 }) (a1.extBut k1.extBut D.i1z) (b1.extBut k1.extBut D.l1z) ex fun g2 c1 k2 => wpAny_pure (wpAny_pure (wpAny_bind (wpAny_bind (wpAny_holding ?_)))))
    exact wpAny_bind (wpAny_nextOf_tuple_end (s := { s with heap := g2 }) hh ((a2.extBut k1.extBut D.i2z).extBut k2.extBut D.i12.symm) ((b2.extBut k1.extBut D.l2z).extBut k2.extBut D.l2i1) ey fun g3 e k3 he => fin g3 e (fun c o n1 n2 n3 y => k3 _ _ n3 (k2.extBut _ _ n2 (k1.extBut _ _ n1 y))) he)
/-- where the walk stands behind j pairs -/
structure ZSt (h : Heap) (z TI TO i1 i2 u1 u2 S : Addr) (j : Nat) : Prop where
  pr : IsPair h TI (.ref i1) (.ref i2)
  a1 : h.IsTupleIter i1 u1 j
  a2 : h.IsTupleIter i2 u2 j
  st : (j = 0 ∧ IsZip h z TI TO .none ∧ ∃ a b, IsPair h TO a b) ∨ ∃ T0 f ob, IsZipHeld h z TI TO T0 f ∧ h.get? T0 = some ob ∧ T0 ≠ z ∧ T0 ≠ i1 ∧ T0 ≠ i2 ∧ T0 ≠ S
theorem ZSt.keep {h h' : Heap} {z TI TO i1 i2 u1 u2 S : Addr} {j : Nat} (x : ZSt h z TI TO i1 i2 u1 u2 S j) (k : ∀ b o, b ≠ S → h.get? b = some o → h'.get? b = some o) (n1 : z ≠ S) (n2 : TI ≠ S) (n3 : TO ≠ S) (n4 : i1 ≠ S) (n5 : i2 ≠ S) : ZSt h' z TI TO i1 i2 u1 u2 S j := by
  obtain ⟨p, a1, a2, st⟩ := x
  refine ⟨k _ _ n2 p, a1.at fun o e => k _ _ n4 e, a2.at fun o e => k _ _ n5 e, ?_⟩
  rcases st with ⟨e, hz, a, b, ho⟩ | ⟨T0, f, ob, hz, h0, m1, m2, m3, m4⟩
  · exact .inl ⟨e, k _ _ n1 hz, a, b, k _ _ n3 ho⟩
  · exact .inr ⟨T0, f, ob, k _ _ n1 hz, k _ _ m4 h0, m1, m2, m3, m4⟩
theorem zs_item {z TI TO i1 i2 u1 u2 S : Addr} {j : Nat} {xs ys : Array Value} {x y : Value} {Q : Option Value → Shared → Prop} (D : ZipApart z TI TO i1 i2 u1 u2) (x0 : ZSt s.heap z TI TO i1 i2 u1 u2 S j) (hS : S < s.heap.objs.size) (b1 : s.heap.IsTuple u1 xs) (b2 : s.heap.IsTuple u2 ys) (ex : xs[j]? = some x) (ey : ys[j]? = some y)
    (q : ∀ hh, ZSt hh z TI TO i1 i2 u1 u2 S (j + 1) → IsPair hh s.heap.objs.size x y → (∀ c o, c ≠ z → c ≠ TO → c ≠ i1 → c ≠ i2 → s.heap.get? c = some o → hh.get? c = some o) → Q (some (.ref s.heap.objs.size)) { s with heap := hh }) : wpAny (model prog w) A (pyNext (.ref z)) Q E s := by
  obtain ⟨p, a1, a2, st⟩ := x0
  have lt : ∀ {c o}, s.heap.get? c = some o → s.heap.objs.size ≠ c := fun e => Nat.ne_of_gt (Heap.lt_size e)
  have l1 : s.heap.objs.size ≠ i1 := by obtain ⟨_, e, _⟩ := a1; exact lt e
  have l2 : s.heap.objs.size ≠ i2 := by obtain ⟨_, e, _⟩ := a2; exact lt e
  rcases st with ⟨e, hz, a, b, ho⟩ | ⟨T0, f, ob, hz, h0, m1, m2, m3, m4⟩
  · exact RZ.pyNext_zipT_item D hz p ho a1 a2 b1 b2 ex ey fun hh z' o' c1 c2 np nz k => q hh ⟨k _ _ D.TIz D.TITO D.TIi1 D.TIi2 p, c1, c2, .inr ⟨s.heap.objs.size, false, _, z', np, lt hz, l1, l2, Nat.ne_of_gt hS⟩⟩ np k
  · exact zt_item D hz h0 p a1 a2 b1 b2 ex ey fun hh z' c1 c2 np nz k => q hh ⟨k _ _ D.TIz D.TIi1 D.TIi2 p, c1, c2, .inr ⟨T0, true, ob, z', k _ _ m1 m2 m3 h0, m1, m2, m3, m4⟩⟩ np fun c o n1 _ n3 n4 e => k c o n1 n3 n4 e
theorem zs_end {z TI TO i1 i2 u1 u2 S : Addr} {j : Nat} {xs ys : Array Value} {Q : Option Value → Shared → Prop} (hh : A.handled = none) (D : ZipApart z TI TO i1 i2 u1 u2) (x0 : ZSt s.heap z TI TO i1 i2 u1 u2 S j) (b1 : s.heap.IsTuple u1 xs) (b2 : s.heap.IsTuple u2 ys) (no : xs[j]? = none ∨ ys[j]? = none)
    (q : ∀ hp, (∀ c o, c ≠ z → c ≠ TO → c ≠ i1 → c ≠ i2 → s.heap.get? c = some o → hp.get? c = some o) → Q none { s with heap := hp }) : wpAny (model prog w) A (pyNext (.ref z)) Q E s := by
  obtain ⟨p, a1, a2, st⟩ := x0
  rcases st with ⟨e, hz, a, b, ho⟩ | ⟨T0, f, ob, hz, h0, m1, m2, m3, m4⟩
  · exact RZ.pyNext_zipT_end hh D hz p ho a1 a2 b1 b2 no q
  · exact zt_end hh D hz h0 p a1 a2 b1 b2 no fun hp k => q hp fun c o n1 _ n3 n4 e => k c o n1 n3 n4 e
/-- the tuples told so far -/
structure ZG (xs ys : Array Value) (lo : Addr) (h : Heap) (as : List Addr) : Prop where
  up : as.Pairwise (· < ·)
  hi : ∀ a ∈ as, lo < a
  at_ : ∀ (j : Nat) (a : Addr), as[j]? = some a → ∃ x y, xs[j]? = some x ∧ ys[j]? = some y ∧ IsPair h a x y
theorem ZG.lt {xs ys : Array Value} {lo : Addr} {h : Heap} {as : List Addr} (g : ZG xs ys lo h as) {a : Addr} (ha : a ∈ as) : a < h.objs.size := by
  obtain ⟨j, hj⟩ := List.mem_iff_getElem?.mp ha
  obtain ⟨_, _, _, _, e⟩ := g.at_ j a hj
  exact Heap.lt_size e
theorem zs_loop {R : Result → Shared → Prop} {z TI TO i1 i2 u1 u2 S : Addr} {xs ys : Array Value} (hh : A.handled = none) (D : ZipApart z TI TO i1 i2 u1 u2) (n1 : z < S) (n2 : TI < S) (n3 : TO < S) (n4 : i1 < S) (n5 : i2 < S) (n6 : u1 < S) (n7 : u2 < S) (hn : min xs.size ys.size ≤ sizeLine) (res : Value) {h1 : Heap}
    (q : ∀ h' tk acc c as, (∀ b o, b ≠ S → b ≠ z → b ≠ TO → b ≠ i1 → b ≠ i2 → h1.get? b = some o → h'.get? b = some o) → h'.get? S = some { cls := .type "list", dict := none, data := .seq acc c, slots := #[] } → as.length = min xs.size ys.size → ZG xs ys S h' as → acc.toList = as.map Value.ref → R (.ok (.ret res)) { s with heap := h', toks := tk }) :
    ∀ (k j : Nat) (h : Heap) (tk c : Nat) (acc : Array Value) (as : List Addr), min xs.size ys.size - j = k → j ≤ min xs.size ys.size → ZSt h z TI TO i1 i2 u1 u2 S j → h.IsTuple u1 xs → h.IsTuple u2 ys → (∀ b o, b ≠ S → b ≠ z → b ≠ TO → b ≠ i1 → b ≠ i2 → h1.get? b = some o → h.get? b = some o) →
      h.get? S = some { cls := .type "list", dict := none, data := .seq acc c, slots := #[] } → acc.toList = as.map Value.ref → as.length = j → ZG xs ys S h as → codeAny (model prog w) A (.builtin "list.extend.loop" ⟨[.ref S, .ref z, res], []⟩) R { s with heap := h, toks := tk } := by
  intro k
  induction k with
  | zero =>
    intro j h tk c acc as hk hj x0 b1 b2 kp hS ea la g
    refine codeAny_builtin PySem.F.entry_extend_loop ?_
    rw [Around.under_plainId PySem.F.plain_extend_loop _]
    show wpAny _ A.in1 (pyNext (.ref z) >>= fun _ => _) _ _ _
    have no : xs[j]? = none ∨ ys[j]? = none := by
      by_cases e : xs.size ≤ j
      · exact .inl (by simp; omega)
      · exact .inr (by simp; omega)
    refine wpAny_bind (zs_end (s := { s with heap := h, toks := tk }) (A := A.in1) hh D x0 b1 b2 no fun hp k2 => ?_)
    have up : ∀ b o, S ≤ b → h.get? b = some o → hp.get? b = some o := fun b o lb e => k2 b o (Nat.ne_of_gt (Nat.lt_of_lt_of_le n1 lb)) (Nat.ne_of_gt (Nat.lt_of_lt_of_le n3 lb)) (Nat.ne_of_gt (Nat.lt_of_lt_of_le n4 lb)) (Nat.ne_of_gt (Nat.lt_of_lt_of_le n5 lb)) e
    refine wpAny_pure (q hp tk acc c as (fun b o m0 m1 m2 m3 m4 e => k2 b o m1 m2 m3 m4 (kp b o m0 m1 m2 m3 m4 e)) (up S _ (Nat.le_refl _) hS) (by omega) ⟨g.up, g.hi, fun i a hi => ?_⟩ ea)
    obtain ⟨x, y, e1, e2, e3⟩ := g.at_ i a hi
    exact ⟨x, y, e1, e2, up a _ (Nat.le_of_lt (g.hi a (List.mem_of_getElem? hi))) e3⟩
  | succ k ih =>
    intro j h tk c acc as hk hj x0 b1 b2 kp hS ea la g
    have hlt : j < min xs.size ys.size := by omega
    have ex : xs[j]? = some (xs[j]'(by omega)) := Array.getElem?_eq_getElem _
    have ey : ys[j]? = some (ys[j]'(by omega)) := Array.getElem?_eq_getElem _
    have sz : acc.size = j := by rw [← Array.length_toList, ea, List.length_map, la]
    refine codeAny_builtin PySem.F.entry_extend_loop ?_
    rw [Around.under_plainId PySem.F.plain_extend_loop _]
    show wpAny _ A.in1 (pyNext (.ref z) >>= fun _ => _) _ _ _
    refine wpAny_bind (zs_item (s := { s with heap := h, toks := tk }) D x0 (Heap.lt_size hS) b1 b2 ex ey fun hp x1 np k2 => ?_)
    have hSl : S < h.objs.size := Heap.lt_size hS
    have ge : ∀ b o, S ≤ b → h.get? b = some o → hp.get? b = some o := fun b o lb e => k2 b o (Nat.ne_of_gt (Nat.lt_of_lt_of_le n1 lb)) (Nat.ne_of_gt (Nat.lt_of_lt_of_le n3 lb)) (Nat.ne_of_gt (Nat.lt_of_lt_of_le n4 lb)) (Nat.ne_of_gt (Nat.lt_of_lt_of_le n5 lb)) e
    have hS' := ge S _ (Nat.le_refl _) hS
    replace np : IsPair hp h.objs.size _ _ := np
    have up : ∀ b o, b ≠ S → hp.get? b = some o → (hp.update S (Obj.mapSeq (·.push (Value.ref h.objs.size)))).get? b = some o := fun b o hb e => (Heap.get?_update_other _ _ (Ne.symm hb)).trans e
    have ut : ∀ {u : Addr} {vs : Array Value}, u < S → u ≠ z → u ≠ TO → u ≠ i1 → u ≠ i2 → h.IsTuple u vs → (hp.update S (Obj.mapSeq (·.push (Value.ref h.objs.size)))).IsTuple u vs := fun {u vs} lu m1 m2 m3 m4 ⟨o, e, r⟩ => ⟨o, up u o (Nat.ne_of_lt lu) (k2 u o m1 m2 m3 m4 e), r⟩
    show wpAny _ A.in1 (updateSeq S (·.push (Value.ref h.objs.size)) >>= fun _ => _) _ _ _
    refine wpAny_bind ?_
    refine wpAny_updateSeq hS' rfl (wpAny_pure ⟨plainId_quiet PySem.F.plain_extend_loop _, ih (j + 1) _ tk _ (acc.push (Value.ref h.objs.size)) (as ++ [h.objs.size]) (by omega) hlt (x1.keep up (Nat.ne_of_lt n1) (Nat.ne_of_lt n2) (Nat.ne_of_lt n3) (Nat.ne_of_lt n4) (Nat.ne_of_lt n5)) (ut n6 D.l1z D.l1TO D.l1i1 D.l1i2 b1) (ut n7 D.l2z D.l2TO D.l2i1 D.l2i2 b2)
      (fun b o m0 m1 m2 m3 m4 e => up b o m0 (k2 b o m1 m2 m3 m4 (kp b o m0 m1 m2 m3 m4 e))) (Heap.get?_update_self _ hS' rfl) (by rw [Array.toList_push, ea, List.map_append]; rfl) (by rw [List.length_append, la]; rfl) ⟨?_, ?_, ?_⟩⟩) (by rw [sz]; omega) (by show (acc.push (Value.ref h.objs.size)).size ≤ sizeLine + 1; rw [Array.size_push, sz]; omega)
    · refine List.pairwise_append.mpr ⟨g.up, List.pairwise_singleton _ _, fun a ha b hb => ?_⟩
      rw [List.mem_singleton.mp hb]; exact g.lt ha
    · intro a ha
      rcases List.mem_append.mp ha with y | y
      · exact g.hi a y
      · rw [List.mem_singleton.mp y]; exact hSl
    · intro i b hi
      by_cases e : i < as.length
      · rw [List.getElem?_append_left e] at hi
        obtain ⟨x, y, e1, e2, e3⟩ := g.at_ i b hi
        have lb := g.hi b (List.mem_of_getElem? hi)
        exact ⟨x, y, e1, e2, up b _ (Nat.ne_of_gt lb) (ge b _ (Nat.le_of_lt lb) e3)⟩
      · have hl := (List.getElem?_eq_some_iff.mp hi).1
        rw [List.length_append] at hl
        have ei : i = as.length := by
          have : [h.objs.size].length = 1 := rfl
          omega
        subst ei
        rw [List.getElem?_append_right (Nat.le_refl _), Nat.sub_self] at hi
        have eb : h.objs.size = b := Option.some.inj hi
        subst eb
        exact ⟨_, _, by rw [la]; exact ex, by rw [la]; exact ey, up _ _ (Nat.ne_of_gt hSl) np⟩
theorem zip_nolen : typeLookup (.type "zip") "__len__" = pure none := am_miss_of_fast (by decide +kernel)
theorem zip_nohint : typeLookup (.type "zip") "__length_hint__" = pure none := am_miss_of_fast (by decide +kernel)
theorem zs_extend {R : Result → Shared → Prop} {z TI TO i1 i2 u1 u2 S : Addr} {xs ys : Array Value} (hh : A.handled = none) (D : ZipApart z TI TO i1 i2 u1 u2) (x0 : ZSt s.heap z TI TO i1 i2 u1 u2 S 0) (hz : IsZip s.heap z TI TO .none) (b1 : s.heap.IsTuple u1 xs) (b2 : s.heap.IsTuple u2 ys) (n1 : z < S) (n2 : TI < S) (n3 : TO < S) (n4 : i1 < S) (n5 : i2 < S) (n6 : u1 < S) (n7 : u2 < S) (hn : min xs.size ys.size ≤ sizeLine) (res : Value) (c0 : Nat) (hS : s.heap.get? S = some { cls := .type "list", data := .seq #[] c0 })
    (q : ∀ h' tk acc c as, (∀ b o, b ≠ S → b ≠ z → b ≠ TO → b ≠ i1 → b ≠ i2 → s.heap.get? b = some o → h'.get? b = some o) → h'.get? S = some { cls := .type "list", dict := none, data := .seq acc c, slots := #[] } → as.length = min xs.size ys.size → ZG xs ys S h' as → acc.toList = as.map Value.ref → R (.ok (.ret res)) { s with heap := h', toks := tk }) :
    wpAny (model prog w) A.in1 (Builtin.List.listExtendWith (.ref S) (.ref z) res)
      (fun fin s' => match fin with | .done f => R (.ok f) s' | .again c' => c'.quiet = true ∧ codeAny (model prog w) A c' R s') (fun e s' => R (.error e) s') s := by
  have tz : s.TypeIs (.ref z) "zip" := ⟨_, hz, rfl⟩
  have key : ∀ (h : Heap) (c1 : Nat), (∀ b o, b ≠ S → s.heap.get? b = some o → h.get? b = some o) → h.get? S = some { cls := .type "list", data := .seq #[] c1 } → codeAny (model prog w) A (.builtin "list.extend.loop" ⟨[.ref S, .ref z, res], []⟩) R { s with heap := h, toks := s.toks } := fun h c1 k hS1 =>
    zs_loop (s := s) (h1 := s.heap) hh D n1 n2 n3 n4 n5 n6 n7 hn res q (min xs.size ys.size) 0 h s.toks c1 #[] [] (Nat.sub_zero _) (Nat.zero_le _) (x0.keep k (Nat.ne_of_lt n1) (Nat.ne_of_lt n2) (Nat.ne_of_lt n3) (Nat.ne_of_lt n4) (Nat.ne_of_lt n5))
      (let ⟨o, e, r⟩ := b1; ⟨o, k _ _ (Nat.ne_of_lt n6) e, r⟩) (let ⟨o, e, r⟩ := b2; ⟨o, k _ _ (Nat.ne_of_lt n7) e, r⟩) (fun b o m0 _ _ _ _ e => k b o m0 e) hS1 rfl rfl ⟨List.Pairwise.nil, (fun _ ha => nomatch ha), (fun j a hj => by simp at hj)⟩
  unfold Builtin.List.listExtendWith
  refine wpAny_bind (wpAny_typeOf (T := "zip") tz ?_)
  have e1 : Builtin.List.listSameRef (.ref S) (.ref z) = false := by simp [Builtin.List.listSameRef, Nat.ne_of_gt n1]
  have e2 : (Value.type "zip" == Value.type "list") = false := by decide
  have e3 : (Value.type "zip" == Value.type "tuple") = false := by decide
  simp only [e1, e2, e3, Bool.or_false, Bool.false_eq_true, if_false]
  refine wpAny_bind (wpAny_pyIter_zip hz (wpAny_bind (wpAny_holding ?_)))
  unfold Builtin.List.listLengthHint
  refine wpAny_bind (wpAny_specialOf tz zip_nolen ?_)
  show wpAny _ A.in1 (specialOf (Value.ref z) (Str.ofString "__length_hint__") >>= fun _ => _) _ _ _
  refine wpAny_bind (wpAny_specialOf tz zip_nohint (wpAny_pure ?_))
  show wpAny _ A.in1 (rule "list.extend.makes-room" >>= fun _ => Builtin.List.listTouch (.ref S) >>= fun _ => again (.builtin "list.extend.loop" ⟨[.ref S, .ref z, res], []⟩)) _ _ _
  refine wpAny_bind (wpAny_rule (wpAny_bind ?_))
  show wpAny _ _ (updateSeq S (·.push .none) >>= fun _ => updateSeq S (·.pop)) _ _ _
  refine wpAny_bind (wpAny_updateSeq hS rfl ?_)
  have g2 := Heap.get?_update_self (Obj.mapSeq (·.push Value.none)) hS rfl
  refine wpAny_updateSeq (hz := by seq_fits) g2 rfl ?_
  have g3 := Heap.get?_update_self (Obj.mapSeq (·.pop)) g2 rfl
  refine wpAny_pure ⟨plainId_quiet PySem.F.plain_extend_loop _, key _ _ (fun b o hb e => ?_) g3⟩
  exact (Heap.get?_update_other _ _ (Ne.symm hb)).trans ((Heap.get?_update_other _ _ (Ne.symm hb)).trans e)
theorem ZG.low {xs ys : Array Value} {lo lo' : Addr} {h : Heap} {as : List Addr} (g : ZG xs ys lo h as) (l : lo' ≤ lo) : ZG xs ys lo' h as := ⟨g.up, fun a ha => Nat.lt_of_le_of_lt l (g.hi a ha), g.at_⟩
theorem zs_call {z TI TO i1 i2 u1 u2 : Addr} {xs ys : Array Value} {Q : Value → Shared → Prop} (hh : A.handled = none) (D : ZipApart z TI TO i1 i2 u1 u2) (hz : IsZip s.heap z TI TO .none) (hP : IsPair s.heap TI (.ref i1) (.ref i2)) (hO : ∃ a b, IsPair s.heap TO a b) (a1 : s.heap.IsTupleIter i1 u1 0) (a2 : s.heap.IsTupleIter i2 u2 0) (b1 : s.heap.IsTuple u1 xs) (b2 : s.heap.IsTuple u2 ys) (hn : min xs.size ys.size ≤ sizeLine)
    (q : ∀ h' tk acc c as, (∀ b o, b ≠ z → b ≠ TO → b ≠ i1 → b ≠ i2 → s.heap.get? b = some o → h'.get? b = some o) → h'.get? s.heap.objs.size = some { cls := .type "list", dict := none, data := .seq acc c, slots := #[] } → as.length = min xs.size ys.size → ZG xs ys s.heap.objs.size h' as → acc.toList = as.map Value.ref → Q (.ref s.heap.objs.size) { s with heap := h', toks := tk }) :
    wpAny (model prog w) A (call (.type "list") [.ref z]) Q E s := by
  refine callType_codes (Q₁ := fun obj s₁ => obj = .ref s.heap.objs.size ∧ s₁ = { s with heap := s.heap.push { cls := .type "list", data := .seq #[] } }) PySem.F.called_list (PySem.F.typeCall_list_1 _) PySem.F.entry_list_init (code_list_new _ ⟨rfl, rfl⟩) fun obj s₁ h₁ => ?_
  obtain ⟨rfl, rfl⟩ := h₁
  have hS : (s.heap.push { cls := .type "list", data := .seq #[] }).get? s.heap.objs.size = some { cls := .type "list", data := .seq #[] } := Heap.get?_push_size _ rfl
  refine ⟨⟨_, hS, rfl⟩, PySem.F.args_list_init_2 _ _, ?_⟩
  show wpAny _ A.in1.in1 (do let old ← Builtin.List.listItems (.ref s.heap.objs.size); Builtin.List.listUpdate (.ref s.heap.objs.size) (fun _ => #[]); letGo old.toList.reverse; Builtin.List.listExtendWith (.ref s.heap.objs.size) (.ref z) .none) _ _ _
  refine wpAny_bind ?_
  unfold Builtin.List.listItems
  refine wpAny_bind (wpAny_seqItems hS rfl (wpAny_pure ?_))
  show wpAny _ _ (updateSeq s.heap.objs.size (fun _ => #[]) >>= fun _ => letGo (#[] : Array Value).toList.reverse >>= fun _ => Builtin.List.listExtendWith (.ref s.heap.objs.size) (.ref z) .none) _ _ _
  refine wpAny_bind (wpAny_updateSeq hS rfl ?_)
  have g2 := Heap.get?_update_self (Obj.mapSeq (fun _ => (#[] : Array Value))) hS rfl
  have oth : ∀ b o, s.heap.get? b = some o → ((s.heap.push { cls := .type "list", data := .seq #[] }).update s.heap.objs.size (Obj.mapSeq (fun _ => (#[] : Array Value)))).get? b = some o :=
    fun b o e => (Heap.get?_update_other _ _ (Nat.ne_of_gt (Heap.lt_size e))).trans (Heap.get?_push_of_some _ e)
  refine wpAny_bind (wpAny_letGo ?_)
  obtain ⟨oa, ob, hO⟩ := hO
  have l1 : i1 < s.heap.objs.size := by obtain ⟨_, e, _⟩ := a1; exact Heap.lt_size e
  have l2 : i2 < s.heap.objs.size := by obtain ⟨_, e, _⟩ := a2; exact Heap.lt_size e
  have l3 : u1 < s.heap.objs.size := by obtain ⟨_, e, _⟩ := b1; exact Heap.lt_size e
  have l4 : u2 < s.heap.objs.size := by obtain ⟨_, e, _⟩ := b2; exact Heap.lt_size e
  have key := zs_extend (prog := prog) (w := w) (A := A.in1) (s := { s with heap := (s.heap.push { cls := .type "list", data := .seq #[] }).update s.heap.objs.size (Obj.mapSeq (fun _ => (#[] : Array Value))) }) (R := wants (fun v s' => v = .none ∧ Q (.ref s.heap.objs.size) s') E) hh D
    ⟨oth _ _ hP, a1.at fun o e => oth _ _ e, a2.at fun o e => oth _ _ e, .inl ⟨rfl, oth _ _ hz, oa, ob, oth _ _ hO⟩⟩ (oth _ _ hz) (let ⟨o, e, r⟩ := b1; ⟨o, oth _ _ e, r⟩) (let ⟨o, e, r⟩ := b2; ⟨o, oth _ _ e, r⟩) (Heap.lt_size hz) (Heap.lt_size hP) (Heap.lt_size hO) l1 l2 l3 l4 hn .none _ g2
    (fun h' tk acc c as k hS' la g ea => ⟨rfl, q h' tk acc c as (fun b o m1 m2 m3 m4 e => k b o (Nat.ne_of_lt (Heap.lt_size e)) m1 m2 m3 m4 (oth b o e)) hS' la g ea⟩)
  exact key
end
theorem lookup_zip {β : Type} : ∀ {as : List Addr} {ps : List β}, as.Nodup → ∀ {j : Nat} {a : Addr} {p : β}, as[j]? = some a → ps[j]? = some p → (as.zip ps).lookup a = some p
  | [], _, _, j, a, p, h, _ => by simp at h
  | _ :: _, [], _, j, a, p, _, h => by simp at h
  | b :: as, r :: ps, nd, 0, a, p, h1, h2 => by
    have e1 : b = a := Option.some.inj h1
    have e2 : r = p := Option.some.inj h2
    subst e1 e2
    simp [List.lookup]
  | b :: as, r :: ps, nd, j + 1, a, p, h1, h2 => by
    have h1' : as[j]? = some a := h1
    have hn := List.nodup_cons.mp nd
    have ne : (a == b) = false := by
      rw [beq_eq_false_iff_ne]
      intro e
      exact hn.1 (e ▸ List.mem_of_getElem? h1')
    show ((b, r) :: as.zip ps).lookup a = some p
    rw [List.lookup_cons, ne]
    exact lookup_zip hn.2 h1' h2
theorem lookup_not {β : Type} : ∀ {as : List Addr} {ps : List β} {a : Addr}, a ∉ as → (as.zip ps).lookup a = none
  | [], _, _, _ => by simp
  | _ :: _, [], _, _ => by simp
  | b :: as, r :: ps, a, h => by
    have ne : (a == b) = false := by
      rw [beq_eq_false_iff_ne]
      intro e
      exact h (by rw [e]; exact List.mem_cons_self ..)
    show ((b, r) :: as.zip ps).lookup a = none
    rw [List.lookup_cons, ne]
    exact lookup_not fun z => h (List.mem_cons_of_mem _ z)
def putZ (H : Hp) (S : Addr) (as : List Addr) (ps : List (V × V)) : Hp := fun b => if b = S then some (.lst (as.map V.ref)) else match (as.zip ps).lookup b with
  | some p => some (.tup [p.1, p.2])
  | none => H b
def tListZip (K : PySem.W.Frag) (ta : TA) : TE := fun σ H Q => ta σ H fun vs H1 => ∃ a b xs ys, vs = [.ref a, .ref b] ∧ SqT K H1 a xs ∧ SqT K H1 b ys ∧
  ∀ (H' : Hp) (p : Addr) (ts : List Addr), Same H1 H' → H1 p = none → H' p = some (.lst (ts.map V.ref)) → ts.length = min xs.length ys.length → (∀ (j : Nat) (t : Addr), ts[j]? = some t → ∃ x y, xs[j]? = some x ∧ ys[j]? = some y ∧ H' t = some (.tup [x, y])) → Q (.ref p) H'
section
variable {X : Cx} {e e2 : Expr} {ta : TA} {p p2 pos pos2 : Pos}
/-- list(zip(s, t)) -/
theorem pe_listZip (hc : X.calm = true) (hg : Gl X "list") (hm : X.mg "list" = none) (hg2 : Gl X "zip") (hm2 : X.mg "zip" = none) (ha : PA X [e, e2] ta)
    (hs : starEach [.Call (.Name "zip" p2) [e, e2] [] pos2] X.env = (false, eval (.Call (.Name "zip" p2) [e, e2] [] pos2) X.env) :: starEach [] X.env := by rfl)
    (hs2 : starEach [e, e2] X.env = (false, eval e X.env) :: starEach [e2] X.env := by rfl) (hpl : (backTo pos2 (starEach [e2] X.env)).any (·.1) = false := by rfl) :
    PE X (.Call (.Name "list" p) [.Call (.Name "zip" p2) [e, e2] [] pos2] [] pos) (tListZip X.K ta) := by
  refine ⟨fun pins s σ H Q I hq => ?_⟩
  refine wpAny_Call_Name_kw (ld_blt I hg hm boot_list (PyProof.Rows.callWith_type1 ?_ hs rfl))
  rw [hs]
  refine Calls.spliced_cons (Call_ (ld_blt I hg2 hm2 PyProof.Rows.boot_zip (PyProof.Rows.callWith_type1 (thn (ha.run pos2 pins s σ H _ I hq) fun us s1 ⟨vs, H1, I1, r1, q1⟩ => ?_) hs2 hpl)))
  obtain ⟨a, b, xs, ys, ex, hx, hy, q⟩ := q1
  subst ex
  obtain ⟨v1, v2, rfl, r2, r3⟩ := vals2 r1
  cases r2
  cases r3
  obtain ⟨its, rv, t1, z1⟩ := I1.tuple hx
  obtain ⟨its2, rv2, t2, z2⟩ := I1.tuple hy
  obtain ⟨o1, ho1, _⟩ := id t1
  obtain ⟨o2, ho2, _⟩ := id t2
  have l1 := rv.length
  have l2 := rv2.length
  refine RZ.call_zipT (show s1.heap.IsTuple a its.toArray from t1) (show s1.heap.IsTuple b its2.toArray from t2) fun h1 hz hP hO i1 i2 hsz hk => Calls.spliced_nil ?_
  have D := PySem.W.ktu_apart s1.heap.objs.size a b (Heap.lt_size ho1) (Heap.lt_size ho2)
  refine zs_call (s := { s1 with heap := h1 }) (I1.ok.hd hc) D hz hP ⟨_, _, hO⟩ i1 i2 (let ⟨o, e, r⟩ := t1; ⟨o, hk _ _ e, r⟩) (let ⟨o, e, r⟩ := t2; ⟨o, hk _ _ e, r⟩) (by rw [List.size_toArray, List.size_toArray]; omega) fun h' tk acc c as k hS la g ea => ?_
  dsimp only at k hS g ⊢
  rw [List.size_toArray, List.size_toArray, ← l1, ← l2] at la
  have kp : ∀ b o, s1.heap.get? b = some o → h'.get? b = some o := fun b o e => by
    have lb := Heap.lt_size e
    exact k b o (Nat.ne_of_lt (Nat.lt_of_lt_of_le lb (Nat.le_add_right _ _))) (Nat.ne_of_lt (Nat.lt_of_lt_of_le lb (Nat.le_add_right _ _))) (Nat.ne_of_lt lb) (Nat.ne_of_lt (Nat.lt_succ_of_lt lb)) (hk b o e)
  have sz5 : s1.heap.objs.size ≤ h1.objs.size := by rw [hsz]; exact Nat.le_add_right _ _
  have ab : ∀ t ∈ as, s1.heap.objs.size ≤ t := fun t ht => Nat.le_of_lt (Nat.lt_of_le_of_lt sz5 (g.hi t ht))
  have nd : as.Nodup := List.Pairwise.imp (fun {a b} (h : a < b) => Nat.ne_of_lt h) g.up
  have new : ∀ t, s1.heap.objs.size ≤ t → H1 t = none := fun t ht => I1.hok.fresh ht
  have hSn : h1.objs.size ∉ as := fun z => Nat.lt_irrefl _ (g.hi _ z)
  have atH : ∀ (j : Nat) (t : Addr), as[j]? = some t → ∃ x y, xs[j]? = some x ∧ ys[j]? = some y ∧ putZ H1 h1.objs.size as (xs.zip ys) t = some (.tup [x, y]) ∧ ∃ u v, RelV x u ∧ RelV y v ∧ IsPair h' t u v := fun j t hj => by
    have hjl := (List.getElem?_eq_some_iff.mp hj).1
    obtain ⟨u, v, e1, e2, e3⟩ := g.at_ j t hj
    have ex : xs[j]? = some (xs[j]'(by omega)) := List.getElem?_eq_getElem _
    have ey : ys[j]? = some (ys[j]'(by omega)) := List.getElem?_eq_getElem _
    obtain ⟨u', hu', ru⟩ := rv.get ex
    obtain ⟨v', hv', rv'⟩ := rv2.get ey
    have eu : u' = u := by
      have z : its[j]? = some u := by simpa using e1
      rw [hu'] at z; exact Option.some.inj z
    have ev : v' = v := by
      have z : its2[j]? = some v := by simpa using e2
      rw [hv'] at z; exact Option.some.inj z
    subst eu ev
    refine ⟨_, _, ex, ey, ?_, u', v', ru, rv', e3⟩
    have ez : (xs.zip ys)[j]? = some (xs[j]'(by omega), ys[j]'(by omega)) := by
      rw [List.getElem?_zip_eq_some]; exact ⟨ex, ey⟩
    unfold putZ
    rw [if_neg (show ¬ t = h1.objs.size from fun z => hSn (by rw [← z]; exact List.mem_of_getElem? hj)), lookup_zip nd hj ez]
  have eS : putZ H1 h1.objs.size as (xs.zip ys) h1.objs.size = some (.lst (as.map V.ref)) := by unfold putZ; rw [if_pos rfl]
  have off : ∀ t, t ∉ as → t ≠ h1.objs.size → putZ H1 h1.objs.size as (xs.zip ys) t = H1 t := fun t n1 n2 => by
    unfold putZ
    rw [if_neg n2, lookup_not n1]
  have kpH : ∀ t o, H1 t = some o → putZ H1 h1.objs.size as (xs.zip ys) t = some o := fun t o e => by
    rw [off t (fun z => by rw [new t (ab t z)] at e; cases e) (fun z => by rw [z, new _ sz5] at e; cases e)]
    exact e
  refine ⟨.ref h1.objs.size, putZ H1 h1.objs.size as (xs.zip ys), ?_, rfl, q _ _ as kpH (new _ sz5) eS la fun j t hj => ?_⟩
  · have J := I1.call' (ch := []) (H' := putZ H1 h1.objs.size as (xs.zip ys)) (s' := { s1 with heap := h', toks := tk }) rfl ⟨fun b o q _ _ _ => kp b o q, fun b o q _ _ _ => ⟨o.slots, kp b o q⟩, fun b o q n _ => ?_, fun b o q _ => ⟨o, kp b o q⟩, fun b xs q => kpH b _ q, fun b o u q => kpH b _ q, fun b ps q => ⟨#[], by rw [kpH b _ q]; simp⟩⟩ (fun b u q => ?_) I1.bare fun b z => by simp at z
    · exact J
    · have lb := Heap.lt_size q
      rw [off b (fun z => absurd lb (Nat.not_lt.mpr (ab b z))) (fun z => absurd lb (Nat.not_lt.mpr (by rw [z]; exact sz5)))]
      exact n
    · by_cases hb : b ∈ as
      · obtain ⟨j, hj⟩ := List.mem_iff_getElem?.mp hb
        obtain ⟨x, y, _, _, e3, u1, v1, ru, rv', pr⟩ := atH j b hj
        rw [e3] at q
        cases q
        exact ⟨by show 2 ≤ sizeLine; decide, [u1, v1], .cons ru (.cons rv' .nil), ⟨_, pr, rfl, _, rfl⟩⟩
      · by_cases hb2 : b = h1.objs.size
        · subst hb2
          rw [eS] at q
          cases q
          refine ⟨by rw [List.length_map]; omega, acc.toList, c, by rw [ea]; exact LiI.vals_refs as, ?_⟩
          rw [Array.toArray_toList]
          exact hS
        · rw [off b hb hb2] at q
          exact (I1.hok b u q).stay (fun d v _ y => kp d v y) (fun d y => kpH d _ y) fun d xs y => kpH d _ y
  · obtain ⟨x, y, e1, e2, e3, _⟩ := atH j t hj
    exact ⟨x, y, e1, e2, e3⟩
end
end RV
set_option maxHeartbeats 4000000
namespace RV
open PySem PySem.Spec PyProof.Rows L2
theorem walk_revT {K : PySem.W.Frag} {a : Addr} {xs : List V} : Walk (RT.ItvT K a xs.length) xs.length (fun H => SqT K H a xs) (YAt xs.reverse) := by
  refine ⟨fun i H hi g => ⟨hi, xs, xs[xs.length - 1 - i], g, List.getElem?_eq_getElem (by omega)⟩, fun H _ => Nat.le_refl _, fun i H x H' hi g y => ⟨y.1, ?_⟩⟩
  rw [List.getElem?_reverse hi]
  exact y.2 xs g
/-- [h(x) for x in reversed(t)], t a tuple of ints -/
theorem lc_mapRev {K : PySem.W.Frag} {te : TE} {h : Int → Int} {σ : L2.St} {H1 : Hp} {a D : Addr} {v : Nat} {ns : List Int} {Qd : Hp → Prop} (hT : SqT K H1 a (ns.map V.int)) (hl : ns.length ≤ 1000) (nD : H1 D = none)
    (hte : ∀ x ∈ ns, ∀ (H' : Hp) (Q : VK), Same H1 H' → (∀ H2, Same H' H2 → Q (.int (h x)) H2) → te ((wipe σ [v]).set v (some (.int x))) H' Q)
    (hd : ∀ H', Same H1 H' → H' D = some (.lst ((ns.reverse.map h).map V.int)) → Qd H') :
    ∃ W : Nat → Nat → Hp → Prop, (∃ m, W 0 m (upd H1 D (.lst []))) ∧ ∀ i m H, W i m H →
      ((RT.ItvT K a (ns.map V.int).length).stop i H ∧ Qd H) ∨ ((RT.ItvT K a (ns.map V.int).length).go i H ∧ ∃ Nx : Hp → Prop, (∀ H', Nx H' → ∃ m', m' < m ∧ W (i + 1) m' H') ∧ ∀ x H', (RT.ItvT K a (ns.map V.int).length).yld i H x H' → gName v x (wipe σ [v]) H' fun σ2 H2 => wipe σ2 [v] = wipe σ [v] ∧ tYes σ2 H2 fun b H3 =>
        if b = true then te σ2 H3 fun y H4 => ∃ acc, H4 D = some (.lst acc) ∧ acc.length < sizeLine ∧ Nx (upd H4 D (.lst (acc ++ [y]))) else Nx H3) := by
  refine lc_it walk_revT (fun i H' => Same H1 H' ∧ H' D = some (.lst (((ns.reverse.take i).map h).map V.int))) ⟨same_upd nD, upd_same⟩ (fun i H' _ p => sqT_same p.1 hT) (fun i x Hx H' hx p y => ?_) fun H' p => ?_
  · obtain ⟨rfl, hx⟩ := y
    rw [← List.map_reverse] at hx
    obtain ⟨k, g, rfl⟩ := map_at hx
    refine ⟨by simp [wipe, List.set_set], tt_yes (hte k (List.mem_reverse.mp (List.mem_of_getElem? g)) H' _ p.1 fun H2 s2 => ⟨_, s2 _ _ p.2, ?_, fun b o z => ?_, ?_⟩)⟩
    · rw [List.length_map, List.length_map, List.length_take, List.length_reverse]; exact few1 (by omega)
    · rw [upd_ne (ne_of_none z nD)]; exact s2 _ _ (p.1 b o z)
    · rw [upd_same, List.take_add_one, g, List.map_append, List.map_append]; rfl
  · rw [List.length_map, List.take_of_length_le (by rw [List.length_reverse]; exact Nat.le_refl _)] at p
    exact hd H' p.1 p.2
/-- [c(x) for x in range(n)] of truths -/
theorem lc_blR {te : TE} {c : Int → Bool} {σ : L2.St} {H1 : Hp} {D : Addr} {v n : Nat} {Qd : Hp → Prop} (hl : n ≤ 1000) (nD : H1 D = none)
    (hte : ∀ x : Int, 0 ≤ x → x < (n : Int) → ∀ (H' : Hp) (Q : VK), Same H1 H' → (∀ H2, Same H' H2 → Q (.bl (c x)) H2) → te ((wipe σ [v]).set v (some (.int x))) H' Q)
    (hd : ∀ H', Same H1 H' → H' D = some (.lst (((upN n).map c).map V.bl)) → Qd H') :
    ∃ W : Nat → Nat → Hp → Prop, (∃ m, W 0 m (upd H1 D (.lst []))) ∧ ∀ i m H, W i m H →
      ((Itr 0 n).stop i H ∧ Qd H) ∨ ((Itr 0 n).go i H ∧ ∃ Nx : Hp → Prop, (∀ H', Nx H' → ∃ m', m' < m ∧ W (i + 1) m' H') ∧ ∀ x H', (Itr 0 n).yld i H x H' → gName v x (wipe σ [v]) H' fun σ2 H2 => wipe σ2 [v] = wipe σ [v] ∧ tYes σ2 H2 fun b H3 =>
        if b = true then te σ2 H3 fun y H4 => ∃ acc, H4 D = some (.lst acc) ∧ acc.length < sizeLine ∧ Nx (upd H4 D (.lst (acc ++ [y]))) else Nx H3) := by
  refine lc_range (lo := 0) (n := n) (fun i H' => Same H1 H' ∧ H' D = some (.lst ((((upN n).take i).map c).map V.bl))) ⟨same_upd nD, upd_same⟩ (fun i H' hi p => ?_) fun H' p => ?_
  · have g : (upN n)[i]? = some (i : Int) := upN_get hi
    rw [Int.zero_add]
    refine ⟨by simp [wipe, List.set_set], tt_yes (hte (i : Int) (by omega) (by omega) H' _ p.1 fun H2 s2 => ⟨_, s2 _ _ p.2, ?_, fun b o z => ?_, ?_⟩)⟩
    · rw [List.length_map, List.length_map, List.length_take, upN_len]; exact few1 (by omega)
    · rw [upd_ne (ne_of_none z nD)]; exact s2 _ _ (p.1 b o z)
    · rw [upd_same, List.take_add_one, g, List.map_append, List.map_append]; rfl
  · rw [List.take_of_length_le (by rw [upN_len]; exact Nat.le_refl _)] at p
    exact hd H' p.1 p.2
theorem decV (a b : Int) : decide (V.int a = V.int b) = decide (a = b) := by
  by_cases h : a = b
  · rw [h, decide_eq_true rfl, decide_eq_true rfl]
  · rw [decide_eq_false h, decide_eq_false fun z => h (V.int.inj z)]
end RV
set_option maxHeartbeats 4000000
namespace K75
open PySem PySem.Spec PyProof.Rows L2 RV
/-- the mirror -/
def mirI (ns : List Int) (x : Int) : Int := ns.getD x.toNat 0
theorem mirI_at {ns : List Int} {x mx : Int} (h : ns[x.toNat]? = some mx) : mirI ns x = mx := by unfold mirI; rw [List.getD_eq_getElem?_getD, h]; rfl
theorem mirI_get {ns : List Int} {x : Int} (h0 : 0 ≤ x) (h1 : x < (ns.length : Int)) : ns[x.toNat]? = some (mirI ns x) := by
  have h : x.toNat < ns.length := by omega
  unfold mirI
  rw [List.getD_eq_getElem?_getD, List.getElem?_eq_getElem h]; rfl
/-- the part is its own mirror -/
def Own (ns p : List Int) : Prop := ∀ x ∈ p, mirI ns x ∈ p
noncomputable def ownB (ns p : List Int) : Bool := @decide (Own ns p) (Classical.propDecidable _)
theorem ownB_iff {ns p : List Int} : ownB ns p = true ↔ Own ns p := @decide_eq_true_iff _ (Classical.propDecidable _)
def atAx (ns : List Int) (ps : List (List Int)) (m g : Int) : Bool := if g = 0 then decide (mirI ns m = m) else decide (mirI ns m ∈ behindOf ps m)
section
variable {P : Program} {w : World} {K : PySem.W.Frag} {mg : Str → Option Value} {base : Heap}
/-! ### is_own_mirror -/
theorem scIsOwn : FnScope ["rule", "part"] ["rule", "part"] (defScope sIsOwn) := ⟨rfl, rfl, rfl, by decide +kernel, rfl, by decide +kernel, by decide +kernel⟩
def spIsOwn (K : PySem.W.Frag) (C : Addr) : Sp := fun vs H Q _ => ∃ (r : Addr) (k : Nat) (p : List Int) (ns : List Int) (ps : List (List Int)), vs = [.ref r, .int (k : Int)] ∧ RuleAt K C H r ns ps ∧ Mir ns ∧ Stp ns ps ∧ (partsOf ps ns.length)[k]? = some p ∧ ∀ H', Same H H' → Q (.bl (ownB ns p)) H'
theorem ok_isOwn {f C fM : Addr} {fd dM : FuncData} (F : Fun K "is_own_mirror" "is_own_mirror" sIsOwn f fd) (DM : DefAt K mg "mirror_part" sMirrorPart ["rule", "part"] fM dM) (GM : FnOk P w K mg base CX0 5 fM dM ["rule", "part"] (spMirrorPart K C)) : FnOk P w K mg base CX0 6 f fd ["rule", "part"] (spIsOwn K C) := by
  refine F.ok scIsOwn (fun vs H Q E h => ?_) (fun cdv A outer s H vs Q E hr h => ?_)
  · obtain ⟨r, k, p, ns, ps, rfl, _⟩ := h
    rfl
  · obtain ⟨r, k, p, ns, ps, rfl, R, M, S, gk, q⟩ := h
    refine ⟨_, pss_one (ps_ret (pe_cmpR op_eq (pe_call GM hr (by rfl) DM.mg DM.fn.kp DM.bi .nil pass0 (pa_cons (pv 0) (pa_cons (pv 1) pa_nil))) (pv 1) (nomark _))), ?_⟩
    refine ⟨.ref r, rfl, .int (k : Int), rfl, r, k, p, ns, ps, rfl, R, M, S, gk, fun H1 x mx k' s1 hx hmx gk' => ⟨.int (k : Int), rfl, rfl, ?_⟩⟩
    have hpm := List.mem_of_getElem? gk
    have hpl := part_lot hpm hx
    have bx := (mem_lot.mp (by rw [hpl]; exact hx : x ∈ lotOf ps ns.length x)).1
    have e : decide (V.int (k' : Int) = V.int (k : Int)) = ownB ns p := by
      rw [Bool.eq_iff_iff, decide_eq_true_iff, ownB_iff]
      constructor
      · intro z y hy
        have z : k' = k := by have := V.int.inj z; omega
        subst z
        rw [gk] at gk'
        cases gk'
        have by_ := (mem_lot.mp (by rw [part_lot hpm hy]; exact hy : y ∈ lotOf ps ns.length y)).1
        exact lot_mirror M S bx.1 hmx (mirI_get by_.1 by_.2) (by rw [hpl]; exact hy)
      · intro z
        have hm := z x hx
        rw [mirI_at hmx] at hm
        rw [part_lot hpm hm] at gk'
        have h1 := (List.getElem?_eq_some_iff.mp gk).1
        have h2 := (List.getElem?_eq_some_iff.mp gk').1
        have := (List.getElem?_inj h2 (parts_nodup ps ns.length)).mp (gk'.trans gk.symm)
        rw [this]
    rw [e]
    exact q H1 s1
/-! ### is_at_axis -/
theorem scIsAt : FnScope ["rule", "mark", "gap"] ["rule", "mark", "gap"] (defScope sIsAt) := ⟨rfl, rfl, rfl, by decide +kernel, rfl, by decide +kernel, by decide +kernel⟩
def spIsAt (K : PySem.W.Frag) (C : Addr) : Sp := fun vs H Q _ => ∃ (r : Addr) (m g : Int) (ns : List Int) (ps : List (List Int)), vs = [.ref r, .int m, .int g] ∧ RuleAt K C H r ns ps ∧ (0 ≤ m ∧ m < (ns.length : Int)) ∧ Q (.bl (atAx ns ps m g)) H
theorem ok_isAt {f C fB fR : Addr} {fd dB dR : FuncData} (F : Fun K "is_at_axis" "is_at_axis" sIsAt f fd) (T : Txt K mg C)
    (FB : Fun K "behind" "Rule.behind" sBehindM fB dB) (bB : Binds K dB ["self", "mark"] []) (mB : Meth K C "behind" fB) (FR : Fun K "mirror" "Rule.mirror" sMirrorM fR dR) (bR : Binds K dR ["self", "mark"] []) (mR : Meth K C "mirror" fR) : FnOk P w K mg base CX0 2 f fd ["rule", "mark", "gap"] (spIsAt K C) := by
  have GR : FnOk P w K mg base CX0 1 fR dR ["self", "mark"] (spMirrorM K C) := ok_mirrorM FR T
  have GB : FnOk P w K mg base CX0 1 fB dB ["self", "mark"] (spBehindM K C) := ok_behindM FB T
  refine F.ok scIsAt (fun vs H Q E h => ?_) (fun cdv A outer s H vs Q E hr h => ?_)
  · obtain ⟨r, m, g, ns, ps, rfl, _⟩ := h
    rfl
  · obtain ⟨r, m, g, ns, ps, rfl, R, hm, q⟩ := h
    have hu5 := un65 hr
    refine ⟨_, pss_cons (ps_if (pt_cmpR op_eq (pv 2) pe_int (nomark _)) (pss_one (ps_ret (pe_cmpR op_eq (pe_meth (pv 0) T.cl mR GR hr bR .nil pass0 (pa_cons (pv 1) pa_nil)) (pv 1) (nomark _)))) pss_nil)
      (pss_one (ps_ret (pe_cmpR (op_inTI hu5) (pe_meth (pv 0) T.cl mR GR hr bR .nil pass0 (pa_cons (pv 1) pa_nil)) (pe_meth (pv 0) T.cl mB GB hr bB .nil pass0 (pa_cons (pv 1) pa_nil)) (by rfl)))), ?_⟩
    obtain ⟨dx, a0, b0, t0, g1, g2, g3, g4⟩ := R.ex
    have fno := flds_no a0 b0 t0 (m := "behind") (by decide +kernel) (by decide +kernel) (by decide +kernel)
    have fnm := flds_no a0 b0 t0 (m := "mirror") (by decide +kernel) (by decide +kernel) (by decide +kernel)
    have gm := mirI_get hm.1 hm.2
    have em : V.int m = .int ((m.toNat : Nat) : Int) := by rw [Int.toNat_of_nonneg hm.1]
    refine ⟨.int g, rfl, rfl, _, rfl, ?_⟩
    rw [decV]
    unfold atAx at q
    refine ite2 (fun z => ?_) (fun z => ?_)
    · rw [if_pos (of_decide_eq_true z)] at q
      refine ⟨.ref r, rfl, r, dx, _, rfl, g1, fnm, .int m, rfl, r, ns, ps, m.toNat, mirI ns m, by rw [← em]; rfl, R, gm, .int m, rfl, rfl, ?_⟩
      rw [decV]; exact q
    · rw [if_neg (fun y => z (decide_eq_true y))] at q
      refine ⟨.ref r, rfl, r, dx, _, rfl, g1, fnm, .int m, rfl, r, ns, ps, m.toNat, mirI ns m, by rw [← em]; rfl, R, gm, .ref r, rfl, r, dx, _, rfl, g1, fno, .int m, rfl, r, ns, ps, m.toNat, by rw [← em]; rfl, R, by omega, fun c hc => ?_⟩
      rw [Int.toNat_of_nonneg hm.1] at hc
      exact ⟨c, _, _, rfl, rfl, hc, q⟩
end
end K75
set_option maxHeartbeats 4000000
namespace K75
open PySem PySem.Spec PyProof.Rows L2 RV
/-- a loop over a list that its turns leave as it is -/
theorem it_list {K : PySem.W.Frag} {a : Addr} {xs : List V} {H0 : Hp} {Fin : Hp → Prop} {Bd : V → Hp → (Hp → Prop) → Prop} (Pv : Nat → Hp → Prop) (h0 : Pv 0 H0) (hl : ∀ i H, i ≤ xs.length → Pv i H → SqL K H a xs)
    (hs : ∀ i x H, xs[i]? = some x → Pv i H → Bd x H (Pv (i + 1))) (hd : ∀ H, Pv xs.length H → Fin H) :
    ∃ W : Nat → Nat → Hp → Prop, (∃ m, W 0 m H0) ∧ ∀ i m H, W i m H → ((Itl K a).stop i H ∧ Fin H) ∨ ((Itl K a).go i H ∧ ∃ Nx : Hp → Prop, (∀ H', Nx H' → ∃ m', m' < m ∧ W (i + 1) m' H') ∧ ∀ x H', (Itl K a).yld i H x H' → Bd x H' Nx) := by
  refine ⟨fun i m H => i ≤ xs.length ∧ m + i = xs.length ∧ Pv i H, ⟨xs.length, Nat.zero_le _, rfl, h0⟩, fun i m H ⟨hi, hm, hp⟩ => ?_⟩
  have hq := hl i H hi hp
  rcases Nat.lt_or_ge i xs.length with z | z
  · refine .inr ⟨⟨xs, xs[i], hq, List.getElem?_eq_getElem z⟩, Pv (i + 1), fun H' p' => ⟨m - 1, by omega, z, by omega, p'⟩, fun x H' y => ?_⟩
    obtain ⟨rfl, y⟩ := y
    exact hs i x _ (y xs hq) hp
  · obtain rfl : i = xs.length := by omega
    exact .inl ⟨⟨xs, hq, Nat.le_refl _⟩, hd H hp⟩
theorem SetL.more {w : World} {H : Hp} {D : Addr} {ls : List Int} (h : SetL w H D ls) (c : Int) (room : ls.length ≤ 1000) : ∃ (S : Int → Bool) (n : Nat), H D = some (SetO w D S n) ∧ n + 1 < scanBound ∧ ∃ ls', SetL w (upd H D (SetO w D (fun j => S j || decide (j = c)) (if S c = true then n else n + 1))) D ls' ∧ ls'.length ≤ ls.length + 1 ∧ ∀ k, k ∈ ls' ↔ k ∈ ls ∨ k = c := by
  obtain ⟨S, h1, h2, h3⟩ := h
  refine ⟨S, ls.length, h1, by show ls.length + 1 < 4096; omega, ?_⟩
  by_cases e : S c = true
  · refine ⟨ls, ⟨_, by rw [upd_same, if_pos e], h2, fun k => ?_⟩, by omega, fun k => ⟨.inl, fun z => z.elim id fun z => by rw [z]; exact (h3 c).mp e⟩⟩
    rw [Bool.or_eq_true, h3, decide_eq_true_iff]
    exact ⟨fun z => z.elim id fun z => by rw [z]; exact (h3 c).mp e, .inl⟩
  · refine ⟨c :: ls, ⟨_, by rw [upd_same, if_neg e]; rfl, List.nodup_cons.mpr ⟨fun z => e ((h3 c).mpr z), h2⟩, fun k => ?_⟩, Nat.le_refl _, fun k => by rw [List.mem_cons, or_comm]⟩
    rw [Bool.or_eq_true, h3, decide_eq_true_iff, List.mem_cons, or_comm]
/-- the axis classes -/
def AxC (ns : List Int) (ps : List (List Int)) (p : List Int) (z : Int) : Prop := Own ns p ∧ ∃ m ∈ p, ∃ g ∈ ([0, 1] : List Int), atAx ns ps m g = true ∧ z = 2 * ((clsM ps ns.length m : Nat) : Int) + g
section
variable {P : Program} {w : World} {K : PySem.W.Frag} {mg : Str → Option Value} {base : Heap}
/-! ### axis_classes -/
abbrev nAx : List Str := ["rule", "part", "known", "mark", "k", "gap"]
theorem scAx : FnScope nAx ["rule", "part"] (defScope sAxisC) := ⟨rfl, rfl, rfl, by decide +kernel, rfl, by decide +kernel, by decide +kernel⟩
def spAx (K : PySem.W.Frag) (C : Addr) : Sp := fun vs H Q _ => ∃ (r : Addr) (k : Nat) (p : List Int) (ns : List Int) (ps : List (List Int)), vs = [.ref r, .int (k : Int)] ∧ RuleAt K C H r ns ps ∧ Mir ns ∧ Stp ns ps ∧ (partsOf ps ns.length)[k]? = some p ∧
  ∀ (H' : Hp) (t : Addr) (zs : List Int), Same H H' → SqT K H' t (zs.map V.int) → zs.Pairwise (· < ·) → (∀ z, z ∈ zs ↔ AxC ns ps p z) → zs.length ≤ 16 → Q (.ref t) H'
theorem ok_ax {f C fO fP fC fA : Addr} {fd dO dP dC dA : FuncData} (F : Fun K "axis_classes" "axis_classes" sAxisC f fd) (B : Bare mg)
    (DO : DefAt K mg "is_own_mirror" sIsOwn ["rule", "part"] fO dO) (GO : FnOk P w K mg base CX0 6 fO dO ["rule", "part"] (spIsOwn K C)) (DP : DefAt K mg "parts" sParts ["rule"] fP dP) (GP : FnOk P w K mg base CX0 3 fP dP ["rule"] (spParts K C))
    (DC : DefAt K mg "classes" sClasses ["rule", "part"] fC dC) (GC : FnOk P w K mg base CX0 5 fC dC ["rule", "part"] (spClasses K C)) (DA : DefAt K mg "is_at_axis" sIsAt ["rule", "mark", "gap"] fA dA) (GA : FnOk P w K mg base CX0 2 fA dA ["rule", "mark", "gap"] (spIsAt K C)) : FnOk P w K mg base CX0 7 f fd ["rule", "part"] (spAx K C) := by
  refine F.ok scAx (fun vs H Q E h => ?_) (fun cdv A outer s H vs Q E hr h => ?_)
  · obtain ⟨r, k, p, ns, ps, rfl, _⟩ := h
    rfl
  · obtain ⟨r, k, p, ns, ps, rfl, R, M, S, gk, q⟩ := h
    have r2 := hr.mono (show 2 ≤ 6 by decide)
    have r3 := hr.mono (show 3 ≤ 6 by decide)
    have r5 := hr.mono (show 5 ≤ 6 by decide)
    have two : (2 : Nat) ≤ sizeLine := by decide
    refine ⟨_, pss_cons (ps_if (pt_not (pt_val (pe_call GO hr (by rfl) DO.mg DO.fn.kp DO.bi .nil pass0 (pa_cons (pv 0) (pa_cons (pv 1) pa_nil))))) (pss_one (ps_ret (pe_tup pa_nil))) pss_nil)
      (pss_cons (ps_set (i := 2) scAx.nd rfl (Or.inl rfl) (pe_listZip rfl (by rfl) B.list (by rfl) B.zip (pa_cons (pe_ix ix_tup (pe_call GP r3 (by rfl) DP.mg DP.fn.kp DP.bi .nil pass0 (pa_cons (pv 0) pa_nil)) (pv 1) (fun _ _ => rfl)) (pa_cons (pe_call GC r5 (by rfl) DC.mg DC.fn.kp DC.bi .nil pass0 (pa_cons (pv 0) (pa_cons (pv 1) pa_nil))) pa_nil))))
      (pss_one (ps_ret (pe_tupleOf (by rfl) B.tuple (pe_callB (cr_sortedSet rfl) (by rfl) B.sorted (by decide +kernel) (pa_cons
        (pe_scT (own := [("mark", 3), ("k", 4), ("gap", 5)]) (vs1 := [5]) (g := gTup K 2 (gCons (gName 3) (gCons (gName 4) gNil))) (g1 := gName 5) rfl scAx.nd (pi_list (pv 2)) (blkOk_by (N := nAx) (sc := defScope sAxisC) (by decide +kernel)) (by decide)
          (fun _ _ _ _ _ => pg_tupK rfl rfl (pgs_cons (pg_name (i := 3) scAx.nd rfl (Or.inl rfl)) (pgs_cons (pg_name (i := 4) scAx.nd rfl (Or.inl rfl)) pgs_nil)))
          (fun _ _ _ _ _ => pi_tupK (K := K) rfl (pe_tup (pa_cons pe_int (pa_cons pe_int pa_nil)))) (fun _ _ _ _ _ => pg_name (i := 5) scAx.nd rfl (Or.inl rfl))
          (fun _ _ _ _ _ => pts_one (pt_val (pe_call GA r2 (by rfl) DA.mg DA.fn.kp DA.bi .nil pass0 (pa_cons (pv 0) (pa_cons (pv 3) (pa_cons (pv 5) pa_nil))))))
          (fun _ _ _ _ _ => pe_op op_add (pe_op op_mul pe_int (pv 4)) (pv 5))) pa_nil)))))), ?_⟩
    have h8 := M.few
    have hpm := List.mem_of_getElem? gk
    have lp : p.length ≤ 8 := by
      obtain ⟨m, _, _, e⟩ := mem_parts.mp hpm
      rw [e]; exact Nat.le_trans (lot_len _ _ _) h8
    have inn : ∀ x ∈ p, 0 ≤ x ∧ x < (ns.length : Int) := fun x hx => (mem_lot.mp (by rw [part_lot hpm hx]; exact hx : x ∈ lotOf ps ns.length x)).1
    refine ⟨.ref r, rfl, .int (k : Int), rfl, r, k, p, ns, ps, rfl, R, M, S, gk, fun H1 s1 => ⟨_, rfl, ?_⟩⟩
    cases ho : ownB ns p with
    | false =>
      have no : ¬ Own ns p := fun z => by rw [ownB_iff.mpr z] at ho; cases ho
      refine iteT ⟨Nat.zero_le _, fun t nt => ?_⟩
      exact q _ t [] (s1.trans (same_upd nt)) (tupNew upd_same) List.Pairwise.nil (fun z => ⟨fun y => (by cases y), fun y => (no y.1).elim⟩) (Nat.zero_le _)
    | true =>
      have yes := ownB_iff.mp ho
      refine iteF ?_
      refine ⟨.ref r, rfl, r, ns, ps, rfl, R.same s1, M, S, fun H2 c s2 nc hc => ?_⟩
      obtain ⟨ks, k1, k2, k3⟩ := hc
      have gk' : (ks.map (·.2))[k]? = some p := by rw [k1]; exact gk
      obtain ⟨kk, gkk, ekk⟩ := map_at gk'
      have hp : SqT K H2 kk.1 (p.map V.int) := by
        have z := (k3 kk (List.mem_of_getElem? gkk)).sq (K := K)
        rw [← ekk] at z; exact z
      refine ⟨.int (k : Int), rfl, c, _, _, .ref kk.1, rfl, rfl, tupNew k2, atI_nat (by rw [List.getElem?_map, gkk]; rfl), ?_⟩
      refine ⟨.ref r, rfl, .int (k : Int), rfl, r, k, ns, ps, p, rfl, R.same (s1.trans s2), M, S, gk, fun H3 cc s3 ncc hcc pp => ?_⟩
      refine ⟨kk.1, cc, _, _, rfl, sqT_same s3 hp, tupNew hcc, fun H4 L ts s4 nL eL lts hts => ?_⟩
      have s04 := ((s1.trans s2).trans s3).trans s4
      have R4 := R.same s04
      have lts' : ts.length = p.length := by rw [lts]; unfold clsL; simp
      have hts' : ∀ (j : Nat) (t : Addr), ts[j]? = some t → ∃ m, p[j]? = some m ∧ H4 t = some (.tup [.int m, .int ((clsM ps ns.length m : Nat) : Int)]) := fun j t hj => by
        obtain ⟨x, y, e1, e2, e3⟩ := hts j t hj
        rw [List.getElem?_map] at e1
        obtain ⟨m, gm, rfl⟩ := Option.map_eq_some_iff.mp e1
        unfold clsL at e2
        rw [List.getElem?_map, List.getElem?_map, gm] at e2
        cases e2
        exact ⟨m, gm, e3⟩
      refine ⟨.ref L, rfl, L, rfl, ⟨_, lstNew eL⟩, fun D nD => ?_⟩
      refine it_list (xs := ts.map V.ref) (fun i H' => Same H4 H' ∧ ∃ ls, SetL w H' D ls ∧ ls.length ≤ 2 * i ∧ ∀ y, y ∈ ls ↔ ∃ m ∈ p.take i, ∃ g ∈ ([0, 1] : List Int), atAx ns ps m g = true ∧ y = 2 * ((clsM ps ns.length m : Nat) : Int) + g) ⟨same_upd nD, [], SetL.nil, Nat.zero_le _, fun y => by simp⟩ (fun i H' _ h => lstNew (h.1 _ _ eL)) (fun i v H5 hv h => ?_) fun H5 h => ?_
      · obtain ⟨t, gt, rfl⟩ := map_at hv
        obtain ⟨s5, ls, hL, ll, mL⟩ := h
        obtain ⟨m, gm, et⟩ := hts' i t gt
        have hm := inn m (List.mem_of_getElem? gm)
        have hi : i < p.length := (List.getElem?_eq_some_iff.mp gm).1
        refine ⟨t, _, rfl, tupNew (s5 _ _ et), rfl, _, _, rfl, _, _, rfl, rfl, rfl, two, fun u nu => ?_⟩
        have su := same_upd (o := .tup [.int 0, .int 1]) nu
        refine ⟨u, rfl, ⟨_, tupNew upd_same⟩, ?_⟩
        refine it_tup (K := K) (xs := ([0, 1] : List Int).map V.int) (fun j H' => Same H4 H' ∧ SqT K H' u (([0, 1] : List Int).map V.int) ∧ ∃ ls', SetL w H' D ls' ∧ ls'.length ≤ 2 * i + j ∧ ∀ y, y ∈ ls' ↔ y ∈ ls ∨ ∃ g ∈ ([0, 1] : List Int).take j, atAx ns ps m g = true ∧ y = 2 * ((clsM ps ns.length m : Nat) : Int) + g) ⟨s5.trans su, tupNew upd_same, ls, hL.same su, by omega, fun y => by simp⟩ (fun j H' _ h => h.2.1) (fun j v H6 hv6 h => ?_) fun H6 h => ?_
        · obtain ⟨g, gg, rfl⟩ := map_at hv6
          obtain ⟨s6, hu6, ls6, hL6, ll6, mL6⟩ := h
          have hj : j < 2 := (List.getElem?_eq_some_iff.mp gg).1
          refine ⟨rfl, .ref r, rfl, .int m, rfl, .int g, rfl, r, m, g, ns, ps, rfl, R4.same s6, hm, _, rfl, ?_⟩
          cases ha : atAx ns ps m g with
          | false =>
            refine iteF ⟨s6, hu6, ls6, hL6, by omega, fun y => ?_⟩
            rw [mL6 y, List.take_add_one, gg]
            constructor
            · rintro (z | ⟨g', z1, z2⟩)
              · exact .inl z
              · exact .inr ⟨g', List.mem_append_left _ z1, z2⟩
            · rintro (z | ⟨g', z1, z2⟩)
              · exact .inl z
              · rcases List.mem_append.mp z1 with z1 | z1
                · exact .inr ⟨g', z1, z2⟩
                · have e : g' = g := List.mem_singleton.mp z1
                  subst e
                  rw [ha] at z2
                  cases z2.1
          | true =>
            refine iteT ⟨.int ((clsM ps ns.length m : Nat) : Int), rfl, 2, _, rfl, rfl, .inl ⟨by decide, by decide⟩, .int g, rfl, _, _, rfl, rfl, ?_⟩
            obtain ⟨S6, n6, e1, e2, ls7, hL7, ll7, mL7⟩ := SetL.more hL6 (2 * ((clsM ps ns.length m : Nat) : Int) + g) (by omega)
            refine ⟨_, S6, n6, rfl, e1, e2, fun b' o z => ?_, sqT_set e1 hu6, ls7, hL7, by omega, fun y => ?_⟩
            · rw [upd_ne (ne_of_none z nD)]; exact s6 b' o z
            rw [mL7 y, mL6 y, List.take_add_one, gg]
            constructor
            · rintro ((z | ⟨g', z1, z2⟩) | z)
              · exact .inl z
              · exact .inr ⟨g', List.mem_append_left _ z1, z2⟩
              · exact .inr ⟨g, List.mem_append_right _ (List.mem_singleton.mpr rfl), ha, z⟩
            · rintro (z | ⟨g', z1, z2⟩)
              · exact .inl (.inl z)
              · rcases List.mem_append.mp z1 with z1 | z1
                · exact .inl (.inr ⟨g', z1, z2⟩)
                · have e : g' = g := List.mem_singleton.mp z1
                  subst e
                  exact .inr z2.2
        · obtain ⟨s6, _, ls6, hL6, ll6, mL6⟩ := h
          refine ⟨s6, ls6, hL6, by simp at ll6; omega, fun y => ?_⟩
          rw [mL6 y, mL y, List.take_add_one, gm]
          constructor
          · rintro (⟨m', z1, z2⟩ | z)
            · exact ⟨m', List.mem_append_left _ z1, z2⟩
            · exact ⟨m, List.mem_append_right _ (List.mem_singleton.mpr rfl), z⟩
          · rintro ⟨m', z1, z2⟩
            rcases List.mem_append.mp z1 with z1 | z1
            · exact .inl ⟨m', z1, z2⟩
            · have e : m' = m := List.mem_singleton.mp z1
              subst e
              exact .inr z2
      · obtain ⟨s5, ls, hL, ll, mL⟩ := h
        rw [List.length_map, lts', List.take_of_length_le (Nat.le_refl _)] at mL
        rw [List.length_map, lts'] at ll
        obtain ⟨S5, e1, nd, mS⟩ := hL
        refine ⟨D, S5, ls.length, rfl, e1, by omega, fun zs l rise mem len nl => ?_⟩
        have sl := same_upd (o := .lst (zs.map V.int)) nl
        refine .inl ⟨l, _, rfl, lstNew upd_same, fun t nt => ?_⟩
        refine q _ t zs (((s04.trans s5).trans sl).trans (same_upd nt)) (tupNew upd_same) rise (fun z => ?_) (by omega)
        rw [mem z, mS z, mL z]
        exact ⟨fun h => ⟨yes, h⟩, fun h => h.2⟩
end
end K75
set_option maxHeartbeats 4000000
namespace K75
open PySem PySem.Spec PyProof.Rows L2 RV
theorem fmod_small {c d : Int} (h : d ≠ 0) : (c.fmod d).natAbs < d.natAbs := by
  rw [Int.fmod_eq_emod]
  have h1 := Int.emod_nonneg c h
  have h2 : c % d < (d.natAbs : Int) := Int.emod_lt c h
  by_cases z : 0 ≤ d ∨ d ∣ c
  · rw [if_pos z]
    omega
  · rw [if_neg z]
    have h3 : ¬ (d ∣ c) := fun y => z (.inr y)
    have h4 : c % d ≠ 0 := fun y => h3 (Int.dvd_of_emod_eq_zero y)
    have h5 : ¬ 0 ≤ d := fun y => z (.inl y)
    omega
theorem gcd_fmod (c d : Int) : Int.gcd d (c.fmod d) = Int.gcd c d := by
  have e : c.fmod d = c - d * c.fdiv d := Int.fmod_def c d
  refine Nat.dvd_antisymm ?_ ?_
  · have h1 : ((Int.gcd d (c.fmod d) : Nat) : Int) ∣ d := Int.gcd_dvd_left ..
    have h2 : ((Int.gcd d (c.fmod d) : Nat) : Int) ∣ c.fmod d := Int.gcd_dvd_right ..
    have h3 : ((Int.gcd d (c.fmod d) : Nat) : Int) ∣ c := by
      have z := Int.dvd_add h2 (Int.dvd_trans h1 (Int.dvd_mul_right d (c.fdiv d)))
      rwa [show c.fmod d + d * c.fdiv d = c by omega] at z
    exact Int.ofNat_dvd.mp (Int.dvd_coe_gcd h3 h1)
  · have h1 : ((Int.gcd c d : Nat) : Int) ∣ c := Int.gcd_dvd_left ..
    have h2 : ((Int.gcd c d : Nat) : Int) ∣ d := Int.gcd_dvd_right ..
    have h3 : ((Int.gcd c d : Nat) : Int) ∣ c.fmod d := by
      rw [e]
      exact Int.dvd_sub h1 (Int.dvd_trans h2 (Int.dvd_mul_right _ _))
    exact Int.ofNat_dvd.mp (Int.dvd_coe_gcd h2 h3)
/-! ### gaps, as marks are found -/
theorem one_off {us : List (Int × Nat)} (nd : (us.map (·.1)).Nodup) {m : Int} {a b : Nat} (h1 : (m, a) ∈ us) (h2 : (m, b) ∈ us) : a = b := by
  have e1 := valO_at nd h1
  have e2 := valO_at nd h2
  rw [e1] at e2
  have := Option.some.inj e2
  injection this with e
  omega
theorem gf_grow {ps : List (List Int)} {p : List Int} {us : List (Int × Nat)} {qs : List (List Int)} {g : Nat} {y0 : Int} {n : Nat} (G : Gf ps p us qs g) (nd : ((us ++ [(y0, n)]).map (·.1)).Nodup) (known : ∀ x y : Int, [x, y] ∈ qs → x ∈ us.map (·.1) ∧ y ∈ us.map (·.1)) : Gf ps p (us ++ [(y0, n)]) qs g := by
  have old : ∀ (x : Int) (a : Nat), x ∈ us.map (·.1) → (x, a) ∈ us ++ [(y0, n)] → (x, a) ∈ us := fun x a hx ha => by
    rcases List.mem_append.mp ha with z | z
    · exact z
    · have z := List.mem_singleton.mp z
      cases z
      rw [List.map_append, List.nodup_append] at nd
      exact (nd.2.2 _ hx _ (List.mem_singleton.mpr rfl) rfl).elim
  exact ⟨fun x y a b h hx hy ha hb => G.all x y a b h hx hy (old x a (known x y h).1 ha) (old y b (known x y h).2 hb), fun d hd => G.most d fun x y a b h hx hy ha hb => hd x y a b h hx hy (List.mem_append_left _ ha) (List.mem_append_left _ hb)⟩
theorem gf_more {ps : List (List Int)} {p : List Int} {us : List (Int × Nat)} {qs : List (List Int)} {g : Nat} {x y : Int} {a b : Nat} (nd : (us.map (·.1)).Nodup) (G : Gf ps p us qs g) (hx : x ∈ p) (hy : y ∈ p) (ha : (x, a) ∈ us) (hb : (y, b) ∈ us) : Gf ps p us (qs ++ [[x, y]]) (Nat.gcd g (gapO a b)) := by
  refine ⟨fun x' y' a' b' h hx' hy' ha' hb' => ?_, fun d hd => Nat.dvd_gcd (G.most d fun x' y' a b h => hd x' y' a b (List.mem_append_left _ h)) (hd x y a b (List.mem_append_right _ (List.mem_singleton.mpr rfl)) hx hy ha hb)⟩
  rcases List.mem_append.mp h with e | e
  · exact Nat.dvd_trans (Nat.gcd_dvd_left _ _) (G.all x' y' a' b' e hx' hy' ha' hb')
  · have e := List.mem_singleton.mp e
    injection e with e1 e2
    injection e2 with e2 _
    subst e1 e2
    rw [one_off nd ha' ha, one_off nd hb' hb]
    exact Nat.gcd_dvd_right _ _
theorem gf_like {ps : List (List Int)} {p : List Int} {us : List (Int × Nat)} {qs qs' : List (List Int)} {g : Nat} (G : Gf ps p us qs g) (e : ∀ x y : Int, x ∈ p → y ∈ p → ([x, y] ∈ qs ↔ [x, y] ∈ qs')) : Gf ps p us qs' g :=
  ⟨fun x y a b h hx hy ha hb => G.all x y a b ((e x y hx hy).mpr h) hx hy ha hb, fun d hd => G.most d fun x y a b h hx hy ha hb => hd x y a b ((e x y hx hy).mp h) hx hy ha hb⟩
section
variable {P : Program} {w : World} {K : PySem.W.Frag} {mg : Str → Option Value} {base : Heap}
/-! ### _law_common -/
theorem scCommon : FnScope ["_law_one", "_law_other"] ["_law_one", "_law_other"] (defScope sCommon) := ⟨rfl, rfl, rfl, by decide +kernel, rfl, by decide +kernel, by decide +kernel⟩
def spCommon : Sp := fun vs H Q _ => ∃ a b : Int, vs = [.int a, .int b] ∧ Q (.int ((Int.gcd a b : Nat) : Int)) H
theorem ok_common {f : Addr} {fd : FuncData} (F : Fun K "_law_common" "_law_common" sCommon f fd) (B : Bare mg) : FnOk P w K mg base CX0 1 f fd ["_law_one", "_law_other"] spCommon := by
  refine F.ok scCommon (fun vs H Q E h => ?_) (fun cdv A outer s H vs Q E hr h => ?_)
  · obtain ⟨a, b, rfl, _⟩ := h
    rfl
  · obtain ⟨a, b, rfl, q⟩ := h
    refine ⟨_, pss_cons (ps_while PassesOwn.never (pt_cmpR op_ne (pv 1) pe_int (nomark _))
        (pss_one (ps_par (i := 0) (j := 1) (by rfl) scCommon.nd rfl rfl (by decide) rfl rfl (pa_cons (pv 1) (pa_cons (pe_op op_modN (pv 0) (pv 1)) pa_nil)) (by rfl))))
      (pss_one (ps_ret (pe_callB call_abs (by rfl) B.abs (by decide +kernel) (pa_cons (pv 0) pa_nil)))), ?_⟩
    refine ⟨fun k σ H' => ∃ c d : Int, σ = [some (.int c), some (.int d)] ∧ H' = H ∧ Int.gcd c d = Int.gcd a b ∧ k = d.natAbs, ⟨b.natAbs, a, b, rfl, rfl, rfl, rfl⟩, ?_⟩
    rintro k σ H1 ⟨c, d, rfl, rfl, e, rfl⟩
    refine ⟨.int d, rfl, rfl, _, rfl, ?_⟩
    rw [decV]
    by_cases hd : d = 0
    · subst hd
      rw [decide_eq_true rfl]
      refine iteF ⟨.int c, rfl, ?_⟩
      rw [Int.gcd_zero_right] at e
      refine ⟨c, rfl, ?_⟩
      rw [show (if c < 0 then -c else c) = ((Int.gcd a b : Nat) : Int) by rw [← e]; split <;> omega]
      exact q
    · rw [decide_eq_false hd]
      refine iteT ⟨fun σ H' => ∃ c' d' : Int, σ = [some (.int c'), some (.int d')] ∧ H' = H1 ∧ Int.gcd c' d' = Int.gcd a b ∧ d'.natAbs < d.natAbs, fun σ' H' z => ?_, ?_⟩
      · obtain ⟨c', d', e1, e2, e3, e4⟩ := z
        exact ⟨d'.natAbs, e4, c', d', e1, e2, e3, rfl⟩
      · refine ⟨.int d, rfl, .int c, rfl, .int d, rfl, c, d, rfl, rfl, hd, _, _, rfl, d, c.fmod d, rfl, rfl, ?_, fmod_small hd⟩
        rw [gcd_fmod]; exact e
end
end K75
set_option maxHeartbeats 4000000
namespace K75
open PySem PySem.Spec PyProof.Rows L2 RV
theorem paired_get {α β : Type} {F : α → β → Prop} : ∀ {ts : List α} {ks : List β}, ts.length = ks.length → (∀ (j : Nat) (t : α) (k : β), ts[j]? = some t → ks[j]? = some k → F t k) → Paired F ts ks
  | [], [], _, _ => .nil
  | [], _ :: _, h, _ => by cases h
  | _ :: _, [], h, _ => by cases h
  | t :: ts, k :: ks, h, f => .cons (f 0 t k rfl rfl) (paired_get (Nat.succ.inj h) fun j a b ha hb => f (j + 1) a b ha hb)
theorem merge_fn {f : Int → V} {k : Int} : ∀ (l : List Int) (kvs : List (L2.Key × V)), valV (mergeK kvs (l.map fun m => ((Sum.inl m : L2.Key), f m))) (Sum.inl k) = if k ∈ l then some (f k) else valV kvs (Sum.inl k)
  | [], kvs => by simp [mergeK]
  | m :: l, kvs => by
    show valV (mergeK (putK kvs (Sum.inl m) (f m)) (l.map fun m => ((Sum.inl m : L2.Key), f m))) (Sum.inl k) = _
    rw [merge_fn l, valV_put]
    by_cases e : k = m
    · subst e
      by_cases h : k ∈ l <;> simp [h]
    · have e' : ¬ (Sum.inl k : L2.Key) = Sum.inl m := fun z => e (Sum.inl.inj z)
      by_cases h : k ∈ l <;> simp [h, e, e']
/-- what _law_classes tells: the period and each mark's class -/
def Known (H : Hp) (t : Addr) (ps : List (List Int)) (N : Nat) (p : List Int) : Prop := ∃ (d : Addr) (kvs : List (L2.Key × V)), H t = some (.tup [.int ((perN ps (hd0 p) : Nat) : Int), .ref d]) ∧ H d = some (.dK kvs) ∧ ∀ m ∈ p, valV kvs (Sum.inl m) = some (.int ((clsM ps N m : Nat) : Int))
theorem Known.same {H H' : Hp} {t : Addr} {ps : List (List Int)} {N : Nat} {p : List Int} (h : Known H t ps N p) (s : Same H H') : Known H' t ps N p := by
  obtain ⟨d, kvs, h1, h2, h3⟩ := h
  exact ⟨d, kvs, s _ _ h1, s _ _ h2, h3⟩
section
variable {P : Program} {w : World} {K : PySem.W.Frag} {mg : Str → Option Value} {base : Heap}
/-! ### _law_classes -/
abbrev nLC : List Str := ["_law_steps", "_law_part", "_law_off", "_law_waiting", "_law_goes", "_law_mark", "_law_other", "_law_a", "_law_b"]
theorem scLC : FnScope nLC ["_law_steps", "_law_part"] (defScope sLClasses) := ⟨rfl, rfl, rfl, by decide +kernel, rfl, by decide +kernel, by decide +kernel⟩
def spLC (K : PySem.W.Frag) : Sp := fun vs H Q _ => ∃ (c a : Addr) (ns p : List Int) (ps : List (List Int)), vs = [.ref c, .ref a] ∧ TupsH H c ps ∧ Mir ns ∧ Stp ns ps ∧ p ∈ partsOf ps ns.length ∧ SqT K H a (p.map V.int) ∧
  ∀ (H' : Hp) (t : Addr), Same H H' → Known H' t ps ns.length p → Per ps (hd0 p) (perN ps (hd0 p)) → Q (.ref t) H'
theorem ok_lc {f fC : Addr} {fd dC : FuncData} (F : Fun K "_law_classes" "_law_classes" sLClasses f fd) (DC : DefAt K mg "_law_common" sCommon ["_law_one", "_law_other"] fC dC) (B : Bare mg) : FnOk P w K mg base CX0 2 f fd ["_law_steps", "_law_part"] (spLC K) := by
  have GC : FnOk P w K mg base CX0 1 fC dC ["_law_one", "_law_other"] spCommon := ok_common DC.fn B
  refine F.ok scLC (fun vs H Q E h => ?_) (fun cdv A outer s H vs Q E hr h => ?_)
  · obtain ⟨c, a, ns, p, ps, rfl, _⟩ := h
    rfl
  · obtain ⟨c, a, ns, p, ps, rfl, hC, M, S, hp, hA, q⟩ := h
    have hu := hu_of hr
    have hu5 := un65 hr
    have one : (1 : Nat) ≤ sizeLine := by decide
    have two : (2 : Nat) ≤ sizeLine := by decide
    have three : (3 : Nat) ≤ sizeLine := by decide
    refine ⟨_, pss_cons (ps_asg (pe_tup (pa_cons (pe_disp (pps_cons (pe_ix ix_tup (pv 1) pe_int (fun _ _ => rfl)) pe_int pps_nil) rfl rfl (by simp) (by decide)) (pa_cons (pe_lst (pa_cons (pe_ix ix_tup (pv 1) pe_int (fun _ _ => rfl)) pa_nil)) (pa_cons pe_int pa_nil)))) (pg_tup rfl (pgs_cons (pg_name (i := 2) scLC.nd rfl (Or.inr rfl)) (pgs_cons (pg_name (i := 3) scLC.nd rfl (Or.inl rfl)) (pgs_cons (pg_name (i := 4) scLC.nd rfl (Or.inr rfl)) pgs_nil)))))
      (pss_cons (ps_while PassesOwn.never (pt_cmpR (op_neD hr.units) (pv 3) (pe_lst pa_nil) (nomark _))
        (pss_cons (ps_set (i := 5) scLC.nd rfl (Or.inr rfl) (pe_bm PySem.F.plainAttrs_list PySem.F.slot_list_pop PySem.F.type_list_pop mt_popAt (pv 3) (pa_cons pe_int pa_nil)))
        (pss_one (ps_for PassesOwn.never rfl (pi_list (pe_lc (own := [("_law_a", 7), ("_law_b", 8)]) (g := gTup K 2 (gCons (gName 7) (gCons (gName 8) gNil))) rfl scLC.nd (pi_tup (pv 0)) (blkOk_by (N := nLC) (sc := defScope sLClasses) (by decide +kernel))
            (fun _ _ _ _ _ => pg_tupK rfl rfl (pgs_cons (pg_name (i := 7) scLC.nd rfl (Or.inl rfl)) (pgs_cons (pg_name (i := 8) scLC.nd rfl (Or.inl rfl)) pgs_nil)))
            (fun _ _ _ _ _ => pts_one (PW.pt (pw_and (pt_cmpR op_eq (pv 7) (pv 5) (nomark _)) (pw_and1 (pt_cmpR (op_inTIK (K := K) rfl hu5) (pv 8) (pv 1) (by rfl))))))
            (fun _ _ _ _ _ => pv 8))) (pg_name (i := 6) scLC.nd rfl (Or.inl rfl))
          (pss_one (ps_if (pt_cmp (pc_din hu (pv 6) (pv 2)))
            (pss_one (ps_set (i := 4) scLC.nd rfl (Or.inr rfl) (pe_call GC hr (by rfl) DC.mg DC.fn.kp DC.bi .nil pass0 (pa_cons (pv 4) (pa_cons (pe_op op_sub (pe_op op_add (pe_dget hu (pv 2) (pv 5) (fun _ _ => rfl)) pe_int) (pe_dget hu (pv 2) (pv 6) (fun _ _ => rfl))) pa_nil)))))
            (pss_cons (ps_dput hu (pv 2) (pv 6) (pe_op op_add (pe_dget hu (pv 2) (pv 5) (fun _ _ => rfl)) pe_int) rfl)
            (pss_one (ps_expr (pe_bm PySem.F.plainAttrs_list PySem.F.slot_list_append PySem.F.type_list_append mt_append (pv 3) (pa_cons (pv 6) pa_nil)))))))))))
      (pss_one (ps_ret (pe_tup (pa_cons (pv 4) (pa_cons (pe_callTy (call_dictP rfl) (by rfl) B.dict boot_dict (pa_cons
        (pe_lc (own := [("_law_mark", 5)]) (g := gName 5) (tt := tYes) rfl scLC.nd (pi_tup (pv 1)) (blkOk_by (N := nLC) (sc := defScope sLClasses) (by decide +kernel)) (fun _ _ _ _ _ => pg_name (i := 5) scLC.nd rfl (Or.inl rfl)) (fun _ _ _ _ _ => pts_nil)
          (fun _ _ _ _ _ => pe_tup (pa_cons (pv 5) (pa_cons (pe_op op_mod (pe_dget hu (pv 2) (pv 5) (fun _ _ => rfl)) (pv 4)) pa_nil)))) pa_nil)) pa_nil)))))), ?_⟩
    have h8 := M.few
    have hP : ∀ q ∈ ps, Pr (ns.length : Int) q := fun q hq => S.pair q hq
    have hpp : ∀ p ∈ ps, ∃ x y : Int, p = [x, y] := fun p hp => by
      obtain ⟨x, y, e, _⟩ := hP p hp
      exact ⟨x, y, e⟩
    have kn := knot_of hP hp
    have l8 := part_len8 h8 hp
    have hx0 : (p.map V.int)[0]? = some (.int (hd0 p)) := by
      cases e : p with
      | nil => exact absurd e (part_ne hp)
      | cons x l => rfl
    refine fun d nd => ⟨.ref a, rfl, a, _, 0, .int (hd0 p), rfl, rfl, sqT_same (same_upd nd) hA, atI_nat (j := 0) hx0, ?_⟩
    refine ⟨upd_same, [(Sum.inl (hd0 p), .int 0)], rfl, (by show 1 ≤ 15; decide), ?_⟩
    have s1 : Same H (upd (upd H d (.dK [])) d (.dK (mergeK [] [(Sum.inl (hd0 p), .int 0)]))) := fun b o e => by
      rw [upd_ne (ne_of_none e nd), upd_ne (ne_of_none e nd)]; exact e
    have ed : (upd (upd H d (.dK [])) d (.dK (mergeK [] [(Sum.inl (hd0 p), .int 0)]))) d = some (.dK ([(hd0 p, 0)].map kO)) := upd_same
    generalize upd (upd H d (.dK [])) d (.dK (mergeK [] [(Sum.inl (hd0 p), .int 0)])) = H1 at s1 ed ⊢
    refine ⟨.ref a, rfl, a, _, 0, .int (hd0 p), rfl, rfl, sqT_same s1 hA, atI_nat (j := 0) hx0, one, fun L nL => ⟨three, fun T nT => ?_⟩⟩
    have sL := same_upd (o := .lst [.int (hd0 p)]) nL
    have sT := same_upd (o := .tup [.ref d, .ref L, .int 0]) nT
    have nLH : H L = none := s1.free nL
    have ndL : d ≠ L := ne_of_none ed nL
    have s3 := (s1.trans sL).trans sT
    have ed3 := (sL.trans sT) _ _ ed
    have eL3 : (upd (upd H1 L (.lst [.int (hd0 p)])) T (.tup [.ref d, .ref L, .int 0])) L = some (.lst [.int (hd0 p)]) := sT _ _ upd_same
    have eT3 : (upd (upd H1 L (.lst [.int (hd0 p)])) T (.tup [.ref d, .ref L, .int 0])) T = some (.tup [.ref d, .ref L, .int 0]) := upd_same
    generalize upd (upd H1 L (.lst [.int (hd0 p)])) T (.tup [.ref d, .ref L, .int 0]) = H3 at s3 ed3 eL3 eT3 ⊢
    refine ⟨T, _, rfl, tupNew eT3, rfl, _, _, rfl, _, _, rfl, _, _, rfl, rfl, ?_⟩
    refine ⟨fun k σ H' => ∃ (us : List (Int × Nat)) (at_ g : Nat) (qs : List (List Int)) (y5 y6 y7 y8 : Option V), σ = [some (.ref c), some (.ref a), some (.ref d), some (.ref L), some (.int (g : Int)), y5, y6, y7, y8] ∧ Same H H' ∧ H' d = some (.dK (us.map kO)) ∧ H' L = some (.lst (((us.map (·.1)).drop at_).map V.int)) ∧ Bf ps p (hd0 p) us ∧ at_ ≤ us.length ∧ Gf ps p us qs g ∧ (∀ x y : Int, x ∈ p → y ∈ p → ([x, y] ∈ qs ↔ [x, y] ∈ ps ∧ x ∈ (us.take at_).map (·.1))) ∧ (∀ x y : Int, [x, y] ∈ qs → x ∈ us.map (·.1) ∧ y ∈ us.map (·.1)) ∧ k + at_ = 8,
      ⟨8, [(hd0 p, 0)], 0, 0, [], _, _, _, _, rfl, s3, ed3, eL3, Bf.start kn.x_in, Nat.zero_le _, Gf.nil, fun x y _ _ => ⟨fun z => (by cases z), fun z => (by simp at z)⟩, fun _ _ z => (by cases z), rfl⟩, ?_⟩
    rintro k σ H4 ⟨us, at_, g, qs, y5, y6, y7, y8, rfl, s4, ed4, eL4, bf, hle, G, hqs, known, hk⟩
    have bl := bf.len
    refine ⟨.ref L, rfl, Nat.zero_le _, fun z nz => ⟨.list ((((us.map (·.1)).drop at_)).map PyData.int), .list (([] : List Int).map PyData.int), .lst (lstNew ((same_upd nz) _ _ eL4)) (dpInts _), .lst (lstNew upd_same) .nil, shapedL _, shapedL [], _, rfl, ?_⟩⟩
    rw [eqvL]
    have sz := same_upd (o := .lst []) nz
    have s5 := s4.trans sz
    have ed5 := sz _ _ ed4
    have eL5 := sz _ _ eL4
    generalize upd H4 z (.lst []) = H5 at s5 ed5 eL5 ⊢
    by_cases hlt : at_ < us.length
    · obtain ⟨u, gu⟩ : ∃ u, us[at_]? = some u := ⟨_, List.getElem?_eq_getElem hlt⟩
      have hdrop : (us.map (·.1)).drop at_ = u.1 :: (us.map (·.1)).drop (at_ + 1) := by
        have hl : at_ < (us.map (·.1)).length := by rw [List.length_map]; exact hlt
        rw [List.drop_eq_getElem_cons hl]
        congr 1
        have e := (List.getElem?_eq_some_iff.mp gu).2
        rw [List.getElem_map, e]
      rw [decide_eq_false (by rw [hdrop]; simp)]
      rw [hdrop] at eL5
      obtain ⟨wu1, wu2, wu3⟩ := bf.wk _ _ gu
      refine iteT ⟨fun σ H' => ∃ (us : List (Int × Nat)) (at_ g : Nat) (qs : List (List Int)) (y5 y6 y7 y8 : Option V), σ = [some (.ref c), some (.ref a), some (.ref d), some (.ref L), some (.int (g : Int)), y5, y6, y7, y8] ∧ Same H H' ∧ H' d = some (.dK (us.map kO)) ∧ H' L = some (.lst (((us.map (·.1)).drop at_).map V.int)) ∧ Bf ps p (hd0 p) us ∧ at_ ≤ us.length ∧ Gf ps p us qs g ∧ (∀ x y : Int, x ∈ p → y ∈ p → ([x, y] ∈ qs ↔ [x, y] ∈ ps ∧ x ∈ (us.take at_).map (·.1))) ∧ (∀ x y : Int, [x, y] ∈ qs → x ∈ us.map (·.1) ∧ y ∈ us.map (·.1)) ∧ (k - 1) + at_ = 8, fun σ' H' z => ⟨k - 1, by omega, z⟩, ?_⟩
      refine ⟨.ref L, rfl, .inl ⟨rfl, _, lstNew eL5⟩, L, _, 0, 0, .int u.1, rfl, rfl, eL5, by decide, by decide, by simp [seqIndex?], rfl, ?_⟩
      have eL6 : (upd H5 L (.lst (((u.1 :: (us.map (·.1)).drop (at_ + 1)).map V.int).eraseIdx 0))) L = some (.lst (((us.map (·.1)).drop (at_ + 1)).map V.int)) := upd_same
      have ed6 : (upd H5 L (.lst (((u.1 :: (us.map (·.1)).drop (at_ + 1)).map V.int).eraseIdx 0))) d = some (.dK (us.map kO)) := by rw [upd_ne ndL]; exact ed5
      have s6 : Same H (upd H5 L (.lst (((u.1 :: (us.map (·.1)).drop (at_ + 1)).map V.int).eraseIdx 0))) := fun b o e => by rw [upd_ne (ne_of_none e nLH)]; exact s5 b o e
      generalize upd H5 L (.lst (((u.1 :: (us.map (·.1)).drop (at_ + 1)).map V.int).eraseIdx 0)) = H6 at eL6 ed6 s6 ⊢
      have hC6 := hC.same s6
      refine ⟨.ref c, rfl, c, rfl, ⟨_, hC6.tups.choose_spec.2.1⟩, fun D nD => ?_⟩
      refine lc_pairs (c := fun x y => decide (V.int x = V.int u.1) && decide (y ∈ p)) hC6.tups (by have := S.few; omega) hpp nD (fun x y => rfl) (fun x y hxy H' s' A' B' h => ?_) (fun x y H' Q' h => ⟨.int y, rfl, h⟩) fun H7 s7 e7 => ?_
      · refine ⟨.int x, rfl, .int u.1, rfl, rfl, _, rfl, ?_⟩
        have hh := h H' (Same.refl H')
        cases e1 : decide (V.int x = V.int u.1) with
        | false =>
          rw [e1] at hh
          exact iteF (A := True) hh
        | true =>
          rw [e1] at hh
          exact iteT ⟨.int y, rfl, .ref a, rfl, a, y, p, rfl, rfl, sqT_same (s6.trans s') hA, _, rfl, hh⟩
      have mem : ∀ y, y ∈ sel (fun x y => decide (V.int x = V.int u.1) && decide (y ∈ p)) ps ↔ [u.1, y] ∈ ps ∧ y ∈ p := fun y => by
        rw [mem_sel hP]
        constructor
        · rintro ⟨x, h1, h2⟩
          rw [Bool.and_eq_true] at h2
          have e := V.int.inj (of_decide_eq_true h2.1)
          rw [← e]; exact ⟨h1, of_decide_eq_true h2.2⟩
        · rintro ⟨h1, h2⟩
          exact ⟨u.1, h1, by rw [Bool.and_eq_true]; exact ⟨decide_eq_true rfl, decide_eq_true h2⟩⟩
      generalize sel (fun x y => decide (V.int x = V.int u.1) && decide (y ∈ p)) ps = os at e7 mem
      have s67 := s6.trans s7
      have ed7 := s7 _ _ ed6
      have eL7 := s7 _ _ eL6
      have hDd : D ≠ d := (ne_of_none ed6 nD).symm
      have hDL : D ≠ L := (ne_of_none eL6 nD).symm
      refine ⟨D, rfl, ⟨_, lstNew e7⟩, ?_⟩
      refine for_list (K := K) (a := D) (xs := os.map V.int) (fun j σ H' => ∃ (us' : List (Int × Nat)) (g' : Nat) (y6 : Option V), σ = [some (.ref c), some (.ref a), some (.ref d), some (.ref L), some (.int (g' : Int)), some (.int u.1), y6, y7, y8] ∧ Same H H' ∧ H' D = some (.lst (os.map V.int)) ∧ H' d = some (.dK (us'.map kO)) ∧ H' L = some (.lst (((us'.map (·.1)).drop (at_ + 1)).map V.int)) ∧ Bf ps p (hd0 p) us' ∧ (∃ nw, us' = us ++ nw) ∧ Gf ps p us' (qs ++ (os.take j).map fun y => [u.1, y]) g' ∧ ∀ x y : Int, ([x, y] ∈ qs ++ (os.take j).map fun y => [u.1, y]) → x ∈ us'.map (·.1) ∧ y ∈ us'.map (·.1))
        ⟨us, g, _, rfl, s67, e7, ed7, eL7, bf, ⟨[], (List.append_nil us).symm⟩, (by rw [List.take_zero, List.map_nil, List.append_nil]; exact G), fun x y h => known x y (by rw [List.take_zero, List.map_nil, List.append_nil] at h; exact h)⟩ (fun j σ H' _ h => ?_) (fun j v σ H8 hv h => ?_) (fun σ H8 h => ?_)
      · obtain ⟨_, _, _, _, _, eD, _⟩ := h
        exact lstNew eD
      · obtain ⟨us', g', y6, rfl, s8, eD8, ed8, eL8, bf8, ⟨nw, enw⟩, G8, kn8⟩ := h
        obtain ⟨y, gy, rfl⟩ := map_at hv
        obtain ⟨hy1, hy2⟩ := (mem y).mp (List.mem_of_getElem? gy)
        have gu' : us'[at_]? = some u := by rw [enw, List.getElem?_append_left hlt]; exact gu
        have hu' := List.mem_of_getElem? gu'
        have hku : u.1 ∈ us'.map (·.1) := List.mem_map_of_mem hu'
        have ev' := valO_at bf8.nd hu'
        have bl8 := bf8.len
        have nxt : (qs ++ (os.take (j + 1)).map fun y => [u.1, y]) = (qs ++ (os.take j).map fun y => [u.1, y]) ++ [[u.1, y]] := by
          rw [List.take_add_one, gy, List.map_append, List.append_assoc]; rfl
        refine ⟨.int y, rfl, .ref d, rfl, d, _, rfl, DGet.k (k := Sum.inl y) ed8, _, rfl, ?_⟩
        cases ev : valV (us'.map kO) (Sum.inl y) with
        | some v =>
          have hyk := valO_in ev
          obtain ⟨w', hw', ew⟩ := List.mem_map.mp hyk
          have ew : w'.1 = y := ew
          have evy := valO_at bf8.nd hw'
          rw [ew] at evy
          refine iteT ⟨.int (g' : Int), rfl, .ref d, rfl, .int u.1, rfl, d, _, rfl, (by rw [← ev']; exact DGet.k (k := Sum.inl u.1) ed8), _, _, rfl, rfl, .ref d, rfl, .int y, rfl, d, _, rfl, (by rw [← evy]; exact DGet.k (k := Sum.inl y) ed8), _, _, rfl, rfl, (g' : Int), _, rfl, ?_⟩
          refine ⟨us', Nat.gcd g' (gapO u.2 w'.2), some (.int y), rfl, s8, eD8, ed8, eL8, bf8, ⟨nw, enw⟩, ?_, fun x y' h => ?_⟩
          · rw [nxt]
            exact gf_more bf8.nd G8 wu2 hy2 hu' (by rw [← ew]; exact hw')
          · rw [nxt] at h
            rcases List.mem_append.mp h with h | h
            · exact kn8 x y' h
            · have h := List.mem_singleton.mp h
              cases h
              exact ⟨hku, hyk⟩
        | none =>
          have bfn := bf8.add gu' hy1 hy2 (valO_not ev)
          have dput : DPut H8 d (kV (Sum.inl y)) (.int ((u.2 : Int) + 1)) (upd H8 d (.dK ((us' ++ [(y, u.2 + 1)]).map kO))) := by
            rw [← putO_new ev]
            exact DPut.k ed8 (by rw [List.length_map]; exact few1 (by omega))
          refine iteF ⟨.ref d, rfl, .int u.1, rfl, d, _, rfl, (by rw [← ev']; exact DGet.k (k := Sum.inl u.1) ed8), _, _, rfl, rfl, .ref d, rfl, .int y, rfl, d, upd H8 d (.dK ((us' ++ [(y, u.2 + 1)]).map kO)), rfl, dput, ?_⟩
          have eL9 : (upd H8 d (.dK ((us' ++ [(y, u.2 + 1)]).map kO))) L = some (.lst (((us'.map (·.1)).drop (at_ + 1)).map V.int)) := by rw [upd_ne ndL.symm]; exact eL8
          refine ⟨.ref L, rfl, .inl ⟨rfl, _, lstNew eL9⟩, .int y, rfl, L, _, _, rfl, rfl, eL9, by rw [List.length_map, List.length_drop, List.length_map]; exact few1 (by omega), ?_⟩
          have hat : at_ + 1 ≤ (us'.map (·.1)).length := by rw [enw, List.length_map, List.length_append]; omega
          refine ⟨us' ++ [(y, u.2 + 1)], g', _, rfl, fun b o e => ?_, ?_, ?_, ?_, bfn, ⟨nw ++ [(y, u.2 + 1)], by rw [enw, List.append_assoc]⟩, ?_, fun x y' h => ?_⟩
          · rw [upd_ne (ne_of_none e nLH), upd_ne (ne_of_none e nd)]; exact s8 b o e
          · rw [upd_ne hDL, upd_ne hDd]; exact eD8
          · rw [upd_ne ndL, upd_same]
          · rw [upd_same, List.map_append, List.drop_append_of_le_length hat, List.map_append]; rfl
          · rw [nxt]
            have z := gf_more bfn.nd (gf_grow G8 bfn.nd kn8) wu2 hy2 (List.mem_append_left _ hu') (List.mem_append_right us' (List.mem_singleton.mpr rfl) : (y, u.2 + 1) ∈ us' ++ [(y, u.2 + 1)])
            rwa [show gapO u.2 (u.2 + 1) = 0 by unfold gapO; omega, Nat.gcd_zero_right] at z
          · rw [nxt] at h
            rw [List.map_append]
            rcases List.mem_append.mp h with h | h
            · exact ⟨List.mem_append_left _ (kn8 x y' h).1, List.mem_append_left _ (kn8 x y' h).2⟩
            · have h := List.mem_singleton.mp h
              cases h
              exact ⟨List.mem_append_left _ hku, List.mem_append_right _ (List.mem_singleton.mpr rfl)⟩
      · obtain ⟨us', g', y6, rfl, s8, eD8, ed8, eL8, bf8, ⟨nw, enw⟩, G8, kn8⟩ := h
        rw [List.length_map, List.take_of_length_le (Nat.le_refl _)] at G8 kn8
        refine ⟨us', at_ + 1, g', _, _, _, _, _, rfl, s8, ed8, eL8, bf8, by rw [enw, List.length_append]; omega, G8, fun x y hx hy => ?_, kn8, by omega⟩
        have tk : us'.take (at_ + 1) = us.take at_ ++ [u] := by rw [enw, List.take_append_of_le_length (by omega), List.take_add_one, gu]; rfl
        rw [tk, List.mem_append, hqs x y hx hy, List.map_append, List.mem_append]
        constructor
        · rintro (⟨h1, h2⟩ | h)
          · exact ⟨h1, .inl h2⟩
          · obtain ⟨y', hy', e⟩ := List.mem_map.mp h
            cases e
            exact ⟨((mem _).mp hy').1, .inr (List.mem_singleton.mpr rfl)⟩
        · rintro ⟨h1, h2 | h2⟩
          · exact .inl ⟨h1, h2⟩
          · have e : x = u.1 := List.mem_singleton.mp h2
            subst e
            exact .inr (List.mem_map.mpr ⟨y, (mem y).mpr ⟨h1, hy⟩, rfl⟩)
    · have hge : us.length ≤ at_ := by omega
      have enil : (us.map (·.1)).drop at_ = [] := List.drop_eq_nil_of_le (by rw [List.length_map]; exact hge)
      rw [decide_eq_true enil]
      have tall : us.take at_ = us := List.take_of_length_le hge
      rw [tall] at hqs
      have O : Offs ps p (hd0 p) us := bf.offs kn l8 fun i v hv y hy e => by
        obtain ⟨_, w2, _⟩ := bf.wk i v hv
        exact (known v.1 y ((hqs v.1 y w2 hy).mpr ⟨e, List.mem_map_of_mem (List.mem_of_getElem? hv)⟩)).2
      have G' : Gf ps p us ps g := gf_like G fun x y hx hy => (hqs x y hx hy).trans ⟨fun h => h.1, fun h => ⟨h, O.all x hx⟩⟩
      have per := Gf.per G' O kn hP h8 fun m hm => part_bd hp hm
      have eper := per.is
      rw [← eper] at per
      obtain ⟨hx0', hl0⟩ := part_hd_in hp
      have hxl : hd0 p ∈ lotOf ps ns.length (hd0 p) := by rw [hl0]; exact hx0'
      have pos : 0 < perN ps (hd0 p) := per.pos (lot_some hxl)
      refine iteF ⟨.int (g : Int), rfl, .ref a, rfl, a, rfl, ⟨_, sqT_same s5 hA⟩, fun D nD => ?_⟩
      rw [← eper]
      refine lc_tup (K := K) (a := a) (xs := p.map V.int) (fun i H' => Same H5 H' ∧ ∃ ts : List Addr, H' D = some (.lst (ts.map V.ref)) ∧ ts.length = i ∧ ∀ (j : Nat) (t : Addr) (m : Int), ts[j]? = some t → p[j]? = some m → H' t = some (.tup [.int m, .int ((clsM ps ns.length m : Nat) : Int)]))
        ⟨same_upd nD, [], upd_same, rfl, fun _ _ _ z => (by cases z)⟩ (fun i H' _ h => sqT_same h.1 (sqT_same s5 hA)) (fun i x H6 hx h => ?_) fun H6 h => ?_
      · obtain ⟨m, gm, rfl⟩ := map_at hx
        obtain ⟨s6, ts, eD, lt, hts⟩ := h
        have hm := List.mem_of_getElem? gm
        have hi := (List.getElem?_eq_some_iff.mp gm).1
        obtain ⟨o, ho, wo, _⟩ := O.get hm
        have eo := valO_at O.nd ho
        refine ⟨rfl, tt_yes ⟨.int m, rfl, .ref d, rfl, .int m, rfl, d, _, rfl, (by rw [← eo]; exact DGet.k (k := Sum.inl m) (s6 _ _ ed5)), .int ((perN ps (hd0 p) : Nat) : Int), rfl, _, _, rfl, rfl, (by show (0 : Int) < ((perN ps (hd0 p) : Nat) : Int); omega), two, fun t nt => ?_⟩⟩
        have ec : ((o : Int) % ((perN ps (hd0 p) : Nat) : Int)) = ((clsM ps ns.length m : Nat) : Int) := by
          rw [clsM_of hp hm, ← per.cls wo (kn.back m hm)]
          exact (Int.natCast_emod _ _).symm
        have st := same_upd (o := .tup [.int m, .int ((o : Int) % ((perN ps (hd0 p) : Nat) : Int))]) nt
        have et : (upd H6 t (.tup [.int m, .int ((o : Int) % ((perN ps (hd0 p) : Nat) : Int))])) t = some (.tup [.int m, .int ((clsM ps ns.length m : Nat) : Int)]) := by rw [upd_same, ec]
        have eD7 := st _ _ eD
        have old : ∀ (j : Nat) (t' : Addr) (m' : Int), ts[j]? = some t' → p[j]? = some m' → (upd H6 t (.tup [.int m, .int ((o : Int) % ((perN ps (hd0 p) : Nat) : Int))])) t' = some (.tup [.int m', .int ((clsM ps ns.length m' : Nat) : Int)]) := fun j t' m' h1 h2 => st _ _ (hts j t' m' h1 h2)
        generalize upd H6 t (.tup [.int m, .int ((o : Int) % ((perN ps (hd0 p) : Nat) : Int))]) = H7 at st et eD7 old ⊢
        refine ⟨_, eD7, by rw [List.length_map, lt]; exact few1 (by omega), fun b o' z => ?_, ts ++ [t], by rw [upd_same, List.map_append]; rfl, by rw [List.length_append, lt]; rfl, fun j t' m' h1 h2 => ?_⟩
        · rw [upd_ne (ne_of_none z nD)]; exact st _ _ (s6 b o' z)
        · have tp : ∀ (t' : Addr) (vs : List V) (o' : HO), H7 t' = some (.tup vs) → (upd H7 D o') t' = some (.tup vs) := fun t' vs o' e => by rw [upd_ne (fun z => by rw [z, eD7] at e; cases e)]; exact e
          rcases Nat.lt_or_ge j ts.length with z | z
          · rw [List.getElem?_append_left z] at h1
            exact tp _ _ _ (old j t' m' h1 h2)
          · rw [List.getElem?_append_right z] at h1
            have ej : j = i := by
              have := (List.getElem?_eq_some_iff.mp h1).1
              simp at this; omega
            rw [ej, lt, Nat.sub_self] at h1
            cases h1
            rw [ej, gm] at h2
            cases h2
            exact tp _ _ _ et
      · obtain ⟨s6, ts, eD, lt, hts⟩ := h
        rw [List.length_map] at lt
        refine ⟨D, ts, p.map fun m => ((Sum.inl m : L2.Key), V.int ((clsM ps ns.length m : Nat) : Int)), rfl, lstNew eD, paired_get (by rw [List.length_map]; exact lt) (fun j t kv h1 h2 => ?_), fun dd ndd => ⟨two, fun t nt => ?_⟩⟩
        · rw [List.getElem?_map] at h2
          obtain ⟨m, gm, rfl⟩ := Option.map_eq_some_iff.mp h2
          exact tupNew (hts j t m h1 gm)
        · have sd := same_upd (o := .dK (mergeK [] (p.map fun m => ((Sum.inl m : L2.Key), V.int ((clsM ps ns.length m : Nat) : Int))))) ndd
          have st := same_upd (o := .tup [.int ((perN ps (hd0 p) : Nat) : Int), .ref dd]) nt
          refine q _ t (((s5.trans s6).trans sd).trans st) ⟨dd, _, upd_same, st _ _ upd_same, fun m hm => ?_⟩ per
          rw [merge_fn, if_pos hm]
end
end K75
set_option maxHeartbeats 4000000
namespace K75
open PySem PySem.Spec PyProof.Rows L2 RV
theorem cls_lt {ps : List (List Int)} {n : Nat} {p : List Int} {m : Int} (hp : p ∈ partsOf ps n) (hm : m ∈ p) (pos : 0 < perN ps (hd0 p)) : clsM ps n m < perN ps (hd0 p) := by
  rw [clsM_of hp hm]
  unfold clsN
  split
  · exact Nat.mod_lt _ pos
  · exact pos
theorem rest_eq {a b n : Int} (ha : 0 ≤ a ∧ a < n) (hb : 0 ≤ b ∧ b < n) : (a - b) % n = 0 ↔ a = b := by
  rw [← Int.emod_eq_emod_iff_emod_sub_eq_zero, Int.emod_eq_of_lt ha.1 ha.2, Int.emod_eq_of_lt hb.1 hb.2]
/-- whether a mark makes this axis class -/
noncomputable def mk2 (ns : List Int) (ps : List (List Int)) (z m : Int) : Bool := atAx ns ps m (z % 2) && decide (z = 2 * ((clsM ps ns.length m : Nat) : Int) + z % 2)
theorem mk_even {ns : List Int} {ps : List (List Int)} {z : Int} (hz : z % 2 = 0) {p : List Int} : (p.filter (mk2 ns ps z)).map (mirI ns) = p.filter (mk2 ns ps z) := by
  rw [List.map_congr_left (g := id), List.map_id]
  intro x hx
  have h := (List.mem_filter.mp hx).2
  unfold mk2 atAx at h
  rw [hz, if_pos rfl, Bool.and_eq_true, decide_eq_true_iff] at h
  exact h.1
end K75
set_option maxHeartbeats 4000000
namespace K75
open PySem PySem.Spec PyProof.Rows L2 RV
theorem rule_pail {K : PySem.W.Frag} {C : Addr} {H H' : Hp} {p r : Addr} {t : Nat} {ns : List Int} {ps : List (List Int)} (R : RuleAt K C H r ns ps) (hp : PailAt H p t) (b : But p H H') : RuleAt K C H' r ns ps := by
  obtain ⟨dx, a, c, d, h1, h2, h3, h4⟩ := R.ex
  obtain ⟨x, y, e, rest⟩ := hp
  exact ⟨dx, a, c, d, b _ _ h1 (fun z => by rw [z, e] at h1; cases h1), sqT_pail ⟨x, y, e, rest⟩ b h2, tups_pail ⟨x, y, e, rest⟩ b h3, tups_pail ⟨x, y, e, rest⟩ b h4⟩
theorem tup_pail {H H' : Hp} {p a : Addr} {t : Nat} {xs : List V} (h : H a = some (.tup xs)) (hp : PailAt H p t) (b : But p H H') : H' a = some (.tup xs) := by
  obtain ⟨x, y, e, rest⟩ := hp
  exact b _ _ h fun z => by rw [z, e] at h; cases h
theorem OwnH.pail {K : PySem.W.Frag} {H H' : Hp} {p R : Addr} {t : Nat} {ns : List Int} {ps : List (List Int)} (h : OwnH K H R ns ps) (hp : PailAt H p t) (b : But p H H') : OwnH K H' R ns ps := by
  obtain ⟨u, c, o1, o2, o3, M, S⟩ := h
  exact ⟨u, c, tup_pail o1 hp b, sqT_pail hp b o2, o3.but hp b, M, S⟩
theorem OwnH.same {K : PySem.W.Frag} {H H' : Hp} {R : Addr} {ns : List Int} {ps : List (List Int)} (h : OwnH K H R ns ps) (s : Same H H') : OwnH K H' R ns ps := by
  obtain ⟨u, c, o1, o2, o3, M, S⟩ := h
  exact ⟨u, c, s _ _ o1, sqT_same s o2, o3.same s, M, S⟩
theorem part_is {ps : List (List Int)} {n : Nat} {p : List Int} (h : p ∈ partsOf ps n) : ∀ m ∈ p, lotOf ps n m = p := fun m hm => part_lot h hm
theorem op_neDK {X : Cx} {K : PySem.W.Frag} (h : X.K = K) (hu : X.A.units + 64 < cLine) : OpR X (compareOp .NotEq) (rNeD K) := h ▸ op_neD hu
/-- the axis classes by this law's own sets -/
theorem ax_any {ns : List Int} {ps : List (List Int)} {p : List Int} (hp : p ∈ partsOf ps ns.length) (pos : 0 < perN ps (hd0 p)) (own : Own ns p) (z : Int) : (z ∈ (upN (2 * perN ps (hd0 p))).filter fun z => p.any (mk2 ns ps z)) ↔ AxC ns ps p z := by
  rw [List.mem_filter, mem_upN, List.any_eq_true]
  constructor
  · rintro ⟨hz, m, hm, h⟩
    unfold mk2 at h
    rw [Bool.and_eq_true, decide_eq_true_iff] at h
    refine ⟨own, m, hm, z % 2, ?_, h.1, h.2⟩
    simp only [List.mem_cons, List.not_mem_nil, or_false]
    omega
  · rintro ⟨_, m, hm, g, hg, h1, h2⟩
    have cl := cls_lt hp hm pos
    simp only [List.mem_cons, List.not_mem_nil, or_false] at hg
    have eg : z % 2 = g := by omega
    refine ⟨by omega, m, hm, ?_⟩
    unfold mk2
    rw [Bool.and_eq_true, decide_eq_true_iff, eg]
    exact ⟨h1, h2⟩
theorem per_small {ps : List (List Int)} {n : Nat} (hP : ∀ q ∈ ps, Pr (n : Int) q) (h8 : n ≤ 8) {x : Int} {g : Nat} (per : Per ps x g) (r : Rch ps x x) : g ≤ 10 := by
  obtain ⟨k, wk⟩ := rch_wk r
  have bx := (Rch.bound hP r).1
  cases wk with
  | @more _ _ j _ w e =>
    obtain ⟨m, hm, wm⟩ := wk_short hP bx w
    have := Nat.le_of_dvd (by omega) (per.all (m + 1) (.more wm e))
    omega
section
variable {P : Program} {w : World} {K : PySem.W.Frag} {mg : Str → Option Value} {base : Heap}
/-! ### _law_axis_class -/
abbrev nL1 : List Str := ["_law_known", "_law_marks", "_law_s", "_law_goes", "_law_kinds_here"]
theorem scL1 : FnScope nL1 ["_law_known", "_law_marks", "_law_s"] (defScope sLAxis1) := ⟨rfl, rfl, rfl, by decide +kernel, rfl, by decide +kernel, by decide +kernel⟩
def spL1 (K : PySem.W.Frag) : Sp := fun vs H Q _ => ∃ (kn b : Addr) (sx m : Int) (N : Nat) (p ms : List Int) (ps : List (List Int)), vs = [.ref kn, .ref b, .int sx] ∧ Known H kn ps N p ∧ p ∈ partsOf ps N ∧ 0 < perN ps (hd0 p) ∧ SqT K H b (ms.map V.int) ∧ 0 ≤ sx ∧ ms[(sx / 2).toNat]? = some m ∧ m ∈ p ∧
  Q (.int (2 * ((clsM ps N m : Nat) : Int) + sx % 2)) H
theorem ok_l1 {f : Addr} {fd : FuncData} (F : Fun K "_law_axis_class" "_law_axis_class" sLAxis1 f fd) : FnOk P w K mg base CX0 1 f fd ["_law_known", "_law_marks", "_law_s"] (spL1 K) := by
  refine F.ok scL1 (fun vs H Q E h => ?_) (fun cdv A outer s H vs Q E hr h => ?_)
  · obtain ⟨kn, b, sx, m, N, p, ms, ps, rfl, _⟩ := h
    rfl
  · obtain ⟨kn, b, sx, m, N, p, ms, ps, rfl, ⟨d, kvs, d1, d2, d3⟩, hp, pos, hB, s0, gm, hm, q⟩ := h
    have hu := hu_of hr
    have cl := cls_lt hp hm pos
    refine ⟨_, pss_cons (ps_asg (pv 0) (pg_tup rfl (pgs_cons (pg_name (i := 3) scL1.nd rfl (Or.inl rfl)) (pgs_cons (pg_name (i := 4) scL1.nd rfl (Or.inl rfl)) pgs_nil))))
      (pss_one (ps_ret (pe_op op_mod (pe_op op_add (pe_op op_mul pe_int (pe_dget hu (pv 4) (pe_ix ix_tup (pv 1) (pe_op op_fdiv (pv 2) pe_int) (fun _ _ => rfl)) (fun _ _ => rfl))) (pe_op op_mod (pv 2) pe_int)) (pe_op op_mul pe_int (pv 3))))), ?_⟩
    refine ⟨.ref kn, rfl, kn, _, rfl, tupNew d1, rfl, _, _, rfl, _, _, rfl, rfl, ?_⟩
    have ga : atI (ms.map V.int) (sx / 2) = some (.int m) := by
      have e : (((sx / 2).toNat : Nat) : Int) = sx / 2 := Int.toNat_of_nonneg (by omega)
      rw [← e]
      exact atI_nat (by rw [List.getElem?_map, gm]; rfl)
    refine ⟨.ref d, rfl, .ref b, rfl, .int sx, rfl, sx, 2, rfl, rfl, ⟨by decide, by decide⟩, b, _, _, .int m, rfl, rfl, hB, ga, d, _, rfl, (by rw [← d3 m hm]; exact DGet.k (k := Sum.inl m) d2), 2, _, rfl, rfl, .inl ⟨by decide, by decide⟩, .int sx, rfl, sx, 2, rfl, rfl, by show (0 : Int) < 2; decide, _, _, rfl, rfl, .int ((perN ps (hd0 p) : Nat) : Int), rfl, 2, _, rfl, rfl, .inl ⟨by decide, by decide⟩, _, _, rfl, rfl, (by show (0 : Int) < _; omega), ?_⟩
    show Q (.int ((2 * ((clsM ps N m : Nat) : Int) + sx % 2) % (2 * ((perN ps (hd0 p) : Nat) : Int)))) H
    rw [Int.emod_eq_of_lt (by omega) (by omega)]
    exact q
end
end K75
set_option maxHeartbeats 4000000
/-! all rows of a part, gone through in their order; the first that closes -/
namespace RV
open PyProof.Rows
theorem lst_la (r : List Int) : lst0 r = la r := by
  unfold lst0 la
  cases r with
  | nil => rfl
  | cons x r => simp [List.getLastD, List.getLast?]
theorem lex_app : ∀ {r s : List Int} (x y : List Int), r.length = s.length → HT.lexLt r s = true → HT.lexLt (r ++ x) (s ++ y) = true
  | [], [], x, y, _, h => by cases h
  | a :: r, b :: s, x, y, hl, h => by
    rw [List.cons_append, List.cons_append, HT.lexLt_cons]
    rw [HT.lexLt_cons] at h
    by_cases e : a = b
    · rw [if_pos e] at h ⊢
      exact lex_app x y (Nat.succ.inj hl) h
    · rw [if_neg e] at h ⊢
      exact h
theorem lex_pre : ∀ (r x y : List Int), HT.lexLt (r ++ x) (r ++ y) = HT.lexLt x y
  | [], x, y => rfl
  | a :: r, x, y => by rw [List.cons_append, List.cons_append, HT.lexLt_cons, if_pos rfl, lex_pre r x y]
theorem lex_hd {r s : List Int} (hr : r ≠ []) (hs : s ≠ []) (h : HT.lexLt r s = true) : hd0 r ≤ hd0 s := by
  cases r with
  | nil => exact absurd rfl hr
  | cons a r =>
    cases s with
    | nil => exact absurd rfl hs
    | cons b s =>
      rw [HT.lexLt_cons] at h
      show a ≤ b
      by_cases e : a = b
      · omega
      · rw [if_neg e] at h
        exact Int.le_of_lt (of_decide_eq_true h)
section
variable {ps : List (List Int)} {p : List Int}
theorem rows_lng : ∀ (m : Nat) (r : List Int), r ∈ rowsN ps p m → r.length = m + 1
  | 0, r, hr => by obtain ⟨x, _, rfl⟩ := List.mem_map.mp hr; rfl
  | m + 1, r, hr => by
    obtain ⟨l', hl', hr'⟩ := List.mem_flatten.mp hr
    obtain ⟨r', hr'', rfl⟩ := List.mem_map.mp hl'
    obtain ⟨b, _, rfl⟩ := List.mem_map.mp hr'
    rw [List.length_append, rows_lng m r' hr'']; rfl
theorem rows_rise (hp : p.Pairwise (· < ·)) : ∀ m, (rowsN ps p m).Pairwise fun r s => HT.lexLt r s = true
  | 0 => by
    refine List.pairwise_map.mpr (hp.imp fun {a b} h => ?_)
    rw [HT.lexLt_cons, if_neg (by omega)]
    exact decide_eq_true h
  | m + 1 => by
    have ih := rows_rise hp m
    show (longer ps p (rowsN ps p m)).Pairwise _
    unfold longer
    rw [List.pairwise_flatten]
    constructor
    · intro l hl
      obtain ⟨r, hr, rfl⟩ := List.mem_map.mp hl
      refine List.pairwise_map.mpr ((hp.filter _).imp fun {a b} h => ?_)
      rw [lex_pre, HT.lexLt_cons, if_neg (by omega)]
      exact decide_eq_true h
    · refine List.pairwise_map.mpr (ih.imp_of_mem fun {r s} hr hs h x hx y hy => ?_)
      obtain ⟨a, _, rfl⟩ := List.mem_map.mp hx
      obtain ⟨b, _, rfl⟩ := List.mem_map.mp hy
      exact lex_app _ _ ((rows_lng m r hr).trans (rows_lng m s hs).symm) h
variable {bh : Int → List Int}
theorem mem_rows (hb : ∀ x y : Int, y ∈ bh x ↔ [x, y] ∈ ps) : ∀ {m : Nat} {r : List Int}, r ∈ rowsN ps p m ↔ (∃ a o, WkL bh m a o r) ∧ ∀ x ∈ r, x ∈ p
  | 0, r => by
    show r ∈ p.map (fun m => [m]) ↔ _
    rw [List.mem_map]
    constructor
    · rintro ⟨a, h, rfl⟩
      exact ⟨⟨a, a, rfl, rfl⟩, fun x hx => by rw [List.mem_singleton.mp hx]; exact h⟩
    · rintro ⟨⟨a, o, h1, h2⟩, h3⟩
      exact ⟨a, h3 a (by rw [h1]; exact List.mem_singleton.mpr rfl), h1.symm⟩
  | m + 1, r => by
    show r ∈ longer ps p (rowsN ps p m) ↔ _
    unfold longer
    rw [List.mem_flatten]
    constructor
    · rintro ⟨l, hl, hr⟩
      obtain ⟨s, hs, rfl⟩ := List.mem_map.mp hl
      obtain ⟨b, hb1, rfl⟩ := List.mem_map.mp hr
      obtain ⟨b1, b2⟩ := List.mem_filter.mp hb1
      obtain ⟨⟨a, o, wk⟩, inp⟩ := (mem_rows hb).mp hs
      have b2 := of_decide_eq_true b2
      rw [lst_la, wk.la] at b2
      refine ⟨⟨a, b, wk.snoc ((hb o b).mpr b2)⟩, fun x hx => ?_⟩
      rcases List.mem_append.mp hx with z | z
      · exact inp x z
      · rw [List.mem_singleton.mp z]; exact b1
    · rintro ⟨⟨a, d, wk⟩, inp⟩
      obtain ⟨o, v, k1, k2, rfl⟩ := wk.unsnoc
      refine ⟨_, List.mem_map.mpr ⟨v, (mem_rows hb).mpr ⟨⟨a, o, k1⟩, fun x hx => inp x (List.mem_append_left _ hx)⟩, rfl⟩, List.mem_map.mpr ⟨d, List.mem_filter.mpr ⟨inp d (List.mem_append_right _ (List.mem_singleton.mpr rfl)), decide_eq_true ?_⟩, rfl⟩⟩
      rw [lst_la, k1.la]
      exact (hb o d).mp k2
end
end RV
set_option maxHeartbeats 4000000
namespace K75
open PySem PySem.Spec PyProof.Rows L2 RV
/-- whether the marks as a ring are mirrored at s, place by place -/
def mirB (ns ms : List Int) (s : Int) : Bool := ((upN ms.length).map fun p => decide (ms.getD ((s - p) % (ms.length : Int)).toNat 0 = ns.getD (ms.getD p.toNat 0).toNat 0)).all id
theorem getD_in {ms : List Int} {k : Nat} (h : k < ms.length) : ms.getD k 0 ∈ ms := by
  simp [List.getD, h]
theorem mod_is {a r n q : Int} (h0 : 0 ≤ r) (h1 : r < n) (e : a = r + n * q) : a % n = r := by rw [e, Int.add_mul_emod_self_left, Int.emod_eq_of_lt h0 h1]
/-! ### marks as a ring, place by place -/
def at_ (ms : List Int) (i : Int) : Int := ms.getD (i % (ms.length : Int)).toNat 0
theorem at_mod {ms : List Int} {i j : Int} (h : i % (ms.length : Int) = j % (ms.length : Int)) : at_ ms i = at_ ms j := by unfold at_; rw [h]
theorem at_small {ms : List Int} {k : Nat} (h : k < ms.length) : at_ ms (k : Int) = ms.getD k 0 := by
  unfold at_
  rw [Int.emod_eq_of_lt (by omega) (by omega), Int.toNat_natCast]
theorem at_ext {xs ys : List Int} (hl : xs.length = ys.length) (h : ∀ i : Int, at_ xs i = at_ ys i) : xs = ys := by
  refine List.ext_getElem hl fun i h1 h2 => ?_
  have z := h (i : Int)
  rw [at_small h1, at_small h2] at z
  simpa [List.getD, h1, h2] using z
theorem at_mem {ms : List Int} (h : 0 < ms.length) (i : Int) : at_ ms i ∈ ms := by
  unfold at_
  have z0 := Int.emod_nonneg i (show (ms.length : Int) ≠ 0 by omega)
  have z1 := Int.emod_lt_of_pos i (show (0 : Int) < (ms.length : Int) by omega)
  exact getD_in (by omega)
theorem turn_len (ms : List Int) (k : Int) : (turnI ms k).length = ms.length := by
  unfold turnI
  rw [List.length_append, List.length_drop, List.length_take]
  omega
theorem back_len (ns ms : List Int) : (backOf ns ms).length = ms.length := by
  unfold backOf
  rw [List.length_map, List.length_reverse]
theorem getD_app (xs ys : List Int) (k : Nat) : (xs ++ ys).getD k 0 = if k < xs.length then xs.getD k 0 else ys.getD (k - xs.length) 0 := by
  by_cases h : k < xs.length
  · rw [if_pos h]; simp [List.getD, List.getElem?_append_left h]
  · rw [if_neg h]; simp [List.getD, List.getElem?_append_right (Nat.le_of_not_lt h)]
theorem getD_dr (xs : List Int) (a k : Nat) : (xs.drop a).getD k 0 = xs.getD (a + k) 0 := by simp [List.getD, List.getElem?_drop]
theorem getD_tk (xs : List Int) (a k : Nat) (h : k < a) : (xs.take a).getD k 0 = xs.getD k 0 := by simp [List.getD, List.getElem?_take, h]
theorem at_turn {ms : List Int} (h0 : 0 < ms.length) (k i : Int) : at_ (turnI ms k) i = at_ ms (i + k) := by
  have hn : (ms.length : Int) ≠ 0 := by omega
  have hp : (0 : Int) < (ms.length : Int) := by omega
  unfold at_
  rw [turn_len]
  have a0 := Int.emod_nonneg i hn
  have a1 := Int.emod_lt_of_pos i hp
  have b0 := Int.emod_nonneg k hn
  have b1 := Int.emod_lt_of_pos k hp
  have e : (i + k) % (ms.length : Int) = (i % (ms.length : Int) + k % (ms.length : Int)) % (ms.length : Int) := by rw [Int.add_emod]
  rw [e]
  generalize i % (ms.length : Int) = x at a0 a1
  unfold turnI
  generalize k % (ms.length : Int) = y at b0 b1
  rw [getD_app, List.length_drop]
  by_cases h : x.toNat < ms.length - y.toNat
  · rw [if_pos h, getD_dr, Int.emod_eq_of_lt (by omega) (by omega)]
    congr 1; omega
  · rw [if_neg h, getD_tk _ _ _ (by omega)]
    rw [show (x + y) % (ms.length : Int) = x + y - (ms.length : Int) by
      rw [← Int.sub_emod_right, Int.emod_eq_of_lt (by omega) (by omega)]]
    congr 1; omega
theorem at_back {ns ms : List Int} (h0 : 0 < ms.length) (i : Int) : at_ (backOf ns ms) i = ns.getD (at_ ms (-1 - i)).toNat 0 := by
  have hn : (ms.length : Int) ≠ 0 := by omega
  have hp : (0 : Int) < (ms.length : Int) := by omega
  have a0 := Int.emod_nonneg i hn
  have a1 := Int.emod_lt_of_pos i hp
  have e : (-1 - i) % (ms.length : Int) = (ms.length : Int) - 1 - i % (ms.length : Int) := by
    refine mod_is (q := -(i / (ms.length : Int)) - 1) (by omega) (by omega) ?_
    have z := Int.emod_def i (ms.length : Int)
    rw [Int.mul_sub, Int.mul_neg, Int.mul_one]
    omega
  unfold at_
  rw [back_len, e]
  generalize i % (ms.length : Int) = x at a0 a1
  unfold backOf
  have hx : x.toNat < ms.reverse.length := by rw [List.length_reverse]; omega
  have hy : ((ms.length : Int) - 1 - x).toNat < ms.length := by omega
  have e1 : (ms.reverse.map fun x => ns.getD x.toNat 0).getD x.toNat 0 = ns.getD (ms.reverse[x.toNat]'hx).toNat 0 := by
    rw [List.getD_eq_getElem?_getD, List.getElem?_map, List.getElem?_eq_getElem hx]; rfl
  have e2 : ms.getD ((ms.length : Int) - 1 - x).toNat 0 = ms.reverse[x.toNat]'hx := by
    rw [List.getElem_reverse]
    simp [List.getD, List.getElem?_eq_getElem hy]
    congr 1; omega
  rw [e1, e2]
theorem mir_iff {ns ms : List Int} (h0 : 0 < ms.length) (s : Int) : mirB ns ms s = true ↔ ∀ p : Int, at_ ms (s - p) = ns.getD (at_ ms p).toNat 0 := by
  have hn : (ms.length : Int) ≠ 0 := by omega
  have hp : (0 : Int) < (ms.length : Int) := by omega
  unfold mirB
  rw [List.all_map, List.all_eq_true]
  constructor
  · intro h p
    have a0 := Int.emod_nonneg p hn
    have a1 := Int.emod_lt_of_pos p hp
    have z := of_decide_eq_true (h (p % (ms.length : Int)) (mem_upN.mpr ⟨a0, a1⟩))
    have e : (s - p % (ms.length : Int)) % (ms.length : Int) = (s - p) % (ms.length : Int) := by rw [Int.sub_emod, Int.emod_emod, ← Int.sub_emod]
    rw [e] at z
    exact z
  · intro h p hpm
    obtain ⟨a0, a1⟩ := mem_upN.mp hpm
    have z := h p
    have e : at_ ms p = ms.getD p.toNat 0 := by unfold at_; rw [Int.emod_eq_of_lt a0 a1]
    rw [e] at z
    exact decide_eq_true z
theorem at_add {ms : List Int} (i k : Int) : at_ ms (i + (ms.length : Int) * k) = at_ ms i := at_mod (by rw [Int.add_mul_emod_self_left])
theorem mir_add {ns ms : List Int} (h0 : 0 < ms.length) {s s' k : Int} (e : s' = s + (ms.length : Int) * k) : mirB ns ms s' = mirB ns ms s := by
  rw [Bool.eq_iff_iff, mir_iff h0, mir_iff h0]
  refine forall_congr' fun p => ?_
  rw [e, show s + (ms.length : Int) * k - p = (s - p) + (ms.length : Int) * k by omega, at_add]
theorem axes_is {ns ms : List Int} (h0 : 0 < ms.length) : axesI ns ms = (upN (2 * ms.length)).filter (mirB ns ms) := by
  unfold axesI
  refine List.filter_congr fun s _ => ?_
  rw [Bool.eq_iff_iff, decide_eq_true_iff, mir_iff h0]
  constructor
  · intro h p
    have z := congrArg (fun l => at_ l (-1 - p)) h
    have z : at_ (turnI ms (s + 1)) (-1 - p) = at_ (backOf ns ms) (-1 - p) := z
    rw [at_turn h0, at_back h0, show -1 - p + (s + 1) = s - p by omega, show -1 - (-1 - p) = p by omega] at z
    exact z
  · intro h
    refine at_ext (by rw [turn_len, back_len]) fun i => ?_
    rw [at_turn h0, at_back h0, ← h (-1 - i)]
    congr 1; omega
/-! ### rings and their axes -/
theorem own_of {ns : List Int} {ps : List (List Int)} (M : Mir ns) (S : Stp ns ps) {p : List Int} (hp : p ∈ partsOf ps ns.length) {x : Int} (hx : x ∈ p) (hmx : mirI ns x ∈ p) : Own ns p := fun y hy => by
  have bx := part_bd hp hx
  have by_ := part_bd hp hy
  have z := lot_mirror M S bx.1 (mirI_get bx.1 bx.2) (mirI_get by_.1 by_.2) (by rw [part_lot hp hx]; exact hy)
  rw [part_lot hp hmx] at z
  exact z
theorem wk_at {bh : Int → List Int} {o : Int} : ∀ {k : Nat} {a : Int} {w : List Int}, WkL bh k a o w → ∀ i, i < k → w.getD (i + 1) 0 ∈ bh (w.getD i 0)
  | 0, a, w, h, i, hi => absurd hi (Nat.not_lt_zero _)
  | k + 1, a, w, h, i, hi => by
    obtain ⟨c, w', rfl, h1, h2⟩ := h
    cases i with
    | zero =>
      obtain ⟨v, rfl⟩ := h2.head
      exact h1
    | succ i => exact wk_at h2 i (by omega)
theorem ring_step {ps : List (List Int)} {N : Nat} (hP : ∀ q ∈ ps, Pr (N : Int) q) {p : List Int} {k : Nat} {r : List Int} (h : r ∈ (rowsN ps p k).filter fun r => decide ([lst0 r, hd0 r] ∈ ps)) : r.length = k + 1 ∧ (∀ x ∈ r, x ∈ p) ∧ ∀ i : Int, [at_ r i, at_ r (i + 1)] ∈ ps := by
  have hb : ∀ x y : Int, y ∈ behindOf ps x ↔ [x, y] ∈ ps := fun x y => mem_behind hP
  obtain ⟨h1, h2⟩ := List.mem_filter.mp h
  have cl := of_decide_eq_true h2
  obtain ⟨⟨a, o, wk⟩, inp⟩ := (mem_rows hb).mp h1
  have ln := wk.len
  refine ⟨ln, inp, fun i => ?_⟩
  have hp : (0 : Int) < (r.length : Int) := by omega
  have a0 := Int.emod_nonneg i (show (r.length : Int) ≠ 0 by omega)
  have a1 := Int.emod_lt_of_pos i hp
  have e : (i + 1) % (r.length : Int) = (i % (r.length : Int) + 1) % (r.length : Int) := by rw [Int.emod_add_emod]
  unfold at_
  rw [e]
  generalize i % (r.length : Int) = x at a0 a1
  by_cases hx : x + 1 < (r.length : Int)
  · rw [Int.emod_eq_of_lt (by omega) hx, show (x + 1).toNat = x.toNat + 1 by omega]
    exact (hb _ _).mp (wk_at wk x.toNat (by omega))
  · have ex : x + 1 = (r.length : Int) := by omega
    rw [ex, Int.emod_self]
    have e1 : r.getD x.toNat 0 = lst0 r := by
      have : x.toNat = r.length - 1 := by omega
      rw [this]
      unfold lst0
      obtain ⟨r', y, rfl⟩ : ∃ r' y, r = r' ++ [y] := ⟨r.dropLast, r.getLast (fun z => by rw [z] at ln; cases ln), (List.dropLast_concat_getLast _).symm⟩
      simp [List.getD]
    have e2 : r.getD (0 : Int).toNat 0 = hd0 r := by
      unfold hd0
      cases r with
      | nil => rfl
      | cons y r => rfl
    rw [e1, e2]
    exact cl
theorem ring_ax {ns : List Int} {ps : List (List Int)} (M : Mir ns) (S : Stp ns ps) {p : List Int} (hp : p ∈ partsOf ps ns.length) {r : List Int} (h0 : 0 < r.length) (inp : ∀ x ∈ r, x ∈ p) (st : ∀ i : Int, [at_ r i, at_ r (i + 1)] ∈ ps) {s : Int} (hs : s ∈ axesI ns r) :
    (0 ≤ s ∧ s < 2 * (r.length : Int)) ∧ r[(s / 2).toNat]? = some (at_ r (s / 2)) ∧ at_ r (s / 2) ∈ p ∧ AxC ns ps p (2 * ((clsM ps ns.length (at_ r (s / 2)) : Nat) : Int) + s % 2) := by
  have hP : ∀ q ∈ ps, Pr (ns.length : Int) q := fun q hq => S.pair q hq
  rw [axes_is h0] at hs
  obtain ⟨h1, h2⟩ := List.mem_filter.mp hs
  have hb := mem_upN.mp h1
  have mi := (mir_iff h0 s).mp h2 (s / 2)
  have hb2 : 0 ≤ s ∧ s < 2 * (r.length : Int) := by omega
  have hm : at_ r (s / 2) ∈ p := inp _ (at_mem h0 _)
  have hm2 : at_ r (s - s / 2) ∈ p := inp _ (at_mem h0 _)
  have mi : at_ r (s - s / 2) = mirI ns (at_ r (s / 2)) := mi
  have own := own_of M S hp hm (by rw [← mi]; exact hm2)
  refine ⟨hb2, ?_, hm, own, _, hm, s % 2, ?_, ?_, rfl⟩
  · have hl : (s / 2).toNat < r.length := by omega
    rw [List.getElem?_eq_getElem hl]
    unfold at_
    rw [Int.emod_eq_of_lt (by omega) (by omega)]
    simp [List.getD, hl]
  · simp only [List.mem_cons, List.not_mem_nil, or_false]
    omega
  · unfold atAx
    by_cases e : s % 2 = 0
    · rw [if_pos e]
      refine decide_eq_true ?_
      rw [← mi, show s - s / 2 = s / 2 by omega]
    · rw [if_neg e]
      refine decide_eq_true ((mem_behind hP).mpr ?_)
      rw [← mi, show s - s / 2 = s / 2 + 1 by omega]
      exact st _
end K75
set_option maxHeartbeats 4000000
namespace K75
open PySem PySem.Spec PyProof.Rows L2 RV
theorem behind_inn {ns : List Int} {ps : List (List Int)} (S : Stp ns ps) (m : Int) : ∀ c ∈ behindOf ps m, 0 ≤ c ∧ c < (ns.length : Int) := fun c hc => by
  have z := (mem_behind (n := (ns.length : Int)) S.pair).mp hc
  obtain ⟨x, y, e, _, h⟩ := S.pair _ z
  cases e
  exact h
section
variable {P : Program} {w : World} {K : PySem.W.Frag} {mg : Str → Option Value} {base : Heap}
/-! ### ends_behind -/
abbrev nEB : List Str := ["first", "second", "row", "mark", "end"]
theorem scEB : FnScope nEB ["first", "second"] (defScope sEndsBehind) := ⟨rfl, rfl, rfl, by decide +kernel, rfl, by decide +kernel, by decide +kernel⟩
def spEB (K : PySem.W.Frag) : Sp := fun vs H Q _ => ∃ (a b : Addr) (N : Nat) (f g : Int → Int → Prop), vs = [.ref a, .ref b] ∧ N ≤ 8 ∧ Tab K H a N f ∧ Tab K H b N g ∧
  ∀ (H' : Hp) (t : Addr), Same H H' → Tab K H' t N (fun i x => ∃ c, f i c ∧ g c x) → Q (.ref t) H'
theorem ok_eb {f : Addr} {fd : FuncData} (F : Fun K "ends_behind" "ends_behind" sEndsBehind f fd) (B : Bare mg) : FnOk P w K mg base CX0 1 f fd ["first", "second"] (spEB K) := by
  refine F.ok scEB (fun vs H Q E h => ?_) (fun cdv A outer s H vs Q E hr h => ?_)
  · obtain ⟨a, b, N, f, g, rfl, _⟩ := h
    rfl
  · obtain ⟨a, b, N, f, g, rfl, n8, hA, hB, q⟩ := h
    refine ⟨_, pss_one (ps_ret (pe_tupleOf (by rfl) B.tuple
      (pe_lc (own := [("row", 2)]) (g := gName 2) (tt := tYes) rfl scEB.nd (pi_tup (pv 0)) (blkOk_by (N := nEB) (sc := defScope sEndsBehind) (by decide +kernel)) (fun _ _ _ _ _ => pg_name (i := 2) scEB.nd rfl (Or.inl rfl)) (fun _ _ _ _ _ => pts_nil)
        (fun _ _ _ _ _ => pe_tupleOfK (K := K) rfl (by rfl) B.tuple (pe_callB (cr_sortedSetW (w := w) rfl rfl) (by rfl) B.sorted (by decide +kernel) (pa_cons
          (pe_sc2W (w := w) (own := [("mark", 3), ("end", 4)]) (vs1 := [4]) (g := gName 3) (g1 := gName 4) rfl rfl scEB.nd (pi_tupK (K := K) rfl (pv 2)) (blkOk_by (N := nEB) (by rfl)) (by decide)
            (fun _ _ _ _ _ => pg_name (i := 3) scEB.nd rfl (Or.inl rfl)) (fun _ _ _ _ _ => pi_tupK (K := K) rfl (pe_ix (ix_tupK (K := K) rfl) (pv 1) (pv 3) (fun _ _ => rfl))) (fun _ _ _ _ _ => pg_name (i := 4) scEB.nd rfl (Or.inl rfl)) (fun _ _ _ _ _ => pv 4)) pa_nil)))))), ?_⟩
    obtain ⟨as, h1, h2, h3⟩ := hA
    have two : (2 : Nat) ≤ sizeLine := by decide
    refine ⟨.ref a, rfl, a, rfl, ⟨_, h1⟩, fun D nD => ?_⟩
    refine lc_tup (K := K) (a := a) (xs := as.map V.ref) (fun i H' => Same H H' ∧ ∃ bs : List Addr, bs.length = i ∧ H' D = some (.lst (bs.map V.ref)) ∧ ∀ (j : Nat) (c : Addr), bs[j]? = some c → ∃ xs : List Int, SqT K H' c (xs.map V.int) ∧ xs.Pairwise (· < ·) ∧ (∀ x ∈ xs, 0 ≤ x ∧ x < (N : Int)) ∧ ∀ x, x ∈ xs ↔ ∃ c, f (j : Int) c ∧ g c x)
      ⟨same_upd nD, [], rfl, upd_same, fun _ _ z => nomatch z⟩ (fun i H' _ p => sqT_same p.1 h1) (fun i x H1 hx p => ?_) fun H1 p => ?_
    · obtain ⟨r, gr, rfl⟩ := map_at hx
      obtain ⟨s1, bs, lb, eD, hbs⟩ := p
      obtain ⟨xs, z1, z2, z3, z4⟩ := h3 i r gr
      have hi : i < N := by rw [← h2]; exact (List.getElem?_eq_some_iff.mp gr).1
      have B1 := hB.same s1
      have zr := sqT_same s1 z1
      have lx : xs.length ≤ 8 := Nat.le_trans (few_below (rise_nodup z2) z3) n8
      refine ⟨by simp [wipe, List.set_set], tt_yes ⟨.ref r, rfl, r, rfl, ⟨_, zr⟩, fun D2 nD2 => ?_⟩⟩
      refine it_tup (xs := xs.map V.int) (fun k H' => Same H1 H' ∧ ∃ ls, SetL w H' D2 ls ∧ ∀ y, y ∈ ls ↔ ∃ c ∈ xs.take k, g c y) ⟨same_upd nD2, [], SetL.nil, fun y => by simp⟩ (fun k H' _ p => sqT_same p.1 zr) (fun k v H2 hv p => ?_) fun H2 p => ?_
      · obtain ⟨m, gm, rfl⟩ := map_at hv
        obtain ⟨s2, ls, hL, mL⟩ := p
        have hm := List.mem_of_getElem? gm
        obtain ⟨vs, rr, ys, k1, k2, k3, k4, k5, k6⟩ := (B1.same s2).at (z3 m hm).1 (z3 m hm).2
        have ly : ys.length ≤ 8 := Nat.le_trans (few_below (rise_nodup k4) k5) n8
        refine ⟨rfl, .ref b, rfl, .int m, rfl, b, vs, m, .ref rr, rfl, rfl, k1, k2, rr, rfl, ⟨_, k3⟩, ?_⟩
        refine it_tup (xs := ys.map V.int) (fun j H' => Same H1 H' ∧ SqT K H' rr (ys.map V.int) ∧ ∃ ls, SetL w H' D2 ls ∧ ∀ y, y ∈ ls ↔ (∃ c ∈ xs.take k, g c y) ∨ y ∈ ys.take j) ⟨s2, k3, ls, hL, fun y => by rw [mL y]; simp⟩ (fun j H' _ p => p.2.1) (fun j v H3 hv p => ?_) fun H3 p => ?_
        · obtain ⟨e, ge, rfl⟩ := map_at hv
          obtain ⟨s3, k3', ls3, hL3, mL3⟩ := p
          have l3 : ls3.length ≤ N := few_below (by obtain ⟨_, _, z, _⟩ := hL3; exact z) fun y hy => by
            rcases (mL3 y).mp hy with ⟨c, c1, c2⟩ | c
            · have hc := z3 c (List.mem_of_mem_take c1)
              obtain ⟨_, _, ys', _, _, _, _, k5', k6'⟩ := hB.at hc.1 hc.2
              exact k5' y ((k6' y).mpr c2)
            · exact k5 y (List.mem_of_mem_take c)
          obtain ⟨S, n, e1, e2, ls4, hL4, mL4⟩ := hL3.add e (by omega)
          refine ⟨rfl, .int e, rfl, e, S, n, rfl, e1, e2, fun b' o z => ?_, ?_, ls4, hL4, fun y => ?_⟩
          · rw [upd_ne (ne_of_none z nD2)]; exact s3 b' o z
          · exact sqT_set e1 k3'
          · rw [mL4 y, mL3 y, List.take_add_one, ge, List.mem_append, or_assoc]
            simp
        · obtain ⟨s3, k3', ls3, hL3, mL3⟩ := p
          rw [List.length_map, List.take_of_length_le (Nat.le_refl _)] at mL3
          refine ⟨s3, ls3, hL3, fun y => ?_⟩
          rw [mL3 y, List.take_add_one, gm, k6 y]
          constructor
          · rintro (⟨c, c1, c2⟩ | c)
            · exact ⟨c, List.mem_append_left _ c1, c2⟩
            · exact ⟨m, List.mem_append_right _ (List.mem_singleton.mpr rfl), c⟩
          · rintro ⟨c, c1, c2⟩
            rcases List.mem_append.mp c1 with c1 | c1
            · exact .inl ⟨c, c1, c2⟩
            · exact .inr (List.mem_singleton.mp c1 ▸ c2)
      · obtain ⟨s2, ls, hL, mL⟩ := p
        rw [List.length_map, List.take_of_length_le (Nat.le_refl _)] at mL
        have inn : ∀ y ∈ ls, 0 ≤ y ∧ y < (N : Int) := fun y hy => by
          obtain ⟨c, c1, c2⟩ := (mL y).mp hy
          obtain ⟨_, _, ys', _, _, _, _, k5', k6'⟩ := hB.at (z3 c c1).1 (z3 c c1).2
          exact k5' y ((k6' y).mpr c2)
        obtain ⟨S, e1, nd, mS⟩ := hL
        have ll := few_below nd inn
        refine ⟨D2, S, ls.length, rfl, e1, by omega, fun zs p rise mem len np => ?_⟩
        have sp := same_upd (o := .lst (zs.map V.int)) np
        refine .inl ⟨p, _, rfl, lstNew upd_same, fun t nt => ?_⟩
        have st := same_upd (o := .tup (zs.map V.int)) nt
        have s3 := (s2.trans sp).trans st
        have eD3 := s3 _ _ eD
        refine ⟨_, eD3, by rw [List.length_map, lb]; exact few1 (by omega), fun b' o z => ?_, bs ++ [t], by rw [List.length_append, lb]; rfl, by rw [upd_same, List.map_append]; rfl, fun j c hc => ?_⟩
        · rw [upd_ne (ne_of_none z nD)]; exact s3 _ _ (s1 b' o z)
        rcases Nat.lt_or_ge j bs.length with z | z
        · rw [List.getElem?_append_left z] at hc
          obtain ⟨us, u1, u2⟩ := hbs j c hc
          exact ⟨us, sqT_lst eD3 (sqT_same s3 u1), u2⟩
        · rw [List.getElem?_append_right z] at hc
          have ej : j = i := by
            have := (List.getElem?_eq_some_iff.mp hc).1
            simp at this
            omega
          rw [lb, ej, Nat.sub_self] at hc
          cases hc
          refine ⟨zs, sqT_lst eD3 (tupNew upd_same), rise, fun y hy => inn y ((mS y).mp ((mem y).mp hy)), fun y => ?_⟩
          rw [mem y, mS y, mL y, ej]
          exact exists_congr fun c => and_congr (z4 c) Iff.rfl
    · obtain ⟨s1, bs, lb, eD, hbs⟩ := p
      rw [List.length_map, h2] at lb
      refine .inl ⟨D, _, rfl, lstNew eD, fun t nt => ?_⟩
      have st := same_upd (o := .tup (bs.map V.ref)) nt
      exact q _ t (s1.trans st) ⟨bs, tupNew upd_same, lb, fun j c hc => (hbs j c hc).imp fun us u => ⟨sqT_same st u.1, u.2⟩⟩
end
end K75
set_option maxHeartbeats 4000000
namespace K75
open PySem PySem.Spec PyProof.Rows L2 RV
/-- the one pair ahead of the other -/
def pLt (p q : List Int) : Prop := p.getD 0 0 < q.getD 0 0 ∨ (p.getD 0 0 = q.getD 0 0 ∧ p.getD 1 0 < q.getD 1 0)
theorem pLt_of {a b c d : Int} (h : HT.lexLt [a, b] [c, d] = true) : pLt [a, b] [c, d] := by
  rw [HT.lexLt_cons] at h
  by_cases e : a = c
  · rw [if_pos e, HT.lexLt_cons] at h
    refine .inr ⟨e, ?_⟩
    by_cases e2 : b = d
    · rw [if_pos e2] at h; cases h
    · rw [if_neg e2] at h; exact of_decide_eq_true h
  · rw [if_neg e] at h; exact .inl (of_decide_eq_true h)
theorem pLt_all : ∀ {ps : List (List Int)}, (∀ p ∈ ps, ∃ x y : Int, p = [x, y]) → (∀ (i : Nat) (p q : List Int), ps[i]? = some p → ps[i + 1]? = some q → HT.lexLt p q = true) → ps.Pairwise pLt
  | [], _, _ => List.Pairwise.nil
  | [p], _, _ => List.pairwise_singleton _ _
  | p :: q :: r, h, hr => by
    have ih := pLt_all (ps := q :: r) (fun x hx => h x (List.mem_cons_of_mem _ hx)) fun i x y h1 h2 => hr (i + 1) x y h1 h2
    obtain ⟨a, b, rfl⟩ := h p List.mem_cons_self
    obtain ⟨c, d, rfl⟩ := h q (List.mem_cons_of_mem _ List.mem_cons_self)
    have h0 := pLt_of (hr 0 _ _ rfl rfl)
    refine List.pairwise_cons.mpr ⟨fun x hx => ?_, ih⟩
    rcases List.mem_cons.mp hx with rfl | hx
    · exact h0
    · have h1 := (List.pairwise_cons.mp ih).1 x hx
      unfold pLt at h0 h1 ⊢
      omega
theorem behind_rise {ns : List Int} {ps : List (List Int)} (S : Stp ns ps) (m : Int) : (behindOf ps m).Pairwise (· < ·) := by
  have h := pLt_all (fun p hp => by obtain ⟨x, y, e, _⟩ := S.pair p hp; exact ⟨x, y, e⟩) S.rise
  unfold behindOf
  rw [List.pairwise_map]
  refine (List.pairwise_filter.mpr (h.imp fun {p q} z hp hq => ?_))
  have e1 := of_decide_eq_true hp
  have e2 := of_decide_eq_true hq
  unfold pLt at z
  omega
section
variable {P : Program} {w : World} {K : PySem.W.Frag} {mg : Str → Option Value} {base : Heap}
/-- the tables that a comprehension over the marks makes -/
def TabL (K : PySem.W.Frag) (H : Hp) (D : Addr) (N i : Nat) (f : Int → Int → Prop) : Prop := ∃ bs : List Addr, bs.length = i ∧ H D = some (.lst (bs.map V.ref)) ∧ ∀ (j : Nat) (c : Addr), bs[j]? = some c → ∃ xs : List Int, SqT K H c (xs.map V.int) ∧ xs.Pairwise (· < ·) ∧ (∀ x ∈ xs, 0 ≤ x ∧ x < (N : Int)) ∧ ∀ x, x ∈ xs ↔ f (j : Int) x
theorem TabL.add {H : Hp} {D t : Addr} {N i : Nat} {f : Int → Int → Prop} {xs : List Int} {bs : List Addr} (lb : bs.length = i) (eD : H D = some (.lst (bs.map V.ref))) (hb : ∀ (j : Nat) (c : Addr), bs[j]? = some c → ∃ xs : List Int, SqT K H c (xs.map V.int) ∧ xs.Pairwise (· < ·) ∧ (∀ x ∈ xs, 0 ≤ x ∧ x < (N : Int)) ∧ ∀ x, x ∈ xs ↔ f (j : Int) x)
    (h1 : SqT K H t (xs.map V.int)) (h2 : xs.Pairwise (· < ·)) (h3 : ∀ x ∈ xs, 0 ≤ x ∧ x < (N : Int)) (h4 : ∀ x, x ∈ xs ↔ f (i : Int) x) : TabL K (upd H D (.lst (bs.map V.ref ++ [.ref t]))) D N (i + 1) f := by
  refine ⟨bs ++ [t], by rw [List.length_append, lb]; rfl, by rw [upd_same, List.map_append]; rfl, fun j c hc => ?_⟩
  rcases Nat.lt_or_ge j bs.length with z | z
  · rw [List.getElem?_append_left z] at hc
    obtain ⟨us, u1, u2⟩ := hb j c hc
    exact ⟨us, sqT_lst eD u1, u2⟩
  · rw [List.getElem?_append_right z] at hc
    have ej : j = i := by
      have := (List.getElem?_eq_some_iff.mp hc).1
      simp at this
      omega
    rw [lb, ej, Nat.sub_self] at hc
    cases hc
    exact ⟨xs, sqT_lst eD h1, h2, h3, fun x => by rw [ej]; exact h4 x⟩
theorem TabL.same {H H' : Hp} {D : Addr} {N i : Nat} {f : Int → Int → Prop} (h : TabL K H D N i f) (s : Same H H') : TabL K H' D N i f := by
  obtain ⟨bs, h1, h2, h3⟩ := h
  exact ⟨bs, h1, s _ _ h2, fun j c hc => (h3 j c hc).imp fun us u => ⟨sqT_same s u.1, u.2⟩⟩
/-! ### ends_at_once -/
theorem scOnce : FnScope ["rule", "mark"] ["rule"] (defScope sAtOnce) := ⟨rfl, rfl, rfl, by decide +kernel, rfl, by decide +kernel, by decide +kernel⟩
def spTab (K : PySem.W.Frag) (C : Addr) (k : Nat) : Sp := fun vs H Q _ => ∃ (r : Addr) (ns : List Int) (ps : List (List Int)), vs = [.ref r] ∧ RuleAt K C H r ns ps ∧ Stp ns ps ∧ ns.length ≤ 8 ∧
  ∀ (H' : Hp) (t : Addr), Same H H' → Tab K H' t ns.length (lk (behindOf ps) k) → Q (.ref t) H'
theorem ok_once {f C fM : Addr} {fd dM : FuncData} (F : Fun K "ends_at_once" "ends_at_once" sAtOnce f fd) (T : Txt K mg C) (B : Bare mg) (FM : Fun K "marks" "Rule.marks" sMarksM fM dM) (bM : Binds K dM ["self"] []) (mM : Meth K C "marks" fM) : FnOk P w K mg base CX0 2 f fd ["rule"] (spTab K C 0) := by
  have GM : FnOk P w K mg base CX0 1 fM dM ["self"] (spMarksM K C) := ok_marksM FM T B
  refine F.ok scOnce (fun vs H Q E h => ?_) (fun cdv A outer s H vs Q E hr h => ?_)
  · obtain ⟨r, ns, ps, rfl, _⟩ := h
    rfl
  · obtain ⟨r, ns, ps, rfl, R, S, n8, q⟩ := h
    have one : (1 : Nat) ≤ sizeLine := by decide
    refine ⟨_, pss_one (ps_ret (pe_tupleOf (by rfl) B.tuple
      (pe_lc (own := [("mark", 1)]) (g := gName 1) (tt := tYes) rfl scOnce.nd (pi_range1 (by rfl) B.range (pa_cons (pe_meth0 (pv 0) T.cl mM GM hr bM .nil pass0) pa_nil)) (blkOk_by (N := ["rule", "mark"]) (sc := defScope sAtOnce) (by decide +kernel)) (fun _ _ _ _ _ => pg_name (i := 1) scOnce.nd rfl (Or.inl rfl)) (fun _ _ _ _ _ => pts_nil)
        (fun _ _ _ _ _ => pe_tup (pa_cons (pv 1) pa_nil))))), ?_⟩
    obtain ⟨dx, a0, b0, t0, g1, g2, g3, g4⟩ := R.ex
    have fno := flds_no a0 b0 t0 (m := "marks") (by decide +kernel) (by decide +kernel) (by decide +kernel)
    refine ⟨.ref r, rfl, r, dx, _, rfl, g1, fno, r, ns, ps, rfl, R, (ns.length : Int), rfl, by omega, by omega, fun D nD => ?_⟩
    rw [Int.toNat_natCast]
    refine lc_range (lo := 0) (n := ns.length) (fun i H' => Same H H' ∧ TabL K H' D ns.length i (lk (behindOf ps) 0)) ⟨same_upd nD, [], rfl, upd_same, fun _ _ z => nomatch z⟩ (fun i H1 hi p => ?_) fun H1 p => ?_
    · obtain ⟨s1, bs, lb, eD, hb⟩ := p
      refine ⟨by simp [wipe, List.set_set], tt_yes ⟨.int (0 + (i : Int)), rfl, one, fun t nt => ?_⟩⟩
      have st := same_upd (o := .tup [.int (0 + (i : Int))]) nt
      have e0 : (0 + (i : Int)) = (i : Int) := by omega
      refine ⟨_, st _ _ eD, by rw [List.length_map, lb]; exact few1 (by omega), fun b' o z => ?_, TabL.add (xs := [(i : Int)]) lb (st _ _ eD) (fun j c hc => (hb j c hc).imp fun us u => ⟨sqT_same st u.1, u.2⟩) (tupNew (by rw [upd_same, e0]; rfl)) (List.pairwise_singleton _ _) (fun x hx => by rw [List.mem_singleton.mp hx]; omega) fun x => ?_⟩
      · rw [upd_ne (ne_of_none z nD)]; exact st _ _ (s1 b' o z)
      · rw [List.mem_singleton]; exact ⟨fun z => z.symm, fun z => z.symm⟩
    · obtain ⟨s1, bs, lb, eD, hb⟩ := p
      refine .inl ⟨D, _, rfl, lstNew eD, fun t nt => ?_⟩
      have st := same_upd (o := .tup (bs.map V.ref)) nt
      exact q _ t (s1.trans st) ⟨bs, tupNew upd_same, lb, fun j c hc => (hb j c hc).imp fun us u => ⟨sqT_same st u.1, u.2⟩⟩
/-! ### ends_of_steps -/
theorem scOfSt : FnScope ["rule", "mark"] ["rule"] (defScope sOfSteps) := ⟨rfl, rfl, rfl, by decide +kernel, rfl, by decide +kernel, by decide +kernel⟩
theorem ok_ofst {f C fM fB : Addr} {fd dM dB : FuncData} (F : Fun K "ends_of_steps" "ends_of_steps" sOfSteps f fd) (T : Txt K mg C) (B : Bare mg) (FB : Fun K "behind" "Rule.behind" sBehindM fB dB) (bB : Binds K dB ["self", "mark"] []) (mB : Meth K C "behind" fB) (FM : Fun K "marks" "Rule.marks" sMarksM fM dM) (bM : Binds K dM ["self"] []) (mM : Meth K C "marks" fM) : FnOk P w K mg base CX0 2 f fd ["rule"] (spTab K C 1) := by
  have GM : FnOk P w K mg base CX0 1 fM dM ["self"] (spMarksM K C) := ok_marksM FM T B
  have GB : FnOk P w K mg base CX0 1 fB dB ["self", "mark"] (spBehindM K C) := ok_behindM FB T
  refine F.ok scOfSt (fun vs H Q E h => ?_) (fun cdv A outer s H vs Q E hr h => ?_)
  · obtain ⟨r, ns, ps, rfl, _⟩ := h
    rfl
  · obtain ⟨r, ns, ps, rfl, R, S, n8, q⟩ := h
    refine ⟨_, pss_one (ps_ret (pe_tupleOf (by rfl) B.tuple
      (pe_lc (own := [("mark", 1)]) (g := gName 1) (tt := tYes) rfl scOfSt.nd (pi_range1 (by rfl) B.range (pa_cons (pe_meth0 (pv 0) T.cl mM GM hr bM .nil pass0) pa_nil)) (blkOk_by (N := ["rule", "mark"]) (sc := defScope sOfSteps) (by decide +kernel)) (fun _ _ _ _ _ => pg_name (i := 1) scOfSt.nd rfl (Or.inl rfl)) (fun _ _ _ _ _ => pts_nil)
        (fun _ _ _ _ _ => pe_meth (pv 0) T.cl mB GB hr bB .nil pass0 (pa_cons (pv 1) pa_nil))))), ?_⟩
    obtain ⟨dx, a0, b0, t0, g1, g2, g3, g4⟩ := R.ex
    have fno := flds_no a0 b0 t0 (m := "marks") (by decide +kernel) (by decide +kernel) (by decide +kernel)
    have fno2 := flds_no a0 b0 t0 (m := "behind") (by decide +kernel) (by decide +kernel) (by decide +kernel)
    refine ⟨.ref r, rfl, r, dx, _, rfl, g1, fno, r, ns, ps, rfl, R, (ns.length : Int), rfl, by omega, by omega, fun D nD => ?_⟩
    rw [Int.toNat_natCast]
    refine lc_range (lo := 0) (n := ns.length) (fun i H' => Same H H' ∧ TabL K H' D ns.length i (lk (behindOf ps) 1)) ⟨same_upd nD, [], rfl, upd_same, fun _ _ z => nomatch z⟩ (fun i H1 hi p => ?_) fun H1 p => ?_
    · obtain ⟨s1, bs, lb, eD, hb⟩ := p
      have e0 : (0 + (i : Int)) = (i : Int) := by omega
      rw [e0]
      refine ⟨by simp [wipe, List.set_set], tt_yes ⟨.ref r, rfl, r, dx, _, rfl, s1 _ _ g1, fno2, .int (i : Int), rfl, r, ns, ps, i, rfl, R.same s1, hi, fun c hc => ?_⟩⟩
      refine ⟨_, eD, by rw [List.length_map, lb]; exact few1 (by omega), fun b' o z => ?_, TabL.add lb eD hb hc (behind_rise S _) (behind_inn S _) fun x => lk_one.symm⟩
      rw [upd_ne (ne_of_none z nD)]; exact s1 b' o z
    · obtain ⟨s1, bs, lb, eD, hb⟩ := p
      refine .inl ⟨D, _, rfl, lstNew eD, fun t nt => ?_⟩
      have st := same_upd (o := .tup (bs.map V.ref)) nt
      exact q _ t (s1.trans st) ⟨bs, tupNew upd_same, lb, fun j c hc => (hb j c hc).imp fun us u => ⟨sqT_same st u.1, u.2⟩⟩
end
end K75
set_option maxHeartbeats 4000000
namespace K75
open PySem PySem.Spec PyProof.Rows L2 RV
section
variable {P : Program} {w : World} {K : PySem.W.Frag} {mg : Str → Option Value} {base : Heap}
/-! ### ends_of_walks -/
abbrev nOW : List Str := ["rule", "n", "found", "doubled"]
theorem scOW : FnScope nOW ["rule", "n"] (defScope sOfWalks) := ⟨rfl, rfl, rfl, by decide +kernel, rfl, by decide +kernel, by decide +kernel⟩
def spOW (K : PySem.W.Frag) (C : Addr) : Sp := fun vs H Q _ => ∃ (r : Addr) (n : Nat) (ns : List Int) (ps : List (List Int)), vs = [.ref r, .int (n : Int)] ∧ RuleAt K C H r ns ps ∧ Stp ns ps ∧ ns.length ≤ 8 ∧
  ∀ (H' : Hp) (t : Addr), Same H H' → Tab K H' t ns.length (lk (behindOf ps) n) → Q (.ref t) H'
theorem ok_ow {f C fO fS fE : Addr} {fd dO dS dE : FuncData} (F : Fun K "ends_of_walks" "ends_of_walks" sOfWalks f fd)
    (DO : DefAt K mg "ends_at_once" sAtOnce ["rule"] fO dO) (GO : FnOk P w K mg base CX0 2 fO dO ["rule"] (spTab K C 0)) (DS : DefAt K mg "ends_of_steps" sOfSteps ["rule"] fS dS) (GS : FnOk P w K mg base CX0 2 fS dS ["rule"] (spTab K C 1))
    (DE : DefAt K mg "ends_behind" sEndsBehind ["first", "second"] fE dE) (B : Bare mg) : FnOk P w K mg base CX0 3 f fd ["rule", "n"] (spOW K C) := by
  have GE : FnOk P w K mg base CX0 1 fE dE ["first", "second"] (spEB K) := ok_eb DE.fn B
  refine F.ok scOW (fun vs H Q E h => ?_) (fun cdv A outer s H vs Q E hr h => ?_)
  · obtain ⟨r, n, ns, ps, rfl, _⟩ := h
    rfl
  · obtain ⟨r, n, ns, ps, rfl, R, S, n8, q⟩ := h
    have r1 := hr.mono (show 1 ≤ 2 by decide)
    refine ⟨_, pss_cons (ps_set (i := 2) scOW.nd rfl (Or.inl rfl) (pe_call GO hr (by rfl) DO.mg DO.fn.kp DO.bi .nil pass0 (pa_cons (pv 0) pa_nil)))
      (pss_cons (ps_set (i := 3) scOW.nd rfl (Or.inl rfl) (pe_call GS hr (by rfl) DS.mg DS.fn.kp DS.bi .nil pass0 (pa_cons (pv 0) pa_nil)))
      (pss_cons (ps_while PassesOwn.never (pt_cmpR op_gt (pv 1) pe_int (nomark _))
        (pss_cons (ps_if (pt_cmpR op_eq (pe_op op_mod (pv 1) pe_int) pe_int (nomark _)) (pss_one (ps_set (i := 2) scOW.nd rfl (Or.inl rfl) (pe_call GE r1 (by rfl) DE.mg DE.fn.kp DE.bi .nil pass0 (pa_cons (pv 2) (pa_cons (pv 3) pa_nil))))) pss_nil)
        (pss_cons (ps_set (i := 3) scOW.nd rfl (Or.inl rfl) (pe_call GE r1 (by rfl) DE.mg DE.fn.kp DE.bi .nil pass0 (pa_cons (pv 3) (pa_cons (pv 3) pa_nil))))
        (pss_one (ps_aug (i := 1) scOW.nd rfl (.inl rfl) pe_int iop_fdiv)))))
      (pss_one (ps_ret (pv 2))))), ?_⟩
    refine ⟨.ref r, rfl, r, ns, ps, rfl, R, S, n8, fun H1 t1 s1 T1 => ?_⟩
    refine ⟨.ref r, rfl, r, ns, ps, rfl, R.same s1, S, n8, fun H2 t2 s2 T2 => ?_⟩
    have s02 := s1.trans s2
    refine ⟨fun m σ H' => ∃ (k j : Nat) (a b : Addr), σ = [some (.ref r), some (.int (m : Int)), some (.ref a), some (.ref b)] ∧ Same H H' ∧ Tab K H' a ns.length (lk (behindOf ps) k) ∧ Tab K H' b ns.length (lk (behindOf ps) j) ∧ k + j * m = n,
      ⟨n, 0, 1, t1, t2, rfl, s02, T1.same s2, T2, by omega⟩, ?_⟩
    rintro m σ H3 ⟨k, j, a, b, rfl, s3, A3, B3, e3⟩
    refine ⟨.int (m : Int), rfl, _, 0, rfl, rfl, _, rfl, ite2 (fun hm => ?_) (fun hm => ?_)⟩
    · have hm : 0 < m := by have := of_decide_eq_true hm; omega
      refine ⟨fun σ H' => ∃ (k j : Nat) (a b : Addr), σ = [some (.ref r), some (.int ((m / 2 : Nat) : Int)), some (.ref a), some (.ref b)] ∧ Same H H' ∧ Tab K H' a ns.length (lk (behindOf ps) k) ∧ Tab K H' b ns.length (lk (behindOf ps) j) ∧ k + j * (m / 2) = n, fun σ' H' z => ⟨m / 2, by omega, z⟩, ?_⟩
      refine seq_mid (fun σ H' => ∃ (k : Nat) (a : Addr), σ = [some (.ref r), some (.int (m : Int)), some (.ref a), some (.ref b)] ∧ Same H H' ∧ Tab K H' a ns.length (lk (behindOf ps) k) ∧ Tab K H' b ns.length (lk (behindOf ps) j) ∧ k + (j + j) * (m / 2) = n) ?_ fun tail => ?_
      · rintro σ H4 ⟨k, a, rfl, s4, A4, B4, e4⟩
        refine ⟨.ref b, rfl, .ref b, rfl, b, b, ns.length, _, _, rfl, n8, B4, B4, fun H5 t5 s5 T5 => ?_⟩
        refine ⟨_, rfl, _, 2, rfl, rfl, ⟨by decide, by decide⟩, k, j + j, a, t5, ?_, s4.trans s5, A4.same s5, T5.congr fun i x _ _ => lk_add.symm, e4⟩
        show [some (V.ref r), some (.int ((m : Int) / 2)), some (.ref a), some (.ref t5)] = _
        rw [show (m : Int) / 2 = ((m / 2 : Nat) : Int) by omega]
      · refine ⟨.int (m : Int), rfl, _, 2, rfl, rfl, by show (0 : Int) < 2; decide, rfl, _, rfl, ?_⟩
        rw [decV]
        refine ite2 (fun hz => ?_) (fun hz => ?_)
        · have hz := of_decide_eq_true hz
          refine ⟨.ref a, rfl, .ref b, rfl, a, b, ns.length, _, _, rfl, n8, A3, B3, fun H5 t5 s5 T5 => tail _ _ ⟨k + j, t5, rfl, s3.trans s5, T5.congr fun i x _ _ => lk_add.symm, B3.same s5, ?_⟩⟩
          have em : m = 2 * (m / 2) + 1 := by omega
          rw [em] at e3
          rw [← e3, Nat.mul_add, Nat.add_mul, ← Nat.mul_assoc, Nat.mul_comm j 2, Nat.two_mul, Nat.add_mul]
          omega
        · have hz : ¬ ((m : Int) % 2 = 1) := fun z => hz (decide_eq_true z)
          refine tail _ _ ⟨k, a, rfl, s3, A3, B3, ?_⟩
          have em : m = 2 * (m / 2) := by omega
          rw [em] at e3
          rw [← e3, Nat.add_mul, ← Nat.mul_assoc, Nat.mul_comm j 2, Nat.two_mul, Nat.add_mul]
    · have hm : m = 0 := by
        have z : ¬ (0 < (m : Int)) := fun z => hm (decide_eq_true z)
        omega
      subst hm
      refine ⟨.ref a, rfl, q H3 a s3 ?_⟩
      have : k = n := by omega
      rw [← this]; exact A3
end
end K75
set_option maxHeartbeats 4000000
namespace K75
open PySem PySem.Spec PyProof.Rows L2 RV
theorem few7 {n : Nat} (h : n ≤ 20000) : n < sizeLine := by rw [sizeLine_eq]; omega
/-- [c(x) for x in t] of truths, t a tuple of ints -/
theorem lc_blT {K : PySem.W.Frag} {te : TE} {c : Int → Bool} {σ : L2.St} {H1 : Hp} {a D : Addr} {v : Nat} {ns : List Int} {Qd : Hp → Prop} (hT : SqT K H1 a (ns.map V.int)) (hl : ns.length ≤ 1000) (nD : H1 D = none)
    (hte : ∀ x ∈ ns, ∀ (H' : Hp) (Q : VK), Same H1 H' → Q (.bl (c x)) H' → te ((wipe σ [v]).set v (some (.int x))) H' Q)
    (hd : ∀ H', Same H1 H' → H' D = some (.lst ((ns.map c).map V.bl)) → Qd H') :
    ∃ W : Nat → Nat → Hp → Prop, (∃ m, W 0 m (upd H1 D (.lst []))) ∧ ∀ i m H, W i m H →
      ((Itt K a).stop i H ∧ Qd H) ∨ ((Itt K a).go i H ∧ ∃ Nx : Hp → Prop, (∀ H', Nx H' → ∃ m', m' < m ∧ W (i + 1) m' H') ∧ ∀ x H', (Itt K a).yld i H x H' → gName v x (wipe σ [v]) H' fun σ2 H2 => wipe σ2 [v] = wipe σ [v] ∧ tYes σ2 H2 fun b H3 =>
        if b = true then te σ2 H3 fun y H4 => ∃ acc, H4 D = some (.lst acc) ∧ acc.length < sizeLine ∧ Nx (upd H4 D (.lst (acc ++ [y]))) else Nx H3) := by
  refine lc_tup (K := K) (a := a) (xs := ns.map V.int) (fun i H' => Same H1 H' ∧ H' D = some (.lst (((ns.take i).map c).map V.bl))) ⟨same_upd nD, upd_same⟩ (fun i H' _ p => sqT_same p.1 hT) (fun i x H' hx p => ?_) fun H' p => ?_
  · obtain ⟨k, g, rfl⟩ := map_at hx
    refine ⟨by simp [wipe, List.set_set], tt_yes (hte k (List.mem_of_getElem? g) H' _ p.1 ⟨_, p.2, ?_, fun b o z => ?_, ?_⟩)⟩
    · rw [List.length_map, List.length_map, List.length_take]; exact few1 (by omega)
    · rw [upd_ne (ne_of_none z nD)]; exact p.1 b o z
    · rw [upd_same, List.take_add_one, g, List.map_append, List.map_append]; rfl
  · rw [List.length_map, List.take_of_length_le (Nat.le_refl _)] at p
    exact hd H' p.1 p.2
/-- a list of tuples of ints -/
def TL (K : PySem.W.Frag) (H : Hp) (F : Addr) (Ls : List (List Int)) : Prop := ∃ as : List Addr, H F = some (.lst (as.map V.ref)) ∧ as.length = Ls.length ∧ ∀ (i : Nat) (a : Addr) (w : List Int), as[i]? = some a → Ls[i]? = some w → SqT K H a (w.map V.int)
theorem TL.same {K : PySem.W.Frag} {H H' : Hp} {F : Addr} {Ls : List (List Int)} (h : TL K H F Ls) (s : Same H H') : TL K H' F Ls := by
  obtain ⟨as, h1, h2, h3⟩ := h
  exact ⟨as, s _ _ h1, h2, fun i a w ha hw => sqT_same s (h3 i a w ha hw)⟩
theorem sqT_upd {K : PySem.W.Frag} {H : Hp} {D : Addr} {vs : List V} {o' : HO} (e : H D = some (.lst vs)) {a : Addr} {xs : List V} (h : SqT K H a xs) : SqT K (upd H D o') a xs := by
  rcases h with (h | ⟨o, h⟩) | h
  · exact .inl (.inl (by rw [upd_ne (fun z => by rw [z, e] at h; cases h)]; exact h))
  · exact .inl (.inr ⟨o, by rw [upd_ne (fun z => by rw [z, e] at h; cases h)]; exact h⟩)
  · exact .inr h
theorem TL.add {K : PySem.W.Frag} {H : Hp} {F t : Addr} {Ls : List (List Int)} {w : List Int} {as : List Addr} (h1 : H F = some (.lst (as.map V.ref))) (h2 : as.length = Ls.length) (h3 : ∀ (i : Nat) (a : Addr) (w : List Int), as[i]? = some a → Ls[i]? = some w → SqT K H a (w.map V.int)) (ht : SqT K H t (w.map V.int)) :
    TL K (upd H F (.lst (as.map V.ref ++ [.ref t]))) F (Ls ++ [w]) := by
  refine ⟨as ++ [t], by rw [upd_same, List.map_append]; rfl, by rw [List.length_append, List.length_append, h2]; rfl, fun i a u ha hu => sqT_upd h1 ?_⟩
  rcases Nat.lt_or_ge i as.length with z | z
  · rw [List.getElem?_append_left z] at ha
    rw [List.getElem?_append_left (by omega)] at hu
    exact h3 i a u ha hu
  · rw [List.getElem?_append_right z] at ha
    rw [List.getElem?_append_right (by omega)] at hu
    rw [h2] at ha
    cases e : i - Ls.length with
    | zero =>
      rw [e] at ha hu
      cases ha
      cases hu
      exact ht
    | succ k => rw [e] at ha; cases ha
theorem TL.at {K : PySem.W.Frag} {H : Hp} {F : Addr} {Ls : List (List Int)} (h : TL K H F Ls) {i : Nat} {w : List Int} (hw : Ls[i]? = some w) : ∃ (xs : List V) (a : Addr), H F = some (.lst xs) ∧ atI xs (i : Int) = some (.ref a) ∧ SqT K H a (w.map V.int) := by
  obtain ⟨as, h1, h2, h3⟩ := h
  have hi : i < as.length := by rw [h2]; exact (List.getElem?_eq_some_iff.mp hw).1
  refine ⟨_, as[i], h1, atI_nat (by rw [List.getElem?_map, List.getElem?_eq_getElem hi]; rfl), h3 i _ w (List.getElem?_eq_getElem hi) hw⟩
/-- beg 0 .. beg (n - 1) -/
def begs (ps : List (List Int)) (N : Nat) (E : List Int) (n : Nat) : List (List Int) := (List.range n).map (beg (behindOf ps) N E)
theorem begs_at {ps : List (List Int)} {N : Nat} {E : List Int} {n i : Nat} (h : i < n) : (begs ps N E n)[i]? = some (beg (behindOf ps) N E i) := by
  unfold begs
  rw [List.getElem?_map, List.getElem?_range h]; rfl
theorem begs_next (ps : List (List Int)) (N : Nat) (E : List Int) (n : Nat) : begs ps N E (n + 1) = begs ps N E n ++ [beg (behindOf ps) N E n] := by
  unfold begs
  rw [List.range_succ, List.map_append]; rfl
section
variable {P : Program} {w : World} {K : PySem.W.Frag} {mg : Str → Option Value} {base : Heap}
/-! ### leads_into -/
theorem scLeadsInto : FnScope ["rule", "mark", "marks", "coming"] ["rule", "mark", "marks"] (defScope sLeadsInto) := ⟨rfl, rfl, rfl, by decide +kernel, rfl, by decide +kernel, by decide +kernel⟩
def spLeadsInto (K : PySem.W.Frag) (C : Addr) : Sp := fun vs H Q _ => ∃ (r a : Addr) (i : Nat) (ns : List Int) (ps : List (List Int)) (ms : List Int), vs = [.ref r, .int (i : Int), .ref a] ∧ RuleAt K C H r ns ps ∧ Stp ns ps ∧ i < ns.length ∧ SqT K H a (ms.map V.int) ∧
  ∀ (H' : Hp), Same H H' → Q (.bl ((behindOf ps (i : Int)).any fun c => decide (c ∈ ms))) H'
theorem ok_leadsInto {f C fB : Addr} {fd dB : FuncData} (F : Fun K "leads_into" "leads_into" sLeadsInto f fd) (T : Txt K mg C) (B : Bare mg)
    (FB : Fun K "behind" "Rule.behind" sBehindM fB dB) (bB : Binds K dB ["self", "mark"] []) (mB : Meth K C "behind" fB) : FnOk P w K mg base CX0 2 f fd ["rule", "mark", "marks"] (spLeadsInto K C) := by
  have GB : FnOk P w K mg base CX0 1 fB dB ["self", "mark"] (spBehindM K C) := ok_behindM FB T
  refine F.ok scLeadsInto (fun vs H Q E h => ?_) (fun cdv A outer s H vs Q E hr h => ?_)
  · obtain ⟨r, a, i, ns, ps, ms, rfl, _⟩ := h
    rfl
  · obtain ⟨r, a, i, ns, ps, ms, rfl, R, S, hi, hA, q⟩ := h
    have hu5 := un65 hr
    refine ⟨_, pss_one (ps_ret (pe_callB (cr_any rfl) (by rfl) B.any (by decide +kernel) (pa_cons
      (pe_lc (own := [("coming", 3)]) (g := gName 3) (tt := tYes) rfl scLeadsInto.nd (pi_tup (pe_meth (pv 0) T.cl mB GB hr bB .nil pass0 (pa_cons (pv 1) pa_nil))) (blkOk_by (N := ["rule", "mark", "marks", "coming"]) (sc := defScope sLeadsInto) (by decide +kernel))
        (fun _ _ _ _ _ => pg_name (i := 3) scLeadsInto.nd rfl (Or.inl rfl)) (fun _ _ _ _ _ => pts_nil)
        (fun _ _ _ _ _ => pe_cmpR (op_inTIK (K := K) rfl hu5) (pv 3) (pv 2) (by rfl))) pa_nil))), ?_⟩
    obtain ⟨dx, a0, b0, t0, g1, g2, g3, g4⟩ := R.ex
    have fno := flds_no a0 b0 t0 (m := "behind") (by decide +kernel) (by decide +kernel) (by decide +kernel)
    refine ⟨.ref r, rfl, r, dx, _, rfl, g1, fno, .int (i : Int), rfl, r, ns, ps, i, rfl, R, hi, fun c hc => ⟨c, rfl, ⟨_, hc⟩, fun D nD => ?_⟩⟩
    have bl := Nat.le_trans (behind_len ps (i : Int)) S.few
    refine lc_blT (c := fun x => decide (x ∈ ms)) hc (by omega) nD (fun x hx H' Q' s' kk => ⟨.int x, rfl, .ref a, rfl, a, x, ms, rfl, rfl, sqT_same s' hA, kk⟩) fun H2 s2 e2 => ?_
    refine ⟨D, _, rfl, lstNew e2, ?_⟩
    rw [List.any_map]
    exact q H2 s2
end
end K75
set_option maxHeartbeats 4000000
namespace K75
open PySem PySem.Spec PyProof.Rows L2 RV
theorem beg_inn {ps : List (List Int)} {N : Nat} {E : List Int} (hE : ∀ x ∈ E, 0 ≤ x ∧ x < (N : Int)) : ∀ n, ∀ x ∈ beg (behindOf ps) N E n, 0 ≤ x ∧ x < (N : Int)
  | 0, x, hx => hE x hx
  | n + 1, x, hx => (mem_beg.mp hx).1
section
variable {P : Program} {w : World} {K : PySem.W.Frag} {mg : Str → Option Value} {base : Heap}
/-! ### beginnings -/
abbrev nBegin : List Str := ["rule", "ends", "n", "found", "at", "ahead", "mark"]
theorem scBegin : FnScope nBegin ["rule", "ends", "n"] (defScope sBegin) := ⟨rfl, rfl, rfl, by decide +kernel, rfl, by decide +kernel, by decide +kernel⟩
def spBegin (K : PySem.W.Frag) (C : Addr) : Sp := fun vs H Q _ => ∃ (r e : Addr) (n : Nat) (ns : List Int) (ps : List (List Int)) (es : List Int), vs = [.ref r, .ref e, .int (n : Int)] ∧ RuleAt K C H r ns ps ∧ Stp ns ps ∧ ns.length ≤ 8 ∧ SqT K H e (es.map V.int) ∧ n ≤ 6000 ∧
  ∀ (H' : Hp) (F : Addr), Same H H' → TL K H' F (begs ps ns.length es (n + 1)) → Q (.ref F) H'
theorem ok_begin {f C fB fM fL : Addr} {fd dB dM dL : FuncData} (F : Fun K "beginnings" "beginnings" sBegin f fd) (T : Txt K mg C) (B : Bare mg)
    (FB : Fun K "behind" "Rule.behind" sBehindM fB dB) (bB : Binds K dB ["self", "mark"] []) (mB : Meth K C "behind" fB) (FM : Fun K "marks" "Rule.marks" sMarksM fM dM) (bM : Binds K dM ["self"] []) (mM : Meth K C "marks" fM)
    (DL : DefAt K mg "leads_into" sLeadsInto ["rule", "mark", "marks"] fL dL) : FnOk P w K mg base CX0 3 f fd ["rule", "ends", "n"] (spBegin K C) := by
  have GL : FnOk P w K mg base CX0 2 fL dL ["rule", "mark", "marks"] (spLeadsInto K C) := ok_leadsInto DL.fn T B FB bB mB
  have GM : FnOk P w K mg base CX0 1 fM dM ["self"] (spMarksM K C) := ok_marksM FM T B
  refine F.ok scBegin (fun vs H Q E h => ?_) (fun cdv A outer s H vs Q E hr h => ?_)
  · obtain ⟨r, e, n, ns, ps, es, rfl, _⟩ := h
    rfl
  · obtain ⟨r, e, n, ns, ps, es, rfl, R, S, n8, hE, hn, q⟩ := h
    have r1 := hr.mono (show 1 ≤ 2 by decide)
    have one : (1 : Nat) ≤ sizeLine := by decide
    refine ⟨_, pss_cons (ps_set (i := 3) scBegin.nd rfl (Or.inl rfl) (pe_lst (pa_cons (pe_tupleOf (by rfl) B.tuple (pv 1)) pa_nil)))
      (pss_cons (ps_for PassesOwn.never rfl (pi_range1 (by rfl) B.range (pa_cons (pv 2) pa_nil)) (pg_name (i := 4) scBegin.nd rfl (Or.inl rfl))
        (pss_cons (ps_set (i := 5) scBegin.nd rfl (Or.inr rfl) (pe_ix ix_list (pv 3) (pv 4) (fun _ _ => rfl)))
        (pss_one (ps_expr (pe_bm PySem.F.plainAttrs_list PySem.F.slot_list_append PySem.F.type_list_append mt_append (pv 3) (pa_cons (pe_tupleOf (by rfl) B.tuple
          (pe_lc (own := [("mark", 6)]) (g := gName 6) rfl scBegin.nd (pi_range1 (by rfl) B.range (pa_cons (pe_meth0 (pv 0) T.cl mM GM r1 bM .nil pass0) pa_nil)) (blkOk_by (N := nBegin) (sc := defScope sBegin) (by decide +kernel))
            (fun _ _ _ _ _ => pg_name (i := 6) scBegin.nd rfl (Or.inl rfl)) (fun _ _ _ _ _ => pts_one (pt_val (pe_call GL hr (by rfl) DL.mg DL.fn.kp DL.bi .nil pass0 (pa_cons (pv 0) (pa_cons (pv 6) (pa_cons (pv 5) pa_nil)))))) (fun _ _ _ _ _ => pv 6))) pa_nil))))))
      (pss_one (ps_ret (pv 3)))), ?_⟩
    refine ⟨.ref e, rfl, .inr ⟨e, _, rfl, hE, one, fun F0 nF => ?_⟩⟩
    have sF := same_upd (o := .lst [.ref e]) nF
    have T0 : TL K (upd H F0 (.lst [.ref e])) F0 (begs ps ns.length es (0 + 1)) := ⟨[e], upd_same, rfl, fun i a w ha hw => by
      cases i with
      | zero => cases ha; cases hw; exact sqT_same sF hE
      | succ i => cases ha⟩
    refine ⟨.int (n : Int), rfl, (n : Int), rfl, by omega, by omega, ?_⟩
    rw [Int.toNat_natCast]
    refine for_range (lo := 0) (n := n) (fun i σ H' => ∃ (y4 y5 y6 : Option V), σ = [some (.ref r), some (.ref e), some (.int (n : Int)), some (.ref F0), y4, y5, y6] ∧ Same H H' ∧ TL K H' F0 (begs ps ns.length es (i + 1))) ⟨none, none, none, rfl, sF, T0⟩ (fun i σ H1 hi h => ?_) (fun σ H1 h => ?_)
    · obtain ⟨y4, y5, y6, rfl, s1, T1⟩ := h
      rw [show (0 : Int) + (i : Int) = (i : Int) by omega]
      obtain ⟨xs, a, eF, ea, hA⟩ := T1.at (begs_at (show i < i + 1 by omega))
      refine ⟨.ref F0, rfl, .int (i : Int), rfl, F0, xs, _, _, rfl, rfl, lstNew eF, ea, ?_⟩
      have R1 := R.same s1
      obtain ⟨dx, a0, b0, t0, g1, g2, g3, g4⟩ := R1.ex
      have fno := flds_no a0 b0 t0 (m := "marks") (by decide +kernel) (by decide +kernel) (by decide +kernel)
      refine ⟨.ref F0, rfl, .inl ⟨rfl, _, lstNew eF⟩, .ref r, rfl, r, dx, _, rfl, g1, fno, r, ns, ps, rfl, R1, (ns.length : Int), rfl, by omega, by omega, fun D nD => ?_⟩
      rw [Int.toNat_natCast]
      refine lc_filtR (f := fun m => (behindOf ps m).any fun c => decide (c ∈ beg (behindOf ps) ns.length es i)) (by omega) nD (fun x x0 x1 H' s' A' B' kk => ?_) (fun x H' Q' k => ⟨.int x, rfl, k⟩) fun H2 s2 e2 => ?_
      · refine ⟨.ref r, rfl, .int x, rfl, .ref a, rfl, r, a, x.toNat, ns, ps, _, by rw [Int.toNat_of_nonneg x0]; rfl, R1.same s', S, by omega, sqT_same s' hA, fun H3 s3 => ?_⟩
        rw [Int.toNat_of_nonneg x0]
        exact ⟨_, rfl, kk H3 s3⟩
      refine .inl ⟨D, _, rfl, lstNew e2, fun t nt => ?_⟩
      have st := same_upd (o := .tup ((beg (behindOf ps) ns.length es (i + 1)).map V.int)) nt
      have s3 := s2.trans st
      obtain ⟨as, k1, k2, k3⟩ := T1.same s3
      refine ⟨F0, _, _, rfl, rfl, k1, ?_, ?_⟩
      · rw [List.length_map, k2]; unfold begs; rw [List.length_map, List.length_range]; exact few7 (by omega)
      · refine ⟨_, _, _, rfl, fun b o z => ?_, ?_⟩
        · rw [upd_ne (ne_of_none z nF)]; exact s3 _ _ (s1 b o z)
        · rw [begs_next ps ns.length es (i + 1)]
          exact TL.add k1 k2 k3 (tupNew upd_same)
    · obtain ⟨y4, y5, y6, rfl, s1, T1⟩ := h
      exact ⟨.ref F0, rfl, q H1 F0 s1 T1⟩
end
end K75
set_option maxHeartbeats 4000000
namespace K75
open PySem PySem.Spec PyProof.Rows L2 RV
section
variable {P : Program} {w : World} {K : PySem.W.Frag} {mg : Str → Option Value} {base : Heap}
/-! ### least_between -/
abbrev nBetween : List Str := ["rule", "starts", "ends", "n", "begun", "able", "walk", "left", "mark"]
theorem scBetween : FnScope nBetween ["rule", "starts", "ends", "n"] (defScope sBetween) := ⟨rfl, rfl, rfl, by decide +kernel, rfl, by decide +kernel, by decide +kernel⟩
def spBetween (K : PySem.W.Frag) (C : Addr) : Sp := fun vs H Q _ => ∃ (r b e : Addr) (n : Nat) (ns : List Int) (ps : List (List Int)) (bs es : List Int), vs = [.ref r, .ref b, .ref e, .int (n : Int)] ∧ RuleAt K C H r ns ps ∧ Stp ns ps ∧ ns.length ≤ 8 ∧ SqT K H b (bs.map V.int) ∧ bs.length ≤ 8 ∧ SqT K H e (es.map V.int) ∧ n ≤ 6000 ∧
  (∀ x ∈ bs, 0 ≤ x ∧ x < (ns.length : Int)) ∧ (∀ x ∈ es, 0 ≤ x ∧ x < (ns.length : Int)) ∧
  (∀ H', Same H H' → (∀ x ∈ bs, x ∉ beg (behindOf ps) ns.length es n) → Q .non H') ∧
  ∀ (H' : Hp) (t : Addr) (m : Int) (g : List Int), Same H H' → m ∈ bs → m ∈ beg (behindOf ps) ns.length es n → (∀ y ∈ bs, y ∈ beg (behindOf ps) ns.length es n → m ≤ y) → Gr (behindOf ps) (beg (behindOf ps) ns.length es) n m g → SqT K H' t (g.map V.int) → Q (.ref t) H'
theorem ok_between {f C fB fM fL fG : Addr} {fd dB dM dL dG : FuncData} (F : Fun K "least_between" "least_between" sBetween f fd) (T : Txt K mg C) (B : Bare mg)
    (FB : Fun K "behind" "Rule.behind" sBehindM fB dB) (bB : Binds K dB ["self", "mark"] []) (mB : Meth K C "behind" fB) (FM : Fun K "marks" "Rule.marks" sMarksM fM dM) (bM : Binds K dM ["self"] []) (mM : Meth K C "marks" fM)
    (DL : DefAt K mg "leads_into" sLeadsInto ["rule", "mark", "marks"] fL dL) (DG : DefAt K mg "beginnings" sBegin ["rule", "ends", "n"] fG dG) : FnOk P w K mg base CX0 4 f fd ["rule", "starts", "ends", "n"] (spBetween K C) := by
  have GG : FnOk P w K mg base CX0 3 fG dG ["rule", "ends", "n"] (spBegin K C) := ok_begin DG.fn T B FB bB mB FM bM mM DL
  have GB : FnOk P w K mg base CX0 1 fB dB ["self", "mark"] (spBehindM K C) := ok_behindM FB T
  refine F.ok scBetween (fun vs H Q E h => ?_) (fun cdv A outer s H vs Q E hr h => ?_)
  · obtain ⟨r, b, e, n, ns, ps, bs, es, rfl, _⟩ := h
    rfl
  · obtain ⟨r, b, e, n, ns, ps, bs, es, rfl, R, S, n8, hB, b8, hE, hn, bi, ei, q1, q2⟩ := h
    have r1 := hr.mono (show 1 ≤ 3 by decide)
    have hu5 := un65 hr
    have one : (1 : Nat) ≤ sizeLine := by decide
    refine ⟨_, pss_cons (ps_set (i := 4) scBetween.nd rfl (Or.inr rfl) (pe_call GG hr (by rfl) DG.mg DG.fn.kp DG.bi .nil pass0 (pa_cons (pv 0) (pa_cons (pv 2) (pa_cons (pv 3) pa_nil)))))
      (pss_cons (ps_setLc (i := 5) (own := [("mark", 8)]) (g := gName 8) rfl scBetween.nd rfl rfl (by rfl) (pi_tup (pv 1)) (blkOk_by (N := nBetween) (sc := defScope sBetween) (by decide +kernel))
          (fun _ _ _ _ _ => pg_name (i := 8) scBetween.nd rfl (Or.inl rfl)) (fun _ _ _ _ _ => pts_one (pt_cmpR (op_inTIK (K := K) rfl hu5) (pv 8) (pe_ix (ix_listK (K := K) rfl) (pv 4) (pv 3) (fun _ _ => rfl)) (by rfl))) (fun _ _ _ _ _ => pv 8))
      (pss_cons (ps_if (pt_cmpR op_eq (pe_callB call_len_seq (by rfl) B.len PySem.boot_len (pa_cons (pv 5) pa_nil)) pe_int (nomark _)) (pss_one (ps_ret pe_non)) pss_nil)
      (pss_cons (ps_set (i := 6) scBetween.nd rfl (Or.inl rfl) (pe_lst (pa_cons (pe_callB (cr_min rfl) (by rfl) B.min (by decide +kernel) (pa_cons (pv 5) pa_nil)) pa_nil)))
      (pss_cons (ps_for PassesOwn.never rfl (pi_range3 (by rfl) B.range (pa_cons (pe_op op_sub (pv 3) pe_int) (pa_cons (pe_un un_neg pe_int) (pa_cons (pe_un un_neg pe_int) pa_nil)))) (pg_name (i := 7) scBetween.nd rfl (Or.inr rfl))
        (pss_one (ps_expr (pe_bm PySem.F.plainAttrs_list PySem.F.slot_list_append PySem.F.type_list_append mt_append (pv 6) (pa_cons (pe_callB (cr_min rfl) (by rfl) B.min (by decide +kernel) (pa_cons
          (pe_lc (own := [("mark", 8)]) (g := gName 8) rfl scBetween.nd (pi_tup (pe_meth (pv 0) T.cl mB GB r1 bB .nil pass0 (pa_cons (pe_ix ix_list (pv 6) (pe_un un_neg pe_int) (fun _ _ => rfl)) pa_nil))) (blkOk_by (N := nBetween) (sc := defScope sBetween) (by decide +kernel))
            (fun _ _ _ _ _ => pg_name (i := 8) scBetween.nd rfl (Or.inl rfl)) (fun _ _ _ _ _ => pts_one (pt_cmpR (op_inTIK (K := K) rfl hu5) (pv 8) (pe_ix (ix_listK (K := K) rfl) (pv 4) (pv 7) (fun _ _ => rfl)) (by rfl))) (fun _ _ _ _ _ => pv 8)) pa_nil)) pa_nil)))))
      (pss_one (ps_ret (pe_tupleOf (by rfl) B.tuple (pv 6)))))))), ?_⟩
    refine ⟨.ref r, rfl, .ref e, rfl, .int (n : Int), rfl, r, e, n, ns, ps, es, rfl, R, S, n8, hE, hn, fun H1 G s1 T1 => ?_⟩
    generalize hBg : beg (behindOf ps) ns.length es = Bg at q1 q2
    -- able
    refine ⟨.ref b, rfl, b, rfl, ⟨_, sqT_same s1 hB⟩, fun D nD => ?_⟩
    refine lc_filtT (f := fun x => decide (x ∈ Bg n)) (sqT_same s1 hB) (by omega) nD (fun x hx H' s' A' B' kk => ?_) (fun x H' Q' k => ⟨.int x, rfl, k⟩) fun H2 s2 e2 => ?_
    · obtain ⟨xs, a, eF, ea, hA⟩ := (T1.same s').at (begs_at (show n < n + 1 by omega))
      refine ⟨.int x, rfl, .ref G, rfl, .int (n : Int), rfl, G, xs, _, _, rfl, rfl, lstNew eF, ea, a, x, _, rfl, rfl, hA, _, rfl, ?_⟩
      rw [hBg]
      exact kk H' (Same.refl H')
    have s02 := s1.trans s2
    have T2 := T1.same s2
    refine ⟨.ref D, rfl, D, _, rfl, .inl (lstNew e2), rfl, _, rfl, ?_⟩
    rw [List.length_map, decV]
    by_cases hz : bs.filter (fun x => decide (x ∈ Bg n)) = []
    · rw [hz]
      refine iteT ?_
      refine q1 H2 s02 fun x hx hn' => ?_
      have : x ∈ bs.filter (fun x => decide (x ∈ Bg n)) := List.mem_filter.mpr ⟨hx, decide_eq_true hn'⟩
      rw [hz] at this; cases this
    have hz0 : 0 < (bs.filter (fun x => decide (x ∈ Bg n))).length := List.length_pos_iff.mpr hz
    rw [decide_eq_false (show ¬ ((((bs.filter (fun x => decide (x ∈ Bg n))).length : Nat) : Int) = 0) by omega)]
    refine iteF ?_
    refine ⟨.ref D, rfl, D, _, rfl, lstNew e2, hz0, fun m0 hm0 hle => ⟨one, fun Wd nW => ?_⟩⟩
    obtain ⟨m1, m2⟩ := List.mem_filter.mp hm0
    have m2 := of_decide_eq_true m2
    have sW := same_upd (o := .lst [.int m0]) nW
    have eW : (upd H2 Wd (.lst [.int m0])) Wd = some (.lst (([] ++ [m0]).map V.int)) := upd_same
    have s03 := s02.trans sW
    have T3 := T2.same sW
    have nWH : H Wd = none := s02.free nW
    generalize upd H2 Wd (.lst [.int m0]) = H3 at eW s03 T3 ⊢
    refine ⟨.int (n : Int), rfl, _, 1, rfl, rfl, 1, rfl, 1, rfl, _, _, _, _, rfl, RgC.neg (by omega) (by omega) (by decide) (by decide), ?_⟩
    rw [show ((n : Int) - 1 - -1).toNat = n by omega]
    refine for_rangeC (lo := (n : Int) - 1) (c := -1) (n := n) (fun j σ H' => ∃ (y7 y8 : Option V) (pre : List Int) (m : Int), σ = [some (.ref r), some (.ref b), some (.ref e), some (.int (n : Int)), some (.ref G), some (.ref D), some (.ref Wd), y7, y8] ∧ Same H H' ∧ TL K H' G (begs ps ns.length es (n + 1)) ∧ H' Wd = some (.lst ((pre ++ [m]).map V.int)) ∧ pre.length = j ∧ m ∈ Bg (n - j) ∧ (0 ≤ m ∧ m < (ns.length : Int)) ∧ ∀ v, Gr (behindOf ps) Bg (n - j) m v → Gr (behindOf ps) Bg n m0 (pre ++ v))
      ⟨none, none, [], m0, rfl, s03, T3, eW, rfl, m2, bi m0 m1, fun v hv => hv⟩ (fun j σ H4 hj h => ?_) (fun σ H4 h => ?_)
    · obtain ⟨y7, y8, pre, m, rfl, s4, T4, eW4, lp, hm, hin, hG⟩ := h
      rw [show (n : Int) - 1 + (j : Int) * -1 = ((n - 1 - j : Nat) : Int) by omega]
      have R4 := R.same s4
      obtain ⟨dx, a0, b0, t0, g1, g2, g3, g4⟩ := R4.ex
      have fno := flds_no a0 b0 t0 (m := "behind") (by decide +kernel) (by decide +kernel) (by decide +kernel)
      obtain ⟨k, ek⟩ : ∃ k, n - j = k + 1 := ⟨n - j - 1, by omega⟩
      have ek2 : n - 1 - j = k := by omega
      have ek3 : n - (j + 1) = k := by omega
      rw [ek] at hm hG
      rw [ek2]
      have bl := Nat.le_trans (behind_len ps m) S.few
      refine ⟨.ref Wd, rfl, .inl ⟨rfl, _, lstNew eW4⟩, .ref r, rfl, r, dx, _, rfl, g1, fno, .ref Wd, rfl, 1, rfl, Wd, _, _, _, rfl, rfl, lstNew eW4, (by rw [List.map_append]; exact atI_last _ _), ?_⟩
      refine ⟨r, ns, ps, m.toNat, by rw [Int.toNat_of_nonneg hin.1]; rfl, R4, by omega, fun c hc => ⟨c, rfl, ⟨_, hc⟩, fun D' nD' => ?_⟩⟩
      rw [Int.toNat_of_nonneg hin.1] at hc
      refine lc_filtT (f := fun x => decide (x ∈ Bg k)) hc (by omega) nD' (fun x hx H' s' A' B' kk => ?_) (fun x H' Q' k => ⟨.int x, rfl, k⟩) fun H5 s5 e5 => ?_
      · obtain ⟨xs, a, eF, ea, hA⟩ := (T4.same s').at (begs_at (show k < n + 1 by omega))
        refine ⟨.int x, rfl, .ref G, rfl, .int (k : Int), rfl, G, xs, _, _, rfl, rfl, lstNew eF, ea, a, x, _, rfl, rfl, hA, _, rfl, ?_⟩
        rw [hBg]
        exact kk H' (Same.refl H')
      have hne : 0 < ((behindOf ps m).filter (fun x => decide (x ∈ Bg k))).length := by
        rw [← hBg] at hm
        obtain ⟨_, c', c1, c2⟩ := mem_beg.mp hm
        rw [hBg] at c2
        exact List.length_pos_iff.mpr fun z => by
          have : c' ∈ (behindOf ps m).filter (fun x => decide (x ∈ Bg k)) := List.mem_filter.mpr ⟨c1, decide_eq_true c2⟩
          rw [z] at this; cases this
      refine ⟨D', _, rfl, lstNew e5, hne, fun m' hm' hle' => ?_⟩
      obtain ⟨x1, x2⟩ := List.mem_filter.mp hm'
      have x2 := of_decide_eq_true x2
      refine ⟨Wd, _, _, rfl, rfl, s5 _ _ eW4, by rw [List.length_map, List.length_append, lp]; exact few7 (by simp; omega), ?_⟩
      refine ⟨_, _, pre ++ [m], m', rfl, fun b' o z => ?_, ?_, ?_, by rw [List.length_append, lp]; rfl, by rw [ek3]; exact x2, behind_inn S m m' x1, fun v hv => ?_⟩
      · rw [upd_ne (ne_of_none z nWH)]; exact s5 _ _ (s4 b' o z)
      · obtain ⟨as, k1, k2, k3⟩ := T4.same s5
        have hGW : G ≠ Wd := fun z => by
          rw [z, s5 _ _ eW4] at k1
          cases as with
          | nil => unfold begs at k2; rw [List.length_map, List.length_range] at k2; cases k2
          | cons a as =>
            have z2 := HO.lst.inj (Option.some.inj k1)
            cases pre <;> cases z2
        exact ⟨as, by rw [upd_ne hGW]; exact k1, k2, fun i a w ha hw => sqT_upd (s5 _ _ eW4) (k3 i a w ha hw)⟩
      · rw [upd_same, List.map_append (l₁ := pre ++ [m])]; rfl
      · rw [ek3] at hv
        have z := hG (m :: v) ⟨m', v, rfl, x1, x2, fun y y1 y2 => hle' y (List.mem_filter.mpr ⟨y1, decide_eq_true y2⟩), hv⟩
        rw [List.append_assoc]; exact z
    · obtain ⟨y7, y8, pre, m, rfl, s4, T4, eW4, lp, hm, hin, hG⟩ := h
      refine ⟨.ref Wd, rfl, .inl ⟨Wd, _, rfl, lstNew eW4, fun t nt => ?_⟩⟩
      refine q2 _ t m0 (pre ++ [m]) (s4.trans (same_upd nt)) m1 m2 (fun y y1 y2 => hle y (List.mem_filter.mpr ⟨y1, decide_eq_true y2⟩)) ?_ (tupNew upd_same)
      refine hG [m] ?_
      rw [Nat.sub_self]; rfl
/-! ### least_walk -/
theorem scLeastW : FnScope ["rule", "one", "other", "n"] ["rule", "one", "other", "n"] (defScope sLeastW) := ⟨rfl, rfl, rfl, by decide +kernel, rfl, by decide +kernel, by decide +kernel⟩
def spLeastW (K : PySem.W.Frag) (C : Addr) : Sp := fun vs H Q _ => ∃ (r : Addr) (x y : Int) (n : Nat) (ns : List Int) (ps : List (List Int)), vs = [.ref r, .int x, .int y, .int (n : Int)] ∧ RuleAt K C H r ns ps ∧ Stp ns ps ∧ ns.length ≤ 8 ∧ n ≤ 6000 ∧ (0 ≤ x ∧ x < (ns.length : Int)) ∧ (0 ≤ y ∧ y < (ns.length : Int)) ∧
  (∀ H', Same H H' → x ∉ beg (behindOf ps) ns.length [y] n → Q .non H') ∧
  ∀ (H' : Hp) (t : Addr) (g : List Int), Same H H' → x ∈ beg (behindOf ps) ns.length [y] n → Gr (behindOf ps) (beg (behindOf ps) ns.length [y]) n x g → SqT K H' t (g.map V.int) → Q (.ref t) H'
theorem ok_leastW {f C fB fM fL fG fN : Addr} {fd dB dM dL dG dN : FuncData} (F : Fun K "least_walk" "least_walk" sLeastW f fd) (T : Txt K mg C) (B : Bare mg)
    (FB : Fun K "behind" "Rule.behind" sBehindM fB dB) (bB : Binds K dB ["self", "mark"] []) (mB : Meth K C "behind" fB) (FM : Fun K "marks" "Rule.marks" sMarksM fM dM) (bM : Binds K dM ["self"] []) (mM : Meth K C "marks" fM)
    (DL : DefAt K mg "leads_into" sLeadsInto ["rule", "mark", "marks"] fL dL) (DG : DefAt K mg "beginnings" sBegin ["rule", "ends", "n"] fG dG) (DN : DefAt K mg "least_between" sBetween ["rule", "starts", "ends", "n"] fN dN) : FnOk P w K mg base CX0 5 f fd ["rule", "one", "other", "n"] (spLeastW K C) := by
  have GN : FnOk P w K mg base CX0 4 fN dN ["rule", "starts", "ends", "n"] (spBetween K C) := ok_between DN.fn T B FB bB mB FM bM mM DL DG
  refine F.ok scLeastW (fun vs H Q E h => ?_) (fun cdv A outer s H vs Q E hr h => ?_)
  · obtain ⟨r, x, y, n, ns, ps, rfl, _⟩ := h
    rfl
  · obtain ⟨r, x, y, n, ns, ps, rfl, R, S, n8, hn, hx, hy, q1, q2⟩ := h
    have one : (1 : Nat) ≤ sizeLine := by decide
    refine ⟨_, pss_cons (ps_if (pt_cmpR op_lt (pv 3) pe_int (nomark _)) (pss_one (ps_ret pe_non)) pss_nil)
      (pss_one (ps_ret (pe_call GN hr (by rfl) DN.mg DN.fn.kp DN.bi .nil pass0 (pa_cons (pv 0) (pa_cons (pe_tup (pa_cons (pv 1) pa_nil)) (pa_cons (pe_tup (pa_cons (pv 2) pa_nil)) (pa_cons (pv 3) pa_nil))))))), ?_⟩
    refine ⟨.int (n : Int), rfl, _, 0, rfl, rfl, _, rfl, ite2 (fun z => ?_) (fun _ => ?_)⟩
    · have z := of_decide_eq_true z
      omega
    refine ⟨.ref r, rfl, .int x, rfl, one, fun b nb => ⟨.int y, rfl, one, fun e ne => ⟨.int (n : Int), rfl, ?_⟩⟩⟩
    have s1 := same_upd (o := .tup [.int x]) nb
    have s2 := same_upd (o := .tup [.int y]) ne
    have s12 := s1.trans s2
    refine ⟨r, b, e, n, ns, ps, [x], [y], rfl, R.same s12, S, n8, tupNew (s2 _ _ upd_same), (by show 1 ≤ 8; decide), tupNew upd_same, hn, fun v hv => by rw [List.mem_singleton.mp hv]; exact hx, fun v hv => by rw [List.mem_singleton.mp hv]; exact hy, fun H' s' hno => ?_, fun H' t m g s' hm hmb _ hg ht => ?_⟩
    · exact q1 H' (s12.trans s') (hno x (List.mem_singleton.mpr rfl))
    · rw [List.mem_singleton.mp hm] at hmb hg
      exact q2 H' t g (s12.trans s') hmb hg ht
end
end K75
set_option maxHeartbeats 4000000
namespace K75
open PySem PySem.Spec PyProof.Rows L2 RV
section
variable {P : Program} {w : World} {K : PySem.W.Frag} {mg : Str → Option Value} {base : Heap}
/-! ### beginnings -/
abbrev nBeginL : List Str := ["rule", "ends", "n", "found", "at", "ahead", "mark"]
theorem scBeginL : FnScope nBeginL ["rule", "ends", "n"] (defScope sBegin) := ⟨rfl, rfl, rfl, by decide +kernel, rfl, by decide +kernel, by decide +kernel⟩
def spBeginL (K : PySem.W.Frag) (C : Addr) : Sp := fun vs H Q _ => ∃ (r e : Addr) (n : Nat) (ns : List Int) (ps : List (List Int)) (es : List Int), vs = [.ref r, .ref e, .int (n : Int)] ∧ RuleAt K C H r ns ps ∧ Stp ns ps ∧ ns.length ≤ 8 ∧ SqL K H e (es.map V.int) ∧ n ≤ 6000 ∧
  ∀ (H' : Hp) (F : Addr), Same H H' → TL K H' F (begs ps ns.length es (n + 1)) → Q (.ref F) H'
theorem ok_beginL {f C fB fM fL : Addr} {fd dB dM dL : FuncData} (F : Fun K "beginnings" "beginnings" sBegin f fd) (T : Txt K mg C) (B : Bare mg)
    (FB : Fun K "behind" "Rule.behind" sBehindM fB dB) (bB : Binds K dB ["self", "mark"] []) (mB : Meth K C "behind" fB) (FM : Fun K "marks" "Rule.marks" sMarksM fM dM) (bM : Binds K dM ["self"] []) (mM : Meth K C "marks" fM)
    (DL : DefAt K mg "leads_into" sLeadsInto ["rule", "mark", "marks"] fL dL) : FnOk P w K mg base CX0 3 f fd ["rule", "ends", "n"] (spBeginL K C) := by
  have GL : FnOk P w K mg base CX0 2 fL dL ["rule", "mark", "marks"] (spLeadsInto K C) := ok_leadsInto DL.fn T B FB bB mB
  have GM : FnOk P w K mg base CX0 1 fM dM ["self"] (spMarksM K C) := ok_marksM FM T B
  refine F.ok scBeginL (fun vs H Q E h => ?_) (fun cdv A outer s H vs Q E hr h => ?_)
  · obtain ⟨r, e, n, ns, ps, es, rfl, _⟩ := h
    rfl
  · obtain ⟨r, e, n, ns, ps, es, rfl, R, S, n8, hE, hn, q⟩ := h
    have r1 := hr.mono (show 1 ≤ 2 by decide)
    have one : (1 : Nat) ≤ sizeLine := by decide
    refine ⟨_, pss_cons (ps_set (i := 3) scBeginL.nd rfl (Or.inl rfl) (pe_lst (pa_cons (pe_tupleOf (by rfl) B.tuple (pv 1)) pa_nil)))
      (pss_cons (ps_for PassesOwn.never rfl (pi_range1 (by rfl) B.range (pa_cons (pv 2) pa_nil)) (pg_name (i := 4) scBeginL.nd rfl (Or.inl rfl))
        (pss_cons (ps_set (i := 5) scBeginL.nd rfl (Or.inr rfl) (pe_ix ix_list (pv 3) (pv 4) (fun _ _ => rfl)))
        (pss_one (ps_expr (pe_bm PySem.F.plainAttrs_list PySem.F.slot_list_append PySem.F.type_list_append mt_append (pv 3) (pa_cons (pe_tupleOf (by rfl) B.tuple
          (pe_lc (own := [("mark", 6)]) (g := gName 6) rfl scBeginL.nd (pi_range1 (by rfl) B.range (pa_cons (pe_meth0 (pv 0) T.cl mM GM r1 bM .nil pass0) pa_nil)) (blkOk_by (N := nBeginL) (sc := defScope sBegin) (by decide +kernel))
            (fun _ _ _ _ _ => pg_name (i := 6) scBeginL.nd rfl (Or.inl rfl)) (fun _ _ _ _ _ => pts_one (pt_val (pe_call GL hr (by rfl) DL.mg DL.fn.kp DL.bi .nil pass0 (pa_cons (pv 0) (pa_cons (pv 6) (pa_cons (pv 5) pa_nil)))))) (fun _ _ _ _ _ => pv 6))) pa_nil))))))
      (pss_one (ps_ret (pv 3)))), ?_⟩
    refine ⟨.ref e, rfl, .inl ⟨e, _, rfl, hE, fun e' ne => ⟨one, fun F0 nF' => ?_⟩⟩⟩
    have se := same_upd (o := .tup (es.map V.int)) ne
    have hE' : SqT K (upd H e' (.tup (es.map V.int))) e' (es.map V.int) := tupNew upd_same
    have nF : H F0 = none := se.free nF'
    generalize upd H e' (.tup (es.map V.int)) = He at se hE' nF' ⊢
    have sF' := same_upd (o := .lst [.ref e']) nF'
    have sF := se.trans sF'
    have T0 : TL K (upd He F0 (.lst [.ref e'])) F0 (begs ps ns.length es (0 + 1)) := ⟨[e'], upd_same, rfl, fun i a w ha hw => by
      cases i with
      | zero => cases ha; cases hw; exact sqT_same sF' hE'
      | succ i => cases ha⟩
    refine ⟨.int (n : Int), rfl, (n : Int), rfl, by omega, by omega, ?_⟩
    rw [Int.toNat_natCast]
    refine for_range (lo := 0) (n := n) (fun i σ H' => ∃ (y4 y5 y6 : Option V), σ = [some (.ref r), some (.ref e), some (.int (n : Int)), some (.ref F0), y4, y5, y6] ∧ Same H H' ∧ TL K H' F0 (begs ps ns.length es (i + 1))) ⟨none, none, none, rfl, sF, T0⟩ (fun i σ H1 hi h => ?_) (fun σ H1 h => ?_)
    · obtain ⟨y4, y5, y6, rfl, s1, T1⟩ := h
      rw [show (0 : Int) + (i : Int) = (i : Int) by omega]
      obtain ⟨xs, a, eF, ea, hA⟩ := T1.at (begs_at (show i < i + 1 by omega))
      refine ⟨.ref F0, rfl, .int (i : Int), rfl, F0, xs, _, _, rfl, rfl, lstNew eF, ea, ?_⟩
      have R1 := R.same s1
      obtain ⟨dx, a0, b0, t0, g1, g2, g3, g4⟩ := R1.ex
      have fno := flds_no a0 b0 t0 (m := "marks") (by decide +kernel) (by decide +kernel) (by decide +kernel)
      refine ⟨.ref F0, rfl, .inl ⟨rfl, _, lstNew eF⟩, .ref r, rfl, r, dx, _, rfl, g1, fno, r, ns, ps, rfl, R1, (ns.length : Int), rfl, by omega, by omega, fun D nD => ?_⟩
      rw [Int.toNat_natCast]
      refine lc_filtR (f := fun m => (behindOf ps m).any fun c => decide (c ∈ beg (behindOf ps) ns.length es i)) (by omega) nD (fun x x0 x1 H' s' A' B' kk => ?_) (fun x H' Q' k => ⟨.int x, rfl, k⟩) fun H2 s2 e2 => ?_
      · refine ⟨.ref r, rfl, .int x, rfl, .ref a, rfl, r, a, x.toNat, ns, ps, _, by rw [Int.toNat_of_nonneg x0]; rfl, R1.same s', S, by omega, sqT_same s' hA, fun H3 s3 => ?_⟩
        rw [Int.toNat_of_nonneg x0]
        exact ⟨_, rfl, kk H3 s3⟩
      refine .inl ⟨D, _, rfl, lstNew e2, fun t nt => ?_⟩
      have st := same_upd (o := .tup ((beg (behindOf ps) ns.length es (i + 1)).map V.int)) nt
      have s3 := s2.trans st
      obtain ⟨as, k1, k2, k3⟩ := T1.same s3
      refine ⟨F0, _, _, rfl, rfl, k1, ?_, ?_⟩
      · rw [List.length_map, k2]; unfold begs; rw [List.length_map, List.length_range]; exact few7 (by omega)
      · refine ⟨_, _, _, rfl, fun b o z => ?_, ?_⟩
        · rw [upd_ne (ne_of_none z nF)]; exact s3 _ _ (s1 b o z)
        · rw [begs_next ps ns.length es (i + 1)]
          exact TL.add k1 k2 k3 (tupNew upd_same)
    · obtain ⟨y4, y5, y6, rfl, s1, T1⟩ := h
      exact ⟨.ref F0, rfl, q H1 F0 s1 T1⟩
end
end K75
set_option maxHeartbeats 4000000
namespace K75
open PySem PySem.Spec PyProof.Rows L2 RV
section
variable {P : Program} {w : World} {K : PySem.W.Frag} {mg : Str → Option Value} {base : Heap}
/-! ### least_between -/
abbrev nBetweenL : List Str := ["rule", "starts", "ends", "n", "begun", "able", "walk", "left", "mark"]
theorem scBetweenL : FnScope nBetweenL ["rule", "starts", "ends", "n"] (defScope sBetween) := ⟨rfl, rfl, rfl, by decide +kernel, rfl, by decide +kernel, by decide +kernel⟩
def spBetweenL (K : PySem.W.Frag) (C : Addr) : Sp := fun vs H Q _ => ∃ (r b e : Addr) (n : Nat) (ns : List Int) (ps : List (List Int)) (bs es : List Int), vs = [.ref r, .ref b, .ref e, .int (n : Int)] ∧ RuleAt K C H r ns ps ∧ Stp ns ps ∧ ns.length ≤ 8 ∧ SqL K H b (bs.map V.int) ∧ bs.length ≤ 8 ∧ SqL K H e (es.map V.int) ∧ n ≤ 6000 ∧
  (∀ x ∈ bs, 0 ≤ x ∧ x < (ns.length : Int)) ∧ (∀ x ∈ es, 0 ≤ x ∧ x < (ns.length : Int)) ∧
  (∀ H', Same H H' → (∀ x ∈ bs, x ∉ beg (behindOf ps) ns.length es n) → Q .non H') ∧
  ∀ (H' : Hp) (t : Addr) (m : Int) (g : List Int), Same H H' → m ∈ bs → m ∈ beg (behindOf ps) ns.length es n → (∀ y ∈ bs, y ∈ beg (behindOf ps) ns.length es n → m ≤ y) → Gr (behindOf ps) (beg (behindOf ps) ns.length es) n m g → SqT K H' t (g.map V.int) → Q (.ref t) H'
theorem ok_betweenL {f C fB fM fL fG : Addr} {fd dB dM dL dG : FuncData} (F : Fun K "least_between" "least_between" sBetween f fd) (T : Txt K mg C) (B : Bare mg)
    (FB : Fun K "behind" "Rule.behind" sBehindM fB dB) (bB : Binds K dB ["self", "mark"] []) (mB : Meth K C "behind" fB) (FM : Fun K "marks" "Rule.marks" sMarksM fM dM) (bM : Binds K dM ["self"] []) (mM : Meth K C "marks" fM)
    (DL : DefAt K mg "leads_into" sLeadsInto ["rule", "mark", "marks"] fL dL) (DG : DefAt K mg "beginnings" sBegin ["rule", "ends", "n"] fG dG) : FnOk P w K mg base CX0 4 f fd ["rule", "starts", "ends", "n"] (spBetweenL K C) := by
  have GG : FnOk P w K mg base CX0 3 fG dG ["rule", "ends", "n"] (spBeginL K C) := ok_beginL DG.fn T B FB bB mB FM bM mM DL
  have GB : FnOk P w K mg base CX0 1 fB dB ["self", "mark"] (spBehindM K C) := ok_behindM FB T
  refine F.ok scBetweenL (fun vs H Q E h => ?_) (fun cdv A outer s H vs Q E hr h => ?_)
  · obtain ⟨r, b, e, n, ns, ps, bs, es, rfl, _⟩ := h
    rfl
  · obtain ⟨r, b, e, n, ns, ps, bs, es, rfl, R, S, n8, hB, b8, hE, hn, bi, ei, q1, q2⟩ := h
    have r1 := hr.mono (show 1 ≤ 3 by decide)
    have hu5 := un65 hr
    have one : (1 : Nat) ≤ sizeLine := by decide
    refine ⟨_, pss_cons (ps_set (i := 4) scBetweenL.nd rfl (Or.inr rfl) (pe_call GG hr (by rfl) DG.mg DG.fn.kp DG.bi .nil pass0 (pa_cons (pv 0) (pa_cons (pv 2) (pa_cons (pv 3) pa_nil)))))
      (pss_cons (ps_setLc (i := 5) (own := [("mark", 8)]) (g := gName 8) rfl scBetweenL.nd rfl rfl (by rfl) (pi_list (pv 1)) (blkOk_by (N := nBetweenL) (sc := defScope sBetween) (by decide +kernel))
          (fun _ _ _ _ _ => pg_name (i := 8) scBetweenL.nd rfl (Or.inl rfl)) (fun _ _ _ _ _ => pts_one (pt_cmpR (op_inTIK (K := K) rfl hu5) (pv 8) (pe_ix (ix_listK (K := K) rfl) (pv 4) (pv 3) (fun _ _ => rfl)) (by rfl))) (fun _ _ _ _ _ => pv 8))
      (pss_cons (ps_if (pt_cmpR op_eq (pe_callB call_len_seq (by rfl) B.len PySem.boot_len (pa_cons (pv 5) pa_nil)) pe_int (nomark _)) (pss_one (ps_ret pe_non)) pss_nil)
      (pss_cons (ps_set (i := 6) scBetweenL.nd rfl (Or.inl rfl) (pe_lst (pa_cons (pe_callB (cr_min rfl) (by rfl) B.min (by decide +kernel) (pa_cons (pv 5) pa_nil)) pa_nil)))
      (pss_cons (ps_for PassesOwn.never rfl (pi_range3 (by rfl) B.range (pa_cons (pe_op op_sub (pv 3) pe_int) (pa_cons (pe_un un_neg pe_int) (pa_cons (pe_un un_neg pe_int) pa_nil)))) (pg_name (i := 7) scBetweenL.nd rfl (Or.inr rfl))
        (pss_one (ps_expr (pe_bm PySem.F.plainAttrs_list PySem.F.slot_list_append PySem.F.type_list_append mt_append (pv 6) (pa_cons (pe_callB (cr_min rfl) (by rfl) B.min (by decide +kernel) (pa_cons
          (pe_lc (own := [("mark", 8)]) (g := gName 8) rfl scBetweenL.nd (pi_tup (pe_meth (pv 0) T.cl mB GB r1 bB .nil pass0 (pa_cons (pe_ix ix_list (pv 6) (pe_un un_neg pe_int) (fun _ _ => rfl)) pa_nil))) (blkOk_by (N := nBetweenL) (sc := defScope sBetween) (by decide +kernel))
            (fun _ _ _ _ _ => pg_name (i := 8) scBetweenL.nd rfl (Or.inl rfl)) (fun _ _ _ _ _ => pts_one (pt_cmpR (op_inTIK (K := K) rfl hu5) (pv 8) (pe_ix (ix_listK (K := K) rfl) (pv 4) (pv 7) (fun _ _ => rfl)) (by rfl))) (fun _ _ _ _ _ => pv 8)) pa_nil)) pa_nil)))))
      (pss_one (ps_ret (pe_tupleOf (by rfl) B.tuple (pv 6)))))))), ?_⟩
    refine ⟨.ref r, rfl, .ref e, rfl, .int (n : Int), rfl, r, e, n, ns, ps, es, rfl, R, S, n8, hE, hn, fun H1 G s1 T1 => ?_⟩
    generalize hBg : beg (behindOf ps) ns.length es = Bg at q1 q2
    -- able
    refine ⟨.ref b, rfl, b, rfl, ⟨_, s1.seq hB⟩, fun D nD => ?_⟩
    refine lc_filtL (f := fun x => decide (x ∈ Bg n)) (s1.seq hB) (by omega) nD (fun x hx H' s' A' B' kk => ?_) (fun x H' Q' k => ⟨.int x, rfl, k⟩) fun H2 s2 e2 => ?_
    · obtain ⟨xs, a, eF, ea, hA⟩ := (T1.same s').at (begs_at (show n < n + 1 by omega))
      refine ⟨.int x, rfl, .ref G, rfl, .int (n : Int), rfl, G, xs, _, _, rfl, rfl, lstNew eF, ea, a, x, _, rfl, rfl, hA, _, rfl, ?_⟩
      rw [hBg]
      exact kk H' (Same.refl H')
    have s02 := s1.trans s2
    have T2 := T1.same s2
    refine ⟨.ref D, rfl, D, _, rfl, .inl (lstNew e2), rfl, _, rfl, ?_⟩
    rw [List.length_map, decV]
    by_cases hz : bs.filter (fun x => decide (x ∈ Bg n)) = []
    · rw [hz]
      refine iteT ?_
      refine q1 H2 s02 fun x hx hn' => ?_
      have : x ∈ bs.filter (fun x => decide (x ∈ Bg n)) := List.mem_filter.mpr ⟨hx, decide_eq_true hn'⟩
      rw [hz] at this; cases this
    have hz0 : 0 < (bs.filter (fun x => decide (x ∈ Bg n))).length := List.length_pos_iff.mpr hz
    rw [decide_eq_false (show ¬ ((((bs.filter (fun x => decide (x ∈ Bg n))).length : Nat) : Int) = 0) by omega)]
    refine iteF ?_
    refine ⟨.ref D, rfl, D, _, rfl, lstNew e2, hz0, fun m0 hm0 hle => ⟨one, fun Wd nW => ?_⟩⟩
    obtain ⟨m1, m2⟩ := List.mem_filter.mp hm0
    have m2 := of_decide_eq_true m2
    have sW := same_upd (o := .lst [.int m0]) nW
    have eW : (upd H2 Wd (.lst [.int m0])) Wd = some (.lst (([] ++ [m0]).map V.int)) := upd_same
    have s03 := s02.trans sW
    have T3 := T2.same sW
    have nWH : H Wd = none := s02.free nW
    generalize upd H2 Wd (.lst [.int m0]) = H3 at eW s03 T3 ⊢
    refine ⟨.int (n : Int), rfl, _, 1, rfl, rfl, 1, rfl, 1, rfl, _, _, _, _, rfl, RgC.neg (by omega) (by omega) (by decide) (by decide), ?_⟩
    rw [show ((n : Int) - 1 - -1).toNat = n by omega]
    refine for_rangeC (lo := (n : Int) - 1) (c := -1) (n := n) (fun j σ H' => ∃ (y7 y8 : Option V) (pre : List Int) (m : Int), σ = [some (.ref r), some (.ref b), some (.ref e), some (.int (n : Int)), some (.ref G), some (.ref D), some (.ref Wd), y7, y8] ∧ Same H H' ∧ TL K H' G (begs ps ns.length es (n + 1)) ∧ H' Wd = some (.lst ((pre ++ [m]).map V.int)) ∧ pre.length = j ∧ m ∈ Bg (n - j) ∧ (0 ≤ m ∧ m < (ns.length : Int)) ∧ ∀ v, Gr (behindOf ps) Bg (n - j) m v → Gr (behindOf ps) Bg n m0 (pre ++ v))
      ⟨none, none, [], m0, rfl, s03, T3, eW, rfl, m2, bi m0 m1, fun v hv => hv⟩ (fun j σ H4 hj h => ?_) (fun σ H4 h => ?_)
    · obtain ⟨y7, y8, pre, m, rfl, s4, T4, eW4, lp, hm, hin, hG⟩ := h
      rw [show (n : Int) - 1 + (j : Int) * -1 = ((n - 1 - j : Nat) : Int) by omega]
      have R4 := R.same s4
      obtain ⟨dx, a0, b0, t0, g1, g2, g3, g4⟩ := R4.ex
      have fno := flds_no a0 b0 t0 (m := "behind") (by decide +kernel) (by decide +kernel) (by decide +kernel)
      obtain ⟨k, ek⟩ : ∃ k, n - j = k + 1 := ⟨n - j - 1, by omega⟩
      have ek2 : n - 1 - j = k := by omega
      have ek3 : n - (j + 1) = k := by omega
      rw [ek] at hm hG
      rw [ek2]
      have bl := Nat.le_trans (behind_len ps m) S.few
      refine ⟨.ref Wd, rfl, .inl ⟨rfl, _, lstNew eW4⟩, .ref r, rfl, r, dx, _, rfl, g1, fno, .ref Wd, rfl, 1, rfl, Wd, _, _, _, rfl, rfl, lstNew eW4, (by rw [List.map_append]; exact atI_last _ _), ?_⟩
      refine ⟨r, ns, ps, m.toNat, by rw [Int.toNat_of_nonneg hin.1]; rfl, R4, by omega, fun c hc => ⟨c, rfl, ⟨_, hc⟩, fun D' nD' => ?_⟩⟩
      rw [Int.toNat_of_nonneg hin.1] at hc
      refine lc_filtT (f := fun x => decide (x ∈ Bg k)) hc (by omega) nD' (fun x hx H' s' A' B' kk => ?_) (fun x H' Q' k => ⟨.int x, rfl, k⟩) fun H5 s5 e5 => ?_
      · obtain ⟨xs, a, eF, ea, hA⟩ := (T4.same s').at (begs_at (show k < n + 1 by omega))
        refine ⟨.int x, rfl, .ref G, rfl, .int (k : Int), rfl, G, xs, _, _, rfl, rfl, lstNew eF, ea, a, x, _, rfl, rfl, hA, _, rfl, ?_⟩
        rw [hBg]
        exact kk H' (Same.refl H')
      have hne : 0 < ((behindOf ps m).filter (fun x => decide (x ∈ Bg k))).length := by
        rw [← hBg] at hm
        obtain ⟨_, c', c1, c2⟩ := mem_beg.mp hm
        rw [hBg] at c2
        exact List.length_pos_iff.mpr fun z => by
          have : c' ∈ (behindOf ps m).filter (fun x => decide (x ∈ Bg k)) := List.mem_filter.mpr ⟨c1, decide_eq_true c2⟩
          rw [z] at this; cases this
      refine ⟨D', _, rfl, lstNew e5, hne, fun m' hm' hle' => ?_⟩
      obtain ⟨x1, x2⟩ := List.mem_filter.mp hm'
      have x2 := of_decide_eq_true x2
      refine ⟨Wd, _, _, rfl, rfl, s5 _ _ eW4, by rw [List.length_map, List.length_append, lp]; exact few7 (by simp; omega), ?_⟩
      refine ⟨_, _, pre ++ [m], m', rfl, fun b' o z => ?_, ?_, ?_, by rw [List.length_append, lp]; rfl, by rw [ek3]; exact x2, behind_inn S m m' x1, fun v hv => ?_⟩
      · rw [upd_ne (ne_of_none z nWH)]; exact s5 _ _ (s4 b' o z)
      · obtain ⟨as, k1, k2, k3⟩ := T4.same s5
        have hGW : G ≠ Wd := fun z => by
          rw [z, s5 _ _ eW4] at k1
          cases as with
          | nil => unfold begs at k2; rw [List.length_map, List.length_range] at k2; cases k2
          | cons a as =>
            have z2 := HO.lst.inj (Option.some.inj k1)
            cases pre <;> cases z2
        exact ⟨as, by rw [upd_ne hGW]; exact k1, k2, fun i a w ha hw => sqT_upd (s5 _ _ eW4) (k3 i a w ha hw)⟩
      · rw [upd_same, List.map_append (l₁ := pre ++ [m])]; rfl
      · rw [ek3] at hv
        have z := hG (m :: v) ⟨m', v, rfl, x1, x2, fun y y1 y2 => hle' y (List.mem_filter.mpr ⟨y1, decide_eq_true y2⟩), hv⟩
        rw [List.append_assoc]; exact z
    · obtain ⟨y7, y8, pre, m, rfl, s4, T4, eW4, lp, hm, hin, hG⟩ := h
      refine ⟨.ref Wd, rfl, .inl ⟨Wd, _, rfl, lstNew eW4, fun t nt => ?_⟩⟩
      refine q2 _ t m0 (pre ++ [m]) (s4.trans (same_upd nt)) m1 m2 (fun y y1 y2 => hle y (List.mem_filter.mpr ⟨y1, decide_eq_true y2⟩)) ?_ (tupNew upd_same)
      refine hG [m] ?_
      rw [Nat.sub_self]; rfl
end
end K75
set_option maxHeartbeats 4000000
/-! xs[i] += e, xs a list, i from 0 on -/
namespace RV
open PySem PySem.Spec PyProof.Rows L2
section
variable {X : Cx}
def rGetL (K : PySem.W.Frag) : V → V → Hp → VK → Prop := fun x y H Q => ∃ (p : Addr) (xs : List V) (i : Nat) (z : V), x = .ref p ∧ y = .int (i : Int) ∧ SqL K H p xs ∧ xs[i]? = some z ∧ Q z H
theorem pget_list : PGet X (rGetL X.K) := by
  intro pins s σ H o i ov iv Q I r1 r2 h
  obtain ⟨p, xs, n, z, rfl, rfl, hq, he, q⟩ := h
  cases r1
  obtain ⟨t, rfl⟩ := r2
  obtain ⟨its, r, pl, hz⟩ := I.list hq
  obtain ⟨w, ew, rw'⟩ := r.get he
  have hl := r.length
  have hn := line63
  have hi : n < xs.length := (List.getElem?_eq_some_iff.mp he).1
  have fin : EP X pins σ Q w s := ⟨z, H, I, rw', q⟩
  exact wpAny_getItem_list (t := t) pl.isList (by omega) (by omega) (show its.toArray[((n : Nat) : Int).toNat]? = some w by simpa using ew) fin
end
end RV
set_option maxHeartbeats 4000000
namespace K75
open PySem PySem.Spec PyProof.Rows L2 RV
/-- f by the marks -/
def vec (f : Int → Int) (n : Nat) : List Int := (upN n).map f
theorem vec_len (f : Int → Int) (n : Nat) : (vec f n).length = n := by unfold vec; rw [List.length_map, upN_len]
theorem vec_at {f : Int → Int} {n k : Nat} (h : k < n) : (vec f n)[k]? = some (f (k : Int)) := by
  unfold vec
  rw [List.getElem?_map, upN_get h]; rfl
theorem vec_ext {f g : Int → Int} {n : Nat} (h : ∀ k : Nat, k < n → f (k : Int) = g (k : Int)) : vec f n = vec g n := by
  refine List.ext_getElem? fun k => ?_
  by_cases hk : k < n
  · rw [vec_at hk, vec_at hk, h k hk]
  · rw [List.getElem?_eq_none (by rw [vec_len]; omega), List.getElem?_eq_none (by rw [vec_len]; omega)]
theorem vec_set {f : Int → Int} {n k : Nat} {v : Int} (hk : k < n) : (vec f n).set k v = vec (fun j => if j = (k : Int) then v else f j) n := by
  refine List.ext_getElem? fun i => ?_
  by_cases hi : i < n
  · rw [vec_at hi, List.getElem?_set]
    by_cases e : k = i
    · subst e
      rw [if_pos rfl, if_pos (by rw [vec_len]; exact hi), if_pos rfl]
    · rw [if_neg e, vec_at hi, if_neg (by omega)]
  · rw [List.getElem?_eq_none (by rw [List.length_set, vec_len]; omega), List.getElem?_eq_none (by rw [vec_len]; omega)]
theorem vec_zero (n : Nat) : List.replicate n (0 : Int) = vec (fun _ => 0) n := by
  refine List.ext_getElem? fun k => ?_
  by_cases hk : k < n
  · rw [vec_at hk, List.getElem?_replicate, if_pos hk]
  · rw [List.getElem?_eq_none (by rw [List.length_replicate]; omega), List.getElem?_eq_none (by rw [vec_len]; omega)]
theorem rep0 (n : Nat) : (List.replicate n [V.int 0]).flatten = (vec (fun _ => 0) n).map V.int := by
  rw [← vec_zero]
  induction n with
  | zero => rfl
  | succ n ih => rw [List.replicate_succ, List.flatten_cons, ih]; rfl
theorem flds_s' (a b t : Addr) : (flds a b t).lookup ("steps" : Str) = some (.ref b) := flds_s a b t
section
variable {P : Program} {w : World} {K : PySem.W.Frag} {mg : Str → Option Value} {base : Heap}
/-! ### walks_back -/
theorem scBack : FnScope ["rule", "mark", "n", "counts", "at", "coming", "a", "b"] ["rule", "mark", "n"] (defScope sBack) := ⟨rfl, rfl, rfl, by decide +kernel, rfl, by decide +kernel, by decide +kernel⟩
def spBack (K : PySem.W.Frag) (C : Addr) : Sp := fun vs H Q _ => ∃ (r : Addr) (m : Int) (n : Nat) (ns : List Int) (ps : List (List Int)), vs = [.ref r, .int m, .int (n : Int)] ∧ RuleAt K C H r ns ps ∧ Mir ns ∧ Stp ns ps ∧ (0 ≤ m ∧ m < (ns.length : Int)) ∧ n ≤ 1000 ∧
  ∀ H', Same H H' → Q (.int (cw ps n m m)) H'
theorem ok_back {f C fM : Addr} {fd dM : FuncData} (F : Fun K "walks_back" "walks_back" sBack f fd) (T : Txt K mg C) (B : Bare mg)
    (FM : Fun K "marks" "Rule.marks" sMarksM fM dM) (bM : Binds K dM ["self"] []) (mM : Meth K C "marks" fM) : FnOk P w K mg base CX0 2 f fd ["rule", "mark", "n"] (spBack K C) := by
  have GM : FnOk P w K mg base CX0 1 fM dM ["self"] (spMarksM K C) := ok_marksM FM T B
  refine F.ok scBack (fun vs H Q E h => ?_) (fun cdv A outer s H vs Q E hr h => ?_)
  · obtain ⟨r, m, n, ns, ps, rfl, _⟩ := h
    rfl
  · obtain ⟨r, m, n, ns, ps, rfl, R, M, S, hm, hn, q⟩ := h
    have one : (1 : Nat) ≤ sizeLine := by decide
    refine ⟨_, pss_cons (ps_set (i := 3) scBack.nd rfl (Or.inl rfl) (pe_op op_rep (pe_lst (pa_cons pe_int pa_nil)) (pe_meth0 (pv 0) T.cl mM GM hr bM .nil pass0)))
      (pss_cons (ps_asg pe_int (pg_sub (pv 3) (pv 1) set_list))
      (pss_cons (ps_for PassesOwn.never rfl (pi_range1 (by rfl) B.range (pa_cons (pv 2) pa_nil)) (pg_name (i := 4) scBack.nd rfl (Or.inl rfl))
        (pss_cons (ps_set (i := 5) scBack.nd rfl (Or.inl rfl) (pe_op op_rep (pe_lst (pa_cons pe_int pa_nil)) (pe_meth0 (pv 0) T.cl mM GM hr bM .nil pass0)))
        (pss_cons (ps_for PassesOwn.never rfl (pi_tup (pe_fld (pv 0) rfl)) (pg_tup rfl (pgs_cons (pg_name (i := 6) scBack.nd rfl (Or.inl rfl)) (pgs_cons (pg_name (i := 7) scBack.nd rfl (Or.inl rfl)) pgs_nil)))
          (pss_one (ps_augS (pv 5) (pv 7) pget_list (pe_ix ix_list (pv 3) (pv 6) (fun _ _ => rfl)) ip_add set_list)))
        (pss_one (ps_set (i := 3) scBack.nd rfl (Or.inl rfl) (pv 5))))))
      (pss_one (ps_ret (pe_ix ix_list (pv 3) (pv 1) (fun _ _ => rfl)))))), ?_⟩
    obtain ⟨dx, a0, b0, t0, g1, g2, g3, g4⟩ := R.ex
    have fno := flds_no a0 b0 t0 (m := "marks") (by decide +kernel) (by decide +kernel) (by decide +kernel)
    have h8 := M.few
    have hP : ∀ p ∈ ps, Pr (ns.length : Int) p := fun p hp => S.pair p hp
    -- counts
    refine ⟨one, fun N nN => ⟨.ref r, rfl, r, dx, _, rfl, same_upd nN _ _ g1, fno, r, ns, ps, rfl, R.same (same_upd nN), N, _, _, rfl, rfl, upd_same, by omega, by omega, ?_, fun L nL => ?_⟩⟩
    · rw [Int.toNat_natCast]; exact Nat.le_trans (by simp) (Nat.le_of_lt (few1 (show ns.length ≤ 1000 by omega)))
    rw [Int.toNat_natCast, rep0]
    have sL := (same_upd (o := .lst [.int 0]) nN).trans (same_upd (o := .lst ((vec (fun _ => 0) ns.length).map V.int)) nL)
    have nLH : H L = none := (same_upd nN).free nL
    have emi : m = ((m.toNat : Nat) : Int) := by omega
    refine ⟨.ref L, rfl, .int m, rfl, L, _, m, m.toNat, rfl, rfl, upd_same, ix_at (by rw [List.length_map, vec_len]; omega) hm.1, ?_⟩
    have e0 : ((vec (fun _ => 0) ns.length).map V.int).set m.toNat (.int 1) = (vec (cw ps 0 m) ns.length).map V.int := by
      rw [← List.map_set, vec_set (by omega)]
      congr 1
      refine vec_ext fun k hk => ?_
      show (if (k : Int) = ((m.toNat : Nat) : Int) then (1 : Int) else 0) = if (k : Int) = m then 1 else 0
      rw [← emi]
    rw [e0]
    refine ⟨.int (n : Int), rfl, (n : Int), rfl, by omega, by omega, ?_⟩
    rw [Int.toNat_natCast]
    refine for_range (lo := 0) (n := n) (fun i σ H' => ∃ (c : Addr) (y4 y5 y6 y7 : Option V), σ = [some (.ref r), some (.int m), some (.int (n : Int)), some (.ref c), y4, y5, y6, y7] ∧ Same H H' ∧ H' c = some (.lst ((vec (cw ps i m) ns.length).map V.int)))
      ⟨L, _, _, _, _, rfl, fun x o e => by rw [upd_ne (ne_of_none e nLH)]; exact sL x o e, upd_same⟩ (fun i σ H1 hi h => ?_) (fun σ H1 h => ?_)
    · obtain ⟨c, y4, y5, y6, y7, rfl, s1, e1⟩ := h
      refine ⟨one, fun N2 nN2 => ⟨.ref r, rfl, r, dx, _, rfl, same_upd nN2 _ _ (s1 _ _ g1), fno, r, ns, ps, rfl, (R.same s1).same (same_upd nN2), N2, _, _, rfl, rfl, upd_same, by omega, by omega, ?_, fun L2 nL2 => ?_⟩⟩
      · rw [Int.toNat_natCast]; exact Nat.le_trans (by simp) (Nat.le_of_lt (few1 (show ns.length ≤ 1000 by omega)))
      rw [Int.toNat_natCast, rep0]
      have sL2 := (same_upd (o := .lst [.int 0]) nN2).trans (same_upd (o := .lst ((vec (fun _ => 0) ns.length).map V.int)) nL2)
      have nL1 : H1 L2 = none := (same_upd nN2).free nL2
      have hcL : c ≠ L2 := ne_of_none e1 nL1
      have e2 : (upd (upd H1 N2 (.lst [.int 0])) L2 (.lst ((vec (fun _ => 0) ns.length).map V.int))) L2 = some (.lst ((vec (fun _ => 0) ns.length).map V.int)) := upd_same
      generalize upd (upd H1 N2 (.lst [.int 0])) L2 (.lst ((vec (fun _ => 0) ns.length).map V.int)) = H2 at sL2 e2 ⊢
      have R2 := (R.same s1).same sL2
      obtain ⟨dx2, a2, b2, t2, k1, k2, k3, k4⟩ := R2.ex
      obtain ⟨ks, ek, hT, hks⟩ := k3
      have lks : ks.length ≤ 64 := by rw [← List.length_map (f := (·.2)), ek]; exact S.few
      refine ⟨.ref r, rfl, r, C, dx2, _, _, rfl, k1, T.cl, T.nS, flds_s _ _ _, b2, rfl, ⟨_, hT⟩, ?_⟩
      refine for_tup (K := K) (a := b2) (xs := ks.map fun p => V.ref p.1) (fun j σ H' => ∃ (y6 y7 : Option V), σ = [some (.ref r), some (.int m), some (.int (n : Int)), some (.ref c), some (.int (0 + (i : Int))), some (.ref L2), y6, y7] ∧ Same H1 H' ∧ SqT K H' b2 (ks.map fun p => V.ref p.1) ∧ (∀ p ∈ ks, SqT K H' p.1 (p.2.map V.int)) ∧ H' L2 = some (.lst ((vec (stp (ps.take j) (cw ps i m)) ns.length).map V.int)))
        ⟨_, _, rfl, sL2, hT, hks, ?_⟩ (fun j σ H' _ h => ?_) (fun j x σ H3 hx h => ?_) (fun σ H3 h => ?_)
      · rw [e2]; congr 2
      · obtain ⟨_, _, _, _, h3, _⟩ := h
        exact h3
      · obtain ⟨y6, y7, rfl, s3, hT3, hk3, e3⟩ := h
        obtain ⟨k, g, rfl⟩ := map_at hx
        have hk : k ∈ ks := List.mem_of_getElem? g
        have gi : ps[j]? = some k.2 := by rw [← ek, List.getElem?_map, g]; rfl
        obtain ⟨x, y, e, bx, by_⟩ := hP k.2 (List.mem_of_getElem? gi)
        rw [e] at gi
        have hkT : SqT K H3 k.1 ([x, y].map V.int) := by rw [← e]; exact hk3 k hk
        refine ⟨k.1, _, rfl, hkT, rfl, _, _, rfl, _, _, rfl, rfl, ?_⟩
        have exi : x = ((x.toNat : Nat) : Int) := by omega
        have eyi : y = ((y.toNat : Nat) : Int) := by omega
        have ec3 := s3 _ _ e1
        have ax : atI ((vec (cw ps i m) ns.length).map V.int) x = some (.int (cw ps i m x)) := by
          rw [exi]
          exact atI_nat (by rw [List.getElem?_map, vec_at (by omega)]; rfl)
        refine ⟨.ref L2, rfl, .int y, rfl, L2, _, y.toNat, .int (stp (ps.take j) (cw ps i m) y), rfl, congrArg V.int eyi, lstNew e3, ?_, ?_⟩
        · rw [List.getElem?_map, vec_at (by omega), ← eyi]; rfl
        refine ⟨.ref c, rfl, .int x, rfl, c, _, _, _, rfl, rfl, lstNew ec3, ax, _, _, rfl, rfl, L2, _, y, y.toNat, rfl, rfl, e3, ix_at (by rw [List.length_map, vec_len]; omega) by_.1, ?_⟩
        refine ⟨_, _, rfl, fun x' o e' => ?_, sqT_lst e3 hT3, fun p hp => sqT_lst e3 (hk3 p hp), ?_⟩
        · rw [upd_ne (ne_of_none e' nL1)]; exact s3 x' o e'
        · rw [upd_same, ← List.map_set, vec_set (by omega)]
          congr 3
          refine vec_ext fun k' hk' => ?_
          rw [stp_next gi]
          by_cases c1 : (k' : Int) = ((y.toNat : Nat) : Int)
          · rw [if_pos c1, if_pos (by omega), c1, ← eyi]
          · rw [if_neg c1, if_neg (by omega), Int.add_zero]
      · obtain ⟨y6, y7, rfl, s3, hT3, hk3, e3⟩ := h
        rw [List.length_map, show ps.take ks.length = ps from List.take_of_length_le (by rw [← ek, List.length_map]; exact Nat.le_refl _)] at e3
        exact ⟨.ref L2, rfl, L2, _, _, _, _, rfl, s1.trans s3, e3⟩
    · obtain ⟨c, y4, y5, y6, y7, rfl, s1, e1⟩ := h
      refine ⟨.ref c, rfl, .int m, rfl, c, _, _, .int (cw ps n m m), rfl, rfl, lstNew e1, ?_, q H1 s1⟩
      rw [emi]
      exact atI_nat (by rw [List.getElem?_map, vec_at (by omega), ← emi]; rfl)
/-! ### how_many -/
theorem scHow : FnScope ["rule", "part", "n", "mark"] ["rule", "part", "n"] (defScope sHow) := ⟨rfl, rfl, rfl, by decide +kernel, rfl, by decide +kernel, by decide +kernel⟩
def spHow (K : PySem.W.Frag) (C : Addr) : Sp := fun vs H Q _ => ∃ (r : Addr) (k n : Nat) (ns p : List Int) (ps : List (List Int)), vs = [.ref r, .int (k : Int), .int (n : Int)] ∧ RuleAt K C H r ns ps ∧ Mir ns ∧ Stp ns ps ∧ (partsOf ps ns.length)[k]? = some p ∧ 1 ≤ n ∧ n ≤ 1000 ∧
  ∀ H', Same H H' → Q (.int (sm p fun m => cw ps n m m)) H'
theorem ok_how {f C fM fP fB : Addr} {fd dM dP dB : FuncData} (F : Fun K "how_many" "how_many" sHow f fd) (T : Txt K mg C) (B : Bare mg)
    (FM : Fun K "marks" "Rule.marks" sMarksM fM dM) (bM : Binds K dM ["self"] []) (mM : Meth K C "marks" fM)
    (DP : DefAt K mg "parts" sParts ["rule"] fP dP) (GP : FnOk P w K mg base CX0 3 fP dP ["rule"] (spParts K C)) (DB : DefAt K mg "walks_back" sBack ["rule", "mark", "n"] fB dB) : FnOk P w K mg base CX0 4 f fd ["rule", "part", "n"] (spHow K C) := by
  have GB : FnOk P w K mg base CX0 2 fB dB ["rule", "mark", "n"] (spBack K C) := ok_back DB.fn T B FM bM mM
  refine F.ok scHow (fun vs H Q E h => ?_) (fun cdv A outer s H vs Q E hr h => ?_)
  · obtain ⟨r, k, n, ns, p, ps, rfl, _⟩ := h
    rfl
  · obtain ⟨r, k, n, ns, p, ps, rfl, R, M, S, gk, n1, n2, q⟩ := h
    have r2 := hr.mono (show 2 ≤ 3 by decide)
    refine ⟨_, pss_cons (ps_if (pt_cmpR op_lt (pv 2) pe_int (nomark _)) (pss_one (ps_ret pe_int)) pss_nil)
      (pss_one (ps_ret (pe_callB (cr_sum rfl) (by rfl) B.sum (by decide +kernel) (pa_cons
        (pe_lc (own := [("mark", 3)]) (g := gName 3) (tt := tYes) rfl scHow.nd (pi_tup (pe_ix ix_tup (pe_call GP hr (by rfl) DP.mg DP.fn.kp DP.bi .nil pass0 (pa_cons (pv 0) pa_nil)) (pv 1) (fun _ _ => rfl))) (blkOk_by (N := ["rule", "part", "n", "mark"]) (sc := defScope sHow) (by decide +kernel))
          (fun _ _ _ _ _ => pg_name (i := 3) scHow.nd rfl (Or.inl rfl)) (fun _ _ _ _ _ => pts_nil) (fun _ _ _ _ _ => pe_call GB r2 (by rfl) DB.mg DB.fn.kp DB.bi .nil pass0 (pa_cons (pv 0) (pa_cons (pv 3) (pa_cons (pv 2) pa_nil))))) pa_nil)))), ?_⟩
    have h8 := M.few
    refine ⟨.int (n : Int), rfl, _, _, rfl, rfl, _, rfl, ?_⟩
    rw [decide_eq_false (by omega)]
    refine iteF ?_
    refine ⟨.ref r, rfl, r, ns, ps, rfl, R, M, S, fun H1 c s1 nc hc => ?_⟩
    obtain ⟨ks, k1, k2, k3⟩ := hc
    have gk' : (ks.map (·.2))[k]? = some p := by rw [k1]; exact gk
    obtain ⟨kk, gkk, ekk⟩ := map_at gk'
    have hp : SqT K H1 kk.1 (p.map V.int) := by
      have z := (k3 kk (List.mem_of_getElem? gkk)).sq (K := K)
      rw [← ekk] at z; exact z
    have hpm := List.mem_of_getElem? gk
    refine ⟨.int (k : Int), rfl, c, _, _, .ref kk.1, rfl, rfl, tupNew k2, atI_nat (by rw [List.getElem?_map, gkk]; rfl), kk.1, rfl, ⟨_, hp⟩, fun D nD => ?_⟩
    have lp : p.length ≤ 8 := by
      obtain ⟨m, _, _, e⟩ := mem_parts.mp hpm
      rw [e]; exact Nat.le_trans (lot_len _ _ _) h8
    refine lc_mapT (h := fun m => cw ps n m m) hp (by omega) nD (fun x hx H' Q' s' kq => ?_) fun H2 s2 e2 => ?_
    · have bx := (mem_lot.mp (by rw [part_lot hpm hx]; exact hx : x ∈ lotOf ps ns.length x)).1
      exact ⟨.ref r, rfl, .int x, rfl, .int (n : Int), rfl, r, x, n, ns, ps, rfl, R.same (s1.trans s'), M, S, bx, n2, fun H2 s2 => kq H2 s2⟩
    · exact ⟨D, _, rfl, lstNew e2, q H2 (s1.trans s2)⟩
end
end K75
set_option maxHeartbeats 4000000
namespace K75
open PySem PySem.Spec PyProof.Rows L2 RV
noncomputable def fB (f : Int → Int → Prop) (m : Int) : Bool := @decide (f m m) (Classical.propDecidable _)
theorem fB_iff {f : Int → Int → Prop} {m : Int} : fB f m = true ↔ f m m := @decide_eq_true_iff _ (Classical.propDecidable _)
theorem cut_last (xs : List V) (v : V) : cutV (xs ++ [v]) none (some (-1)) = xs := by
  have e : cutV (xs ++ [v]) none (some (-1)) = cutV (xs ++ [v]) none (some ((xs.length : Nat) : Int)) := by
    unfold cutV
    have z : HT.sIx (xs ++ [v]).length (xs ++ [v]).length (some (-1)) = HT.sIx (xs ++ [v]).length (xs ++ [v]).length (some ((xs.length : Nat) : Int)) := by
      rw [HT.sIx_nat]
      show (if (-1 : Int) < 0 then ((-1 : Int) + ((xs ++ [v]).length : Int)).toNat else min (-1 : Int).toNat (xs ++ [v]).length) = _
      rw [if_pos (by decide), List.length_append]
      simp; omega
    rw [z]
  rw [e, cut_to]; simp
/-- the least ring: mark by mark -/
def LR (ps : List (List Int)) (N : Nat) (p : List Int) (n : Nat) (r : List Int) : Prop := ∃ m, m ∈ p ∧ m ∈ beg (behindOf ps) N [m] n ∧ (∀ y ∈ p, y ∈ beg (behindOf ps) N [y] n → m ≤ y) ∧ Gr (behindOf ps) (beg (behindOf ps) N [m]) n m (r ++ [m])
def NR (ps : List (List Int)) (N : Nat) (p : List Int) (n : Nat) : Prop := ∀ m ∈ p, m ∉ beg (behindOf ps) N [m] n
theorem LR.uniq {ps : List (List Int)} {N : Nat} {p : List Int} {n : Nat} {r r' : List Int} (h : LR ps N p n r) (h' : LR ps N p n r') : r = r' := by
  obtain ⟨m, a1, a2, a3, a4⟩ := h
  obtain ⟨m', b1, b2, b3, b4⟩ := h'
  have e : m = m' := Int.le_antisymm (a3 m' b1 b2) (b3 m a1 a2)
  subst e
  exact List.append_cancel_right (a4.uniq b4)
theorem LR.not {ps : List (List Int)} {N : Nat} {p : List Int} {n : Nat} {r : List Int} (h : LR ps N p n r) (h' : NR ps N p n) : False := by
  obtain ⟨m, a1, a2, _⟩ := h
  exact h' m a1 a2
theorem gr_last {bh : Int → List Int} {N : Nat} {o : Int} {n : Nat} {m : Int} {g : List Int} (h : Gr bh (beg bh N [o]) n m g) (hm : m ∈ beg bh N [o] n) : ∃ r, g = r ++ [o] := by
  have w := h.wk hm
  cases n with
  | zero => exact ⟨[], by rw [w.1, w.2]; rfl⟩
  | succ n =>
    obtain ⟨_, v, _, _, e⟩ := w.unsnoc
    exact ⟨v, e⟩
section
variable {P : Program} {w : World} {K : PySem.W.Frag} {mg : Str → Option Value} {base : Heap}
/-! ### come_back -/
theorem scCB : FnScope ["ends", "marks", "mark"] ["ends", "marks"] (defScope sComeBack) := ⟨rfl, rfl, rfl, by decide +kernel, rfl, by decide +kernel, by decide +kernel⟩
def spCB (K : PySem.W.Frag) : Sp := fun vs H Q _ => ∃ (t a : Addr) (N : Nat) (f : Int → Int → Prop) (p : List Int), vs = [.ref t, .ref a] ∧ Tab K H t N f ∧ SqT K H a (p.map V.int) ∧ p.length ≤ 8 ∧ (∀ x ∈ p, 0 ≤ x ∧ x < (N : Int)) ∧
  ∀ (H' : Hp) (l : Addr), Same H H' → H' l = some (.lst ((p.filter (fB f)).map V.int)) → Q (.ref l) H'
theorem ok_cb {f : Addr} {fd : FuncData} (F : Fun K "come_back" "come_back" sComeBack f fd) : FnOk P w K mg base CX0 1 f fd ["ends", "marks"] (spCB K) := by
  refine F.ok scCB (fun vs H Q E h => ?_) (fun cdv A outer s H vs Q E hr h => ?_)
  · obtain ⟨t, a, N, f, p, rfl, _⟩ := h
    rfl
  · obtain ⟨t, a, N, f, p, rfl, hT, hA, lp, inn, q⟩ := h
    have hu5 := un65 hr
    refine ⟨_, pss_one (ps_ret (pe_lc (own := [("mark", 2)]) (g := gName 2) rfl scCB.nd (pi_tup (pv 1)) (blkOk_by (N := ["ends", "marks", "mark"]) (sc := defScope sComeBack) (by decide +kernel))
          (fun _ _ _ _ _ => pg_name (i := 2) scCB.nd rfl (Or.inl rfl)) (fun _ _ _ _ _ => pts_one (pt_cmpR (op_inTIK (K := K) rfl hu5) (pv 2) (pe_ix (ix_tupK (K := K) rfl) (pv 0) (pv 2) (fun _ _ => rfl)) (by rfl))) (fun _ _ _ _ _ => pv 2))), ?_⟩
    refine ⟨.ref a, rfl, a, rfl, ⟨_, hA⟩, fun D nD => ?_⟩
    refine lc_filtT (f := fB f) hA (by omega) nD (fun x hx H' s' A' B' kk => ?_) (fun x H' Q' k => ⟨.int x, rfl, k⟩) fun H2 s2 e2 => q H2 D s2 e2
    obtain ⟨vs, c, xs, k1, k2, k3, k4, k5, k6⟩ := (hT.same s').at (inn x hx).1 (inn x hx).2
    refine ⟨.int x, rfl, .ref t, rfl, .int x, rfl, t, vs, x, .ref c, rfl, rfl, k1, k2, c, x, xs, rfl, rfl, k3, _, rfl, ?_⟩
    rw [show decide (x ∈ xs) = fB f x by rw [Bool.eq_iff_iff, decide_eq_true_iff, fB_iff]; exact k6 x]
    exact kk H' (Same.refl H')
/-! ### least_ring -/
abbrev nLR : List Str := ["rule", "part", "n", "starts", "walk"]
theorem scLR : FnScope nLR ["rule", "part", "n"] (defScope sLeastR) := ⟨rfl, rfl, rfl, by decide +kernel, rfl, by decide +kernel, by decide +kernel⟩
def spLR (K : PySem.W.Frag) (C : Addr) : Sp := fun vs H Q _ => ∃ (r : Addr) (k n : Nat) (ns p : List Int) (ps : List (List Int)), vs = [.ref r, .int (k : Int), .int (n : Int)] ∧ RuleAt K C H r ns ps ∧ Mir ns ∧ Stp ns ps ∧ (partsOf ps ns.length)[k]? = some p ∧ 1 ≤ n ∧ n ≤ 6000 ∧
  (∀ H', Same H H' → NR ps ns.length p n → Q .non H') ∧ ∀ (H' : Hp) (t : Addr) (l : List Int), Same H H' → LR ps ns.length p n l → SqT K H' t (l.map V.int) → Q (.ref t) H'
theorem ok_lr {f C fP fO fC fW : Addr} {fd dP dO dC dW : FuncData} (F : Fun K "least_ring" "least_ring" sLeastR f fd) (B : Bare mg)
    (DP : DefAt K mg "parts" sParts ["rule"] fP dP) (GP : FnOk P w K mg base CX0 3 fP dP ["rule"] (spParts K C)) (DO : DefAt K mg "ends_of_walks" sOfWalks ["rule", "n"] fO dO) (GO : FnOk P w K mg base CX0 3 fO dO ["rule", "n"] (spOW K C))
    (DC : DefAt K mg "come_back" sComeBack ["ends", "marks"] fC dC) (DW : DefAt K mg "least_walk" sLeastW ["rule", "one", "other", "n"] fW dW) (GW : FnOk P w K mg base CX0 5 fW dW ["rule", "one", "other", "n"] (spLeastW K C)) : FnOk P w K mg base CX0 6 f fd ["rule", "part", "n"] (spLR K C) := by
  have GC : FnOk P w K mg base CX0 1 fC dC ["ends", "marks"] (spCB K) := ok_cb DC.fn
  refine F.ok scLR (fun vs H Q E h => ?_) (fun cdv A outer s H vs Q E hr h => ?_)
  · obtain ⟨r, k, n, ns, p, ps, rfl, _⟩ := h
    rfl
  · obtain ⟨r, k, n, ns, p, ps, rfl, R, M, S, gk, n1, n2, q1, q2⟩ := h
    have r1 := hr.mono (show 1 ≤ 5 by decide)
    have r3 := hr.mono (show 3 ≤ 5 by decide)
    refine ⟨_, pss_cons (ps_if (pt_cmpR op_lt (pv 2) pe_int (nomark _)) (pss_one (ps_ret pe_non)) pss_nil)
      (pss_cons (ps_set (i := 3) scLR.nd rfl (Or.inl rfl) (pe_call GC r1 (by rfl) DC.mg DC.fn.kp DC.bi .nil pass0 (pa_cons (pe_call GO r3 (by rfl) DO.mg DO.fn.kp DO.bi .nil pass0 (pa_cons (pv 0) (pa_cons (pv 2) pa_nil))) (pa_cons (pe_ix ix_tup (pe_call GP r3 (by rfl) DP.mg DP.fn.kp DP.bi .nil pass0 (pa_cons (pv 0) pa_nil)) (pv 1) (fun _ _ => rfl)) pa_nil))))
      (pss_cons (ps_if (pt_cmpR op_eq (pe_callB call_len_seq (by rfl) B.len PySem.boot_len (pa_cons (pv 3) pa_nil)) pe_int (nomark _)) (pss_one (ps_ret pe_non)) pss_nil)
      (pss_cons (ps_set (i := 4) scLR.nd rfl (Or.inl rfl) (pe_call GW hr (by rfl) DW.mg DW.fn.kp DW.bi .nil pass0 (pa_cons (pv 0) (pa_cons (pe_ix ix_list (pv 3) pe_int (fun _ _ => rfl)) (pa_cons (pe_ix ix_list (pv 3) pe_int (fun _ _ => rfl)) (pa_cons (pv 2) pa_nil))))))
      (pss_one (ps_ret (pe_slice sl_tupW (pv 4) po_none (po_some (pe_un un_neg pe_int)))))))), ?_⟩
    have h8 := M.few
    have hpm := List.mem_of_getElem? gk
    have lp : p.length ≤ 8 := by
      obtain ⟨m, _, _, e⟩ := mem_parts.mp hpm
      rw [e]; exact Nat.le_trans (lot_len _ _ _) h8
    have inn : ∀ x ∈ p, 0 ≤ x ∧ x < (ns.length : Int) := fun x hx => (mem_lot.mp (by rw [part_lot hpm hx]; exact hx : x ∈ lotOf ps ns.length x)).1
    refine ⟨.int (n : Int), rfl, _, _, rfl, rfl, _, rfl, ?_⟩
    rw [decide_eq_false (by omega)]
    refine iteF ?_
    refine ⟨.ref r, rfl, .int (n : Int), rfl, r, n, ns, ps, rfl, R, S, h8, fun H1 t s1 hT => ?_⟩
    refine ⟨.ref r, rfl, r, ns, ps, rfl, R.same s1, M, S, fun H2 c s2 nc hc => ?_⟩
    obtain ⟨ks, k1, k2, k3⟩ := hc
    have gk' : (ks.map (·.2))[k]? = some p := by rw [k1]; exact gk
    obtain ⟨kk, gkk, ekk⟩ := map_at gk'
    have hp : SqT K H2 kk.1 (p.map V.int) := by
      have z := (k3 kk (List.mem_of_getElem? gkk)).sq (K := K)
      rw [← ekk] at z; exact z
    refine ⟨.int (k : Int), rfl, c, _, _, .ref kk.1, rfl, rfl, tupNew k2, atI_nat (by rw [List.getElem?_map, gkk]; rfl), ?_⟩
    refine ⟨t, kk.1, ns.length, _, p, rfl, hT.same s2, hp, lp, inn, fun H3 l s3 e3 => ?_⟩
    have s03 := (s1.trans s2).trans s3
    have known : ∀ x ∈ p, (fB (lk (behindOf ps) n) x = true ↔ x ∈ beg (behindOf ps) ns.length [x] n) := fun x hx => fB_iff.trans (beg_lk (behind_inn S) (inn x hx)).symm
    refine ⟨.ref l, rfl, l, _, rfl, .inl (lstNew e3), rfl, _, rfl, ?_⟩
    rw [List.length_map, decV]
    cases hz : p.filter (fB (lk (behindOf ps) n)) with
    | nil =>
      refine iteT (q1 H3 s03 fun m hm hb => ?_)
      have z : m ∈ p.filter (fB (lk (behindOf ps) n)) := List.mem_filter.mpr ⟨hm, (known m hm).mpr hb⟩
      rw [hz] at z; cases z
    | cons m rest =>
      rw [hz] at e3
      have rise : (m :: rest).Pairwise (· < ·) := by
        rw [← hz]
        obtain ⟨x, _, _, e⟩ := mem_parts.mp hpm
        rw [e]; exact (lot_rise _ _ _).filter _
      have hm : m ∈ p.filter (fB (lk (behindOf ps) n)) := by rw [hz]; exact List.mem_cons_self
      obtain ⟨hm1, hm2⟩ := List.mem_filter.mp hm
      have hmb := (known m hm1).mp hm2
      rw [decide_eq_false (by rw [List.length_cons]; omega)]
      refine iteF ?_
      have at0 : atI ((m :: rest).map V.int) 0 = some (.int m) := atI_nat (j := 0) rfl
      refine ⟨.ref r, rfl, .ref l, rfl, l, _, 0, _, rfl, rfl, lstNew e3, at0, .ref l, rfl, l, _, 0, _, rfl, rfl, lstNew e3, at0, .int (n : Int), rfl, ?_⟩
      refine ⟨r, m, m, n, ns, ps, rfl, R.same s03, S, h8, n2, inn m hm1, inn m hm1, fun H4 s4 z => absurd hmb z, fun H4 t4 g s4 _ hg ht => ?_⟩
      obtain ⟨l0, rfl⟩ := gr_last hg hmb
      refine ⟨.ref t4, rfl, 1, rfl, _, rfl, t4, _, rfl, ht, fun t5 H5 s5 h5 => ?_⟩
      rw [List.map_append, show [m].map V.int = [.int m] from rfl, cut_last] at h5
      refine q2 H5 t5 l0 ((s03.trans s4).trans s5) ⟨m, hm1, hmb, fun y hy hyb => ?_, hg⟩ h5
      have hy2 : y ∈ p.filter (fB (lk (behindOf ps) n)) := List.mem_filter.mpr ⟨hy, (known y hy).mpr hyb⟩
      rw [hz] at hy2
      rcases List.mem_cons.mp hy2 with e | e
      · omega
      · exact Int.le_of_lt ((List.pairwise_cons.mp rise).1 y e)
end
end K75
set_option maxHeartbeats 4000000
namespace K75
open PySem PySem.Spec PyProof.Rows L2 RV
/-! ### mirrors -/
theorem mir_bd {ns : List Int} (M : Mir ns) {x : Int} (hx : 0 ≤ x ∧ x < (ns.length : Int)) : 0 ≤ mirI ns x ∧ mirI ns x < (ns.length : Int) := M.inn _ (List.mem_of_getElem? (mirI_get hx.1 hx.2))
theorem mir_mir {ns : List Int} (M : Mir ns) {x : Int} (hx : 0 ≤ x ∧ x < (ns.length : Int)) : mirI ns (mirI ns x) = x := by
  rw [mirI_at (M.back x.toNat _ (mirI_get hx.1 hx.2))]
  omega
theorem step_bd {ns : List Int} {ps : List (List Int)} (S : Stp ns ps) {x y : Int} (h : [x, y] ∈ ps) : (0 ≤ x ∧ x < (ns.length : Int)) ∧ (0 ≤ y ∧ y < (ns.length : Int)) := by
  obtain ⟨a, b, e, ha, hb⟩ := S.pair _ h
  cases e
  exact ⟨ha, hb⟩
theorem mir_step {ns : List Int} {ps : List (List Int)} (S : Stp ns ps) {x y : Int} (h : [x, y] ∈ ps) : [mirI ns y, mirI ns x] ∈ ps := by
  obtain ⟨ha, hb⟩ := step_bd S h
  exact S.mirr _ _ _ _ h (mirI_get ha.1 ha.2) (mirI_get hb.1 hb.2)
/-! ### walks and parts -/
theorem lk_rch {ps : List (List Int)} {N : Nat} (hP : ∀ q ∈ ps, Pr (N : Int) q) : ∀ {k : Nat} {x m : Int}, lk (behindOf ps) (k + 1) x m → Rch ps x m
  | 0, x, m, ⟨c, h1, h2⟩ => by
    rw [← show c = m from h2]
    exact .one ((mem_behind hP).mp h1)
  | k + 1, x, m, ⟨c, h1, h2⟩ => Rch.trans (.one ((mem_behind hP).mp h1)) (lk_rch hP h2)
theorem in_part {ps : List (List Int)} {N : Nat} (hP : ∀ q ∈ ps, Pr (N : Int) q) {p : List Int} (hp : p ∈ partsOf ps N) {m x c : Int} (hm : m ∈ p) (hx : x ∈ p) (h1 : c ∈ behindOf ps x) {k : Nat} (h2 : lk (behindOf ps) k c m) : c ∈ p := by
  cases k with
  | zero => rw [show c = m from h2]; exact hm
  | succ k =>
    have e := part_lot hp hm
    have hxl := mem_lot.mp (by rw [e]; exact hx : x ∈ lotOf ps N m)
    have st := (mem_behind hP).mp h1
    rw [← e]
    exact mem_lot.mpr ⟨(Rch.bound hP (.one st)).2, Rch.trans hxl.2.1 (.one st), lk_rch hP h2⟩
theorem lk_mir {ns : List Int} {ps : List (List Int)} (S : Stp ns ps) : ∀ {k : Nat} {a b : Int}, lk (behindOf ps) k a b → lk (behindOf ps) k (mirI ns b) (mirI ns a)
  | 0, a, b, h => by rw [show a = b from h]; exact rfl
  | k + 1, a, b, ⟨c, h1, h2⟩ => by
    have st := mir_step S ((mem_behind (n := (ns.length : Int)) S.pair).mp h1)
    exact lk_add.mpr ⟨_, lk_mir S h2, lk_one.mpr ((mem_behind (n := (ns.length : Int)) S.pair).mpr st)⟩
theorem beg_lkE {bh : Int → List Int} {N : Nat} {E : List Int} (hb : ∀ m, ∀ c ∈ bh m, 0 ≤ c ∧ c < (N : Int)) : ∀ {n : Nat} {a : Int}, (0 ≤ a ∧ a < (N : Int)) → (a ∈ beg bh N E n ↔ ∃ o ∈ E, lk bh n a o)
  | 0, a, _ => ⟨fun h => ⟨a, h, rfl⟩, fun ⟨o, h1, h2⟩ => by rw [show a = o from h2]; exact h1⟩
  | n + 1, a, ha => by
    rw [mem_beg]
    constructor
    · rintro ⟨_, c, h1, h2⟩
      obtain ⟨o, h3, h4⟩ := (beg_lkE hb (hb a c h1)).mp h2
      exact ⟨o, h3, c, h1, h4⟩
    · rintro ⟨o, h1, c, h2, h3⟩
      exact ⟨ha, c, h2, (beg_lkE hb (hb a c h2)).mpr ⟨o, h1, h3⟩⟩
/-! ### where halves begin and end -/
noncomputable def hStart (ns : List Int) (ps : List (List Int)) (p : List Int) (z : Int) : List Int := if ownB ns p = true then (p.filter (mk2 ns ps z)).map (mirI ns) else []
def hEnd (ns : List Int) (ps : List (List Int)) (g : Int) : List Int := (upN ns.length).filter fun m => atAx ns ps m g
def hSteps (z : Int) (n : Nat) : Nat := (((n : Int) - z % 2) / 2).toNat
theorem mem_hEnd {ns : List Int} {ps : List (List Int)} {g x : Int} : x ∈ hEnd ns ps g ↔ (0 ≤ x ∧ x < (ns.length : Int)) ∧ atAx ns ps x g = true := by
  unfold hEnd
  rw [List.mem_filter, mem_upN]
theorem mem_hStart {ns : List Int} {ps : List (List Int)} {p : List Int} (own : Own ns p) {z a : Int} : a ∈ hStart ns ps p z ↔ ∃ m ∈ p, mk2 ns ps z m = true ∧ mirI ns m = a := by
  unfold hStart
  rw [if_pos (ownB_iff.mpr own), List.mem_map]
  simp only [List.mem_filter, and_assoc]
theorem hStart_in {ns : List Int} {ps : List (List Int)} {p : List Int} {z a : Int} (h : a ∈ hStart ns ps p z) : Own ns p ∧ a ∈ p := by
  unfold hStart at h
  split at h
  · rename_i o
    have o := ownB_iff.mp o
    obtain ⟨m, h1, rfl⟩ := List.mem_map.mp h
    exact ⟨o, o m (List.mem_filter.mp h1).1⟩
  · cases h
/-- at an axis a mark is its mirror, or leads to it -/
theorem ax_lk {ns : List Int} {ps : List (List Int)} {o g : Int} (h : atAx ns ps o g = true) : ∃ e : Nat, lk (behindOf ps) e o (mirI ns o) := by
  unfold atAx at h
  split at h
  · exact ⟨0, (of_decide_eq_true h).symm⟩
  · exact ⟨1, lk_one.mpr (of_decide_eq_true h)⟩
/-- a walk from a part that is its own mirror to an axis stays there -/
theorem lead_in {ns : List Int} {ps : List (List Int)} (S : Stp ns ps) {p : List Int} (hp : p ∈ partsOf ps ns.length) (own : Own ns p) {x c g : Int} (hx : x ∈ p) (h1 : c ∈ behindOf ps x) {k : Nat} (h2 : c ∈ beg (behindOf ps) ns.length (hEnd ns ps g) k) : c ∈ p := by
  have hP : ∀ q ∈ ps, Pr (ns.length : Int) q := fun q hq => S.pair q hq
  obtain ⟨o, h3, h4⟩ := (beg_lkE (fun m => behind_inn S m) (behind_inn S x c h1)).mp h2
  obtain ⟨e, h5⟩ := ax_lk (mem_hEnd.mp h3).2
  have h6 := lk_mir S (k := k + 1) (a := x) ⟨c, h1, h4⟩
  exact in_part hP hp (own x hx) hx h1 (lk_add.mpr ⟨o, h4, lk_add.mpr ⟨_, h5, h6⟩⟩)
/-- the law's own rows: from where so many steps within the part lead to its ends -/
def rowL (ps : List (List Int)) (p E : List Int) : Nat → Int → Prop
  | 0, x => x ∈ E
  | n + 1, x => x ∈ p ∧ ∃ b, rowL ps p E n b ∧ [x, b] ∈ ps
theorem rowL_in {ps : List (List Int)} {p E : List Int} (hE : ∀ x ∈ E, x ∈ p) : ∀ {n : Nat} {x : Int}, rowL ps p E n x → x ∈ p
  | 0, x, h => hE x h
  | n + 1, x, h => h.1
theorem row_beg {ns : List Int} {ps : List (List Int)} (S : Stp ns ps) {p : List Int} (hp : p ∈ partsOf ps ns.length) (own : Own ns p) {g : Int} : ∀ {k : Nat} {x : Int}, x ∈ p → (rowL ps p (p.filter fun m => atAx ns ps m g) k x ↔ x ∈ beg (behindOf ps) ns.length (hEnd ns ps g) k)
  | 0, x, hx => by
    show x ∈ p.filter _ ↔ x ∈ hEnd ns ps g
    rw [List.mem_filter, mem_hEnd]
    exact ⟨fun h => ⟨part_bd hp hx, h.2⟩, fun h => ⟨hx, h.2⟩⟩
  | k + 1, x, hx => by
    have hP : ∀ q ∈ ps, Pr (ns.length : Int) q := fun q hq => S.pair q hq
    rw [mem_beg]
    constructor
    · rintro ⟨_, b, h1, h2⟩
      have hb := rowL_in (fun x hx => (List.mem_filter.mp hx).1) h1
      exact ⟨part_bd hp hx, b, (mem_behind hP).mpr h2, (row_beg S hp own hb).mp h1⟩
    · rintro ⟨_, c, h1, h2⟩
      have hc := lead_in S hp own hx h1 h2
      exact ⟨hx, c, (row_beg S hp own hc).mpr h2, (mem_behind hP).mp h1⟩
/-! ### the least walk to any of some ends -/
theorem wkl_lk {bh : Int → List Int} {o : Int} : ∀ {k : Nat} {a : Int} {w : List Int}, WkL bh k a o w → lk bh k a o
  | 0, a, w, h => h.2
  | k + 1, a, w, ⟨c, w', _, h1, h2⟩ => ⟨c, h1, wkl_lk h2⟩
theorem gr_wkE {bh : Int → List Int} {N : Nat} {E : List Int} : ∀ {n : Nat} {m : Int} {w : List Int}, Gr bh (beg bh N E) n m w → m ∈ beg bh N E n → ∃ o ∈ E, WkL bh n m o w
  | 0, m, w, h, hm => ⟨m, hm, h, rfl⟩
  | n + 1, m, w, h, hm => by
    obtain ⟨c, w', e, a1, a2, a3, a4⟩ := h
    obtain ⟨o, h1, h2⟩ := gr_wkE a4 a2
    exact ⟨o, h1, c, w', e, a1, h2⟩
theorem gr_leastE {bh : Int → List Int} {N : Nat} {E : List Int} (hb : ∀ m, ∀ c ∈ bh m, 0 ≤ c ∧ c < (N : Int)) {o : Int} (ho : o ∈ E) : ∀ {n : Nat} {m : Int} {g w : List Int}, Gr bh (beg bh N E) n m g → WkL bh n m o w → HT.lexLt w g = false
  | 0, m, g, w, h, h' => by rw [show g = [m] from h, h'.1]; exact lex_irr _
  | n + 1, m, g, w, h, h' => by
    obtain ⟨c, g', rfl, a1, a2, a3, a4⟩ := h
    obtain ⟨d, w', rfl, b1, b2⟩ := h'
    have le := a3 d b1 ((beg_lkE hb (hb m d b1)).mpr ⟨o, ho, wkl_lk b2⟩)
    rw [HT.lexLt_cons, if_pos rfl]
    by_cases e : d = c
    · subst e
      exact gr_leastE hb ho a4 b2
    · obtain ⟨x, rfl⟩ := a4.head
      obtain ⟨y, rfl⟩ := b2.head
      rw [HT.lexLt_cons, if_neg e, decide_eq_false (by omega)]
/-- mark by mark by two tables that are one along the way -/
theorem gr_along {bh : Int → List Int} {B B' : Nat → List Int} {P : Int → Prop} (e : ∀ k m, P m → ∀ c ∈ bh m, (c ∈ B k ↔ c ∈ B' k)) (i : ∀ k c, c ∈ B' k → P c) : ∀ {n : Nat} {m : Int} {w : List Int}, P m → Gr bh B n m w → Gr bh B' n m w
  | 0, m, w, _, h => h
  | n + 1, m, w, hm, h => by
    obtain ⟨c, w', rfl, a1, a2, a3, a4⟩ := h
    have a2' := (e n m hm c a1).mp a2
    exact ⟨c, w', rfl, a1, a2', fun y y1 y2 => a3 y y1 ((e n m hm y y1).mpr y2), gr_along e i (i n c a2') a4⟩
/-! ### walks by their places -/
theorem wk_of {bh : Int → List Int} : ∀ {k : Nat} {w : List Int}, w.length = k + 1 → (∀ i, i < k → w.getD (i + 1) 0 ∈ bh (w.getD i 0)) → WkL bh k (w.getD 0 0) (w.getD k 0) w
  | 0, w, hl, _ => by
    obtain ⟨x, rfl⟩ := List.length_eq_one_iff.mp hl
    exact ⟨rfl, rfl⟩
  | k + 1, w, hl, h => by
    cases w with
    | nil => cases hl
    | cons x w =>
      have hl : w.length = k + 1 := by simpa using hl
      refine ⟨w.getD 0 0, w, rfl, h 0 (by omega), ?_⟩
      exact wk_of hl fun i hi => h (i + 1) (by omega)
theorem wk_ends {bh : Int → List Int} {o : Int} : ∀ {k : Nat} {a : Int} {w : List Int}, WkL bh k a o w → w.getD 0 0 = a ∧ w.getD k 0 = o
  | 0, a, w, h => by rw [h.1, ← h.2]; exact ⟨rfl, rfl⟩
  | k + 1, a, w, h => by
    obtain ⟨c, w', rfl, h1, h2⟩ := h
    exact ⟨rfl, (wk_ends h2).2⟩
end K75
set_option maxHeartbeats 4000000
namespace K75
open PySem PySem.Spec PyProof.Rows L2 RV
/-- the half of a ring from the axis s on -/
def halfOf (r : List Int) (s : Int) (m : Nat) : List Int := (List.range m).map fun k : Nat => at_ r (s / 2 + s % 2 + (k : Int))
theorem hof_len (r : List Int) (s : Int) (m : Nat) : (halfOf r s m).length = m := by unfold halfOf; rw [List.length_map, List.length_range]
theorem half_at {r : List Int} {s : Int} {m i : Nat} (h : i < m) : (halfOf r s m).getD i 0 = at_ r (s / 2 + s % 2 + (i : Int)) := by
  unfold halfOf
  rw [List.getD_eq_getElem?_getD, List.getElem?_map, List.getElem?_range h]; rfl
/-- how many steps, and what is left over -/
theorem hs_split (z : Int) {n : Nat} (h1 : 1 ≤ n) : ∃ (g e : Int), z % 2 = g ∧ (g = 0 ∨ g = 1) ∧ (e = 0 ∨ e = 1) ∧ (n : Int) = 2 * ((hSteps z n : Nat) : Int) + e + g ∧ (z + (n : Int)) % 2 = e := by
  unfold hSteps
  refine ⟨z % 2, ((n : Int) - z % 2) % 2, rfl, by omega, by omega, ?_, by omega⟩
  rw [Int.toNat_of_nonneg (by omega)]
  omega
/-- the half of a mirrored ring is a walk from a start to an end -/
theorem half_walk {ns : List Int} {ps : List (List Int)} (S : Stp ns ps) {p : List Int} (hp : p ∈ partsOf ps ns.length) (own : Own ns p) {r : List Int} {n : Nat} (h1 : 1 ≤ n) (hl : r.length = n) (inp : ∀ x ∈ r, x ∈ p) (st : ∀ i : Int, [at_ r i, at_ r (i + 1)] ∈ ps) {s z : Int}
    (hz : 2 * ((clsM ps ns.length (at_ r (s / 2)) : Nat) : Int) + s % 2 = z) (mi : mirB ns r s = true) :
    ∃ a ∈ hStart ns ps p z, ∃ o ∈ hEnd ns ps ((z + (n : Int)) % 2), WkL (behindOf ps) (hSteps z n) a o (halfOf r s (hSteps z n + 1)) := by
  have hP : ∀ q ∈ ps, Pr (ns.length : Int) q := fun q hq => S.pair q hq
  have h0 : 0 < r.length := by omega
  have mi := (mir_iff h0 s).mp mi
  have mi : ∀ q : Int, at_ r (s - q) = mirI ns (at_ r q) := mi
  obtain ⟨g, e, hg, g01, e01, hn, hne⟩ := hs_split z h1
  have hsg : s % 2 = g := by omega
  generalize hSteps z n = k at hn ⊢
  have wk := wk_of (bh := behindOf ps) (k := k) (w := halfOf r s (k + 1)) (hof_len _ _ _) fun i hi => by
    rw [half_at (by omega), half_at (by omega)]
    refine (mem_behind hP).mpr ?_
    have z := st (s / 2 + s % 2 + (i : Int))
    rw [show s / 2 + s % 2 + (i : Int) + 1 = s / 2 + s % 2 + ((i + 1 : Nat) : Int) by omega] at z
    exact z
  rw [half_at (by omega), half_at (by omega)] at wk
  refine ⟨_, (mem_hStart own).mpr ⟨at_ r (s / 2), inp _ (at_mem h0 _), ?_, ?_⟩, _, mem_hEnd.mpr ⟨part_bd hp (inp _ (at_mem h0 _)), ?_⟩, wk⟩
  · unfold mk2
    rw [Bool.and_eq_true, decide_eq_true_iff]
    refine ⟨?_, by omega⟩
    unfold atAx
    rw [hg]
    have m2 := mi (s / 2)
    rcases g01 with y | y
    · rw [if_pos y]
      refine decide_eq_true ?_
      rw [← m2, show s - s / 2 = s / 2 by omega]
    · rw [if_neg (by omega)]
      refine decide_eq_true ((mem_behind hP).mpr ?_)
      rw [← m2, show s - s / 2 = s / 2 + 1 by omega]
      exact st _
  · rw [← mi (s / 2)]
    congr 1; omega
  · rw [hne]
    unfold atAx
    have m2 := mi (s / 2 + s % 2 + (k : Int))
    have m3 : at_ r (s - (s / 2 + s % 2 + (k : Int))) = at_ r (s / 2 + s % 2 + (k : Int) + e) := by
      rw [← at_add (s - (s / 2 + s % 2 + (k : Int))) 1, hl]
      congr 1; omega
    rw [m3] at m2
    rcases e01 with y | y
    · rw [if_pos y]
      refine decide_eq_true ?_
      rw [← m2, y, Int.add_zero]
    · rw [if_neg (by omega)]
      refine decide_eq_true ((mem_behind hP).mpr ?_)
      rw [← m2, y]
      exact st _
theorem lk_ring {ps : List (List Int)} {N : Nat} (hP : ∀ q ∈ ps, Pr (N : Int) q) {r : List Int} (st : ∀ i : Int, [at_ r i, at_ r (i + 1)] ∈ ps) : ∀ (k : Nat) (i : Int), lk (behindOf ps) k (at_ r i) (at_ r (i + (k : Int)))
  | 0, i => by rw [show i + ((0 : Nat) : Int) = i by omega]; exact rfl
  | k + 1, i => ⟨_, (mem_behind hP).mpr (st i), by
    have z := lk_ring hP st k (i + 1)
    rw [show i + 1 + (k : Int) = i + ((k + 1 : Nat) : Int) by omega] at z
    exact z⟩
/-- a ring with one mark of a part lies in it -/
theorem ring_in {ps : List (List Int)} {N : Nat} (hP : ∀ q ∈ ps, Pr (N : Int) q) {p : List Int} (hp : p ∈ partsOf ps N) {r : List Int} (h0 : 0 < r.length) (st : ∀ i : Int, [at_ r i, at_ r (i + 1)] ∈ ps) {b : Int} (hb : at_ r b ∈ p) : ∀ x ∈ r, x ∈ p := by
  have go : ∀ k : Nat, at_ r (b + (k : Int)) ∈ p := fun k => by
    induction k with
    | zero => rw [show b + ((0 : Nat) : Int) = b by omega]; exact hb
    | succ k ih =>
      have e : (((r.length * (k + 1) - (k + 1) : Nat) : Nat) : Int) = (r.length : Int) * ((k : Int) + 1) - ((k : Int) + 1) := by
        have : k + 1 ≤ r.length * (k + 1) := Nat.le_mul_of_pos_left _ h0
        rw [Int.ofNat_sub this, Int.natCast_mul]; rfl
      have z := lk_ring hP st (r.length * (k + 1) - (k + 1)) (b + ((k + 1 : Nat) : Int))
      rw [show b + ((k + 1 : Nat) : Int) + ((r.length * (k + 1) - (k + 1) : Nat) : Int) = b + (r.length : Int) * ((k : Int) + 1) by rw [e]; omega, at_add] at z
      refine in_part hP hp hb ih ((mem_behind hP).mpr ?_) z
      have z := st (b + (k : Int))
      rw [show b + (k : Int) + 1 = b + ((k + 1 : Nat) : Int) by omega] at z
      exact z
  intro x hx
  obtain ⟨j, hj, rfl⟩ := List.getElem_of_mem hx
  have e1 : r[j] = at_ r (j : Int) := by rw [at_small hj]; simp [List.getD, hj]
  have b0 := Int.emod_nonneg ((j : Int) - b) (show (r.length : Int) ≠ 0 by omega)
  have z := go (((j : Int) - b) % (r.length : Int)).toNat
  rw [Int.toNat_of_nonneg b0] at z
  rw [e1]
  rw [at_mod (j := (j : Int)) (by rw [Int.add_emod_emod]; congr 1; omega)] at z
  exact z
/-- marks that lead round are among all rings -/
theorem ring_mem {ps : List (List Int)} {N : Nat} (hP : ∀ q ∈ ps, Pr (N : Int) q) {p : List Int} {r : List Int} {n : Nat} (h1 : 1 ≤ n) (hl : r.length = n) (inp : ∀ x ∈ r, x ∈ p) (st : ∀ i : Int, [at_ r i, at_ r (i + 1)] ∈ ps) : r ∈ (rowsN ps p (n - 1)).filter fun r => decide ([lst0 r, hd0 r] ∈ ps) := by
  have hb : ∀ x y : Int, y ∈ behindOf ps x ↔ [x, y] ∈ ps := fun x y => mem_behind hP
  have wk := wk_of (bh := behindOf ps) (k := n - 1) (w := r) (by omega) fun i hi => by
    rw [← at_small (by omega), ← at_small (by omega)]
    exact (hb _ _).mpr (st (i : Int))
  refine List.mem_filter.mpr ⟨(mem_rows hb).mpr ⟨⟨_, _, wk⟩, inp⟩, decide_eq_true ?_⟩
  have e1 : lst0 r = at_ r ((n : Int) - 1) := by
    obtain ⟨r', y, rfl⟩ : ∃ r' y, r = r' ++ [y] := ⟨r.dropLast, r.getLast (fun z => by rw [z] at hl; simp at hl; omega), (List.dropLast_concat_getLast _).symm⟩
    have hn : n = r'.length + 1 := by rw [← hl]; simp
    rw [show (n : Int) - 1 = ((r'.length : Nat) : Int) by omega, at_small (by simp)]
    unfold lst0
    simp [List.getD]
  have e2 : hd0 r = at_ r ((n : Int) - 1 + 1) := by
    rw [show (n : Int) - 1 + 1 = 0 + (r.length : Int) * 1 by omega, at_add, show (0 : Int) = ((0 : Nat) : Int) from rfl, at_small (by omega)]
    unfold hd0
    cases r with
    | nil => rfl
    | cons y r => rfl
  rw [e1, e2]
  exact st _
/-- each walk from a start to an end is the half of a mirrored ring -/
theorem walk_half {ns : List Int} {ps : List (List Int)} (M : Mir ns) (S : Stp ns ps) {p : List Int} (hp : p ∈ partsOf ps ns.length) (own : Own ns p) {n : Nat} (h1 : 1 ≤ n) {z a o : Int} {h : List Int} (ha : a ∈ hStart ns ps p z) (ho : o ∈ hEnd ns ps ((z + (n : Int)) % 2)) (wk : WkL (behindOf ps) (hSteps z n) a o h) :
    ∃ (r : List Int) (s : Int), (r ∈ (rowsN ps p (n - 1)).filter fun r => decide ([lst0 r, hd0 r] ∈ ps)) ∧ (0 ≤ s ∧ s < 2 * (n : Int)) ∧ 2 * ((clsM ps ns.length (at_ r (s / 2)) : Nat) : Int) + s % 2 = z ∧ mirB ns r s = true ∧ halfOf r s (hSteps z n + 1) = h := by
  have hP : ∀ q ∈ ps, Pr (ns.length : Int) q := fun q hq => S.pair q hq
  obtain ⟨g, e, hg, g01, e01, hn, hne⟩ := hs_split z h1
  rw [hne] at ho
  have hap := (hStart_in ha).2
  obtain ⟨m, hm, mk, em⟩ := (mem_hStart own).mp ha
  have bm := part_bd hp hm
  generalize hSteps z n = k at hn wk ⊢
  have lh := wk.len
  obtain ⟨w0, wn⟩ := wk_ends wk
  have stp : ∀ i, i < k → [h.getD i 0, h.getD (i + 1) 0] ∈ ps := fun i hi => (mem_behind hP).mp (wk_at wk i hi)
  have bd : ∀ i, i ≤ k → 0 ≤ h.getD i 0 ∧ h.getD i 0 < (ns.length : Int) := fun i hi => by
    cases i with
    | zero => rw [w0]; exact part_bd hp hap
    | succ i => exact (step_bd S (stp i (by omega))).2
  unfold mk2 at mk
  rw [Bool.and_eq_true, decide_eq_true_iff, hg] at mk
  obtain ⟨mk1, mk2⟩ := mk
  have mw : mirI ns (h.getD 0 0) = m := by rw [w0, ← em, mir_mir M bm]
  have c0 : g = 0 → mirI ns (h.getD 0 0) = h.getD 0 0 := fun y => by
    unfold atAx at mk1
    rw [if_pos y] at mk1
    rw [mw, w0, ← em, of_decide_eq_true mk1]
  have c1 : g = 1 → [mirI ns (h.getD 0 0), h.getD 0 0] ∈ ps := fun y => by
    unfold atAx at mk1
    rw [if_neg (by omega)] at mk1
    rw [mw, w0, ← em]
    exact (mem_behind hP).mp (of_decide_eq_true mk1)
  have ho := (mem_hEnd.mp ho).2
  have d0 : e = 0 → mirI ns (h.getD k 0) = h.getD k 0 := fun y => by
    unfold atAx at ho
    rw [if_pos y] at ho
    rw [wn, of_decide_eq_true ho]
  have d1 : e = 1 → [h.getD k 0, mirI ns (h.getD k 0)] ∈ ps := fun y => by
    unfold atAx at ho
    rw [if_neg (by omega)] at ho
    rw [wn]
    exact (mem_behind hP).mp (of_decide_eq_true ho)
  -- the ring
  let F : Nat → Int := fun i => if g ≤ (i : Int) ∧ (i : Int) ≤ g + (k : Int) then h.getD ((i : Int) - g).toNat 0 else mirI ns (h.getD ((n - i) % n) 0)
  obtain ⟨r, er⟩ : ∃ r, r = (List.range n).map F := ⟨_, rfl⟩
  have hl : r.length = n := by rw [er, List.length_map, List.length_range]
  have rat : ∀ (i : Int) (j : Nat), j < n → i % (n : Int) = (j : Int) → at_ r i = F j := fun i j hj e' => by
    unfold at_
    rw [hl, e', Int.toNat_natCast, er, List.getD_eq_getElem?_getD, List.getElem?_map, List.getElem?_range hj]; rfl
  have fA : ∀ j : Nat, j ≤ k → at_ r (g + (j : Int)) = h.getD j 0 := fun j hj => by
    by_cases c : g + (j : Int) < (n : Int)
    · rw [rat _ (g + (j : Int)).toNat (by omega) (by rw [Int.emod_eq_of_lt (by omega) c]; omega)]
      show (if _ then _ else _) = _
      rw [if_pos (by omega)]
      congr 1; omega
    · have hk : k = 0 := by omega
      have hg1 : g = 1 := by omega
      have he : e = 0 := by omega
      have hj0 : j = 0 := by omega
      have hn1 : n = 1 := by omega
      subst hj0
      rw [rat _ 0 (by omega) (by rw [hn1]; exact Int.emod_one _)]
      show (if _ then _ else _) = _
      rw [if_neg (by omega), hn1]
      have := d0 he
      rw [hk] at this
      exact this
  have fB : ∀ j : Nat, j ≤ k → at_ r (-(j : Int)) = mirI ns (h.getD j 0) := fun j hj => by
    by_cases c : j = 0
    · subst c
      rw [rat _ 0 (by omega) (by simp)]
      show (if _ then _ else _) = _
      by_cases hg0 : g = 0
      · rw [if_pos (by omega), c0 hg0]
        congr 1; omega
      · rw [if_neg (by omega), Nat.sub_zero, Nat.mod_self]
    · rw [rat _ (n - j) (by omega) (mod_is (q := -1) (by omega) (by omega) (by omega))]
      show (if _ then _ else _) = _
      by_cases c2 : ((n - j : Nat) : Int) ≤ g + (k : Int)
      · have hjk : j = k := by omega
        have he : e = 0 := by omega
        rw [if_pos (by omega), hjk, d0 he]
        congr 1; omega
      · rw [if_neg (by omega)]
        congr 2
        rw [show n - (n - j) = j by omega, Nat.mod_eq_of_lt (by omega)]
  -- each place is one of -k .. n - k - 1
  have red : ∀ i : Int, ∃ (i0 q : Int), i = i0 + (r.length : Int) * q ∧ -(k : Int) ≤ i0 ∧ i0 < (n : Int) - (k : Int) := fun i => by
    have a0 := Int.emod_nonneg (i + (k : Int)) (show (n : Int) ≠ 0 by omega)
    have a1 := Int.emod_lt_of_pos (i + (k : Int)) (show (0 : Int) < (n : Int) by omega)
    refine ⟨(i + (k : Int)) % (n : Int) - (k : Int), (i + (k : Int)) / (n : Int), ?_, by omega, by omega⟩
    have := Int.emod_add_mul_ediv (i + (k : Int)) (n : Int)
    rw [hl]; omega
  have st : ∀ i : Int, [at_ r i, at_ r (i + 1)] ∈ ps := fun i => by
    obtain ⟨i0, q, ei, lo, hi⟩ := red i
    rw [ei, show i0 + (r.length : Int) * q + 1 = (i0 + 1) + (r.length : Int) * q by omega, at_add, at_add]
    by_cases c : i0 < 0
    · obtain ⟨j, ej⟩ : ∃ j : Nat, i0 = -((j + 1 : Nat) : Int) := ⟨(-i0 - 1).toNat, by omega⟩
      rw [show i0 + 1 = -(j : Int) by omega, ej, fB (j + 1) (by omega), fB j (by omega)]
      exact mir_step S (stp j (by omega))
    · by_cases c2 : i0 < g
      · have hg1 : g = 1 := by omega
        have z0 := fB 0 (by omega)
        have z1 := fA 0 (by omega)
        rw [show i0 = -((0 : Nat) : Int) by omega, z0, show -((0 : Nat) : Int) + 1 = g + ((0 : Nat) : Int) by omega, z1]
        exact c1 hg1
      · obtain ⟨j, ej⟩ : ∃ j : Nat, i0 = g + (j : Int) := ⟨(i0 - g).toNat, by omega⟩
        by_cases c3 : j < k
        · rw [ej, show g + (j : Int) + 1 = g + ((j + 1 : Nat) : Int) by omega, fA j (by omega), fA (j + 1) (by omega)]
          exact stp j c3
        · have he : e = 1 := by omega
          have hj : j = k := by omega
          rw [ej, hj, fA k (Nat.le_refl _), ← at_add (g + (k : Int) + 1) (-1), hl, show g + (k : Int) + 1 + (n : Int) * -1 = -(k : Int) by omega, fB k (Nat.le_refl _)]
          exact d1 he
  have mi : mirB ns r g = true := by
    refine (mir_iff (by omega) g).mpr fun q0 => ?_
    show at_ r (g - q0) = mirI ns (at_ r q0)
    obtain ⟨i0, q, ei, lo, hi⟩ := red q0
    rw [ei, at_add, show g - (i0 + (r.length : Int) * q) = (g - i0) + (r.length : Int) * (-q) by rw [Int.mul_neg]; omega, at_add]
    by_cases c : i0 ≤ 0
    · obtain ⟨j, ej⟩ : ∃ j : Nat, i0 = -(j : Int) := ⟨(-i0).toNat, by omega⟩
      rw [ej, show g - -(j : Int) = g + (j : Int) by omega, fA j (by omega), fB j (by omega), mir_mir M (bd j (by omega))]
    · obtain ⟨j, ej⟩ : ∃ j : Nat, i0 = g + (j : Int) := ⟨(i0 - g).toNat, by omega⟩
      rw [ej, show g - (g + (j : Int)) = -(j : Int) by omega, fA j (by omega), fB j (by omega)]
  have r0 := fB 0 (by omega)
  have r0 : at_ r 0 = m := by
    rw [show -((0 : Nat) : Int) = 0 from rfl] at r0
    rw [r0, mw]
  have inp := ring_in hP hp (by omega) st (b := 0) (by rw [r0]; exact hm)
  refine ⟨r, g, ring_mem hP h1 hl inp st, by omega, ?_, mi, ?_⟩
  · rw [show g / 2 = 0 by omega, r0, show g % 2 = g by omega]
    exact mk2.symm
  · refine List.ext_getElem (by rw [hof_len, lh]) fun i i1 i2 => ?_
    rw [hof_len] at i1
    have z := half_at (r := r) (s := g) (m := k + 1) (i := i) i1
    rw [show g / 2 + g % 2 = g by omega, fA i (by omega)] at z
    rw [List.getD_eq_getElem?_getD, List.getElem?_eq_getElem (by rw [hof_len]; exact i1), List.getD_eq_getElem?_getD, List.getElem?_eq_getElem i2] at z
    exact z
end K75
set_option maxHeartbeats 4000000
namespace K75
open PySem PySem.Spec PyProof.Rows L2 RV
section
variable {P : Program} {w : World} {K : PySem.W.Frag} {mg : Str → Option Value} {base : Heap}
/-! ### half_starts -/
abbrev nHS : List Str := ["rule", "part", "first", "gap", "known", "ahead", "mark", "k"]
theorem scHS : FnScope nHS ["rule", "part", "first"] (defScope sHalfS) := ⟨rfl, rfl, rfl, by decide +kernel, rfl, by decide +kernel, by decide +kernel⟩
def spHS (K : PySem.W.Frag) (C : Addr) : Sp := fun vs H Q _ => ∃ (r : Addr) (k : Nat) (z : Int) (p : List Int) (ns : List Int) (ps : List (List Int)), vs = [.ref r, .int (k : Int), .int z] ∧ RuleAt K C H r ns ps ∧ Mir ns ∧ Stp ns ps ∧ (partsOf ps ns.length)[k]? = some p ∧
  ∀ (H' : Hp) (l : Addr), Same H H' → H' l = some (.lst ((hStart ns ps p z).map V.int)) → Q (.ref l) H'
theorem ok_hs {f C fO fP fC fA fR : Addr} {fd dO dP dC dA dR : FuncData} (F : Fun K "half_starts" "half_starts" sHalfS f fd) (T : Txt K mg C) (B : Bare mg)
    (DO : DefAt K mg "is_own_mirror" sIsOwn ["rule", "part"] fO dO) (GO : FnOk P w K mg base CX0 6 fO dO ["rule", "part"] (spIsOwn K C)) (DP : DefAt K mg "parts" sParts ["rule"] fP dP) (GP : FnOk P w K mg base CX0 3 fP dP ["rule"] (spParts K C))
    (DC : DefAt K mg "classes" sClasses ["rule", "part"] fC dC) (GC : FnOk P w K mg base CX0 5 fC dC ["rule", "part"] (spClasses K C)) (DA : DefAt K mg "is_at_axis" sIsAt ["rule", "mark", "gap"] fA dA) (GA : FnOk P w K mg base CX0 2 fA dA ["rule", "mark", "gap"] (spIsAt K C))
    (FR : Fun K "mirror" "Rule.mirror" sMirrorM fR dR) (bR : Binds K dR ["self", "mark"] []) (mR : Meth K C "mirror" fR) : FnOk P w K mg base CX0 7 f fd ["rule", "part", "first"] (spHS K C) := by
  have GR : FnOk P w K mg base CX0 1 fR dR ["self", "mark"] (spMirrorM K C) := ok_mirrorM FR T
  refine F.ok scHS (fun vs H Q E h => ?_) (fun cdv A outer s H vs Q E hr h => ?_)
  · obtain ⟨r, k, z, p, ns, ps, rfl, _⟩ := h
    rfl
  · obtain ⟨r, k, z, p, ns, ps, rfl, R, M, S, gk, q⟩ := h
    have r1 := hr.mono (show 1 ≤ 6 by decide)
    have r2 := hr.mono (show 2 ≤ 6 by decide)
    have r3 := hr.mono (show 3 ≤ 6 by decide)
    have r5 := hr.mono (show 5 ≤ 6 by decide)
    have two : (2 : Nat) ≤ sizeLine := by decide
    refine ⟨_, pss_cons (ps_if (pt_not (pt_val (pe_call GO hr (by rfl) DO.mg DO.fn.kp DO.bi .nil pass0 (pa_cons (pv 0) (pa_cons (pv 1) pa_nil))))) (pss_one (ps_ret (pe_lst pa_nil))) pss_nil)
      (pss_cons (ps_set (i := 3) scHS.nd rfl (Or.inr rfl) (pe_op op_mod (pv 2) pe_int))
      (pss_cons (ps_set (i := 4) scHS.nd rfl (Or.inl rfl) (pe_listZip rfl (by rfl) B.list (by rfl) B.zip (pa_cons (pe_ix ix_tup (pe_call GP r3 (by rfl) DP.mg DP.fn.kp DP.bi .nil pass0 (pa_cons (pv 0) pa_nil)) (pv 1) (fun _ _ => rfl)) (pa_cons (pe_call GC r5 (by rfl) DC.mg DC.fn.kp DC.bi .nil pass0 (pa_cons (pv 0) (pa_cons (pv 1) pa_nil))) pa_nil))))
      (pss_cons (ps_setLc (i := 5) (own := [("mark", 6), ("k", 7)]) (g := gTup K 2 (gCons (gName 6) (gCons (gName 7) gNil))) rfl scHS.nd rfl rfl (by rfl) (pi_list (pv 4)) (blkOk_by (N := nHS) (sc := defScope sHalfS) (by decide +kernel))
          (fun _ _ _ _ _ => pg_tupK rfl rfl (pgs_cons (pg_name (i := 6) scHS.nd rfl (Or.inl rfl)) (pgs_cons (pg_name (i := 7) scHS.nd rfl (Or.inl rfl)) pgs_nil)))
          (fun _ _ _ _ _ => pts_one (PW.pt (pw_and (pt_cmpR op_eq (pe_op op_add (pe_op op_mul pe_int (pv 7)) (pv 3)) (pv 2) (nomark _)) (pw_and1 (pt_val (pe_call GA r2 (by rfl) DA.mg DA.fn.kp DA.bi .nil pass0 (pa_cons (pv 0) (pa_cons (pv 6) (pa_cons (pv 3) pa_nil)))))))))
          (fun _ _ _ _ _ => pv 6))
      (pss_one (ps_ret (pe_lc (own := [("mark", 6)]) (g := gName 6) (tt := tYes) rfl scHS.nd (pi_list (pv 5)) (blkOk_by (N := nHS) (sc := defScope sHalfS) (by decide +kernel))
          (fun _ _ _ _ _ => pg_name (i := 6) scHS.nd rfl (Or.inl rfl)) (fun _ _ _ _ _ => pts_nil)
          (fun _ _ _ _ _ => pe_meth (pv 0) T.cl mR GR r1 bR .nil pass0 (pa_cons (pv 6) pa_nil)))))))), ?_⟩
    have h8 := M.few
    have hpm := List.mem_of_getElem? gk
    have lp : p.length ≤ 8 := part_len8 h8 hpm
    have inn : ∀ x ∈ p, 0 ≤ x ∧ x < (ns.length : Int) := fun x hx => part_bd hpm hx
    refine ⟨.ref r, rfl, .int (k : Int), rfl, r, k, p, ns, ps, rfl, R, M, S, gk, fun H1 s1 => ⟨_, rfl, ?_⟩⟩
    unfold hStart at q
    cases ho : ownB ns p with
    | false =>
      rw [ho, if_neg (by decide)] at q
      refine iteT ⟨Nat.zero_le _, fun t nt => ?_⟩
      exact q _ t (s1.trans (same_upd nt)) upd_same
    | true =>
      rw [ho, if_pos rfl] at q
      refine iteF ?_
      refine ⟨.int z, rfl, z, 2, rfl, rfl, by show (0 : Int) < 2; decide, ?_⟩
      refine ⟨.ref r, rfl, r, ns, ps, rfl, R.same s1, M, S, fun H2 c s2 nc hc => ?_⟩
      obtain ⟨ks, k1, k2, k3⟩ := hc
      have gk' : (ks.map (·.2))[k]? = some p := by rw [k1]; exact gk
      obtain ⟨kk, gkk, ekk⟩ := map_at gk'
      have hp : SqT K H2 kk.1 (p.map V.int) := by
        have z := (k3 kk (List.mem_of_getElem? gkk)).sq (K := K)
        rw [← ekk] at z; exact z
      refine ⟨.int (k : Int), rfl, c, _, _, .ref kk.1, rfl, rfl, tupNew k2, atI_nat (by rw [List.getElem?_map, gkk]; rfl), ?_⟩
      refine ⟨.ref r, rfl, .int (k : Int), rfl, r, k, ns, ps, p, rfl, R.same (s1.trans s2), M, S, gk, fun H3 cc s3 ncc hcc pp => ?_⟩
      refine ⟨kk.1, cc, _, _, rfl, sqT_same s3 hp, tupNew hcc, fun H4 L ts s4 nL eL lts hts => ?_⟩
      have s04 := ((s1.trans s2).trans s3).trans s4
      have R4 := R.same s04
      have lts' : ts.length = p.length := by rw [lts]; unfold clsL; simp
      have hts' : ∀ (j : Nat) (t : Addr), ts[j]? = some t → ∃ m, p[j]? = some m ∧ H4 t = some (.tup [.int m, .int ((clsM ps ns.length m : Nat) : Int)]) := fun j t hj => by
        obtain ⟨x, y, e1, e2, e3⟩ := hts j t hj
        rw [List.getElem?_map] at e1
        obtain ⟨m, gm, rfl⟩ := Option.map_eq_some_iff.mp e1
        unfold clsL at e2
        rw [List.getElem?_map, List.getElem?_map, gm] at e2
        cases e2
        exact ⟨m, gm, e3⟩
      refine ⟨.ref L, rfl, L, rfl, ⟨_, lstNew eL⟩, fun D nD => ?_⟩
      refine lc_list (K := K) (a := L) (xs := ts.map V.ref) (fun i H' => Same H4 H' ∧ H' D = some (.lst (((p.take i).filter (mk2 ns ps z)).map V.int))) ⟨same_upd nD, upd_same⟩ (fun i H' _ h => lstNew (h.1 _ _ eL)) (fun i v H5 hv h => ?_) fun H5 h => ?_
      · obtain ⟨t, gt, rfl⟩ := map_at hv
        obtain ⟨s5, e5⟩ := h
        obtain ⟨m, gm, et⟩ := hts' i t gt
        have hm := inn m (List.mem_of_getElem? gm)
        have hi : i < p.length := (List.getElem?_eq_some_iff.mp gm).1
        have nxt := take_filt (c := mk2 ns ps z) gm
        have lw : ((p.take i).filter (mk2 ns ps z)).length ≤ 8 := Nat.le_trans (List.length_filter_le _ _) (Nat.le_trans (by rw [List.length_take]; exact Nat.min_le_right _ _) lp)
        refine ⟨t, _, rfl, tupNew (s5 _ _ et), rfl, _, _, rfl, _, _, rfl, rfl, rfl, ?_⟩
        refine ⟨.int ((clsM ps ns.length m : Nat) : Int), rfl, 2, _, rfl, rfl, .inl ⟨by decide, by decide⟩, .int (z % 2), rfl, _, _, rfl, rfl, .int z, rfl, rfl, _, rfl, ?_⟩
        rw [decV]
        have fin : ∀ b : Bool, b = mk2 ns ps z m → (if b = true then (∃ acc, H5 D = some (.lst acc) ∧ acc.length < sizeLine ∧ (Same H4 (upd H5 D (.lst (acc ++ [.int m]))) ∧ (upd H5 D (.lst (acc ++ [.int m]))) D = some (.lst (((p.take (i + 1)).filter (mk2 ns ps z)).map V.int)))) else (Same H4 H5 ∧ H5 D = some (.lst (((p.take (i + 1)).filter (mk2 ns ps z)).map V.int)))) := fun b hb => by
          rw [hb]
          cases e1 : mk2 ns ps z m with
          | true =>
            rw [if_pos e1] at nxt
            refine iteT ⟨_, e5, by rw [List.length_map]; exact few1 (by omega), fun b' o zz => ?_, ?_⟩
            · rw [upd_ne (ne_of_none zz nD)]; exact s5 b' o zz
            · rw [upd_same, nxt, List.map_append]; rfl
          | false =>
            rw [if_neg (by rw [e1]; decide), List.append_nil] at nxt
            exact iteF ⟨s5, by rw [nxt]; exact e5⟩
        by_cases e1 : 2 * ((clsM ps ns.length m : Nat) : Int) + z % 2 = z
        · rw [decide_eq_true e1]
          refine iteT ⟨.ref r, rfl, .int m, rfl, .int (z % 2), rfl, r, m, z % 2, ns, ps, rfl, R4.same s5, hm, _, rfl, ?_⟩
          have ff := fin (atAx ns ps m (z % 2)) (by unfold mk2; rw [decide_eq_true e1.symm, Bool.and_true])
          cases ha : atAx ns ps m (z % 2) with
          | true => rw [ha, if_pos rfl] at ff; exact iteT ⟨.int m, rfl, ff⟩
          | false => rw [ha, if_neg (by decide)] at ff; exact iteF ff
        · rw [decide_eq_false e1]
          have ff := fin false (by unfold mk2; rw [decide_eq_false (fun y => e1 y.symm), Bool.and_false])
          rw [if_neg (by decide)] at ff
          exact iteF (A := True) (iteF ff)
      · obtain ⟨s5, e5⟩ := h
        rw [List.length_map, lts', List.take_of_length_le (Nat.le_refl _)] at e5
        have lw : (p.filter (mk2 ns ps z)).length ≤ 8 := Nat.le_trans (List.length_filter_le _ _) lp
        have hin : ∀ x ∈ p.filter (mk2 ns ps z), 0 ≤ x ∧ x < (ns.length : Int) := fun x hx => inn x (List.mem_filter.mp hx).1
        generalize p.filter (mk2 ns ps z) = ws at e5 lw hin q
        have R5 := R4.same s5
        refine ⟨.ref D, rfl, D, rfl, ⟨_, lstNew e5⟩, fun D2 nD2 => ?_⟩
        refine lc_list (K := K) (a := D) (xs := ws.map V.int) (fun i H' => Same H5 H' ∧ H' D2 = some (.lst (((ws.take i).map (mirI ns)).map V.int))) ⟨same_upd nD2, upd_same⟩ (fun i H' _ h => lstNew (h.1 _ _ e5)) (fun i v H6 hv h => ?_) fun H6 h => ?_
        · obtain ⟨m, gm, rfl⟩ := map_at hv
          obtain ⟨s6, e6⟩ := h
          have hm := hin m (List.mem_of_getElem? gm)
          have hi : i < ws.length := (List.getElem?_eq_some_iff.mp gm).1
          have R6 := R5.same s6
          obtain ⟨dx, a0, b0, t0, g1, g2, g3, g4⟩ := R6.ex
          have fnm := flds_no a0 b0 t0 (m := "mirror") (by decide +kernel) (by decide +kernel) (by decide +kernel)
          have em : V.int m = .int ((m.toNat : Nat) : Int) := by rw [Int.toNat_of_nonneg hm.1]
          refine ⟨by simp [wipe, List.set_set], tt_yes ⟨.ref r, rfl, r, dx, _, rfl, g1, fnm, .int m, rfl, r, ns, ps, m.toNat, mirI ns m, by rw [← em]; rfl, R6, mirI_get hm.1 hm.2, ?_⟩⟩
          refine ⟨_, e6, by rw [List.length_map, List.length_map, List.length_take]; exact few1 (by omega), fun b' o zz => ?_, ?_⟩
          · rw [upd_ne (ne_of_none zz nD2)]; exact s6 b' o zz
          · rw [upd_same, List.take_add_one, gm, List.map_append, List.map_append]; rfl
        · obtain ⟨s6, e6⟩ := h
          rw [List.length_map, List.take_of_length_le (Nat.le_refl _)] at e6
          exact q H6 D2 ((s04.trans s5).trans s6) e6
/-! ### half_ends -/
abbrev nHE : List Str := ["rule", "first", "n", "mark"]
theorem scHE : FnScope nHE ["rule", "first", "n"] (defScope sHalfE) := ⟨rfl, rfl, rfl, by decide +kernel, rfl, by decide +kernel, by decide +kernel⟩
def spHE (K : PySem.W.Frag) (C : Addr) : Sp := fun vs H Q _ => ∃ (r : Addr) (z n : Int) (ns : List Int) (ps : List (List Int)), vs = [.ref r, .int z, .int n] ∧ RuleAt K C H r ns ps ∧ Mir ns ∧
  ∀ (H' : Hp) (l : Addr), Same H H' → H' l = some (.lst ((hEnd ns ps ((z + n) % 2)).map V.int)) → Q (.ref l) H'
theorem ok_he {f C fA fM : Addr} {fd dA dM : FuncData} (F : Fun K "half_ends" "half_ends" sHalfE f fd) (T : Txt K mg C) (B : Bare mg)
    (DA : DefAt K mg "is_at_axis" sIsAt ["rule", "mark", "gap"] fA dA) (GA : FnOk P w K mg base CX0 2 fA dA ["rule", "mark", "gap"] (spIsAt K C)) (FM : Fun K "marks" "Rule.marks" sMarksM fM dM) (bM : Binds K dM ["self"] []) (mM : Meth K C "marks" fM) : FnOk P w K mg base CX0 3 f fd ["rule", "first", "n"] (spHE K C) := by
  have GM : FnOk P w K mg base CX0 1 fM dM ["self"] (spMarksM K C) := ok_marksM FM T B
  refine F.ok scHE (fun vs H Q E h => ?_) (fun cdv A outer s H vs Q E hr h => ?_)
  · obtain ⟨r, z, n, ns, ps, rfl, _⟩ := h
    rfl
  · obtain ⟨r, z, n, ns, ps, rfl, R, M, q⟩ := h
    have r1 := hr.mono (show 1 ≤ 2 by decide)
    refine ⟨_, pss_one (ps_ret (pe_lc (own := [("mark", 3)]) (g := gName 3) rfl scHE.nd (pi_range1 (by rfl) B.range (pa_cons (pe_meth0 (pv 0) T.cl mM GM r1 bM .nil pass0) pa_nil)) (blkOk_by (N := nHE) (sc := defScope sHalfE) (by decide +kernel))
      (fun _ _ _ _ _ => pg_name (i := 3) scHE.nd rfl (Or.inl rfl)) (fun _ _ _ _ _ => pts_one (pt_val (pe_call GA hr (by rfl) DA.mg DA.fn.kp DA.bi .nil pass0 (pa_cons (pv 0) (pa_cons (pv 3) (pa_cons (pe_op op_mod (pe_op op_add (pv 1) (pv 2)) pe_int) pa_nil)))))) (fun _ _ _ _ _ => pv 3))), ?_⟩
    obtain ⟨dx, a0, b0, t0, g1, g2, g3, g4⟩ := R.ex
    have h8 := M.few
    have fno := flds_no a0 b0 t0 (m := "marks") (by decide +kernel) (by decide +kernel) (by decide +kernel)
    refine ⟨.ref r, rfl, r, dx, _, rfl, g1, fno, r, ns, ps, rfl, R, (ns.length : Int), rfl, by omega, by omega, fun D nD => ?_⟩
    rw [Int.toNat_natCast]
    refine lc_filtR (f := fun m => atAx ns ps m ((z + n) % 2)) (by omega) nD (fun x x0 x1 H' s' A' B' kk => ?_) (fun x H' Q' k => ⟨.int x, rfl, k⟩) fun H2 s2 e2 => q H2 D s2 e2
    exact ⟨.ref r, rfl, .int x, rfl, .int z, rfl, .int n, rfl, z, n, rfl, rfl, _, 2, rfl, rfl, (by show (0 : Int) < 2; decide), r, x, _, ns, ps, rfl, R.same s', ⟨x0, by omega⟩, _, rfl, kk H' (Same.refl H')⟩
/-! ### half_steps -/
theorem scHN : FnScope ["first", "n"] ["first", "n"] (defScope sHalfN) := ⟨rfl, rfl, rfl, by decide +kernel, rfl, by decide +kernel, by decide +kernel⟩
def spHN : Sp := fun vs H Q _ => ∃ z n : Int, vs = [.int z, .int n] ∧ Q (.int ((n - z % 2) / 2)) H
theorem ok_hn {f : Addr} {fd : FuncData} (F : Fun K "half_steps" "half_steps" sHalfN f fd) : FnOk P w K mg base CX0 1 f fd ["first", "n"] spHN := by
  refine F.ok scHN (fun vs H Q E h => ?_) (fun cdv A outer s H vs Q E hr h => ?_)
  · obtain ⟨z, n, rfl, _⟩ := h
    rfl
  · obtain ⟨z, n, rfl, q⟩ := h
    refine ⟨_, pss_one (ps_ret (pe_op op_fdiv (pe_op op_sub (pv 1) (pe_op op_mod (pv 0) pe_int)) pe_int)), ?_⟩
    exact ⟨.int n, rfl, .int z, rfl, z, 2, rfl, rfl, (by show (0 : Int) < 2; decide), n, _, rfl, rfl, _, 2, rfl, rfl, ⟨by decide, by decide⟩, q⟩
end
end K75
set_option maxHeartbeats 4000000
namespace K75
open PySem PySem.Spec PyProof.Rows L2 RV
/-- the table of where so many steps lead to the ends -/
abbrev hB (ns : List Int) (ps : List (List Int)) (z : Int) (n : Nat) : Nat → List Int := beg (behindOf ps) ns.length (hEnd ns ps ((z + (n : Int)) % 2))
/-- no half -/
def NH (ns : List Int) (ps : List (List Int)) (p : List Int) (z : Int) (n : Nat) : Prop := ∀ x ∈ hStart ns ps p z, x ∉ hB ns ps z n (hSteps z n)
/-- the least half, mark by mark -/
def LH (ns : List Int) (ps : List (List Int)) (p : List Int) (z : Int) (n : Nat) (g : List Int) : Prop := ∃ m ∈ hStart ns ps p z, m ∈ hB ns ps z n (hSteps z n) ∧ (∀ y ∈ hStart ns ps p z, y ∈ hB ns ps z n (hSteps z n) → m ≤ y) ∧ Gr (behindOf ps) (hB ns ps z n) (hSteps z n) m g
theorem LH.not {ns : List Int} {ps : List (List Int)} {p : List Int} {z : Int} {n : Nat} {g : List Int} (h : LH ns ps p z n g) : ¬ NH ns ps p z n := fun no => by
  obtain ⟨m, h1, h2, _⟩ := h
  exact no m h1 h2
theorem LH.uniq {ns : List Int} {ps : List (List Int)} {p : List Int} {z : Int} {n : Nat} {g g' : List Int} (h : LH ns ps p z n g) (h' : LH ns ps p z n g') : g = g' := by
  obtain ⟨m, a1, a2, a3, a4⟩ := h
  obtain ⟨m', b1, b2, b3, b4⟩ := h'
  have : m = m' := Int.le_antisymm (a3 m' b1 b2) (b3 m a1 a2)
  subst this
  exact a4.uniq b4
theorem LH.len {ns : List Int} {ps : List (List Int)} {p : List Int} {z : Int} {n : Nat} {g : List Int} (h : LH ns ps p z n g) : g.length = hSteps z n + 1 := by
  obtain ⟨m, a1, a2, a3, a4⟩ := h
  exact a4.len
theorem hs_le (z : Int) (n : Nat) : hSteps z n ≤ n := by unfold hSteps; omega
theorem LH.inn {ns : List Int} {ps : List (List Int)} (S : Stp ns ps) {p : List Int} (hp : p ∈ partsOf ps ns.length) {z : Int} {n : Nat} {g : List Int} (h : LH ns ps p z n g) : ∀ x ∈ g, 0 ≤ x ∧ x < (ns.length : Int) := by
  obtain ⟨m, a1, a2, a3, a4⟩ := h
  exact a4.inn (P := fun c => 0 ≤ c ∧ c < (ns.length : Int)) (fun m _ => behind_inn S m) (part_bd hp (hStart_in a1).2)
theorem hStart_len {ns : List Int} {ps : List (List Int)} {p : List Int} {z : Int} (lp : p.length ≤ 8) : (hStart ns ps p z).length ≤ 8 := by
  unfold hStart
  split
  · rw [List.length_map]; exact Nat.le_trans (List.length_filter_le _ _) lp
  · exact Nat.zero_le _
section
variable {P : Program} {w : World} {K : PySem.W.Frag} {mg : Str → Option Value} {base : Heap}
/-! ### least_half -/
theorem scLH : FnScope ["rule", "part", "first", "n"] ["rule", "part", "first", "n"] (defScope sLeastH) := ⟨rfl, rfl, rfl, by decide +kernel, rfl, by decide +kernel, by decide +kernel⟩
def spLH (K : PySem.W.Frag) (C : Addr) : Sp := fun vs H Q _ => ∃ (r : Addr) (k n : Nat) (z : Int) (p : List Int) (ns : List Int) (ps : List (List Int)), vs = [.ref r, .int (k : Int), .int z, .int (n : Int)] ∧ RuleAt K C H r ns ps ∧ Mir ns ∧ Stp ns ps ∧ (partsOf ps ns.length)[k]? = some p ∧ 1 ≤ n ∧ n ≤ 6000 ∧
  (∀ H', Same H H' → NH ns ps p z n → Q .non H') ∧ ∀ (H' : Hp) (t : Addr) (g : List Int), Same H H' → LH ns ps p z n g → SqT K H' t (g.map V.int) → Q (.ref t) H'
theorem ok_lh {f C fS fE fN fB : Addr} {fd dS dE dN dB : FuncData} (F : Fun K "least_half" "least_half" sLeastH f fd)
    (DS : DefAt K mg "half_starts" sHalfS ["rule", "part", "first"] fS dS) (GS : FnOk P w K mg base CX0 7 fS dS ["rule", "part", "first"] (spHS K C)) (DE : DefAt K mg "half_ends" sHalfE ["rule", "first", "n"] fE dE) (GE : FnOk P w K mg base CX0 3 fE dE ["rule", "first", "n"] (spHE K C))
    (DN : DefAt K mg "half_steps" sHalfN ["first", "n"] fN dN) (DB : DefAt K mg "least_between" sBetween ["rule", "starts", "ends", "n"] fB dB) (GB : FnOk P w K mg base CX0 4 fB dB ["rule", "starts", "ends", "n"] (spBetweenL K C)) : FnOk P w K mg base CX0 8 f fd ["rule", "part", "first", "n"] (spLH K C) := by
  have GN : FnOk P w K mg base CX0 1 fN dN ["first", "n"] spHN := ok_hn DN.fn
  refine F.ok scLH (fun vs H Q E h => ?_) (fun cdv A outer s H vs Q E hr h => ?_)
  · obtain ⟨r, k, n, z, p, ns, ps, rfl, _⟩ := h
    rfl
  · obtain ⟨r, k, n, z, p, ns, ps, rfl, R, M, S, gk, n1, n6, q1, q2⟩ := h
    have r1 := hr.mono (show 1 ≤ 7 by decide)
    have r3 := hr.mono (show 3 ≤ 7 by decide)
    have r4 := hr.mono (show 4 ≤ 7 by decide)
    refine ⟨_, pss_cons (ps_if (pt_cmpR op_lt (pv 3) pe_int (nomark _)) (pss_one (ps_ret pe_non)) pss_nil)
      (pss_one (ps_ret (pe_call GB r4 (by rfl) DB.mg DB.fn.kp DB.bi .nil pass0 (pa_cons (pv 0) (pa_cons (pe_call GS hr (by rfl) DS.mg DS.fn.kp DS.bi .nil pass0 (pa_cons (pv 0) (pa_cons (pv 1) (pa_cons (pv 2) pa_nil))))
        (pa_cons (pe_call GE r3 (by rfl) DE.mg DE.fn.kp DE.bi .nil pass0 (pa_cons (pv 0) (pa_cons (pv 2) (pa_cons (pv 3) pa_nil)))) (pa_cons (pe_call GN r1 (by rfl) DN.mg DN.fn.kp DN.bi .nil pass0 (pa_cons (pv 2) (pa_cons (pv 3) pa_nil))) pa_nil))))))), ?_⟩
    have hpm := List.mem_of_getElem? gk
    refine ⟨.int (n : Int), rfl, _, 1, rfl, rfl, _, rfl, ite2 (fun z => ?_) (fun _ => ?_)⟩
    · have z := of_decide_eq_true z
      omega
    refine ⟨.ref r, rfl, .ref r, rfl, .int (k : Int), rfl, .int z, rfl, r, k, z, p, ns, ps, rfl, R, M, S, gk, fun H1 l1 s1 e1 => ?_⟩
    refine ⟨.ref r, rfl, .int z, rfl, .int (n : Int), rfl, r, z, _, ns, ps, rfl, R.same s1, M, fun H2 l2 s2 e2 => ?_⟩
    have en : ((n : Int) - z % 2) / 2 = ((hSteps z n : Nat) : Int) := by
      unfold hSteps
      rw [Int.toNat_of_nonneg (by omega)]
    refine ⟨.int z, rfl, .int (n : Int), rfl, z, _, rfl, ?_⟩
    rw [en]
    have s12 := s1.trans s2
    have le := hs_le z n
    refine ⟨r, l1, l2, _, ns, ps, hStart ns ps p z, hEnd ns ps ((z + (n : Int)) % 2), rfl, R.same s12, S, M.few, lstNew (s2 _ _ e1), hStart_len (part_len8 M.few hpm), lstNew e2, by omega, fun x hx => part_bd hpm (hStart_in hx).2, fun x hx => (mem_hEnd.mp hx).1, fun H' s' hno => ?_, fun H' t m g s' hm hmb hle hg ht => ?_⟩
    · exact q1 H' (s12.trans s') hno
    · exact q2 H' t g (s12.trans s') ⟨m, hm, hmb, hle, hg⟩ ht
end
end K75
set_option maxHeartbeats 4000000
namespace K75
open PySem PySem.Spec PyProof.Rows L2 RV
theorem sqT_butL {K : PySem.W.Frag} {H H' : Hp} {fo : Addr} {vs : List V} (e : H fo = some (.lst vs)) (b : But fo H H') {a : Addr} {xs : List V} (h : SqT K H a xs) : SqT K H' a xs := by
  rcases h with (h | ⟨o, h⟩) | h
  · exact .inl (.inl (b _ _ h fun z => by rw [z, e] at h; cases h))
  · exact .inl (.inr ⟨o, b _ _ h fun z => by rw [z, e] at h; cases h⟩)
  · exact .inr h
section
variable {X : Cx}
theorem len_seqK {K : PySem.W.Frag} (h : X.K = K) : CallR X (.builtin "len") (fun xs H Q => ∃ p ys, xs = [.ref p] ∧ (SqL K H p ys ∨ SqT K H p ys) ∧ Q (.int ys.length) H) := h ▸ call_len_seq
end
section
variable {P : Program} {w : World} {K : PySem.W.Frag} {mg : Str → Option Value} {base : Heap}
/-! ### _law_is_mirrored -/
abbrev nIM : List Str := ["_law_own", "_law_marks", "_law_s", "_law_n", "_law_place"]
theorem scIsMir : FnScope nIM ["_law_own", "_law_marks", "_law_s"] (defScope sIsMir) := ⟨rfl, rfl, rfl, by decide +kernel, rfl, by decide +kernel, by decide +kernel⟩
def spIsMir (K : PySem.W.Frag) : Sp := fun vs H Q _ => ∃ (o a : Addr) (s : Int) (ns ms : List Int) (ps : List (List Int)), vs = [.ref o, .ref a, .int s] ∧ OwnH K H o ns ps ∧ SqT K H a (ms.map V.int) ∧ (∀ m ∈ ms, 0 ≤ m ∧ m < (ns.length : Int)) ∧ 0 < ms.length ∧ ms.length ≤ 400 ∧ ∀ H', Same H H' → Q (.bl (mirB ns ms s)) H'
theorem ok_isMir {f : Addr} {fd : FuncData} (F : Fun K "_law_is_mirrored" "_law_is_mirrored" sIsMir f fd) (B : Bare mg) : FnOk P w K mg base CX0 1 f fd ["_law_own", "_law_marks", "_law_s"] (spIsMir K) := by
  refine F.ok scIsMir (fun vs H Q E h => ?_) (fun cdv A outer s H vs Q E hr h => ?_)
  · obtain ⟨o, a, s, ns, ms, ps, rfl, _⟩ := h
    rfl
  · obtain ⟨o, a, s, ns, ms, ps, rfl, ⟨u, c, o1, o2, o3, M, S⟩, hT, hin, h0, hl, q⟩ := h
    refine ⟨_, pss_cons (ps_set (i := 3) scIsMir.nd rfl (Or.inr rfl) (pe_callB call_len_seq (by rfl) B.len PySem.boot_len (pa_cons (pv 1) pa_nil)))
      (pss_one (ps_ret (pe_callB (cr_all rfl) (by rfl) B.all (by decide +kernel) (pa_cons
        (pe_lc (own := [("_law_place", 4)]) (g := gName 4) (tt := tYes) rfl scIsMir.nd (pi_range1 (by rfl) B.range (pa_cons (pv 3) pa_nil)) (blkOk_by (N := nIM) (sc := defScope sIsMir) (by decide +kernel))
          (fun _ _ _ _ _ => pg_name (i := 4) scIsMir.nd rfl (Or.inl rfl)) (fun _ _ _ _ _ => pts_nil)
          (fun _ _ _ _ _ => pe_cmpR op_eq (pe_ix (ix_tupK (K := K) rfl) (pv 1) (pe_op op_mod (pe_op op_sub (pv 2) (pv 4)) (pv 3)) (fun _ _ => rfl)) (pe_ix (ix_tupK (K := K) rfl) (pe_ix (ix_tupK (K := K) rfl) (pv 0) pe_int (fun _ _ => rfl)) (pe_ix (ix_tupK (K := K) rfl) (pv 1) (pv 4) (fun _ _ => rfl)) (fun _ _ => rfl)) (nomark _))) pa_nil)))), ?_⟩
    refine ⟨.ref a, rfl, a, _, rfl, .inr hT, ?_⟩
    rw [List.length_map]
    refine ⟨.int (ms.length : Int), rfl, (ms.length : Int), rfl, by omega, by omega, fun D nD => ?_⟩
    rw [Int.toNat_natCast]
    refine lc_blR (c := fun p => decide (ms.getD ((s - p) % (ms.length : Int)).toNat 0 = ns.getD (ms.getD p.toNat 0).toNat 0)) (by omega) nD (fun x x0 x1 H' Q' s' k => ?_) fun H2 s2 e2 => ?_
    · have z0 := Int.emod_nonneg (s - x) (show (ms.length : Int) ≠ 0 by omega)
      have z1 := Int.emod_lt_of_pos (s - x) (show (0 : Int) < (ms.length : Int) by omega)
      have hb := hin _ (getD_in (ms := ms) (k := x.toNat) (by omega))
      have hT' := sqT_same s' hT
      refine ⟨.ref a, rfl, .int s, rfl, .int x, rfl, s, x, rfl, rfl, .int (ms.length : Int), rfl, _, _, rfl, rfl, (show (0 : Int) < (ms.length : Int) by omega), a, _, _, _, rfl, rfl, hT', atI_map z0 z1, ?_⟩
      refine ⟨.ref o, rfl, o, _, 0, .ref u, rfl, rfl, tupNew (s' _ _ o1), rfl, .ref a, rfl, .int x, rfl, a, _, _, _, rfl, rfl, hT', atI_map x0 x1, u, _, _, _, rfl, rfl, sqT_same s' o2, atI_map hb.1 hb.2, rfl, ?_⟩
      rw [decV]
      exact k H' (Same.refl H')
    · exact ⟨D, _, rfl, lstNew e2, q H2 s2⟩
end
end K75
set_option maxHeartbeats 4000000
/-! min of a list of tuples of ints, None where it is empty -/
namespace RV
open PySem PySem.Spec PyProof.Rows L2
section
variable {prog : Program} {w : World} {A : Around} {E : Value → Shared → Prop} {s : Shared}
theorem min_tupsD {a : Addr} {d : Value} {vs : Array Value} {l : Nat → List Int} {Q : Value → Shared → Prop} (hh : A.handled = none) (hl : s.heap.IsList a vs) (hu : A.units + 1 < cLine) (ht : ∀ i v, vs[i]? = some v → TupIn s.heap v (l i))
    (none_ : vs.size = 0 → ∀ h' tk, (∀ b o, s.heap.get? b = some o → h'.get? b = some o) → Q d { s with heap := h', toks := tk })
    (h : ∀ (i : Nat) v h' tk, vs[i]? = some v → (∀ j, j < vs.size → HT.lexLt (l j) (l i) = false) → (∀ b o, s.heap.get? b = some o → h'.get? b = some o) → Q v { s with heap := h', toks := tk }) :
    wpAny (model prog w) A (call (.builtin "min") [.ref a] [(Str.ofString "default", d)]) Q E s := by
  refine call_min_walkD (PySem.W.iter_listW (A := A.in1) hh hl fun s₂ e W st hfp hw hk => ?_)
  refine ⟨_, _, _, _, _, _, _, s.heap, _, rfl, W, st, hfp, hw, hk, fun n0 s' m => ?_, fun np => ⟨cmp_tups (A := A.in1) (show A.units + 1 < cLine from hu) ht, fun v s' hP m => ?_⟩⟩
  · obtain ⟨h', tk, rfl, hk'⟩ := PySem.W.moved_old e rfl m
    exact none_ n0 h' tk hk'
  · obtain ⟨h', tk, rfl, hk'⟩ := PySem.W.moved_old e rfl m
    obtain ⟨b1, b2⟩ := best_least l (vs.size - 1)
    exact h _ v h' tk hP (fun j hj => b2 j (by omega)) hk'
end
section
variable {X : Cx}
def rMinD (K : PySem.W.Frag) : List V → List V → Hp → VK → Prop := fun vs zs H Q => ∃ (l : Addr) (L : List (Addr × List Int)), vs = [.ref l] ∧ zs = [.non] ∧ SqL K H l (L.map fun q => V.ref q.1) ∧ (∀ q ∈ L, SqT K H q.1 (q.2.map V.int)) ∧ (L = [] → Q .non H) ∧
  ∀ q ∈ L, (∀ r ∈ L, HT.lexLt r.2 q.2 = false) → Q (.ref q.1) H
theorem cr_minD (hc : X.calm = true) (hu : X.A.units + 1 < cLine) : CallRK X (.builtin "min") [Str.ofString "default"] (rMinD X.K) := by
  intro pins s σ H vs zs us ws Q I r rz h
  obtain ⟨a, L, rfl, rfl, hs, hk, q0, q⟩ := h
  obtain ⟨its, rv, hl, hz⟩ := I.list hs
  rw [Vals.ref1 r]
  obtain ⟨u, rfl, rx⟩ := vals1 rz
  cases (show u = Value.none from rx)
  have ei : its = L.map fun q => Value.ref q.1 := by
    clear hs hk q hl hz q0
    induction L generalizing its with
    | nil => cases rv; rfl
    | cons k L ih =>
      cases rv with
      | cons r1 r2 =>
        cases r1
        rw [List.map_cons, ih _ r2]
  subst ei
  have at' : ∀ (i : Nat) (v : Value), (L.map fun q => Value.ref q.1).toArray[i]? = some v → ∃ k, L[i]? = some k ∧ v = .ref k.1 := fun i v hv => by
    rw [List.getElem?_toArray, List.getElem?_map] at hv
    cases e : L[i]? with
    | none => rw [e] at hv; cases hv
    | some k =>
      rw [e] at hv
      exact ⟨k, rfl, (Option.some.inj hv).symm⟩
  refine min_tupsD (l := fun i => ((L[i]?).map fun k => k.2).getD []) (I.ok.hd hc) hl.isList hu (fun i v hv => ?_) (fun n0 h' tk kp => ?_) fun i v h' tk hv hle kp => ?_
  · obtain ⟨k, e, rfl⟩ := at' i v hv
    rw [e]
    exact tupIn_of I (hk k (List.mem_of_getElem? e))
  · have : L = [] := by
      cases L with
      | nil => rfl
      | cons x L => simp at n0
    exact ⟨.non, H, I.kept kp, rfl, q0 this⟩
  · obtain ⟨k, e, rfl⟩ := at' i v hv
    refine ⟨.ref k.1, H, I.kept kp, rfl, q k (List.mem_of_getElem? e) fun r hr => ?_⟩
    obtain ⟨j, hj, ej⟩ := List.getElem_of_mem hr
    have z := hle j (by simpa using hj)
    rw [e, List.getElem?_eq_getElem hj, ej] at z
    exact z
end
end RV
set_option maxHeartbeats 4000000
namespace K75
open PySem PySem.Spec PyProof.Rows L2 RV
/-- whether a ring is mirrored at s, with this axis class -/
noncomputable def okH (ns : List Int) (ps : List (List Int)) (z : Int) (r : List Int) (s : Int) : Bool := decide (2 * ((clsM ps ns.length (at_ r (s / 2)) : Nat) : Int) + s % 2 = z) && mirB ns r s
/-- the halves of one ring -/
noncomputable def hvs (ns : List Int) (ps : List (List Int)) (z : Int) (n : Nat) (r : List Int) : List (List Int) := ((upN (2 * n)).filter (okH ns ps z r)).map fun s => halfOf r s (hSteps z n + 1)
theorem mem_hvs {ns : List Int} {ps : List (List Int)} (M : Mir ns) (S : Stp ns ps) {p : List Int} (hp : p ∈ partsOf ps ns.length) (own : Own ns p) {n : Nat} (h1 : 1 ≤ n) {z : Int} {h : List Int} :
    h ∈ ((rowsN ps p (n - 1)).filter fun r => decide ([lst0 r, hd0 r] ∈ ps)).flatMap (hvs ns ps z n) ↔ ∃ a ∈ hStart ns ps p z, ∃ o ∈ hEnd ns ps ((z + (n : Int)) % 2), WkL (behindOf ps) (hSteps z n) a o h := by
  have hP : ∀ q ∈ ps, Pr (ns.length : Int) q := fun q hq => S.pair q hq
  rw [List.mem_flatMap]
  constructor
  · rintro ⟨r, hr, hh⟩
    obtain ⟨lr, inp, st⟩ := ring_step hP hr
    obtain ⟨s, hs, rfl⟩ := List.mem_map.mp hh
    obtain ⟨s1, s2⟩ := List.mem_filter.mp hs
    unfold okH at s2
    rw [Bool.and_eq_true, decide_eq_true_iff] at s2
    exact half_walk S hp own h1 (by omega) inp st s2.1 s2.2
  · rintro ⟨a, ha, o, ho, wk⟩
    obtain ⟨r, s, hr, hs, hz, mi, rfl⟩ := walk_half M S hp own h1 ha ho wk
    refine ⟨r, hr, List.mem_map.mpr ⟨s, List.mem_filter.mpr ⟨mem_upN.mpr (by omega), ?_⟩, rfl⟩⟩
    unfold okH
    rw [Bool.and_eq_true, decide_eq_true_iff]
    exact ⟨hz, mi⟩
theorem least_of : ∀ (l : List Int), l ≠ [] → ∃ x ∈ l, ∀ y ∈ l, x ≤ y
  | [], z => absurd rfl z
  | a :: l, _ => by
    by_cases e : l = []
    · subst e
      exact ⟨a, List.mem_singleton.mpr rfl, fun y hy => by rw [List.mem_singleton.mp hy]; exact Int.le_refl _⟩
    · obtain ⟨x, x1, x2⟩ := least_of l e
      rcases Int.le_total a x with z | z
      · exact ⟨a, List.mem_cons_self, fun y hy => by
          rcases List.mem_cons.mp hy with rfl | y1
          · exact Int.le_refl _
          · exact Int.le_trans z (x2 y y1)⟩
      · exact ⟨x, List.mem_cons_of_mem _ x1, fun y hy => by
          rcases List.mem_cons.mp hy with rfl | y1
          · exact z
          · exact x2 y y1⟩
/-- of all gone through none, or the least -/
theorem all_none {ns : List Int} {ps : List (List Int)} (M : Mir ns) (S : Stp ns ps) {p : List Int} (hp : p ∈ partsOf ps ns.length) (own : Own ns p) {n : Nat} (h1 : 1 ≤ n) {z : Int} (e : ((rowsN ps p (n - 1)).filter fun r => decide ([lst0 r, hd0 r] ∈ ps)).flatMap (hvs ns ps z n) = []) : NH ns ps p z n := fun x hx hb => by
  obtain ⟨g, hg⟩ := ex_gr hb
  obtain ⟨o, ho, wk⟩ := gr_wkE hg hb
  have := (mem_hvs M S hp own h1).mpr ⟨x, hx, o, ho, wk⟩
  rw [e] at this
  cases this
theorem all_least {ns : List Int} {ps : List (List Int)} (M : Mir ns) (S : Stp ns ps) {p : List Int} (hp : p ∈ partsOf ps ns.length) (own : Own ns p) {n : Nat} (h1 : 1 ≤ n) {z : Int} {h : List Int} (hm : h ∈ ((rowsN ps p (n - 1)).filter fun r => decide ([lst0 r, hd0 r] ∈ ps)).flatMap (hvs ns ps z n))
    (hle : ∀ h' ∈ ((rowsN ps p (n - 1)).filter fun r => decide ([lst0 r, hd0 r] ∈ ps)).flatMap (hvs ns ps z n), HT.lexLt h' h = false) : LH ns ps p z n h := by
  have hb := fun m => behind_inn S m
  obtain ⟨a, ha, o, ho, wk⟩ := (mem_hvs M S hp own h1).mp hm
  have hab : a ∈ hB ns ps z n (hSteps z n) := (beg_lkE hb (part_bd hp (hStart_in ha).2)).mpr ⟨o, ho, wkl_lk wk⟩
  obtain ⟨m, m1, m2⟩ := least_of ((hStart ns ps p z).filter fun x => decide (x ∈ hB ns ps z n (hSteps z n))) (fun e => by
    have : a ∈ (hStart ns ps p z).filter fun x => decide (x ∈ hB ns ps z n (hSteps z n)) := List.mem_filter.mpr ⟨ha, decide_eq_true hab⟩
    rw [e] at this; cases this)
  obtain ⟨m3, m4⟩ := List.mem_filter.mp m1
  have m4 := of_decide_eq_true m4
  obtain ⟨g, hg⟩ := ex_gr m4
  obtain ⟨o2, ho2, wk2⟩ := gr_wkE hg m4
  have l1 := hle g ((mem_hvs M S hp own h1).mpr ⟨m, m3, o2, ho2, wk2⟩)
  have l2 : HT.lexLt h g = false := by
    have ham : m ≤ a := m2 a (List.mem_filter.mpr ⟨ha, decide_eq_true hab⟩)
    by_cases e : a = m
    · subst e
      exact gr_leastE hb ho hg wk
    · obtain ⟨x, rfl⟩ := wk.head
      obtain ⟨y, rfl⟩ := wk2.head
      rw [HT.lexLt_cons, if_neg e, decide_eq_false (by omega)]
  have e := lex_tot l2 l1
  subst e
  exact ⟨m, m3, m4, fun y y1 y2 => m2 y (List.mem_filter.mpr ⟨y1, decide_eq_true y2⟩), hg⟩
theorem flat_next {α β : Type} {f : α → List β} {rs : List α} {r : α} {j : Nat} (g : rs[j]? = some r) : (rs.take (j + 1)).flatMap f = (rs.take j).flatMap f ++ f r := by
  rw [List.take_add_one, g, List.flatMap_append]
  simp
theorem hvs_len (ns : List Int) (ps : List (List Int)) (z : Int) (n : Nat) (r : List Int) : (hvs ns ps z n r).length ≤ 2 * n := by
  unfold hvs
  rw [List.length_map]
  exact Nat.le_trans (List.length_filter_le _ _) (by rw [upN_len]; exact Nat.le_refl _)
theorem flat_len {ns : List Int} {ps : List (List Int)} {z : Int} {n : Nat} : ∀ rs : List (List Int), (rs.flatMap (hvs ns ps z n)).length ≤ rs.length * (2 * n)
  | [] => by simp
  | r :: rs => by
    rw [List.flatMap_cons, List.length_append, List.length_cons, Nat.succ_mul]
    have := hvs_len ns ps z n r
    have := flat_len (ns := ns) (ps := ps) (z := z) (n := n) rs
    omega
section
variable {P : Program} {w : World} {K : PySem.W.Frag} {mg : Str → Option Value} {base : Heap}
/-! ### _law_half_of -/
abbrev nHO : List Str := ["_law_marks", "_law_s", "_law_many", "_law_begin", "_law_k"]
theorem scHO : FnScope nHO ["_law_marks", "_law_s", "_law_many"] (defScope sLHalfOf) := ⟨rfl, rfl, rfl, by decide +kernel, rfl, by decide +kernel, by decide +kernel⟩
def spHO (K : PySem.W.Frag) : Sp := fun vs H Q _ => ∃ (a : Addr) (s : Int) (m : Nat) (ms : List Int), vs = [.ref a, .int s, .int (m : Int)] ∧ SqT K H a (ms.map V.int) ∧ 0 < ms.length ∧ ms.length ≤ 400 ∧ m ≤ 400 ∧ ∀ (H' : Hp) (t : Addr), Same H H' → H t = none → SqT K H' t ((halfOf ms s m).map V.int) → Q (.ref t) H'
theorem ok_ho {f : Addr} {fd : FuncData} (F : Fun K "_law_half_of" "_law_half_of" sLHalfOf f fd) (B : Bare mg) : FnOk P w K mg base CX0 1 f fd ["_law_marks", "_law_s", "_law_many"] (spHO K) := by
  refine F.ok scHO (fun vs H Q E h => ?_) (fun cdv A outer s H vs Q E hr h => ?_)
  · obtain ⟨a, s, m, ms, rfl, _⟩ := h
    rfl
  · obtain ⟨a, s, m, ms, rfl, hT, h0, hl, hm, q⟩ := h
    refine ⟨_, pss_cons (ps_set (i := 3) scHO.nd rfl (Or.inr rfl) (pe_op op_add (pe_op op_fdiv (pv 1) pe_int) (pe_op op_mod (pv 1) pe_int)))
      (pss_one (ps_ret (pe_tupleOf (by rfl) B.tuple (pe_lc (own := [("_law_k", 4)]) (g := gName 4) (tt := tYes) rfl scHO.nd (pi_range1 (by rfl) B.range (pa_cons (pv 2) pa_nil)) (blkOk_by (N := nHO) (sc := defScope sLHalfOf) (by decide +kernel))
        (fun _ _ _ _ _ => pg_name (i := 4) scHO.nd rfl (Or.inl rfl)) (fun _ _ _ _ _ => pts_nil)
        (fun _ _ _ _ _ => pe_ix (ix_tupK (K := K) rfl) (pv 0) (pe_op op_mod (pe_op op_add (pv 3) (pv 4)) (pe_callB (len_seqK (K := K) rfl) (by rfl) B.len PySem.boot_len (pa_cons (pv 0) pa_nil))) (fun _ _ => rfl)))))), ?_⟩
    refine ⟨.int s, rfl, s, 2, rfl, rfl, ⟨by decide, by decide⟩, .int s, rfl, s, 2, rfl, rfl, (by show (0 : Int) < 2; decide), _, _, rfl, rfl, ?_⟩
    refine ⟨.int (m : Int), rfl, (m : Int), rfl, by omega, by omega, fun D nD => ?_⟩
    rw [Int.toNat_natCast]
    refine lc_range (lo := 0) (n := m) (fun i H' => Same H H' ∧ H' D = some (.lst ((halfOf ms s i).map V.int))) ⟨same_upd nD, upd_same⟩ (fun i H' hi h => ?_) fun H' h => ?_
    · obtain ⟨s', e'⟩ := h
      have z0 := Int.emod_nonneg (s / 2 + s % 2 + (0 + (i : Int))) (show (ms.length : Int) ≠ 0 by omega)
      have z1 := Int.emod_lt_of_pos (s / 2 + s % 2 + (0 + (i : Int))) (show (0 : Int) < (ms.length : Int) by omega)
      refine ⟨by simp [wipe, List.set_set], tt_yes ⟨.ref a, rfl, .int (s / 2 + s % 2), rfl, .int (0 + (i : Int)), rfl, _, _, rfl, rfl, .ref a, rfl, a, _, rfl, .inr (sqT_same s' hT), ?_⟩⟩
      rw [List.length_map]
      refine ⟨_, _, rfl, rfl, (show (0 : Int) < (ms.length : Int) by omega), a, _, _, _, rfl, rfl, sqT_same s' hT, atI_map z0 z1, ?_⟩
      refine ⟨_, e', by rw [List.length_map, hof_len]; exact few1 (by omega), fun b' o zz => ?_, ?_⟩
      · rw [upd_ne (ne_of_none zz nD)]; exact s' b' o zz
      · rw [upd_same]
        unfold halfOf
        rw [List.range_succ, List.map_append, List.map_append]
        unfold at_
        rw [show (0 : Int) + (i : Int) = (i : Int) by omega]
        rfl
    · obtain ⟨s', e'⟩ := h
      refine .inl ⟨D, _, rfl, lstNew e', fun t nt => ?_⟩
      exact q _ t (s'.trans (same_upd nt)) (s'.free nt) (tupNew upd_same)
end
end K75
set_option maxHeartbeats 4000000
namespace K75
open PySem PySem.Spec PyProof.Rows L2 RV
/-- [c(x) for x in t] of truths, t a tuple of ints; the heap may grow -/
theorem lc_blG {K : PySem.W.Frag} {te : TE} {c : Int → Bool} {σ : L2.St} {H1 : Hp} {a D : Addr} {v : Nat} {ns : List Int} {Qd : Hp → Prop} (hT : SqT K H1 a (ns.map V.int)) (hl : ns.length ≤ 1000) (nD : H1 D = none)
    (hte : ∀ x ∈ ns, ∀ (H' : Hp) (Q : VK), Same H1 H' → (∀ H2, Same H' H2 → Q (.bl (c x)) H2) → te ((wipe σ [v]).set v (some (.int x))) H' Q)
    (hd : ∀ H', Same H1 H' → H' D = some (.lst ((ns.map c).map V.bl)) → Qd H') :
    ∃ W : Nat → Nat → Hp → Prop, (∃ m, W 0 m (upd H1 D (.lst []))) ∧ ∀ i m H, W i m H →
      ((Itt K a).stop i H ∧ Qd H) ∨ ((Itt K a).go i H ∧ ∃ Nx : Hp → Prop, (∀ H', Nx H' → ∃ m', m' < m ∧ W (i + 1) m' H') ∧ ∀ x H', (Itt K a).yld i H x H' → gName v x (wipe σ [v]) H' fun σ2 H2 => wipe σ2 [v] = wipe σ [v] ∧ tYes σ2 H2 fun b H3 =>
        if b = true then te σ2 H3 fun y H4 => ∃ acc, H4 D = some (.lst acc) ∧ acc.length < sizeLine ∧ Nx (upd H4 D (.lst (acc ++ [y]))) else Nx H3) := by
  refine lc_tup (K := K) (a := a) (xs := ns.map V.int) (fun i H' => Same H1 H' ∧ H' D = some (.lst (((ns.take i).map c).map V.bl))) ⟨same_upd nD, upd_same⟩ (fun i H' _ p => sqT_same p.1 hT) (fun i x H' hx p => ?_) fun H' p => ?_
  · obtain ⟨k, g, rfl⟩ := map_at hx
    refine ⟨by simp [wipe, List.set_set], tt_yes (hte k (List.mem_of_getElem? g) H' _ p.1 fun H2 s2 => ⟨_, s2 _ _ p.2, ?_, fun b o z => ?_, ?_⟩)⟩
    · rw [List.length_map, List.length_map, List.length_take]; exact few1 (by omega)
    · rw [upd_ne (ne_of_none z nD)]; exact s2 _ _ (p.1 b o z)
    · rw [upd_same, List.take_add_one, g, List.map_append, List.map_append]; rfl
  · rw [List.length_map, List.take_of_length_le (Nat.le_refl _)] at p
    exact hd H' p.1 p.2
/-- there is a half -/
def MS (ns : List Int) (ps : List (List Int)) (p : List Int) (z : Int) (n : Nat) : Prop := ∃ a ∈ hStart ns ps p z, ∃ o ∈ hEnd ns ps ((z + (n : Int)) % 2), lk (behindOf ps) (hSteps z n) a o
theorem lk_wkl {bh : Int → List Int} {o : Int} : ∀ {k : Nat} {a : Int}, lk bh k a o → ∃ w, WkL bh k a o w
  | 0, a, h => ⟨[a], rfl, h⟩
  | k + 1, a, ⟨c, h1, h2⟩ => by
    obtain ⟨w, hw⟩ := lk_wkl h2
    exact ⟨a :: w, c, w, rfl, h1, hw⟩
theorem ms_all {ns : List Int} {ps : List (List Int)} (M : Mir ns) (S : Stp ns ps) {p : List Int} (hp : p ∈ partsOf ps ns.length) (own : Own ns p) {n : Nat} (h1 : 1 ≤ n) {z : Int} : MS ns ps p z n ↔ ∃ r ∈ (rowsN ps p (n - 1)).filter (fun r => decide ([lst0 r, hd0 r] ∈ ps)), ∃ s ∈ upN (2 * n), okH ns ps z r s = true := by
  constructor
  · rintro ⟨a, ha, o, ho, hl⟩
    obtain ⟨w, hw⟩ := lk_wkl hl
    obtain ⟨r, hr, hh⟩ := List.mem_flatMap.mp ((mem_hvs M S hp own h1).mpr ⟨a, ha, o, ho, hw⟩)
    obtain ⟨s, hs, _⟩ := List.mem_map.mp hh
    exact ⟨r, hr, s, (List.mem_filter.mp hs).1, (List.mem_filter.mp hs).2⟩
  · rintro ⟨r, hr, s, hs, ok⟩
    obtain ⟨a, ha, o, ho, wk⟩ := (mem_hvs M S hp own h1 (h := halfOf r s (hSteps z n + 1))).mp (List.mem_flatMap.mpr ⟨r, hr, List.mem_map.mpr ⟨s, List.mem_filter.mpr ⟨hs, ok⟩, rfl⟩⟩)
    exact ⟨a, ha, o, ho, wkl_lk wk⟩
theorem end_in {ns : List Int} {ps : List (List Int)} (S : Stp ns ps) {p : List Int} (hp : p ∈ partsOf ps ns.length) (own : Own ns p) {o g : Int} (ho : o ∈ hEnd ns ps g) : ∀ {k : Nat} {a : Int}, a ∈ p → lk (behindOf ps) k a o → o ∈ p
  | 0, a, ha, h => by rw [← show a = o from h]; exact ha
  | k + 1, a, ha, ⟨c, h1, h2⟩ => by
    have hb : c ∈ beg (behindOf ps) ns.length (hEnd ns ps g) k := (beg_lkE (fun m => behind_inn S m) (behind_inn S a c h1)).mpr ⟨o, ho, h2⟩
    exact end_in S hp own ho (lead_in S hp own ha h1 hb) h2
theorem hs_nodup {ns : List Int} {ps : List (List Int)} (M : Mir ns) {p : List Int} (hp : p ∈ partsOf ps ns.length) {z : Int} : (hStart ns ps p z).Nodup := by
  unfold hStart
  split
  · have rise : p.Pairwise (· < ·) := by
      obtain ⟨x, _, _, e⟩ := mem_parts.mp hp
      rw [e]; exact lot_rise _ _ _
    refine List.pairwise_map.mpr (List.Pairwise.imp_of_mem (fun {a b} ha hb (h : a < b) e => ?_) (rise.filter _))
    have e1 := mir_mir M (part_bd hp (List.mem_filter.mp ha).1)
    have e2 := mir_mir M (part_bd hp (List.mem_filter.mp hb).1)
    rw [e] at e1
    omega
  · exact List.nodup_nil
theorem end_bit (z : Int) (n : Nat) : (if decide ((z + (n : Int)) % 2 = 0) = true then (0 : Int) else 1) = (z + (n : Int)) % 2 := by
  by_cases e : (z + (n : Int)) % 2 = 0
  · rw [decide_eq_true e, if_pos rfl, e]
  · rw [decide_eq_false e, if_neg (by decide)]; omega
theorem hs_eq (z : Int) {n : Nat} (h : 1 ≤ n) : ((n : Int) - z % 2) / 2 = ((hSteps z n : Nat) : Int) := by
  unfold hSteps
  rw [Int.toNat_of_nonneg (by omega)]
section
variable {P : Program} {w : World} {K : PySem.W.Frag} {mg : Str → Option Value} {base : Heap}
/-! ### is_mirror_size -/
abbrev nMS : List Str := ["rule", "part", "first", "n", "reached", "ends", "start", "end"]
theorem scMS : FnScope nMS ["rule", "part", "first", "n"] (defScope sIsMS) := ⟨rfl, rfl, rfl, by decide +kernel, rfl, by decide +kernel, by decide +kernel⟩
def spMS (K : PySem.W.Frag) (C : Addr) : Sp := fun vs H Q _ => ∃ (r : Addr) (k n : Nat) (z : Int) (p : List Int) (ns : List Int) (ps : List (List Int)), vs = [.ref r, .int (k : Int), .int z, .int (n : Int)] ∧ RuleAt K C H r ns ps ∧ Mir ns ∧ Stp ns ps ∧ (partsOf ps ns.length)[k]? = some p ∧ 1 ≤ n ∧
  ∀ (H' : Hp) (b : Bool), Same H H' → (b = true ↔ MS ns ps p z n) → Q (.bl b) H'
theorem ok_ms {f C fS fE fN fW : Addr} {fd dS dE dN dW : FuncData} (F : Fun K "is_mirror_size" "is_mirror_size" sIsMS f fd) (B : Bare mg)
    (DS : DefAt K mg "half_starts" sHalfS ["rule", "part", "first"] fS dS) (GS : FnOk P w K mg base CX0 7 fS dS ["rule", "part", "first"] (spHS K C)) (DE : DefAt K mg "half_ends" sHalfE ["rule", "first", "n"] fE dE) (GE : FnOk P w K mg base CX0 3 fE dE ["rule", "first", "n"] (spHE K C))
    (DN : DefAt K mg "half_steps" sHalfN ["first", "n"] fN dN) (DW : DefAt K mg "ends_of_walks" sOfWalks ["rule", "n"] fW dW) (GW : FnOk P w K mg base CX0 3 fW dW ["rule", "n"] (spOW K C)) : FnOk P w K mg base CX0 8 f fd ["rule", "part", "first", "n"] (spMS K C) := by
  have GN : FnOk P w K mg base CX0 1 fN dN ["first", "n"] spHN := ok_hn DN.fn
  refine F.ok scMS (fun vs H Q E h => ?_) (fun cdv A outer s H vs Q E hr h => ?_)
  · obtain ⟨r, k, n, z, p, ns, ps, rfl, _⟩ := h
    rfl
  · obtain ⟨r, k, n, z, p, ns, ps, rfl, R, M, S, gk, n1, q⟩ := h
    have r1 := hr.mono (show 1 ≤ 7 by decide)
    have r3 := hr.mono (show 3 ≤ 7 by decide)
    have hu5 := un65 hr
    refine ⟨_, pss_cons (ps_if (pt_cmpR op_lt (pv 3) pe_int (nomark _)) (pss_one (ps_ret pe_bl)) pss_nil)
      (pss_cons (ps_set (i := 4) scMS.nd rfl (Or.inr rfl) (pe_call GW r3 (by rfl) DW.mg DW.fn.kp DW.bi .nil pass0 (pa_cons (pv 0) (pa_cons (pe_call GN r1 (by rfl) DN.mg DN.fn.kp DN.bi .nil pass0 (pa_cons (pv 2) (pa_cons (pv 3) pa_nil))) pa_nil))))
      (pss_cons (ps_set (i := 5) scMS.nd rfl (Or.inr rfl) (pe_call GE r3 (by rfl) DE.mg DE.fn.kp DE.bi .nil pass0 (pa_cons (pv 0) (pa_cons (pv 2) (pa_cons (pv 3) pa_nil)))))
      (pss_one (ps_ret (pe_callB (cr_any rfl) (by rfl) B.any (by decide +kernel) (pa_cons
        (pe_lc2 (own := [("start", 6), ("end", 7)]) (vs1 := [7]) (g := gName 6) (g1 := gName 7) (tt := tYes) (tt1 := tYes) rfl scMS.nd (pi_list (pe_call GS hr (by rfl) DS.mg DS.fn.kp DS.bi .nil pass0 (pa_cons (pv 0) (pa_cons (pv 1) (pa_cons (pv 2) pa_nil))))) (blkOk_by (N := nMS) (sc := defScope sIsMS) (by decide +kernel)) (by decide)
          (fun _ _ _ _ _ => pg_name (i := 6) scMS.nd rfl (Or.inl rfl)) (fun _ _ _ _ _ => pts_nil) (fun _ _ _ _ _ => pi_listK (K := K) rfl (pv 5)) (fun _ _ _ _ _ => pg_name (i := 7) scMS.nd rfl (Or.inl rfl)) (fun _ _ _ _ _ => pts_nil)
          (fun _ _ _ _ _ => pe_cmpR (op_inTIK (K := K) rfl hu5) (pv 7) (pe_ix (ix_tupK (K := K) rfl) (pv 4) (pv 6) (fun _ _ => rfl)) (by rfl))) pa_nil)))))), ?_⟩
    have hpm := List.mem_of_getElem? gk
    have h8 := M.few
    refine ⟨.int (n : Int), rfl, _, 1, rfl, rfl, _, rfl, ite2 (fun z => ?_) (fun _ => ?_)⟩
    · have z := of_decide_eq_true z
      omega
    refine ⟨.ref r, rfl, .int z, rfl, .int (n : Int), rfl, z, _, rfl, ?_⟩
    rw [hs_eq z n1]
    refine ⟨r, _, ns, ps, rfl, R, S, h8, fun H1 t s1 tab => ?_⟩
    refine ⟨.ref r, rfl, .int z, rfl, .int (n : Int), rfl, r, z, _, ns, ps, rfl, R.same s1, M, fun H2 le s2 ee => ?_⟩
    refine ⟨.ref r, rfl, .int (k : Int), rfl, .int z, rfl, r, k, z, p, ns, ps, rfl, R.same (s1.trans s2), M, S, gk, fun H3 ls s3 es => ?_⟩
    have s03 := (s1.trans s2).trans s3
    have ee3 := s3 _ _ ee
    have tab3 := tab.same (s2.trans s3)
    have lss : (hStart ns ps p z).length ≤ 8 := hStart_len (part_len8 h8 hpm)
    have les : (hEnd ns ps ((z + (n : Int)) % 2)).length ≤ 8 := by
      unfold hEnd
      exact Nat.le_trans (List.length_filter_le _ _) (by rw [upN_len]; exact h8)
    have ins : ∀ x ∈ hStart ns ps p z, 0 ≤ x ∧ x < (ns.length : Int) := fun x hx => part_bd hpm (hStart_in hx).2
    unfold MS at q
    generalize hStart ns ps p z = ss at es lss ins q
    generalize hEnd ns ps ((z + (n : Int)) % 2) = en at ee3 les q
    refine ⟨ls, rfl, ⟨_, lstNew es⟩, fun D nD => ?_⟩
    refine it_list (xs := ss.map V.int) (fun i H' => Same H3 H' ∧ ∃ bs : List Bool, H' D = some (.lst (bs.map V.bl)) ∧ bs.length ≤ 8 * i ∧ (bs.any id = true ↔ ∃ a ∈ ss.take i, ∃ o ∈ en, lk (behindOf ps) (hSteps z n) a o)) ⟨same_upd nD, [], upd_same, Nat.zero_le _, by simp⟩ (fun i H' _ h => lstNew (h.1 _ _ es)) (fun i v H4 hv h => ?_) fun H4 h => ?_
    · obtain ⟨a, ga, rfl⟩ := map_at hv
      obtain ⟨s4, bs, e4, l4, m4⟩ := h
      have hi : i < ss.length := (List.getElem?_eq_some_iff.mp ga).1
      have ha := ins a (List.mem_of_getElem? ga)
      refine ⟨rfl, tt_yes ⟨.ref le, rfl, le, rfl, ⟨_, lstNew (s4 _ _ ee3)⟩, ?_⟩⟩
      refine it_list (xs := en.map V.int) (fun j H' => Same H3 H' ∧ ∃ bs : List Bool, H' D = some (.lst (bs.map V.bl)) ∧ bs.length ≤ 8 * i + j ∧ (bs.any id = true ↔ (∃ a ∈ ss.take i, ∃ o ∈ en, lk (behindOf ps) (hSteps z n) a o) ∨ ∃ o ∈ en.take j, lk (behindOf ps) (hSteps z n) a o)) ⟨s4, bs, e4, by omega, by rw [m4]; simp⟩ (fun j H' _ h => lstNew (h.1 _ _ ee3)) (fun j v H5 hv5 h => ?_) fun H5 h => ?_
      · obtain ⟨o, go, rfl⟩ := map_at hv5
        obtain ⟨s5, bs5, e5, l5, m5⟩ := h
        have hj : j < en.length := (List.getElem?_eq_some_iff.mp go).1
        obtain ⟨vs, ca, xs, k1, k2, k3, k4, k5, k6⟩ := (tab3.same s5).at ha.1 ha.2
        refine ⟨rfl, tt_yes ⟨.int o, rfl, .ref t, rfl, .int a, rfl, t, vs, a, .ref ca, rfl, rfl, k1, k2, ca, o, xs, rfl, rfl, k3, ?_⟩⟩
        refine ⟨_, e5, by rw [List.length_map]; exact few1 (by omega), fun b' o' zz => ?_, bs5 ++ [decide (o ∈ xs)], by rw [upd_same, List.map_append]; rfl, by rw [List.length_append]; simp; omega, ?_⟩
        · rw [upd_ne (ne_of_none zz nD)]; exact s5 b' o' zz
        · rw [List.any_append, Bool.or_eq_true, m5, List.take_add_one, go]
          have e6 : ([decide (o ∈ xs)].any id = true) ↔ lk (behindOf ps) (hSteps z n) a o := by
            rw [← k6 o]; simp
          rw [e6]
          constructor
          · rintro ((h | ⟨o', h1, h2⟩) | h)
            · exact .inl h
            · exact .inr ⟨o', List.mem_append_left _ h1, h2⟩
            · exact .inr ⟨o, List.mem_append_right _ (List.mem_singleton.mpr rfl), h⟩
          · rintro (h | ⟨o', h1, h2⟩)
            · exact .inl (.inl h)
            · rcases List.mem_append.mp h1 with h1 | h1
              · exact .inl (.inr ⟨o', h1, h2⟩)
              · have e : o' = o := List.mem_singleton.mp h1
                rw [e] at h2
                exact .inr h2
      · obtain ⟨s5, bs5, e5, l5, m5⟩ := h
        rw [List.length_map] at l5 m5
        rw [List.take_of_length_le (Nat.le_refl _)] at m5
        refine ⟨s5, bs5, e5, by omega, ?_⟩
        rw [m5, List.take_add_one, ga]
        constructor
        · rintro (⟨a', h1, h2⟩ | h)
          · exact ⟨a', List.mem_append_left _ h1, h2⟩
          · exact ⟨a, List.mem_append_right _ (List.mem_singleton.mpr rfl), h⟩
        · rintro ⟨a', h1, h2⟩
          rcases List.mem_append.mp h1 with h1 | h1
          · exact .inl ⟨a', h1, h2⟩
          · have e : a' = a := List.mem_singleton.mp h1
            rw [e] at h2
            exact .inr h2
    · obtain ⟨s4, bs, e4, l4, m4⟩ := h
      rw [List.length_map, List.take_of_length_le (Nat.le_refl _)] at m4
      exact ⟨D, _, rfl, lstNew e4, q H4 _ (s03.trans s4) m4⟩
end
end K75
set_option maxHeartbeats 4000000
namespace K75
open PySem PySem.Spec PyProof.Rows L2 RV
theorem wk_lk {bh : Int → List Int} {o : Int} : ∀ {k : Nat} {a : Int} {w : List Int}, WkL bh k a o w → lk bh k a o
  | 0, a, w, h => h.2
  | k + 1, a, w, ⟨c, w', _, h1, h2⟩ => ⟨c, h1, wk_lk h2⟩
theorem wk_in {ps : List (List Int)} {N : Nat} (hP : ∀ q ∈ ps, Pr (N : Int) q) {p : List Int} (hp : p ∈ partsOf ps N) {m o : Int} (hm : m ∈ p) {j : Nat} (ho : lk (behindOf ps) j o m) : ∀ {k : Nat} {a : Int} {w : List Int}, WkL (behindOf ps) k a o w → a ∈ p → ∀ x ∈ w, x ∈ p
  | 0, a, w, h, ha, x, hx => by
    rw [h.1] at hx
    rw [List.mem_singleton.mp hx]; exact ha
  | k + 1, a, w, h, ha, x, hx => by
    obtain ⟨c, w', rfl, h1, h2⟩ := h
    have hc := in_part hP hp hm ha h1 (lk_add.mpr ⟨o, wk_lk h2, ho⟩)
    rcases List.mem_cons.mp hx with rfl | hx
    · exact ha
    · exact wk_in hP hp hm ho h2 hc x hx
theorem closing {ps : List (List Int)} {N : Nat} (hP : ∀ q ∈ ps, Pr (N : Int) q) {p : List Int} (hp : p ∈ partsOf ps N) {k : Nat} {r : List Int} : (r ∈ (rowsN ps p k).filter fun r => decide ([lst0 r, hd0 r] ∈ ps)) ↔ ∃ m ∈ p, hd0 r = m ∧ WkL (behindOf ps) (k + 1) m m (r ++ [m]) := by
  have hb : ∀ x y : Int, y ∈ behindOf ps x ↔ [x, y] ∈ ps := fun x y => mem_behind hP
  rw [List.mem_filter, mem_rows hb, decide_eq_true_iff]
  constructor
  · rintro ⟨⟨⟨a, o, wk⟩, inp⟩, cl⟩
    obtain ⟨v, rfl⟩ := wk.head
    rw [lst_la, wk.la] at cl
    exact ⟨a, inp a List.mem_cons_self, rfl, wk.snoc ((hb o a).mpr cl)⟩
  · rintro ⟨m, hm, hh, wk⟩
    obtain ⟨o, v, k1, k2, e⟩ := wk.unsnoc
    have e := List.append_cancel_right e
    subst e
    refine ⟨⟨⟨m, o, k1⟩, wk_in hP hp hm (lk_one.mpr k2) k1 hm⟩, ?_⟩
    rw [lst_la, k1.la, hh]
    exact (hb o m).mp k2
theorem wk_hd {bh : Int → List Int} {k : Nat} {m o : Int} {r : List Int} (h : WkL bh (k + 1) m o (r ++ [o])) : hd0 r = m := by
  obtain ⟨o', v, k1, _, e⟩ := h.unsnoc
  have e := List.append_cancel_right e
  subst e
  obtain ⟨v, rfl⟩ := k1.head
  rfl
theorem first_ring {ns : List Int} {ps : List (List Int)} (S : Stp ns ps) {p : List Int} (hp : p ∈ partsOf ps ns.length) (k : Nat) :
    (((rowsN ps p k).filter fun r => decide ([lst0 r, hd0 r] ∈ ps)) = [] → NR ps ns.length p (k + 1)) ∧ ∀ r rest, ((rowsN ps p k).filter fun r => decide ([lst0 r, hd0 r] ∈ ps)) = r :: rest → LR ps ns.length p (k + 1) r := by
  have hP : ∀ q ∈ ps, Pr (ns.length : Int) q := fun q hq => S.pair q hq
  have hb := behind_inn S
  have inn : ∀ x ∈ p, 0 ≤ x ∧ x < (ns.length : Int) := fun x hx => (mem_lot.mp (by rw [part_lot hp hx]; exact hx : x ∈ lotOf ps ns.length x)).1
  have rise : p.Pairwise (· < ·) := by
    obtain ⟨x, _, _, e⟩ := mem_parts.mp hp
    rw [e]; exact lot_rise _ _ _
  -- of each mark that comes back a row
  have row : ∀ m ∈ p, m ∈ beg (behindOf ps) ns.length [m] (k + 1) → ∃ r, (r ∈ (rowsN ps p k).filter fun r => decide ([lst0 r, hd0 r] ∈ ps)) ∧ hd0 r = m ∧ Gr (behindOf ps) (beg (behindOf ps) ns.length [m]) (k + 1) m (r ++ [m]) := fun m hm hmb => by
    obtain ⟨g, hg⟩ := ex_gr hmb
    obtain ⟨r, rfl⟩ := gr_last hg hmb
    have wk := hg.wk hmb
    exact ⟨r, (closing hP hp).mpr ⟨m, hm, wk_hd wk, wk⟩, wk_hd wk, hg⟩
  constructor
  · intro z m hm hmb
    obtain ⟨r, hr, _⟩ := row m hm hmb
    rw [z] at hr; cases hr
  · intro r rest e
    have pw := (rows_rise (ps := ps) rise k).filter fun r => decide ([lst0 r, hd0 r] ∈ ps)
    have hr : r ∈ (rowsN ps p k).filter fun r => decide ([lst0 r, hd0 r] ∈ ps) := by rw [e]; exact List.mem_cons_self
    have ahead : ∀ s, (s ∈ (rowsN ps p k).filter fun r => decide ([lst0 r, hd0 r] ∈ ps)) → s = r ∨ HT.lexLt r s = true := fun s hs => by
      rw [e] at hs pw
      rcases List.mem_cons.mp hs with z | z
      · exact .inl z
      · exact .inr ((List.pairwise_cons.mp pw).1 s z)
    have ne : ∀ s, (s ∈ (rowsN ps p k).filter fun r => decide ([lst0 r, hd0 r] ∈ ps)) → s ≠ [] := fun s hs => rows_ne (List.mem_filter.mp hs).1
    obtain ⟨m, hm, hh, wk⟩ := (closing hP hp).mp hr
    have hmb := wk.beg (fun m _ => hb m) (inn m hm)
    refine ⟨m, hm, hmb, fun y hy hyb => ?_, ?_⟩
    · obtain ⟨s, hs, hs2, _⟩ := row y hy hyb
      rcases ahead s hs with z | z
      · rw [z, hh] at hs2; omega
      · have := lex_hd (ne r hr) (ne s hs) z
        rw [hh, hs2] at this; exact this
    · obtain ⟨s, hs, hs2, hg⟩ := row m hm hmb
      rcases ahead s hs with z | z
      · rw [← z]; exact hg
      · have z2 := lex_app [m] [m] ((rows_lng k r (List.mem_filter.mp hr).1).trans (rows_lng k s (List.mem_filter.mp hs).1).symm) z
        rw [hg.least (fun m _ => hb m) wk (inn m hm)] at z2
        cases z2
end K75
set_option maxHeartbeats 4000000
namespace K75
open PySem PySem.Spec PyProof.Rows L2 RV
theorem any_fB {f : Int → Int → Prop} {p : List Int} : decide (0 < ((p.filter (fB f)).length : Int)) = p.any (fB f) := by
  rw [Bool.eq_iff_iff, decide_eq_true_iff, List.any_eq_true]
  constructor
  · intro h
    obtain ⟨x, hx⟩ := List.exists_mem_of_length_pos (show 0 < (p.filter (fB f)).length by omega)
    obtain ⟨h1, h2⟩ := List.mem_filter.mp hx
    exact ⟨x, h1, h2⟩
  · rintro ⟨x, h1, h2⟩
    have := List.length_pos_of_mem (List.mem_filter.mpr ⟨h1, h2⟩)
    omega
section
variable {P : Program} {w : World} {K : PySem.W.Frag} {mg : Str → Option Value} {base : Heap}
/-! ### is_size -/
theorem scIS : FnScope ["rule", "part", "n"] ["rule", "part", "n"] (defScope sIsSize) := ⟨rfl, rfl, rfl, by decide +kernel, rfl, by decide +kernel, by decide +kernel⟩
def spIS (K : PySem.W.Frag) (C : Addr) : Sp := fun vs H Q _ => ∃ (r : Addr) (k n : Nat) (ns p : List Int) (ps : List (List Int)), vs = [.ref r, .int (k : Int), .int (n : Int)] ∧ RuleAt K C H r ns ps ∧ Mir ns ∧ Stp ns ps ∧ (partsOf ps ns.length)[k]? = some p ∧ 1 ≤ n ∧
  ∀ H', Same H H' → Q (.bl (p.any (fB (lk (behindOf ps) n)))) H'
theorem ok_is {f C fP fO fC : Addr} {fd dP dO dC : FuncData} (F : Fun K "is_size" "is_size" sIsSize f fd) (B : Bare mg)
    (DP : DefAt K mg "parts" sParts ["rule"] fP dP) (GP : FnOk P w K mg base CX0 3 fP dP ["rule"] (spParts K C)) (DO : DefAt K mg "ends_of_walks" sOfWalks ["rule", "n"] fO dO) (GO : FnOk P w K mg base CX0 3 fO dO ["rule", "n"] (spOW K C))
    (DC : DefAt K mg "come_back" sComeBack ["ends", "marks"] fC dC) : FnOk P w K mg base CX0 4 f fd ["rule", "part", "n"] (spIS K C) := by
  have GC : FnOk P w K mg base CX0 1 fC dC ["ends", "marks"] (spCB K) := ok_cb DC.fn
  refine F.ok scIS (fun vs H Q E h => ?_) (fun cdv A outer s H vs Q E hr h => ?_)
  · obtain ⟨r, k, n, ns, p, ps, rfl, _⟩ := h
    rfl
  · obtain ⟨r, k, n, ns, p, ps, rfl, R, M, S, gk, n1, q⟩ := h
    have r1 := hr.mono (show 1 ≤ 3 by decide)
    refine ⟨_, pss_one (ps_ret (pe_and (pe_cmpR op_ge (pv 2) pe_int (nomark _)) (pe_one (pe_cmpR op_gt (pe_callB call_len_seq (by rfl) B.len PySem.boot_len (pa_cons (pe_call GC r1 (by rfl) DC.mg DC.fn.kp DC.bi .nil pass0 (pa_cons (pe_call GO hr (by rfl) DO.mg DO.fn.kp DO.bi .nil pass0 (pa_cons (pv 0) (pa_cons (pv 2) pa_nil))) (pa_cons (pe_ix ix_tup (pe_call GP hr (by rfl) DP.mg DP.fn.kp DP.bi .nil pass0 (pa_cons (pv 0) pa_nil)) (pv 1) (fun _ _ => rfl)) pa_nil))) pa_nil)) pe_int (nomark _))))), ?_⟩
    have h8 := M.few
    have hpm := List.mem_of_getElem? gk
    have lp : p.length ≤ 8 := by
      obtain ⟨m, _, _, e⟩ := mem_parts.mp hpm
      rw [e]; exact Nat.le_trans (lot_len _ _ _) h8
    have inn : ∀ x ∈ p, 0 ≤ x ∧ x < (ns.length : Int) := fun x hx => (mem_lot.mp (by rw [part_lot hpm hx]; exact hx : x ∈ lotOf ps ns.length x)).1
    refine ⟨.int (n : Int), rfl, _, _, rfl, rfl, _, rfl, ?_⟩
    rw [decide_eq_true (show (1 : Int) ≤ (n : Int) by omega)]
    refine iteT ⟨.ref r, rfl, .int (n : Int), rfl, r, n, ns, ps, rfl, R, S, h8, fun H1 t s1 hT => ?_⟩
    refine ⟨.ref r, rfl, r, ns, ps, rfl, R.same s1, M, S, fun H2 c s2 nc hc => ?_⟩
    obtain ⟨ks, k1, k2, k3⟩ := hc
    have gk' : (ks.map (·.2))[k]? = some p := by rw [k1]; exact gk
    obtain ⟨kk, gkk, ekk⟩ := map_at gk'
    have hp : SqT K H2 kk.1 (p.map V.int) := by
      have z := (k3 kk (List.mem_of_getElem? gkk)).sq (K := K)
      rw [← ekk] at z; exact z
    refine ⟨.int (k : Int), rfl, c, _, _, .ref kk.1, rfl, rfl, tupNew k2, atI_nat (by rw [List.getElem?_map, gkk]; rfl), ?_⟩
    refine ⟨t, kk.1, ns.length, _, p, rfl, hT.same s2, hp, lp, inn, fun H3 l s3 e3 => ?_⟩
    refine ⟨l, _, rfl, .inl (lstNew e3), _, _, rfl, rfl, ?_⟩
    rw [List.length_map]
    show Q (.bl (decide (0 < ((p.filter (fB (lk (behindOf ps) n))).length : Int)))) H3
    rw [any_fB]
    exact q H3 ((s1.trans s2).trans s3)
end
end K75
set_option maxHeartbeats 4000000
namespace K75
open PySem PySem.Spec PyProof.Rows L2 RV
/-- whether the part has a ring of so many places -/
noncomputable def isZ (ps : List (List Int)) (p : List Int) (z : Int) : Bool := p.any (fB (lk (behindOf ps) z.toNat))
theorem isZ_nat (ps : List (List Int)) (p : List Int) (n : Nat) : isZ ps p (n : Int) = p.any (fB (lk (behindOf ps) n)) := by unfold isZ; rw [Int.toNat_natCast]
section
variable {P : Program} {w : World} {K : PySem.W.Frag} {mg : Str → Option Value} {base : Heap}
/-! ### sizes -/
abbrev nSz : List Str := ["rule", "part", "most", "marks", "step", "ends", "found", "n"]
theorem scSz : FnScope nSz ["rule", "part", "most"] (defScope sSizes) := ⟨rfl, rfl, rfl, by decide +kernel, rfl, by decide +kernel, by decide +kernel⟩
def spSz (K : PySem.W.Frag) (C : Addr) : Sp := fun vs H Q _ => ∃ (r : Addr) (k mo : Nat) (ns p : List Int) (ps : List (List Int)), vs = [.ref r, .int (k : Int), .int (mo : Int)] ∧ RuleAt K C H r ns ps ∧ Mir ns ∧ Stp ns ps ∧ (partsOf ps ns.length)[k]? = some p ∧ mo ≤ 900 ∧
  ∀ (H' : Hp) (t : Addr), Same H H' → SqT K H' t (((fromN 1 mo).filter (isZ ps p)).map V.int) → Q (.ref t) H'
theorem ok_sz {f C fP fO fS fE fC : Addr} {fd dP dO dS dE dC : FuncData} (F : Fun K "sizes" "sizes" sSizes f fd) (B : Bare mg)
    (DP : DefAt K mg "parts" sParts ["rule"] fP dP) (GP : FnOk P w K mg base CX0 3 fP dP ["rule"] (spParts K C)) (DO : DefAt K mg "ends_at_once" sAtOnce ["rule"] fO dO) (GO : FnOk P w K mg base CX0 2 fO dO ["rule"] (spTab K C 0))
    (DS : DefAt K mg "ends_of_steps" sOfSteps ["rule"] fS dS) (GS : FnOk P w K mg base CX0 2 fS dS ["rule"] (spTab K C 1)) (DE : DefAt K mg "ends_behind" sEndsBehind ["first", "second"] fE dE)
    (DC : DefAt K mg "come_back" sComeBack ["ends", "marks"] fC dC) : FnOk P w K mg base CX0 4 f fd ["rule", "part", "most"] (spSz K C) := by
  have GC : FnOk P w K mg base CX0 1 fC dC ["ends", "marks"] (spCB K) := ok_cb DC.fn
  have GE : FnOk P w K mg base CX0 1 fE dE ["first", "second"] (spEB K) := ok_eb DE.fn B
  refine F.ok scSz (fun vs H Q E h => ?_) (fun cdv A outer s H vs Q E hr h => ?_)
  · obtain ⟨r, k, mo, ns, p, ps, rfl, _⟩ := h
    rfl
  · obtain ⟨r, k, mo, ns, p, ps, rfl, R, M, S, gk, hmo, q⟩ := h
    have r1 := hr.mono (show 1 ≤ 3 by decide)
    have r2 := hr.mono (show 2 ≤ 3 by decide)
    refine ⟨_, pss_cons (ps_set (i := 3) scSz.nd rfl (Or.inl rfl) (pe_ix ix_tup (pe_call GP hr (by rfl) DP.mg DP.fn.kp DP.bi .nil pass0 (pa_cons (pv 0) pa_nil)) (pv 1) (fun _ _ => rfl)))
      (pss_cons (ps_set (i := 4) scSz.nd rfl (Or.inl rfl) (pe_call GS r2 (by rfl) DS.mg DS.fn.kp DS.bi .nil pass0 (pa_cons (pv 0) pa_nil)))
      (pss_cons (ps_set (i := 5) scSz.nd rfl (Or.inl rfl) (pe_call GO r2 (by rfl) DO.mg DO.fn.kp DO.bi .nil pass0 (pa_cons (pv 0) pa_nil)))
      (pss_cons (ps_set (i := 6) scSz.nd rfl (Or.inl rfl) (pe_lst pa_nil))
      (pss_cons (ps_for PassesOwn.never rfl (pi_range2 (by rfl) B.range (pa_cons pe_int (pa_cons (pe_op op_add (pv 2) pe_int) pa_nil))) (pg_name (i := 7) scSz.nd rfl (Or.inl rfl))
        (pss_cons (ps_set (i := 5) scSz.nd rfl (Or.inl rfl) (pe_call GE r1 (by rfl) DE.mg DE.fn.kp DE.bi .nil pass0 (pa_cons (pv 5) (pa_cons (pv 4) pa_nil))))
        (pss_one (ps_if (pt_cmpR op_gt (pe_callB call_len_seq (by rfl) B.len PySem.boot_len (pa_cons (pe_call GC r1 (by rfl) DC.mg DC.fn.kp DC.bi .nil pass0 (pa_cons (pv 5) (pa_cons (pv 3) pa_nil))) pa_nil)) pe_int (nomark _))
          (pss_one (ps_expr (pe_bm PySem.F.plainAttrs_list PySem.F.slot_list_append PySem.F.type_list_append mt_append (pv 6) (pa_cons (pv 7) pa_nil)))) pss_nil))))
      (pss_one (ps_ret (pe_tupleOf (by rfl) B.tuple (pv 6)))))))), ?_⟩
    have h8 := M.few
    have hpm := List.mem_of_getElem? gk
    have lp : p.length ≤ 8 := by
      obtain ⟨m, _, _, e⟩ := mem_parts.mp hpm
      rw [e]; exact Nat.le_trans (lot_len _ _ _) h8
    have inn : ∀ x ∈ p, 0 ≤ x ∧ x < (ns.length : Int) := fun x hx => (mem_lot.mp (by rw [part_lot hpm hx]; exact hx : x ∈ lotOf ps ns.length x)).1
    refine ⟨.ref r, rfl, r, ns, ps, rfl, R, M, S, fun H1 c s1 nc hc => ?_⟩
    obtain ⟨ks, k1, k2, k3⟩ := hc
    have gk' : (ks.map (·.2))[k]? = some p := by rw [k1]; exact gk
    obtain ⟨kk, gkk, ekk⟩ := map_at gk'
    have hp : SqT K H1 kk.1 (p.map V.int) := by
      have z := (k3 kk (List.mem_of_getElem? gkk)).sq (K := K)
      rw [← ekk] at z; exact z
    refine ⟨.int (k : Int), rfl, c, _, _, .ref kk.1, rfl, rfl, tupNew k2, atI_nat (by rw [List.getElem?_map, gkk]; rfl), ?_⟩
    refine ⟨.ref r, rfl, r, ns, ps, rfl, R.same s1, S, h8, fun H2 t2 s2 T2 => ?_⟩
    refine ⟨.ref r, rfl, r, ns, ps, rfl, R.same (s1.trans s2), S, h8, fun H3 t3 s3 T3 => ⟨Nat.zero_le _, fun Fo nF => ?_⟩⟩
    have sF := same_upd (o := .lst []) nF
    have s04 := ((s1.trans s2).trans s3).trans sF
    have nFH : H Fo = none := ((s1.trans s2).trans s3).free nF
    have nF1 : H1 Fo = none := (s2.trans s3).free nF
    have s14 := (s2.trans s3).trans sF
    refine ⟨.int (mo : Int), rfl, _, 1, rfl, rfl, 1, _, rfl, ⟨by decide, by decide, by omega, by omega⟩, ?_⟩
    rw [show ((mo : Int) + 1 - 1).toNat = mo by omega]
    refine for_range (lo := 1) (n := mo) (fun i σ H' => ∃ (e : Addr) (y7 : Option V), σ = [some (.ref r), some (.int (k : Int)), some (.int (mo : Int)), some (.ref kk.1), some (.ref t2), some (.ref e), some (.ref Fo), y7] ∧ Same H1 H' ∧ Tab K H' t2 ns.length (lk (behindOf ps) 1) ∧ Tab K H' e ns.length (lk (behindOf ps) i) ∧ H' Fo = some (.lst ((((fromN 1 mo).take i).filter (isZ ps p)).map V.int)))
      ⟨t3, _, rfl, s14, T2.same (s3.trans sF), T3.same sF, upd_same⟩ (fun i σ H5 hi h => ?_) (fun σ H5 h => ?_)
    · obtain ⟨e, y7, rfl, s5, T5, E5, eF⟩ := h
      have gi : (fromN 1 mo)[i]? = some ((i + 1 : Nat) : Int) := by rw [fromN_get hi]; congr 1; omega
      rw [show (1 : Int) + (i : Int) = ((i + 1 : Nat) : Int) by omega]
      refine ⟨.ref e, rfl, .ref t2, rfl, e, t2, ns.length, _, _, rfl, h8, E5, T5, fun H6 t6 s6 T6 => ?_⟩
      have E6 : Tab K H6 t6 ns.length (lk (behindOf ps) (i + 1)) := T6.congr fun a x _ _ => lk_add.symm
      refine ⟨.ref t6, rfl, .ref kk.1, rfl, t6, kk.1, ns.length, _, p, rfl, E6, sqT_same (s5.trans s6) hp, lp, inn, fun H7 l s7 e7 => ?_⟩
      refine ⟨l, _, rfl, .inl (lstNew e7), _, _, rfl, rfl, _, rfl, ?_⟩
      rw [List.length_map, any_fB, ← isZ_nat]
      have s57 := (s5.trans s6).trans s7
      have eF7 := (s6.trans s7) _ _ eF
      have nxt := take_filt (c := isZ ps p) gi
      have lF : ((((fromN 1 mo).take i).filter (isZ ps p)).map V.int).length ≤ 900 := by
        rw [List.length_map]
        exact Nat.le_trans (List.length_filter_le _ _) (by rw [List.length_take]; omega)
      by_cases c : isZ ps p ((i + 1 : Nat) : Int) = true
      · rw [c]
        rw [if_pos c] at nxt
        refine iteT ⟨.ref Fo, rfl, .inl ⟨rfl, _, lstNew eF7⟩, .int _, rfl, Fo, _, _, rfl, rfl, eF7, few1 (by omega), ?_⟩
        have notSet : ∀ {t : Addr} {f : Int → Int → Prop}, Tab K H7 t ns.length f → Tab K (upd H7 Fo (.lst ((((fromN 1 mo).take i).filter (isZ ps p)).map V.int ++ [.int ((i + 1 : Nat) : Int)]))) t ns.length f := fun {t f} h => by
          obtain ⟨as, h1, h2, h3⟩ := h
          exact ⟨as, sqT_lst eF7 h1, h2, fun j a ha => (h3 j a ha).imp fun xs u => ⟨sqT_lst eF7 u.1, u.2⟩⟩
        refine ⟨t6, _, rfl, fun b' o z => ?_, notSet (T5.same (s6.trans s7)), notSet (E6.same s7), ?_⟩
        · rw [upd_ne (ne_of_none z nF1)]; exact s57 b' o z
        · rw [upd_same, nxt, List.map_append]; rfl
      · rw [show isZ ps p ((i + 1 : Nat) : Int) = false by simpa using c]
        rw [if_neg c, List.append_nil] at nxt
        exact iteF ⟨t6, _, rfl, s57, T5.same (s6.trans s7), E6.same s7, by rw [nxt]; exact eF7⟩
    · obtain ⟨e, y7, rfl, s5, T5, E5, eF⟩ := h
      rw [show (fromN 1 mo).take mo = fromN 1 mo from List.take_of_length_le (by rw [fromN_len]; exact Nat.le_refl _)] at eF
      refine ⟨.ref Fo, rfl, .inl ⟨Fo, _, rfl, lstNew eF, fun t nt => ?_⟩⟩
      exact q _ t ((s1.trans s5).trans (same_upd nt)) (tupNew upd_same)
end
end K75
set_option maxHeartbeats 4000000
namespace K75
open PySem PySem.Spec PyProof.Rows L2 RV
theorem eqv_nil (Ls : List (List Int)) : PyData.eqv (.list (Ls.map RV.dI)) (.list (([] : List (List Int)).map RV.dI)) = decide (Ls = []) := by
  cases Ls with
  | nil => rfl
  | cons w Ls => rw [decide_eq_false (by simp)]; simp [PyData.eqv, PyData.eqvAll]
theorem LR.shows {ns : List Int} {ps : List (List Int)} (M : Mir ns) (S : Stp ns ps) {p : List Int} (hp : p ∈ partsOf ps ns.length) {n : Nat} (hn : n ≤ 6000) {r : List Int} (h : LR ps ns.length p n r) : Shows (RV.dI r) := by
  obtain ⟨m, a1, a2, a3, a4⟩ := h
  have n8 := M.few
  have l := a4.len
  rw [List.length_append] at l
  refine shows_dI7 (fun z hz => ?_) (by simp at l; omega)
  have := a4.inn (P := fun c => 0 ≤ c ∧ c < (ns.length : Int)) (fun m _ => behind_inn S m) (part_bd hp a1) z (List.mem_append_left _ hz)
  omega
theorem LH.shows {ns : List Int} {ps : List (List Int)} (M : Mir ns) (S : Stp ns ps) {p : List Int} (hp : p ∈ partsOf ps ns.length) {z : Int} {n : Nat} (hn : n ≤ 6000) {g : List Int} (h : LH ns ps p z n g) : Shows (RV.dI g) := by
  have l := h.len
  have le := hs_le z n
  have h8 := M.few
  refine shows_dI7 (fun x hx => ?_) (by omega)
  have := h.inn S hp x hx
  omega
/-- rings there are just where a mark comes back -/
theorem rings_any {ns : List Int} {ps : List (List Int)} (S : Stp ns ps) {p : List Int} (hp : p ∈ partsOf ps ns.length) {n : Nat} (h1 : 1 ≤ n) : p.any (fB (lk (behindOf ps) n)) = !decide (((rowsN ps p (n - 1)).filter fun r => decide ([lst0 r, hd0 r] ∈ ps)) = []) := by
  have hP : ∀ q ∈ ps, Pr (ns.length : Int) q := fun q hq => S.pair q hq
  rw [Bool.eq_iff_iff, List.any_eq_true, Bool.not_eq_true', decide_eq_false_iff_not]
  constructor
  · rintro ⟨m, hm, h⟩ e
    have h := fB_iff.mp h
    obtain ⟨w, hw⟩ := lk_wkl h
    obtain ⟨k, ek⟩ : ∃ k, n = k + 1 := ⟨n - 1, by omega⟩
    subst ek
    obtain ⟨o, v, k1, k2, rfl⟩ := hw.unsnoc
    have := (closing hP hp (k := k) (r := v)).mpr ⟨m, hm, wk_hd hw, hw⟩
    rw [show k + 1 - 1 = k by omega] at e
    rw [e] at this
    cases this
  · intro e
    obtain ⟨r, hr⟩ := List.exists_mem_of_ne_nil _ e
    obtain ⟨m, hm, _, wk⟩ := (closing hP hp).mp hr
    rw [show n - 1 + 1 = n by omega] at wk
    exact ⟨m, hm, fB_iff.mpr (wkl_lk wk)⟩
/-! ### a dict of the least halves -/
theorem mem_put {kvs : List (L2.Key × V)} {k : L2.Key} {v : V} {kv : L2.Key × V} (h : kv ∈ putK kvs k v) : kv.1 = k ∨ ∃ kv' ∈ kvs, kv'.1 = kv.1 := by
  unfold putK at h
  split at h
  · obtain ⟨x, h1, h2⟩ := List.mem_map.mp h
    by_cases e : x.1 = k
    · rw [if_pos e] at h2
      rw [← h2]
      exact .inl e
    · rw [if_neg e] at h2
      rw [← h2]
      exact .inr ⟨x, h1, rfl⟩
  · rcases List.mem_append.mp h with h | h
    · exact .inr ⟨kv, h, rfl⟩
    · rw [List.mem_singleton.mp h]
      exact .inl rfl
def HD (K : PySem.W.Frag) (H : Hp) (kvs : List (L2.Key × V)) (Hs : Int → List (List Int)) : Prop :=
  (∀ z : Int, (valV kvs (Sum.inl z) = none ∧ Hs z = []) ∨ ∃ (t : Addr) (h : List Int), valV kvs (Sum.inl z) = some (.ref t) ∧ SqT K H t (h.map V.int) ∧ h ∈ Hs z ∧ ∀ h' ∈ Hs z, HT.lexLt h' h = false) ∧
  ∀ kv ∈ kvs, ∃ z : Int, kv.1 = Sum.inl z ∧ Hs z ≠ []
theorem HD.same {K : PySem.W.Frag} {H H' : Hp} {kvs : List (L2.Key × V)} {Hs : Int → List (List Int)} (h : HD K H kvs Hs) (s : Same H H') : HD K H' kvs Hs := by
  refine ⟨fun z => ?_, h.2⟩
  rcases h.1 z with h | ⟨t, g, h1, h2, h3⟩
  · exact .inl h
  · exact .inr ⟨t, g, h1, sqT_same s h2, h3⟩
theorem HD.congr {K : PySem.W.Frag} {H : Hp} {kvs : List (L2.Key × V)} {Hs Hs' : Int → List (List Int)} (h : HD K H kvs Hs) (e : ∀ z, Hs z = Hs' z) : HD K H kvs Hs' := by
  have : Hs = Hs' := funext e
  rw [← this]; exact h
theorem sqT_dk {K : PySem.W.Frag} {H : Hp} {d : Addr} {kvs : List (L2.Key × V)} {o' : HO} (e : H d = some (.dK kvs)) {a : Addr} {xs : List V} (h : SqT K H a xs) : SqT K (upd H d o') a xs := by
  rcases h with (h | ⟨o, h⟩) | h
  · exact .inl (.inl (by rw [upd_ne (fun z => by rw [z, e] at h; cases h)]; exact h))
  · exact .inl (.inr ⟨o, by rw [upd_ne (fun z => by rw [z, e] at h; cases h)]; exact h⟩)
  · exact .inr h
theorem sqT_butD {K : PySem.W.Frag} {H H' : Hp} {d : Addr} {kvs : List (L2.Key × V)} (e : H d = some (.dK kvs)) (b : But d H H') {a : Addr} {xs : List V} (h : SqT K H a xs) : SqT K H' a xs := by
  rcases h with (h | ⟨o, h⟩) | h
  · exact .inl (.inl (b _ _ h fun z => by rw [z, e] at h; cases h))
  · exact .inl (.inr ⟨o, b _ _ h fun z => by rw [z, e] at h; cases h⟩)
  · exact .inr h
/-- one half more -/
theorem HD.put {K : PySem.W.Frag} {H : Hp} {d : Addr} {kvs : List (L2.Key × V)} {Hs : Int → List (List Int)} (h : HD K H kvs Hs) (ed : H d = some (.dK kvs)) {z0 : Int} {t : Addr} {g : List Int} (ht : SqT K H t (g.map V.int)) :
    ∃ (a : Addr) (g0 : List Int), (valV kvs (Sum.inl z0)).getD (.ref t) = .ref a ∧ SqT K H a (g0.map V.int) ∧ ∀ o' : List (L2.Key × V), o' = putK kvs (Sum.inl z0) (.ref (if HT.lexLt g g0 = true then t else a)) → HD K (upd H d (.dK o')) o' (fun z => Hs z ++ if z = z0 then [g] else []) := by
  have key : ∀ (a : Addr) (g0 : List Int), SqT K H a (g0.map V.int) → (g0 = g ∧ Hs z0 = [] ∨ g0 ∈ Hs z0 ∧ ∀ h' ∈ Hs z0, HT.lexLt h' g0 = false) → ∀ o' : List (L2.Key × V), o' = putK kvs (Sum.inl z0) (.ref (if HT.lexLt g g0 = true then t else a)) → HD K (upd H d (.dK o')) o' (fun z => Hs z ++ if z = z0 then [g] else []) := fun a g0 ha hg o' eo => by
    refine ⟨fun z => ?_, fun kv hkv => ?_⟩
    · by_cases e : z = z0
      · subst e
        refine .inr ⟨if HT.lexLt g g0 = true then t else a, if HT.lexLt g g0 = true then g else g0, by rw [eo, valV_put, if_pos rfl], ?_, ?_, ?_⟩
        · split
          · exact sqT_dk ed ht
          · exact sqT_dk ed ha
        · show _ ∈ Hs z ++ if z = z then [g] else []
          rw [if_pos rfl]
          split
          · exact List.mem_append_right _ (List.mem_singleton.mpr rfl)
          · rcases hg with ⟨e1, _⟩ | ⟨e1, _⟩
            · rw [e1]; exact List.mem_append_right _ (List.mem_singleton.mpr rfl)
            · exact List.mem_append_left _ e1
        · intro h' hh
          have hh : h' ∈ Hs z ++ [g] := by simpa using hh
          cases lt : HT.lexLt g g0 with
          | true =>
            rw [if_pos rfl]
            rcases List.mem_append.mp hh with hh | hh
            · rcases hg with ⟨e1, e2⟩ | ⟨_, e2⟩
              · rw [e2] at hh; cases hh
              · exact NtL.lex_tr _ _ _ (NtL.lex_asym _ _ lt) (e2 h' hh)
            · rw [List.mem_singleton.mp hh]; exact lex_irr _
          | false =>
            rw [if_neg (by decide)]
            rcases List.mem_append.mp hh with hh | hh
            · rcases hg with ⟨e1, e2⟩ | ⟨_, e2⟩
              · rw [e2] at hh; cases hh
              · exact e2 h' hh
            · rw [List.mem_singleton.mp hh]; exact lt
      · show (_ ∧ Hs z ++ (if z = z0 then [g] else []) = []) ∨ ∃ t' h', _ ∧ _ ∧ h' ∈ Hs z ++ (if z = z0 then [g] else []) ∧ ∀ x ∈ Hs z ++ (if z = z0 then [g] else []), _
        rw [if_neg e, List.append_nil, eo, valV_put, if_neg (fun y => e (Sum.inl.inj y))]
        rcases h.1 z with y | ⟨t', g', h1, h2, h3⟩
        · exact .inl y
        · exact .inr ⟨t', g', h1, sqT_dk ed h2, h3⟩
    · rw [eo] at hkv
      rcases mem_put hkv with e | ⟨kv', h1, h2⟩
      · exact ⟨z0, e, by show Hs z0 ++ (if z0 = z0 then [g] else []) ≠ []; rw [if_pos rfl]; simp⟩
      · obtain ⟨z, z1, z2⟩ := h.2 kv' h1
        refine ⟨z, by rw [← h2]; exact z1, fun y => z2 ?_⟩
        exact (List.append_eq_nil_iff.mp y).1
  rcases h.1 z0 with ⟨h1, h2⟩ | ⟨a, g0, h1, h2, h3, h4⟩
  · exact ⟨t, g, by rw [h1]; rfl, ht, key t g ht (.inl ⟨rfl, h2⟩)⟩
  · exact ⟨a, g0, by rw [h1]; rfl, h2, key a g0 h2 (.inr ⟨h3, h4⟩)⟩
end K75
set_option maxHeartbeats 4000000
namespace K75
open PySem PySem.Spec PyProof.Rows L2 RV
/-- what is due of a ring: where it is mirrored -/
theorem hvs_due (ns : List Int) (ps : List (List Int)) (z : Int) (n : Nat) (r : List Int) : hvs ns ps z n r = (((upN (2 * n)).filter (mirB ns r)).filter fun s => decide (2 * ((clsM ps ns.length (at_ r (s / 2)) : Nat) : Int) + s % 2 = z)).map fun s => halfOf r s (hSteps z n + 1) := by
  unfold hvs
  rw [List.filter_filter]
  rfl
/-- a loop over a locked dict's keys -/
theorem it_keys {d : Addr} {o : Obj} {kvs : List (L2.Key × V)} {H0 : Hp} {Fin : Hp → Prop} {Bd : V → Hp → (Hp → Prop) → Prop} (Pv : Nat → Hp → Prop) (h0 : Pv 0 H0) (hl : ∀ i H, Pv i H → H d = some (.frz o (.dK kvs)))
    (hs : ∀ i k v H, kvs[i]? = some (k, v) → Pv i H → Bd (kV k) H (Pv (i + 1))) (hd : ∀ H, Pv kvs.length H → Fin H) :
    ∃ W : Nat → Nat → Hp → Prop, (∃ m, W 0 m H0) ∧ ∀ i m H, W i m H → ((Itk d o kvs).stop i H ∧ Fin H) ∨ ((Itk d o kvs).go i H ∧ ∃ Nx : Hp → Prop, (∀ H', Nx H' → ∃ m', m' < m ∧ W (i + 1) m' H') ∧ ∀ x H', (Itk d o kvs).yld i H x H' → Bd x H' Nx) := by
  refine ⟨fun i m H => i ≤ kvs.length ∧ m + i = kvs.length ∧ Pv i H, ⟨kvs.length, Nat.zero_le _, rfl, h0⟩, fun i m H ⟨hi, hm, hp⟩ => ?_⟩
  have hq := hl i H hp
  rcases Nat.lt_or_ge i kvs.length with z | z
  · refine .inr ⟨⟨hq, z⟩, Pv (i + 1), fun H' p' => ⟨m - 1, by omega, z, by omega, p'⟩, fun x H' y => ?_⟩
    obtain ⟨rfl, k, v, e, rfl⟩ := y
    exact hs i k v _ e hp
  · obtain rfl : i = kvs.length := by omega
    exact .inl ⟨⟨hq, Nat.le_refl _⟩, hd H hp⟩
section
variable {P : Program} {w : World} {K : PySem.W.Frag} {mg : Str → Option Value} {base : Heap}
/-! ### _law_of_rings_right -/
abbrev nRR : List Str := ["_law_own", "_law_rule_here", "_law_place", "_law_n", "_law_number", "_law_part", "_law_known", "_law_some", "_law_halves", "_law_least", "_law_ring", "_law_due", "_law_s", "_law_first", "_law_half", "_law_there"]
theorem scRR : FnScope nRR ["_law_own", "_law_rule_here", "_law_place", "_law_n"] (defScope sRingsRight) := ⟨rfl, rfl, rfl, by decide +kernel, rfl, by decide +kernel, by decide +kernel⟩
def spRR (K : PySem.W.Frag) (C : Addr) : Sp := fun vs H Q _ => ∃ (R r pl a kn : Addr) (i n : Nat) (ns p : List Int) (ps : List (List Int)), vs = [.ref R, .ref r, .ref pl, .int (n : Int)] ∧ OwnH K H R ns ps ∧ RuleAt K C H r ns ps ∧ H pl = some (.tup [.int (i : Int), .ref a, .ref kn]) ∧ (partsOf ps ns.length)[i]? = some p ∧ SqT K H a (p.map V.int) ∧ Known H kn ps ns.length p ∧ 0 < perN ps (hd0 p) ∧ 1 ≤ n ∧ n ≤ 9 ∧ p.length ^ n ≤ 300 ∧
  ∀ H', Same H H' → Q (.bl true) H'
theorem ok_rr {f C fG fP fW fI fZ fR fM fA f1 fV fC fS fL : Addr} {fd dG dP dW dI dZ dR dM dA d1 dV dC dS dL : FuncData} (F : Fun K "_law_of_rings_right" "_law_of_rings_right" sRingsRight f fd) (B : Bare mg)
    (DG : DefAt K mg "_law_all_rings" sRings ["_law_own", "_law_part", "_law_n"] fG dG) (DP : DefAt K mg "_law_all_pairs" sPairs ["_law_rows", "_law_part"] fP dP)
    (DW : DefAt K mg "how_many" sHow ["rule", "part", "n"] fW dW) (GW : FnOk P w K mg base CX0 4 fW dW ["rule", "part", "n"] (spHow K C)) (DI : DefAt K mg "is_size" sIsSize ["rule", "part", "n"] fI dI) (GI : FnOk P w K mg base CX0 4 fI dI ["rule", "part", "n"] (spIS K C))
    (DZ : DefAt K mg "sizes" sSizes ["rule", "part", "most"] fZ dZ) (GZ : FnOk P w K mg base CX0 4 fZ dZ ["rule", "part", "most"] (spSz K C)) (DR : DefAt K mg "least_ring" sLeastR ["rule", "part", "n"] fR dR) (GR : FnOk P w K mg base CX0 6 fR dR ["rule", "part", "n"] (spLR K C))
    (DM : DefAt K mg "_law_is_mirrored" sIsMir ["_law_own", "_law_marks", "_law_s"] fM dM) (DA : DefAt K mg "axes" sAxes ["rule", "marks"] fA dA) (GA : FnOk P w K mg base CX0 3 fA dA ["rule", "marks"] (spAxes K C)) (D1 : DefAt K mg "_law_axis_class" sLAxis1 ["_law_known", "_law_marks", "_law_s"] f1 d1)
    (DV : DefAt K mg "_law_half_of" sLHalfOf ["_law_marks", "_law_s", "_law_many"] fV dV) (DC : DefAt K mg "axis_classes" sAxisC ["rule", "part"] fC dC) (GC : FnOk P w K mg base CX0 7 fC dC ["rule", "part"] (spAx K C))
    (DS : DefAt K mg "is_mirror_size" sIsMS ["rule", "part", "first", "n"] fS dS) (GS : FnOk P w K mg base CX0 8 fS dS ["rule", "part", "first", "n"] (spMS K C)) (DL : DefAt K mg "least_half" sLeastH ["rule", "part", "first", "n"] fL dL) (GL : FnOk P w K mg base CX0 8 fL dL ["rule", "part", "first", "n"] (spLH K C)) : FnG P w K mg base CX0 9 f fd ["_law_own", "_law_rule_here", "_law_place", "_law_n"] (spRR K C) := by
  have GG : FnOk P w K mg base CX0 2 fG dG ["_law_own", "_law_part", "_law_n"] (spRings K) := ok_rings DG.fn DP B
  have G1 : FnOk P w K mg base CX0 1 f1 d1 ["_law_known", "_law_marks", "_law_s"] (spL1 K) := ok_l1 D1.fn
  have GM : FnOk P w K mg base CX0 1 fM dM ["_law_own", "_law_marks", "_law_s"] (spIsMir K) := ok_isMir DM.fn B
  have GV : FnOk P w K mg base CX0 1 fV dV ["_law_marks", "_law_s", "_law_many"] (spHO K) := ok_ho DV.fn B
  refine okG F scRR (fun vs H Q E h => ?_) (fun cdv A outer s H vs Q E gd hr h => ?_)
  · obtain ⟨R, r, pl, a, kn, i, n, ns, p, ps, rfl, _⟩ := h
    rfl
  · obtain ⟨R, r, pl, a, kn, i, n, ns, p, ps, rfl, O, Rr, hpl, gp, hA, hK, pos, n1, n9, lpn, q⟩ := h
    have hu := un65 hr
    have hu1 := hu_of hr
    have r1 := hr.mono (show 1 ≤ 8 by decide)
    have r2 := hr.mono (show 2 ≤ 8 by decide)
    have r3 := hr.mono (show 3 ≤ 8 by decide)
    have r4 := hr.mono (show 4 ≤ 8 by decide)
    have r6 := hr.mono (show 6 ≤ 8 by decide)
    have r7 := hr.mono (show 7 ≤ 8 by decide)
    have two : (2 : Nat) ≤ sizeLine := by decide
    refine ⟨_, pss_cons (ps_asg (pv 2) (pg_tup rfl (pgs_cons (pg_name (i := 4) scRR.nd rfl (Or.inl rfl)) (pgs_cons (pg_name (i := 5) scRR.nd rfl (Or.inl rfl)) (pgs_cons (pg_name (i := 6) scRR.nd rfl (Or.inl rfl)) pgs_nil)))))
      (pss_cons (ps_par (i := 7) (j := 8) (by rfl) scRR.nd rfl rfl (by decide) rfl rfl (pa_cons (pe_call GG r2 (by rfl) DG.mg DG.fn.kp DG.bi .nil pass0 (pa_cons (pv 0) (pa_cons (pv 5) (pa_cons (pv 3) pa_nil)))) (pa_cons pe_dnewK pa_nil)) (by rfl))
      (pss_cons (ps_if (PW.pt (pw_or (pt_cmpR op_ne (pe_call GW r4 (by rfl) DW.mg DW.fn.kp DW.bi .nil pass0 (pa_cons (pv 1) (pa_cons (pv 4) (pa_cons (pv 3) pa_nil)))) (pe_callB call_len_seq (by rfl) B.len PySem.boot_len (pa_cons (pv 7) pa_nil)) (nomark _))
          (pw_or1 (pt_cmpR op_ne (pe_call GI r4 (by rfl) DI.mg DI.fn.kp DI.bi .nil pass0 (pa_cons (pv 1) (pa_cons (pv 4) (pa_cons (pv 3) pa_nil)))) (pe_cmpR (op_neD hr.units) (pv 7) (pe_lst pa_nil) (nomark _)) (nomark _))))) (pss_one (ps_ret pe_bl)) pss_nil)
      (pss_cons (ps_set (i := 9) scRR.nd rfl (Or.inl rfl) (pe_ifExp (pt_cmpR (op_neD hr.units) (pv 7) (pe_lst pa_nil) (nomark _)) (pe_ix ix_list (pv 7) pe_int (fun _ _ => rfl)) pe_non))
      (pss_cons (ps_if (PW.pt (pw_or (pt_cmpR op_ne (pe_cmpR (op_inTI hu) (pv 3) (pe_call GZ r4 (by rfl) DZ.mg DZ.fn.kp DZ.bi .nil pass0 (pa_cons (pv 1) (pa_cons (pv 4) (pa_cons (pv 3) pa_nil)))) (by rfl)) (pe_cmpR (op_neD hr.units) (pv 7) (pe_lst pa_nil) (nomark _)) (nomark _))
          (pw_or1 (pt_cmpR op_ne (pe_callB (call_reprT gd hu) (by rfl) B.repr (by decide +kernel) (pa_cons (pe_call GR r6 (by rfl) DR.mg DR.fn.kp DR.bi .nil pass0 (pa_cons (pv 1) (pa_cons (pv 4) (pa_cons (pv 3) pa_nil)))) pa_nil)) (pe_callB (call_reprT gd hu) (by rfl) B.repr (by decide +kernel) (pa_cons (pv 9) pa_nil)) (nomark _))))) (pss_one (ps_ret pe_bl)) pss_nil)
      (pss_cons (ps_for PassesOwn.never rfl (pi_list (pv 7)) (pg_name (i := 10) scRR.nd rfl (Or.inr rfl))
        (pss_cons (ps_setLc (i := 11) (own := [("_law_s", 12)]) (g := gName 12) rfl scRR.nd rfl rfl (by rfl) (pi_range1 (by rfl) B.range (pa_cons (pe_op op_mul pe_int (pv 3)) pa_nil)) (blkOk_by (N := nRR) (sc := defScope sRingsRight) (by decide +kernel)) (fun _ _ _ _ _ => pg_name (i := 12) scRR.nd rfl (Or.inl rfl))
            (fun _ _ _ _ _ => pts_one (pt_val (pe_call GM r1 (by rfl) DM.mg DM.fn.kp DM.bi .nil pass0 (pa_cons (pv 0) (pa_cons (pv 10) (pa_cons (pv 12) pa_nil)))))) (fun _ _ _ _ _ => pv 12))
        (pss_cons (ps_if (pt_cmpR (op_neD hr.units) (pe_call GA r3 (by rfl) DA.mg DA.fn.kp DA.bi .nil pass0 (pa_cons (pv 1) (pa_cons (pv 10) pa_nil))) (pe_tupleOf (by rfl) B.tuple (pv 11)) (nomark _)) (pss_one (ps_ret pe_bl)) pss_nil)
        (pss_one (ps_for PassesOwn.never rfl (pi_list (pv 11)) (pg_name (i := 12) scRR.nd rfl (Or.inl rfl))
          (pss_cons (ps_set (i := 13) scRR.nd rfl (Or.inl rfl) (pe_call G1 r1 (by rfl) D1.mg D1.fn.kp D1.bi .nil pass0 (pa_cons (pv 6) (pa_cons (pv 10) (pa_cons (pv 12) pa_nil)))))
          (pss_cons (ps_set (i := 14) scRR.nd rfl (Or.inl rfl) (pe_call GV r1 (by rfl) DV.mg DV.fn.kp DV.bi .nil pass0 (pa_cons (pv 10) (pa_cons (pv 12) (pa_cons (pe_ix ix_list (pe_lst (pa_cons (pe_op op_add (pe_op op_fdiv (pv 3) pe_int) pe_int) (pa_cons (pe_op op_fdiv (pe_op op_add (pv 3) pe_int) pe_int) pa_nil))) (pe_op op_mod (pv 13) pe_int) (fun _ _ => rfl)) pa_nil)))))
          (pss_one (ps_dput hu1 (pv 8) (pv 13) (pe_callB (cr_min2T rfl hu1) (by rfl) B.min (by decide +kernel) (pa_cons (pe_dget2 hu1 (pv 8) (pv 13) (pv 14) ⟨by rfl, by rfl, by rfl, by rfl⟩) (pa_cons (pv 14) pa_nil))) rfl)))))))))
      (pss_cons (ps_set (i := 15) scRR.nd rfl (Or.inr rfl) (pe_call GC r7 (by rfl) DC.mg DC.fn.kp DC.bi .nil pass0 (pa_cons (pv 1) (pa_cons (pv 4) pa_nil))))
      (pss_cons (ps_if (pt_not (pt_val (pe_callB (cr_all rfl) (by rfl) B.all (by decide +kernel) (pa_cons (pe_lock (pe_lc (own := [("_law_first", 13)]) (g := gName 13) (tt := tYes) rfl scRR.nd (pi_keys (pv 8)) (blkOk_by (N := nRR) (sc := defScope sRingsRight) (by decide +kernel)) (fun _ _ _ _ _ => pg_name (i := 13) scRR.nd rfl (Or.inl rfl)) (fun _ _ _ _ _ => pts_nil)
          (fun _ _ _ _ _ => pe_cmpR (op_inTIK (K := K) rfl hu) (pv 13) (pv 15) (by rfl)))) pa_nil)))) (pss_one (ps_ret pe_bl)) pss_nil)
      (pss_cons (ps_for PassesOwn.never rfl (pi_tup (pv 15)) (pg_name (i := 13) scRR.nd rfl (Or.inl rfl))
        (pss_cons (ps_if (pt_cmpR op_ne (pe_call GS hr (by rfl) DS.mg DS.fn.kp DS.bi .nil pass0 (pa_cons (pv 1) (pa_cons (pv 4) (pa_cons (pv 13) (pa_cons (pv 3) pa_nil))))) (pe_cmp (pc_din hu1 (pv 13) (pv 8))) (nomark _)) (pss_one (ps_ret pe_bl)) pss_nil)
        (pss_one (ps_if (pt_cmpR op_ne (pe_callB (call_reprT gd hu) (by rfl) B.repr (by decide +kernel) (pa_cons (pe_call GL hr (by rfl) DL.mg DL.fn.kp DL.bi .nil pass0 (pa_cons (pv 1) (pa_cons (pv 4) (pa_cons (pv 13) (pa_cons (pv 3) pa_nil))))) pa_nil)) (pe_callB (call_reprT gd hu) (by rfl) B.repr (by decide +kernel) (pa_cons (pe_dget1 hu1 (pv 8) (pv 13) ⟨by rfl, by rfl, by rfl, by rfl⟩) pa_nil)) (nomark _)) (pss_one (ps_ret pe_bl)) pss_nil))))
      (pss_one (ps_ret pe_bl)))))))))), ?_⟩
    have O0 := O
    obtain ⟨u, c, o1, o2, o3, M, S⟩ := O0
    have h8 := M.few
    have hP : ∀ q ∈ ps, Pr (ns.length : Int) q := fun q hq => S.pair q hq
    have hpm := List.mem_of_getElem? gp
    have lp := part_len8 h8 hpm
    have rd : ∀ {r1 r2 : List Int}, r1 = r2 → decide (V.str (RV.dI r1).shown = V.str (RV.dI r2).shown) = true := fun e => by rw [e]; exact decide_eq_true rfl
    refine ⟨.ref pl, rfl, pl, _, rfl, tupNew hpl, rfl, _, _, rfl, _, _, rfl, _, _, rfl, rfl, ?_⟩
    refine ⟨.ref R, rfl, .ref a, rfl, .int (n : Int), rfl, R, a, n, ns, p, ps, rfl, O, hA, lp, n1, n9, lpn, fun H1 lr rs s1 elr ers hrs d nd => ⟨_, _, rfl, ?_⟩⟩
    dsimp only
    have sd := same_upd (o := .dK []) nd
    have s02 := s1.trans sd
    have elr2 := sd _ _ elr
    have hrs2 : ∀ k ∈ rs, SqT K (upd H1 d (.dK [])) k.1 (k.2.map V.int) := fun k hk => sqT_same sd (hrs k hk)
    have ed2 : (upd H1 d (.dK [])) d = some (.dK []) := upd_same
    have ndH : H d = none := s1.free nd
    generalize upd H1 d (.dK []) = H2 at s02 elr2 hrs2 ed2 ⊢
    -- how many, a size or not
    refine ⟨.ref r, rfl, .int (i : Int), rfl, .int (n : Int), rfl, r, i, n, ns, p, ps, rfl, Rr.same s02, M, S, gp, n1, by omega, fun H3 s3 => ?_⟩
    have cnt := rings_count hP S.nd (part_is hpm) (n - 1)
    rw [show n - 1 + 1 = n by omega] at cnt
    refine ⟨.ref lr, rfl, lr, _, rfl, .inl (lstNew (s3 _ _ elr2)), rfl, _, rfl, ?_⟩
    rw [List.length_map, ← List.length_map (f := (·.2)) (as := rs), ers, cnt, decide_eq_true rfl]
    refine iteF ?_
    refine ⟨.ref r, rfl, .int (i : Int), rfl, .int (n : Int), rfl, r, i, n, ns, p, ps, rfl, Rr.same (s02.trans s3), M, S, gp, n1, fun H4 s4 => ?_⟩
    have s24 := s3.trans s4
    refine ⟨.ref lr, rfl, Nat.zero_le _, fun Z nZ => ⟨.list ((rs.map fun q : Addr × List Int => q.2).map RV.dI), .list (([] : List (List Int)).map RV.dI), .lst (lstNew ((s24.trans (same_upd nZ)) _ _ elr2)) (dpTs rs fun q hq => sqT_same (s24.trans (same_upd nZ)) (hrs2 q hq)), .lst (lstNew upd_same) .nil, shapedLs _, shapedLs [], rfl, _, rfl, ?_⟩⟩
    have ra := rings_any S hpm n1
    rw [← ers] at ra
    rw [eqv_nil, ra, decide_eq_true rfl]
    refine iteF ?_
    have s25 := s24.trans (same_upd (o := .lst []) nZ)
    generalize upd H4 Z (.lst []) = H5 at s25 ⊢
    have fr := first_ring S hpm (n - 1)
    rw [← ers, show n - 1 + 1 = n by omega] at fr
    have hrc : rs = [] ∨ ∃ (z0 : Addr × List Int) (rest : List (Addr × List Int)), rs = z0 :: rest := by
      cases rs with
      | nil => exact .inl rfl
      | cons z0 rest => exact .inr ⟨z0, rest, rfl⟩
    unfold tNext
    dsimp only
    refine seq_mid (fun σ H' => ∃ v9 : V, σ = [some (.ref R), some (.ref r), some (.ref pl), some (.int (n : Int)), some (.int (i : Int)), some (.ref a), some (.ref kn), some (.ref lr), some (.ref d), some v9, none, none, none, none, none, none] ∧ Same H2 H' ∧ ((rs = [] ∧ v9 = .non) ∨ ∃ (z0 : Addr × List Int) (rest : List (Addr × List Int)), rs = z0 :: rest ∧ v9 = .ref z0.1)) (fun σ H6 h => ?_) (fun tail => ?_)
    rotate_left
    · refine ⟨.ref lr, rfl, Nat.zero_le _, fun Z2 nZ2 => ⟨.list ((rs.map fun q : Addr × List Int => q.2).map RV.dI), .list (([] : List (List Int)).map RV.dI), .lst (lstNew ((s25.trans (same_upd nZ2)) _ _ elr2)) (dpTs rs fun q hq => sqT_same (s25.trans (same_upd nZ2)) (hrs2 q hq)), .lst (lstNew upd_same) .nil, shapedLs _, shapedLs [], _, rfl, ?_⟩⟩
      rw [eqv_nil]
      have s26 := s25.trans (same_upd (o := .lst []) nZ2)
      rcases hrc with e | ⟨z0, rest, e⟩
      · rw [decide_eq_true (by rw [e]; rfl)]
        exact iteF (tail _ _ ⟨.non, rfl, s26, .inl ⟨e, rfl⟩⟩)
      · rw [decide_eq_false (by rw [e]; simp)]
        refine iteT ⟨.ref lr, rfl, lr, _, 0, .ref z0.1, rfl, rfl, lstNew (s26 _ _ elr2), (by rw [e]; exact atI_nat (j := 0) rfl), ?_⟩
        exact tail _ _ ⟨.ref z0.1, rfl, s26, .inr ⟨z0, rest, e, rfl⟩⟩
    obtain ⟨v9, rfl, s6, hv9⟩ := h
    refine seq_mid (fun σ H' => ∃ v9 : V, σ = [some (.ref R), some (.ref r), some (.ref pl), some (.int (n : Int)), some (.int (i : Int)), some (.ref a), some (.ref kn), some (.ref lr), some (.ref d), some v9, none, none, none, none, none, none] ∧ Same H2 H') (fun σ H7 h => ?_) (fun tail => ?_)
    rotate_left
    · have tail2 : ∀ (σ : L2.St) (H' : Hp) (v : V), σ = [some (.ref R), some (.ref r), some (.ref pl), some (.int (n : Int)), some (.int (i : Int)), some (.ref a), some (.ref kn), some (.ref lr), some (.ref d), some v, none, none, none, none, none, none] → Same H2 H' → _ := fun σ H' v e s' => tail σ H' ⟨v, e, s'⟩
      -- among the sizes, and the least
      refine ⟨.int (n : Int), rfl, .ref r, rfl, .int (i : Int), rfl, .int (n : Int), rfl, r, i, n, ns, p, ps, rfl, Rr.same (s02.trans s6), M, S, gp, by omega, fun H7 t7 s7 h7 => ?_⟩
      have s27 := s6.trans s7
      refine ⟨t7, (n : Int), _, rfl, rfl, h7, ?_⟩
      refine ⟨.ref lr, rfl, Nat.zero_le _, fun Z nZ => ⟨.list ((rs.map fun q : Addr × List Int => q.2).map RV.dI), .list (([] : List (List Int)).map RV.dI), .lst (lstNew ((s27.trans (same_upd nZ)) _ _ elr2)) (dpTs rs fun q hq => sqT_same (s27.trans (same_upd nZ)) (hrs2 q hq)), .lst (lstNew upd_same) .nil, shapedLs _, shapedLs [], rfl, _, rfl, ?_⟩⟩
      have isz : decide ((n : Int) ∈ (fromN 1 n).filter (isZ ps p)) = p.any (fB (lk (behindOf ps) n)) := by
        rw [← isZ_nat, Bool.eq_iff_iff, decide_eq_true_iff, List.mem_filter, mem_fromN]
        exact ⟨fun h => h.2, fun h => ⟨by omega, h⟩⟩
      rw [eqv_nil, isz, ra, decide_eq_true rfl]
      refine iteF ?_
      have s28 := s27.trans (same_upd (o := .lst []) nZ)
      generalize upd H7 Z (.lst []) = H8 at s28 ⊢
      refine ⟨.ref r, rfl, .int (i : Int), rfl, .int (n : Int), rfl, r, i, n, ns, p, ps, rfl, Rr.same (s02.trans s28), M, S, gp, n1, by omega, fun H9 s9 hno => .inr ⟨rfl, ?_⟩, fun H9 t9 l9 s9 hyes h9 => .inl ⟨t9, l9, rfl, h9, hyes.shows M S hpm (by omega), ?_⟩⟩
      · rcases hv9 with ⟨e, rfl⟩ | ⟨z0, rest, e, rfl⟩
        · refine ⟨.non, rfl, .inr ⟨rfl, rfl, _, rfl, ?_⟩⟩
          rw [decide_eq_true rfl]
          exact iteF (tail2 _ H9 .non rfl (s28.trans s9))
        · have := fr.2 z0.2 (rest.map fun q : Addr × List Int => q.2) (by rw [e]; rfl)
          exact (this.not hno).elim
      · rcases hv9 with ⟨e, rfl⟩ | ⟨z0, rest, e, rfl⟩
        · exact (hyes.not (fr.1 (by rw [e]; rfl))).elim
        · have e0 := hyes.uniq (fr.2 z0.2 (rest.map fun q : Addr × List Int => q.2) (by rw [e]; rfl))
          have hz0 : z0 ∈ rs := by rw [e]; exact List.mem_cons_self
          refine ⟨.ref z0.1, rfl, .inl ⟨z0.1, z0.2, rfl, sqT_same (s28.trans s9) (hrs2 z0 hz0), by rw [← e0]; exact hyes.shows M S hpm (by omega), rfl, _, rfl, ?_⟩⟩
          rw [rd e0]
          exact iteF (tail2 _ H9 (.ref z0.1) rfl (s28.trans s9))
    obtain ⟨v9', rfl, s7⟩ := h
    clear hv9 s6
    have s07 := s02.trans s7
    have elr7 := s7 _ _ elr2
    have ed7 := s7 _ _ ed2
    have hrs7 : ∀ k ∈ rs, SqT K H7 k.1 (k.2.map V.int) := fun k hk => sqT_same s7 (hrs2 k hk)
    have hlr : lr ≠ d := fun z => by rw [z, ed7] at elr7; cases elr7
    have hring : ∀ q ∈ rs, q.2.length = n ∧ (∀ x ∈ q.2, x ∈ p) ∧ ∀ i : Int, [at_ q.2 i, at_ q.2 (i + 1)] ∈ ps := fun q hq => by
      obtain ⟨a1, a2, a3⟩ := ring_step hP (by rw [← ers]; exact List.mem_map_of_mem hq : q.2 ∈ (rowsN ps p (n - 1)).filter fun r => decide ([lst0 r, hd0 r] ∈ ps))
      exact ⟨by omega, a2, a3⟩
    have lrs : rs.length ≤ 300 := by
      rw [← List.length_map (f := (·.2)), ers]
      refine Nat.le_trans (List.length_filter_le _ _) (Nat.le_trans (rows_len _) ?_)
      rw [show n - 1 + 1 = n by omega]; exact lpn
    refine ⟨.ref lr, rfl, lr, rfl, ⟨_, lstNew elr7⟩, ?_⟩
    refine for_list (K := K) (a := lr) (xs := rs.map fun q => V.ref q.1) (fun j σ H' => ∃ (y10 y11 y12 y13 y14 : Option V) (kvs : List (L2.Key × V)), σ = [some (.ref R), some (.ref r), some (.ref pl), some (.int (n : Int)), some (.int (i : Int)), some (.ref a), some (.ref kn), some (.ref lr), some (.ref d), some v9', y10, y11, y12, y13, y14, none] ∧ But d H7 H' ∧ H' d = some (.dK kvs) ∧ kvs.length ≤ 18 * j ∧ HD K H' kvs (fun z => ((rs.map (·.2)).take j).flatMap (hvs ns ps z n)))
      ⟨_, _, _, _, _, [], rfl, But.refl d H7, ed7, Nat.zero_le _, fun z => .inl ⟨rfl, rfl⟩, fun _ y => nomatch y⟩ (fun j σ H' _ h => ?_) (fun j x σ H8 hx h => ?_) (fun σ H8 h => ?_)
    · obtain ⟨_, _, _, _, _, _, _, b', _⟩ := h
      exact lstNew (b' _ _ elr7 hlr)
    · obtain ⟨y10, y11, y12, y13, y14, kvs, rfl, b8, ed8, l8, hd8⟩ := h
      obtain ⟨qq, gq, rfl⟩ := map_at hx
      have hqm := List.mem_of_getElem? gq
      have hj : j < rs.length := (List.getElem?_eq_some_iff.mp gq).1
      have gq2 : (rs.map (·.2))[j]? = some qq.2 := by rw [List.getElem?_map, gq]; rfl
      obtain ⟨lq, inp, st⟩ := hring qq hqm
      have inq : ∀ m ∈ qq.2, 0 ≤ m ∧ m < (ns.length : Int) := fun m hm => part_bd hpm (inp m hm)
      have s08 := same_but s07 ndH b8
      have hq8 := sqT_butD ed7 b8 (hrs7 qq hqm)
      -- due
      refine ⟨.int (n : Int), rfl, 2, _, rfl, rfl, .inl ⟨by decide, by decide⟩, _, rfl, by omega, by omega, fun D nD => ?_⟩
      rw [show (2 * (n : Int)).toNat = 2 * n by omega]
      refine lc_filtR (f := mirB ns qq.2) (by omega) nD (fun x x0 x1 H' s' A' B' kk => ?_) (fun x H' Q' k => ⟨.int x, rfl, k⟩) fun H9 s9 e9 => ?_
      · exact ⟨.ref R, rfl, .ref qq.1, rfl, .int x, rfl, R, qq.1, x, ns, qq.2, ps, rfl, O.same (s08.trans s'), sqT_same s' hq8, inq, by omega, by omega, fun H3 s3 => ⟨_, rfl, kk H3 s3⟩⟩
      -- axes
      refine ⟨.ref r, rfl, .ref qq.1, rfl, r, qq.1, ns, qq.2, ps, rfl, Rr.same (s08.trans s9), sqT_same s9 hq8, inq, by omega, by omega, fun H10 ta s10 hta => ?_⟩
      refine ⟨.ref D, rfl, .inl ⟨D, _, rfl, lstNew (s10 _ _ e9), fun tb ntb => ?_⟩⟩
      have stb := same_upd (o := .tup (((upN (2 * n)).filter (mirB ns qq.2)).map V.int)) ntb
      refine ⟨RV.dI (axesI ns qq.2), RV.dI ((upN (2 * n)).filter (mirB ns qq.2)), dpT (sqT_same stb hta), dpT (tupNew upd_same), shapedI _, shapedI _, _, rfl, ?_⟩
      rw [show PyData.eqv (RV.dI (axesI ns qq.2)) (RV.dI ((upN (2 * n)).filter (mirB ns qq.2))) = decide (axesI ns qq.2 = (upN (2 * n)).filter (mirB ns qq.2)) by simp only [RV.dI, PyData.eqv, eqv_ints], axes_is (by omega), lq, decide_eq_true rfl]
      refine iteF ?_
      have s811 := (s9.trans s10).trans stb
      have e11 := (s10.trans stb) _ _ e9
      have ed11 := s811 _ _ ed8
      have hd11 := hd8.same s811
      have hq11 := sqT_same s811 hq8
      have s011 := s08.trans s811
      have b711 := b8.trans (But.of (p := d) s811)
      generalize upd H10 tb (.tup (((upN (2 * n)).filter (mirB ns qq.2)).map V.int)) = H11 at e11 ed11 hd11 hq11 s011 b711 ⊢
      have hDd : D ≠ d := fun z => by rw [z, ed11] at e11; cases e11
      have hdue : ∀ s ∈ (upN (2 * n)).filter (mirB ns qq.2), 0 ≤ s ∧ s < 2 * (n : Int) := fun s hs => by
        have := mem_upN.mp (List.mem_filter.mp hs).1
        omega
      have ldue : ((upN (2 * n)).filter (mirB ns qq.2)).length ≤ 18 := Nat.le_trans (List.length_filter_le _ _) (by rw [upN_len]; omega)
      have hvd : ∀ z, hvs ns ps z n qq.2 = (((upN (2 * n)).filter (mirB ns qq.2)).filter fun s => decide (2 * ((clsM ps ns.length (at_ qq.2 (s / 2)) : Nat) : Int) + s % 2 = z)).map fun s => halfOf qq.2 s (hSteps z n + 1) := fun z => hvs_due ns ps z n qq.2
      generalize (upN (2 * n)).filter (mirB ns qq.2) = due at e11 hdue ldue hvd
      refine ⟨.ref D, rfl, D, rfl, ⟨_, lstNew e11⟩, ?_⟩
      refine for_list (K := K) (a := D) (xs := due.map V.int) (fun j2 σ H' => ∃ (y12 y13 y14 : Option V) (kvs : List (L2.Key × V)), σ = [some (.ref R), some (.ref r), some (.ref pl), some (.int (n : Int)), some (.int (i : Int)), some (.ref a), some (.ref kn), some (.ref lr), some (.ref d), some v9', some (.ref qq.1), some (.ref D), y12, y13, y14, none] ∧ But d H11 H' ∧ H' d = some (.dK kvs) ∧ kvs.length ≤ 18 * j + j2 ∧ HD K H' kvs (fun z => ((rs.map (·.2)).take j).flatMap (hvs ns ps z n) ++ ((due.take j2).filter fun s => decide (2 * ((clsM ps ns.length (at_ qq.2 (s / 2)) : Nat) : Int) + s % 2 = z)).map fun s => halfOf qq.2 s (hSteps z n + 1)))
        ⟨_, _, _, kvs, rfl, But.refl d H11, ed11, by omega, hd11.congr fun z => by simp⟩ (fun j2 σ H' _ h => ?_) (fun j2 x σ H12 hx2 h => ?_) (fun σ H12 h => ?_)
      · obtain ⟨_, _, _, _, _, b', _⟩ := h
        exact lstNew (b' _ _ e11 hDd)
      · obtain ⟨y12, y13, y14, kv2, rfl, b12, ed12, l12, hd12⟩ := h
        obtain ⟨s0, gs, rfl⟩ := map_at hx2
        have hs0 := hdue s0 (List.mem_of_getElem? gs)
        have hj2 : j2 < due.length := (List.getElem?_eq_some_iff.mp gs).1
        have s012 := same_but s011 ndH b12
        have hq12 := sqT_butD ed11 b12 hq11
        have gm : qq.2[(s0 / 2).toNat]? = some (at_ qq.2 (s0 / 2)) := by
          have hl : (s0 / 2).toNat < qq.2.length := by omega
          rw [List.getElem?_eq_getElem hl]
          unfold at_
          rw [Int.emod_eq_of_lt (by omega) (by omega)]
          simp [List.getD, hl]
        have hm : at_ qq.2 (s0 / 2) ∈ p := inp _ (at_mem (by omega) _)
        refine ⟨.ref kn, rfl, .ref qq.1, rfl, .int s0, rfl, kn, qq.1, s0, _, ns.length, p, qq.2, ps, rfl, hK.same s012, hpm, pos, hq12, hs0.1, gm, hm, ?_⟩
        generalize ez : 2 * ((clsM ps ns.length (at_ qq.2 (s0 / 2)) : Nat) : Int) + s0 % 2 = z0
        obtain ⟨g0, e0, hg0, g01, e01, hn, hne⟩ := hs_split z0 n1
        have em : ((hSteps z0 n + 1 : Nat) : Int) = if g0 = 0 then (n : Int) / 2 + 1 else ((n : Int) + 1) / 2 := by
          split <;> omega
        have le := hs_le z0 n
        refine ⟨.ref qq.1, rfl, .int s0, rfl, .int (n : Int), rfl, _, 2, rfl, rfl, ⟨by decide, by decide⟩, _, 1, rfl, rfl, .int (n : Int), rfl, _, 1, rfl, rfl, _, 2, rfl, rfl, ⟨by decide, by decide⟩, two, fun L0 nL0 => ?_⟩
        have sL0 := same_upd (o := .lst [.int ((n : Int) / 2 + 1), .int (((n : Int) + 1) / 2)]) nL0
        refine ⟨.int z0, rfl, z0, 2, rfl, rfl, (by show (0 : Int) < 2; decide), L0, _, _, .int ((hSteps z0 n + 1 : Nat) : Int), rfl, rfl, lstNew upd_same, ?_, qq.1, s0, hSteps z0 n + 1, qq.2, rfl, sqT_same sL0 hq12, by omega, by omega, by omega, fun H13 t13 s13 nt ht => ?_⟩
        · rw [em]
          show atI _ (z0 % 2) = _
          rw [hg0]
          rcases g01 with y | y
          · rw [y, if_pos rfl]; exact atI_nat (j := 0) rfl
          · rw [y, if_neg (by decide)]; exact atI_nat (j := 1) rfl
        have s1213 := sL0.trans s13
        have ed13 := s1213 _ _ ed12
        obtain ⟨a0, h0, ea, ha0, hput⟩ := (hd12.same s1213).put ed13 (z0 := z0) ht
        refine ⟨.ref d, rfl, d, rfl, .inl ⟨kv2, .inl ed13⟩, .int z0, rfl, .ref t13, rfl, _, DGet.k (k := Sum.inl z0) ed13, ?_⟩
        rw [ea]
        refine ⟨.ref t13, rfl, a0, t13, h0, _, rfl, ha0, ht, ?_⟩
        refine ⟨.ref d, rfl, .int z0, rfl, d, _, rfl, DPut.k (k := Sum.inl z0) ed13 (few7 (by omega)), ?_⟩
        have lput := length_putK kv2 (Sum.inl z0 : L2.Key) (.ref (if HT.lexLt (halfOf qq.2 s0 (hSteps z0 n + 1)) h0 = true then t13 else a0))
        refine ⟨_, _, _, _, rfl, fun b' o' zz ne => ?_, upd_same, by omega, (hput _ rfl).congr fun z => ?_⟩
        · rw [upd_ne ne]; exact s1213 _ _ (b12 b' o' zz ne)
        · have nxt := take_filt (c := fun s => decide (2 * ((clsM ps ns.length (at_ qq.2 (s / 2)) : Nat) : Int) + s % 2 = z)) gs
          rw [nxt, List.map_append, List.append_assoc]
          congr 2
          by_cases e : z = z0
          · rw [if_pos e, if_pos (decide_eq_true (by rw [ez, e])), e]; rfl
          · rw [if_neg e, if_neg (by rw [decide_eq_false (by rw [ez]; exact fun y => e y.symm)]; decide)]; rfl
      · obtain ⟨y12, y13, y14, kv2, rfl, b12, ed12, l12, hd12⟩ := h
        rw [List.length_map] at l12
        refine ⟨_, _, _, _, _, kv2, rfl, b711.trans b12, ed12, by omega, hd12.congr fun z => ?_⟩
        rw [List.length_map, List.take_of_length_le (l := due) (Nat.le_refl _), flat_next gq2, hvd z]
    obtain ⟨y10, y11, y12, y13, y14, kvs, rfl, b8, ed8, l8, hd8⟩ := h
    rw [List.length_map] at l8
    have hd8 := hd8.congr (Hs' := fun z => ((rowsN ps p (n - 1)).filter fun r => decide ([lst0 r, hd0 r] ∈ ps)).flatMap (hvs ns ps z n)) fun z => by
      rw [List.length_map, List.take_of_length_le (by rw [List.length_map]; exact Nat.le_refl _), ers]
    have s08 := same_but s07 ndH b8
    -- the axis classes
    refine ⟨.ref r, rfl, .int (i : Int), rfl, r, i, p, ns, ps, rfl, Rr.same s08, M, S, gp, fun H15 th zs s15 hth rise mem lz => ?_⟩
    have ed15 := s15 _ _ ed8
    have hd15 := hd8.same s15
    have s015 := s08.trans s15
    have hax : ∀ z, ((rowsN ps p (n - 1)).filter fun r => decide ([lst0 r, hd0 r] ∈ ps)).flatMap (hvs ns ps z n) ≠ [] → AxC ns ps p z := fun z hz => by
      obtain ⟨h, hh⟩ := List.exists_mem_of_ne_nil _ hz
      obtain ⟨r', hr', hh⟩ := List.mem_flatMap.mp hh
      obtain ⟨lq, inp, st⟩ := ring_step hP hr'
      obtain ⟨s0, hs, _⟩ := List.mem_map.mp hh
      obtain ⟨h1, h2⟩ := List.mem_filter.mp hs
      unfold okH at h2
      rw [Bool.and_eq_true, decide_eq_true_iff] at h2
      have := ring_ax M S hpm (by omega) inp st (s := s0) (by rw [axes_is (by omega)]; exact List.mem_filter.mpr ⟨by rw [show r'.length = n by omega]; exact h1, h2.2⟩)
      rw [← h2.1]; exact this.2.2.2
    refine ⟨d, .dK kvs, ed15, trivial, fun od => ?_⟩
    have efz : (upd H15 d (.frz od (.dK kvs))) d = some (.frz od (.dK kvs)) := upd_same
    have bfz : But d H15 (upd H15 d (.frz od (.dK kvs))) := fun b' o' e' z => by rw [upd_ne z]; exact e'
    generalize upd H15 d (.frz od (.dK kvs)) = H16 at efz bfz ⊢
    refine ⟨.ref d, rfl, d, od, rfl, .inl ⟨kvs, efz, fun D nD => ?_⟩⟩
    have hDd : D ≠ d := fun z => by rw [z, efz] at nD; cases nD
    refine it_keys (fun i' H' => But d H16 H' ∧ H' d = some (.frz od (.dK kvs)) ∧ H' D = some (.lst (List.replicate i' (V.bl true)))) ⟨But.of (same_upd nD), by rw [upd_ne (Ne.symm hDd)]; exact efz, upd_same⟩ (fun i' H' h => h.2.1) (fun i' k v H17 hk h => ?_) fun H17 h => ?_
    · obtain ⟨b17, e17, l17⟩ := h
      obtain ⟨z, hz1, hz2⟩ := hd15.2 (k, v) (List.mem_of_getElem? hk)
      have hz1 : k = Sum.inl z := hz1
      subst hz1
      have hi : i' < kvs.length := (List.getElem?_eq_some_iff.mp hk).1
      refine ⟨by simp [wipe, List.set_set], tt_yes ⟨.int z, rfl, .ref th, rfl, th, z, zs, rfl, rfl, sqT_butD ed15 (bfz.trans b17) hth, ?_⟩⟩
      rw [decide_eq_true ((mem z).mpr (hax z hz2))]
      refine ⟨_, l17, by rw [List.length_replicate]; exact few7 (by omega), fun b' o' e' z => ?_, ?_, ?_⟩
      · rw [upd_ne (ne_of_none e' nD)]; exact b17 b' o' e' z
      · rw [upd_ne (Ne.symm hDd)]; exact e17
      · rw [upd_same, rep_next]
    obtain ⟨b17, e17, l17⟩ := h
    rw [rep_bl] at l17
    refine ⟨e17, D, _, rfl, lstNew (by rw [upd_ne hDd]; exact l17), ?_⟩
    rw [all_true]
    refine ⟨true, rfl, iteF ?_⟩
    have s1518 : Same H15 (upd H17 d (.dK kvs)) := fun b' o' e' => by
      by_cases z : b' = d
      · subst z
        rw [upd_same, ← ed15]; exact e'
      · rw [upd_ne z]; exact (bfz.trans b17) b' o' e' z
    generalize upd H17 d (.dK kvs) = H18 at s1518 ⊢
    have s018 := s015.trans s1518
    have hth18 := sqT_same s1518 hth
    have ed18 := s1518 _ _ ed15
    have hd18 := hd15.same s1518
    refine ⟨.ref th, rfl, th, rfl, ⟨_, hth18⟩, ?_⟩
    refine for_tup (K := K) (a := th) (xs := zs.map V.int) (fun j σ H' => ∃ (y13 : Option V), σ = [some (.ref R), some (.ref r), some (.ref pl), some (.int (n : Int)), some (.int (i : Int)), some (.ref a), some (.ref kn), some (.ref lr), some (.ref d), some v9', y10, y11, y12, y13, y14, some (.ref th)] ∧ Same H18 H') ⟨_, rfl, Same.refl H18⟩ (fun j σ H' _ h => ?_) (fun j x σ H19 hx h => ?_) (fun σ H19 h => ?_)
    · obtain ⟨_, _, s'⟩ := h
      exact sqT_same s' hth18
    · obtain ⟨y13', rfl, s19⟩ := h
      obtain ⟨z, gz, rfl⟩ := map_at hx
      have ax := (mem z).mp (List.mem_of_getElem? gz)
      have own := ax.1
      have s019 := s018.trans s19
      refine ⟨.ref r, rfl, .int (i : Int), rfl, .int z, rfl, .int (n : Int), rfl, r, i, n, z, p, ns, ps, rfl, Rr.same s019, M, S, gp, n1, fun H20 b20 s20 hb => ?_⟩
      have ed20 := (s19.trans s20) _ _ ed18
      refine ⟨.int z, rfl, .ref d, rfl, d, _, rfl, DGet.k (k := Sum.inl z) ed20, rfl, _, rfl, ?_⟩
      have some_iff : (valV kvs (Sum.inl z : L2.Key)).isSome = b20 := by
        rw [Bool.eq_iff_iff, hb, ms_all M S hpm own n1]
        rcases hd18.1 z with ⟨h1, h2⟩ | ⟨t, h, h1, h2, h3, h4⟩
        · rw [h1]
          refine ⟨fun y => (by cases y), fun ⟨r', a1, s0, a2, a3⟩ => ?_⟩
          have : halfOf r' s0 (hSteps z n + 1) ∈ ((rowsN ps p (n - 1)).filter fun r => decide ([lst0 r, hd0 r] ∈ ps)).flatMap (hvs ns ps z n) := List.mem_flatMap.mpr ⟨r', a1, List.mem_map.mpr ⟨s0, List.mem_filter.mpr ⟨a2, a3⟩, rfl⟩⟩
          rw [show ((rowsN ps p (n - 1)).filter fun r => decide ([lst0 r, hd0 r] ∈ ps)).flatMap (hvs ns ps z n) = [] from h2] at this
          cases this
        · rw [h1]
          refine ⟨fun _ => ?_, fun _ => rfl⟩
          obtain ⟨r', a1, a2⟩ := List.mem_flatMap.mp h3
          obtain ⟨s0, a3, _⟩ := List.mem_map.mp a2
          exact ⟨r', a1, s0, (List.mem_filter.mp a3).1, (List.mem_filter.mp a3).2⟩
      rw [some_iff, decide_eq_true rfl]
      refine iteF ?_
      have s1820 := s19.trans s20
      refine ⟨.ref r, rfl, .int (i : Int), rfl, .int z, rfl, .int (n : Int), rfl, r, i, n, z, p, ns, ps, rfl, Rr.same (s018.trans s1820), M, S, gp, n1, by omega, fun H21 s21 hno => .inr ⟨rfl, ?_⟩, fun H21 t21 g21 s21 hyes h21 => .inl ⟨t21, g21, rfl, h21, hyes.shows M S hpm (by omega), ?_⟩⟩
      · have ed21 := (s1820.trans s21) _ _ ed18
        refine ⟨.ref d, rfl, d, rfl, .inl ⟨kvs, .inl ed21⟩, .int z, rfl, _, DGet.k (k := Sum.inl z) ed21, ?_⟩
        rcases hd18.1 z with ⟨h1, h2⟩ | ⟨t, h, h1, h2, h3, h4⟩
        · rw [h1]
          refine .inr ⟨rfl, rfl, _, rfl, ?_⟩
          rw [decide_eq_true rfl]
          exact iteF ⟨_, rfl, s1820.trans s21⟩
        · exact ((all_least M S hpm own n1 h3 h4).not hno).elim
      · have ed21 := (s1820.trans s21) _ _ ed18
        refine ⟨.ref d, rfl, d, rfl, .inl ⟨kvs, .inl ed21⟩, .int z, rfl, _, DGet.k (k := Sum.inl z) ed21, ?_⟩
        rcases hd18.1 z with ⟨h1, h2⟩ | ⟨t, h, h1, h2, h3, h4⟩
        · exact (hyes.not (all_none M S hpm own n1 h2)).elim
        · rw [h1]
          have lh := all_least M S hpm own n1 h3 h4
          refine .inl ⟨t, h, rfl, sqT_same (s1820.trans s21) h2, lh.shows M S hpm (by omega), rfl, _, rfl, ?_⟩
          rw [rd (hyes.uniq lh)]
          exact iteF ⟨_, rfl, s1820.trans s21⟩
    · obtain ⟨y13', rfl, s19⟩ := h
      exact q H19 (s018.trans s19)
end
end K75
set_option maxHeartbeats 4000000
namespace K75
open PySem PySem.Spec PyProof.Rows L2 RV
theorem Known.pail {H H' : Hp} {t p : Addr} {k : Nat} {ps : List (List Int)} {N : Nat} {q : List Int} (h : Known H t ps N q) (hp : PailAt H p k) (b : But p H H') : Known H' t ps N q := by
  obtain ⟨d, kvs, h1, h2, h3⟩ := h
  obtain ⟨x, y, e, _⟩ := hp
  exact ⟨d, kvs, b _ _ h1 (fun z => by rw [z, e] at h1; cases h1), b _ _ h2 (fun z => by rw [z, e] at h2; cases h2), h3⟩
section
variable {P : Program} {w : World} {K : PySem.W.Frag} {mg : Str → Option Value} {base : Heap}
/-! ### law -/
abbrev nLaw : List Str := ["_law_script", "_law_k", "_law_pot", "_law_turn", "_law_own", "_law_rule_here", "_law_number", "_law_part", "_law_place", "_law_n"]
theorem scLaw : FnScope nLaw ["_law_script"] (defScope sLaw) := ⟨rfl, rfl, rfl, by decide +kernel, rfl, by decide +kernel, by decide +kernel⟩
def spLaw (K : PySem.W.Frag) : Sp := fun vs H Q _ => ∃ (a : Addr) (ns : List Int), vs = [.ref a] ∧ SqL K H a (ns.map V.int) ∧ ns.length ≤ 63 ∧ ∀ H', Q (.bl true) H'
theorem ok_law {f C fI fM fL fC fK fN fU fT fH fR : Addr} {fd dI dM dL dC dK dN dU dT dH dR : FuncData} (F : Fun K "law" "law" sLaw f fd) (T : Txt K mg C) (B : Bare mg)
    (Mm : Mk K C fI) (bI : Binds K dI ["self", "mirrors", "steps"] []) (GI : FnOk P w K mg base CX0 6 fI dI ["self", "mirrors", "steps"] (spInit K C))
    (DM : DefAt K mg "_law_made" sMade ["_law_own"] fM dM) (DL : DefAt K mg "_law_parts" sLParts ["_law_own"] fL dL) (DC : DefAt K mg "_law_come_to" sCome ["_law_steps", "_law_mark"] fC dC)
    (DK : DefAt K mg "_law_classes" sLClasses ["_law_steps", "_law_part"] fK dK) (DN : DefAt K mg "_law_common" sCommon ["_law_one", "_law_other"] fN dN) (DT : DefAt K mg "_law_tuples_of" sTuples ["_law_part", "_law_n"] fT dT)
    (DH : DefAt K mg "_law_hand" sHand ["_law_script", "_law_k"] fH dH) (DU : DefAt K mg "_law_rule" sRule ["_law_pot", "_law_most"] fU dU) (GU : FnOk P w K mg base CX0 5 fU dU ["_law_pot", "_law_most"] (spRule K))
    (DR : DefAt K mg "_law_of_rings_right" sRingsRight ["_law_own", "_law_rule_here", "_law_place", "_law_n"] fR dR) (GR : FnG P w K mg base CX0 9 fR dR ["_law_own", "_law_rule_here", "_law_place", "_law_n"] (spRR K C)) : FnG P w K mg base CX0 10 f fd ["_law_script"] (spLaw K) := by
  have GH : FnOk P w K mg base CX0 1 fH dH ["_law_script", "_law_k"] (spHand K) := ok_hand DH.fn B
  have GM : FnOk P w K mg base CX0 8 fM dM ["_law_own"] (spMade K C) := ok_made DM.fn T Mm bI GI B
  have GL : FnOk P w K mg base CX0 2 fL dL ["_law_own"] (spLParts K) := ok_lparts DL.fn DC B
  have GK : FnOk P w K mg base CX0 2 fK dK ["_law_steps", "_law_part"] (spLC K) := ok_lc DK.fn DN B
  have GT : FnOk P w K mg base CX0 1 fT dT ["_law_part", "_law_n"] (spTuples K) := ok_tuples DT.fn B
  refine okG F scLaw (fun vs H Q E h => ?_) (fun cdv A outer s H vs Q E gd hr h => ?_)
  · obtain ⟨a, ns, rfl, _⟩ := h
    rfl
  · obtain ⟨a, cs, rfl, hS, hlen, q⟩ := h
    have r1 := hr.mono (show 1 ≤ 9 by decide)
    have r2 := hr.mono (show 2 ≤ 9 by decide)
    have r5 := hr.mono (show 5 ≤ 9 by decide)
    have r8 := hr.mono (show 8 ≤ 9 by decide)
    have three : (3 : Nat) ≤ sizeLine := by decide
    refine ⟨_, pss_cons (ps_for PassesOwn.never rfl (pi_range1 (by rfl) B.range (pa_cons (pe_callB (call_max2 rfl) (by rfl) B.max (by decide +kernel) (pa_cons pe_int (pa_cons (pe_callB (call_min2 rfl) (by rfl) B.min (by decide +kernel) (pa_cons pe_int (pa_cons (pe_callB call_len_seq (by rfl) B.len PySem.boot_len (pa_cons (pv 0) pa_nil)) pa_nil))) pa_nil))) pa_nil)) (pg_name (i := 1) scLaw.nd rfl (Or.inl rfl))
        (pss_cons (ps_set (i := 2) scLaw.nd rfl (Or.inl rfl) (pe_call GH r1 (by rfl) DH.mg DH.fn.kp DH.bi .nil pass0 (pa_cons (pv 0) (pa_cons (pv 1) pa_nil))))
        (pss_one (ps_for PassesOwn.never rfl (pi_range1 (by rfl) B.range (pa_cons pe_int pa_nil)) (pg_name (i := 3) scLaw.nd rfl (Or.inl rfl))
          (pss_cons (ps_set (i := 4) scLaw.nd rfl (Or.inl rfl) (pe_call GU r5 (by rfl) DU.mg DU.fn.kp DU.bi .nil pass0 (pa_cons (pv 2) (pa_cons pe_int pa_nil))))
          (pss_cons (ps_set (i := 5) scLaw.nd rfl (Or.inl rfl) (pe_call GM r8 (by rfl) DM.mg DM.fn.kp DM.bi .nil pass0 (pa_cons (pv 4) pa_nil)))
          (pss_one (ps_for PassesOwn.never rfl (pi_enum (by rfl) B.enumerate (pa_cons (pe_call GL r2 (by rfl) DL.mg DL.fn.kp DL.bi .nil pass0 (pa_cons (pv 4) pa_nil)) pa_nil)) (pg_tup rfl (pgs_cons (pg_name (i := 6) scLaw.nd rfl (Or.inl rfl)) (pgs_cons (pg_name (i := 7) scLaw.nd rfl (Or.inr rfl)) pgs_nil)))
            (pss_cons (ps_set (i := 8) scLaw.nd rfl (Or.inl rfl) (pe_tup (pa_cons (pv 6) (pa_cons (pv 7) (pa_cons (pe_call GK r2 (by rfl) DK.mg DK.fn.kp DK.bi .nil pass0 (pa_cons (pe_ix ix_tup (pv 4) pe_int (fun _ _ => rfl)) (pa_cons (pv 7) pa_nil))) pa_nil)))))
            (pss_one (ps_for PassesOwn.never rfl (pi_list (pe_lc (own := [("_law_n", 9)]) (g := gName 9) rfl scLaw.nd (pi_range2 (by rfl) B.range (pa_cons pe_int (pa_cons pe_int pa_nil))) (blkOk_by (N := nLaw) (sc := defScope sLaw) (by decide +kernel)) (fun _ _ _ _ _ => pg_name (i := 9) scLaw.nd rfl (Or.inl rfl))
                (fun _ _ _ _ _ => pts_one (pt_cmpR op_le (pe_call GT r1 (by rfl) DT.mg DT.fn.kp DT.bi .nil pass0 (pa_cons (pv 7) (pa_cons (pv 9) pa_nil))) pe_int (nomark _))) (fun _ _ _ _ _ => pv 9))) (pg_name (i := 9) scLaw.nd rfl (Or.inl rfl))
              (pss_one (ps_if (pt_not (pt_val (pe_callG GR gd hr (by rfl) DR.mg DR.fn.kp DR.bi .nil pass0 (pa_cons (pv 4) (pa_cons (pv 5) (pa_cons (pv 8) (pa_cons (pv 9) pa_nil))))))) (pss_one (ps_ret pe_bl)) pss_nil)))))))))))))
      (pss_one (ps_ret pe_bl)), ?_⟩
    refine ⟨.ref a, rfl, a, _, rfl, .inl hS, 2, _, rfl, 1, _, rfl, ?_⟩
    have vb : ∀ n : Int, 0 ≤ n → n ≤ 63 → 1 ≤ (if (if n < 2 then n else 2) > 1 then (if n < 2 then n else 2) else 1) ∧ (if (if n < 2 then n else 2) > 1 then (if n < 2 then n else 2) else 1) ≤ 2 := fun n _ _ => by
      split <;> split <;> omega
    have vb1 := vb ((cs.map V.int).length : Int) (by omega) (by rw [List.length_map]; omega)
    generalize (if (if ((cs.map V.int).length : Int) < 2 then ((cs.map V.int).length : Int) else 2) > 1 then (if ((cs.map V.int).length : Int) < 2 then ((cs.map V.int).length : Int) else 2) else 1) = nk at vb1 ⊢
    refine ⟨nk, rfl, by omega, by omega, ?_⟩
    refine for_range (lo := 0) (n := nk.toNat) (fun i σ H' => ∃ (y1 y2 y3 y4 y5 y6 y7 y8 y9 : Option V), σ = [some (.ref a), y1, y2, y3, y4, y5, y6, y7, y8, y9] ∧ Same H H') ⟨_, _, _, _, _, _, _, _, _, rfl, Same.refl H⟩ (fun i σ H1 hi h => ?_) (fun σ H1 h => ?_)
    · obtain ⟨y1, y2, y3, y4, y5, y6, y7, y8, y9, rfl, s1⟩ := h
      have e0 : (0 + ((i : Nat) : Int)) = (i : Int) := by omega
      rw [e0]
      refine ⟨.ref a, rfl, .int (i : Int), rfl, a, cs, i, rfl, s1.seq hS, by omega, fun H2 p s2 np hp => ?_⟩
      have npH : H p = none := s1.free np
      have s02 := s1.trans s2
      refine ⟨2, rfl, by decide, by decide, ?_⟩
      refine for_range (lo := 0) (n := 2) (fun i2 σ H' => ∃ (y3 y4 y5 y6 y7 y8 y9 : Option V) (t' : Nat), σ = [some (.ref a), some (.int (i : Int)), some (.ref p), y3, y4, y5, y6, y7, y8, y9] ∧ But p H2 H' ∧ PailAt H' p t' ∧ t' ≤ 300 * i2) ⟨_, _, _, _, _, _, _, 0, rfl, But.refl p H2, hp, by omega⟩ (fun i2 σ H3 hi2 h => ?_) (fun σ H3 h => ?_)
      · obtain ⟨y3, y4, y5, y6, y7, y8, y9, t3, rfl, b3, hp3, ht3⟩ := h
        refine ⟨.ref p, rfl, p, t3, 4, rfl, hp3, by omega, by decide, by decide, fun H4 R t4 ns ps hp4 ht4 b4 O => ?_⟩
        refine ⟨.ref R, rfl, R, ns, ps, rfl, O, fun H5 r s5 Rr => ?_⟩
        refine ⟨.ref R, rfl, R, ns, ps, rfl, O.same s5, fun H6 l s6 nl hL => ?_⟩
        obtain ⟨ks, ek, el, hks⟩ := hL
        have O6 := O.same (s5.trans s6)
        have R6 := Rr.same s6
        have O0 := O6
        obtain ⟨u, c, o1, o2, o3, M, S⟩ := O0
        have h8 := M.few
        have hP : ∀ q ∈ ps, Pr (ns.length : Int) q := fun q hq => S.pair q hq
        refine ⟨l, _, rfl, lstNew el, ?_⟩
        refine for_it (walk_enum (K := K) (a := l) (xs := ks.map fun k => V.ref k.1)) (fun j σ H' => ∃ (y6 y7 y8 y9 : Option V), σ = [some (.ref a), some (.int (i : Int)), some (.ref p), some (.int (0 + (i2 : Int))), some (.ref R), some (.ref r), y6, y7, y8, y9] ∧ Same H6 H')
          ⟨_, _, _, _, rfl, Same.refl H6⟩ (fun j σ H' _ h => ?_) (fun j x σ H7 H8 hx h y => ?_) (fun σ H7 h => ?_)
        · obtain ⟨_, _, _, _, _, s'⟩ := h
          exact lstNew (s' _ _ el)
        · obtain ⟨y6, y7, y8, y9, rfl, s7⟩ := h
          obtain ⟨T0, x1, x2, rfl, nT, rfl, e1, e2⟩ := y
          have e1' : x1 = .int (j : Nat) := (Option.some.inj e1).symm
          subst e1'
          obtain ⟨k, gk, rfl⟩ := map_at e2
          have hkm : k ∈ ks := List.mem_of_getElem? gk
          have gp : (partsOf ps ns.length)[j]? = some k.2 := by rw [← ek, List.getElem?_map, gk]; rfl
          have hpm := List.mem_of_getElem? gp
          have lp := part_len8 h8 hpm
          have sT := same_upd (o := .tup [.int (j : Nat), .ref k.1]) nT
          refine ⟨T0, _, rfl, tupNew upd_same, rfl, _, _, rfl, _, _, rfl, rfl, ?_⟩
          have s8 := s7.trans sT
          generalize upd H7 T0 (.tup [.int (j : Nat), .ref k.1]) = H8 at s8 ⊢
          have hk8 : SqT K H8 k.1 (k.2.map V.int) := tupNew (s8 _ _ (hks k hkm))
          refine ⟨.int (j : Nat), rfl, .ref k.1, rfl, .ref R, rfl, R, _, 1, .ref c, rfl, rfl, tupNew (s8 _ _ o1), rfl, .ref k.1, rfl, c, k.1, ns, k.2, ps, rfl, o3.same s8, M, S, hpm, hk8, fun H9 kw s9 hK per => ⟨three, fun pl npl => ?_⟩⟩
          obtain ⟨hx0', hl0⟩ := part_hd_in hpm
          have hxl : hd0 k.2 ∈ lotOf ps ns.length (hd0 k.2) := by rw [hl0]; exact hx0'
          have rxx := lot_some hxl
          have pos : 0 < perN ps (hd0 k.2) := per.pos rxx
          have spl := same_upd (o := .tup [.int (j : Nat), .ref k.1, .ref kw]) npl
          have s610 := (s8.trans s9).trans spl
          have hk10 := sqT_same (s9.trans spl) hk8
          have hK10 := hK.same spl
          have epl : (upd H9 pl (.tup [.int (j : Nat), .ref k.1, .ref kw])) pl = some (.tup [.int (j : Nat), .ref k.1, .ref kw]) := upd_same
          generalize upd H9 pl (.tup [.int (j : Nat), .ref k.1, .ref kw]) = H10 at s610 hk10 hK10 epl ⊢
          refine ⟨1, 10, rfl, ⟨by decide, by decide, by decide, by decide⟩, fun D2 nD2 => ?_⟩
          refine lc_mapR (lo := 1) (n := 9) (f := fun z => decide ((((min (10 ^ 6) (k.2.length ^ z.toNat) : Nat) : Nat) : Int) ≤ 300)) (h := fun z => z) (by decide) nD2 (fun z hz H' s' A' B' kq => ?_) (fun z hz H' Q' s' _ kq => ⟨.int z, rfl, kq H' (Same.refl H')⟩) fun H11 s11 e11 => ?_
          · have bz := mem_fromN.mp hz
            exact ⟨.ref k.1, rfl, .int z, rfl, k.1, z.toNat, k.2, by rw [Int.toNat_of_nonneg (by omega)]; rfl, sqT_same s' hk10, lp, by omega, _, _, rfl, rfl, _, rfl, kq H' (Same.refl H')⟩
          have hfew : ∀ z ∈ (fromN 1 9).filter (fun z => decide ((((min (10 ^ 6) (k.2.length ^ z.toNat) : Nat) : Nat) : Int) ≤ 300)), (1 ≤ z ∧ z ≤ 9) ∧ k.2.length ^ z.toNat ≤ 300 := fun z hz => by
            obtain ⟨z1, z2⟩ := List.mem_filter.mp hz
            have z3 := of_decide_eq_true z2
            have z4 := mem_fromN.mp z1
            have z5 : (10 ^ 6 : Nat) = 1000000 := rfl
            exact ⟨by omega, by omega⟩
          rw [List.map_id'] at e11
          generalize (fromN 1 9).filter (fun z => decide ((((min (10 ^ 6) (k.2.length ^ z.toNat) : Nat) : Nat) : Int) ≤ 300)) = few at e11 hfew
          refine ⟨D2, rfl, ⟨_, lstNew e11⟩, ?_⟩
          refine for_list (K := K) (a := D2) (xs := few.map V.int) (fun j' σ H' => ∃ (y9 : Option V), σ = [some (.ref a), some (.int (i : Int)), some (.ref p), some (.int (0 + (i2 : Int))), some (.ref R), some (.ref r), some (.int (j : Nat)), some (.ref k.1), some (.ref pl), y9] ∧ Same H11 H') ⟨_, rfl, Same.refl H11⟩ (fun j' σ H' _ h => ?_) (fun j' x σ H12 hx h => ?_) (fun σ H12 h => ?_)
          · obtain ⟨_, _, s'⟩ := h
            exact lstNew (s' _ _ e11)
          · obtain ⟨y9, rfl, s12⟩ := h
            obtain ⟨v, gv, rfl⟩ := map_at hx
            obtain ⟨bv, lv⟩ := hfew v (List.mem_of_getElem? gv)
            have ev : V.int v = .int ((v.toNat : Nat) : Int) := by rw [Int.toNat_of_nonneg (by omega)]
            have s1012 := s11.trans s12
            refine ⟨.ref R, rfl, .ref r, rfl, .ref pl, rfl, .int v, rfl, R, r, pl, k.1, kw, j, v.toNat, ns, k.2, ps, by rw [← ev]; rfl, O6.same (s610.trans s1012), R6.same (s610.trans s1012), s1012 _ _ epl, gp, sqT_same s1012 hk10, hK10.same s1012, pos, by omega, by omega, lv, fun H13 s13 => ⟨true, rfl, iteF ?_⟩⟩
            exact ⟨_, rfl, s12.trans s13⟩
          · obtain ⟨y9, rfl, s12⟩ := h
            exact ⟨_, _, _, _, rfl, (s610.trans s11).trans s12⟩
        · obtain ⟨y6, y7, y8, y9, rfl, s7⟩ := h
          have s47 := (s5.trans s6).trans s7
          exact ⟨_, _, _, _, _, _, _, t4, rfl, (b3.trans b4).trans (But.of s47), pail_same hp4 s47, by omega⟩
      · obtain ⟨y3, y4, y5, y6, y7, y8, y9, t3, rfl, b3, hp3, ht3⟩ := h
        exact ⟨_, _, _, _, _, _, _, _, _, rfl, same_but s02 npH b3⟩
    · exact q H1
end
end K75
set_option maxHeartbeats 4000000
namespace K75
open PySem PySem.Spec PyProof.Rows L2 RV
theorem def_mk {K : PySem.W.Frag} {h : Heap} {mg : Str → Option Value} {x : Str} {st : Stmt} {ps : List Str} {f : Addr} {oc : Value} {od an : Option Addr} {sl : Array (Option Value)} {kV dc pm cd ct : Value} (X : K.In h) (G : h.Ns mainGlobals mg)
    (a : PySem.W.nsIn K mainGlobals x = some (some (.ref f))) (l : K.lookup f = some ⟨oc, od, .func (PySem.W.fnOf x x (defArgs st) (defBody st) (defScope st) .none kV dc pm an cd ct), sl⟩) (c : PySem.W.codeIn K cd x = true) (k : PySem.W.keepIn K (.ref f) = true)
    (hb : ∀ (kV doc pm : Value) (an : Option Addr) (cdv ct : Value) (us : List Value), us.length = ps.length → bindArgs (PySem.W.fnOf x x (defArgs st) (defBody st) (defScope st) .none kV doc pm an cdv ct) ⟨us, []⟩ = pure (ps.zip us)) :
    DefAt K mg x st ps f (PySem.W.fnOf x x (defArgs st) (defBody st) (defScope st) .none kV dc pm an cd ct) :=
  let F := fun_mk (st := st) l c k
  ⟨F, F.binds hb, PySem.W.mg_of X G a⟩
theorem all_mk {l : PySem.W.OpenLaw} {w : World} {K : PySem.W.Frag} {h : Heap} {mg : Str → Option Value} {fa C f1 f2 f3 f4 f5 f6 f7 f8 f9 f10 f11 f12 f13 f14 f15 f16 f17 f18 f19 f20 f21 f22 f23 f24 f25 f26 f27 f28 f29 f30 f31 f32 f33 f34 f35 f36 f37 f38 f39 f40 f41 f42 f43 f44 f45 f46 f47 f48 f49 f50 f51 f52 f53 f54 f55 f56 f57 f58 f59 f60 f61 f62 f63 f64 f65 f66 f67 : Addr} {tk : Tok} (X : K.In h) (G : h.Ns mainGlobals mg) (hfa : mg "law" = some (.ref fa))
    {od1 an1 od2 an2 od3 an3 od4 an4 od5 an5 od6 an6 od7 an7 od8 an8 od9 an9 od10 an10 od11 an11 od12 an12 od13 an13 od14 an14 od15 an15 od16 an16 od17 an17 od18 an18 od19 an19 od20 an20 od21 an21 od22 an22 od23 an23 od24 an24 od25 an25 od26 an26 od27 an27 od28 an28 od29 an29 od30 an30 od31 an31 od32 an32 od33 an33 od34 an34 od35 an35 od36 an36 od37 an37 od38 an38 od39 an39 od40 an40 od41 an41 od42 an42 od43 an43 od44 an44 od45 an45 od46 an46 od47 an47 od48 an48 od49 an49 od50 an50 od51 an51 od52 an52 od53 an53 od54 an54 od55 an55 od56 an56 od57 an57 od58 an58 od59 an59 od60 an60 od61 an61 od62 an62 od63 an63 od64 an64 od65 an65 od66 an66 od67 an67 : Option Addr} {sl1 sl2 sl3 sl4 sl5 sl6 sl7 sl8 sl9 sl10 sl11 sl12 sl13 sl14 sl15 sl16 sl17 sl18 sl19 sl20 sl21 sl22 sl23 sl24 sl25 sl26 sl27 sl28 sl29 sl30 sl31 sl32 sl33 sl34 sl35 sl36 sl37 sl38 sl39 sl40 sl41 sl42 sl43 sl44 sl45 sl46 sl47 sl48 sl49 sl50 sl51 sl52 sl53 sl54 sl55 sl56 sl57 sl58 sl59 sl60 sl61 sl62 sl63 sl64 sl65 sl66 sl67 : Array (Option Value)}
    {oc1 kV1 dc1 pm1 cd1 ct1 oc2 kV2 dc2 pm2 cd2 ct2 oc3 kV3 dc3 pm3 cd3 ct3 oc4 kV4 dc4 pm4 cd4 ct4 oc5 kV5 dc5 pm5 cd5 ct5 oc6 kV6 dc6 pm6 cd6 ct6 oc7 kV7 dc7 pm7 cd7 ct7 oc8 kV8 dc8 pm8 cd8 ct8 oc9 kV9 dc9 pm9 cd9 ct9 oc10 kV10 dc10 pm10 cd10 ct10 oc11 kV11 dc11 pm11 cd11 ct11 oc12 kV12 dc12 pm12 cd12 ct12 oc13 kV13 dc13 pm13 cd13 ct13 oc14 kV14 dc14 pm14 cd14 ct14 oc15 kV15 dc15 pm15 cd15 ct15 oc16 kV16 dc16 pm16 cd16 ct16 oc17 kV17 dc17 pm17 cd17 ct17 oc18 kV18 dc18 pm18 cd18 ct18 oc19 kV19 dc19 pm19 cd19 ct19 oc20 kV20 dc20 pm20 cd20 ct20 oc21 kV21 dc21 pm21 cd21 ct21 oc22 kV22 dc22 pm22 cd22 ct22 oc23 kV23 dc23 pm23 cd23 ct23 oc24 kV24 dc24 pm24 cd24 ct24 oc25 kV25 dc25 pm25 cd25 ct25 oc26 kV26 dc26 pm26 cd26 ct26 oc27 kV27 dc27 pm27 cd27 ct27 oc28 kV28 dc28 pm28 cd28 ct28 oc29 kV29 dc29 pm29 cd29 ct29 oc30 kV30 dc30 pm30 cd30 ct30 oc31 kV31 dc31 pm31 cd31 ct31 oc32 kV32 dc32 pm32 cd32 ct32 oc33 kV33 dc33 pm33 cd33 ct33 oc34 kV34 dc34 pm34 cd34 ct34 oc35 kV35 dc35 pm35 cd35 ct35 oc36 kV36 dc36 pm36 cd36 ct36 oc37 kV37 dc37 pm37 cd37 ct37 oc38 kV38 dc38 pm38 cd38 ct38 oc39 kV39 dc39 pm39 cd39 ct39 oc40 kV40 dc40 pm40 cd40 ct40 oc41 kV41 dc41 pm41 cd41 ct41 oc42 kV42 dc42 pm42 cd42 ct42 oc43 kV43 dc43 pm43 cd43 ct43 oc44 kV44 dc44 pm44 cd44 ct44 oc45 kV45 dc45 pm45 cd45 ct45 oc46 kV46 dc46 pm46 cd46 ct46 oc47 kV47 dc47 pm47 cd47 ct47 oc48 kV48 dc48 pm48 cd48 ct48 oc49 kV49 dc49 pm49 cd49 ct49 oc50 kV50 dc50 pm50 cd50 ct50 oc51 kV51 dc51 pm51 cd51 ct51 oc52 kV52 dc52 pm52 cd52 ct52 oc53 kV53 dc53 pm53 cd53 ct53 oc54 kV54 dc54 pm54 cd54 ct54 oc55 kV55 dc55 pm55 cd55 ct55 oc56 kV56 dc56 pm56 cd56 ct56 oc57 kV57 dc57 pm57 cd57 ct57 oc58 kV58 dc58 pm58 cd58 ct58 oc59 kV59 dc59 pm59 cd59 ct59 oc60 kV60 dc60 pm60 cd60 ct60 oc61 kV61 dc61 pm61 cd61 ct61 oc62 kV62 dc62 pm62 cd62 ct62 oc63 kV63 dc63 pm63 cd63 ct63 oc64 kV64 dc64 pm64 cd64 ct64 oc65 kV65 dc65 pm65 cd65 ct65 oc66 kV66 dc66 pm66 cd66 ct66 oc67 kV67 dc67 pm67 cd67 ct67 : Value}
    (a1 : PySem.W.nsIn K mainGlobals "is_whole" = some (some (.ref f1)))
    (l1 : K.lookup f1 = some ⟨oc1, od1, .func (PySem.W.fnOf "is_whole" "is_whole" (defArgs sWhole) (defBody sWhole) (defScope sWhole) .none kV1 dc1 pm1 an1 cd1 ct1), sl1⟩)
    (c1 : PySem.W.codeIn K cd1 "is_whole" = true)
    (k1 : PySem.W.keepIn K (.ref f1) = true)
    (a2 : PySem.W.nsIn K mainGlobals "is_below" = some (some (.ref f2)))
    (l2 : K.lookup f2 = some ⟨oc2, od2, .func (PySem.W.fnOf "is_below" "is_below" (defArgs sMark) (defBody sMark) (defScope sMark) .none kV2 dc2 pm2 an2 cd2 ct2), sl2⟩)
    (c2 : PySem.W.codeIn K cd2 "is_below" = true)
    (k2 : PySem.W.keepIn K (.ref f2) = true)
    (a3 : PySem.W.nsIn K mainGlobals "are_marks" = some (some (.ref f3)))
    (l3 : K.lookup f3 = some ⟨oc3, od3, .func (PySem.W.fnOf "are_marks" "are_marks" (defArgs sMarks) (defBody sMarks) (defScope sMarks) .none kV3 dc3 pm3 an3 cd3 ct3), sl3⟩)
    (c3 : PySem.W.codeIn K cd3 "are_marks" = true)
    (k3 : PySem.W.keepIn K (.ref f3) = true)
    (a4 : PySem.W.nsIn K mainGlobals "are_mirrors" = some (some (.ref f4)))
    (l4 : K.lookup f4 = some ⟨oc4, od4, .func (PySem.W.fnOf "are_mirrors" "are_mirrors" (defArgs sMirrors) (defBody sMirrors) (defScope sMirrors) .none kV4 dc4 pm4 an4 cd4 ct4), sl4⟩)
    (c4 : PySem.W.codeIn K cd4 "are_mirrors" = true)
    (k4 : PySem.W.keepIn K (.ref f4) = true)
    (a5 : PySem.W.nsIn K mainGlobals "are_steps" = some (some (.ref f5)))
    (l5 : K.lookup f5 = some ⟨oc5, od5, .func (PySem.W.fnOf "are_steps" "are_steps" (defArgs sSteps) (defBody sSteps) (defScope sSteps) .none kV5 dc5 pm5 an5 cd5 ct5), sl5⟩)
    (c5 : PySem.W.codeIn K cd5 "are_steps" = true)
    (k5 : PySem.W.keepIn K (.ref f5) = true)
    (a6 : PySem.W.nsIn K mainGlobals "is_step" = some (some (.ref f6)))
    (l6 : K.lookup f6 = some ⟨oc6, od6, .func (PySem.W.fnOf "is_step" "is_step" (defArgs sStep) (defBody sStep) (defScope sStep) .none kV6 dc6 pm6 an6 cd6 ct6), sl6⟩)
    (c6 : PySem.W.codeIn K cd6 "is_step" = true)
    (k6 : PySem.W.keepIn K (.ref f6) = true)
    (a7 : PySem.W.nsIn K mainGlobals "is_rising" = some (some (.ref f7)))
    (l7 : K.lookup f7 = some ⟨oc7, od7, .func (PySem.W.fnOf "is_rising" "is_rising" (defArgs sRising) (defBody sRising) (defScope sRising) .none kV7 dc7 pm7 an7 cd7 ct7), sl7⟩)
    (c7 : PySem.W.codeIn K cd7 "is_rising" = true)
    (k7 : PySem.W.keepIn K (.ref f7) = true)
    (a8 : PySem.W.nsIn K mainGlobals "marks_behind" = some (some (.ref f8)))
    (l8 : K.lookup f8 = some ⟨oc8, od8, .func (PySem.W.fnOf "marks_behind" "marks_behind" (defArgs sBehind) (defBody sBehind) (defScope sBehind) .none kV8 dc8 pm8 an8 cd8 ct8), sl8⟩)
    (c8 : PySem.W.codeIn K cd8 "marks_behind" = true)
    (k8 : PySem.W.keepIn K (.ref f8) = true)
    (a9 : PySem.W.nsIn K mainGlobals "led_to" = some (some (.ref f9)))
    (l9 : K.lookup f9 = some ⟨oc9, od9, .func (PySem.W.fnOf "led_to" "led_to" (defArgs sLed) (defBody sLed) (defScope sLed) .none kV9 dc9 pm9 an9 cd9 ct9), sl9⟩)
    (c9 : PySem.W.codeIn K cd9 "led_to" = true)
    (k9 : PySem.W.keepIn K (.ref f9) = true)
    (a10 : PySem.W.nsIn K mainGlobals "parts" = some (some (.ref f10)))
    (l10 : K.lookup f10 = some ⟨oc10, od10, .func (PySem.W.fnOf "parts" "parts" (defArgs sParts) (defBody sParts) (defScope sParts) .none kV10 dc10 pm10 an10 cd10 ct10), sl10⟩)
    (c10 : PySem.W.codeIn K cd10 "parts" = true)
    (k10 : PySem.W.keepIn K (.ref f10) = true)
    (a11 : PySem.W.nsIn K mainGlobals "part_of" = some (some (.ref f11)))
    (l11 : K.lookup f11 = some ⟨oc11, od11, .func (PySem.W.fnOf "part_of" "part_of" (defArgs sPartOf) (defBody sPartOf) (defScope sPartOf) .none kV11 dc11 pm11 an11 cd11 ct11), sl11⟩)
    (c11 : PySem.W.codeIn K cd11 "part_of" = true)
    (k11 : PySem.W.keepIn K (.ref f11) = true)
    (a12 : PySem.W.nsIn K mainGlobals "mirror_part" = some (some (.ref f12)))
    (l12 : K.lookup f12 = some ⟨oc12, od12, .func (PySem.W.fnOf "mirror_part" "mirror_part" (defArgs sMirrorPart) (defBody sMirrorPart) (defScope sMirrorPart) .none kV12 dc12 pm12 an12 cd12 ct12), sl12⟩)
    (c12 : PySem.W.codeIn K cd12 "mirror_part" = true)
    (k12 : PySem.W.keepIn K (.ref f12) = true)
    (a13 : PySem.W.nsIn K mainGlobals "is_own_mirror" = some (some (.ref f13)))
    (l13 : K.lookup f13 = some ⟨oc13, od13, .func (PySem.W.fnOf "is_own_mirror" "is_own_mirror" (defArgs sIsOwn) (defBody sIsOwn) (defScope sIsOwn) .none kV13 dc13 pm13 an13 cd13 ct13), sl13⟩)
    (c13 : PySem.W.codeIn K cd13 "is_own_mirror" = true)
    (k13 : PySem.W.keepIn K (.ref f13) = true)
    (a14 : PySem.W.nsIn K mainGlobals "ends_at_once" = some (some (.ref f14)))
    (l14 : K.lookup f14 = some ⟨oc14, od14, .func (PySem.W.fnOf "ends_at_once" "ends_at_once" (defArgs sAtOnce) (defBody sAtOnce) (defScope sAtOnce) .none kV14 dc14 pm14 an14 cd14 ct14), sl14⟩)
    (c14 : PySem.W.codeIn K cd14 "ends_at_once" = true)
    (k14 : PySem.W.keepIn K (.ref f14) = true)
    (a15 : PySem.W.nsIn K mainGlobals "ends_of_steps" = some (some (.ref f15)))
    (l15 : K.lookup f15 = some ⟨oc15, od15, .func (PySem.W.fnOf "ends_of_steps" "ends_of_steps" (defArgs sOfSteps) (defBody sOfSteps) (defScope sOfSteps) .none kV15 dc15 pm15 an15 cd15 ct15), sl15⟩)
    (c15 : PySem.W.codeIn K cd15 "ends_of_steps" = true)
    (k15 : PySem.W.keepIn K (.ref f15) = true)
    (a16 : PySem.W.nsIn K mainGlobals "ends_behind" = some (some (.ref f16)))
    (l16 : K.lookup f16 = some ⟨oc16, od16, .func (PySem.W.fnOf "ends_behind" "ends_behind" (defArgs sEndsBehind) (defBody sEndsBehind) (defScope sEndsBehind) .none kV16 dc16 pm16 an16 cd16 ct16), sl16⟩)
    (c16 : PySem.W.codeIn K cd16 "ends_behind" = true)
    (k16 : PySem.W.keepIn K (.ref f16) = true)
    (a17 : PySem.W.nsIn K mainGlobals "ends_of_walks" = some (some (.ref f17)))
    (l17 : K.lookup f17 = some ⟨oc17, od17, .func (PySem.W.fnOf "ends_of_walks" "ends_of_walks" (defArgs sOfWalks) (defBody sOfWalks) (defScope sOfWalks) .none kV17 dc17 pm17 an17 cd17 ct17), sl17⟩)
    (c17 : PySem.W.codeIn K cd17 "ends_of_walks" = true)
    (k17 : PySem.W.keepIn K (.ref f17) = true)
    (a18 : PySem.W.nsIn K mainGlobals "beginnings" = some (some (.ref f18)))
    (l18 : K.lookup f18 = some ⟨oc18, od18, .func (PySem.W.fnOf "beginnings" "beginnings" (defArgs sBegin) (defBody sBegin) (defScope sBegin) .none kV18 dc18 pm18 an18 cd18 ct18), sl18⟩)
    (c18 : PySem.W.codeIn K cd18 "beginnings" = true)
    (k18 : PySem.W.keepIn K (.ref f18) = true)
    (a19 : PySem.W.nsIn K mainGlobals "leads_into" = some (some (.ref f19)))
    (l19 : K.lookup f19 = some ⟨oc19, od19, .func (PySem.W.fnOf "leads_into" "leads_into" (defArgs sLeadsInto) (defBody sLeadsInto) (defScope sLeadsInto) .none kV19 dc19 pm19 an19 cd19 ct19), sl19⟩)
    (c19 : PySem.W.codeIn K cd19 "leads_into" = true)
    (k19 : PySem.W.keepIn K (.ref f19) = true)
    (a20 : PySem.W.nsIn K mainGlobals "least_between" = some (some (.ref f20)))
    (l20 : K.lookup f20 = some ⟨oc20, od20, .func (PySem.W.fnOf "least_between" "least_between" (defArgs sBetween) (defBody sBetween) (defScope sBetween) .none kV20 dc20 pm20 an20 cd20 ct20), sl20⟩)
    (c20 : PySem.W.codeIn K cd20 "least_between" = true)
    (k20 : PySem.W.keepIn K (.ref f20) = true)
    (a21 : PySem.W.nsIn K mainGlobals "least_walk" = some (some (.ref f21)))
    (l21 : K.lookup f21 = some ⟨oc21, od21, .func (PySem.W.fnOf "least_walk" "least_walk" (defArgs sLeastW) (defBody sLeastW) (defScope sLeastW) .none kV21 dc21 pm21 an21 cd21 ct21), sl21⟩)
    (c21 : PySem.W.codeIn K cd21 "least_walk" = true)
    (k21 : PySem.W.keepIn K (.ref f21) = true)
    (a22 : PySem.W.nsIn K mainGlobals "come_back" = some (some (.ref f22)))
    (l22 : K.lookup f22 = some ⟨oc22, od22, .func (PySem.W.fnOf "come_back" "come_back" (defArgs sComeBack) (defBody sComeBack) (defScope sComeBack) .none kV22 dc22 pm22 an22 cd22 ct22), sl22⟩)
    (c22 : PySem.W.codeIn K cd22 "come_back" = true)
    (k22 : PySem.W.keepIn K (.ref f22) = true)
    (a23 : PySem.W.nsIn K mainGlobals "is_size" = some (some (.ref f23)))
    (l23 : K.lookup f23 = some ⟨oc23, od23, .func (PySem.W.fnOf "is_size" "is_size" (defArgs sIsSize) (defBody sIsSize) (defScope sIsSize) .none kV23 dc23 pm23 an23 cd23 ct23), sl23⟩)
    (c23 : PySem.W.codeIn K cd23 "is_size" = true)
    (k23 : PySem.W.keepIn K (.ref f23) = true)
    (a24 : PySem.W.nsIn K mainGlobals "sizes" = some (some (.ref f24)))
    (l24 : K.lookup f24 = some ⟨oc24, od24, .func (PySem.W.fnOf "sizes" "sizes" (defArgs sSizes) (defBody sSizes) (defScope sSizes) .none kV24 dc24 pm24 an24 cd24 ct24), sl24⟩)
    (c24 : PySem.W.codeIn K cd24 "sizes" = true)
    (k24 : PySem.W.keepIn K (.ref f24) = true)
    (a25 : PySem.W.nsIn K mainGlobals "walks_back" = some (some (.ref f25)))
    (l25 : K.lookup f25 = some ⟨oc25, od25, .func (PySem.W.fnOf "walks_back" "walks_back" (defArgs sBack) (defBody sBack) (defScope sBack) .none kV25 dc25 pm25 an25 cd25 ct25), sl25⟩)
    (c25 : PySem.W.codeIn K cd25 "walks_back" = true)
    (k25 : PySem.W.keepIn K (.ref f25) = true)
    (a26 : PySem.W.nsIn K mainGlobals "how_many" = some (some (.ref f26)))
    (l26 : K.lookup f26 = some ⟨oc26, od26, .func (PySem.W.fnOf "how_many" "how_many" (defArgs sHow) (defBody sHow) (defScope sHow) .none kV26 dc26 pm26 an26 cd26 ct26), sl26⟩)
    (c26 : PySem.W.codeIn K cd26 "how_many" = true)
    (k26 : PySem.W.keepIn K (.ref f26) = true)
    (a27 : PySem.W.nsIn K mainGlobals "least_ring" = some (some (.ref f27)))
    (l27 : K.lookup f27 = some ⟨oc27, od27, .func (PySem.W.fnOf "least_ring" "least_ring" (defArgs sLeastR) (defBody sLeastR) (defScope sLeastR) .none kV27 dc27 pm27 an27 cd27 ct27), sl27⟩)
    (c27 : PySem.W.codeIn K cd27 "least_ring" = true)
    (k27 : PySem.W.keepIn K (.ref f27) = true)
    (a28 : PySem.W.nsIn K mainGlobals "steps_off" = some (some (.ref f28)))
    (l28 : K.lookup f28 = some ⟨oc28, od28, .func (PySem.W.fnOf "steps_off" "steps_off" (defArgs sOff) (defBody sOff) (defScope sOff) .none kV28 dc28 pm28 an28 cd28 ct28), sl28⟩)
    (c28 : PySem.W.codeIn K cd28 "steps_off" = true)
    (k28 : PySem.W.keepIn K (.ref f28) = true)
    (a29 : PySem.W.nsIn K mainGlobals "common_measure" = some (some (.ref f29)))
    (l29 : K.lookup f29 = some ⟨oc29, od29, .func (PySem.W.fnOf "common_measure" "common_measure" (defArgs sMeasure) (defBody sMeasure) (defScope sMeasure) .none kV29 dc29 pm29 an29 cd29 ct29), sl29⟩)
    (c29 : PySem.W.codeIn K cd29 "common_measure" = true)
    (k29 : PySem.W.keepIn K (.ref f29) = true)
    (a30 : PySem.W.nsIn K mainGlobals "period" = some (some (.ref f30)))
    (l30 : K.lookup f30 = some ⟨oc30, od30, .func (PySem.W.fnOf "period" "period" (defArgs sPeriod) (defBody sPeriod) (defScope sPeriod) .none kV30 dc30 pm30 an30 cd30 ct30), sl30⟩)
    (c30 : PySem.W.codeIn K cd30 "period" = true)
    (k30 : PySem.W.keepIn K (.ref f30) = true)
    (a31 : PySem.W.nsIn K mainGlobals "classes" = some (some (.ref f31)))
    (l31 : K.lookup f31 = some ⟨oc31, od31, .func (PySem.W.fnOf "classes" "classes" (defArgs sClasses) (defBody sClasses) (defScope sClasses) .none kV31 dc31 pm31 an31 cd31 ct31), sl31⟩)
    (c31 : PySem.W.codeIn K cd31 "classes" = true)
    (k31 : PySem.W.keepIn K (.ref f31) = true)
    (a32 : PySem.W.nsIn K mainGlobals "read_back" = some (some (.ref f32)))
    (l32 : K.lookup f32 = some ⟨oc32, od32, .func (PySem.W.fnOf "read_back" "read_back" (defArgs sReadBack) (defBody sReadBack) (defScope sReadBack) .none kV32 dc32 pm32 an32 cd32 ct32), sl32⟩)
    (c32 : PySem.W.codeIn K cd32 "read_back" = true)
    (k32 : PySem.W.keepIn K (.ref f32) = true)
    (a33 : PySem.W.nsIn K mainGlobals "turned_to" = some (some (.ref f33)))
    (l33 : K.lookup f33 = some ⟨oc33, od33, .func (PySem.W.fnOf "turned_to" "turned_to" (defArgs sTurnedTo) (defBody sTurnedTo) (defScope sTurnedTo) .none kV33 dc33 pm33 an33 cd33 ct33), sl33⟩)
    (c33 : PySem.W.codeIn K cd33 "turned_to" = true)
    (k33 : PySem.W.keepIn K (.ref f33) = true)
    (a34 : PySem.W.nsIn K mainGlobals "axes" = some (some (.ref f34)))
    (l34 : K.lookup f34 = some ⟨oc34, od34, .func (PySem.W.fnOf "axes" "axes" (defArgs sAxes) (defBody sAxes) (defScope sAxes) .none kV34 dc34 pm34 an34 cd34 ct34), sl34⟩)
    (c34 : PySem.W.codeIn K cd34 "axes" = true)
    (k34 : PySem.W.keepIn K (.ref f34) = true)
    (a35 : PySem.W.nsIn K mainGlobals "is_at_axis" = some (some (.ref f35)))
    (l35 : K.lookup f35 = some ⟨oc35, od35, .func (PySem.W.fnOf "is_at_axis" "is_at_axis" (defArgs sIsAt) (defBody sIsAt) (defScope sIsAt) .none kV35 dc35 pm35 an35 cd35 ct35), sl35⟩)
    (c35 : PySem.W.codeIn K cd35 "is_at_axis" = true)
    (k35 : PySem.W.keepIn K (.ref f35) = true)
    (a36 : PySem.W.nsIn K mainGlobals "axis_classes" = some (some (.ref f36)))
    (l36 : K.lookup f36 = some ⟨oc36, od36, .func (PySem.W.fnOf "axis_classes" "axis_classes" (defArgs sAxisC) (defBody sAxisC) (defScope sAxisC) .none kV36 dc36 pm36 an36 cd36 ct36), sl36⟩)
    (c36 : PySem.W.codeIn K cd36 "axis_classes" = true)
    (k36 : PySem.W.keepIn K (.ref f36) = true)
    (a37 : PySem.W.nsIn K mainGlobals "half_starts" = some (some (.ref f37)))
    (l37 : K.lookup f37 = some ⟨oc37, od37, .func (PySem.W.fnOf "half_starts" "half_starts" (defArgs sHalfS) (defBody sHalfS) (defScope sHalfS) .none kV37 dc37 pm37 an37 cd37 ct37), sl37⟩)
    (c37 : PySem.W.codeIn K cd37 "half_starts" = true)
    (k37 : PySem.W.keepIn K (.ref f37) = true)
    (a38 : PySem.W.nsIn K mainGlobals "half_ends" = some (some (.ref f38)))
    (l38 : K.lookup f38 = some ⟨oc38, od38, .func (PySem.W.fnOf "half_ends" "half_ends" (defArgs sHalfE) (defBody sHalfE) (defScope sHalfE) .none kV38 dc38 pm38 an38 cd38 ct38), sl38⟩)
    (c38 : PySem.W.codeIn K cd38 "half_ends" = true)
    (k38 : PySem.W.keepIn K (.ref f38) = true)
    (a39 : PySem.W.nsIn K mainGlobals "half_steps" = some (some (.ref f39)))
    (l39 : K.lookup f39 = some ⟨oc39, od39, .func (PySem.W.fnOf "half_steps" "half_steps" (defArgs sHalfN) (defBody sHalfN) (defScope sHalfN) .none kV39 dc39 pm39 an39 cd39 ct39), sl39⟩)
    (c39 : PySem.W.codeIn K cd39 "half_steps" = true)
    (k39 : PySem.W.keepIn K (.ref f39) = true)
    (a40 : PySem.W.nsIn K mainGlobals "is_mirror_size" = some (some (.ref f40)))
    (l40 : K.lookup f40 = some ⟨oc40, od40, .func (PySem.W.fnOf "is_mirror_size" "is_mirror_size" (defArgs sIsMS) (defBody sIsMS) (defScope sIsMS) .none kV40 dc40 pm40 an40 cd40 ct40), sl40⟩)
    (c40 : PySem.W.codeIn K cd40 "is_mirror_size" = true)
    (k40 : PySem.W.keepIn K (.ref f40) = true)
    (a41 : PySem.W.nsIn K mainGlobals "least_half" = some (some (.ref f41)))
    (l41 : K.lookup f41 = some ⟨oc41, od41, .func (PySem.W.fnOf "least_half" "least_half" (defArgs sLeastH) (defBody sLeastH) (defScope sLeastH) .none kV41 dc41 pm41 an41 cd41 ct41), sl41⟩)
    (c41 : PySem.W.codeIn K cd41 "least_half" = true)
    (k41 : PySem.W.keepIn K (.ref f41) = true)
    (a42 : PySem.W.nsIn K mainGlobals "_law_hand" = some (some (.ref f42)))
    (l42 : K.lookup f42 = some ⟨oc42, od42, .func (PySem.W.fnOf "_law_hand" "_law_hand" (defArgs sHand) (defBody sHand) (defScope sHand) .none kV42 dc42 pm42 an42 cd42 ct42), sl42⟩)
    (c42 : PySem.W.codeIn K cd42 "_law_hand" = true)
    (k42 : PySem.W.keepIn K (.ref f42) = true)
    (a43 : PySem.W.nsIn K mainGlobals "_law_take" = some (some (.ref f43)))
    (l43 : K.lookup f43 = some ⟨oc43, od43, .func (PySem.W.fnOf "_law_take" "_law_take" (defArgs sDraw) (defBody sDraw) (defScope sDraw) .none kV43 dc43 pm43 an43 cd43 ct43), sl43⟩)
    (c43 : PySem.W.codeIn K cd43 "_law_take" = true)
    (k43 : PySem.W.keepIn K (.ref f43) = true)
    (a44 : PySem.W.nsIn K mainGlobals "_law_of" = some (some (.ref f44)))
    (l44 : K.lookup f44 = some ⟨oc44, od44, .func (PySem.W.fnOf "_law_of" "_law_of" (defArgs sOf) (defBody sOf) (defScope sOf) .none kV44 dc44 pm44 an44 cd44 ct44), sl44⟩)
    (c44 : PySem.W.codeIn K cd44 "_law_of" = true)
    (k44 : PySem.W.keepIn K (.ref f44) = true)
    (a45 : PySem.W.nsIn K mainGlobals "_law_closed" = some (some (.ref f45)))
    (l45 : K.lookup f45 = some ⟨oc45, od45, .func (PySem.W.fnOf "_law_closed" "_law_closed" (defArgs sClosed) (defBody sClosed) (defScope sClosed) .none kV45 dc45 pm45 an45 cd45 ct45), sl45⟩)
    (c45 : PySem.W.codeIn K cd45 "_law_closed" = true)
    (k45 : PySem.W.keepIn K (.ref f45) = true)
    (a46 : PySem.W.nsIn K mainGlobals "_law_drawn_mirrors" = some (some (.ref f46)))
    (l46 : K.lookup f46 = some ⟨oc46, od46, .func (PySem.W.fnOf "_law_drawn_mirrors" "_law_drawn_mirrors" (defArgs sDrawn) (defBody sDrawn) (defScope sDrawn) .none kV46 dc46 pm46 an46 cd46 ct46), sl46⟩)
    (c46 : PySem.W.codeIn K cd46 "_law_drawn_mirrors" = true)
    (k46 : PySem.W.keepIn K (.ref f46) = true)
    (a47 : PySem.W.nsIn K mainGlobals "_law_kinds" = some (some (.ref f47)))
    (l47 : K.lookup f47 = some ⟨oc47, od47, .func (PySem.W.fnOf "_law_kinds" "_law_kinds" (defArgs sKinds) (defBody sKinds) (defScope sKinds) .none kV47 dc47 pm47 an47 cd47 ct47), sl47⟩)
    (c47 : PySem.W.codeIn K cd47 "_law_kinds" = true)
    (k47 : PySem.W.keepIn K (.ref f47) = true)
    (a48 : PySem.W.nsIn K mainGlobals "_law_wheel_pairs" = some (some (.ref f48)))
    (l48 : K.lookup f48 = some ⟨oc48, od48, .func (PySem.W.fnOf "_law_wheel_pairs" "_law_wheel_pairs" (defArgs sWheel) (defBody sWheel) (defScope sWheel) .none kV48 dc48 pm48 an48 cd48 ct48), sl48⟩)
    (c48 : PySem.W.codeIn K cd48 "_law_wheel_pairs" = true)
    (k48 : PySem.W.keepIn K (.ref f48) = true)
    (a49 : PySem.W.nsIn K mainGlobals "_law_side_pairs" = some (some (.ref f49)))
    (l49 : K.lookup f49 = some ⟨oc49, od49, .func (PySem.W.fnOf "_law_side_pairs" "_law_side_pairs" (defArgs sSide) (defBody sSide) (defScope sSide) .none kV49 dc49 pm49 an49 cd49 ct49), sl49⟩)
    (c49 : PySem.W.codeIn K cd49 "_law_side_pairs" = true)
    (k49 : PySem.W.keepIn K (.ref f49) = true)
    (a50 : PySem.W.nsIn K mainGlobals "_law_rule" = some (some (.ref f50)))
    (l50 : K.lookup f50 = some ⟨oc50, od50, .func (PySem.W.fnOf "_law_rule" "_law_rule" (defArgs sRule) (defBody sRule) (defScope sRule) .none kV50 dc50 pm50 an50 cd50 ct50), sl50⟩)
    (c50 : PySem.W.codeIn K cd50 "_law_rule" = true)
    (k50 : PySem.W.keepIn K (.ref f50) = true)
    (a51 : PySem.W.nsIn K mainGlobals "_law_come_to" = some (some (.ref f51)))
    (l51 : K.lookup f51 = some ⟨oc51, od51, .func (PySem.W.fnOf "_law_come_to" "_law_come_to" (defArgs sCome) (defBody sCome) (defScope sCome) .none kV51 dc51 pm51 an51 cd51 ct51), sl51⟩)
    (c51 : PySem.W.codeIn K cd51 "_law_come_to" = true)
    (k51 : PySem.W.keepIn K (.ref f51) = true)
    (a52 : PySem.W.nsIn K mainGlobals "_law_parts" = some (some (.ref f52)))
    (l52 : K.lookup f52 = some ⟨oc52, od52, .func (PySem.W.fnOf "_law_parts" "_law_parts" (defArgs sLParts) (defBody sLParts) (defScope sLParts) .none kV52 dc52 pm52 an52 cd52 ct52), sl52⟩)
    (c52 : PySem.W.codeIn K cd52 "_law_parts" = true)
    (k52 : PySem.W.keepIn K (.ref f52) = true)
    (a53 : PySem.W.nsIn K mainGlobals "_law_common" = some (some (.ref f53)))
    (l53 : K.lookup f53 = some ⟨oc53, od53, .func (PySem.W.fnOf "_law_common" "_law_common" (defArgs sCommon) (defBody sCommon) (defScope sCommon) .none kV53 dc53 pm53 an53 cd53 ct53), sl53⟩)
    (c53 : PySem.W.codeIn K cd53 "_law_common" = true)
    (k53 : PySem.W.keepIn K (.ref f53) = true)
    (a54 : PySem.W.nsIn K mainGlobals "_law_classes" = some (some (.ref f54)))
    (l54 : K.lookup f54 = some ⟨oc54, od54, .func (PySem.W.fnOf "_law_classes" "_law_classes" (defArgs sLClasses) (defBody sLClasses) (defScope sLClasses) .none kV54 dc54 pm54 an54 cd54 ct54), sl54⟩)
    (c54 : PySem.W.codeIn K cd54 "_law_classes" = true)
    (k54 : PySem.W.keepIn K (.ref f54) = true)
    (a55 : PySem.W.nsIn K mainGlobals "_law_all_rings" = some (some (.ref f55)))
    (l55 : K.lookup f55 = some ⟨oc55, od55, .func (PySem.W.fnOf "_law_all_rings" "_law_all_rings" (defArgs sRings) (defBody sRings) (defScope sRings) .none kV55 dc55 pm55 an55 cd55 ct55), sl55⟩)
    (c55 : PySem.W.codeIn K cd55 "_law_all_rings" = true)
    (k55 : PySem.W.keepIn K (.ref f55) = true)
    (a56 : PySem.W.nsIn K mainGlobals "_law_all_pairs" = some (some (.ref f56)))
    (l56 : K.lookup f56 = some ⟨oc56, od56, .func (PySem.W.fnOf "_law_all_pairs" "_law_all_pairs" (defArgs sPairs) (defBody sPairs) (defScope sPairs) .none kV56 dc56 pm56 an56 cd56 ct56), sl56⟩)
    (c56 : PySem.W.codeIn K cd56 "_law_all_pairs" = true)
    (k56 : PySem.W.keepIn K (.ref f56) = true)
    (a57 : PySem.W.nsIn K mainGlobals "_law_is_mirrored" = some (some (.ref f57)))
    (l57 : K.lookup f57 = some ⟨oc57, od57, .func (PySem.W.fnOf "_law_is_mirrored" "_law_is_mirrored" (defArgs sIsMir) (defBody sIsMir) (defScope sIsMir) .none kV57 dc57 pm57 an57 cd57 ct57), sl57⟩)
    (c57 : PySem.W.codeIn K cd57 "_law_is_mirrored" = true)
    (k57 : PySem.W.keepIn K (.ref f57) = true)
    (a58 : PySem.W.nsIn K mainGlobals "_law_axis_class" = some (some (.ref f58)))
    (l58 : K.lookup f58 = some ⟨oc58, od58, .func (PySem.W.fnOf "_law_axis_class" "_law_axis_class" (defArgs sLAxis1) (defBody sLAxis1) (defScope sLAxis1) .none kV58 dc58 pm58 an58 cd58 ct58), sl58⟩)
    (c58 : PySem.W.codeIn K cd58 "_law_axis_class" = true)
    (k58 : PySem.W.keepIn K (.ref f58) = true)
    (a59 : PySem.W.nsIn K mainGlobals "_law_made" = some (some (.ref f59)))
    (l59 : K.lookup f59 = some ⟨oc59, od59, .func (PySem.W.fnOf "_law_made" "_law_made" (defArgs sMade) (defBody sMade) (defScope sMade) .none kV59 dc59 pm59 an59 cd59 ct59), sl59⟩)
    (c59 : PySem.W.codeIn K cd59 "_law_made" = true)
    (k59 : PySem.W.keepIn K (.ref f59) = true)
    (a60 : PySem.W.nsIn K mainGlobals "_law_half_of" = some (some (.ref f60)))
    (l60 : K.lookup f60 = some ⟨oc60, od60, .func (PySem.W.fnOf "_law_half_of" "_law_half_of" (defArgs sLHalfOf) (defBody sLHalfOf) (defScope sLHalfOf) .none kV60 dc60 pm60 an60 cd60 ct60), sl60⟩)
    (c60 : PySem.W.codeIn K cd60 "_law_half_of" = true)
    (k60 : PySem.W.keepIn K (.ref f60) = true)
    (a61 : PySem.W.nsIn K mainGlobals "_law_tuples_of" = some (some (.ref f61)))
    (l61 : K.lookup f61 = some ⟨oc61, od61, .func (PySem.W.fnOf "_law_tuples_of" "_law_tuples_of" (defArgs sTuples) (defBody sTuples) (defScope sTuples) .none kV61 dc61 pm61 an61 cd61 ct61), sl61⟩)
    (c61 : PySem.W.codeIn K cd61 "_law_tuples_of" = true)
    (k61 : PySem.W.keepIn K (.ref f61) = true)
    (a62 : PySem.W.nsIn K mainGlobals "_law_of_rings_right" = some (some (.ref f62)))
    (l62 : K.lookup f62 = some ⟨oc62, od62, .func (PySem.W.fnOf "_law_of_rings_right" "_law_of_rings_right" (defArgs sRingsRight) (defBody sRingsRight) (defScope sRingsRight) .none kV62 dc62 pm62 an62 cd62 ct62), sl62⟩)
    (c62 : PySem.W.codeIn K cd62 "_law_of_rings_right" = true)
    (k62 : PySem.W.keepIn K (.ref f62) = true)
    (a63 : PySem.W.nsIn K mainGlobals "law" = some (some (.ref f63)))
    (l63 : K.lookup f63 = some ⟨oc63, od63, .func (PySem.W.fnOf "law" "law" (defArgs sLaw) (defBody sLaw) (defScope sLaw) .none kV63 dc63 pm63 an63 cd63 ct63), sl63⟩)
    (c63 : PySem.W.codeIn K cd63 "law" = true)
    (k63 : PySem.W.keepIn K (.ref f63) = true)
    (aC : PySem.W.nsIn K mainGlobals "Rule" = some (some (.ref C)))
    (a64 : PySem.W.findIn K (.ref C) "__init__" = some (some (.ref f64)))
    (i64 : PySem.W.isFn K (.ref f64) = true)
    (l64 : K.lookup f64 = some ⟨oc64, od64, .func (PySem.W.fnOf "__init__" "Rule.__init__" (defArgs sInit) (defBody sInit) (defScope sInit) .none kV64 dc64 pm64 an64 cd64 ct64), sl64⟩)
    (c64 : PySem.W.codeIn K cd64 "Rule.__init__" = true)
    (k64 : PySem.W.keepIn K (.ref f64) = true)
    (a65 : PySem.W.findIn K (.ref C) "marks" = some (some (.ref f65)))
    (i65 : PySem.W.isFn K (.ref f65) = true)
    (l65 : K.lookup f65 = some ⟨oc65, od65, .func (PySem.W.fnOf "marks" "Rule.marks" (defArgs sMarksM) (defBody sMarksM) (defScope sMarksM) .none kV65 dc65 pm65 an65 cd65 ct65), sl65⟩)
    (c65 : PySem.W.codeIn K cd65 "Rule.marks" = true)
    (k65 : PySem.W.keepIn K (.ref f65) = true)
    (a66 : PySem.W.findIn K (.ref C) "mirror" = some (some (.ref f66)))
    (i66 : PySem.W.isFn K (.ref f66) = true)
    (l66 : K.lookup f66 = some ⟨oc66, od66, .func (PySem.W.fnOf "mirror" "Rule.mirror" (defArgs sMirrorM) (defBody sMirrorM) (defScope sMirrorM) .none kV66 dc66 pm66 an66 cd66 ct66), sl66⟩)
    (c66 : PySem.W.codeIn K cd66 "Rule.mirror" = true)
    (k66 : PySem.W.keepIn K (.ref f66) = true)
    (a67 : PySem.W.findIn K (.ref C) "behind" = some (some (.ref f67)))
    (i67 : PySem.W.isFn K (.ref f67) = true)
    (l67 : K.lookup f67 = some ⟨oc67, od67, .func (PySem.W.fnOf "behind" "Rule.behind" (defArgs sBehindM) (defBody sBehindM) (defScope sBehindM) .none kV67 dc67 pm67 an67 cd67 ct67), sl67⟩)
    (c67 : PySem.W.codeIn K cd67 "Rule.behind" = true)
    (k67 : PySem.W.keepIn K (.ref f67) = true)
    (pg : PySem.W.plainGet K C Str.empty = true)
    (hd : PySem.W.hasDictIn K C = true)
    (po : PySem.W.plainOver K C = true)
    (sa : PySem.W.findIn K (.ref C) "__setattr__" = some (some (.builtin "object.__setattr__")))
    (mk : PySem.W.makesIn K C = true)
    (kc : PySem.W.keepIn K (.ref C) = true)
    (nM : PySem.W.findIn K (.ref C) "mirrors" = some none)
    (nS : PySem.W.findIn K (.ref C) "steps" = some none)
    (nF : PySem.W.findIn K (.ref C) "followers" = some none)
    (t1 : PySem.W.findIn K (.ref C) "__class__" = some (some (.builtin "object.__class__")))
    (t2 : PySem.W.specialIn K (.builtin "object.__class__") "__get__" = some (some (.builtin "getset_descriptor.__get__")))
    (t3 : PySem.W.takesIn K (.builtin "object.__class__") = some true)
    (t4 : PySem.W.mroIn K C (.type "object") = some true)
    (mM : PySem.W.nsIn K mainGlobals "MOST_MARKS" = some (some (.int 8 tk)))
    (z0 : PySem.W.nsIn K mainGlobals "len" = some none)
    (z1 : PySem.W.nsIn K mainGlobals "sum" = some none)
    (z2 : PySem.W.nsIn K mainGlobals "isinstance" = some none)
    (z3 : PySem.W.nsIn K mainGlobals "int" = some none)
    (z4 : PySem.W.nsIn K mainGlobals "bool" = some none)
    (z5 : PySem.W.nsIn K mainGlobals "tuple" = some none)
    (z6 : PySem.W.nsIn K mainGlobals "all" = some none)
    (z7 : PySem.W.nsIn K mainGlobals "enumerate" = some none)
    (z8 : PySem.W.nsIn K mainGlobals "zip" = some none)
    (z9 : PySem.W.nsIn K mainGlobals "range" = some none)
    (z10 : PySem.W.nsIn K mainGlobals "list" = some none)
    (z11 : PySem.W.nsIn K mainGlobals "set" = some none)
    (z12 : PySem.W.nsIn K mainGlobals "sorted" = some none)
    (z13 : PySem.W.nsIn K mainGlobals "abs" = some none)
    (z14 : PySem.W.nsIn K mainGlobals "max" = some none)
    (z15 : PySem.W.nsIn K mainGlobals "min" = some none)
    (z16 : PySem.W.nsIn K mainGlobals "repr" = some none)
    (z17 : PySem.W.nsIn K mainGlobals "dict" = some none)
    (z18 : PySem.W.nsIn K mainGlobals "any" = some none) :
    ∃ fd : FuncData, (∀ (s : Shared) (v : Value), BindsTo s fd ⟨[v], []⟩ [("_law_script", v)]) ∧ ∀ base : Heap, K.In base → base.Ns mainGlobals mg → FnG l.prog w K mg base CX0 10 fa fd ["_law_script"] (spLaw K) := by
  have e := hfa.symm.trans (PySem.W.mg_of X G a63)
  cases e
  have B : Bare mg := ⟨PySem.W.mg_none_of X G z0, PySem.W.mg_none_of X G z1, PySem.W.mg_none_of X G z2, PySem.W.mg_none_of X G z3, PySem.W.mg_none_of X G z4, PySem.W.mg_none_of X G z5, PySem.W.mg_none_of X G z6, PySem.W.mg_none_of X G z7, PySem.W.mg_none_of X G z8, PySem.W.mg_none_of X G z9, PySem.W.mg_none_of X G z10, PySem.W.mg_none_of X G z11, PySem.W.mg_none_of X G z12, PySem.W.mg_none_of X G z13, PySem.W.mg_none_of X G z14, PySem.W.mg_none_of X G z15, PySem.W.mg_none_of X G z16, PySem.W.mg_none_of X G z17, PySem.W.mg_none_of X G z18⟩
  have D1 := def_mk (st := sWhole) (ps := ["thing"]) X G a1 l1 c1 k1 fun _ _ _ _ _ _ us hl => match us, hl with | [_], _ => rfl
  have D2 := def_mk (st := sMark) (ps := ["thing", "many"]) X G a2 l2 c2 k2 fun _ _ _ _ _ _ us hl => match us, hl with | [_, _], _ => rfl
  have D3 := def_mk (st := sMarks) (ps := ["thing", "many"]) X G a3 l3 c3 k3 fun _ _ _ _ _ _ us hl => match us, hl with | [_, _], _ => rfl
  have D4 := def_mk (st := sMirrors) (ps := ["thing"]) X G a4 l4 c4 k4 fun _ _ _ _ _ _ us hl => match us, hl with | [_], _ => rfl
  have D5 := def_mk (st := sSteps) (ps := ["mirrors", "thing"]) X G a5 l5 c5 k5 fun _ _ _ _ _ _ us hl => match us, hl with | [_, _], _ => rfl
  have D6 := def_mk (st := sStep) (ps := ["thing", "many"]) X G a6 l6 c6 k6 fun _ _ _ _ _ _ us hl => match us, hl with | [_, _], _ => rfl
  have D7 := def_mk (st := sRising) (ps := ["pairs"]) X G a7 l7 c7 k7 fun _ _ _ _ _ _ us hl => match us, hl with | [_], _ => rfl
  have D8 := def_mk (st := sBehind) (ps := ["steps", "mark"]) X G a8 l8 c8 k8 fun _ _ _ _ _ _ us hl => match us, hl with | [_, _], _ => rfl
  have D9 := def_mk (st := sLed) (ps := ["rule", "mark"]) X G a9 l9 c9 k9 fun _ _ _ _ _ _ us hl => match us, hl with | [_, _], _ => rfl
  have D10 := def_mk (st := sParts) (ps := ["rule"]) X G a10 l10 c10 k10 fun _ _ _ _ _ _ us hl => match us, hl with | [_], _ => rfl
  have D11 := def_mk (st := sPartOf) (ps := ["rule", "mark"]) X G a11 l11 c11 k11 fun _ _ _ _ _ _ us hl => match us, hl with | [_, _], _ => rfl
  have D12 := def_mk (st := sMirrorPart) (ps := ["rule", "part"]) X G a12 l12 c12 k12 fun _ _ _ _ _ _ us hl => match us, hl with | [_, _], _ => rfl
  have D13 := def_mk (st := sIsOwn) (ps := ["rule", "part"]) X G a13 l13 c13 k13 fun _ _ _ _ _ _ us hl => match us, hl with | [_, _], _ => rfl
  have D14 := def_mk (st := sAtOnce) (ps := ["rule"]) X G a14 l14 c14 k14 fun _ _ _ _ _ _ us hl => match us, hl with | [_], _ => rfl
  have D15 := def_mk (st := sOfSteps) (ps := ["rule"]) X G a15 l15 c15 k15 fun _ _ _ _ _ _ us hl => match us, hl with | [_], _ => rfl
  have D16 := def_mk (st := sEndsBehind) (ps := ["first", "second"]) X G a16 l16 c16 k16 fun _ _ _ _ _ _ us hl => match us, hl with | [_, _], _ => rfl
  have D17 := def_mk (st := sOfWalks) (ps := ["rule", "n"]) X G a17 l17 c17 k17 fun _ _ _ _ _ _ us hl => match us, hl with | [_, _], _ => rfl
  have D18 := def_mk (st := sBegin) (ps := ["rule", "ends", "n"]) X G a18 l18 c18 k18 fun _ _ _ _ _ _ us hl => match us, hl with | [_, _, _], _ => rfl
  have D19 := def_mk (st := sLeadsInto) (ps := ["rule", "mark", "marks"]) X G a19 l19 c19 k19 fun _ _ _ _ _ _ us hl => match us, hl with | [_, _, _], _ => rfl
  have D20 := def_mk (st := sBetween) (ps := ["rule", "starts", "ends", "n"]) X G a20 l20 c20 k20 fun _ _ _ _ _ _ us hl => match us, hl with | [_, _, _, _], _ => rfl
  have D21 := def_mk (st := sLeastW) (ps := ["rule", "one", "other", "n"]) X G a21 l21 c21 k21 fun _ _ _ _ _ _ us hl => match us, hl with | [_, _, _, _], _ => rfl
  have D22 := def_mk (st := sComeBack) (ps := ["ends", "marks"]) X G a22 l22 c22 k22 fun _ _ _ _ _ _ us hl => match us, hl with | [_, _], _ => rfl
  have D23 := def_mk (st := sIsSize) (ps := ["rule", "part", "n"]) X G a23 l23 c23 k23 fun _ _ _ _ _ _ us hl => match us, hl with | [_, _, _], _ => rfl
  have D24 := def_mk (st := sSizes) (ps := ["rule", "part", "most"]) X G a24 l24 c24 k24 fun _ _ _ _ _ _ us hl => match us, hl with | [_, _, _], _ => rfl
  have D25 := def_mk (st := sBack) (ps := ["rule", "mark", "n"]) X G a25 l25 c25 k25 fun _ _ _ _ _ _ us hl => match us, hl with | [_, _, _], _ => rfl
  have D26 := def_mk (st := sHow) (ps := ["rule", "part", "n"]) X G a26 l26 c26 k26 fun _ _ _ _ _ _ us hl => match us, hl with | [_, _, _], _ => rfl
  have D27 := def_mk (st := sLeastR) (ps := ["rule", "part", "n"]) X G a27 l27 c27 k27 fun _ _ _ _ _ _ us hl => match us, hl with | [_, _, _], _ => rfl
  have D28 := def_mk (st := sOff) (ps := ["rule", "marks"]) X G a28 l28 c28 k28 fun _ _ _ _ _ _ us hl => match us, hl with | [_, _], _ => rfl
  have D29 := def_mk (st := sMeasure) (ps := ["one", "other"]) X G a29 l29 c29 k29 fun _ _ _ _ _ _ us hl => match us, hl with | [_, _], _ => rfl
  have D30 := def_mk (st := sPeriod) (ps := ["rule", "part"]) X G a30 l30 c30 k30 fun _ _ _ _ _ _ us hl => match us, hl with | [_, _], _ => rfl
  have D31 := def_mk (st := sClasses) (ps := ["rule", "part"]) X G a31 l31 c31 k31 fun _ _ _ _ _ _ us hl => match us, hl with | [_, _], _ => rfl
  have D32 := def_mk (st := sReadBack) (ps := ["rule", "marks"]) X G a32 l32 c32 k32 fun _ _ _ _ _ _ us hl => match us, hl with | [_, _], _ => rfl
  have D33 := def_mk (st := sTurnedTo) (ps := ["marks", "place"]) X G a33 l33 c33 k33 fun _ _ _ _ _ _ us hl => match us, hl with | [_, _], _ => rfl
  have D34 := def_mk (st := sAxes) (ps := ["rule", "marks"]) X G a34 l34 c34 k34 fun _ _ _ _ _ _ us hl => match us, hl with | [_, _], _ => rfl
  have D35 := def_mk (st := sIsAt) (ps := ["rule", "mark", "gap"]) X G a35 l35 c35 k35 fun _ _ _ _ _ _ us hl => match us, hl with | [_, _, _], _ => rfl
  have D36 := def_mk (st := sAxisC) (ps := ["rule", "part"]) X G a36 l36 c36 k36 fun _ _ _ _ _ _ us hl => match us, hl with | [_, _], _ => rfl
  have D37 := def_mk (st := sHalfS) (ps := ["rule", "part", "first"]) X G a37 l37 c37 k37 fun _ _ _ _ _ _ us hl => match us, hl with | [_, _, _], _ => rfl
  have D38 := def_mk (st := sHalfE) (ps := ["rule", "first", "n"]) X G a38 l38 c38 k38 fun _ _ _ _ _ _ us hl => match us, hl with | [_, _, _], _ => rfl
  have D39 := def_mk (st := sHalfN) (ps := ["first", "n"]) X G a39 l39 c39 k39 fun _ _ _ _ _ _ us hl => match us, hl with | [_, _], _ => rfl
  have D40 := def_mk (st := sIsMS) (ps := ["rule", "part", "first", "n"]) X G a40 l40 c40 k40 fun _ _ _ _ _ _ us hl => match us, hl with | [_, _, _, _], _ => rfl
  have D41 := def_mk (st := sLeastH) (ps := ["rule", "part", "first", "n"]) X G a41 l41 c41 k41 fun _ _ _ _ _ _ us hl => match us, hl with | [_, _, _, _], _ => rfl
  have D42 := def_mk (st := sHand) (ps := ["_law_script", "_law_k"]) X G a42 l42 c42 k42 fun _ _ _ _ _ _ us hl => match us, hl with | [_, _], _ => rfl
  have D43 := def_mk (st := sDraw) (ps := ["_law_pot", "_law_many"]) X G a43 l43 c43 k43 fun _ _ _ _ _ _ us hl => match us, hl with | [_, _], _ => rfl
  have D44 := def_mk (st := sOf) (ps := ["_law_pot", "_law_some"]) X G a44 l44 c44 k44 fun _ _ _ _ _ _ us hl => match us, hl with | [_, _], _ => rfl
  have D45 := def_mk (st := sClosed) (ps := ["_law_mirrors", "_law_pairs"]) X G a45 l45 c45 k45 fun _ _ _ _ _ _ us hl => match us, hl with | [_, _], _ => rfl
  have D46 := def_mk (st := sDrawn) (ps := ["_law_pot", "_law_many", "_law_style"]) X G a46 l46 c46 k46 fun _ _ _ _ _ _ us hl => match us, hl with | [_, _, _], _ => rfl
  have D47 := def_mk (st := sKinds) (ps := ["_law_pot", "_law_mirrors", "_law_wheel", "_law_kind"]) X G a47 l47 c47 k47 fun _ _ _ _ _ _ us hl => match us, hl with | [_, _, _, _], _ => rfl
  have D48 := def_mk (st := sWheel) (ps := ["_law_pot", "_law_mirrors", "_law_wheel", "_law_kind", "_law_thick"]) X G a48 l48 c48 k48 fun _ _ _ _ _ _ us hl => match us, hl with | [_, _, _, _, _], _ => rfl
  have D49 := def_mk (st := sSide) (ps := ["_law_pot", "_law_mirrors", "_law_thick"]) X G a49 l49 c49 k49 fun _ _ _ _ _ _ us hl => match us, hl with | [_, _, _], _ => rfl
  have D50 := def_mk (st := sRule) (ps := ["_law_pot", "_law_most"]) X G a50 l50 c50 k50 fun _ _ _ _ _ _ us hl => match us, hl with | [_, _], _ => rfl
  have D51 := def_mk (st := sCome) (ps := ["_law_steps", "_law_mark"]) X G a51 l51 c51 k51 fun _ _ _ _ _ _ us hl => match us, hl with | [_, _], _ => rfl
  have D52 := def_mk (st := sLParts) (ps := ["_law_own"]) X G a52 l52 c52 k52 fun _ _ _ _ _ _ us hl => match us, hl with | [_], _ => rfl
  have D53 := def_mk (st := sCommon) (ps := ["_law_one", "_law_other"]) X G a53 l53 c53 k53 fun _ _ _ _ _ _ us hl => match us, hl with | [_, _], _ => rfl
  have D54 := def_mk (st := sLClasses) (ps := ["_law_steps", "_law_part"]) X G a54 l54 c54 k54 fun _ _ _ _ _ _ us hl => match us, hl with | [_, _], _ => rfl
  have D55 := def_mk (st := sRings) (ps := ["_law_own", "_law_part", "_law_n"]) X G a55 l55 c55 k55 fun _ _ _ _ _ _ us hl => match us, hl with | [_, _, _], _ => rfl
  have D56 := def_mk (st := sPairs) (ps := ["_law_rows", "_law_part"]) X G a56 l56 c56 k56 fun _ _ _ _ _ _ us hl => match us, hl with | [_, _], _ => rfl
  have D57 := def_mk (st := sIsMir) (ps := ["_law_own", "_law_marks", "_law_s"]) X G a57 l57 c57 k57 fun _ _ _ _ _ _ us hl => match us, hl with | [_, _, _], _ => rfl
  have D58 := def_mk (st := sLAxis1) (ps := ["_law_known", "_law_marks", "_law_s"]) X G a58 l58 c58 k58 fun _ _ _ _ _ _ us hl => match us, hl with | [_, _, _], _ => rfl
  have D59 := def_mk (st := sMade) (ps := ["_law_own"]) X G a59 l59 c59 k59 fun _ _ _ _ _ _ us hl => match us, hl with | [_], _ => rfl
  have D60 := def_mk (st := sLHalfOf) (ps := ["_law_marks", "_law_s", "_law_many"]) X G a60 l60 c60 k60 fun _ _ _ _ _ _ us hl => match us, hl with | [_, _, _], _ => rfl
  have D61 := def_mk (st := sTuples) (ps := ["_law_part", "_law_n"]) X G a61 l61 c61 k61 fun _ _ _ _ _ _ us hl => match us, hl with | [_, _], _ => rfl
  have D62 := def_mk (st := sRingsRight) (ps := ["_law_own", "_law_rule_here", "_law_place", "_law_n"]) X G a62 l62 c62 k62 fun _ _ _ _ _ _ us hl => match us, hl with | [_, _, _, _], _ => rfl
  have F63 := fun_mk (st := sLaw) l63 c63 k63
  have F64 := fun_mk (st := sInit) l64 c64 k64
  have b64 := F64.binds (ps := ["self", "mirrors", "steps"]) fun _ _ _ _ _ _ us hl => match us, hl with | [_, _, _], _ => rfl
  have F65 := fun_mk (st := sMarksM) l65 c65 k65
  have b65 := F65.binds (ps := ["self"]) fun _ _ _ _ _ _ us hl => match us, hl with | [_], _ => rfl
  have F66 := fun_mk (st := sMirrorM) l66 c66 k66
  have b66 := F66.binds (ps := ["self", "mark"]) fun _ _ _ _ _ _ us hl => match us, hl with | [_, _], _ => rfl
  have F67 := fun_mk (st := sBehindM) l67 c67 k67
  have b67 := F67.binds (ps := ["self", "mark"]) fun _ _ _ _ _ _ us hl => match us, hl with | [_, _], _ => rfl
  have T : Txt K mg C := ⟨⟨pg, hd, po, sa⟩, nM, nS, nF, PySem.W.mg_of X G aC, t1, t2, t3, t4, kit_self⟩
  have mm := PySem.W.mg_of X G mM
  refine ⟨PySem.W.fnOf "law" "law" (defArgs sLaw) (defBody sLaw) (defScope sLaw) .none kV63 dc63 pm63 an63 cd63 ct63, fun s v => .of_eq rfl, fun base _ _ => ?_⟩
  have G3 : FnOk l.prog w K mg base CX0 3 f3 _ ["thing", "many"] (spMarks K) := ok_marks D3.fn D2 D1 B
  have G4 : FnOk l.prog w K mg base CX0 4 f4 _ ["thing"] (spMirrors K) := ok_mirrors D4.fn D3 G3 B mm
  have G6 : FnOk l.prog w K mg base CX0 4 f6 _ ["thing", "many"] (spStep K) := ok_step D6.fn D3 G3 B
  have G5 : FnOk l.prog w K mg base CX0 5 f5 _ ["mirrors", "thing"] (spSteps K) := ok_steps D5.fn D6 G6 D7 B
  have GI : FnOk l.prog w K mg base CX0 6 f64 _ ["self", "mirrors", "steps"] (spInit K C) := ok_init F64 T D4 G4 D5 G5 D8 B
  have GL : FnOk l.prog w K mg base CX0 2 f9 _ ["rule", "mark"] (spLed K C) := ok_led D9.fn T B F67 b67 ⟨a67, i67, k67⟩
  have GP : FnOk l.prog w K mg base CX0 3 f10 _ ["rule"] (spParts K C) := ok_parts D10.fn T B D9 GL F65 b65 ⟨a65, i65, k65⟩
  have GQ : FnOk l.prog w K mg base CX0 4 f11 _ ["rule", "mark"] (spPartOf K C) := ok_partOf D11.fn B D10 GP
  have GMP : FnOk l.prog w K mg base CX0 5 f12 _ ["rule", "part"] (spMirrorPart K C) := ok_mirrorPart D12.fn T D10 GP D11 GQ F66 b66 ⟨a66, i66, k66⟩
  have GIO : FnOk l.prog w K mg base CX0 6 f13 _ ["rule", "part"] (spIsOwn K C) := ok_isOwn D13.fn D12 GMP
  have GOF : FnOk l.prog w K mg base CX0 2 f28 _ ["rule", "marks"] (spOff K C) := ok_off D28.fn T B F67 b67 ⟨a67, i67, k67⟩
  have GPE : FnOk l.prog w K mg base CX0 4 f30 _ ["rule", "part"] (spPeriod K C) := ok_period D30.fn T B D10 GP D28 GOF D29
  have GCL : FnOk l.prog w K mg base CX0 5 f31 _ ["rule", "part"] (spClasses K C) := ok_classes D31.fn B D10 GP D28 GOF D30 GPE
  have GAX : FnOk l.prog w K mg base CX0 3 f34 _ ["rule", "marks"] (spAxes K C) := ok_axes D34.fn T B F66 b66 ⟨a66, i66, k66⟩ D32 D33
  have GAT : FnOk l.prog w K mg base CX0 2 f35 _ ["rule", "mark", "gap"] (spIsAt K C) := ok_isAt D35.fn T F67 b67 ⟨a67, i67, k67⟩ F66 b66 ⟨a66, i66, k66⟩
  have GAC : FnOk l.prog w K mg base CX0 7 f36 _ ["rule", "part"] (spAx K C) := ok_ax D36.fn B D13 GIO D10 GP D31 GCL D35 GAT
  have GO : FnOk l.prog w K mg base CX0 2 f14 _ ["rule"] (spTab K C 0) := ok_once D14.fn T B F65 b65 ⟨a65, i65, k65⟩
  have GS : FnOk l.prog w K mg base CX0 2 f15 _ ["rule"] (spTab K C 1) := ok_ofst D15.fn T B F67 b67 ⟨a67, i67, k67⟩ F65 b65 ⟨a65, i65, k65⟩
  have GE : FnOk l.prog w K mg base CX0 3 f17 _ ["rule", "n"] (spOW K C) := ok_ow D17.fn D14 GO D15 GS D16 B
  have GWK : FnOk l.prog w K mg base CX0 5 f21 _ ["rule", "one", "other", "n"] (spLeastW K C) := ok_leastW D21.fn T B F67 b67 ⟨a67, i67, k67⟩ F65 b65 ⟨a65, i65, k65⟩ D19 D18 D20
  have GBW : FnOk l.prog w K mg base CX0 4 f20 _ ["rule", "starts", "ends", "n"] (spBetweenL K C) := ok_betweenL D20.fn T B F67 b67 ⟨a67, i67, k67⟩ F65 b65 ⟨a65, i65, k65⟩ D19 D18
  have GIS : FnOk l.prog w K mg base CX0 4 f23 _ ["rule", "part", "n"] (spIS K C) := ok_is D23.fn B D10 GP D17 GE D22
  have GSZ : FnOk l.prog w K mg base CX0 4 f24 _ ["rule", "part", "most"] (spSz K C) := ok_sz D24.fn B D10 GP D14 GO D15 GS D16 D22
  have GHW : FnOk l.prog w K mg base CX0 4 f26 _ ["rule", "part", "n"] (spHow K C) := ok_how D26.fn T B F65 b65 ⟨a65, i65, k65⟩ D10 GP D25
  have GLR : FnOk l.prog w K mg base CX0 6 f27 _ ["rule", "part", "n"] (spLR K C) := ok_lr D27.fn B D10 GP D17 GE D22 D21 GWK
  have GHS : FnOk l.prog w K mg base CX0 7 f37 _ ["rule", "part", "first"] (spHS K C) := ok_hs D37.fn T B D13 GIO D10 GP D31 GCL D35 GAT F66 b66 ⟨a66, i66, k66⟩
  have GHE : FnOk l.prog w K mg base CX0 3 f38 _ ["rule", "first", "n"] (spHE K C) := ok_he D38.fn T B D35 GAT F65 b65 ⟨a65, i65, k65⟩
  have GLH : FnOk l.prog w K mg base CX0 8 f41 _ ["rule", "part", "first", "n"] (spLH K C) := ok_lh D41.fn D37 GHS D38 GHE D39 D20 GBW
  have GMS : FnOk l.prog w K mg base CX0 8 f40 _ ["rule", "part", "first", "n"] (spMS K C) := ok_ms D40.fn B D37 GHS D38 GHE D39 D17 GE
  have GU : FnOk l.prog w K mg base CX0 5 f50 _ ["_law_pot", "_law_most"] (spRule K) := ok_rule D50.fn D46 D48 D49 D45 D47 D44 D43 B
  have GR : FnG l.prog w K mg base CX0 9 f62 _ ["_law_own", "_law_rule_here", "_law_place", "_law_n"] (spRR K C) := ok_rr D62.fn B D55 D56 D26 GHW D23 GIS D24 GSZ D27 GLR D57 D34 GAX D58 D60 D36 GAC D40 GMS D41 GLH
  exact ok_law F63 T B ⟨mk, a64, i64, kc⟩ b64 GI D59 D52 D51 D54 D53 D61 D42 D50 GU D62 GR
end K75
open PySem PySem.W PyProof.Rows
set_option maxRecDepth 100000 in
set_option maxHeartbeats 0 in
theorem PySem.Challenge.cw_ringvouch_k75_whole_all_rings_gone_throu_holds : PySem.Challenge.rw_ringvouch_k75_whole_all_rings_gone_throu.Holds := by
  w_on; o_law; k_head; (case hw => w_witness2)
  k_fill
  refine RV.walk_G (l := PySem.Challenge.rw_ringvouch_k75_whole_all_rings_gone_throu) (n := 63) (k := 10) (x := "_law_script") (sp := fun w => K75.spLaw _) rfl (by decide) rfl ⟨rfl, by decide, by decide⟩ (fun w h Y => PySem.W.kIn_of Y) ?F (fun _ _ a ns hl _ hS => ⟨a, ns, rfl, hS, hl, fun _ => rfl⟩)
  case F =>
    intro w mg fa h KX G hmg
    refine' K75.all_mk KX G hmg ?a1 ?l1 ?c1 ?k1 ?a2 ?l2 ?c2 ?k2 ?a3 ?l3 ?c3 ?k3 ?a4 ?l4 ?c4 ?k4 ?a5 ?l5 ?c5 ?k5 ?a6 ?l6 ?c6 ?k6 ?a7 ?l7 ?c7 ?k7 ?a8 ?l8 ?c8 ?k8 ?a9 ?l9 ?c9 ?k9 ?a10 ?l10 ?c10 ?k10 ?a11 ?l11 ?c11 ?k11 ?a12 ?l12 ?c12 ?k12 ?a13 ?l13 ?c13 ?k13 ?a14 ?l14 ?c14 ?k14 ?a15 ?l15 ?c15 ?k15 ?a16 ?l16 ?c16 ?k16 ?a17 ?l17 ?c17 ?k17 ?a18 ?l18 ?c18 ?k18 ?a19 ?l19 ?c19 ?k19 ?a20 ?l20 ?c20 ?k20 ?a21 ?l21 ?c21 ?k21 ?a22 ?l22 ?c22 ?k22 ?a23 ?l23 ?c23 ?k23 ?a24 ?l24 ?c24 ?k24 ?a25 ?l25 ?c25 ?k25 ?a26 ?l26 ?c26 ?k26 ?a27 ?l27 ?c27 ?k27 ?a28 ?l28 ?c28 ?k28 ?a29 ?l29 ?c29 ?k29 ?a30 ?l30 ?c30 ?k30 ?a31 ?l31 ?c31 ?k31 ?a32 ?l32 ?c32 ?k32 ?a33 ?l33 ?c33 ?k33 ?a34 ?l34 ?c34 ?k34 ?a35 ?l35 ?c35 ?k35 ?a36 ?l36 ?c36 ?k36 ?a37 ?l37 ?c37 ?k37 ?a38 ?l38 ?c38 ?k38 ?a39 ?l39 ?c39 ?k39 ?a40 ?l40 ?c40 ?k40 ?a41 ?l41 ?c41 ?k41 ?a42 ?l42 ?c42 ?k42 ?a43 ?l43 ?c43 ?k43 ?a44 ?l44 ?c44 ?k44 ?a45 ?l45 ?c45 ?k45 ?a46 ?l46 ?c46 ?k46 ?a47 ?l47 ?c47 ?k47 ?a48 ?l48 ?c48 ?k48 ?a49 ?l49 ?c49 ?k49 ?a50 ?l50 ?c50 ?k50 ?a51 ?l51 ?c51 ?k51 ?a52 ?l52 ?c52 ?k52 ?a53 ?l53 ?c53 ?k53 ?a54 ?l54 ?c54 ?k54 ?a55 ?l55 ?c55 ?k55 ?a56 ?l56 ?c56 ?k56 ?a57 ?l57 ?c57 ?k57 ?a58 ?l58 ?c58 ?k58 ?a59 ?l59 ?c59 ?k59 ?a60 ?l60 ?c60 ?k60 ?a61 ?l61 ?c61 ?k61 ?a62 ?l62 ?c62 ?k62 ?a63 ?l63 ?c63 ?k63 ?aC ?a64 ?i64 ?l64 ?c64 ?k64 ?a65 ?i65 ?l65 ?c65 ?k65 ?a66 ?i66 ?l66 ?c66 ?k66 ?a67 ?i67 ?l67 ?c67 ?k67 ?pg ?hd ?po ?sa ?mk ?kc ?nM ?nS ?nF ?t1 ?t2 ?t3 ?t4 ?mM ?z0 ?z1 ?z2 ?z3 ?z4 ?z5 ?z6 ?z7 ?z8 ?z9 ?z10 ?z11 ?z12 ?z13 ?z14 ?z15 ?z16 ?z17 ?z18
    (case a1 => k_is)
    (case l1 => k_is)
    (case c1 => k_is)
    (case k1 => k_is)
    (case a2 => k_is)
    (case l2 => k_is)
    (case c2 => k_is)
    (case k2 => k_is)
    (case a3 => k_is)
    (case l3 => k_is)
    (case c3 => k_is)
    (case k3 => k_is)
    (case a4 => k_is)
    (case l4 => k_is)
    (case c4 => k_is)
    (case k4 => k_is)
    (case a5 => k_is)
    (case l5 => k_is)
    (case c5 => k_is)
    (case k5 => k_is)
    (case a6 => k_is)
    (case l6 => k_is)
    (case c6 => k_is)
    (case k6 => k_is)
    (case a7 => k_is)
    (case l7 => k_is)
    (case c7 => k_is)
    (case k7 => k_is)
    (case a8 => k_is)
    (case l8 => k_is)
    (case c8 => k_is)
    (case k8 => k_is)
    (case a9 => k_is)
    (case l9 => k_is)
    (case c9 => k_is)
    (case k9 => k_is)
    (case a10 => k_is)
    (case l10 => k_is)
    (case c10 => k_is)
    (case k10 => k_is)
    (case a11 => k_is)
    (case l11 => k_is)
    (case c11 => k_is)
    (case k11 => k_is)
    (case a12 => k_is)
    (case l12 => k_is)
    (case c12 => k_is)
    (case k12 => k_is)
    (case a13 => k_is)
    (case l13 => k_is)
    (case c13 => k_is)
    (case k13 => k_is)
    (case a14 => k_is)
    (case l14 => k_is)
    (case c14 => k_is)
    (case k14 => k_is)
    (case a15 => k_is)
    (case l15 => k_is)
    (case c15 => k_is)
    (case k15 => k_is)
    (case a16 => k_is)
    (case l16 => k_is)
    (case c16 => k_is)
    (case k16 => k_is)
    (case a17 => k_is)
    (case l17 => k_is)
    (case c17 => k_is)
    (case k17 => k_is)
    (case a18 => k_is)
    (case l18 => k_is)
    (case c18 => k_is)
    (case k18 => k_is)
    (case a19 => k_is)
    (case l19 => k_is)
    (case c19 => k_is)
    (case k19 => k_is)
    (case a20 => k_is)
    (case l20 => k_is)
    (case c20 => k_is)
    (case k20 => k_is)
    (case a21 => k_is)
    (case l21 => k_is)
    (case c21 => k_is)
    (case k21 => k_is)
    (case a22 => k_is)
    (case l22 => k_is)
    (case c22 => k_is)
    (case k22 => k_is)
    (case a23 => k_is)
    (case l23 => k_is)
    (case c23 => k_is)
    (case k23 => k_is)
    (case a24 => k_is)
    (case l24 => k_is)
    (case c24 => k_is)
    (case k24 => k_is)
    (case a25 => k_is)
    (case l25 => k_is)
    (case c25 => k_is)
    (case k25 => k_is)
    (case a26 => k_is)
    (case l26 => k_is)
    (case c26 => k_is)
    (case k26 => k_is)
    (case a27 => k_is)
    (case l27 => k_is)
    (case c27 => k_is)
    (case k27 => k_is)
    (case a28 => k_is)
    (case l28 => k_is)
    (case c28 => k_is)
    (case k28 => k_is)
    (case a29 => k_is)
    (case l29 => k_is)
    (case c29 => k_is)
    (case k29 => k_is)
    (case a30 => k_is)
    (case l30 => k_is)
    (case c30 => k_is)
    (case k30 => k_is)
    (case a31 => k_is)
    (case l31 => k_is)
    (case c31 => k_is)
    (case k31 => k_is)
    (case a32 => k_is)
    (case l32 => k_is)
    (case c32 => k_is)
    (case k32 => k_is)
    (case a33 => k_is)
    (case l33 => k_is)
    (case c33 => k_is)
    (case k33 => k_is)
    (case a34 => k_is)
    (case l34 => k_is)
    (case c34 => k_is)
    (case k34 => k_is)
    (case a35 => k_is)
    (case l35 => k_is)
    (case c35 => k_is)
    (case k35 => k_is)
    (case a36 => k_is)
    (case l36 => k_is)
    (case c36 => k_is)
    (case k36 => k_is)
    (case a37 => k_is)
    (case l37 => k_is)
    (case c37 => k_is)
    (case k37 => k_is)
    (case a38 => k_is)
    (case l38 => k_is)
    (case c38 => k_is)
    (case k38 => k_is)
    (case a39 => k_is)
    (case l39 => k_is)
    (case c39 => k_is)
    (case k39 => k_is)
    (case a40 => k_is)
    (case l40 => k_is)
    (case c40 => k_is)
    (case k40 => k_is)
    (case a41 => k_is)
    (case l41 => k_is)
    (case c41 => k_is)
    (case k41 => k_is)
    (case a42 => k_is)
    (case l42 => k_is)
    (case c42 => k_is)
    (case k42 => k_is)
    (case a43 => k_is)
    (case l43 => k_is)
    (case c43 => k_is)
    (case k43 => k_is)
    (case a44 => k_is)
    (case l44 => k_is)
    (case c44 => k_is)
    (case k44 => k_is)
    (case a45 => k_is)
    (case l45 => k_is)
    (case c45 => k_is)
    (case k45 => k_is)
    (case a46 => k_is)
    (case l46 => k_is)
    (case c46 => k_is)
    (case k46 => k_is)
    (case a47 => k_is)
    (case l47 => k_is)
    (case c47 => k_is)
    (case k47 => k_is)
    (case a48 => k_is)
    (case l48 => k_is)
    (case c48 => k_is)
    (case k48 => k_is)
    (case a49 => k_is)
    (case l49 => k_is)
    (case c49 => k_is)
    (case k49 => k_is)
    (case a50 => k_is)
    (case l50 => k_is)
    (case c50 => k_is)
    (case k50 => k_is)
    (case a51 => k_is)
    (case l51 => k_is)
    (case c51 => k_is)
    (case k51 => k_is)
    (case a52 => k_is)
    (case l52 => k_is)
    (case c52 => k_is)
    (case k52 => k_is)
    (case a53 => k_is)
    (case l53 => k_is)
    (case c53 => k_is)
    (case k53 => k_is)
    (case a54 => k_is)
    (case l54 => k_is)
    (case c54 => k_is)
    (case k54 => k_is)
    (case a55 => k_is)
    (case l55 => k_is)
    (case c55 => k_is)
    (case k55 => k_is)
    (case a56 => k_is)
    (case l56 => k_is)
    (case c56 => k_is)
    (case k56 => k_is)
    (case a57 => k_is)
    (case l57 => k_is)
    (case c57 => k_is)
    (case k57 => k_is)
    (case a58 => k_is)
    (case l58 => k_is)
    (case c58 => k_is)
    (case k58 => k_is)
    (case a59 => k_is)
    (case l59 => k_is)
    (case c59 => k_is)
    (case k59 => k_is)
    (case a60 => k_is)
    (case l60 => k_is)
    (case c60 => k_is)
    (case k60 => k_is)
    (case a61 => k_is)
    (case l61 => k_is)
    (case c61 => k_is)
    (case k61 => k_is)
    (case a62 => k_is)
    (case l62 => k_is)
    (case c62 => k_is)
    (case k62 => k_is)
    (case a63 => k_is)
    (case l63 => k_is)
    (case c63 => k_is)
    (case k63 => k_is)
    (case aC => k_is)
    (case a64 => k_is)
    (case i64 => k_is)
    (case l64 => k_is)
    (case c64 => k_is)
    (case k64 => k_is)
    (case a65 => k_is)
    (case i65 => k_is)
    (case l65 => k_is)
    (case c65 => k_is)
    (case k65 => k_is)
    (case a66 => k_is)
    (case i66 => k_is)
    (case l66 => k_is)
    (case c66 => k_is)
    (case k66 => k_is)
    (case a67 => k_is)
    (case i67 => k_is)
    (case l67 => k_is)
    (case c67 => k_is)
    (case k67 => k_is)
    (case pg => k_is)
    (case hd => k_is)
    (case po => k_is)
    (case sa => k_is)
    (case mk => k_is)
    (case kc => k_is)
    (case nM => k_is)
    (case nS => k_is)
    (case nF => k_is)
    (case t1 => k_is)
    (case t2 => k_is)
    (case t3 => k_is)
    (case t4 => k_is)
    (case mM => k_is)
    (case z0 => k_is)
    (case z1 => k_is)
    (case z2 => k_is)
    (case z3 => k_is)
    (case z4 => k_is)
    (case z5 => k_is)
    (case z6 => k_is)
    (case z7 => k_is)
    (case z8 => k_is)
    (case z9 => k_is)
    (case z10 => k_is)
    (case z11 => k_is)
    (case z12 => k_is)
    (case z13 => k_is)
    (case z14 => k_is)
    (case z15 => k_is)
    (case z16 => k_is)
    (case z17 => k_is)
    (case z18 => k_is)
