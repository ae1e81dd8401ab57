import PyProof.Rows.All
import Wide.All
import OpenK.AllK
import Wide.FinOn
import HandS.ForMost
import HandS.TupSets
import KE.GoesEnum
import HandS.Style
import KE.KRevSl
import PyProof.ReprRoads
import HandS.OwnEq
import PyProof.InstNe
import HandS.IsInst
import HandS.Walk
import HandS.Zip
import HandS.TupAny
import HandS.Deep
import HandS.Conv
import HandS.More
import HandS.Wide
import HandS.SortRule
import HandS.SortOrd
import KE.KDictSum
import KE.KDictPairs
import PyProof.ReprBulk
import HandS.Strs
import HandS.RaiseMore
import HandS.Flow
import HandS.SortInts
import HandS.TupMul
import HandS.Dict
import HandS.WordsDict
import HandS.SetBool
import KE.DataMinMax
import HandS.NamedTupSort
import KE.KDictZip
import KE.KItemsList
import KE.GoesMore
import HandS.ListItems
import HandS.Rev
import HandS.Iter
import HandS.TupLe
import PySem.Challenge.RW_ringvouch_k44_who_leads_to_whom
set_option Elab.async false
set_option linter.all false
set_option maxRecDepth 100000
namespace RV
open PySem L2
/-! ### lists that rise -/
theorem sorted_eq {α : Type} {f : α → Int} : ∀ {l l' : List α}, l.Pairwise (fun a b => f a < f b) → l'.Pairwise (fun a b => f a < f b) → (∀ x, x ∈ l ↔ x ∈ l') → l = l'
  | [], [], _, _, _ => rfl
  | [], y :: r, _, _, h => nomatch (h y).mpr (List.mem_cons_self ..)
  | x :: r, [], _, _, h => nomatch (h x).mp (List.mem_cons_self ..)
  | x :: l, y :: l', h1, h2, h => by
    rw [List.pairwise_cons] at h1 h2
    have exy : x = y := by
      rcases List.mem_cons.mp ((h x).mp (List.mem_cons_self ..)) with e | e
      · exact e
      · rcases List.mem_cons.mp ((h y).mpr (List.mem_cons_self ..)) with e' | e'
        · exact e'.symm
        · have := h2.1 x e
          have := h1.1 y e'
          omega
    subst exy
    rw [sorted_eq h1.2 h2.2 fun z => ⟨fun hz => ?_, fun hz => ?_⟩]
    · rcases List.mem_cons.mp ((h z).mp (List.mem_cons_of_mem _ hz)) with e | e
      · have := h1.1 z hz
        rw [e] at this; omega
      · exact e
    · rcases List.mem_cons.mp ((h z).mpr (List.mem_cons_of_mem _ hz)) with e | e
      · have := h2.1 z hz
        rw [e] at this; omega
      · exact e
theorem nodup_le {α : Type} [DecidableEq α] : ∀ {l us : List α}, l.Nodup → (∀ x ∈ l, x ∈ us) → l.length ≤ us.length
  | [], _, _, _ => Nat.zero_le _
  | x :: l, us, h, hs => by
    rw [List.nodup_cons] at h
    have hx := hs x (List.mem_cons_self ..)
    have ih : l.length ≤ (us.erase x).length := nodup_le h.2 fun z hz => by
      refine (List.mem_erase_of_ne fun e => ?_).mpr (hs z (List.mem_cons_of_mem _ hz))
      subst e; exact h.1 hz
    have hl := List.length_erase_of_mem hx
    have hp : 0 < us.length := List.length_pos_of_mem hx
    rw [List.length_cons]; omega
/-! ### pairs -/
/-- a pair of marks below b -/
def Pr (b : Int) (p : List Int) : Prop := ∃ x y : Int, p = [x, y] ∧ (0 ≤ x ∧ x < b) ∧ (0 ≤ y ∧ y < b)
abbrev cd (p : List Int) : Int := TS.code 64 p
theorem cd_pair (x y : Int) : cd [x, y] = x * 64 + y := code_pair x y
theorem lt_lex {p q : List Int} (hp : Pr 64 p) (hq : Pr 64 q) (h : cd p < cd q) : HT.lexLt p q = true := by
  obtain ⟨x, y, rfl, hx, hy⟩ := hp
  obtain ⟨x', y', rfl, hx', hy'⟩ := hq
  rw [cd_pair, cd_pair] at h
  rw [HT.lexLt_cons, HT.lexLt_cons, HT.lexLt_nil_nil]
  by_cases e : x = x'
  · rw [if_pos e]
    have : y < y' := by omega
    rw [if_neg (by omega)]; exact decide_eq_true this
  · rw [if_neg e]; exact decide_eq_true (by omega)
theorem lt_of {p q : List Int} (hp : Pr 64 p) (hq : Pr 64 q) (h : cd p ≤ cd q) (ne : p ≠ q) : cd p < cd q := by
  obtain ⟨x, y, rfl, hx, hy⟩ := hp
  obtain ⟨x', y', rfl, hx', hy'⟩ := hq
  have z := pair_lt h ne hx hy hx' hy'
  rw [cd_pair, cd_pair]
  omega
theorem Pr.mono {b c : Int} {p : List Int} (h : Pr b p) (hbc : b ≤ c) : Pr c p := by
  obtain ⟨x, y, e, hx, hy⟩ := h
  exact ⟨x, y, e, by omega, by omega⟩
theorem sorted_lt {l : List (List Int)} (hb : ∀ p ∈ l, Pr 64 p) (nd : l.Nodup) (h : l.Pairwise fun p q => cd p ≤ cd q) : l.Pairwise fun p q => cd p < cd q := by
  have h2 := List.Pairwise.and h nd
  exact List.Pairwise.imp_of_mem (fun {p q} hp hq z => lt_of (hb p hp) (hb q hq) z.1 z.2) h2
theorem adj_rise {l : List (List Int)} (hb : ∀ p ∈ l, Pr 64 p) (h : l.Pairwise fun p q => cd p < cd q) (i : Nat) (p q : List Int) (h1 : l[i]? = some p) (h2 : l[i + 1]? = some q) : HT.lexLt p q = true := by
  obtain ⟨l1, e1⟩ := List.getElem?_eq_some_iff.mp h1
  obtain ⟨l2, e2⟩ := List.getElem?_eq_some_iff.mp h2
  have := List.pairwise_iff_getElem.mp h i (i + 1) l1 l2 (Nat.lt_succ_self _)
  rw [e1, e2] at this
  exact lt_lex (hb p (List.mem_of_getElem? h1)) (hb q (List.mem_of_getElem? h2)) this
/-! ### all pairs, row by row -/
def rowOf (d : Int) (Pd : Int → Int → Bool) (i n : Nat) : List (List Int) := ((List.range n).filter fun (j : Nat) => Pd (i : Int) (j : Int)).map fun (j : Nat) => [d + (i : Int), d + (j : Int)]
def gridOf (d : Int) (Pd : Int → Int → Bool) (m n : Nat) : List (List Int) := (List.range n).flatMap fun (i : Nat) => rowOf d Pd i m
theorem row_next (d : Int) (Pd : Int → Int → Bool) (i n : Nat) : rowOf d Pd i (n + 1) = rowOf d Pd i n ++ (if Pd (i : Int) (n : Int) = true then [[d + (i : Int), d + (n : Int)]] else []) := by
  unfold rowOf
  rw [List.range_succ, List.filter_append, List.map_append]
  by_cases h : Pd (i : Int) (n : Int) = true <;> simp [h]
theorem grid_next (d : Int) (Pd : Int → Int → Bool) (m n : Nat) : gridOf d Pd m (n + 1) = gridOf d Pd m n ++ rowOf d Pd n m := by
  unfold gridOf
  rw [List.range_succ, List.flatMap_append]; simp
theorem row_len (d : Int) (Pd : Int → Int → Bool) (i n : Nat) : (rowOf d Pd i n).length ≤ n := by
  unfold rowOf
  rw [List.length_map]
  exact Nat.le_trans (List.length_filter_le _ _) (by rw [List.length_range]; exact Nat.le_refl _)
theorem grid_len (d : Int) (Pd : Int → Int → Bool) (m : Nat) : ∀ n, (gridOf d Pd m n).length ≤ n * m
  | 0 => by simp [gridOf]
  | n + 1 => by
    have h := grid_len d Pd m n
    have h2 := row_len d Pd n m
    rw [grid_next, List.length_append, Nat.succ_mul]; omega
theorem mem_row {d : Int} {Pd : Int → Int → Bool} {i n : Nat} {p : List Int} : p ∈ rowOf d Pd i n ↔ ∃ j : Nat, j < n ∧ Pd (i : Int) (j : Int) = true ∧ p = [d + (i : Int), d + (j : Int)] := by
  unfold rowOf
  rw [List.mem_map]
  constructor
  · rintro ⟨j, hj, e⟩
    rw [List.mem_filter, List.mem_range] at hj
    exact ⟨j, hj.1, hj.2, e.symm⟩
  · rintro ⟨j, h1, h2, e⟩
    exact ⟨j, List.mem_filter.mpr ⟨List.mem_range.mpr h1, h2⟩, e.symm⟩
theorem mem_grid {d : Int} {Pd : Int → Int → Bool} {m n : Nat} {p : List Int} : p ∈ gridOf d Pd m n ↔ ∃ i j : Nat, i < n ∧ j < m ∧ Pd (i : Int) (j : Int) = true ∧ p = [d + (i : Int), d + (j : Int)] := by
  unfold gridOf
  rw [List.mem_flatMap]
  constructor
  · rintro ⟨i, hi, hp⟩
    obtain ⟨j, h1, h2, h3⟩ := mem_row.mp hp
    exact ⟨i, j, List.mem_range.mp hi, h1, h2, h3⟩
  · rintro ⟨i, j, h1, h2, h3, h4⟩
    exact ⟨i, List.mem_range.mpr h1, mem_row.mpr ⟨j, h2, h3, h4⟩⟩
theorem grid_rise {d : Int} {Pd : Int → Int → Bool} {m n : Nat} (hd : 0 ≤ d) (hm : d + (m : Int) ≤ 64) : (gridOf d Pd m n).Pairwise fun p q => cd p < cd q := by
  unfold gridOf
  rw [List.pairwise_flatMap]
  refine ⟨fun i _ => ?_, ?_⟩
  · unfold rowOf
    rw [List.pairwise_map]
    refine List.Pairwise.imp (fun {a b} (h : a < b) => ?_) (List.Pairwise.filter _ List.pairwise_lt_range)
    rw [cd_pair, cd_pair]; omega
  · refine List.Pairwise.imp (fun {a b} (h : a < b) x hx y hy => ?_) List.pairwise_lt_range
    obtain ⟨j, h1, _, rfl⟩ := mem_row.mp hx
    obtain ⟨k, h2, _, rfl⟩ := mem_row.mp hy
    rw [cd_pair, cd_pair]; omega
theorem grid_pr {d : Int} {Pd : Int → Int → Bool} {m n : Nat} {b : Int} (hd : 0 ≤ d) (hm : d + (m : Int) ≤ b) (hn : d + (n : Int) ≤ b) : ∀ p ∈ gridOf d Pd m n, Pr b p := by
  intro p hp
  obtain ⟨i, j, h1, h2, _, rfl⟩ := mem_grid.mp hp
  exact ⟨_, _, rfl, by omega, by omega⟩
end RV
namespace RV
open PySem PySem.Spec PyProof.Rows L2
set_option maxHeartbeats 4000000 in
theorem meets_en1 {val : Value} {ob : Obj} {HH : Heap → Prop} (B : Begins val ob HH) :
    Meets (Builtin.«enumerate.__new__» ⟨[.type "enumerate", val], []⟩) (fun _ R st => HH st.heap ∧
      R (.ok (.ret (.ref (st.heap.push ob).objs.size)))
        { st with heap := (st.heap.push ob).push { cls := .type "enumerate", data := .fields #[.none, .bool false, .ref st.heap.objs.size, rawInt 0, .none, .none] } }) :=
  .of_wp fun prog w A R st hyp => by
    obtain ⟨hp, gs, dr, tk, os⟩ := st
    obtain ⟨hyp1, hyp2⟩ := hyp
    have hsub := sub_enumerate
    have it1 : ∀ {A' : Around} {E : Value → Shared → Prop} {Q : Value → Shared → Prop}, Q (.ref hp.objs.size) ⟨hp.push ob, gs, dr, tk, os⟩ →
        wpAny (model prog w) A' (pyIter val) Q E ⟨hp, gs, dr, tk, os⟩ := fun q => B.iter prog w _ _ ⟨hp, gs, dr, tk, os⟩ _ hyp1 q
    wp_walk using it1
    refine wpAny_stack_any fun sk => wpAny_pure ?_
    split
    · rename_i cc _ _ _ _ _
      cases (cc == Value.type "enumerate") <;> (wp_walk using it1; exact ⟨_, rfl, hyp2⟩)
    · wp_walk using it1
      exact ⟨_, rfl, hyp2⟩
section
variable {prog : Program} {w : World} {A : Around} {E : Value → Shared → Prop} {s : Shared}
theorem call_en1 {val : Value} {ob : Obj} {HH : Heap → Prop} {Q : Value → Shared → Prop} (B : Begins val ob HH) (hh : HH s.heap)
    (k : ∀ h', IsEnum h' (s.heap.objs.size + 1) s.heap.objs.size 0 .none → h'.get? s.heap.objs.size = some ob → h'.objs.size = s.heap.objs.size + 2 →
      (∀ b o, s.heap.get? b = some o → h'.get? b = some o) → Q (.ref (s.heap.objs.size + 1)) { s with heap := h' }) :
    wpAny (model prog w) A (call (.type "enumerate") [val]) Q E s := by
  refine callType_new F.called_enumerate (by decide) (F.typeCall_enumerate_1 _) (F.newCall_enumerate_1 _) (fun oo => F.args_object_init_2 oo _) F.entry_enumerate_new (meets_en1 B) ⟨hh, ?_⟩
  have z1 : (s.heap.push ob).objs.size = s.heap.objs.size + 1 := Heap.size_push ..
  show _ ∧ _
  rw [z1]
  have z2 : IsEnum ((s.heap.push ob).push { cls := .type "enumerate", data := .fields #[.none, .bool false, .ref s.heap.objs.size, rawInt 0, .none, .none] }) (s.heap.objs.size + 1) s.heap.objs.size 0 .none := by
    have z3 := Heap.get?_push_size (s.heap.push ob) (o := { cls := .type "enumerate", data := .fields #[.none, .bool false, .ref s.heap.objs.size, rawInt 0, .none, .none] }) rfl
    rw [z1] at z3; exact z3
  refine ⟨⟨_, z2, rfl⟩, k _ z2 (Heap.get?_push_of_some _ (Heap.get?_push_size _ B.free)) (by rw [Heap.size_push, z1]) fun b o x => ?_⟩
  exact Heap.get?_push_of_some _ (Heap.get?_push_of_some _ x)
end
/-- enumerate of a tuple: the items in new pairs -/
def IteT (K : PySem.W.Frag) (a : Addr) : It where
  go i H := ∃ (xs : List V) (x : V), SqT K H a xs ∧ xs[i]? = some x
  yld i H v H' := ∃ T x, v = .ref T ∧ H T = none ∧ H' = upd H T (.tup [.int (i : Nat), x]) ∧ ∀ xs, SqT K H a xs → xs[i]? = some x
  stop i H := ∃ xs : List V, SqT K H a xs ∧ xs.length ≤ i
theorem turn_enT {P : Program} {w : World} {K : PySem.W.Frag} {elts : List Expr} {kk : Nat} {tpos : Pos} (a e it : Addr) :
    Turn P w K (.Tuple elts kk tpos) (IteT K a) [e, it] e (fun i h => (∃ old, IsEnum h e it ((i : Nat) : Int) old) ∧ h.IsTupleIter it a i ∧ e ≠ it ∧ a ≠ it ∧ a ≠ e) where
  mem := by simp
  obj := fun i h st b hb => by
    obtain ⟨⟨old, he⟩, ⟨o, ho, hc, hd⟩, _, _⟩ := st
    have eb : b = e ∨ b = it := by simpa using hb
    rcases eb with rfl | rfl
    · exact ⟨_, he, fun v q => nomatch q⟩
    · exact ⟨o, ho, fun v q => by rw [hd] at q; cases q⟩
  keep := fun i h h' st k => let ⟨⟨old, he⟩, hi, hne⟩ := st; ⟨⟨old, k e (by simp) _ he⟩, hi.at fun o q => k it (by simp) o q, hne⟩
  item := by
    intro X hP hw hK hc i pins s σ H E I hf st hg
    subst hP hw hK
    obtain ⟨⟨old, he⟩, hit, hne, hai, hae⟩ := st
    obtain ⟨xs, x, hq, hx⟩ := hg
    obtain ⟨its, rv, p, hz⟩ := I.tuple hq
    obtain ⟨u, hu, ru⟩ := rv.get hx
    have hel : e < s.heap.objs.size := Heap.lt_size he
    have hil : it < s.heap.objs.size := by obtain ⟨_, q, _⟩ := hit; exact Heap.lt_size q
    have hi : i < its.toArray.size := by
      have := (List.getElem?_eq_some_iff.mp hu).1
      simpa using this
    refine wpAny_pyNext_enum_itemD (A := X.A) (Draws.tuple (A := X.A.in1) (show X.A.in1.handled = none from I.ok.hd hc) it a hai its.toArray) he ⟨hit, p⟩ hi hne (by simp [hne, Ne.symm hae]) fun y h' tk hy ho hst hT hsz hk => ?_
    have hyu : y = u := by
      have e1 : its[i]? = some y := by simpa using hy
      rw [hu] at e1
      exact (Option.some.inj e1).symm
    subst hyu
    refine ⟨_, rfl, wpAny_letOwnedTupleGo_enum (s := { s with heap := h', toks := tk + 1 }) ho fun h'' he' sb => ?_⟩
    have hT2 : h''.get? s.heap.objs.size = some { cls := .type "tuple", data := .seq #[.int i tk, y] } := (sb.2 _ (Nat.ne_of_gt hel)).trans hT
    have new : ObjOk X.prog X.w (upd H s.heap.objs.size (.tup [.int (i : Nat), x])) h'' s.heap.objs.size (.tup [.int (i : Nat), x]) :=
      ⟨by show 2 ≤ sizeLine; decide, [.int i tk, y], .cons ⟨_, rfl⟩ (.cons ru .nil), ⟨_, hT2, rfl, _, rfl⟩⟩
    have I1 : Inv X pins σ (upd H s.heap.objs.size (.tup [.int (i : Nat), x])) { s with heap := h'', toks := tk + 1 } := by
      refine I.turnedNew (ch := [e, it]) (fun b ob hb q => ?_) hf (Nat.le_refl _) new
      exact (sb.2 b (fun z => hb (by simp [z]))).trans (hk b ob (fun z => hb (by simp [z])) (fun z => hb (by simp [z])) q)
    refine ⟨.ref s.heap.objs.size, _, I1, rfl, ⟨_, x, rfl, I.hok.fresh (Nat.le_refl _), rfl, fun ys hy => ?_⟩, ⟨⟨y, ?_⟩, hst.1.at fun o q => (sb.2 it (Ne.symm hne)).trans q, hne, hai, hae⟩, fun b hb => ?_⟩
    · rw [I.tuple_inj hy hq]; exact hx
    · rw [show ((i + 1 : Nat) : Int) = (i : Int) + 1 by omega]; exact he'
    · have eb : b = e ∨ b = it := by simpa using hb
      have hb' : b < s.heap.objs.size := by
        rcases eb with z | z <;> rw [z] <;> assumption
      rw [upd_ne (Nat.ne_of_lt hb')]
      exact (hf b hb).1
  done := by
    intro X hP hw hK hc i pins s σ H E I hf st hg
    subst hP hw hK
    obtain ⟨⟨old, he⟩, hit, hne, hai, hae⟩ := st
    obtain ⟨xs, hq, hx⟩ := hg
    obtain ⟨its, rv, p, hz⟩ := I.tuple hq
    obtain ⟨f0, f1, f2, f3, f4, f5⟩ := hf it (by simp)
    have hl := rv.length
    have hT : s.TypeIs (.ref e) "enumerate" := ⟨_, he, rfl⟩
    unfold pyNext
    refine wpAny_bind (wpAny_attempt (wpAny_callSpecial?_slot (name := Str.ofString "__next__") hT F.slot_enumerate_next (wpAny_call_entry F.slot_enumerate_next hT F.entry_enumerate_next ?_ (F.args_enumerate_next_1 _))))
    show wpAny _ _ (field (.ref e) 2 >>= _) _ _ _
    refine wpAny_bind (wpAny_field he rfl (x := .ref it) rfl ?_)
    refine wpAny_bind (wpAny_nextOf_tuple_end (I.ok.hd hc) hit p (by simp; omega) fun h' x he' hx' => ?_)
    obtain ⟨o, ho, hco⟩ := hx'
    refine wpAny_bind (wpAny_isInstance (T := "StopIteration") (b := true) ⟨o, ho, hco⟩ isSubtype_stop ?_)
    exact wpAny_pure ⟨rfl, I.turned (t' := s.toks) (fun b o hb q => he' b o hb q) f0 f1 f3 f4 f5⟩
  self := fun A i s Q E st h => let ⟨⟨_, he⟩, _⟩ := st; wpAny_pyIter_enum he h
def iEnT (K : PySem.W.Frag) (ta : TA) : TI := fun σ H R => ta σ H fun vs H1 => ∃ a xs, vs = [.ref a] ∧ SqT K H1 a xs ∧ R (IteT K a) H1
theorem pi_enT {X : Cx} {e : Expr} {ta : TA} {p pos tpos : Pos} {elts : List Expr} {kk : Nat} (hg : Gl X "enumerate") (hm : X.mg "enumerate" = none) (ha : PA X [e] ta)
    (hs : starEach [e] X.env = [(false, eval e X.env)] := by rfl) : PI X (.Tuple elts kk tpos) (.Call (.Name "enumerate" p) [e] [] pos) (iEnT X.K ta) := by
  refine ⟨fun pins s σ H R I h => Call_ (ld_blt I hg hm boot_enumerate (PyProof.Rows.callWith_type1 (thn (ha.run pos pins s σ H _ I h) fun us s1 ⟨vs, H1, I1, r1, q1⟩ => ?_) hs rfl))⟩
  obtain ⟨a, xs, ex, hq, q⟩ := q1
  subst ex
  cases r1 with
  | cons r rr =>
    cases rr
    cases r
    obtain ⟨its, rv, p', hz⟩ := I1.tuple hq
    have ha0 : a < s1.heap.objs.size := by
      obtain ⟨o, ho, _⟩ := p'
      exact Heap.lt_size ho
    refine call_en1 (begins_tuple a its.toArray) p' fun h' he hit hsz hk => wpAny_pyIter_enum he ?_
    have I2 : Inv X pins σ H1 { s1 with heap := h' } := I1.kept (t' := s1.toks) hk
    refine ⟨s1.heap.objs.size + 1, [s1.heap.objs.size + 1, s1.heap.objs.size], _, _, H1, rfl, I2, turn_enT a (s1.heap.objs.size + 1) s1.heap.objs.size,
      ⟨⟨.none, he⟩, ⟨_, hit, rfl, rfl⟩, Nat.succ_ne_self _, Nat.ne_of_lt ha0, Nat.ne_of_lt (Nat.lt_succ_of_lt ha0)⟩, fun b hb => ?_, q⟩
    have eb : b = s1.heap.objs.size + 1 ∨ b = s1.heap.objs.size := by simpa using hb
    have hle : s1.heap.objs.size ≤ b := by
      rcases eb with z | z
      · rw [z]; exact Nat.le_add_right _ _
      · rw [z]; exact Nat.le_refl _
    exact I1.fpOk hle (I1.hok.fresh hle)
end RV
set_option maxHeartbeats 4000000
namespace RV
open PySem PySem.Spec PyProof.Rows L2 HT
theorem back_places (n : Nat) : Builtin.Slice.slicePlaces ((n : Int) - 1) (-1) (-1) = n := by
  unfold Builtin.Slice.slicePlaces
  rw [if_neg (show ¬ ((-1 : Int) > 0) by decide)]
  by_cases hn : (n : Int) - 1 > -1
  · rw [if_pos hn, show (- -1 : Int) = 1 from rfl, Int.ediv_one]; omega
  · rw [if_neg hn]; omega
theorem back_pick (xs : Array Value) : ((List.range xs.size).filterMap fun (m : Nat) => xs[((xs.size : Int) - 1 + (m : Int) * (-1)).toNat]?).toArray = xs.toList.reverse.toArray := by
  have e0 : ∀ (l : List Nat), (∀ m ∈ l, m < xs.size) → l.filterMap (fun (m : Nat) => xs[((xs.size : Int) - 1 + (m : Int) * (-1)).toNat]?) = (l.map fun k => xs.size - 1 - k).filterMap (xs[·]?) := by
    intro l
    induction l with
    | nil => intro _; rfl
    | cons m r ih =>
      intro hm
      have h1 := hm m (List.mem_cons_self ..)
      have h2 := ih fun z hz => hm z (List.mem_cons_of_mem _ hz)
      rw [List.map_cons, List.filterMap_cons, List.filterMap_cons, h2, show ((xs.size : Int) - 1 + (m : Int) * (-1)).toNat = xs.size - 1 - m by omega]
  have e1 := e0 (List.range xs.size) fun m hm => List.mem_range.mp hm
  rw [e1, PySem.W.krv_range, List.filterMap_reverse, PySem.W.krv_all]
section
variable {prog : Program} {w : World} {A : Around} {E : Value → Shared → Prop} {s : Shared}
theorem applied_back {sl : Addr} {vl vu vs : Value} {n : Nat} {Q : Int × Int × Nat → Shared → Prop} (hs : s.heap.IsSliceOf sl vl vu vs) (pl : IsPart vl none) (pu : IsPart vu none) (ps : IsPart vs (some (-1)))
    (k : Q ((n : Int) - 1, -1, n) s) : wpAny (model prog w) A (Builtin.Slice.sliceApplied (.ref sl) (pure (n : Int))) Q E s := by
  obtain ⟨os, o1, o2, o3⟩ := id hs
  unfold Builtin.Slice.sliceApplied Builtin.Slice.sliceFields
  refine wpAny_bind (wpAny_bind (wpAny_field o1 o3 (x := vl) rfl (wpAny_bind (wpAny_field o1 o3 (x := vu) rfl (wpAny_bind (wpAny_field o1 o3 (x := vs) rfl (wpAny_pure ?_)))))))
  refine wpAny_bind (slicePart_ ps ?_)
  show wpAny _ _ (if ((-1 : Int) == 0) = true then _ else _) _ _ s
  rw [if_neg (by decide)]
  refine wpAny_bind (slicePart_ pl (wpAny_bind (slicePart_ pu (wpAny_bind (wpAny_pure ?_)))))
  show wpAny _ _ (pure ((n : Int) - 1, (-1 : Int), Builtin.Slice.slicePlaces ((n : Int) - 1) (-1) (-1))) _ _ s
  rw [back_places]
  exact wpAny_pure k
theorem item_back {t sl : Addr} {items : Array Value} {vl vu vs : Value} {Q : Value → Shared → Prop} (ht : IsTup s.heap t items) (hs : s.heap.IsSliceOf sl vl vu vs) (pl : IsPart vl none) (pu : IsPart vu none) (ps : IsPart vs (some (-1)))
    (k : Q (.ref s.heap.objs.size) { s with heap := s.heap.push { cls := .type "tuple", data := .seq items.toList.reverse.toArray } })
    (hsz : items.size ≤ sizeLine) : wpAny (model prog w) A (getItem (.ref t) (.ref sl)) Q E s := by
  have hok : sizeOk (.seq items.toList.reverse.toArray) := by
    show items.toList.reverse.toArray.size ≤ sizeLine
    simpa using hsz
  obtain ⟨os, o1, o2, o3⟩ := id hs
  have hTs : s.TypeIs (.ref sl) "slice" := ⟨os, o1, o2⟩
  unfold getItem
  try with_reducible refine wpAny_holding ?_
  first | refine wpAny_bind (wpAny_pure ?_) | skip
  refine wpAny_bind (wpAny_sequenceKey ht.typeIs (by decide) ?_)
  refine wpAny_bind (wpAny_callSpecial?_slot (name := Str.ofString "__getitem__") ht.typeIs PyProof.Rows.slot_tuple_getitem (wpAny_call_entry PyProof.Rows.slot_tuple_getitem ht.typeIs entry_tuple_getitem ?_ (args_tuple_getitem _ _)))
  show wpAny _ _ (Builtin.Tuple.tupleItemsOf (.ref t) >>= _) _ _ s
  refine wpAny_bind (tupleItemsOf_ ht (wpAny_bind (wpAny_typeOf hTs ?_)))
  rw [if_pos (by decide)]
  refine wpAny_bind (applied_back hs pl pu ps ?_)
  show wpAny _ _ (if (((items.size : Int) - 1) == 0 && (-1 : Int) == 1 && items.size == items.size) = true then _ else _) _ _ s
  rw [if_neg (by simp), back_pick]
  first
    | exact wpAny_bind (m := Builtin.Tuple.tupleExact _) (wpAny_newObj_type (wpAny_pure ⟨_, rfl, wpAny_pure k⟩) hok)
    | exact wpAny_bind (wpAny_bind (m := Builtin.Tuple.tupleExact _) (wpAny_newObj_type (wpAny_pure (wpAny_pure ⟨_, rfl, wpAny_pure k⟩)) hok))
    | exact wpAny_bind (wpAny_bind (m := Builtin.Tuple.tupleExact _) (wpAny_newObj_type (wpAny_pure ⟨_, rfl, wpAny_pure k⟩) hok))
    | exact wpAny_bind (m := Builtin.Tuple.tupleExact _) (wpAny_newObj_type (wpAny_bind (wpAny_pure (wpAny_pure ⟨_, rfl, wpAny_pure k⟩))) hok)
end
section
variable {X : Cx}
/-- t[::-1] of a tuple -/
def tBackT (K : PySem.W.Frag) (te : TE) : TE := fun σ H Q => te σ H fun x H1 => ∃ a xs, x = .ref a ∧ SqT K H1 a xs ∧ ∀ p, H1 p = none → Q (.ref p) (upd H1 p (.tup xs.reverse))
theorem pe_backT {e : Expr} {te : TE} {k : Nat} {p1 p2 p3 pos : Pos} (he : PE X e te) : PE X (.Subscript e (.Slice none none (some (.UnaryOp .USub (.Constant (.int 1) k p1) p2)) p3) pos) (tBackT X.K te) := by
  refine ⟨fun pins s σ H Q I h => Subscript_ (thn (he.run pins s σ H _ I h) fun v s1 ⟨x, H1, I1, r1, q1⟩ => ?_)⟩
  obtain ⟨a, xs, ex, hx, q⟩ := q1
  subst ex
  cases r1
  have hst : PO X (some (.UnaryOp .USub (.Constant (.int 1) k p1) p2)) (tPart (tUn (rU fun i => .int (-i)) (tC (.int 1)))) := po_some (pe_un un_neg pe_int)
  refine wpAny_Slice (thn (po_none.run pins s1 σ H1 (fun o H2 => o = none ∧ H2 = H1) I1 ⟨rfl, rfl⟩) fun vl s2 ⟨l, H2, I2, pl, el, e2⟩ => ?_)
  subst el e2
  refine thn (po_none.run pins s2 σ H2 (fun o H3 => o = none ∧ H3 = H2) I2 ⟨rfl, rfl⟩) fun vu s3 ⟨u, H3, I3, pu, eu, e3⟩ => ?_
  subst eu e3
  refine thn (hst.run pins s3 σ H3 (fun o H4 => o = some (-1) ∧ H4 = H3) I3 ⟨1, rfl, -1, rfl, rfl, rfl⟩) fun vs s4 ⟨o, H4, I4, ps, eo, e4⟩ => ?_
  subst eo e4
  have I5 : Inv X pins σ H4 { s4 with heap := s4.heap.push { cls := .type "slice", data := .fields #[vl, vu, vs] } } := I4.kept (t' := s4.toks) fun b ob q => Heap.get?_push_of_some _ q
  obtain ⟨its, r, ht, hz⟩ := I5.tuple hx
  have hlen := r.length
  show wpAny (model X.prog X.w) X.A (subscriptTail e _ (.ref a) (.ref s4.heap.objs.size)) (EP X pins σ Q) X.xe { s4 with heap := s4.heap.push { cls := .type "slice", data := .fields #[vl, vu, vs] } }
  refine tail_any (ops := [.ref a, .ref s4.heap.objs.size]) ht.typeIs (PyProof.Rows.slot_tuple_getitem.lookup) ?_ (by with_unfolding_all rfl)
  refine item_back ht (Heap.IsSliceOf.new _ vl vu vs) pl pu ps ?_ (by rw [List.size_toArray]; omega)
  refine ⟨.ref _, _, I5.laid (t' := s4.toks) (o := .tup xs.reverse) (fun b ob q => Heap.get?_push_of_some _ q) (Nat.le_refl _) ?_, rfl, q _ (I5.hok.fresh (Nat.le_refl _))⟩
  exact ⟨by rw [List.length_reverse]; exact hz, its.reverse, r.reverse, IsTup.new _ _⟩
end
end RV
set_option maxHeartbeats 4000000
namespace RV
open PySem PySem.Spec PyProof.Rows L2
/-- as the layer's promise of a def, where no repr runs around -/
structure FnG (P : Program) (w : World) (K : PySem.W.Frag) (mg : Str → Option Value) (base : Heap) (CX : CXT) (k : Nat) (f : Addr) (fd : FuncData) (ps : List Str) (sp : Sp) : Prop where
  many : ∀ vs H Q E, sp vs H Q E → vs.length = ps.length
  goes : ∀ (A : Around) (outer : List Env) (s : Shared) (H : Hp) (args : Args) (us : List Value) (vs : List V) (Q : VK) (E : XK), A.guards = some [] → Room k A → Env0 P w K mg base A outer s H →
    BindsTo s fd args (ps.zip us) → Vals vs us → sp vs H Q E → codeAny (model P w) A (.call (.ref f) args) (CR CX outer P w H s Q E) s
section
variable {P : Program} {w : World} {K : PySem.W.Frag} {mg : Str → Option Value} {base : Heap} {CX : CXT} {k : Nat} {f : Addr} {fd : FuncData} {N ps : List Str} {sp : Sp} {x qual : Str} {st : Stmt}
theorem okG (F : Fun K x qual st f fd) (S : FnScope N ps (defScope st)) (len : ∀ vs H Q E, sp vs H Q E → vs.length = ps.length)
    (body : ∀ (cdv : Value) (A : Around) (outer : List Env) (s : Shared) (H : Hp) (vs : List V) (Q : VK) (E : XK), A.guards = some [] → Room k (A.deeper (envOfC qual (defScope st) s.heap.objs.size f cdv)) → sp vs H Q E →
      ∃ t, PSs (cxOf CX0 P w K mg base N qual (defScope st) f cdv A outer s H E).nox (defBody st) t ∧ t { nx := fun _ H' => Q .non H', rt := Q } (start N vs) H) : FnG P w K mg base CX0 (k + 1) f fd ps sp := by
  obtain ⟨oc, od, kV, doc, pm, an, cdv, ct, osl, rfl, lk, hcd⟩ := F.ex
  refine ⟨len, fun A outer s H args us vs Q E gd hr e0 hb r hsp => ?_⟩
  have KX : K.In s.heap := e0.mod.kin.keeps fun b o z => (e0.bs b o z).1
  have lim : s.heap.NoLimit := e0.mod.nolimit.keeps fun b o z => (e0.bs b o z).1
  have kinds : ∀ y ∈ ps.zip us, (defScope st).names.lookup y.1 = some .local ∨ ((defScope st).names.lookup y.1 = some .cell ∧ ((cellsFrom (s.heap.objs.size + 1) (defScope st).names []).lookup y.1).isSome = true) := by
    rintro ⟨n, v⟩ hy
    exact (S.par n (List.of_mem_zip hy).1).imp id fun q => ⟨q, PySem.W.cellsFrom_some _ _ _ (.inl q)⟩
  refine codeAny_call_function hr.depth (KX _ _ lk) rfl S.co S.gen rfl (PySem.W.codeRec_of KX hcd) (hb _ _ _ _ (wpAny_newFunctionEnv_cells S.kind kinds fun env he s1 z => ?_))
  subst he
  refine ⟨lim.keeps z.toInCall.keep, codeAny_func ?_⟩
  obtain ⟨t, ht, hq⟩ := body cdv A outer s H vs Q E gd (hr.deeper _) hsp
  have I : Inv (cxOf CX0 P w K mg base N qual (defScope st) f cdv A outer s H E) [] (start N vs) H s1 := inv_start S hr.hd e0 (len _ _ _ _ hsp) r z
  refine wpAny_mono (ht.nox.run [] s1 (start N vs) H _ I hq) (fun fl s' hs => ?_) fun e s' hs => hs
  cases fl with
  | ret u =>
    obtain ⟨v, σ', H', J, rv, q⟩ := hs
    exact ⟨v, H', J.os, J.bare, J.base, J.hok, rv, q⟩
  | next =>
    obtain ⟨σ', H', J, q⟩ := hs
    exact ⟨V.non, H', J.os, J.bare, J.base, J.hok, rfl, q⟩
  | brk => exact hs.elim fun _ z => z.elim fun _ y => False.elim y.2
  | cont => exact hs.elim fun _ z => z.elim fun _ y => False.elim y.2
end
section
variable {X : Cx} {CX : CXT} {k : Nat} {f : Addr} {fd : FuncData} {ps : List Str} {sp : Sp} {dvs : List V} {ds : List Value} {E : XK} {x : Str} {p pos : Pos} {e : Expr} {es : List Expr} {t : TA}
/-- f(e, ..) of such a def -/
theorem pe_callG (F : FnG X.prog X.w X.K X.mg X.base CX k f fd ps sp) (gd : X.A.guards = some []) (hr : Room k X.A) (hg : Gl X x) (hm : X.mg x = some (.ref f)) (hk : PySem.W.keepIn X.K (.ref f) = true) (hb : Binds X.K fd ps ds) (hd : Vals dvs ds) (hx : Passes CX X E)
    (ha : PA X (e :: es) t) (hdb : (x == ("__debug__" : Str)) = false := by decide) (he : starEach (e :: es) X.env = (false, eval e X.env) :: starEach es X.env := by rfl) (hpl : (backTo pos (starEach es X.env)).any (·.1) = false := by rfl) :
    PE X (.Call (.Name x p) (e :: es) [] pos) (tCall sp dvs E t) := by
  refine ⟨fun pins s σ H Q I h => wpAny_Call_Name_kw (ld_glob I hg hm ?_ hdb)⟩
  refine PySem.W.callWith_K (h₀ := X.base) I.ok.mod.kin hk (thn (ha.run pos pins s σ H _ I h) fun us s1 ⟨vs, H1, I1, r, q⟩ => ⟨I1.kIn, ?_⟩) he hpl
  have r2 : Vals (vs ++ dvs) (us ++ ds) := r.append hd
  have hl : (us ++ ds).length = ps.length := r2.length ▸ F.many _ _ _ _ q
  refine wpAny_call (codeAny_mono (F.goes X.A X.stack s1 H1 ⟨us, []⟩ (us ++ ds) (vs ++ dvs) Q E gd hr I1.env0 (hb s1 us I1.kIn hl) r2 q) fun rr s' hq => ?_)
  cases rr with
  | error ee => exact hx pins σ H1 s1 ee s' I1 hq
  | ok fl => cases fl <;> first | exact I1.after hq | exact False.elim hq
/-- repr(x), x an object read as data -/
theorem call_reprD (gd : X.A.guards = some []) (hu : X.A.units + 65 < cLine) : CallR X (.builtin "repr") (fun xs H Q => ∃ (a : Addr) (d : PyData), xs = [.ref a] ∧ Dp X.K H (.ref a) d ∧ d.showable = true ∧ d.hasDict = false ∧ d.depth ≤ 64 ∧ d.shown.length ≤ sizeLine ∧ Q (.str d.shown) H) := by
  intro pins s σ H xs us Q I r h
  obtain ⟨a, d, rfl, hd, h1, h2, h3, h4, q⟩ := h
  obtain ⟨u, rfl, ru⟩ := vals1 r
  cases ru
  obtain ⟨as, rd⟩ := Dp.reads I d (.ref a) (.ref a) hd rfl
  refine repr_of_reads' rd h1 (fun z => by rw [h2] at z; cases z) gd (by omega) (fun _ _ z => z) (fun h' uu tk k => ?_) h4
  exact ⟨.str d.shown, H, I.kept k, ⟨uu, rfl⟩, q⟩
end
section
/-- the law's call, from such a promise -/
theorem law_callG {P : Program} {w : World} {K : PySem.W.Frag} {mg mb : Str → Option Value} {k : Nat} {fa a : Addr} {fd : FuncData} {x : Str} {sp : Sp} {st : Shared} {vs : List Value} {ns : List Int}
    (KX : K.In st.heap) (n1 : st.heap.Ns mainGlobals mg) (n2 : st.heap.Ns builtinsNs mb) (n3 : ∀ x : Str, x ≠ "__name__" → mb x = bootBuiltins x) (n4 : st.heap.NoLimit) (n5 : st.gens = #[])
    (ha : st.heap.get? a = some { cls := .type "list", data := .seq vs.toArray }) (hi : IntsAre vs ns) (hl : ns.length ≤ sizeLine) (hr : Room k callerA)
    (F : ∀ base : Heap, K.In base → base.Ns mainGlobals mg → FnG P w K mg base CX0 k fa fd [x] sp) (bnd : ∀ (s : Shared) (u : Value), BindsTo s fd ⟨[u], []⟩ [(x, u)])
    (hsp : ∀ H : Hp, Only H → SqL K H a (ns.map V.int) → sp [.ref a] H (fun v _ => v = .bl true) fun _ _ _ => False) :
    codeAny (model P w) callerA (.call (.ref fa) ⟨[.ref a], []⟩) (fun r s' => r = .ok (.ret (.bool true)) ∧ OldK st.heap s'.heap ∧ s'.os = st.os ∧ AllBare s'.gens) st := by
  have rv := vals_ints hi
  have lv := hi.length
  have key : ∀ H : Hp, Only H → SqL K H a (ns.map V.int) → HOk P w H st.heap → (∀ b, H b ≠ none → b = a) → (H a ≠ none → K.lookup a = none) →
      codeAny (model P w) callerA (.call (.ref fa) ⟨[.ref a], []⟩) (fun r s' => r = .ok (.ret (.bool true)) ∧ OldK st.heap s'.heap ∧ s'.os = st.os ∧ AllBare s'.gens) st := by
    intro H hO hS hok hA hK
    have noA : ∀ {b : Addr} {o : Obj} {es : Array DictEntry} {ep : Nat}, st.heap.get? b = some o → o.data = .dict es ep → H b = none := by
      intro b o es ep e d
      cases q : H b with
      | none => rfl
      | some u =>
        obtain rfl : b = a := hA b (by rw [q]; simp)
        rw [ha] at e
        cases e
        cases (show Data.seq vs.toArray _ = Data.dict es ep from d)
    have nsK : ∀ {b : Addr} {m : Str → Option Value}, st.heap.Ns b m → (hidT st.heap H).Ns b m := fun {b m} ⟨o, es, ep, e, d, r⟩ => ⟨o, es, ep, hidT_get e (noA e d), d, r⟩
    have kb : K.In (hidT st.heap H) := fun b o e => hidT_get (KX b o e) (by
      cases q : H b with
      | none => rfl
      | some u =>
        obtain rfl : b = a := hA b (by rw [q]; simp)
        rw [hK (by rw [q]; simp)] at e
        cases e)
    obtain ⟨mc, l1, l2⟩ := n4
    have e0 : Env0 P w K mg (hidT st.heap H) callerA [] st H :=
      ⟨rfl, ⟨kb, nsK n1, ⟨mb, nsK n2, n3⟩, ⟨mc, nsK l1, l2⟩⟩, fun b o e => of_hidT e, Nat.le_of_eq (hidT_size _ _), trivial, fun b hb => absurd (show b ∈ ([] : List Addr) from hb) (by simp), hok, .of_eq n5⟩
    refine codeAny_mono ((F _ kb (nsK n1)).goes callerA [] st H ⟨[.ref a], []⟩ [.ref a] [.ref a] _ _ rfl hr e0 (bnd st (.ref a)) (.cons rfl .nil) (hsp H hO hS)) fun r s' h => ?_
    cases r with
    | error e => exact False.elim h
    | ok fl =>
      cases fl with
      | next => exact False.elim h
      | brk => exact False.elim h
      | cont => exact False.elim h
      | ret u =>
        obtain ⟨v, H', os, bare, un, hok', r', q⟩ := h
        obtain rfl : v = .bl true := q
        obtain rfl : u = Value.bool true := r'
        refine ⟨rfl, OldK.of_keep fun b o e => ?_, os, bare⟩
        rcases hO b with z | ⟨ob, xs, z⟩
        · exact un.keep b o e z (fun y => absurd (show b ∈ ([] : List Addr) from y) (by simp)) (by simp)
        · have z2 := un.frzs b ob _ z
          obtain ⟨e1, _⟩ := hok b _ z
          obtain ⟨e2, _⟩ := hok' b _ z2
          rw [e] at e1
          cases e1
          exact e2
  cases hk : K.lookup a with
  | some o =>
    have e := KX a o hk
    rw [ha] at e
    cases e
    exact key (fun _ => none) (fun _ => .inl rfl) (.inr ⟨_, vs.toArray, _, hk, rfl, rfl, rfl, by rw [List.size_toArray, lv]; exact hl, by simpa using rv⟩)
      (fun b u z => by cases (show (none : Option HO) = some u from z)) (fun b z => absurd rfl z) fun z => absurd rfl z
  | none =>
    refine key (fun b => if b = a then some (.frz { cls := .type "list", data := .seq vs.toArray } (.lst (ns.map V.int))) else none) (fun b => ?_) (.inl (.inr ⟨{ cls := .type "list", data := .seq vs.toArray }, if_pos rfl⟩)) (fun b u z => ?_) (fun b z => ?_) fun _ => hk
    · by_cases hb : b = a
      · exact .inr ⟨_, _, if_pos hb⟩
      · exact .inl (if_neg hb)
    · by_cases hb : b = a
      · cases (if_pos hb).symm.trans z
        subst hb
        exact ⟨ha, by rw [List.length_map]; exact hl, vs, _, rv, ha⟩
      · cases (if_neg hb).symm.trans z
    · exact Classical.byContradiction fun hb => z (if_neg hb)
theorem walk_G {l : PySem.W.OpenLaw} {n k : Nat} {q : Program} {loose : List Str} {XP : (Str → Option Value) → Heap → Prop} {YP : World → Heap → Prop} {d : DefRec} {K : Params → PySem.W.Frag} {sp : World → Sp} {x : Str}
    (hn : l.most = some n) (hn2 : n ≤ sizeLine) (hdf : d.params.defaults = []) (hr : Room k callerA) (hY : ∀ (w : World) (h : Heap), YP w h → (K w.params).In h)
    (F : ∀ (w : World) (mg : Str → Option Value) (fa : Addr) (h : Heap), (K w.params).In h → h.Ns mainGlobals mg → mg d.name = some (.ref fa) →
      ∃ fd : FuncData, (∀ (s : Shared) (u : Value), BindsTo s fd ⟨[u], []⟩ [(x, u)]) ∧ ∀ base : Heap, (K w.params).In base → base.Ns mainGlobals mg → FnG l.prog w (K w.params) mg base CX0 k fa fd [x] (sp w))
    (hsp : ∀ (w : World) (H : Hp) (a : Addr) (ns : List Int), ns.length ≤ n → Only H → SqL (K w.params) H a (ns.map V.int) → sp w [.ref a] H (fun v _ => v = .bl true) fun _ _ _ => False) :
    PySem.W.WalkO q loose XP YP l.row.toRowW d [] (fun f vs => PySem.call f vs) := by
  refine Att.attach_call hn hdf fun w s₀ st mg mb fa o pm cd doc a vs ns G Y ho hd hcd hmg hobj hints hlen hg => ?_
  obtain ⟨fd, hb, hF⟩ := F w mg fa _ (hY w _ Y) G.T.g hmg
  exact law_callG (hY w _ Y) G.T.g G.T.b G.T.builtins G.T.nolimit hg hobj hints (Nat.le_trans hlen hn2) hr hF hb fun H hO hS => hsp w H a ns hlen hO hS
end
end RV
set_option maxHeartbeats 4000000
namespace RV
open PySem PySem.Spec PyProof.Rows L2 PySem.W
section
variable {prog : Program} {w : World} {A : Around} {E : Value → Shared → Prop} {s : Shared} {K : Frag} {x C L f : Addr} {h₀ : Heap} {m : Str → Option Value} {ox : Obj} {od : Option Obj} {b tb : Value}
theorem ne_bound {Q : Option Value → Shared → Prop} (X : K.In s.heap) (I : InstAt s.heap x ox C od) (hs : findIn K (.ref C) "__ne__" = some (some (.builtin "object.__ne__")))
    (h : wpAny (model prog w) A (call (.builtin "object.__ne__") [.ref x, b]) (fun v => Q (some v)) E s) : wpAny (model prog w) A (callSpecialIfBound? (.ref x) "__ne__" [b]) Q E s := by
  simp only [callSpecialIfBound?, bindSpecialIfBound?]
  refine wpAny_holding (wpAny_bind (wpAny_bind (wpAny_bind (I.type.here ((looks_findIn X hs).here ?_)))))
  refine wpAny_bind (wpAny_askSetting (wpAny_ite ?_))
  have fin : wpAny (model prog w) A (call (.builtin "object.__ne__") ([.ref x] ++ [b]) >>= fun v => pure (some v)) Q E s :=
    wpAny_bind (wpAny_mono h (fun v s' z => wpAny_pure z) fun _ _ z => z)
  split
  · rw [F.cmp_object.ne.bind]
    exact wpAny_bind (wpAny_pure (wpAny_pure fin))
  · rw [F.cmp_object.ne.bind]
    exact wpAny_tryCatch (wpAny_bind (wpAny_pure (wpAny_pure fin)))
theorem obj_ne {Q : Fin → Shared → Prop} (X : K.In s.heap) (hu : A.units < cLine) (I : InstAt s.heap x ox C od) (hs : findIn K (.ref C) "__eq__" = some (some (.ref f))) (hf : isFn K (.ref f) = true)
    (h : wpAny (model prog w) A (call (.ref f) [.ref x, b]) (fun v s' => ∃ c, v = .bool c ∧ Q (.done (.ret (.bool (!c)))) s') E s) :
    wpAny (model prog w) A (Builtin.«object.__ne__» ⟨[.ref x, b], []⟩) Q E s := by
  unfold Builtin.«object.__ne__»
  repeat (first
    | with_reducible refine wpAny_cRoomFor hu ?_
    | (refine wpAny_bind (m := callSpecialIfBound? (.ref x) (Str.ofString "__eq__") [b])
        (ifBound_K X I hs hf (wpAny_mono h (fun r s' hr => by
          obtain ⟨c, rfl, hq⟩ := hr
          repeat (first | exact hq | exact wpAny_pure hq | exact wpAny_truthy_bool hq | (refine wpAny_bind (m := truthy (.bool _)) (wpAny_truthy_bool ?_)) | wp_step)) fun _ _ z => z)))
    | wp_step)
theorem cmp_ne {Q : Value → Shared → Prop} (hu : A.units + 1 < cLine) (F0 : Fr h₀ L s.heap m) (X₀ : K.In h₀) (I : InstAt s.heap x ox C od) (hb : Looks (model prog w) s.heap (typeOf b) (.ref C))
    (hn : findIn K (.ref C) "__ne__" = some (some (.builtin "object.__ne__"))) (hm : mroIn K C (.type "object") = some true)
    (hs : findIn K (.ref C) "__eq__" = some (some (.ref f))) (hf : isFn K (.ref f) = true)
    (h : wpAny (model prog w) A.in1 (call (.ref f) [.ref x, b]) (fun v s' => ∃ c, v = .bool c ∧ Q (.bool (!c)) s') E s) : wpAny (model prog w) A (richCompare .NotEq (.ref x) b) Q E s := by
  have X := X₀.keeps F0.keep
  have one : wpAny (model prog w) A (tryCompare (.ref x) "__ne__" b) (fun r s' => ∃ v, r = some v ∧ Q v s') E s := by
    unfold tryCompare
    refine wpAny_bind (ne_bound X I hn (wpAny_call (codeAny_call_builtin F.cmp_object.ne.plain F.cmpEntry_ne ?_)))
    refine check_slot F.cmpKind_ne F.cmpSplit_ne ?_ (F.cmpArgs_ne _ _) ?_
    · exact I.type.andThen (looks_mroIn X hm)
    · refine obj_ne (A := A.in1) X hu I hs hf (wpAny_mono h (fun v s' hv => ?_) fun _ _ z => z)
      obtain ⟨c, rfl, hq⟩ := hv
      exact ⟨c, rfl, wpAny_pure ⟨_, rfl, hq⟩⟩
  unfold richCompare
  simp only [oneThing_ref]
  refine wpAny_holding (wpAny_bind (wpAny_cRoomFor (Nat.lt_of_succ_lt hu) ?_))
  rw [cmpInfo_NotEq]
  dsimp only
  refine wpAny_bind (I.type.here (wpAny_bind (hb.here ?_)))
  rw [show (Value.ref C != Value.ref C) = false from by simp]
  simp only [Bool.false_eq_true, if_false]
  refine wpAny_bind (wpAny_pure ?_)
  simp only [Bool.false_eq_true, if_false]
  refine wpAny_bind (wpAny_mono one (fun r s' z => ?_) fun _ _ z => z)
  obtain ⟨v, rfl, hq⟩ := z
  exact wpAny_pure hq
end
section
variable {X : Cx} {CX : CXT} {n : Nat} {C f : Addr} {fd : FuncData} {ps : List Str} {sp : Sp} {E : XK}
/-- x != y, instances of the class at C, by the text's own == -/
def rNeI (C : Addr) (sp : Sp) (E : XK) : R2 := fun x y H Q => ∃ a b dx dy fs gs, x = .ref a ∧ y = .ref b ∧ H a = some (.ins C dx fs) ∧ H b = some (.ins C dy gs) ∧ sp [.ref a, .ref b] H (fun v H' => ∃ c, v = .bl c ∧ Q (.bl (!c)) H') E
def rEqI (C : Addr) (sp : Sp) (E : XK) : R2 := fun x y H Q => ∃ a b dx dy fs gs, x = .ref a ∧ y = .ref b ∧ H a = some (.ins C dx fs) ∧ H b = some (.ins C dy gs) ∧ sp [.ref a, .ref b] H (fun v H' => ∃ c, v = .bl c ∧ Q (.bl c) H') E
theorem op_neI (G : FnOk X.prog X.w X.K X.mg X.base CX n f fd ps sp) (hr : Room (n + 1) X.A) (hn : findIn X.K (.ref C) "__ne__" = some (some (.builtin "object.__ne__"))) (hm : mroIn X.K C (.type "object") = some true)
    (hs : findIn X.K (.ref C) "__eq__" = some (some (.ref f))) (hf : isFn X.K (.ref f) = true) (hb : Binds X.K fd ps []) (hx : Passes CX X E) : OpR X (compareOp .NotEq) (rNeI C sp E) := by
  intro pins s σ H x y v u Q I rx ry hq
  obtain ⟨a, b, dx, dy, fs, gs, rfl, rfl, ha, hb', q⟩ := hq
  cases rx
  cases ry
  obtain ⟨mA, J, _⟩ := ins_get I.hok ha
  obtain ⟨mB, J', _⟩ := ins_get I.hok hb'
  obtain ⟨od, J, _⟩ := J.look
  obtain ⟨od', J', _⟩ := J'.look
  obtain ⟨m, hF⟩ := I.fr
  show wpAny (model X.prog X.w) X.A (richCompare .NotEq (.ref a) (.ref b)) (EP X pins σ Q) X.xe s
  refine cmp_ne (by have := hr.un; omega) hF I.ok.mod.kin J J'.type hn hm hs hf ?_
  have hl := G.len _ _ _ _ q
  have r2 : Vals [V.ref a, V.ref b] [Value.ref a, Value.ref b] := .cons rfl (.cons rfl .nil)
  refine wpAny_call (codeAny_mono (G.run X.A.in1 X.stack s H ⟨[.ref a, .ref b], []⟩ [.ref a, .ref b] [.ref a, .ref b] _ E hr.in1 I.env0.in1 (by simpa using hb s [.ref a, .ref b] I.kIn (by simpa using hl)) r2 q) fun r s' hq => ?_)
  cases r with
  | error e => exact hx pins σ H s e s' I hq
  | ok fl =>
    cases fl with
    | ret w =>
      obtain ⟨z, H', I', rz, c, ez, ex⟩ := I.after hq
      subst ez
      cases rz
      exact ⟨c, rfl, .bl (!c), H', I', rfl, ex⟩
    | next => exact False.elim hq
    | brk => exact False.elim hq
    | cont => exact False.elim hq
theorem op_eqI (G : FnOk X.prog X.w X.K X.mg X.base CX n f fd ps sp) (hr : Room n X.A)
    (hs : findIn X.K (.ref C) "__eq__" = some (some (.ref f))) (hf : isFn X.K (.ref f) = true) (hb : Binds X.K fd ps []) (hx : Passes CX X E) : OpR X (compareOp .Eq) (rEqI C sp E) := by
  intro pins s σ H x y v u Q I rx ry hq
  obtain ⟨a, b, dx, dy, fs, gs, rfl, rfl, ha, hb', q⟩ := hq
  cases rx
  cases ry
  obtain ⟨mA, J, _⟩ := ins_get I.hok ha
  obtain ⟨mB, J', _⟩ := ins_get I.hok hb'
  obtain ⟨od, J, _⟩ := J.look
  obtain ⟨od', J', _⟩ := J'.look
  obtain ⟨m, hF⟩ := I.fr
  show wpAny (model X.prog X.w) X.A (richCompare .Eq (.ref a) (.ref b)) (EP X pins σ Q) X.xe s
  refine PySem.W.cmp_K (op := .Eq) (tb := .ref C) hr.units0 hF I.ok.mod.kin J J'.type (by simp [PySem.W.notFirst]) hs hf ?_
  have hl := G.len _ _ _ _ q
  have r2 : Vals [V.ref a, V.ref b] [Value.ref a, Value.ref b] := .cons rfl (.cons rfl .nil)
  refine wpAny_call (codeAny_mono (G.run X.A X.stack s H ⟨[.ref a, .ref b], []⟩ [.ref a, .ref b] [.ref a, .ref b] _ E hr I.env0 (by simpa using hb s [.ref a, .ref b] I.kIn (by simpa using hl)) r2 q) fun r s' hq => ?_)
  cases r with
  | error e => exact hx pins σ H s e s' I hq
  | ok fl =>
    cases fl with
    | ret w =>
      obtain ⟨z, H', I', rz, c, ez, ex⟩ := I.after hq
      subst ez
      cases rz
      exact ⟨.bl c, H', I', rfl, ex⟩
    | next => exact False.elim hq
    | brk => exact False.elim hq
    | cont => exact False.elim hq
end
end RV
set_option maxHeartbeats 4000000
/-! set(xs) of tuples of ints, xs of any length, where few of them are unlike -/
namespace RV
open PySem PySem.Spec PyProof.Rows L2
/-- fewer than 63 unlike ones -/
def FewUnlike (ks : List (Addr × List Int)) : Prop := ∀ L : List (Addr × List Int), (L.map (·.2)).Nodup → (∀ p ∈ L, p ∈ ks) → L.length + 1 < 64
abbrev noneYet (w : World) : Obj := { cls := .type "set", dict := none, data := .set #[] 0 (.fresh 0 0 (!w.params.followText "set-order")) }
section
variable {P : Program} {w : World} {A : Around} {E : Value → Shared → Prop} {s : Shared}
theorem setN_loop {R : Result → Shared → Prop} (hh : A.in1.handled = none) (S l it : Addr) (hSl : S ≠ l) (hSi : S ≠ it) (hli : l ≠ it) (items : Array Value) (ks : List (Addr × List Int)) (few : FewUnlike ks)
    (refs : ∀ (i : Nat) (p : Addr × List Int), ks[i]? = some p → items[i]? = some (Value.ref p.1)) (size : items.size = ks.length) (old : Heap) (tups : ∀ p ∈ ks, IsT P w old p.2 p.1) (o1 : old.get? S = none) (o2 : old.get? it = none) (hu : A.in1.units < cLine) :
    ∀ (k i : Nat) (s : Shared), ks.length - i = k → i ≤ ks.length → s.heap.IsListIter it l i → s.heap.IsList l items → (∀ b o, old.get? b = some o → s.heap.get? b = some o) → (∃ L es ep t, SetTR P w s.heap S L es ep t ∧ Got ks i L) →
      (∀ h' tk L es ep t, SetTR P w h' S L es ep t → Got ks ks.length L → (∀ b o, old.get? b = some o → h'.get? b = some o) → R (.ok (.ret .none)) { s with heap := h', toks := tk }) →
      codeAny (model P w) A (.builtin "set.update.loop" ⟨[.ref S, .ref it], []⟩) R s
  | 0, i, s, hk, hi, hit, hl, keep, ⟨L, es, ep, t, hS, got⟩, fin => by
    obtain rfl : i = ks.length := by omega
    refine codeAny_builtin F.entry_set_update_loop ?_
    rw [Around.under_plainId F.plain_set_update_loop _]
    show wpAny _ A.in1 (pyNext (.ref it) >>= _) _ _ s
    refine wpAny_bind (wpAny_pyNext_list_end hh hit hl (by simp [size]) fun h' ext => ?_)
    have keep' : ∀ b o, old.get? b = some o → h'.get? b = some o := fun b o e => ext b o (fun z => by rw [z, o2] at e; cases e) (keep b o e)
    exact wpAny_pure (fin h' s.toks L es ep t (hS.keep (fun o e => ext S o hSi e) fun p hp => isT_keep (tups p (List.mem_of_mem_take (got.sub p hp))) keep') got keep')
  | k + 1, i, s, hk, hi, hit, hl, keep, ⟨L, es, ep, t, hS, got⟩, fin => by
    obtain ⟨p, hp⟩ : ∃ p, ks[i]? = some p := ⟨_, List.getElem?_eq_getElem (by omega)⟩
    refine codeAny_builtin F.entry_set_update_loop ?_
    rw [Around.under_plainId F.plain_set_update_loop _]
    show wpAny _ A.in1 (pyNext (.ref it) >>= _) _ _ s
    refine wpAny_bind (wpAny_pyNext_list_item hit hl (refs i p hp) fun h1 hit1 sb1 => ?_)
    have keep1 : ∀ b o, old.get? b = some o → h1.get? b = some o := fun b o e => (sb1.2 b fun z => by rw [z, o2] at e; cases e).trans (keep b o e)
    have inKs : ∀ q ∈ L, q ∈ ks := fun q hq => List.mem_of_mem_take (got.sub q hq)
    have hS1 : SetTR P w h1 S L es ep t := hS.keep (fun o e => (sb1.2 S hSi).trans e) fun q hq => isT_keep (tups q (inKs q hq)) keep1
    have hT : IsT P w h1 p.2 p.1 := isT_keep (tups p (List.mem_of_getElem? hp)) keep1
    show wpAny _ A.in1 (holding [Value.ref p.1] (setAdd S (.ref p.1)) >>= _) _ _ _
    refine wpAny_bind (wpAny_holding ?_)
    unfold setAdd
    refine wpAny_holding (wpAny_bind (wpAny_pyHash_tuple hu hT ?_))
    refine add_at (s := { s with heap := h1, toks := s.toks + (p.2.length + 1) }) hS1 hT hu (few L hS1.nd inKs) fun b h2 L2 es2 ep2 t2 sb2 hS2 yes no => ?_
    have got2 : Got ks (i + 1) L2 := by
      by_cases c : p.2 ∈ L.map (·.2)
      · rw [yes c]; exact got.same hp c
      · exact got.more hp (no c)
    have keep2 : ∀ b o, old.get? b = some o → h2.get? b = some o := fun b o e => (sb2.2 b fun z => by rw [z, o1] at e; cases e).trans (keep1 b o e)
    refine wpAny_pure ⟨plainId_quiet F.plain_set_update_loop _, setN_loop hh S l it hSl hSi hli items ks few refs size old tups o1 o2 hu k (i + 1) _ (by omega) (by omega)
      (hit1.at fun o e => (sb2.2 it (Ne.symm hSi)).trans e) ((hl.at fun o e => (sb1.2 l hli).trans e).at fun o e => (sb2.2 l (Ne.symm hSl)).trans e) keep2 ⟨L2, es2, ep2, t2, hS2, got2⟩ fun h' tk L' es' ep' t' z1 z2 z3 => ?_⟩
    exact fin h' tk L' es' ep' t' z1 z2 z3
set_option maxHeartbeats 8000000 in
theorem call_setN {l : Addr} {items : Array Value} (ks : List (Addr × List Int)) {Q : Value → Shared → Prop} (hh : A.handled = none) (hl : s.heap.IsList l items) (refs : items.toList = ks.map fun p => Value.ref p.1)
    (tups : ∀ p ∈ ks, IsT P w s.heap p.2 p.1) (few : FewUnlike ks) (hu : A.units + 3 < cLine)
    (k : ∀ (h' : Heap) (tk : Nat) L es ep t, SetTR P w h' s.heap.objs.size L es ep t → Got ks ks.length L → (∀ b o, s.heap.get? b = some o → h'.get? b = some o) → Q (.ref s.heap.objs.size) { s with heap := h', toks := tk }) :
    wpAny (model P w) A (call (.type "set") [.ref l]) Q E s := by
  have size : items.size = ks.length := by simpa using congrArg List.length refs
  have refs' : ∀ (i : Nat) (p : Addr × List Int), ks[i]? = some p → items[i]? = some (Value.ref p.1) := fun i p e => by
    rw [← Array.getElem?_toList, refs, List.getElem?_map, e]; rfl
  obtain ⟨c, tl, hm⟩ := F.called_set.mro
  have a1 := F.called_set.made
  have a2 := F.called_set.sub
  have a3 := F.called_set.notType
  have a4 := F.called_set.canCreate
  have a5 := F.typeCall_set_1 (.ref l)
  refine wpAny_call (codeAny_of_tree ?_)
  show wpAny _ _ (callAny (.type "set") _) _ _ _
  refine wpAny_pure ⟨Code.quiet_builtin _ (by decide +kernel), codeAny_builtin F.entry_type_call ?_⟩
  rw [Around.under_plain (weight_type_call_type "set" [.ref l] []) rfl]
  repeat (any_goals (first | assumption | wp_step))
  refine codeAny_mono (code_set_led1 (.ref l) (E := E) (Q₁ := fun obj s₁ => obj = .ref s.heap.objs.size ∧ s₁ = { s with heap := s.heap.push (noneYet w) }) ⟨rfl, rfl⟩) fun r s₁ hr => ?_
  match r, hr with
  | .error e, hr => exact hr
  | .ok .next, hr => exact hr.elim
  | .ok .brk, hr => exact hr.elim
  | .ok .cont, hr => exact hr.elim
  | .ok (.ret obj), hr =>
    obtain ⟨rfl, rfl⟩ := hr
    have hS : (s.heap.push (noneYet w)).get? s.heap.objs.size = some (noneYet w) := Heap.get?_push_size _ rfl
    have hT : Shared.TypeIs { s with heap := s.heap.push (noneYet w) } (.ref s.heap.objs.size) "set" := ⟨_, hS, rfl⟩
    have b1 := F.called_set.init.lookup
    have b2 := F.called_set.init.bind (.ref s.heap.objs.size)
    repeat (any_goals (first | assumption | wp_step))
    refine codeAny_mono (codeAny_call_builtin (R := wants (fun r s₂ => r = .none ∧ ∃ h' tk L es ep t, s₂ = { s with heap := h', toks := tk } ∧ SetTR P w h' s.heap.objs.size L es ep t ∧ Got ks ks.length L ∧
        (∀ b o, s.heap.get? b = some o → h'.get? b = some o)) E) F.called_set.init.plain F.entry_set_init (check_set_init_1 hT ?_)) fun r₂ s₂ hr₂ => ?_
    · obtain ⟨⟨oc, od, dt, os⟩, g1, g2, nl, g3⟩ := hl
      simp only at g2 g3
      subst g2 g3
      have g4 : (s.heap.push (noneYet w)).get? l = some { cls := .type "list", dict := od, data := .seq items nl, slots := os } := Heap.get?_push_of_some _ g1
      have c1 := F.sub_list_set
      have c2 := F.sub_list_frozenset
      have c3 : (Value.type "list" == Value.type "dict") = false := by decide
      have isl : (s.heap.push (noneYet w)).IsList l items := ⟨_, g4, rfl, nl, rfl⟩
      unfold Builtin.«set.__init__» noKeywords Builtin.Frozenset.updateFrom
      generalize hpi : pyIter = pI
      wp_walk
      subst hpi
      refine wpAny_pyIter_list isl (wpAny_bind (wpAny_runValue ?_))
      have lt : l < s.heap.objs.size := Heap.lt_size g1
      have z1 : (s.heap.push (noneYet w)).objs.size = s.heap.objs.size + 1 := Heap.size_push ..
      have none1 : ∀ b, s.heap.objs.size ≤ b → s.heap.get? b = none := fun b hb => by
        cases q : s.heap.get? b with
        | none => rfl
        | some o => exact absurd (Nat.lt_of_lt_of_le (Heap.lt_size q) hb) (Nat.lt_irrefl _)
      refine setN_loop (A := A.in1.in1) (by simp [hh]) s.heap.objs.size l (s.heap.push (noneYet w)).objs.size (Nat.ne_of_gt lt) (by rw [z1]; exact Nat.ne_of_lt (Nat.lt_succ_self _)) (by rw [z1]; exact Nat.ne_of_lt (Nat.lt_succ_of_lt lt)) items ks few refs' size s.heap tups (none1 _ (Nat.le_refl _)) (none1 _ (by rw [z1]; exact Nat.le_succ _)) hu (ks.length - 0) 0 _ rfl (Nat.zero_le _)
        ⟨_, Heap.get?_push_size _ rfl, rfl, rfl⟩ (isl.push _) (fun b o e => Heap.get?_push_of_some _ (Heap.get?_push_of_some _ e)) ⟨[], #[], 0, _, setTR_fresh (Heap.get?_push_of_some _ hS), Got.zero ks⟩ fun h' tk L es ep t q1 q2 q3 => ?_
      show wpAny _ _ _ _ _ _
      refine wpAny_pure ?_
      show wpAny _ _ (ret Value.none) _ _ _
      exact wpAny_pure ⟨rfl, h', tk, L, es, ep, t, rfl, q1, q2, q3⟩
    · match r₂, hr₂ with
      | .error e, hr₂ => exact hr₂
      | .ok .next, hr₂ => exact hr₂.elim
      | .ok .brk, hr₂ => exact hr₂.elim
      | .ok .cont, hr₂ => exact hr₂.elim
      | .ok (.ret r), hr₂ =>
        obtain ⟨rfl, h', tk, L, es, ep, t, rfl, q1, q2, q3⟩ := hr₂
        repeat (any_goals (first | assumption | wp_step))
        exact k _ _ _ _ _ _ q1 q2 q3
end
section
variable {X : Cx}
def rSetN (K : PySem.W.Frag) (P : Program) (w : World) : List V → Hp → VK → Prop := fun xs H Q => ∃ (l : Addr) (ks : List (Addr × List Int)), xs = [V.ref l] ∧ SqL K H l (ks.map fun p => V.ref p.1) ∧ (∀ p ∈ ks, SqT K H p.1 (p.2.map V.int)) ∧ FewUnlike ks ∧
  ∀ a L, H a = none → (∀ p ∈ L, p ∈ ks) → (∀ p ∈ ks, p.2 ∈ L.map (·.2)) → Q (.ref a) (upd H a (SetTO P w a L))
theorem cr_setN (hc : X.calm = true) (hu : X.A.units + 64 < cLine) : CallR X (.type "set") (rSetN X.K X.prog X.w) := by
  intro pins s σ H xs us Q I r h
  obtain ⟨l, ks, rfl, hl, hk, few, q⟩ := h
  rw [Vals.ref1 r]
  obtain ⟨its, rv, pl, hz⟩ := I.list hl
  refine call_setN ks (I.ok.hd hc) pl.isList (by simpa using refs_of_vals rv) (fun p hp => I.isT (hk p hp)) few (by omega) fun h' tk L es ep t R g kp => ?_
  refine ⟨.ref s.heap.objs.size, upd H s.heap.objs.size (SetTO X.prog X.w s.heap.objs.size L), I.laid (t' := tk) kp (Nat.le_refl _) (setTO_new R.t0), rfl, ?_⟩
  exact q _ L (I.hok.fresh (Nat.le_refl _)) (fun p hp => List.mem_of_mem_take (g.sub p hp)) fun p hp => g.all p (by rw [List.take_length]; exact hp)
end
end RV
set_option maxHeartbeats 4000000
namespace RV
open PySem PySem.Spec PyProof.Rows L2
/-! ### heaps -/
theorem same_upd {H : Hp} {p : Addr} {o : HO} (h : H p = none) : Same H (upd H p o) := fun b x e => by
  rw [upd_ne (ne_of_none e h)]
  exact e
theorem sqT_same {K : PySem.W.Frag} {H H' : Hp} {a : Addr} {xs : List V} (e : Same H H') (h : SqT K H a xs) : SqT K H' a xs := SqT.ext h e
theorem sqL_same {K : PySem.W.Frag} {H H' : Hp} {a : Addr} {xs : List V} (e : Same H H') (h : SqL K H a xs) : SqL K H' a xs := SqL.ext h e
theorem tyT {K : PySem.W.Frag} {H : Hp} {a : Addr} {xs : List V} (h : SqT K H a xs) : TyX K H (.ref a) (.type "tuple") := by
  rcases h with (h | ⟨o, h⟩) | ⟨o, its, n, h1, h2, _⟩
  · exact .base (.tup h)
  · exact .fTuple h
  · exact .kTuple h1 h2
theorem tupNew {K : PySem.W.Frag} {H : Hp} {a : Addr} {xs : List V} (h : H a = some (.tup xs)) : SqT K H a xs := .inl (.inl h)
theorem lstNew {K : PySem.W.Frag} {H : Hp} {a : Addr} {xs : List V} (h : H a = some (.lst xs)) : SqL K H a xs := .inl (.inl h)
theorem walk_enT {K : PySem.W.Frag} {a : Addr} {xs : List V} : Walk (IteT K a) xs.length (fun H => SqT K H a xs) (YPair (fun i => some (.int (i : Nat))) (fun i => xs[i]?)) := by
  refine ⟨fun i _ hi q => ⟨xs, xs[i], q, by simp [hi]⟩, fun _ q => ⟨xs, q, Nat.le_refl _⟩, fun i H v H' _ q y => ?_⟩
  obtain ⟨T, x, h1, h2, h3, h4⟩ := y
  exact ⟨T, .int (i : Nat), x, h1, h2, h3, rfl, h4 xs q⟩
theorem walk_zipT {K : PySem.W.Frag} {a b : Addr} {xs ys : List V} {n : Nat} (hn : n = min xs.length ys.length) : Walk (RZ.ItzT K a b) n (fun H => SqT K H a xs ∧ SqT K H b ys) (YPair (fun i => xs[i]?) (fun i => ys[i]?)) := by
  subst hn
  refine ⟨fun i _ hi q => ⟨xs, ys, xs[i]'(by omega), ys[i]'(by omega), q.1, q.2, List.getElem?_eq_getElem _, List.getElem?_eq_getElem _⟩, fun _ q => ⟨xs, ys, q.1, q.2, by omega⟩, fun i H v H' _ q y => ?_⟩
  obtain ⟨T, x, z, h1, h2, h3, h4, h5⟩ := y
  exact ⟨T, x, z, h1, h2, h3, h4 xs q.1, h5 ys q.2⟩
/-- a tuple of tuples of ints -/
def Tups (K : PySem.W.Frag) (H : Hp) (a : Addr) (ps : List (List Int)) : Prop := ∃ ks : List (Addr × List Int), ks.map (·.2) = ps ∧ SqT K H a (ks.map fun p => V.ref p.1) ∧ ∀ p ∈ ks, SqT K H p.1 (p.2.map V.int)
/-- a list of tuples of ints -/
def Lots (K : PySem.W.Frag) (H : Hp) (a : Addr) (ps : List (List Int)) : Prop := ∃ ks : List (Addr × List Int), ks.map (·.2) = ps ∧ SqL K H a (ks.map fun p => V.ref p.1) ∧ ∀ p ∈ ks, SqT K H p.1 (p.2.map V.int)
theorem Tups.same {K : PySem.W.Frag} {H H' : Hp} {a : Addr} {ps : List (List Int)} (h : Tups K H a ps) (e : Same H H') : Tups K H' a ps :=
  let ⟨ks, h1, h2, h3⟩ := h; ⟨ks, h1, sqT_same e h2, fun p hp => sqT_same e (h3 p hp)⟩
theorem Lots.same {K : PySem.W.Frag} {H H' : Hp} {a : Addr} {ps : List (List Int)} (h : Lots K H a ps) (e : Same H H') : Lots K H' a ps :=
  let ⟨ks, h1, h2, h3⟩ := h; ⟨ks, h1, sqL_same e h2, fun p hp => sqT_same e (h3 p hp)⟩
theorem dpInts {K : PySem.W.Frag} {H : Hp} : ∀ ns : List Int, DpAll K H (ns.map V.int) (ns.map PyData.int)
  | [] => .nil
  | n :: r => .cons (.int n) (dpInts r)
def dI (ns : List Int) : PyData := .tuple (ns.map PyData.int)
def dTT (ps : List (List Int)) : PyData := .tuple (ps.map dI)
theorem dpT {K : PySem.W.Frag} {H : Hp} {a : Addr} {ns : List Int} (h : SqT K H a (ns.map V.int)) : Dp K H (.ref a) (dI ns) := .tup h (dpInts ns)
theorem dpTs {K : PySem.W.Frag} {H : Hp} : ∀ ks : List (Addr × List Int), (∀ p ∈ ks, SqT K H p.1 (p.2.map V.int)) → DpAll K H (ks.map fun p => V.ref p.1) ((ks.map (·.2)).map dI)
  | [], _ => .nil
  | p :: r, h => .cons (dpT (h p (List.mem_cons_self ..))) (dpTs r fun q hq => h q (List.mem_cons_of_mem _ hq))
theorem Tups.dp {K : PySem.W.Frag} {H : Hp} {a : Addr} {ps : List (List Int)} (h : Tups K H a ps) : Dp K H (.ref a) (dTT ps) := by
  obtain ⟨ks, rfl, h2, h3⟩ := h
  exact .tup h2 (dpTs ks h3)
theorem map_at {α β : Type} {f : α → β} {l : List α} {i : Nat} {y : β} (h : (l.map f)[i]? = some y) : ∃ x, l[i]? = some x ∧ y = f x := by
  rw [List.getElem?_map] at h
  cases e : l[i]? with
  | none => rw [e] at h; cases h
  | some x => rw [e] at h; exact ⟨x, rfl, (Option.some.inj h).symm⟩
theorem all_true : ∀ n : Nat, (List.replicate n true).all id = true
  | 0 => rfl
  | n + 1 => by rw [List.replicate_succ, List.all_cons, all_true n]; rfl
theorem rep_bl (n : Nat) : List.replicate n (V.bl true) = (List.replicate n true).map V.bl := by rw [List.map_replicate]
theorem rep_next {α : Type} (n : Nat) (x : α) : List.replicate n x ++ [x] = List.replicate (n + 1) x := by rw [List.replicate_succ', ]
theorem tt_yes {σ : L2.St} {H : Hp} {A B : Hp → Prop} (h : A H) : tYes σ H (fun b H3 => if b = true then A H3 else B H3) := iteT (A := A H) (B := B H) h
theorem un65 {k : Nat} {A : Around} (r : Room k A) : A.units + 65 < cLine := by have := r.un; omega
theorem few1 {n : Nat} (h : n ≤ 1000) : n < sizeLine := small1000 h
/-! ### data of ints, tuples of these -/
theorem lay_ints : ∀ ns : List Int, PyData.canLayAll0 (ns.map PyData.int) = true
  | [] => by simp [PyData.canLayAll0]
  | n :: r => by simp [PyData.canLayAll0, PyData.canLay0, lay_ints r]
theorem dep_ints : ∀ ns : List Int, PyData.depthAll (ns.map PyData.int) = 0
  | [] => by simp [PyData.depthAll]
  | n :: r => by simp [PyData.depthAll, PyData.depth, dep_ints r]
theorem dI_lay (ns : List Int) : (dI ns).canLay0 = true := by simp only [dI, PyData.canLay0]; exact lay_ints ns
theorem dI_dep (ns : List Int) : (dI ns).depth = 1 := by simp only [dI, PyData.depth, dep_ints]
theorem lay_dI : ∀ ps : List (List Int), PyData.canLayAll0 (ps.map dI) = true
  | [] => by simp [PyData.canLayAll0]
  | n :: r => by simp [PyData.canLayAll0, dI_lay, lay_dI r]
theorem dep_dI : ∀ ps : List (List Int), PyData.depthAll (ps.map dI) ≤ 1
  | [] => by simp [PyData.depthAll]
  | n :: r => by
    have h := dep_dI r
    simp only [List.map_cons, PyData.depthAll, dI_dep]
    omega
theorem shapedI (ns : List Int) : SeqAt.shaped (dI ns) = true := by
  show ((dI ns).canLay0 && decide ((dI ns).depth ≤ 64)) = true
  rw [dI_lay, dI_dep]; rfl
theorem shapedTT (ps : List (List Int)) : SeqAt.shaped (dTT ps) = true := by
  have h := dep_dI ps
  have e : (dTT ps).depth ≤ 64 := by simp only [dTT, PyData.depth]; omega
  show ((dTT ps).canLay0 && decide ((dTT ps).depth ≤ 64)) = true
  rw [decide_eq_true e, Bool.and_true]
  simp only [dTT, PyData.canLay0]; exact lay_dI ps
theorem eqv_ints : ∀ ns ms : List Int, PyData.eqvAll (ns.map PyData.int) (ms.map PyData.int) = decide (ns = ms)
  | [], [] => by simp [PyData.eqvAll]
  | [], m :: r => by simp [PyData.eqvAll]
  | n :: r, [] => by simp [PyData.eqvAll]
  | n :: r, m :: q => by
    have h := eqv_ints r q
    simp only [List.map_cons, PyData.eqvAll, PyData.eqv, h]
    by_cases e : n = m
    · subst e; by_cases e2 : r = q <;> simp [e2]
    · simp [e]
theorem eqvI (ns ms : List Int) : PyData.eqv (dI ns) (dI ms) = decide (ns = ms) := by simp only [dI, PyData.eqv, eqv_ints]
theorem eqv_dIs : ∀ ns ms : List (List Int), PyData.eqvAll (ns.map dI) (ms.map dI) = decide (ns = ms)
  | [], [] => by simp [PyData.eqvAll]
  | [], m :: r => by simp [PyData.eqvAll]
  | n :: r, [] => by simp [PyData.eqvAll]
  | n :: r, m :: q => by
    have h := eqv_dIs r q
    simp only [List.map_cons, PyData.eqvAll, eqvI, h]
    by_cases e : n = m
    · subst e; by_cases e2 : r = q <;> simp [e2]
    · simp [e]
theorem eqvTT (ns ms : List (List Int)) : PyData.eqv (dTT ns) (dTT ms) = decide (ns = ms) := by simp only [dTT, PyData.eqv, eqv_dIs]
theorem any_dI (p : List Int) : ∀ ps : List (List Int), (ps.map dI).any (fun y => PyData.eqv y (dI p)) = decide (p ∈ ps)
  | [] => rfl
  | q :: r => by
    rw [List.map_cons, List.any_cons, any_dI p r, eqvI]
    by_cases e : q = p
    · subst e; simp
    · have e' : ¬ p = q := fun z => e z.symm
      by_cases e2 : p ∈ r <;> simp [e, e', e2]
section
variable {X : Cx}
/-- t in ts, of tuples of ints -/
def rInTs (K : PySem.W.Frag) : R2 := fun x y H Q => ∃ (a b : Addr) (p : List Int) (ps : List (List Int)), x = .ref a ∧ y = .ref b ∧ SqT K H a (p.map V.int) ∧ Tups K H b ps ∧ Q (.bl (decide (p ∈ ps))) H
theorem op_inTs (hu : X.A.units + 65 < cLine) : OpR X (compareOp .In) (rInTs X.K) := by
  intro pins s σ H x y v u Q I rx ry h
  obtain ⟨a, b, p, ps, rfl, rfl, h1, h2, q⟩ := h
  obtain ⟨as, r1⟩ := Dp.reads I (dI p) (.ref a) v (dpT h1) rx
  obtain ⟨bs, r2⟩ := Dp.reads I (dTT ps) (.ref b) u h2.dp ry
  refine SeqAt.in_tuple_reads (xs := ps.map dI) r2 r1 (lay_dI ps) (dI_lay p) ?_ ⟨.bl _, H, I, rfl, ?_⟩
  · have := Nat.min_le_right (PyData.depthAll (ps.map dI)) (dI p).depth
    have e := dI_dep p
    omega
  · rw [any_dI]; exact q
/-- two tuples of ints, two tuples of tuples of ints compared -/
def rEqI1 (K : PySem.W.Frag) : R2 := fun x y H Q => ∃ (a b : Addr) (p q : List Int), x = .ref a ∧ y = .ref b ∧ SqT K H a (p.map V.int) ∧ SqT K H b (q.map V.int) ∧ Q (.bl (decide (p = q))) H
def rEqTs (K : PySem.W.Frag) : R2 := fun x y H Q => ∃ (a b : Addr) (p q : List (List Int)), x = .ref a ∧ y = .ref b ∧ Tups K H a p ∧ Tups K H b q ∧ Q (.bl (decide (p = q))) H
theorem op_eqI1 (hu : X.A.units + 64 < cLine) : OpR X (compareOp .Eq) (rEqI1 X.K) := by
  intro pins s σ H x y v u Q I rx ry h
  obtain ⟨a, b, p, ps, rfl, rfl, h1, h2, q⟩ := h
  refine op_eqD hu pins s σ H _ _ v u Q I rx ry ⟨dI p, dI ps, dpT h1, dpT h2, shapedI p, shapedI ps, ?_⟩
  rw [eqvI]; exact q
theorem op_eqTs (hu : X.A.units + 64 < cLine) : OpR X (compareOp .Eq) (rEqTs X.K) := by
  intro pins s σ H x y v u Q I rx ry h
  obtain ⟨a, b, p, ps, rfl, rfl, h1, h2, q⟩ := h
  refine op_eqD hu pins s σ H _ _ v u Q I rx ry ⟨dTT p, dTT ps, h1.dp, h2.dp, shapedTT p, shapedTT ps, ?_⟩
  rw [eqvTT]; exact q
end
section
variable {X : Cx} {K : PySem.W.Frag}
/-! the rules whose reading names the written part, for a comprehension's block -/
theorem ix_tupK (h : X.K = K) : IxR X (rIxT K) := h ▸ ix_tup
theorem pg_tupK {es : List Expr} {k : Nat} {t : TGs} {n : Nat} {pos : Pos} (h : X.K = K) (hc : X.calm = true) (hg : PGs X es t)
    (hn : (assignEach es X.env).length = n := by rfl) (hst : (assignEach es X.env).findIdx? (·.1) = none := by rfl) : PG X (.Tuple es k pos) (gTup K n t) := h ▸ pg_tup hc hg hn hst
theorem op_inTsK (h : X.K = K) (hu : X.A.units + 65 < cLine) : OpR X (compareOp .In) (rInTs K) := h ▸ op_inTs hu
theorem op_ltTK (h : X.K = K) (hu : X.A.units < cLine) : OpR X (compareOp .Lt) (rLtT K) := h ▸ op_ltT hu
def rLenS (K : PySem.W.Frag) : List V → Hp → VK → Prop := fun xs H Q => ∃ p ys, xs = [.ref p] ∧ (SqL K H p ys ∨ SqT K H p ys) ∧ Q (.int ys.length) H
theorem call_lenK (h : X.K = K) : CallR X (.builtin "len") (rLenS K) := h ▸ call_len_seq
end
end RV
set_option maxHeartbeats 4000000
namespace K44
open PySem PySem.Spec PyProof.Rows L2 RV
/-! ### the text by places -/
def topS (i : Nat) : Stmt := PySem.Challenge.pw_ringvouch_k44_who_leads_to_whom.main.body.getD i (.Pass ⟨0, 0, 0, 0⟩)
abbrev sLed : Stmt := topS 1
abbrev sParts : Stmt := topS 2
abbrev sPartOf : Stmt := topS 3
abbrev sMirrorPart : Stmt := topS 4
abbrev sIsOwn : Stmt := topS 5
abbrev sOff : Stmt := topS 7
abbrev sMeasure : Stmt := topS 8
abbrev sPeriod : Stmt := topS 9
abbrev sClasses : Stmt := topS 10
abbrev sClassOf : Stmt := topS 11
abbrev sTurning : Stmt := topS 12
abbrev sIsAt : Stmt := topS 17
abbrev sAxisC : Stmt := topS 18
abbrev sAtOnce : Stmt := topS 20
abbrev sOfSteps : Stmt := topS 21
abbrev sEndsBehind : Stmt := topS 22
abbrev sOfWalks : Stmt := topS 23
abbrev sBegin : Stmt := topS 25
abbrev sLeadsInto : Stmt := topS 26
abbrev sBetween : Stmt := topS 27
abbrev sLeastW : Stmt := topS 28
abbrev sHalfS : Stmt := topS 30
abbrev sHalfE : Stmt := topS 31
abbrev sHalfN : Stmt := topS 32
abbrev sMSizes : Stmt := topS 33
abbrev sLeastH : Stmt := topS 34
abbrev sHalfAx : Stmt := topS 35
abbrev sUnf : Stmt := topS 36
abbrev sComeBack : Stmt := topS 38
abbrev sSizes : Stmt := topS 39
abbrev sLeastR : Stmt := topS 40
abbrev sSpan : Stmt := topS 42
abbrev sLead : Stmt := topS 43
abbrev sFarE : Stmt := topS 45
abbrev sLackS : Stmt := topS 46
abbrev sTShifts : Stmt := topS 47
abbrev sLackM : Stmt := topS 48
abbrev sShAxis : Stmt := topS 49
abbrev sGoodSh : Stmt := topS 50
abbrev sMPair : Stmt := topS 51
abbrev sJudged : Stmt := topS 53
abbrev sFirstP : Stmt := topS 54
abbrev sPaperOf : Stmt := topS 55
abbrev sReasonOf : Stmt := topS 56
abbrev sWayTo : Stmt := topS 57
abbrev sMRing : Stmt := topS 58
abbrev sWhole : Stmt := topS 60
abbrev sMark : Stmt := topS 61
abbrev sMarks : Stmt := topS 62
abbrev sMirrors : Stmt := topS 66
abbrev sSteps : Stmt := topS 67
abbrev sStep : Stmt := topS 68
abbrev sRising : Stmt := topS 69
abbrev sBehind : Stmt := topS 70
abbrev sLeads : Stmt := topS 72
abbrev sAsGood : Stmt := topS 73
abbrev sHand : Stmt := topS 75
abbrev sDraw : Stmt := topS 76
abbrev sOf : Stmt := topS 77
abbrev sClosed : Stmt := topS 78
abbrev sDMirrors : Stmt := topS 79
abbrev sRule : Stmt := topS 80
abbrev sTold : Stmt := topS 81
abbrev sMade : Stmt := topS 82
abbrev sLaw : Stmt := topS 83
abbrev sInit : Stmt := inClass (topS 65) 0
abbrev sEq : Stmt := inClass (topS 65) 4
abbrev sMarksM : Stmt := inClass (topS 65) 1
abbrev sMirrorM : Stmt := inClass (topS 65) 2
abbrev sBehindM : Stmt := inClass (topS 65) 3
/-- a def of the text as the top has left it -/
structure DefAt (K : PySem.W.Frag) (mg : Str → Option Value) (x : Str) (st : Stmt) (ps : List Str) (f : Addr) (fd : FuncData) : Prop where
  fn : Fun K x x st f fd
  bi : Binds K fd ps []
  mg : mg x = some (.ref f)
/-- the names that are the interpreter's own -/
structure Bare (mg : Str → Option Value) : Prop where
  len : mg "len" = none
  isinstance : mg "isinstance" = none
  int : mg "int" = none
  bool : mg "bool" = none
  tuple : mg "tuple" = none
  all : mg "all" = none
  enumerate : mg "enumerate" = none
  zip : mg "zip" = none
  range : mg "range" = none
  list : mg "list" = none
  set : mg "set" = none
  sorted : mg "sorted" = none
  abs : mg "abs" = none
  max : mg "max" = none
  min : mg "min" = none
  repr : mg "repr" = none
  dict : mg "dict" = none
  any : mg "any" = none
  str : mg "str" = none
section
variable {P : Program} {w : World} {K : PySem.W.Frag} {mg : Str → Option Value} {base : Heap}
/-! ### is_whole -/
theorem scWhole : FnScope ["thing"] ["thing"] (defScope sWhole) := ⟨rfl, rfl, rfl, by decide +kernel, rfl, by decide +kernel, by decide +kernel⟩
def spWhole : Sp := fun vs H Q _ => ∃ i : Int, vs = [.int i] ∧ Q (.bl true) H
theorem ok_whole {f : Addr} {fd : FuncData} (F : Fun K "is_whole" "is_whole" sWhole f fd) (B : Bare mg) : FnOk P w K mg base CX0 1 f fd ["thing"] spWhole := by
  refine F.ok scWhole (fun vs H Q E h => ?_) (fun cdv A outer s H vs Q E hr h => ?_)
  · obtain ⟨i, rfl, _⟩ := h
    rfl
  · obtain ⟨i, rfl, q⟩ := h
    refine ⟨_, pss_one (ps_ret (pe_and (pe_callB call_isi (by rfl) B.isinstance (by decide +kernel) (pa_cons (pv 0) (pa_cons (pe_bltn (v := .ty "int") (by rfl) B.int boot_int rfl) pa_nil)))
      (pe_one (pe_not (pe_callB call_isi (by rfl) B.isinstance (by decide +kernel) (pa_cons (pv 0) (pa_cons (pe_bltn (v := .ty "bool") (by rfl) B.bool (by decide +kernel) rfl) pa_nil))))))), ?_⟩
    refine ⟨.int i, rfl, .int i, .ty "int", _, _, true, rfl, .ty "int", .base (.int i), kit_ty (by decide +kernel), true, rfl, iteT ?_⟩
    exact ⟨.int i, rfl, .int i, .ty "bool", _, _, false, rfl, .ty "bool", .base (.int i), kit_ty (by decide +kernel), false, rfl, q⟩
/-! ### is_below -/
theorem scMark : FnScope ["thing", "many"] ["thing", "many"] (defScope sMark) := ⟨rfl, rfl, rfl, by decide +kernel, rfl, by decide +kernel, by decide +kernel⟩
def spMark : Sp := fun vs H Q _ => ∃ i n : Int, vs = [.int i, .int n] ∧ 0 ≤ i ∧ i < n ∧ Q (.bl true) H
theorem ok_mark {f fW : Addr} {fd fdW : FuncData} (F : Fun K "is_below" "is_below" sMark f fd) (D : DefAt K mg "is_whole" sWhole ["thing"] fW fdW) (B : Bare mg) : FnOk P w K mg base CX0 2 f fd ["thing", "many"] spMark := by
  have GW : FnOk P w K mg base CX0 1 fW fdW ["thing"] spWhole := ok_whole D.fn B
  refine F.ok scMark (fun vs H Q E h => ?_) (fun cdv A outer s H vs Q E hr h => ?_)
  · obtain ⟨i, n, rfl, _⟩ := h
    rfl
  · obtain ⟨i, n, rfl, h1, h2, q⟩ := h
    refine ⟨_, pss_one (ps_ret (pe_and (pe_call GW hr (by rfl) D.mg D.fn.kp D.bi .nil pass0 (pa_cons (pv 0) pa_nil)) (pe_one (pe_chain op_le op_lt pe_int (pv 0) (pv 1))))), ?_⟩
    refine ⟨.int i, rfl, i, rfl, true, rfl, iteT ?_⟩
    refine ⟨.int i, rfl, 0, i, rfl, rfl, _, rfl, ?_⟩
    rw [decide_eq_true h1]
    refine iteT ⟨.int n, rfl, i, n, rfl, rfl, ?_⟩
    show Q (.bl (decide (i < n))) H
    rw [decide_eq_true h2]
    exact q
/-! ### are_marks -/
theorem scMarks : FnScope ["thing", "many", "mark"] ["thing", "many"] (defScope sMarks) := ⟨rfl, rfl, rfl, by decide +kernel, rfl, by decide +kernel, by decide +kernel⟩
def spMarks (K : PySem.W.Frag) : Sp := fun vs H Q _ => ∃ (a : Addr) (ns : List Int) (n : Int), vs = [.ref a, .int n] ∧ SqT K H a (ns.map V.int) ∧ 0 < ns.length ∧ ns.length ≤ 1000 ∧ (∀ i ∈ ns, 0 ≤ i ∧ i < n) ∧ ∀ H', Same H H' → Q (.bl true) H'
theorem ok_marks {f fM fW : Addr} {fd fdM fdW : FuncData} (F : Fun K "are_marks" "are_marks" sMarks f fd) (DM : DefAt K mg "is_below" sMark ["thing", "many"] fM fdM) (DW : DefAt K mg "is_whole" sWhole ["thing"] fW fdW) (B : Bare mg) :
    FnOk P w K mg base CX0 3 f fd ["thing", "many"] (spMarks K) := by
  have GM : FnOk P w K mg base CX0 2 fM fdM ["thing", "many"] spMark := ok_mark DM.fn DW B
  refine F.ok scMarks (fun vs H Q E h => ?_) (fun cdv A outer s H vs Q E hr h => ?_)
  · obtain ⟨a, ns, n, rfl, _⟩ := h
    rfl
  · obtain ⟨a, ns, n, rfl, hT, h0, hm, hin, q⟩ := h
    refine ⟨_, pss_one (ps_ret (pe_and (pe_callB call_isi (by rfl) B.isinstance (by decide +kernel) (pa_cons (pv 0) (pa_cons (pe_bltn (v := .ty "tuple") (by rfl) B.tuple (by decide +kernel) rfl) pa_nil)))
      (pe_and (pe_cmpR op_gt (pe_callB call_len_seq (by rfl) B.len PySem.boot_len (pa_cons (pv 0) pa_nil)) pe_int (nomark _))
      (pe_one (pe_callB (cr_all rfl) (by rfl) B.all (by decide +kernel) (pa_cons
        (pe_lc (own := [("mark", 2)]) (g := gName 2) (tt := tYes) rfl scMarks.nd (pi_tup (pv 0)) (blkOk_by (N := ["thing", "many", "mark"]) (sc := defScope sMarks) (by decide +kernel)) (fun _ _ _ _ _ => pg_name (i := 2) scMarks.nd rfl (Or.inl rfl)) (fun _ _ _ _ _ => pts_nil)
          (fun _ _ _ _ _ => pe_call GM hr (by rfl) DM.mg DM.fn.kp DM.bi .nil pass0 (pa_cons (pv 2) (pa_cons (pv 1) pa_nil)))) pa_nil)))))), ?_⟩
    refine ⟨.ref a, rfl, .ref a, .ty "tuple", _, _, true, rfl, .ty "tuple", tyT hT, kit_ty (by decide +kernel), true, rfl, iteT ?_⟩
    refine ⟨.ref a, rfl, a, _, rfl, .inr hT, _, _, rfl, rfl, decide (((ns.map V.int).length : Int) > 0), rfl, ?_⟩
    rw [decide_eq_true (show ((ns.map V.int).length : Int) > 0 by rw [List.length_map]; omega)]
    refine iteT ⟨.ref a, rfl, a, rfl, ⟨_, hT⟩, fun D nD => ?_⟩
    refine lc_tup (K := K) (a := a) (xs := ns.map V.int) (fun i H' => Same H H' ∧ H' D = some (.lst (List.replicate i (V.bl true)))) ⟨same_upd nD, upd_same⟩ (fun i H' _ p => sqT_same p.1 hT) (fun i x H' hx p => ?_) fun H' p => ?_
    · obtain ⟨m, hm', rfl⟩ := map_at hx
      have hi : i < ns.length := (List.getElem?_eq_some_iff.mp hm').1
      have hr' := hin m (List.mem_of_getElem? hm')
      refine ⟨rfl, tt_yes ⟨.int m, rfl, .int n, rfl, m, n, rfl, hr'.1, hr'.2, _, p.2, ?_, ?_, ?_⟩⟩
      · rw [List.length_replicate]; exact few1 (by omega)
      · exact fun b o e => by rw [upd_ne (ne_of_none e nD)]; exact p.1 b o e
      · rw [upd_same, rep_next]
    · rw [List.length_map, rep_bl] at p
      refine ⟨D, _, rfl, lstNew p.2, ?_⟩
      rw [all_true]
      exact q H' p.1
end
end K44
set_option maxHeartbeats 4000000
namespace K44
open PySem PySem.Spec PyProof.Rows L2 RV
/-- mirrors of one to eight marks -/
structure Mir (ns : List Int) : Prop where
  pos : 0 < ns.length
  few : ns.length ≤ 8
  inn : ∀ i ∈ ns, 0 ≤ i ∧ i < (ns.length : Int)
  back : ∀ (k : Nat) (m : Int), ns[k]? = some m → ns[m.toNat]? = some (k : Int)
/-- a rising tuple of steps, with their mirror steps -/
structure Stp (ns : List Int) (ps : List (List Int)) : Prop where
  few : ps.length ≤ 64
  pair : ∀ p ∈ ps, ∃ x y : Int, p = [x, y] ∧ (0 ≤ x ∧ x < (ns.length : Int)) ∧ (0 ≤ y ∧ y < (ns.length : Int))
  rise : ∀ (i : Nat) (p q : List Int), ps[i]? = some p → ps[i + 1]? = some q → HT.lexLt p q = true
  mirr : ∀ x y mx my : Int, [x, y] ∈ ps → ns[x.toNat]? = some mx → ns[y.toNat]? = some my → [my, mx] ∈ ps
  nd : ps.Nodup
section
variable {P : Program} {w : World} {K : PySem.W.Frag} {mg : Str → Option Value} {base : Heap}
/-! ### are_mirrors -/
theorem scMirrors : FnScope ["thing", "mark", "mirror"] ["thing"] (defScope sMirrors) := ⟨rfl, rfl, rfl, by decide +kernel, rfl, by decide +kernel, by decide +kernel⟩
def spMirrors (K : PySem.W.Frag) : Sp := fun vs H Q _ => ∃ (a : Addr) (ns : List Int), vs = [.ref a] ∧ SqT K H a (ns.map V.int) ∧ Mir ns ∧ ∀ H', Same H H' → Q (.bl true) H'
theorem ok_mirrors {f fA : Addr} {fd fdA : FuncData} {t : Tok} (F : Fun K "are_mirrors" "are_mirrors" sMirrors f fd) (DA : DefAt K mg "are_marks" sMarks ["thing", "many"] fA fdA) (GA : FnOk P w K mg base CX0 3 fA fdA ["thing", "many"] (spMarks K)) (B : Bare mg)
    (mM : mg "MOST_MARKS" = some (.int 8 t)) : FnOk P w K mg base CX0 4 f fd ["thing"] (spMirrors K) := by
  refine F.ok scMirrors (fun vs H Q E h => ?_) (fun cdv A outer s H vs Q E hr h => ?_)
  · obtain ⟨a, ns, rfl, _⟩ := h
    rfl
  · obtain ⟨a, ns, rfl, hT, hM, q⟩ := h
    refine ⟨_, pss_cons (ps_if (PW.pt (pw_or (pt_not (pt_val (pe_callB call_isi (by rfl) B.isinstance (by decide +kernel) (pa_cons (pv 0) (pa_cons (pe_bltn (v := .ty "tuple") (by rfl) B.tuple (by decide +kernel) rfl) pa_nil)))))
        (pw_or1 (pt_cmpR op_gt (pe_callB call_len_seq (by rfl) B.len PySem.boot_len (pa_cons (pv 0) pa_nil)) (pe_glob (v := .int 8) rfl mM ⟨_, rfl⟩) (nomark _))))) (pss_one (ps_ret pe_bl)) pss_nil)
      (pss_cons (ps_if (pt_not (pt_val (pe_call GA hr (by rfl) DA.mg DA.fn.kp DA.bi .nil pass0 (pa_cons (pv 0) (pa_cons (pe_callB call_len_seq (by rfl) B.len PySem.boot_len (pa_cons (pv 0) pa_nil)) pa_nil))))) (pss_one (ps_ret pe_bl)) pss_nil)
      (pss_one (ps_ret (pe_callB (cr_all rfl) (by rfl) B.all (by decide +kernel) (pa_cons
        (pe_lc (own := [("mark", 1), ("mirror", 2)]) (g := gTup K 2 (gCons (gName 1) (gCons (gName 2) gNil))) (tt := tYes) rfl scMirrors.nd (pi_enT (by rfl) B.enumerate (pa_cons (pv 0) pa_nil)) (blkOk_by (N := ["thing", "mark", "mirror"]) (sc := defScope sMirrors) (by decide +kernel))
          (fun _ _ _ _ _ => pg_tupK rfl rfl (pgs_cons (pg_name (i := 1) scMirrors.nd rfl (Or.inl rfl)) (pgs_cons (pg_name (i := 2) scMirrors.nd rfl (Or.inl rfl)) pgs_nil))) (fun _ _ _ _ _ => pts_nil)
          (fun _ _ _ _ _ => pe_cmpR op_eq (pe_ix (ix_tupK (K := K) rfl) (pv 0) (pv 2) (fun _ _ => rfl)) (pv 1) (nomark _))) pa_nil))))), ?_⟩
    refine ⟨.ref a, rfl, .ref a, .ty "tuple", _, _, true, rfl, .ty "tuple", tyT hT, kit_ty (by decide +kernel), true, rfl, iteF ?_⟩
    refine ⟨.ref a, rfl, a, _, rfl, .inr hT, _, _, rfl, rfl, decide (((ns.map V.int).length : Int) > 8), rfl, ?_⟩
    have h8 := hM.few
    rw [decide_eq_false (show ¬ ((ns.map V.int).length : Int) > 8 by rw [List.length_map]; omega)]
    refine iteF ?_
    refine ⟨.ref a, rfl, .ref a, rfl, a, _, rfl, .inr hT, a, ns, _, rfl, hT, hM.pos, by omega, fun i hi => ?_, fun H1 s1 => ⟨true, rfl, iteF ?_⟩⟩
    · rw [List.length_map]; exact hM.inn i hi
    · refine ⟨.ref a, rfl, a, _, rfl, sqT_same s1 hT, fun D nD => ?_⟩
      refine lc_it (walk_enT (K := K) (a := a) (xs := ns.map V.int)) (fun i H' => Same H1 H' ∧ H' D = some (.lst (List.replicate i (V.bl true)))) ⟨same_upd nD, upd_same⟩ (fun i H' _ p => sqT_same p.1 (sqT_same s1 hT)) (fun i x H2 H3 hi p y => ?_) fun H' p => ?_
      · obtain ⟨T, x1, x2, rfl, nT, rfl, e1, e2⟩ := y
        have e1' : x1 = .int (i : Nat) := (Option.some.inj e1).symm
        subst e1'
        obtain ⟨m, hm, rfl⟩ := map_at e2
        have hin := hM.inn m (List.mem_of_getElem? hm)
        have hil : i < ns.length := (List.getElem?_eq_some_iff.mp hm).1
        have hDT : D ≠ T := ne_of_none p.2 nT
        have sT : Same H2 (upd H2 T (.tup [.int (i : Nat), .int m])) := same_upd nT
        have hA : SqT K (upd H2 T (.tup [.int (i : Nat), .int m])) a (ns.map V.int) := sqT_same sT (sqT_same p.1 (sqT_same s1 hT))
        have gm : (ns.map V.int)[m.toNat]? = some (.int (i : Nat)) := by
          rw [List.getElem?_map, hM.back i m hm]; rfl
        refine ⟨T, _, rfl, tupNew upd_same, rfl, _, _, rfl, _, _, rfl, rfl, rfl, tt_yes ⟨.ref a, rfl, .int m, rfl, a, _, m, .int (i : Nat), rfl, rfl, hA, ?_, .int (i : Nat), rfl, rfl, _, (sT _ _ p.2), ?_, ?_, ?_⟩⟩
        · have e : m = ((m.toNat : Nat) : Int) := by omega
          rw [e]; exact atI_nat gm
        · rw [List.length_replicate]; exact few1 (by omega)
        · exact fun b o e => by rw [upd_ne (ne_of_none e nD)]; exact sT b o (p.1 b o e)
        · rw [upd_same, decide_eq_true rfl, rep_next]
      · rw [List.length_map, rep_bl] at p
        refine ⟨D, _, rfl, lstNew p.2, ?_⟩
        rw [all_true]
        exact q H' (s1.trans p.1)
end
end K44
namespace K44
open PySem PySem.Spec PyProof.Rows L2 RV
def rgI (a b : Int) : List Int := (List.range (b - a).toNat).map fun (i : Nat) => a + (i : Int)
theorem rgV_rgI (a b : Int) : rgV a b = (rgI a b).map V.int := by
  unfold rgV rgI
  rw [List.map_map]; rfl
theorem rgI_len (a b : Int) : (rgI a b).length = (b - a).toNat := by unfold rgI; rw [List.length_map, List.length_range]
theorem rgI_get {a b : Int} {k : Nat} {m : Int} : (rgI a b)[k]? = some m ↔ k < (b - a).toNat ∧ m = a + (k : Int) := by
  unfold rgI
  rw [List.getElem?_map]
  by_cases h : k < (b - a).toNat
  · rw [List.getElem?_range h]
    simp [h, eq_comm]
  · rw [List.getElem?_eq_none (by rw [List.length_range]; omega)]
    simp [h]
/-! ### mirrors drawn: fs so far, ls the marks left -/
structure Half (m : Nat) (fs ls : List Int) : Prop where
  len : fs.length = m
  inn : ∀ (k : Nat) (x : Int), fs[k]? = some x → 0 ≤ x ∧ x < (m : Int)
  back : ∀ (k : Nat) (x : Int), fs[k]? = some x → fs[x.toNat]? = some (k : Int)
  nd : ls.Nodup
  lin : ∀ x ∈ ls, 0 ≤ x ∧ x < (m : Int)
  self : ∀ x ∈ ls, fs[x.toNat]? = some x
theorem half_start (m : Nat) : Half m (rgI 0 (m : Int)) (rgI 0 (m : Int)) := by
  have mem : ∀ x ∈ rgI 0 (m : Int), 0 ≤ x ∧ x < (m : Int) := fun x hx => by
    obtain ⟨k, hk, e⟩ := List.getElem_of_mem hx
    have z : (rgI 0 (m : Int))[k]? = some x := by rw [List.getElem?_eq_getElem hk, e]
    rw [rgI_get] at z; omega
  refine ⟨by rw [rgI_len]; omega, fun k x h => ?_, fun k x h => ?_, ?_, mem, fun x hx => ?_⟩
  · rw [rgI_get] at h; omega
  · rw [rgI_get] at h ⊢; omega
  · unfold rgI
    refine List.Pairwise.map _ (fun a b (h : a < b) => ?_) List.pairwise_lt_range
    omega
  · have := mem x hx
    rw [rgI_get]; omega
theorem half_drop {m : Nat} {fs ls : List Int} {x : Int} (h : Half m fs (x :: ls)) : Half m fs ls :=
  ⟨h.len, h.inn, h.back, (List.nodup_cons.mp h.nd).2, fun y hy => h.lin y (List.mem_cons_of_mem _ hy), fun y hy => h.self y (List.mem_cons_of_mem _ hy)⟩
theorem not_in_erase : ∀ {ls : List Int} {r : Nat} {z : Int}, ls.Nodup → ls[r]? = some z → z ∉ ls.eraseIdx r
  | [], _, _, _, h => by simp at h
  | a :: l, 0, z, nd, h => by
    have e : a = z := Option.some.inj h
    subst e
    exact (List.nodup_cons.mp nd).1
  | a :: l, r + 1, z, nd, h => by
    have h' : l[r]? = some z := h
    intro hz
    rcases List.mem_cons.mp (show z ∈ a :: l.eraseIdx r from hz) with e | e
    · exact (List.nodup_cons.mp nd).1 (e ▸ List.mem_of_getElem? h')
    · exact not_in_erase (List.nodup_cons.mp nd).2 h' e
theorem half_pair {m : Nat} {fs ls : List Int} {x y : Int} {r : Nat} (h : Half m fs (x :: ls)) (hy : ls[r]? = some y) : Half m ((fs.set x.toNat y).set y.toNat x) (ls.eraseIdx r) := by
  have hx := h.lin x (List.mem_cons_self ..)
  have hyl : y ∈ ls := List.mem_of_getElem? hy
  have hy1 := h.lin y (List.mem_cons_of_mem _ hyl)
  have hxy : x ≠ y := fun e => (List.nodup_cons.mp h.nd).1 (e ▸ hyl)
  have sx := h.self x (List.mem_cons_self ..)
  have sy := h.self y (List.mem_cons_of_mem _ hyl)
  have hl := h.len
  have nxy : x.toNat ≠ y.toNat := by omega
  have get : ∀ k : Nat, ((fs.set x.toNat y).set y.toNat x)[k]? = if y.toNat = k then (if k < m then some x else none) else if x.toNat = k then (if k < m then some y else none) else fs[k]? := fun k => by
    rw [List.getElem?_set, List.getElem?_set, List.length_set, hl]
    by_cases e1 : y.toNat = k
    · simp [e1]
    · by_cases e2 : x.toNat = k
      · simp [e1, e2]
      · simp [e1, e2]
  have sub : ∀ z ∈ ls.eraseIdx r, z ∈ ls := fun z hz => List.mem_of_mem_eraseIdx hz
  refine ⟨by rw [List.length_set, List.length_set]; exact hl, fun k z hz => ?_, fun k z hz => ?_, ?_, fun z hz => h.lin z (List.mem_cons_of_mem _ (sub z hz)), fun z hz => ?_⟩
  · rw [get] at hz
    split at hz
    · split at hz
      · cases hz; exact hx
      · cases hz
    · split at hz
      · split at hz
        · cases hz; exact hy1
        · cases hz
      · exact h.inn k z hz
  · rw [get] at hz
    split at hz
    · rename_i e1
      split at hz
      · cases hz
        rw [get, if_neg (by omega), if_pos rfl, if_pos (by omega)]
        congr 1; omega
      · cases hz
    · rename_i e1
      split at hz
      · rename_i e2
        split at hz
        · cases hz
          rw [get, if_pos rfl, if_pos (by omega)]
          congr 1; omega
        · cases hz
      · rename_i e2
        have b1 := h.back k z hz
        have i1 := h.inn k z hz
        have n1 : y.toNat ≠ z.toNat := fun e => by
          have : z = y := by omega
          subst this
          rw [sy] at b1
          have := Option.some.inj b1
          omega
        have n2 : x.toNat ≠ z.toNat := fun e => by
          have : z = x := by omega
          subst this
          rw [sx] at b1
          have := Option.some.inj b1
          omega
        rw [get, if_neg n1, if_neg n2]; exact b1
  · exact List.Nodup.sublist (List.eraseIdx_sublist ls r) (List.nodup_cons.mp h.nd).2
  · have hzl := sub z hz
    have z1 := h.lin z (List.mem_cons_of_mem _ hzl)
    have zx : z ≠ x := fun e => (List.nodup_cons.mp h.nd).1 (e ▸ hzl)
    have zy : z ≠ y := fun e => by
      subst e
      exact not_in_erase (List.nodup_cons.mp h.nd).2 hy hz
    rw [get, if_neg (by omega), if_neg (by omega)]
    exact h.self z (List.mem_cons_of_mem _ hzl)
theorem half_mir {m : Nat} {fs : List Int} (h : Half m fs []) (h1 : 1 ≤ m) (h8 : m ≤ 8) : Mir fs := by
  have hl := h.len
  refine ⟨by omega, by omega, fun x hx => ?_, h.back⟩
  obtain ⟨k, hk, e⟩ := List.getElem_of_mem hx
  have := h.inn k x (by rw [List.getElem?_eq_getElem hk, e])
  omega
end K44
set_option maxHeartbeats 4000000
namespace K44
open PySem PySem.Spec PyProof.Rows L2 RV
/-- a pail of numbers stands at p, t have been mixed -/
def PailAt (H : Hp) (p : Addr) (t : Nat) : Prop := ∃ x y : Int, H p = some (.lst [.int x, .int y, .int (t : Int)]) ∧ 0 ≤ x ∧ 0 ≤ y ∧ y < 2305843010000000000
/-- all stands but what is at p -/
def But (p : Addr) (H H' : Hp) : Prop := ∀ c o, H c = some o → c ≠ p → H' c = some o
theorem But.refl (p : Addr) (H : Hp) : But p H H := fun _ _ e _ => e
theorem But.trans {p : Addr} {H H1 H2 : Hp} (a : But p H H1) (b : But p H1 H2) : But p H H2 := fun c o e z => b c o (a c o e z) z
theorem But.of {p : Addr} {H H' : Hp} (s : Same H H') : But p H H' := fun c o e _ => s c o e
theorem flag01 (b : Bool) : -(2 ^ 64) < (if b = true then (1 : Int) else 0) ∧ (if b = true then (1 : Int) else 0) < 2 ^ 64 := by cases b <;> decide
theorem mul_flag {x : Int} (h : 0 ≤ x) (b : Bool) : 0 ≤ x * (if b = true then (1 : Int) else 0) := by
  cases b
  · show 0 ≤ x * 0
    rw [Int.mul_zero]; exact Int.le_refl _
  · show 0 ≤ x * 1
    rw [Int.mul_one]; exact h
theorem pow60 : ((10 : Int) ^ (60 : Int).toNat).natAbs < 2 ^ 200 := by decide +kernel
theorem pow120 : ((10 : Int) ^ (60 : Int).toNat * (10 : Int) ^ (60 : Int).toNat).natAbs < 2 ^ 400 := by decide +kernel
theorem pow180 : (0 : Int) < (10 : Int) ^ (60 : Int).toNat * (10 : Int) ^ (60 : Int).toNat * (10 : Int) ^ (60 : Int).toNat := by decide +kernel
section
variable {P : Program} {w : World} {K : PySem.W.Frag} {mg : Str → Option Value} {base : Heap}
/-! ### _law_hand -/
def spHand (K : PySem.W.Frag) : Sp := fun vs H Q _ => ∃ (a : Addr) (ns : List Int) (k : Nat), vs = [.ref a, .int (k : Int)] ∧ SqL K H a (ns.map V.int) ∧ k < 64 ∧ ∀ H' p, Same H H' → H p = none → PailAt H' p 0 → Q (.ref p) H'
end
end K44
set_option maxHeartbeats 4000000
namespace K44
open PySem PySem.Spec PyProof.Rows L2 RV
section
variable {P : Program} {w : World} {K : PySem.W.Frag} {mg : Str → Option Value} {base : Heap}
/-! ### _law_take -/
def spDraw : Sp := fun vs H Q _ => ∃ (p : Addr) (t : Nat) (m : Int), vs = [.ref p, .int m] ∧ PailAt H p t ∧ t ≤ 4000 ∧ 1 ≤ m ∧ m ≤ 1000000000000000000000000000000 ∧
  ∀ (r : Int) (t' : Nat) (H' : Hp), 0 ≤ r → r < m → t' ≤ t + 1 → PailAt H' p t' → But p H H' → Q (.int r) H'
theorem primes_at (t : Int) (h : 0 ≤ t) : ∃ v : Int, atI [V.int 2305843009213693951, V.int 999999999989, V.int 1000000000039, V.int 67280421310721] (t % 4) = some (.int v) ∧ 0 < v ∧ v < 2305843009213693952 := by
  have h4 : t % 4 = 0 ∨ t % 4 = 1 ∨ t % 4 = 2 ∨ t % 4 = 3 := by omega
  rcases h4 with e | e | e | e <;> rw [e] <;> exact ⟨_, rfl, by decide, by decide⟩
end
end K44
set_option maxHeartbeats 4000000
namespace K44
open PySem PySem.Spec PyProof.Rows L2 RV
/-! ### what a draw leaves -/
theorem sqT_pail {K : PySem.W.Frag} {H H' : Hp} {p : Addr} {t : Nat} (hp : PailAt H p t) (b : But p H H') {a : Addr} {xs : List V} (h : SqT K H a xs) : SqT K H' a xs := by
  obtain ⟨x, y, e, _⟩ := hp
  rcases h with (h | ⟨o, h⟩) | h
  · exact .inl (.inl (b _ _ h fun z => by rw [z, e] at h; cases h))
  · exact .inl (.inr ⟨o, b _ _ h fun z => by rw [z, e] at h; cases h⟩)
  · exact .inr h
theorem sqL_but {K : PySem.W.Frag} {H H' : Hp} {p a : Addr} (b : But p H H') (n : a ≠ p) {xs : List V} (h : SqL K H a xs) : SqL K H' a xs := by
  rcases h with (h | ⟨o, h⟩) | h
  · exact .inl (.inl (b _ _ h n))
  · exact .inl (.inr ⟨o, b _ _ h n⟩)
  · exact .inr h
theorem tups_pail {K : PySem.W.Frag} {H H' : Hp} {p : Addr} {t : Nat} (hp : PailAt H p t) (b : But p H H') {a : Addr} {ps : List (List Int)} (h : Tups K H a ps) : Tups K H' a ps := by
  obtain ⟨ks, h1, h2, h3⟩ := h
  exact ⟨ks, h1, sqT_pail hp b h2, fun q hq => sqT_pail hp b (h3 q hq)⟩
theorem same_but {p : Addr} {H H1 H2 : Hp} (s : Same H H1) (n : H p = none) (b : But p H1 H2) : Same H H2 := fun c o e => b c o (s c o e) (ne_of_none e n)
theorem pail_same {p : Addr} {H H' : Hp} {t : Nat} (h : PailAt H p t) (s : Same H H') : PailAt H' p t := by
  obtain ⟨x, y, e, r⟩ := h
  exact ⟨x, y, s _ _ e, r⟩
theorem pail_new {p a : Addr} {H : Hp} {o : HO} {t : Nat} (h : PailAt H p t) (n : H a = none) : PailAt (upd H a o) p t := pail_same h (same_upd n)
theorem pail_set {p l : Addr} {H : Hp} {o : HO} {t : Nat} (h : PailAt H p t) (n : l ≠ p) : PailAt (upd H l o) p t := by
  obtain ⟨x, y, e, r⟩ := h
  exact ⟨x, y, by rw [upd_ne n.symm]; exact e, r⟩
theorem pail_ne {p a : Addr} {H : Hp} {t : Nat} (h : PailAt H p t) (n : H a = none) : a ≠ p := by
  obtain ⟨x, y, e, r⟩ := h
  exact (ne_of_none e n).symm
section
variable {P : Program} {w : World} {K : PySem.W.Frag} {mg : Str → Option Value} {base : Heap}
/-! ### _law_of -/
def spOf (K : PySem.W.Frag) : Sp := fun vs H Q _ => ∃ (p a : Addr) (t : Nat) (xs : List V), vs = [.ref p, .ref a] ∧ PailAt H p t ∧ t ≤ 4000 ∧ SqL K H a xs ∧ a ≠ p ∧ 0 < xs.length ∧ xs.length ≤ 1000 ∧
  ∀ (j : Nat) (v : V) (t' : Nat) (H' : Hp), xs[j]? = some v → t' ≤ t + 1 → PailAt H' p t' → But p H H' → Q v H'
theorem erase_map {α β : Type} (f : α → β) : ∀ (l : List α) (i : Nat), (l.map f).eraseIdx i = (l.eraseIdx i).map f
  | [], _ => rfl
  | a :: l, 0 => rfl
  | a :: l, i + 1 => by
    show f a :: (l.map f).eraseIdx i = f a :: (l.eraseIdx i).map f
    rw [erase_map f l i]
theorem ix_at {n : Nat} {i : Int} (h1 : i < (n : Int)) (h0 : 0 ≤ i) : ixN n i = some i.toNat := by
  unfold ixN
  rw [if_pos h0, if_pos h1]
def lenAt (H : Hp) (a : Addr) : Nat := match H a with
  | some (.lst xs) => xs.length
  | _ => 0
theorem lenAt_eq {H : Hp} {a : Addr} {xs : List V} (h : H a = some (.lst xs)) : lenAt H a = xs.length := by unfold lenAt; rw [h]
theorem shapedL (ns : List Int) : SeqAt.shaped (.list (ns.map PyData.int)) = true := by
  have h1 : (PyData.list (ns.map PyData.int)).canLay0 = true := by simp only [PyData.canLay0]; exact lay_ints ns
  have h2 : (PyData.list (ns.map PyData.int)).depth ≤ 64 := by simp only [PyData.depth, dep_ints]; omega
  show ((PyData.list (ns.map PyData.int)).canLay0 && decide ((PyData.list (ns.map PyData.int)).depth ≤ 64)) = true
  rw [h1, decide_eq_true h2]; rfl
theorem eqvL (ns ms : List Int) : PyData.eqv (.list (ns.map PyData.int)) (.list (ms.map PyData.int)) = decide (ns = ms) := by simp only [PyData.eqv, eqv_ints]
end
end K44
set_option maxHeartbeats 4000000
/-! sorted(d), d a dict whose keys are pairs of ints -/
namespace RV
open PySem PySem.Spec PyProof.Rows L2
/-- a pair of ints as a key, and back -/
def keyP (p : List Int) : List L2.Key := p.map Sum.inl
def pairOf (k : List L2.Key) : List Int := k.map fun x => match x with | .inl i => i | .inr _ => 0
theorem pairOf_keyP (p : List Int) : pairOf (keyP p) = p := by
  unfold pairOf keyP
  rw [List.map_map]
  exact List.map_id p
theorem kV_keyP (p : List Int) : (keyP p).map kV = p.map V.int := by
  unfold keyP
  rw [List.map_map]; rfl
abbrev two (p : List Int) : Int × Int := (p.getD 0 0, p.getD 1 0)
open Classical in
noncomputable def readP (h : Heap) (v : Value) : Int × Int := if e : ∃ p : Int × Int, Srt.IsPair h v p.1 p.2 then Classical.choose e else (0, 0)
theorem readP_eq {h : Heap} {v : Value} {x y : Int} (e : Srt.IsPair h v x y) : readP h v = (x, y) := by
  have ex : ∃ p : Int × Int, Srt.IsPair h v p.1 p.2 := ⟨(x, y), e⟩
  unfold readP
  rw [dif_pos ex]
  have c := Classical.choose_spec ex
  generalize Classical.choose ex = p at c
  obtain ⟨a, o, t, u, n, e1, e2, e3, e4⟩ := c
  obtain ⟨a', o', t', u', n', f1, f2, f3, f4⟩ := e
  rw [e1] at f1
  cases f1
  rw [e2] at f2
  cases f2
  rw [e4] at f4
  injection f4 with g1 g2
  have g3 : [Value.int p.1 t, Value.int p.2 u] = [Value.int x t', Value.int y u'] := by
    have := congrArg Array.toList g1
    simpa using this
  injection g3 with g4 g5
  injection g5 with g5 _
  injection g4 with g4 _
  injection g5 with g5 _
  obtain ⟨p1, p2⟩ := p
  simp only at g4 g5
  rw [g4, g5]
theorem paired_mem {α β : Type} {F : α → β → Prop} : ∀ {l : List α} {m : List β}, Paired F l m → ∀ y ∈ m, ∃ x ∈ l, F x y
  | _, _, .nil, y, h => nomatch h
  | _, _, .cons f t, y, h => by
    rcases List.mem_cons.mp h with e | e
    · rw [e]; exact ⟨_, List.mem_cons_self .., f⟩
    · obtain ⟨x, hx, fx⟩ := paired_mem t y e
      exact ⟨x, List.mem_cons_of_mem _ hx, fx⟩
theorem paired_map {α β γ : Type} {F : α → β → Prop} {f : α → γ} {g : β → γ} (h : ∀ a b, F a b → f a = g b) : ∀ {l : List α} {m : List β}, Paired F l m → l.map f = m.map g
  | _, _, .nil => rfl
  | _, _, .cons e t => by rw [List.map_cons, List.map_cons, h _ _ e, paired_map h t]
section
variable {X : Cx}
/-- sorted(d) -/
def rSortDT : List V → Hp → VK → Prop := fun xs H Q => ∃ (d : Addr) (kvs : List (List L2.Key × V)) (ps : List (List Int)), xs = [.ref d] ∧ Rd H d (.dT kvs) ∧ kvs.map (·.1) = ps.map keyP ∧ (∀ p ∈ ps, ∃ x y : Int, p = [x, y]) ∧ kvs.length ≤ 1000 ∧
  ∀ (L : List (Addr × List Int)) (q : Addr), H q = none → (L.map (·.2)).Perm ps → L.Pairwise (fun a b => SrtO.lexB (two b.2) (two a.2) = false) → (∀ a ∈ L, H a.1 = some (.tup (a.2.map V.int))) → Q (.ref q) (upd H q (.lst (L.map fun a => V.ref a.1)))
theorem cr_sortedDT (hc : X.calm = true) : CallR X (.builtin "sorted") rSortDT := by
  intro pins s σ H xs us Q I r h
  obtain ⟨d, kvs, ps, rfl, hd, hks, hpr, h1000, q⟩ := h
  obtain ⟨u, rfl, rx⟩ := vals1 r
  cases rx
  obtain ⟨z, hs, ks, pr, o, es, ep, ho, hx, hdt, he, hn⟩ := (show ObjOk X.prog X.w H s.heap d (.dT kvs) from hd.ok I.hok)
  have l1 : es.size = ks.length := size_of_entries he
  have l2 : kvs.length = ks.length := Paired.length pr
  refine Calls.call_function_entry kind_sorted plain_sorted entry_sorted (args_sorted1 _) ?_
  unfold Builtin.«sorted»
  refine wpAny_bind (m := checkCount "sorted" 1 1 _) (wpAny_pure ?_)
  refine wpAny_bind (PySem.W.kdu_collect (A := X.A.in1) (kdl_raw hs hx hdt) (I.ok.hd hc) ho (by rw [l1, ← l2]; exact Nat.le_of_lt (small1000 h1000)) fun h' tk acc kp it => ?_)
  -- what was collected
  have ea : acc.toList = ks.map fun x => Value.ref x.2.1 := by
    have hl : acc.toList.length = ks.length := by rw [Array.length_toList, it.1, l1]
    refine List.ext_getElem (by rw [hl, List.length_map]) fun j j1 j2 => ?_
    have ja : acc.toList[j]? = some acc.toList[j] := List.getElem?_eq_getElem j1
    obtain ⟨en, hen, hv⟩ := it.2 j _ (by rw [← Array.getElem?_toList]; exact ja)
    have qe := entry_at he j
    have jk : j < ks.length := by rw [List.length_map] at j2; exact j2
    rw [hen, List.getElem?_eq_getElem jk] at qe
    have e2 : en = entryOfKey (tupleKind (mixKind X.prog X.w)) ks[j] := Option.some.inj qe
    rw [hv, e2, List.getElem_map]; rfl
  have I1 : Inv X pins σ H { s with heap := h', toks := tk } := I.kept kp
  have hal : acc.toList.length = ks.length := by rw [ea, List.length_map]
  refine wpAny_bind (wpAny_newList ?_ (by rw [hal, ← l2]; exact Nat.le_of_lt (small1000 h1000)))
  have hoL : (h'.push (seqObj "list" acc.toList.toArray 0)).get? h'.objs.size = some (seqObj "list" acc.toList.toArray 0) := Heap.get?_push_size _ rfl
  show wpAny _ _ _ _ _ { s with heap := h'.push (seqObj "list" acc.toList.toArray 0), toks := tk }
  -- each is a pair
  have ent : ∀ v ∈ acc.toList, ∃ (b : Addr) (p : List Int), v = .ref b ∧ p ∈ ps ∧ H b = some (.tup (p.map V.int)) ∧ ∃ x y : Int, p = [x, y] ∧ Srt.IsPair h' v x y := by
    intro v hv
    rw [ea] at hv
    obtain ⟨x, hx1, rfl⟩ := List.mem_map.mp hv
    obtain ⟨kv, hkv, q1, q2, _⟩ := paired_mem pr x hx1
    have hk2 : kv.1 ∈ ps.map keyP := by rw [← hks]; exact List.mem_map_of_mem hkv
    obtain ⟨p, hp, ep⟩ := List.mem_map.mp hk2
    have hb : H x.2.1 = some (.tup (p.map V.int)) := by rw [q2, ← ep, kV_keyP]
    obtain ⟨x', y', e'⟩ := hpr p hp
    refine ⟨x.2.1, p, rfl, hp, hb, x', y', e', ?_⟩
    obtain ⟨_, its2, r2, oo, ho2, hc2, n2, hd2⟩ := (show ObjOk X.prog X.w H s.heap x.2.1 (.tup (p.map V.int)) from I.hok _ _ hb)
    rw [e'] at r2
    obtain ⟨u1, u2, rfl, ri, rj⟩ := vals2 r2
    obtain ⟨t1, rfl⟩ := ri
    obtain ⟨t2, rfl⟩ := rj
    exact ⟨x.2.1, oo, t1, t2, n2, rfl, kp _ _ ho2, hc2, hd2⟩
  have isp : ∀ v ∈ acc.toList, Srt.IsPair h' v (readP h' v).1 (readP h' v).2 := fun v hv => by
    obtain ⟨b, p, _, _, _, x, y, _, e⟩ := ent v hv
    rw [readP_eq e]; exact e
  refine wpAny_bind (wpAny_holding (wpAny_call_entry slot_list_sort ⟨_, hoL, rfl⟩ entry_list_sort (SrtO.list_sort_ord (s := { s with heap := h'.push (seqObj "list" acc.toList.toArray 0), toks := tk }) (ltv := fun v u => SrtO.lexB (readP h' v) (readP h' u)) (SrtO.swo_lex (readP h')) hoL
    (by rw [hal, ← l2]; exact Nat.le_of_lt (small1000 h1000)) (fun h2 => ?_) fun out g1 g2 => ⟨_, rfl, ?_⟩) (args_list_sort _)))
  · refine SrtO.pairs_sortableO (k := readP h') (s := { s with heap := h'.push (seqObj "list" acc.toList.toArray 0), toks := tk }) (by omega) (fun v hm => (isp v hm).keeps fun b o e _ => Heap.get?_push_of_some _ e) fun o e => ?_
    have e' : some o = some (seqObj "list" acc.toList.toArray 0) := e.symm.trans hoL
    cases e'
    intro c
    exact absurd (Value.type.inj c) (by decide)
  · obtain ⟨e', he'⟩ := sortedHeap_at (vs := acc.toList) (out := out.toArray) hoL
    -- as addresses with their ints
    have inV : ∀ v ∈ out, v ∈ acc.toList := fun v hv => g2.perm.mem_iff.mp hv
    let ad : Value → Addr := fun v => match v with | .ref b => b | _ => 0
    let L : List (Addr × List Int) := out.map fun v => (ad v, [(readP h' v).1, (readP h' v).2])
    have tell : ∀ v ∈ out, v = .ref (ad v) ∧ [(readP h' v).1, (readP h' v).2] ∈ ps ∧ H (ad v) = some (.tup (([(readP h' v).1, (readP h' v).2] : List Int).map V.int)) := fun v hv => by
      obtain ⟨b, p, rfl, hp, hb, x, y, rfl, e⟩ := ent v (inV v hv)
      rw [readP_eq e]
      exact ⟨rfl, hp, hb⟩
    have eo : out = L.map fun a => Value.ref a.1 := by
      show out = (out.map _).map _
      rw [List.map_map]
      conv => lhs; rw [← List.map_id out]
      exact List.map_congr_left fun v hv => (tell v hv).1
    have eks : ∀ v ∈ acc.toList, True := fun _ _ => trivial
    have hLlen : (L.map fun a => V.ref a.1).length ≤ sizeLine := by
      rw [List.length_map, List.length_map, g2.len, hal, ← l2]; exact Nat.le_of_lt (small1000 h1000)
    have rv : Vals (L.map fun a => V.ref a.1) out := by
      rw [eo]
      have : ∀ M : List (Addr × List Int), Vals (M.map fun a => V.ref a.1) (M.map fun a => Value.ref a.1) := fun M => by
        induction M with
        | nil => exact .nil
        | cons m r ih => exact .cons rfl ih
      exact this L
    have e2 : L.map (·.2) = out.map fun v => [(readP h' v).1, (readP h' v).2] := by
      show (out.map _).map _ = _
      rw [List.map_map]; rfl
    have e3 : (acc.toList.map fun v => [(readP h' v).1, (readP h' v).2]) = ps := by
      have w1 : ks.map (fun x => pairOf x.1) = ps := by
        rw [← paired_map (f := fun (a : List L2.Key × V) => pairOf a.1) (g := fun (b : List L2.Key × Addr × Value) => pairOf b.1) (fun a b f => by rw [f.1]) pr]
        have w2 : kvs.map (fun a => pairOf a.1) = (kvs.map (·.1)).map pairOf := by rw [List.map_map]; rfl
        rw [w2, hks, List.map_map]
        conv => rhs; rw [← List.map_id ps]
        exact List.map_congr_left fun p _ => pairOf_keyP p
      rw [← w1, ea, List.map_map]
      refine List.map_congr_left fun x hx1 => ?_
      obtain ⟨kv, hkv, q1, q2, _⟩ := paired_mem pr x hx1
      obtain ⟨b, p, eb, hp, hb, x', y', e', isP⟩ := ent (.ref x.2.1) (by rw [ea]; exact List.mem_map.mpr ⟨x, hx1, rfl⟩)
      cases eb
      show [(readP h' (.ref x.2.1)).1, (readP h' (.ref x.2.1)).2] = pairOf x.1
      rw [readP_eq isP, ← q1]
      have hk2 : kv.1 ∈ ps.map keyP := by rw [← hks]; exact List.mem_map_of_mem hkv
      obtain ⟨p2, hp2, ep2⟩ := List.mem_map.mp hk2
      rw [← ep2, pairOf_keyP]
      rw [hb, ← ep2, kV_keyP] at q2
      have q3 : p.map V.int = p2.map V.int := by
        injection q2 with q2
        injection q2
      have q4 : p = p2 := by
        have inj : ∀ l m : List Int, l.map V.int = m.map V.int → l = m := fun l => by
          induction l with
          | nil => intro m e; cases m with | nil => rfl | cons => cases e
          | cons a r ih =>
            intro m e
            cases m with
            | nil => cases e
            | cons b t =>
              rw [List.map_cons, List.map_cons] at e
              injection e with e1 e2
              injection e1 with e1
              rw [e1, ih t e2]
        exact inj p p2 q3
      rw [← q4, e']
    refine wpAny_pure ⟨_, rfl, .ref h'.objs.size, upd H h'.objs.size (.lst (L.map fun a => V.ref a.1)), I1.laid (t' := tk) (fun b u e => ?_) (Nat.le_refl _)
      (show ObjOk X.prog X.w _ _ _ (.lst (L.map fun a => V.ref a.1)) from ⟨hLlen, out, e', rv, he'⟩), rfl, q L _ (I1.hok.fresh (Nat.le_refl _)) ?_ ?_ fun a ha => ?_⟩
    · have hb : b < h'.objs.size := Heap.lt_size e
      rw [sortedHeap_old (Nat.ne_of_lt hb) (by rw [size_push']; exact Nat.lt_succ_of_lt hb)]
      exact Heap.get?_push_of_some _ e
    · rw [e2, ← e3]
      exact g2.perm.map _
    · show (out.map _).Pairwise _
      rw [List.pairwise_map]
      exact g1
    · obtain ⟨v, hv, rfl⟩ := List.mem_map.mp ha
      exact (tell v hv).2.2
end
end RV
set_option maxHeartbeats 4000000
namespace K44
open PySem PySem.Spec PyProof.Rows L2 RV
/-! ### a dict of pairs, by its keys -/
def addP (ps : List (List Int)) (p : List Int) : List (List Int) := if p ∈ ps then ps else ps ++ [p]
theorem keyP_inj {p q : List Int} (h : keyP p = keyP q) : p = q := by
  have := congrArg pairOf h
  rwa [pairOf_keyP, pairOf_keyP] at this
theorem key_mem {p : List Int} {ps : List (List Int)} : keyP p ∈ ps.map keyP ↔ p ∈ ps := by
  constructor
  · intro h
    obtain ⟨q, hq, e⟩ := List.mem_map.mp h
    rw [← keyP_inj e]; exact hq
  · exact fun h => List.mem_map_of_mem h
theorem put_keys {kvs : List (List L2.Key × V)} {ps : List (List Int)} {p : List Int} {v : V} (h : kvs.map (·.1) = ps.map keyP) : (putK kvs (keyP p) v).map (·.1) = (addP ps p).map keyP := by
  unfold addP
  cases e : valV kvs (keyP p) with
  | none =>
    have n : p ∉ ps := fun z => valV_not e (by rw [h]; exact key_mem.mpr z)
    rw [putK_new v e, if_neg n, List.map_append, List.map_append, h]; rfl
  | some x =>
    have y : p ∈ ps := key_mem.mp (by rw [← h]; exact valV_in e)
    rw [if_pos y, ← h]
    unfold putK
    rw [valV_any, e]
    show (kvs.map fun kv => if kv.1 = keyP p then (kv.1, v) else kv).map (·.1) = kvs.map (·.1)
    rw [List.map_map]
    refine List.map_congr_left fun kv _ => ?_
    show (if kv.1 = keyP p then (kv.1, v) else kv).1 = kv.1
    split <;> rfl
theorem mem_addP {ps : List (List Int)} {p q : List Int} : q ∈ addP ps p ↔ q ∈ ps ∨ q = p := by
  unfold addP
  split
  · rename_i h
    constructor
    · exact .inl
    · rintro (z | rfl)
      · exact z
      · exact h
  · rw [List.mem_append, List.mem_singleton]
theorem nd_addP {ps : List (List Int)} {p : List Int} (h : ps.Nodup) : (addP ps p).Nodup := by
  unfold addP
  split
  · exact h
  · rename_i n
    rw [List.nodup_append]
    exact ⟨h, by simp, fun a ha b hb e => n (by rw [← List.mem_singleton.mp hb, ← e]; exact ha)⟩
/-- a tuple of tuples of ints, all of them seen -/
def TupsH (H : Hp) (a : Addr) (ps : List (List Int)) : Prop := ∃ ks : List (Addr × List Int), ks.map (·.2) = ps ∧ H a = some (.tup (ks.map fun p => V.ref p.1)) ∧ ∀ p ∈ ks, H p.1 = some (.tup (p.2.map V.int))
theorem TupsH.tups {K : PySem.W.Frag} {H : Hp} {a : Addr} {ps : List (List Int)} (h : TupsH H a ps) : Tups K H a ps :=
  let ⟨ks, h1, h2, h3⟩ := h; ⟨ks, h1, tupNew h2, fun p hp => tupNew (h3 p hp)⟩
theorem TupsH.same {H H' : Hp} {a : Addr} {ps : List (List Int)} (h : TupsH H a ps) (e : Same H H') : TupsH H' a ps :=
  let ⟨ks, h1, h2, h3⟩ := h; ⟨ks, h1, e _ _ h2, fun p hp => e _ _ (h3 p hp)⟩
theorem TupsH.but {H H' : Hp} {p a : Addr} {t : Nat} {ps : List (List Int)} (h : TupsH H a ps) (hp : PailAt H p t) (b : But p H H') : TupsH H' a ps := by
  obtain ⟨ks, h1, h2, h3⟩ := h
  obtain ⟨x, y, e, _⟩ := hp
  exact ⟨ks, h1, b _ _ h2 fun z => (by rw [z, e] at h2; cases h2), fun q hq => b _ _ (h3 q hq) fun z => (by have h := h3 q hq; rw [z, e] at h; cases h)⟩
/-- steps drawn so far -/
structure Part (ns : List Int) (ps : List (List Int)) : Prop where
  nd : ps.Nodup
  pr : ∀ p ∈ ps, Pr (ns.length : Int) p
  mi : ∀ x y mx my : Int, [x, y] ∈ ps → ns[x.toNat]? = some mx → ns[y.toNat]? = some my → [my, mx] ∈ ps
theorem Part.nil (ns : List Int) : Part ns [] := ⟨List.nodup_nil, (fun _ h => nomatch h), fun _ _ _ _ h => nomatch h⟩
theorem Part.add {ns : List Int} {ps : List (List Int)} {x y mx my : Int} (M : Mir ns) (h : Part ns ps) (hx : 0 ≤ x ∧ x < (ns.length : Int)) (hy : 0 ≤ y ∧ y < (ns.length : Int)) (ex : ns[x.toNat]? = some mx) (ey : ns[y.toNat]? = some my) :
    Part ns (addP (addP ps [x, y]) [my, mx]) := by
  have bx := M.back _ _ ex
  have bY := M.back _ _ ey
  have ix := M.inn mx (List.mem_of_getElem? ex)
  have iy := M.inn my (List.mem_of_getElem? ey)
  refine ⟨nd_addP (nd_addP h.nd), fun p hp => ?_, fun a b ma mb hab ha hb => ?_⟩
  · rcases mem_addP.mp hp with z | rfl
    · rcases mem_addP.mp z with z | rfl
      · exact h.pr p z
      · exact ⟨x, y, rfl, hx, hy⟩
    · exact ⟨my, mx, rfl, iy, ix⟩
  · rw [mem_addP, mem_addP] at hab ⊢
    rcases hab with (z | z) | z
    · exact .inl (.inl (h.mi a b ma mb z ha hb))
    · injection z with z1 z2
      injection z2 with z2 _
      subst z1 z2
      rw [ex] at ha
      rw [ey] at hb
      cases ha
      cases hb
      exact .inr rfl
    · injection z with z1 z2
      injection z2 with z2 _
      subst z1 z2
      rw [bY] at ha
      rw [bx] at hb
      cases ha
      cases hb
      refine .inl (.inr ?_)
      rw [show ((x.toNat : Nat) : Int) = x by omega, show ((y.toNat : Nat) : Int) = y by omega]
theorem Part.len {ns : List Int} {ps : List (List Int)} (h : Part ns ps) (M : Mir ns) : ps.length ≤ 64 := by
  have := nodup_le (us := gridOf 0 (fun _ _ => true) ns.length ns.length) h.nd fun p hp => by
    obtain ⟨x, y, rfl, hx, hy⟩ := h.pr p hp
    refine mem_grid.mpr ⟨x.toNat, y.toNat, by omega, by omega, rfl, ?_⟩
    rw [show (0 + ((x.toNat : Nat) : Int)) = x by omega, show (0 + ((y.toNat : Nat) : Int)) = y by omega]
  have g := grid_len 0 (fun _ _ => true) ns.length ns.length
  have m8 : ns.length * ns.length ≤ 8 * 8 := Nat.mul_le_mul M.few M.few
  omega
theorem le_of_two {p q : List Int} (hp : Pr 64 p) (hq : Pr 64 q) (h : SrtO.lexB (two q) (two p) = false) : cd p ≤ cd q := by
  obtain ⟨x, y, rfl, hx, hy⟩ := hp
  obtain ⟨x', y', rfl, hx', hy'⟩ := hq
  have z := SrtO.lexB_no.mp h
  have z' : ¬ (x' < x ∨ (x' = x ∧ y' < y)) := z
  rw [cd_pair, cd_pair]; omega
/-- sorted, they are a rule's steps -/
theorem Part.stp {ns : List Int} {ps : List (List Int)} {L : List (Addr × List Int)} (M : Mir ns) (h : Part ns ps) (pm : (L.map (·.2)).Perm ps) (pw : L.Pairwise fun a b => SrtO.lexB (two b.2) (two a.2) = false) : Stp ns (L.map (·.2)) := by
  have h8 := M.few
  have pr : ∀ p ∈ L.map (·.2), Pr (ns.length : Int) p := fun p hp => h.pr p (pm.mem_iff.mp hp)
  have pr64 : ∀ p ∈ L.map (·.2), Pr 64 p := fun p hp => (pr p hp).mono (by omega)
  have le : (L.map (·.2)).Pairwise fun p q => cd p ≤ cd q := by
    rw [List.pairwise_map]
    exact List.Pairwise.imp_of_mem (fun {a b} ha hb z => le_of_two (pr64 _ (List.mem_map_of_mem ha)) (pr64 _ (List.mem_map_of_mem hb)) z) pw
  refine ⟨by rw [pm.length_eq]; exact h.len M, fun p hp => pr p hp, adj_rise pr64 (sorted_lt pr64 (pm.nodup_iff.mpr h.nd) le), fun x y mx my hxy hx hy => ?_, pm.nodup_iff.mpr h.nd⟩
  exact pm.mem_iff.mpr (h.mi x y mx my (pm.mem_iff.mp hxy) hx hy)
end K44
set_option maxHeartbeats 4000000
/-! dict(xs), xs a list of pairs (pair of ints, True) -/
namespace RV
open PySem PySem.Spec PyProof.Rows L2
/-- the dict that comes of these keys, one behind the other -/
def dictOfP (acc : List (List L2.Key × V)) (ps : List (List Int)) : List (List L2.Key × V) := ps.foldl (fun a p => putK a (keyP p) (.bl true)) acc
def addK (ps : List (List Int)) (p : List Int) : List (List Int) := if p ∈ ps then ps else ps ++ [p]
section
variable {X : Cx}
def rDictPT : List V → Hp → VK → Prop := fun xs H Q => ∃ (l : Addr) (qs : List (Addr × Addr × List Int)), xs = [.ref l] ∧ H l = some (.lst ((qs.map (·.1)).map V.ref)) ∧ (∀ q ∈ qs, H q.1 = some (.tup [.ref q.2.1, .bl true]) ∧ H q.2.1 = some (.tup (q.2.2.map V.int))) ∧ qs.length ≤ 1000 ∧
  ∀ d, H d = none → Q (.ref d) (upd H d (.dT (dictOfP [] (qs.map (·.2.2)))))
theorem kt_all {H : Hp} : ∀ (qs : List (Addr × Addr × List Int)) {kvs : List (List L2.Key × V)} {xs : List (List L2.Key × Addr × Value)}, KT H kvs xs → (∀ q ∈ qs, H q.2.1 = some (.tup (q.2.2.map V.int))) →
    KT H (dictOfP kvs (qs.map (·.2.2))) (storedAllH xs (qs.map fun q => (keyP q.2.2, q.2.1, Value.bool true)))
  | [], _, _, r, _ => r
  | q :: qs, kvs, xs, r, h => by
    have h1 : H q.2.1 = some (.tup ((keyP q.2.2).map kV)) := by rw [kV_keyP]; exact h q (List.mem_cons_self ..)
    exact kt_all qs (r.put (keyP q.2.2) (y := .bl true) h1 rfl) fun z hz => h z (List.mem_cons_of_mem _ hz)
theorem len_dictOfP : ∀ (ps : List (List Int)) (acc : List (List L2.Key × V)), (dictOfP acc ps).length ≤ acc.length + ps.length
  | [], acc => Nat.le_refl _
  | p :: ps, acc => by
    have h := len_dictOfP ps (putK acc (keyP p) (.bl true))
    have h2 := length_putK acc (keyP p) (.bl true)
    show (dictOfP (putK acc (keyP p) (.bl true)) ps).length ≤ _
    rw [List.length_cons]; omega
theorem cr_dictPT (hc : X.calm = true) (hu : X.A.units + 65 < cLine) : CallR X (.type "dict") rDictPT := by
  intro pins s σ H xs us Q I r h
  obtain ⟨l, qs, rfl, hl, hq, hlen, q⟩ := h
  obtain ⟨u, rfl, rx⟩ := vals1 r
  cases rx
  obtain ⟨its, rv, pl, hz⟩ := I.list (show SqL X.K H l _ from .inl (.inl hl))
  have ei := refs_at rv
  subst ei
  obtain ⟨o, n, ho, hco, hdo, hdat⟩ := pl
  have at_ : ∀ (j : Nat) (z : Addr × Addr × List Int), qs[j]? = some z → ((qs.map (·.1)).map Value.ref).toArray[j]? = some (.ref z.1) := fun j z e => by
    simp [e]
  let Ts : Nat → Addr := fun j => (qs.map (·.1)).getD j 0
  have hTs : ∀ (j : Nat) (z : Addr × Addr × List Int), qs[j]? = some z → Ts j = z.1 := fun j z e => by
    show (qs.map (·.1)).getD j 0 = z.1
    rw [List.getD_eq_getElem?_getD, List.getElem?_map, e]; rfl
  let prs : List (Value × Value) := qs.map fun z => (Value.ref z.2.1, Value.bool true)
  have hprs : ∀ (j : Nat) (k v : Value), prs[j]? = some (k, v) → ∃ z, qs[j]? = some z ∧ k = .ref z.2.1 ∧ v = .bool true := fun j k v e => by
    have e' : (qs.map fun z => (Value.ref z.2.1, Value.bool true))[j]? = some (k, v) := e
    rw [List.getElem?_map] at e'
    cases ez : qs[j]? with
    | none => rw [ez] at e'; cases e'
    | some z =>
      rw [ez] at e'
      have e2 : (Value.ref z.2.1, Value.bool true) = (k, v) := Option.some.inj e'
      injection e2 with e3 e4
      exact ⟨z, rfl, e3.symm, e4.symm⟩
  have items : PairItems s.heap ((qs.map (·.1)).map Value.ref).toArray Ts prs := by
    refine ⟨by show _ = (qs.map _).length; simp, fun j k v e => ?_⟩
    obtain ⟨z, ez, rfl, rfl⟩ := hprs j k v e
    rw [hTs j z ez]
    refine ⟨at_ j z ez, .inl ?_⟩
    obtain ⟨its2, r2, p2, _⟩ := I.tuple (show SqT X.K H z.1 _ from .inl (.inl (hq z (List.mem_of_getElem? ez)).1))
    obtain ⟨u1, u2, rfl, ra, rb⟩ := vals2 r2
    cases ra
    cases rb
    exact p2
  have room : (tupleKind (mixKind X.prog X.w)).room X.A.in1.in1 := tupleKind_room_in1 (A := X.A.in1) (by show X.A.units + 1 + 1 < cLine; omega)
  have keys : ∀ z ∈ qs, (tupleKind (mixKind X.prog X.w)).is s.heap (keyP z.2.2) z.2.1 := fun z hz => key_of I.hok (by rw [kV_keyP]; exact (hq z hz).2)
  refine call_dict_pairsH (knd := tupleKind (mixKind X.prog X.w)) (ps := qs.map fun z => (keyP z.2.2, z.2.1, Value.bool true)) (PairArg.list l _ Ts prs) (I.ok.hd hc) room ⟨⟨o, n, ho, hco, hdo, hdat⟩, items⟩ ⟨?_, fun j k v e => ?_⟩ (fun h' hk x hx => ?_) ?_ fun h' tk hd' kp => ?_
  · show (qs.map _).length = (qs.map _).length
    rw [List.length_map, List.length_map]
  · obtain ⟨z, ez, rfl, rfl⟩ := hprs j k v e
    exact ⟨keyP z.2.2, z.2.1, by rw [List.getElem?_map, ez]; rfl, rfl⟩
  · obtain ⟨z, hz1, rfl⟩ := List.mem_map.mp hx
    obtain ⟨o1, i1, n1, g1, g2, g3, g4⟩ := keys z hz1
    exact ⟨o1, i1, n1, hk _ _ (Nat.ne_of_lt (Heap.lt_size g1)) (by simp) g1, g2, g3, g4⟩
  · show (qs.map _).length ≤ sizeLine
    rw [List.length_map]; exact Nat.le_of_lt (small1000 hlen)
  · have hm : (s.heap.objs.size == sysModules) = false := beq_eq_false_iff_ne.mpr (Nat.ne_of_gt I.big)
    have nf : H s.heap.objs.size = none := I.hok.fresh (Nat.le_refl _)
    have rel := kt_all (H := H) qs (kvs := []) (xs := []) .nil fun z hz => (hq z hz).2
    have hl2 : (dictOfP [] (qs.map (·.2.2))).length ≤ sizeLine := by
      have := len_dictOfP (qs.map (·.2.2)) []
      rw [List.length_map, List.length_nil] at this
      exact Nat.le_trans this (by rw [Nat.zero_add]; exact Nat.le_of_lt (small1000 hlen))
    obtain ⟨q1, es, ep, w1, w2, w3, w4, _, w5⟩ := hd'
    refine ⟨.ref s.heap.objs.size, upd H s.heap.objs.size (.dT (dictOfP [] (qs.map (·.2.2)))), I.laid (t' := tk) (fun b u e => kp b u (by simp) e) (Nat.le_refl _) ⟨hl2, hm, _, rel.keeps fun c ys ec => ?_, q1, es, ep, w1, w2, w3, w4, w5⟩, rfl, q _ nf⟩
    rw [upd_ne (ne_of_none ec nf)]; exact ec
end
end RV
namespace K44
open PySem PySem.Spec PyProof.Rows L2 RV
/-! ### a dict of a list of pairs, by its keys -/
def addAll (ps : List (List Int)) : List (List Int) := ps.foldl addP []
theorem dict_keys : ∀ (ps : List (List Int)) {kvs : List (List L2.Key × V)} {qs : List (List Int)}, kvs.map (·.1) = qs.map keyP → (dictOfP kvs ps).map (·.1) = (ps.foldl addP qs).map keyP
  | [], _, _, h => h
  | p :: ps, kvs, qs, h => dict_keys ps (kvs := putK kvs (keyP p) (.bl true)) (qs := addP qs p) (put_keys h)
theorem mem_fold {q : List Int} : ∀ (ps qs : List (List Int)), q ∈ ps.foldl addP qs ↔ q ∈ qs ∨ q ∈ ps
  | [], qs => by simp
  | p :: ps, qs => by
    show q ∈ ps.foldl addP (addP qs p) ↔ _
    rw [mem_fold ps, mem_addP, List.mem_cons]
    constructor
    · rintro ((h | h) | h)
      · exact .inl h
      · exact .inr (.inl h)
      · exact .inr (.inr h)
    · rintro (h | h | h)
      · exact .inl (.inl h)
      · exact .inl (.inr h)
      · exact .inr h
theorem nd_fold : ∀ (ps qs : List (List Int)), qs.Nodup → (ps.foldl addP qs).Nodup
  | [], _, h => h
  | _ :: ps, _, h => nd_fold ps _ (nd_addP h)
theorem mem_all {q : List Int} {ps : List (List Int)} : q ∈ addAll ps ↔ q ∈ ps := by
  unfold addAll
  rw [mem_fold]; simp
/-- steps of which some are left -/
theorem part_of {ns : List Int} {ps : List (List Int)} (pr : ∀ p ∈ ps, Pr (ns.length : Int) p) (mi : ∀ x y mx my : Int, [x, y] ∈ ps → ns[x.toNat]? = some mx → ns[y.toNat]? = some my → [my, mx] ∈ ps) : Part ns (addAll ps) :=
  ⟨nd_fold ps [] List.nodup_nil, fun p hp => pr p (mem_all.mp hp), fun x y mx my h e1 e2 => mem_all.mpr (mi x y mx my (mem_all.mp h) e1 e2)⟩
theorem part_all {ns : List Int} {ps : List (List Int)} (S : Stp ns ps) : Part ns (addAll ps) := part_of S.pair S.mirr
theorem part_without {ns : List Int} {ps : List (List Int)} {g1 g2 m1 m2 : Int} (M : Mir ns) (S : Stp ns ps) (hg : [g1, g2] ∈ ps) (e1 : ns[g1.toNat]? = some m1) (e2 : ns[g2.toNat]? = some m2) : Part ns (addAll (ps.filter fun p => decide (p ∉ [[g1, g2], [m2, m1]]))) := by
  refine part_of (fun p hp => S.pair p (List.mem_filter.mp hp).1) fun x y mx my h ex ey => ?_
  obtain ⟨h1, h2⟩ := List.mem_filter.mp h
  have h2 := of_decide_eq_true h2
  refine List.mem_filter.mpr ⟨S.mirr x y mx my h1 ex ey, decide_eq_true fun z => h2 ?_⟩
  obtain ⟨x', y', exy, hx, hy⟩ := S.pair _ h1
  injection exy with exx exy
  injection exy with exy _
  subst exx exy
  obtain ⟨a', b', eab, ha, hb⟩ := S.pair _ hg
  injection eab with eaa eab
  injection eab with eab _
  subst eaa eab
  have bx := M.back _ _ ex
  have bY := M.back _ _ ey
  have b1 := M.back _ _ e1
  have b2 := M.back _ _ e2
  rcases List.mem_cons.mp z with z | z
  · injection z with z1 z2
    injection z2 with z2 _
    subst z1 z2
    rw [e1] at bY
    rw [e2] at bx
    have y1 := Option.some.inj bY
    have x1 := Option.some.inj bx
    refine List.mem_cons_of_mem _ (List.mem_cons.mpr (.inl ?_))
    rw [y1, x1, Int.toNat_of_nonneg hx.1, Int.toNat_of_nonneg hy.1]
  · have z := List.mem_singleton.mp z
    injection z with z1 z2
    injection z2 with z2 _
    subst z1 z2
    rw [b2] at bY
    rw [b1] at bx
    have y1 := Option.some.inj bY
    have x1 := Option.some.inj bx
    refine List.mem_cons.mpr (.inl ?_)
    rw [show x = g1 by omega, show y = g2 by omega]
theorem mir_more {ns : List Int} (M : Mir ns) (h : ns.length < 8) : Mir (ns ++ [(ns.length : Int)]) := by
  have hl : (ns ++ [(ns.length : Int)]).length = ns.length + 1 := by rw [List.length_append]; rfl
  refine ⟨by omega, by omega, fun i hi => ?_, fun k m hk => ?_⟩
  · rw [hl]
    rcases List.mem_append.mp hi with z | z
    · have := M.inn i z; omega
    · have := List.mem_singleton.mp z; omega
  · by_cases e : k < ns.length
    · rw [List.getElem?_append_left e] at hk
      have b := M.back k m hk
      have i := M.inn m (List.mem_of_getElem? hk)
      rw [List.getElem?_append_left (by omega)]; exact b
    · have hk2 := (List.getElem?_eq_some_iff.mp hk).1
      have ek : k = ns.length := by omega
      subst ek
      rw [List.getElem?_append_right (Nat.le_refl _), Nat.sub_self] at hk
      have em : (ns.length : Int) = m := Option.some.inj hk
      subst em
      rw [Int.toNat_natCast, List.getElem?_append_right (Nat.le_refl _), Nat.sub_self]; rfl
theorem part_more {ns : List Int} {ps : List (List Int)} (h : Part ns ps) : Part (ns ++ [(ns.length : Int)]) ps := by
  have hl : (ns ++ [(ns.length : Int)]).length = ns.length + 1 := by rw [List.length_append]; rfl
  refine ⟨h.nd, fun p hp => (h.pr p hp).mono (by omega), fun x y mx my hxy ex ey => ?_⟩
  obtain ⟨a, b, e, ha, hb⟩ := h.pr _ hxy
  injection e with e1 e2
  injection e2 with e2 _
  subst e1 e2
  rw [List.getElem?_append_left (by omega)] at ex ey
  exact h.mi x y mx my hxy ex ey
theorem mir_range {n : Nat} (h1 : 0 < n) (h8 : n ≤ 8) : Mir (rgI 0 (n : Int)) := by
  have h := half_start n
  refine ⟨by rw [h.len]; exact h1, by rw [h.len]; exact h8, fun i hi => ?_, h.back⟩
  rw [h.len]; exact h.lin i hi
theorem part_both {n : Nat} {ns : List Int} {ps : List (List Int)} (S : Stp ns ps) (hn : ns.length ≤ n) : Part (rgI 0 (n : Int)) (addAll (ps.filter fun p => decide (p.reverse ∈ ps))) := by
  have hl : (rgI 0 (n : Int)).length = n := (half_start n).len
  refine part_of (fun p hp => ?_) fun x y mx my h ex ey => ?_
  · obtain ⟨x, y, e, hx, hy⟩ := S.pair p (List.mem_filter.mp hp).1
    exact ⟨x, y, e, by omega, by omega⟩
  · obtain ⟨h1, h2⟩ := List.mem_filter.mp h
    have h2 : [y, x] ∈ ps := of_decide_eq_true h2
    obtain ⟨a, b, e, ha, hb⟩ := S.pair _ h1
    injection e with e1 e2
    injection e2 with e2 _
    subst e1 e2
    rw [rgI_get] at ex ey
    have e1 : mx = x := by omega
    have e2 : my = y := by omega
    subst e1 e2
    exact List.mem_filter.mpr ⟨h2, decide_eq_true h1⟩
/-! ### the list of pairs (step, True) -/
def Bagged (H : Hp) (D : Addr) (ks : List (Addr × List Int)) : Prop := ∃ qs : List (Addr × Addr × List Int), qs.map (·.2) = ks ∧ H D = some (.lst ((qs.map (·.1)).map V.ref)) ∧ ∀ q ∈ qs, H q.1 = some (.tup [.ref q.2.1, .bl true])
theorem Bagged.nil {H : Hp} {D : Addr} : Bagged (upd H D (.lst [])) D [] := ⟨[], rfl, upd_same, fun _ h => nomatch h⟩
theorem Bagged.add {H : Hp} {D T : Addr} {ks : List (Addr × List Int)} {k : Addr × List Int} {acc : List V} (h : Bagged H D ks) (nT : H T = none) (ha : H D = some (.lst acc)) :
    Bagged (upd (upd H T (.tup [.ref k.1, .bl true])) D (.lst (acc ++ [.ref T]))) D (ks ++ [k]) := by
  obtain ⟨qs, h1, h2, h3⟩ := h
  rw [h2] at ha
  have ea : (qs.map (·.1)).map V.ref = acc := by
    have z := Option.some.inj ha
    injection z
  have hDT : T ≠ D := (ne_of_none h2 nT).symm
  refine ⟨qs ++ [(T, k)], by rw [List.map_append, h1]; rfl, by rw [upd_same, ← ea, List.map_append, List.map_append]; rfl, fun q hq => ?_⟩
  rcases List.mem_append.mp hq with z | z
  · have z1 := h3 q z
    rw [upd_ne (fun e => by rw [e, h2] at z1; cases z1), upd_ne (ne_of_none z1 nT)]; exact z1
  · have z := List.mem_singleton.mp z
    subst z
    rw [upd_ne hDT, upd_same]
theorem Bagged.len {H : Hp} {D : Addr} {ks : List (Addr × List Int)} {acc : List V} (h : Bagged H D ks) (ha : H D = some (.lst acc)) : acc.length = ks.length := by
  obtain ⟨qs, h1, h2, h3⟩ := h
  rw [h2] at ha
  have ea : (qs.map (·.1)).map V.ref = acc := by
    have z := Option.some.inj ha
    injection z
  rw [← ea, ← h1]; simp
theorem Bagged.list {H : Hp} {D : Addr} {ks : List (Addr × List Int)} (h : Bagged H D ks) : ∃ acc, H D = some (.lst acc) := by
  obtain ⟨qs, h1, h2, h3⟩ := h
  exact ⟨_, h2⟩
theorem take_filter_next {α : Type} {c : α → Bool} {ks : List α} {k : α} {i : Nat} (g : ks[i]? = some k) : (ks.take (i + 1)).filter c = (ks.take i).filter c ++ (if c k = true then [k] else []) := by
  rw [List.take_add_one, g]
  show (ks.take i ++ [k]).filter c = _
  rw [List.filter_append]
  by_cases e : c k = true
  · rw [if_pos e]; simp [e]
  · rw [if_neg e]; simp [e]
theorem bag_dict {H : Hp} {D : Addr} {ks : List (Addr × List Int)} {R : List (Addr × Addr × List Int) → Addr → Prop} (h : Bagged H D ks) (hk : ∀ k ∈ ks, H k.1 = some (.tup (k.2.map V.int))) (hl : ks.length ≤ 1000)
    (q : ∀ qs d, qs.map (·.2.2) = ks.map (·.2) → H d = none → R qs d) : ∃ (l : Addr) (qs : List (Addr × Addr × List Int)), [V.ref D] = [V.ref l] ∧ H l = some (.lst ((qs.map (·.1)).map V.ref)) ∧ (∀ q ∈ qs, H q.1 = some (.tup [.ref q.2.1, .bl true]) ∧ H q.2.1 = some (.tup (q.2.2.map V.int))) ∧ qs.length ≤ 1000 ∧
      ∀ d, H d = none → R qs d := by
  obtain ⟨qs, h1, h2, h3⟩ := h
  refine ⟨D, qs, rfl, h2, fun z hz => ⟨h3 z hz, hk z.2 (by rw [← h1]; exact List.mem_map_of_mem hz)⟩, by rw [← h1, List.length_map] at hl; exact hl, fun d nd => q qs d ?_ nd⟩
  rw [← h1, List.map_map]; rfl
theorem filt_map {f : List Int → Bool} (ks : List (Addr × List Int)) : (ks.filter fun k => f k.2).map (·.2) = (ks.map (·.2)).filter f := by
  rw [List.filter_map]; rfl
end K44
set_option maxHeartbeats 4000000
namespace K44
open PySem PySem.Spec PyProof.Rows L2 RV
section
variable {P : Program} {w : World} {K : PySem.W.Frag} {mg : Str → Option Value} {base : Heap}
/-! ### is_step -/
theorem scStep : FnScope ["thing", "many"] ["thing", "many"] (defScope sStep) := ⟨rfl, rfl, rfl, by decide +kernel, rfl, by decide +kernel, by decide +kernel⟩
def spStep (K : PySem.W.Frag) : Sp := fun vs H Q _ => ∃ (a : Addr) (x y n : Int), vs = [.ref a, .int n] ∧ SqT K H a ([x, y].map V.int) ∧ (0 ≤ x ∧ x < n) ∧ (0 ≤ y ∧ y < n) ∧ ∀ H', Same H H' → Q (.bl true) H'
theorem ok_step {f fA : Addr} {fd fdA : FuncData} (F : Fun K "is_step" "is_step" sStep f fd) (DA : DefAt K mg "are_marks" sMarks ["thing", "many"] fA fdA) (GA : FnOk P w K mg base CX0 3 fA fdA ["thing", "many"] (spMarks K)) (B : Bare mg) :
    FnOk P w K mg base CX0 4 f fd ["thing", "many"] (spStep K) := by
  refine F.ok scStep (fun vs H Q E h => ?_) (fun cdv A outer s H vs Q E hr h => ?_)
  · obtain ⟨a, x, y, n, rfl, _⟩ := h
    rfl
  · obtain ⟨a, x, y, n, rfl, hT, hx, hy, q⟩ := h
    refine ⟨_, pss_one (ps_ret (pe_and (pe_call GA hr (by rfl) DA.mg DA.fn.kp DA.bi .nil pass0 (pa_cons (pv 0) (pa_cons (pv 1) pa_nil))) (pe_one (pe_cmpR op_eq (pe_callB call_len_seq (by rfl) B.len PySem.boot_len (pa_cons (pv 0) pa_nil)) pe_int (nomark _))))), ?_⟩
    refine ⟨.ref a, rfl, .int n, rfl, a, [x, y], n, rfl, hT, by simp, by simp, fun i hi => ?_, fun H1 s1 => ⟨true, rfl, iteT ?_⟩⟩
    · simp only [List.mem_cons, List.mem_nil_iff, or_false, List.not_mem_nil] at hi
      rcases hi with rfl | rfl
      · exact hx
      · exact hy
    · refine ⟨.ref a, rfl, a, _, rfl, .inr (sqT_same s1 hT), rfl, ?_⟩
      exact q H1 s1
/-! ### is_rising -/
theorem scRising : FnScope ["pairs", "one", "other"] ["pairs"] (defScope sRising) := ⟨rfl, rfl, rfl, by decide +kernel, rfl, by decide +kernel, by decide +kernel⟩
def spRising (K : PySem.W.Frag) : Sp := fun vs H Q _ => ∃ (a : Addr) (ps : List (List Int)), vs = [.ref a] ∧ Tups K H a ps ∧ ps.length ≤ 1000 ∧ (∀ (i : Nat) (p q : List Int), ps[i]? = some p → ps[i + 1]? = some q → HT.lexLt p q = true) ∧ ∀ H', Same H H' → Q (.bl true) H'
theorem cut1 (xs : List V) : cutV xs (some 1) none = xs.drop 1 := by
  unfold cutV
  rw [show HT.sIx xs.length 0 (some 1) = min 1 xs.length from HT.sIx_nat xs.length 0 1, HT.sIx_none]
  cases xs with
  | nil => rfl
  | cons x r =>
    rw [show min 1 (x :: r).length = 1 by rw [List.length_cons]; omega]
    show (List.take ((x :: r).length - 1) r) = r
    rw [List.length_cons, Nat.add_sub_cancel]
    exact List.take_length
theorem ok_rising {f : Addr} {fd : FuncData} (F : Fun K "is_rising" "is_rising" sRising f fd) (B : Bare mg) : FnOk P w K mg base CX0 1 f fd ["pairs"] (spRising K) := by
  refine F.ok scRising (fun vs H Q E h => ?_) (fun cdv A outer s H vs Q E hr h => ?_)
  · obtain ⟨a, ps, rfl, _⟩ := h
    rfl
  · obtain ⟨a, ps, rfl, hTT, hl, hrise, q⟩ := h
    obtain ⟨ks, rfl, hT, hks⟩ := hTT
    refine ⟨_, pss_one (ps_ret (pe_callB (cr_all rfl) (by rfl) B.all (by decide +kernel) (pa_cons
        (pe_lc (own := [("one", 1), ("other", 2)]) (g := gTup K 2 (gCons (gName 1) (gCons (gName 2) gNil))) (tt := tYes) rfl scRising.nd (RZ.pi_zipA (by rfl) B.zip (pa_cons (pv 0) (pa_cons (pe_slice sl_tupA (pv 0) (po_some pe_int) po_none) pa_nil))) (blkOk_by (N := ["pairs", "one", "other"]) (sc := defScope sRising) (by decide +kernel))
          (fun _ _ _ _ _ => pg_tupK rfl rfl (pgs_cons (pg_name (i := 1) scRising.nd rfl (Or.inl rfl)) (pgs_cons (pg_name (i := 2) scRising.nd rfl (Or.inl rfl)) pgs_nil))) (fun _ _ _ _ _ => pts_nil)
          (fun _ _ _ _ _ => pe_cmpR (op_ltTK (K := K) rfl hr.units0) (pv 1) (pv 2) (nomark _))) pa_nil))), ?_⟩
    have go : ∀ (b : Addr) (H1 : Hp) (Qc : VK), Same H H1 → SqT K H1 b ((ks.map fun p => V.ref p.1).drop 1) → (∀ D H', Same H1 H' → H' D = some (.lst (List.replicate (ks.length - 1) (V.bl true))) → Qc (.ref D) H') →
        tLc (fun _ H2 R => R (RZ.ItzT K a b) H2) (gTup K 2 (gCons (gName 1) (gCons (gName 2) gNil))) tYes (tOp (rLtT K) (tVar 1) (tVar 2)) [1, 2] (start ["pairs", "one", "other"] [.ref a]) H1 Qc := by
      intro b H1 Qc s1 hb fin D nD
      refine lc_it (walk_zipT (K := K) (a := a) (b := b) (xs := ks.map fun p => V.ref p.1) (ys := (ks.map fun p => V.ref p.1).drop 1) (n := ks.length - 1) (by rw [List.length_drop, List.length_map]; omega))
        (fun i H' => Same H1 H' ∧ H' D = some (.lst (List.replicate i (V.bl true)))) ⟨same_upd nD, upd_same⟩ (fun i H' _ p => ⟨sqT_same p.1 (sqT_same s1 hT), sqT_same p.1 hb⟩) (fun i x H2 H3 hi p y => ?_) fun H' p => fin D H' p.1 p.2
      obtain ⟨T, x1, x2, rfl, nT, rfl, e1, e2⟩ := y
      have e3 : ((ks.map fun p => V.ref p.1).drop 1)[i]? = some x2 := e2
      rw [List.getElem?_drop] at e3
      obtain ⟨k1, g1, rfl⟩ := map_at e1
      obtain ⟨k2, g2, rfl⟩ := map_at e3
      have sT : Same H2 (upd H2 T (.tup [V.ref k1.1, V.ref k2.1])) := same_upd nT
      have sA : Same H (upd H2 T (.tup [V.ref k1.1, V.ref k2.1])) := (s1.trans p.1).trans sT
      have lt : HT.lexLt k1.2 k2.2 = true := by
        refine hrise i k1.2 k2.2 ?_ ?_
        · rw [List.getElem?_map, g1]; rfl
        · rw [Nat.add_comm, List.getElem?_map, g2]; rfl
      refine ⟨T, _, rfl, tupNew upd_same, rfl, _, _, rfl, _, _, rfl, rfl, rfl, tt_yes ⟨.ref k1.1, rfl, .ref k2.1, rfl, k1.1, k2.1, k1.2, k2.2, rfl, rfl, sqT_same sA (hks k1 (List.mem_of_getElem? g1)), sqT_same sA (hks k2 (List.mem_of_getElem? g2)), _, sT _ _ p.2, ?_, ?_, ?_⟩⟩
      · rw [List.length_replicate]; rw [List.length_map] at hl; exact few1 (by omega)
      · exact fun b o e => by rw [upd_ne (ne_of_none e nD)]; exact sT b o (p.1 b o e)
      · rw [upd_same, lt, rep_next]
    have fin : ∀ (H1 : Hp), Same H H1 → ∀ D H', Same H1 H' → H' D = some (.lst (List.replicate (ks.length - 1) (V.bl true))) → ∃ (a : Addr) (bs : List Bool), [V.ref D] = [V.ref a] ∧ SqL K H' a (bs.map V.bl) ∧ Q (.bl (bs.all id)) H' := by
      intro H1 s1 D H' s2 e
      refine ⟨D, List.replicate (ks.length - 1) true, rfl, lstNew (by rw [e, rep_bl]), ?_⟩
      rw [all_true]
      exact q H' (s1.trans s2)
    refine ⟨.ref a, rfl, .ref a, rfl, 1, rfl, a, _, rfl, hT, fun hw => ?_, fun hw c nc => ?_⟩
    · have e0 : ks.map (fun p => V.ref p.1) = [] := by
        cases hk : ks.map (fun p => V.ref p.1) with
        | nil => rfl
        | cons x r =>
          rw [hk] at hw
          have h1 := hw.1
          rw [show HT.sIx (x :: r).length 0 (some 1) = min 1 (x :: r).length from HT.sIx_nat _ 0 1, List.length_cons] at h1
          omega
      refine ⟨a, a, _, _, rfl, .inr ⟨hT, hT, ?_⟩⟩
      refine go a H (fun v H2 => ∃ (a : Addr) (bs : List Bool), [v] = [V.ref a] ∧ SqL K H2 a (bs.map V.bl) ∧ Q (.bl (bs.all id)) H2) (Same.refl H) ?_ ?_
      · rw [e0]; rw [e0] at hT; exact hT
      · exact fin H (Same.refl H)
    · have s1 : Same H (upd H c (.tup (cutV (ks.map fun p => V.ref p.1) (some 1) none))) := same_upd nc
      refine ⟨a, c, _, _, rfl, .inr ⟨sqT_same s1 hT, tupNew upd_same, ?_⟩⟩
      refine go c _ (fun v H2 => ∃ (a : Addr) (bs : List Bool), [v] = [V.ref a] ∧ SqL K H2 a (bs.map V.bl) ∧ Q (.bl (bs.all id)) H2) s1 ?_ ?_
      · exact tupNew (by rw [upd_same, cut1])
      · exact fin _ s1
end
end K44
set_option maxHeartbeats 4000000
namespace K44
open PySem PySem.Spec PyProof.Rows L2 RV
/-- the marks behind m by the steps ps -/
def behindOf (ps : List (List Int)) (m : Int) : List Int := (ps.filter fun p => decide (p.getD 0 0 = m)).map fun p => p.getD 1 0
section
variable {P : Program} {w : World} {K : PySem.W.Frag} {mg : Str → Option Value} {base : Heap}
/-! ### marks_behind -/
theorem scBehind : FnScope ["steps", "mark", "a", "b"] ["steps", "mark"] (defScope sBehind) := ⟨rfl, rfl, rfl, by decide +kernel, rfl, by decide +kernel, by decide +kernel⟩
def spBehind (K : PySem.W.Frag) : Sp := fun vs H Q _ => ∃ (a : Addr) (ps : List (List Int)) (m : Int), vs = [.ref a, .int m] ∧ Tups K H a ps ∧ ps.length ≤ 1000 ∧ (∀ p ∈ ps, ∃ x y : Int, p = [x, y]) ∧
  ∀ H' t, Same H H' → H t = none → H' t = some (.tup ((behindOf ps m).map V.int)) → Q (.ref t) H'
theorem behind_next {ps : List (List Int)} {m : Int} {i : Nat} {x y : Int} (h : ps[i]? = some [x, y]) : behindOf (ps.take (i + 1)) m = behindOf (ps.take i) m ++ (if x = m then [y] else []) := by
  unfold behindOf
  rw [List.take_add_one, h]
  show List.map _ (List.filter _ (ps.take i ++ [[x, y]])) = _
  rw [List.filter_append, List.map_append]
  by_cases e : x = m
  · simp [e]
  · simp [e]
theorem behind_len (ps : List (List Int)) (m : Int) : (behindOf ps m).length ≤ ps.length := by
  unfold behindOf
  rw [List.length_map]
  exact List.length_filter_le _ _
theorem ok_behind {f : Addr} {fd : FuncData} (F : Fun K "marks_behind" "marks_behind" sBehind f fd) (B : Bare mg) : FnOk P w K mg base CX0 1 f fd ["steps", "mark"] (spBehind K) := by
  refine F.ok scBehind (fun vs H Q E h => ?_) (fun cdv A outer s H vs Q E hr h => ?_)
  · obtain ⟨a, ps, m, rfl, _⟩ := h
    rfl
  · obtain ⟨a, ps, m, rfl, hTT, hl, hp, q⟩ := h
    obtain ⟨ks, rfl, hT, hks⟩ := hTT
    refine ⟨_, pss_one (ps_ret (pe_tupleOf (by rfl) B.tuple
        (pe_lc (own := [("a", 2), ("b", 3)]) (g := gTup K 2 (gCons (gName 2) (gCons (gName 3) gNil))) rfl scBehind.nd (pi_tup (pv 0)) (blkOk_by (N := ["steps", "mark", "a", "b"]) (sc := defScope sBehind) (by decide +kernel))
          (fun _ _ _ _ _ => pg_tupK rfl rfl (pgs_cons (pg_name (i := 2) scBehind.nd rfl (Or.inl rfl)) (pgs_cons (pg_name (i := 3) scBehind.nd rfl (Or.inl rfl)) pgs_nil))) (fun _ _ _ _ _ => pts_one (pt_cmpR op_eq (pv 2) (pv 1) (nomark _)))
          (fun _ _ _ _ _ => pv 3)))), ?_⟩
    refine ⟨.ref a, rfl, a, rfl, ⟨_, hT⟩, fun D nD => ?_⟩
    refine lc_tup (K := K) (a := a) (xs := ks.map fun p => V.ref p.1) (fun i H' => Same H H' ∧ H' D = some (.lst ((behindOf ((ks.map (·.2)).take i) m).map V.int))) ⟨same_upd nD, by rw [upd_same]; rfl⟩ (fun i H' _ p => sqT_same p.1 hT) (fun i x H' hx p => ?_) fun H' p => ?_
    · obtain ⟨k, g, rfl⟩ := map_at hx
      have hk : k ∈ ks := List.mem_of_getElem? g
      obtain ⟨x, y, e⟩ := hp k.2 (List.mem_map_of_mem hk)
      have hkT : SqT K H' k.1 ([x, y].map V.int) := by rw [← e]; exact sqT_same p.1 (hks k hk)
      have gi : (ks.map (·.2))[i]? = some [x, y] := by rw [List.getElem?_map, g, ← e]; rfl
      refine ⟨k.1, _, rfl, hkT, rfl, _, _, rfl, _, _, rfl, rfl, rfl, .int x, rfl, .int m, rfl, rfl, _, rfl, ?_⟩
      have hle := behind_len ((ks.map (·.2)).take i) m
      rw [List.length_take] at hle
      by_cases e : x = m
      · subst e
        rw [decide_eq_true rfl]
        refine iteT ⟨.int y, rfl, _, p.2, ?_, ?_, ?_⟩
        · rw [List.length_map]; exact few1 (by omega)
        · exact fun b o z => by rw [upd_ne (ne_of_none z nD)]; exact p.1 b o z
        · rw [upd_same, behind_next gi, if_pos rfl, List.map_append]; rfl
      · rw [decide_eq_false (fun z => e (V.int.inj z))]
        refine iteF ⟨p.1, ?_⟩
        rw [p.2, behind_next gi, if_neg e, List.append_nil]
    · rw [List.length_map] at p
      have e : (ks.map (·.2)).take ks.length = ks.map (·.2) := List.take_of_length_le (by rw [List.length_map]; exact Nat.le_refl _)
      rw [e] at p
      refine .inl ⟨D, _, rfl, lstNew p.2, fun t nt => ?_⟩
      exact q _ t (p.1.trans (same_upd nt)) (p.1.free nt) upd_same
/-! ### are_steps -/
theorem scSteps : FnScope ["mirrors", "thing", "pair", "a", "b"] ["mirrors", "thing"] (defScope sSteps) := ⟨rfl, rfl, rfl, by decide +kernel, rfl, by decide +kernel, by decide +kernel⟩
def spSteps (K : PySem.W.Frag) : Sp := fun vs H Q _ => ∃ (a b : Addr) (ns : List Int) (ps : List (List Int)), vs = [.ref a, .ref b] ∧ SqT K H a (ns.map V.int) ∧ Tups K H b ps ∧ Mir ns ∧ Stp ns ps ∧ ∀ H', Same H H' → Q (.bl true) H'
theorem ok_steps {f fS fR : Addr} {fd fdS fdR : FuncData} (F : Fun K "are_steps" "are_steps" sSteps f fd) (DS : DefAt K mg "is_step" sStep ["thing", "many"] fS fdS) (GS : FnOk P w K mg base CX0 4 fS fdS ["thing", "many"] (spStep K))
    (DR : DefAt K mg "is_rising" sRising ["pairs"] fR fdR) (B : Bare mg) : FnOk P w K mg base CX0 5 f fd ["mirrors", "thing"] (spSteps K) := by
  have GR : FnOk P w K mg base CX0 1 fR fdR ["pairs"] (spRising K) := ok_rising DR.fn B
  refine F.ok scSteps (fun vs H Q E h => ?_) (fun cdv A outer s H vs Q E hr h => ?_)
  · obtain ⟨a, b, ns, ps, rfl, _⟩ := h
    rfl
  · obtain ⟨a, b, ns, ps, rfl, hA, hTT, hM, hS, q⟩ := h
    have hTT0 := hTT
    obtain ⟨ks, rfl, hT, hks⟩ := hTT
    have h64 := hS.few
    rw [List.length_map] at h64
    refine ⟨_, pss_cons (ps_if (pt_not (pt_val (pe_callB call_isi (by rfl) B.isinstance (by decide +kernel) (pa_cons (pv 1) (pa_cons (pe_bltn (v := .ty "tuple") (by rfl) B.tuple (by decide +kernel) rfl) pa_nil))))) (pss_one (ps_ret pe_bl)) pss_nil)
      (pss_cons (ps_if (pt_not (pt_val (pe_callB (cr_all rfl) (by rfl) B.all (by decide +kernel) (pa_cons
        (pe_lc (own := [("pair", 2)]) (g := gName 2) (tt := tYes) rfl scSteps.nd (pi_tup (pv 1)) (blkOk_by (N := ["mirrors", "thing", "pair", "a", "b"]) (sc := defScope sSteps) (by decide +kernel)) (fun _ _ _ _ _ => pg_name (i := 2) scSteps.nd rfl (Or.inl rfl)) (fun _ _ _ _ _ => pts_nil)
          (fun _ _ _ _ _ => pe_call GS hr (by rfl) DS.mg DS.fn.kp DS.bi .nil pass0 (pa_cons (pv 2) (pa_cons (pe_callB (call_lenK (K := K) rfl) (by rfl) B.len PySem.boot_len (pa_cons (pv 0) pa_nil)) pa_nil)))) pa_nil)))) (pss_one (ps_ret pe_bl)) pss_nil)
      (pss_cons (ps_if (pt_not (pt_val (pe_call GR (hr.mono (by decide)) (by rfl) DR.mg DR.fn.kp DR.bi .nil pass0 (pa_cons (pv 1) pa_nil)))) (pss_one (ps_ret pe_bl)) pss_nil)
      (pss_one (ps_ret (pe_callB (cr_all rfl) (by rfl) B.all (by decide +kernel) (pa_cons
        (pe_lc (own := [("a", 3), ("b", 4)]) (g := gTup K 2 (gCons (gName 3) (gCons (gName 4) gNil))) (tt := tYes) rfl scSteps.nd (pi_tup (pv 1)) (blkOk_by (N := ["mirrors", "thing", "pair", "a", "b"]) (sc := defScope sSteps) (by decide +kernel))
          (fun _ _ _ _ _ => pg_tupK rfl rfl (pgs_cons (pg_name (i := 3) scSteps.nd rfl (Or.inl rfl)) (pgs_cons (pg_name (i := 4) scSteps.nd rfl (Or.inl rfl)) pgs_nil))) (fun _ _ _ _ _ => pts_nil)
          (fun _ _ _ _ _ => pe_cmpR (op_inTsK (K := K) rfl (un65 hr)) (pe_tup (pa_cons (pe_ix (ix_tupK (K := K) rfl) (pv 0) (pv 4) (fun _ _ => rfl)) (pa_cons (pe_ix (ix_tupK (K := K) rfl) (pv 0) (pv 3) (fun _ _ => rfl)) pa_nil))) (pv 1) (by rfl))) pa_nil)))))), ?_⟩
    -- isinstance(thing, tuple)
    refine ⟨.ref b, rfl, .ref b, .ty "tuple", _, _, true, rfl, .ty "tuple", tyT hT, kit_ty (by decide +kernel), true, rfl, iteF ?_⟩
    -- all of them are steps
    refine ⟨.ref b, rfl, b, rfl, ⟨_, hT⟩, fun D nD => ?_⟩
    refine lc_tup (K := K) (a := b) (xs := ks.map fun p => V.ref p.1) (fun i H' => Same H H' ∧ H' D = some (.lst (List.replicate i (V.bl true)))) ⟨same_upd nD, upd_same⟩ (fun i H' _ p => sqT_same p.1 hT) (fun i x H' hx p => ?_) fun H1 p => ?_
    · obtain ⟨k, g, rfl⟩ := map_at hx
      have hk : k ∈ ks := List.mem_of_getElem? g
      have hi : i < ks.length := (List.getElem?_eq_some_iff.mp g).1
      obtain ⟨x, y, e, hx1, hy1⟩ := hS.pair k.2 (List.mem_map_of_mem hk)
      have hkT : SqT K H' k.1 ([x, y].map V.int) := by rw [← e]; exact sqT_same p.1 (hks k hk)
      refine ⟨rfl, tt_yes ⟨.ref k.1, rfl, .ref a, rfl, a, _, rfl, .inr (sqT_same p.1 hA), k.1, x, y, _, rfl, hkT, ?_, ?_, fun H2 s2 => ⟨_, s2 _ _ p.2, ?_, ?_, ?_⟩⟩⟩
      · rw [List.length_map]; exact hx1
      · rw [List.length_map]; exact hy1
      · rw [List.length_replicate]; exact few1 (by omega)
      · exact fun c o z => by rw [upd_ne (ne_of_none z nD)]; exact s2 c o (p.1 c o z)
      · rw [upd_same, rep_next]
    · rw [rep_bl] at p
      refine ⟨D, _, rfl, lstNew p.2, ?_⟩
      rw [all_true]
      refine ⟨true, rfl, iteF ?_⟩
      -- they rise
      refine ⟨.ref b, rfl, b, _, rfl, hTT0.same p.1, by rw [List.length_map]; omega, hS.rise, fun H2 s2 => ⟨true, rfl, iteF ?_⟩⟩
      have s02 : Same H H2 := p.1.trans s2
      -- their mirror steps
      refine ⟨.ref b, rfl, b, rfl, ⟨_, sqT_same s02 hT⟩, fun D2 nD2 => ?_⟩
      refine lc_tup (K := K) (a := b) (xs := ks.map fun p => V.ref p.1) (fun i H' => Same H2 H' ∧ H' D2 = some (.lst (List.replicate i (V.bl true)))) ⟨same_upd nD2, upd_same⟩ (fun i H' _ p => sqT_same p.1 (sqT_same s02 hT)) (fun i x H' hx p => ?_) fun H3 p => ?_
      · obtain ⟨k, g, rfl⟩ := map_at hx
        have hk : k ∈ ks := List.mem_of_getElem? g
        have hi : i < ks.length := (List.getElem?_eq_some_iff.mp g).1
        obtain ⟨x, y, e, hx1, hy1⟩ := hS.pair k.2 (List.mem_map_of_mem hk)
        have s0' : Same H H' := s02.trans p.1
        have hkT : SqT K H' k.1 ([x, y].map V.int) := by rw [← e]; exact sqT_same s0' (hks k hk)
        obtain ⟨mx, gx⟩ : ∃ mx, ns[x.toNat]? = some mx := ⟨_, List.getElem?_eq_getElem (by omega)⟩
        obtain ⟨my, gy⟩ : ∃ my, ns[y.toNat]? = some my := ⟨_, List.getElem?_eq_getElem (by omega)⟩
        have hin : [my, mx] ∈ ks.map (·.2) := hS.mirr x y mx my (by rw [← e]; exact List.mem_map_of_mem hk) gx gy
        have ax : atI (ns.map V.int) x = some (.int mx) := by
          rw [show x = ((x.toNat : Nat) : Int) by omega]; exact atI_nat (by rw [List.getElem?_map, gx]; rfl)
        have ay : atI (ns.map V.int) y = some (.int my) := by
          rw [show y = ((y.toNat : Nat) : Int) by omega]; exact atI_nat (by rw [List.getElem?_map, gy]; rfl)
        refine ⟨k.1, _, rfl, hkT, rfl, _, _, rfl, _, _, rfl, rfl, rfl, tt_yes ⟨.ref a, rfl, .int y, rfl, a, _, y, _, rfl, rfl, sqT_same s0' hA, ay, .ref a, rfl, .int x, rfl, a, _, x, _, rfl, rfl, sqT_same s0' hA, ax, (by show 2 ≤ sizeLine; decide), fun T nT => ?_⟩⟩
        have sT : Same H' (upd H' T (.tup [.int my, .int mx])) := same_upd nT
        refine ⟨.ref b, rfl, T, b, [my, mx], _, rfl, rfl, tupNew upd_same, (hTT0.same s0').same sT, _, sT _ _ p.2, ?_, ?_, ?_⟩
        · rw [List.length_replicate]; exact few1 (by omega)
        · exact fun c o z => by rw [upd_ne (ne_of_none z nD2)]; exact sT c o (p.1 c o z)
        · rw [upd_same, decide_eq_true hin, rep_next]
      · rw [rep_bl] at p
        refine ⟨D2, _, rfl, lstNew p.2, ?_⟩
        rw [all_true]
        exact q H3 (s02.trans p.1)
end
end K44
set_option maxHeartbeats 4000000
namespace K44
open PySem PySem.Spec PyProof.Rows L2 RV
/-! ### a Rule's fields -/
theorem n1 : ¬ (("mirrors" : Str) = "steps") := by decide +kernel
theorem n2 : ¬ (("mirrors" : Str) = "followers") := by decide +kernel
theorem n3 : ¬ (("steps" : Str) = "followers") := by decide +kernel
def flds (a b t : Addr) : List (Str × V) := putF "followers" (.ref t) (putF "steps" (.ref b) (putF "mirrors" (.ref a) []))
theorem flds_m (a b t : Addr) : (flds a b t).lookup ("mirrors" : Str) = some (.ref a) := by
  unfold flds
  rw [lookup_putF, if_neg n2, lookup_putF, if_neg n1, lookup_putF, if_pos rfl]
theorem flds_s (a b t : Addr) : (flds a b t).lookup ("steps" : Str) = some (.ref b) := by
  unfold flds
  rw [lookup_putF, if_neg n3, lookup_putF, if_pos rfl]
/-- all that a mark is followed by, mark by mark -/
def follow (n : Nat) (ps : List (List Int)) : List (List Int) := (List.range n).map fun (i : Nat) => behindOf ps (i : Int)
/-- a Rule stands at p -/
structure RuleAt (K : PySem.W.Frag) (C : Addr) (H : Hp) (p : Addr) (ns : List Int) (ps : List (List Int)) : Prop where
  ex : ∃ dx a b t, H p = some (.ins C dx (flds a b t)) ∧ SqT K H a (ns.map V.int) ∧ Tups K H b ps ∧ Tups K H t (follow ns.length ps)
theorem RuleAt.same {K : PySem.W.Frag} {C : Addr} {H H' : Hp} {p : Addr} {ns : List Int} {ps : List (List Int)} (r : RuleAt K C H p ns ps) (s : Same H H') : RuleAt K C H' p ns ps := by
  obtain ⟨dx, a, b, t, h1, h2, h3, h4⟩ := r.ex
  exact ⟨dx, a, b, t, s _ _ h1, sqT_same s h2, h3.same s, h4.same s⟩
/-- what the class is, behind the top -/
structure Txt (K : PySem.W.Frag) (mg : Str → Option Value) (C : Addr) : Prop where
  cl : Cls K C
  nM : NoAttr K C "mirrors"
  nS : NoAttr K C "steps"
  nF : NoAttr K C "followers"
  mgC : mg "Rule" = some (.ref C)
  c1 : PySem.W.findIn K (.ref C) "__class__" = some (some (.builtin "object.__class__"))
  c2 : PySem.W.specialIn K (.builtin "object.__class__") "__get__" = some (some (.builtin "getset_descriptor.__get__"))
  c3 : PySem.W.takesIn K (.builtin "object.__class__") = some true
  c4 : PySem.W.mroIn K C (.type "object") = some true
  c5 : PySem.W.kitOne K (.ref C) (.ref C) = some true
section
variable {P : Program} {w : World} {K : PySem.W.Frag} {mg : Str → Option Value} {base : Heap}
/-! ### __init__ -/
theorem scInit : FnScope ["self", "mirrors", "steps", "mark"] ["self", "mirrors", "steps"] (defScope sInit) := ⟨rfl, rfl, rfl, by decide +kernel, rfl, by decide +kernel, by decide +kernel⟩
def spInit (K : PySem.W.Frag) (C : Addr) : Sp := fun vs H Q _ => ∃ (p dx a b : Addr) (ns : List Int) (ps : List (List Int)), vs = [.ref p, .ref a, .ref b] ∧ H p = some (.ins C dx []) ∧ SqT K H a (ns.map V.int) ∧ Tups K H b ps ∧ Mir ns ∧ Stp ns ps ∧
  ∀ H' t, (∀ c o, H c = some o → c ≠ p → H' c = some o) → H' p = some (.ins C dx (flds a b t)) → Tups K H' t (follow ns.length ps) → Q .non H'
theorem sqT_but {H H' : Hp} {p C dx : Addr} {fs : List (Str × V)} (hp : H p = some (.ins C dx fs)) (k : ∀ c o, H c = some o → c ≠ p → H' c = some o) {a : Addr} {xs : List V} (h : SqT K H a xs) : SqT K H' a xs := by
  rcases h with (h | ⟨o, h⟩) | h
  · exact .inl (.inl (k _ _ h fun z => by rw [z, hp] at h; cases h))
  · exact .inl (.inr ⟨o, k _ _ h fun z => by rw [z, hp] at h; cases h⟩)
  · exact .inr h
theorem tups_but {H H' : Hp} {p C dx : Addr} {fs : List (Str × V)} (hp : H p = some (.ins C dx fs)) (k : ∀ c o, H c = some o → c ≠ p → H' c = some o) {a : Addr} {ps : List (List Int)} (h : Tups K H a ps) : Tups K H' a ps := by
  obtain ⟨ks, h1, h2, h3⟩ := h
  exact ⟨ks, h1, sqT_but hp k h2, fun q hq => sqT_but hp k (h3 q hq)⟩
theorem follow_next (i : Nat) (ps : List (List Int)) : follow (i + 1) ps = follow i ps ++ [behindOf ps (i : Int)] := by
  unfold follow
  rw [List.range_succ, List.map_append]; rfl
theorem ok_init {f fM fS fB C : Addr} {fd fdM fdS fdB : FuncData} (F : Fun K "__init__" "Rule.__init__" sInit f fd) (T : Txt K mg C)
    (DM : DefAt K mg "are_mirrors" sMirrors ["thing"] fM fdM) (GM : FnOk P w K mg base CX0 4 fM fdM ["thing"] (spMirrors K)) (DS : DefAt K mg "are_steps" sSteps ["mirrors", "thing"] fS fdS) (GS : FnOk P w K mg base CX0 5 fS fdS ["mirrors", "thing"] (spSteps K))
    (DB : DefAt K mg "marks_behind" sBehind ["steps", "mark"] fB fdB) (B : Bare mg) : FnOk P w K mg base CX0 6 f fd ["self", "mirrors", "steps"] (spInit K C) := by
  have GB : FnOk P w K mg base CX0 1 fB fdB ["steps", "mark"] (spBehind K) := ok_behind DB.fn B
  refine F.ok scInit (fun vs H Q E h => ?_) (fun cdv A outer s H vs Q E hr h => ?_)
  · obtain ⟨p, dx, a, b, ns, ps, rfl, _⟩ := h
    rfl
  · obtain ⟨p, dx, a, b, ns, ps, rfl, hp, hA, hB, hM, hS, q⟩ := h
    refine ⟨_, pss_cons (ps_if (pt_not (pt_val (pe_call GM (hr.mono (by decide)) (by rfl) DM.mg DM.fn.kp DM.bi .nil pass0 (pa_cons (pv 1) pa_nil)))) (pss_one ps_never) pss_nil)
      (pss_cons (ps_if (pt_not (pt_val (pe_call GS hr (by rfl) DS.mg DS.fn.kp DS.bi .nil pass0 (pa_cons (pv 1) (pa_cons (pv 2) pa_nil))))) (pss_one ps_never) pss_nil)
      (pss_cons (ps_fld (pv 0) (pv 1) rfl)
      (pss_cons (ps_fld (pv 0) (pv 2) rfl)
      (pss_one (ps_fld (pv 0) (pe_tupleOf (by rfl) B.tuple
        (pe_lc (own := [("mark", 3)]) (g := gName 3) (tt := tYes) rfl scInit.nd (pi_range1 (by rfl) B.range (pa_cons (pe_callB call_len_seq (by rfl) B.len PySem.boot_len (pa_cons (pv 1) pa_nil)) pa_nil)) (blkOk_by (N := ["self", "mirrors", "steps", "mark"]) (sc := defScope sInit) (by decide +kernel))
          (fun _ _ _ _ _ => pg_name (i := 3) scInit.nd rfl (Or.inl rfl)) (fun _ _ _ _ _ => pts_nil)
          (fun _ _ _ _ _ => pe_call GB (hr.mono (by decide)) (by rfl) DB.mg DB.fn.kp DB.bi .nil pass0 (pa_cons (pv 2) (pa_cons (pv 3) pa_nil))))) rfl))))), ?_⟩
    refine ⟨.ref a, rfl, a, ns, rfl, hA, hM, fun H1 s1 => ⟨true, rfl, iteF ?_⟩⟩
    refine ⟨.ref a, rfl, .ref b, rfl, a, b, ns, ps, rfl, sqT_same s1 hA, hB.same s1, hM, hS, fun H2 s2 => ⟨true, rfl, iteF ?_⟩⟩
    have s02 : Same H H2 := s1.trans s2
    have hp2 := s02 _ _ hp
    refine ⟨.ref a, rfl, .ref p, rfl, p, C, dx, [], rfl, hp2, T.cl, T.nM, (by show 0 < 1000; decide), ?_⟩
    refine ⟨.ref b, rfl, .ref p, rfl, p, C, dx, _, rfl, upd_same, T.cl, T.nS, (by show 1 < 1000; decide), ?_⟩
    -- the heap behind both stores
    have k4 : ∀ c o, H2 c = some o → c ≠ p → (upd (upd H2 p (.ins C dx (putF "mirrors" (.ref a) []))) p (.ins C dx (putF "steps" (.ref b) (putF "mirrors" (.ref a) [])))) c = some o := fun c o e z => by
      rw [upd_ne z, upd_ne z]; exact e
    generalize e4 : upd (upd H2 p (.ins C dx (putF "mirrors" (.ref a) []))) p (.ins C dx (putF "steps" (.ref b) (putF "mirrors" (.ref a) []))) = H4 at k4 ⊢
    have hp4 : H4 p = some (.ins C dx (putF "steps" (.ref b) (putF "mirrors" (.ref a) []))) := by rw [← e4, upd_same]
    have hA4 : SqT K H4 a (ns.map V.int) := sqT_but hp2 k4 (sqT_same s02 hA)
    have hB4 : Tups K H4 b ps := tups_but hp2 k4 (hB.same s02)
    have h8 := hM.few
    refine ⟨.ref a, rfl, a, _, rfl, .inr hA4, _, rfl, ?_, ?_, fun D nD => ?_⟩
    · rw [List.length_map]; omega
    · rw [List.length_map]; omega
    rw [List.length_map, Int.toNat_natCast]
    refine lc_range (lo := 0) (n := ns.length) (fun i H' => Same H4 H' ∧ ∃ ks : List (Addr × List Int), ks.map (·.2) = follow i ps ∧ H' D = some (.lst (ks.map fun p => V.ref p.1)) ∧ ∀ q ∈ ks, SqT K H' q.1 (q.2.map V.int)) ⟨same_upd nD, [], rfl, upd_same, fun _ z => nomatch z⟩ (fun i H' hi z => ?_) fun H' z => ?_
    · obtain ⟨s5, ks, e1, e2, e3⟩ := z
      have hkl : ks.length = i := by
        have := congrArg List.length e1
        rw [List.length_map] at this
        rw [this]; unfold follow; rw [List.length_map, List.length_range]
      refine ⟨rfl, tt_yes ⟨.ref b, rfl, .int (0 + (i : Nat)), rfl, b, ps, _, rfl, hB4.same s5, by have := hS.few; omega, fun q hq => ?_, fun H6 t s6 nt et => ⟨_, s6 _ _ e2, ?_, ?_, ?_⟩⟩⟩
      · obtain ⟨x, y, e, _⟩ := hS.pair q hq
        exact ⟨x, y, e⟩
      · rw [List.length_map]; exact few1 (by omega)
      · exact fun c o e => by rw [upd_ne (ne_of_none e nD)]; exact s6 c o (s5 c o e)
      · have hk6 : ∀ c o, H6 c = some o → c ≠ D → (upd H6 D (.lst ((ks.map fun p => V.ref p.1) ++ [V.ref t]))) c = some o := fun c o e z => by rw [upd_ne z]; exact e
        have tk : ∀ {c : Addr} {xs : List V}, SqT K H6 c xs → SqT K (upd H6 D (.lst ((ks.map fun p => V.ref p.1) ++ [V.ref t]))) c xs := by
          intro c xs h
          have eD := s6 _ _ e2
          rcases h with (h | ⟨o, h⟩) | h
          · exact .inl (.inl (hk6 _ _ h fun z => by rw [z, eD] at h; cases h))
          · exact .inl (.inr ⟨o, hk6 _ _ h fun z => by rw [z, eD] at h; cases h⟩)
          · exact .inr h
        refine ⟨ks ++ [(t, behindOf ps (i : Int))], ?_, ?_, fun q hq => ?_⟩
        · rw [List.map_append, e1, follow_next]; rfl
        · rw [upd_same, List.map_append]; rfl
        · rcases List.mem_append.mp hq with z | z
          · exact tk (sqT_same s6 (e3 q z))
          · rw [List.mem_singleton.mp z]
            refine tk (tupNew ?_)
            rw [et, show (0 + ((i : Nat) : Int)) = (i : Int) by omega]
    · obtain ⟨s5, ks, e1, e2, e3⟩ := z
      refine .inl ⟨D, _, rfl, lstNew e2, fun t nt => ?_⟩
      have sT : Same H' (upd H' t (.tup (ks.map fun p => V.ref p.1))) := same_upd nt
      have hpT := sT _ _ (s5 _ _ hp4)
      refine ⟨.ref p, rfl, p, C, dx, _, rfl, hpT, T.cl, T.nF, (by
        show (putF "steps" (V.ref b) (putF "mirrors" (V.ref a) [])).length < 1000
        show (if ("mirrors" : Str) = "steps" then [(("mirrors" : Str), V.ref b)] else (("mirrors" : Str), V.ref a) :: putF "steps" (V.ref b) []).length < 1000
        rw [if_neg n1]; show 2 < 1000; decide), ?_⟩
      refine q _ t (fun c o e z => ?_) upd_same ?_
      · rw [upd_ne z]
        exact sT _ _ (s5 _ _ (k4 _ _ (s02 _ _ e) z))
      · have tt : Tups K (upd H' t (.tup (ks.map fun p => V.ref p.1))) t (follow ns.length ps) := ⟨ks, e1, tupNew upd_same, fun q hq => sqT_same sT (e3 q hq)⟩
        exact tups_but hpT (fun c o e z => by rw [upd_ne z]; exact e) tt
end
end K44
set_option maxHeartbeats 4000000
namespace K44
open PySem PySem.Spec PyProof.Rows L2 RV
theorem mro_tuple : PySem.fastBuiltinMro "tuple" = some [.type "tuple", .type "object"] := by decide +kernel
theorem mro_none : PySem.fastBuiltinMro "NoneType" = some [.type "NoneType", .type "object"] := by decide +kernel
theorem mro_str : PySem.fastBuiltinMro "str" = some [.type "str", .type "object"] := by decide +kernel
theorem mro_int : PySem.fastBuiltinMro "int" = some [.type "int", .type "object"] := by decide +kernel
theorem kit_other {K : PySem.W.Frag} {C : Addr} {T : String} (h1 : (PySem.W.clsIn K C).isSome = true) (h2 : PySem.W.typeIn K (.ref C) = some (.type "type")) (h3 : PySem.fastBuiltinMro T = some [.type T, .type "object"]) : PySem.W.kitOne K (.type T) (.ref C) = some false := by
  unfold PySem.W.kitOne PySem.W.kitCls
  rw [if_neg (by simp)]
  show (if ((PySem.W.clsIn K C).isSome && PySem.W.typeIn K (.ref C) == some (.type "type")) = true then PySem.W.subIn K (.type T) (.ref C) else none) = some false
  rw [h1, h2, if_pos (by simp)]
  show (PySem.fastBuiltinMro T).map (·.contains (.ref C)) = some false
  rw [h3]
  simp
theorem kit_self {K : PySem.W.Frag} {C : Addr} : PySem.W.kitOne K (.ref C) (.ref C) = some true := by
  unfold PySem.W.kitOne
  simp
section
variable {P : Program} {w : World} {K : PySem.W.Frag} {mg : Str → Option Value} {base : Heap}
/-! ### __eq__ -/
theorem scEq : FnScope ["self", "other"] ["self", "other"] (defScope sEq) := ⟨rfl, rfl, rfl, by decide +kernel, rfl, by decide +kernel, by decide +kernel⟩
def spEq (K : PySem.W.Frag) (C : Addr) : Sp := fun vs H Q _ => ∃ (p : Addr) (v : V) (ns : List Int) (ps : List (List Int)), vs = [.ref p, v] ∧ RuleAt K C H p ns ps ∧
  ((∃ (q : Addr) (ns' : List Int) (ps' : List (List Int)), v = .ref q ∧ RuleAt K C H q ns' ps' ∧ Q (.bl (decide (ns = ns') && decide (ps = ps'))) H) ∨ (∃ t, TyX K H v t ∧ PySem.W.kitOne K t (.ref C) = some false ∧ Q (.bl false) H))
theorem ok_eq {f C : Addr} {fd : FuncData} (F : Fun K "__eq__" "Rule.__eq__" sEq f fd) (T : Txt K mg C) (B : Bare mg) : FnOk P w K mg base CX0 1 f fd ["self", "other"] (spEq K C) := by
  refine F.ok scEq (fun vs H Q E h => ?_) (fun cdv A outer s H vs Q E hr h => ?_)
  · obtain ⟨p, v, ns, ps, rfl, _⟩ := h
    rfl
  · obtain ⟨p, v, ns, ps, rfl, R1, h⟩ := h
    obtain ⟨dx, a, b, t, h1, h2, h3, h4⟩ := R1.ex
    refine ⟨_, pss_one (ps_ret (pe_and (pe_callB call_isi (by rfl) B.isinstance (by decide +kernel) (pa_cons (pv 1) (pa_cons (pe_glob (v := .ref C) rfl T.mgC rfl) pa_nil)))
      (pe_and (pe_cmpR (op_eqI1 hr.units) (pe_fld (pv 0) rfl) (pe_fld (pv 1) rfl) (nomark _)) (pe_one (pe_cmpR (op_eqTs hr.units) (pe_fld (pv 0) rfl) (pe_fld (pv 1) rfl) (nomark _)))))), ?_⟩
    rcases h with ⟨q, ns', ps', rfl, R2, k⟩ | ⟨ty, hty, hk, k⟩
    · obtain ⟨dx', a', b', t', g1, g2, g3, g4⟩ := R2.ex
      refine ⟨.ref q, rfl, .ref q, .ref C, _, _, true, rfl, .own C, .base (.ins g1 T.cl T.c1 T.c2 T.c3 T.c4), T.c5, true, rfl, iteT ?_⟩
      refine ⟨.ref p, rfl, p, C, dx, _, _, rfl, h1, T.cl, T.nM, flds_m _ _ _, .ref q, rfl, q, C, dx', _, _, rfl, g1, T.cl, T.nM, flds_m _ _ _, a, a', ns, ns', rfl, rfl, h2, g2, _, rfl, ?_⟩
      by_cases e : ns = ns'
      · rw [decide_eq_true e] at k ⊢
        refine iteT ⟨.ref p, rfl, p, C, dx, _, _, rfl, h1, T.cl, T.nS, flds_s _ _ _, .ref q, rfl, q, C, dx', _, _, rfl, g1, T.cl, T.nS, flds_s _ _ _, b, b', ps, ps', rfl, rfl, h3, g3, ?_⟩
        rw [Bool.true_and] at k
        exact k
      · rw [decide_eq_false e] at k ⊢
        rw [Bool.false_and] at k
        exact iteF k
    · exact ⟨v, rfl, v, .ref C, _, _, false, rfl, .own C, hty, hk, false, rfl, iteF k⟩
/-! ### marks, mirror, behind -/
theorem scMarksM : FnScope ["self"] ["self"] (defScope sMarksM) := ⟨rfl, rfl, rfl, by decide +kernel, rfl, by decide +kernel, by decide +kernel⟩
def spMarksM (K : PySem.W.Frag) (C : Addr) : Sp := fun vs H Q _ => ∃ (p : Addr) (ns : List Int) (ps : List (List Int)), vs = [.ref p] ∧ RuleAt K C H p ns ps ∧ Q (.int (ns.length : Int)) H
theorem ok_marksM {f C : Addr} {fd : FuncData} (F : Fun K "marks" "Rule.marks" sMarksM f fd) (T : Txt K mg C) (B : Bare mg) : FnOk P w K mg base CX0 1 f fd ["self"] (spMarksM K C) := by
  refine F.ok scMarksM (fun vs H Q E h => ?_) (fun cdv A outer s H vs Q E hr h => ?_)
  · obtain ⟨p, ns, ps, rfl, _⟩ := h
    rfl
  · obtain ⟨p, ns, ps, rfl, R1, k⟩ := h
    obtain ⟨dx, a, b, t, h1, h2, h3, h4⟩ := R1.ex
    refine ⟨_, pss_one (ps_ret (pe_callB call_len_seq (by rfl) B.len PySem.boot_len (pa_cons (pe_fld (pv 0) rfl) pa_nil))), ?_⟩
    refine ⟨.ref p, rfl, p, C, dx, _, _, rfl, h1, T.cl, T.nM, flds_m _ _ _, a, _, rfl, .inr h2, ?_⟩
    rw [List.length_map]; exact k
theorem scMirrorM : FnScope ["self", "mark"] ["self", "mark"] (defScope sMirrorM) := ⟨rfl, rfl, rfl, by decide +kernel, rfl, by decide +kernel, by decide +kernel⟩
def spMirrorM (K : PySem.W.Frag) (C : Addr) : Sp := fun vs H Q _ => ∃ (p : Addr) (ns : List Int) (ps : List (List Int)) (i : Nat) (x : Int), vs = [.ref p, .int (i : Int)] ∧ RuleAt K C H p ns ps ∧ ns[i]? = some x ∧ Q (.int x) H
theorem ok_mirrorM {f C : Addr} {fd : FuncData} (F : Fun K "mirror" "Rule.mirror" sMirrorM f fd) (T : Txt K mg C) : FnOk P w K mg base CX0 1 f fd ["self", "mark"] (spMirrorM K C) := by
  refine F.ok scMirrorM (fun vs H Q E h => ?_) (fun cdv A outer s H vs Q E hr h => ?_)
  · obtain ⟨p, ns, ps, i, x, rfl, _⟩ := h
    rfl
  · obtain ⟨p, ns, ps, i, x, rfl, R1, e, k⟩ := h
    obtain ⟨dx, a, b, t, h1, h2, h3, h4⟩ := R1.ex
    refine ⟨_, pss_one (ps_ret (pe_ix ix_tup (pe_fld (pv 0) rfl) (pv 1) (fun _ _ => rfl))), ?_⟩
    exact ⟨.ref p, rfl, p, C, dx, _, _, rfl, h1, T.cl, T.nM, flds_m _ _ _, .int (i : Int), rfl, a, _, _, _, rfl, rfl, h2, atI_nat (by rw [List.getElem?_map, e]; rfl), k⟩
theorem n4 : ¬ (("followers" : Str) = "steps") := by decide +kernel
theorem flds_f (a b t : Addr) : (flds a b t).lookup ("followers" : Str) = some (.ref t) := by
  unfold flds
  rw [lookup_putF, if_pos rfl]
theorem scBehindM : FnScope ["self", "mark"] ["self", "mark"] (defScope sBehindM) := ⟨rfl, rfl, rfl, by decide +kernel, rfl, by decide +kernel, by decide +kernel⟩
def spBehindM (K : PySem.W.Frag) (C : Addr) : Sp := fun vs H Q _ => ∃ (p : Addr) (ns : List Int) (ps : List (List Int)) (i : Nat), vs = [.ref p, .int (i : Int)] ∧ RuleAt K C H p ns ps ∧ i < ns.length ∧ ∀ c, SqT K H c ((behindOf ps (i : Int)).map V.int) → Q (.ref c) H
theorem ok_behindM {f C : Addr} {fd : FuncData} (F : Fun K "behind" "Rule.behind" sBehindM f fd) (T : Txt K mg C) : FnOk P w K mg base CX0 1 f fd ["self", "mark"] (spBehindM K C) := by
  refine F.ok scBehindM (fun vs H Q E h => ?_) (fun cdv A outer s H vs Q E hr h => ?_)
  · obtain ⟨p, ns, ps, i, rfl, _⟩ := h
    rfl
  · obtain ⟨p, ns, ps, i, rfl, R1, hi, k⟩ := h
    obtain ⟨dx, a, b, t, h1, h2, h3, h4⟩ := R1.ex
    obtain ⟨ks, e1, e2, e3⟩ := h4
    refine ⟨_, pss_one (ps_ret (pe_ix ix_tup (pe_fld (pv 0) rfl) (pv 1) (fun _ _ => rfl))), ?_⟩
    have hkl : ks.length = ns.length := by
      have z := congrArg List.length e1
      rw [List.length_map] at z
      rw [z]; unfold follow; rw [List.length_map, List.length_range]
    have hk : i < ks.length := by omega
    have e4 : (ks.map (·.2))[i]? = some ks[i].2 := by rw [List.getElem?_map, List.getElem?_eq_getElem hk]; rfl
    have e5 : ks[i].2 = behindOf ps (i : Int) := by
      rw [e1] at e4
      unfold follow at e4
      rw [List.getElem?_map, List.getElem?_range hi] at e4
      exact (Option.some.inj e4).symm
    refine ⟨.ref p, rfl, p, C, dx, _, _, rfl, h1, T.cl, T.nF, flds_f _ _ _, .int (i : Int), rfl, t, _, _, .ref ks[i].1, rfl, rfl, e2, atI_nat (by rw [List.getElem?_map, List.getElem?_eq_getElem hk]; rfl), k _ ?_⟩
    rw [← e5]; exact e3 _ (List.getElem_mem hk)
/-- what a call Rule(a, b) comes to -/
theorem make_rule {C a b x dx : Addr} {H : Hp} {Qh : Hp → Prop} {E : XK} {ns : List Int} {ps : List (List Int)} (hA : SqT K H a (ns.map V.int)) (hB : Tups K H b ps) (hM : Mir ns) (hS : Stp ns ps) (nx : H x = none) (nd : H dx = none) (ne : dx ≠ x)
    (k : ∀ H', Same H H' → RuleAt K C H' x ns ps → Qh H') :
    spInit K C (.ref x :: ([.ref a, .ref b] ++ [])) (upd (upd H dx (.own x)) x (.ins C dx [])) (fun v H2 => v = .non ∧ Qh H2) E := by
  have s0 : Same H (upd (upd H dx (.own x)) x (.ins C dx [])) := fun c o e => by
    rw [upd_ne (ne_of_none e nx), upd_ne (ne_of_none e nd)]; exact e
  refine ⟨x, dx, a, b, ns, ps, rfl, upd_same, sqT_same s0 hA, hB.same s0, hM, hS, fun H' t k1 k2 k3 => ⟨rfl, ?_⟩⟩
  have s1 : Same H H' := fun c o e => k1 c o (s0 c o e) (ne_of_none e nx)
  exact k H' s1 ⟨dx, a, b, t, k2, sqT_same s1 hA, hB.same s1, k3⟩
end
end K44
set_option maxHeartbeats 4000000
namespace RV
open PySem PySem.Spec PyProof.Rows L2
theorem nx_step {i : Nat} {v : V} {σ : L2.St} {H : Hp} {G : L2.St → Hp → Prop} (h : G (σ.set i (some v)) H) : gName i v σ H G := h
theorem seq_mid {t1 t2 : TS} {D : Ends} {σ : L2.St} {H : Hp} (J : L2.St → Hp → Prop) (h2 : ∀ σ H, J σ H → t2 D σ H) (h1 : (∀ σ H, J σ H → t2 D σ H) → tSeq t1 t2 D σ H) : tSeq t1 t2 D σ H := h1 h2
section
variable {X : Cx} {K : PySem.W.Frag}
theorem op_notInDK (h : X.K = K) (hu : X.A.units + 65 < cLine) : OpR X (compareOp .NotIn) (rNotInD K) := h ▸ op_notInD hu
theorem pe_backTK {e : Expr} {te : TE} {k : Nat} {p1 p2 p3 pos : Pos} (h : X.K = K) (he : PE X e te) : PE X (.Subscript e (.Slice none none (some (.UnaryOp .USub (.Constant (.int 1) k p1) p2)) p3) pos) (tBackT K te) := h ▸ pe_backT he
end
section
variable {X : Cx} {K : PySem.W.Frag}
theorem op_inDK (h : X.K = K) (hu : X.A.units + 65 < cLine) : OpR X (compareOp .In) (rInD K) := h ▸ op_inD hu
theorem ix_listK (h : X.K = K) : IxR X (rIxL K) := h ▸ ix_list
end
theorem take_filt {α : Type} {c : α → Bool} {ks : List α} {k : α} {i : Nat} (g : ks[i]? = some k) : (ks.take (i + 1)).filter c = (ks.take i).filter c ++ (if c k = true then [k] else []) := by
  rw [List.take_add_one, g]
  show (ks.take i ++ [k]).filter c = _
  rw [List.filter_append]
  by_cases e : c k = true
  · rw [if_pos e]; simp [e]
  · rw [if_neg e]; simp [e]
section
variable {K : PySem.W.Frag} {tt : TT} {te : TE} {f : Int → Bool} {σ : L2.St} {H1 : Hp} {a D : Addr} {v : Nat} {ns : List Int} {Qd : Hp → Prop}
/-- [x for x in t if ..], t a tuple of ints -/
theorem lc_filtT (hT : SqT K H1 a (ns.map V.int)) (hl : ns.length ≤ 1000) (nD : H1 D = none)
    (htest : ∀ x ∈ ns, ∀ H', Same H1 H' → ∀ A B : Hp → Prop, (∀ H2, Same H' H2 → if f x = true then A H2 else B H2) → tt ((wipe σ [v]).set v (some (.int x))) H' (fun b H3 => if b = true then A H3 else B H3))
    (hte : ∀ (x : Int) (H' : Hp) (Q : VK), Q (.int x) H' → te ((wipe σ [v]).set v (some (.int x))) H' Q)
    (hd : ∀ H', Same H1 H' → H' D = some (.lst ((ns.filter f).map V.int)) → Qd H') :
    ∃ W : Nat → Nat → Hp → Prop, (∃ m, W 0 m (upd H1 D (.lst []))) ∧ ∀ i m H, W i m H →
      ((Itt K a).stop i H ∧ Qd H) ∨ ((Itt K a).go i H ∧ ∃ Nx : Hp → Prop, (∀ H', Nx H' → ∃ m', m' < m ∧ W (i + 1) m' H') ∧ ∀ x H', (Itt K a).yld i H x H' → gName v x (wipe σ [v]) H' fun σ2 H2 => wipe σ2 [v] = wipe σ [v] ∧ tt σ2 H2 fun b H3 =>
        if b = true then te σ2 H3 fun y H4 => ∃ acc, H4 D = some (.lst acc) ∧ acc.length < sizeLine ∧ Nx (upd H4 D (.lst (acc ++ [y]))) else Nx H3) := by
  refine lc_tup (K := K) (a := a) (xs := ns.map V.int) (fun i H' => Same H1 H' ∧ H' D = some (.lst (((ns.take i).filter f).map V.int))) ⟨same_upd nD, upd_same⟩ (fun i H' _ p => sqT_same p.1 hT) (fun i x H' hx p => ?_) fun H' p => ?_
  · obtain ⟨k, g, rfl⟩ := map_at hx
    refine ⟨by simp [wipe, List.set_set], htest k (List.mem_of_getElem? g) H' p.1 _ _ fun H2 s2 => ?_⟩
    have s12 := p.1.trans s2
    have e2 := s2 _ _ p.2
    by_cases e : f k = true
    · rw [if_pos e]
      refine hte k H2 _ ⟨_, e2, ?_, fun b o z => ?_, ?_⟩
      · rw [List.length_map]
        exact few1 (Nat.le_trans (List.length_filter_le _ _) (by rw [List.length_take]; omega))
      · rw [upd_ne (ne_of_none z nD)]; exact s12 b o z
      · rw [upd_same, take_filt g, if_pos e, List.map_append]; rfl
    · rw [if_neg e]
      exact ⟨s12, by rw [take_filt g, if_neg e, List.append_nil]; exact e2⟩
  · rw [List.length_map, List.take_of_length_le (Nat.le_refl _)] at p
    exact hd H' p.1 p.2
/-- [x for x in l if ..], l a list of ints -/
theorem lc_filtL (hT : SqL K H1 a (ns.map V.int)) (hl : ns.length ≤ 1000) (nD : H1 D = none)
    (htest : ∀ x ∈ ns, ∀ H', Same H1 H' → ∀ A B : Hp → Prop, (∀ H2, Same H' H2 → if f x = true then A H2 else B H2) → tt ((wipe σ [v]).set v (some (.int x))) H' (fun b H3 => if b = true then A H3 else B H3))
    (hte : ∀ (x : Int) (H' : Hp) (Q : VK), Q (.int x) H' → te ((wipe σ [v]).set v (some (.int x))) H' Q)
    (hd : ∀ H', Same H1 H' → H' D = some (.lst ((ns.filter f).map V.int)) → Qd H') :
    ∃ W : Nat → Nat → Hp → Prop, (∃ m, W 0 m (upd H1 D (.lst []))) ∧ ∀ i m H, W i m H →
      ((Itl K a).stop i H ∧ Qd H) ∨ ((Itl K a).go i H ∧ ∃ Nx : Hp → Prop, (∀ H', Nx H' → ∃ m', m' < m ∧ W (i + 1) m' H') ∧ ∀ x H', (Itl K a).yld i H x H' → gName v x (wipe σ [v]) H' fun σ2 H2 => wipe σ2 [v] = wipe σ [v] ∧ tt σ2 H2 fun b H3 =>
        if b = true then te σ2 H3 fun y H4 => ∃ acc, H4 D = some (.lst acc) ∧ acc.length < sizeLine ∧ Nx (upd H4 D (.lst (acc ++ [y]))) else Nx H3) := by
  refine lc_list (K := K) (a := a) (xs := ns.map V.int) (fun i H' => Same H1 H' ∧ H' D = some (.lst (((ns.take i).filter f).map V.int))) ⟨same_upd nD, upd_same⟩ (fun i H' _ p => sqL_same p.1 hT) (fun i x H' hx p => ?_) fun H' p => ?_
  · obtain ⟨k, g, rfl⟩ := map_at hx
    refine ⟨by simp [wipe, List.set_set], htest k (List.mem_of_getElem? g) H' p.1 _ _ fun H2 s2 => ?_⟩
    have s12 := p.1.trans s2
    have e2 := s2 _ _ p.2
    by_cases e : f k = true
    · rw [if_pos e]
      refine hte k H2 _ ⟨_, e2, ?_, fun b o z => ?_, ?_⟩
      · rw [List.length_map]
        exact few1 (Nat.le_trans (List.length_filter_le _ _) (by rw [List.length_take]; omega))
      · rw [upd_ne (ne_of_none z nD)]; exact s12 b o z
      · rw [upd_same, take_filt g, if_pos e, List.map_append]; rfl
    · rw [if_neg e]
      exact ⟨s12, by rw [take_filt g, if_neg e, List.append_nil]; exact e2⟩
  · rw [List.length_map, List.take_of_length_le (Nat.le_refl _)] at p
    exact hd H' p.1 p.2
end
/-! ### x in l, of ints -/
theorem dpL {K : PySem.W.Frag} {H : Hp} {a : Addr} {ns : List Int} (h : SqL K H a (ns.map V.int)) : Dp K H (.ref a) (.list (ns.map PyData.int)) := .lst h (dpInts ns)
theorem shapedLI (ns : List Int) : SeqAt.shaped (.list (ns.map PyData.int)) = true := by
  have h1 : (PyData.list (ns.map PyData.int)).canLay0 = true := by simp only [PyData.canLay0]; exact lay_ints ns
  have h2 : (PyData.list (ns.map PyData.int)).depth ≤ 64 := by simp only [PyData.depth, dep_ints]; omega
  show ((PyData.list (ns.map PyData.int)).canLay0 && decide ((PyData.list (ns.map PyData.int)).depth ≤ 64)) = true
  rw [h1, decide_eq_true h2]; rfl
theorem shapedN (n : Int) : SeqAt.shaped (.int n) = true := by
  show ((PyData.int n).canLay0 && decide ((PyData.int n).depth ≤ 64)) = true
  simp [PyData.canLay0, PyData.depth]
theorem any_int (x : Int) : ∀ ns : List Int, (ns.map PyData.int).any (fun y => PyData.eqv y (.int x)) = decide (x ∈ ns)
  | [] => rfl
  | n :: r => by
    rw [List.map_cons, List.any_cons, any_int x r]
    by_cases e : x = n
    · subst e; simp [PyData.eqv]
    · have e' : ¬ n = x := fun z => e z.symm
      by_cases e2 : x ∈ r <;> simp [PyData.eqv, e, e', e2]
section
variable {X : Cx}
/-- n in t, t a tuple of ints -/
def rInTI (K : PySem.W.Frag) : R2 := fun x y H Q => ∃ (b : Addr) (n : Int) (ns : List Int), x = .int n ∧ y = .ref b ∧ SqT K H b (ns.map V.int) ∧ Q (.bl (decide (n ∈ ns))) H
theorem op_inTI (hu : X.A.units + 65 < cLine) : OpR X (compareOp .In) (rInTI X.K) := by
  intro pins s σ H x y v u Q I rx ry h
  obtain ⟨b, n, ns, rfl, rfl, h2, q⟩ := h
  obtain ⟨as, r1⟩ := Dp.reads I (.int n) (.int n) v (.int n) rx
  obtain ⟨bs, r2⟩ := Dp.reads I (dI ns) (.ref b) u (dpT h2) ry
  refine SeqAt.in_tuple_reads (xs := ns.map PyData.int) r2 r1 (lay_ints ns) (by simp [PyData.canLay0]) ?_ ⟨.bl _, H, I, rfl, ?_⟩
  · have := Nat.min_le_right (PyData.depthAll (ns.map PyData.int)) (PyData.int n).depth
    have e : (PyData.int n).depth = 0 := by simp [PyData.depth]
    omega
  · rw [any_int]; exact q
theorem op_inTIK {K : PySem.W.Frag} (h : X.K = K) (hu : X.A.units + 65 < cLine) : OpR X (compareOp .In) (rInTI K) := h ▸ op_inTI hu
end
end RV
namespace RV
open PySem L2
/-! ### who comes to whom by one step or more -/
inductive Rch (ps : List (List Int)) : Int → Int → Prop where
  | one {i j : Int} : [i, j] ∈ ps → Rch ps i j
  | more {i j k : Int} : Rch ps i j → [j, k] ∈ ps → Rch ps i k
theorem Rch.trans {ps : List (List Int)} {i j k : Int} (h : Rch ps i j) (g : Rch ps j k) : Rch ps i k := by
  induction g with
  | one e => exact .more h e
  | more _ e ih => exact .more ih e
theorem Rch.bound {ps : List (List Int)} {n : Int} (hb : ∀ p ∈ ps, Pr n p) {i j : Int} (h : Rch ps i j) : (0 ≤ i ∧ i < n) ∧ (0 ≤ j ∧ j < n) := by
  induction h with
  | one e =>
    obtain ⟨x, y, e2, hx, hy⟩ := hb _ e
    injection e2 with e3 e4
    injection e4 with e4 _
    subst e3 e4
    exact ⟨hx, hy⟩
  | more _ e ih =>
    obtain ⟨x, y, e2, hx, hy⟩ := hb _ e
    injection e2 with e3 e4
    injection e4 with e4 _
    subst e3 e4
    exact ⟨ih.1, hy⟩
/-- a lot that holds all right behind m and is closed -/
theorem rch_closed {ps : List (List Int)} {m : Int} {fs : List Int} (h1 : ∀ j, [m, j] ∈ ps → j ∈ fs) (h2 : ∀ x ∈ fs, ∀ j, [x, j] ∈ ps → j ∈ fs) {j : Int} (h : Rch ps m j) : j ∈ fs := by
  induction h with
  | one e => exact h1 _ e
  | more _ e ih => exact h2 _ ih _ e
noncomputable def rB (ps : List (List Int)) (i j : Int) : Bool := @decide (Rch ps i j) (Classical.propDecidable _)
theorem rB_iff {ps : List (List Int)} {i j : Int} : rB ps i j = true ↔ Rch ps i j := by
  unfold rB
  exact @decide_eq_true_iff _ (Classical.propDecidable _)
/-! ### numbers below n -/
def upN (n : Nat) : List Int := (List.range n).map fun (i : Nat) => (i : Int)
theorem upN_get {n k : Nat} (h : k < n) : (upN n)[k]? = some (k : Int) := by
  unfold upN
  rw [List.getElem?_map, List.getElem?_range h]; rfl
theorem upN_len (n : Nat) : (upN n).length = n := by unfold upN; rw [List.length_map, List.length_range]
theorem mem_upN {n : Nat} {x : Int} : x ∈ upN n ↔ 0 ≤ x ∧ x < (n : Int) := by
  unfold upN
  rw [List.mem_map]
  constructor
  · rintro ⟨k, hk, rfl⟩
    have := List.mem_range.mp hk
    omega
  · rintro ⟨h0, h1⟩
    exact ⟨x.toNat, List.mem_range.mpr (by omega), by omega⟩
theorem upN_rise (n : Nat) : (upN n).Pairwise (· < ·) := by
  unfold upN
  rw [List.pairwise_map]
  exact List.Pairwise.imp (fun {a b} (h : a < b) => by omega) List.pairwise_lt_range
/-! ### the lot of a mark -/
noncomputable def lotOf (ps : List (List Int)) (n : Nat) (m : Int) : List Int := (upN n).filter fun j => rB ps m j && rB ps j m
theorem mem_lot {ps : List (List Int)} {n : Nat} {m j : Int} : j ∈ lotOf ps n m ↔ (0 ≤ j ∧ j < (n : Int)) ∧ Rch ps m j ∧ Rch ps j m := by
  unfold lotOf
  rw [List.mem_filter, mem_upN, Bool.and_eq_true, rB_iff, rB_iff]
theorem lot_rise (ps : List (List Int)) (n : Nat) (m : Int) : (lotOf ps n m).Pairwise (· < ·) := (upN_rise n).filter _
theorem lot_len (ps : List (List Int)) (n : Nat) (m : Int) : (lotOf ps n m).length ≤ n := by
  have := List.length_filter_le (fun j => rB ps m j && rB ps j m) (upN n)
  rw [upN_len] at this
  exact this
theorem lot_eq {ps : List (List Int)} {n : Nat} {m j : Int} (h : j ∈ lotOf ps n m) : lotOf ps n j = lotOf ps n m := by
  obtain ⟨_, h1, h2⟩ := mem_lot.mp h
  unfold lotOf
  refine List.filter_congr fun x _ => ?_
  rw [Bool.eq_iff_iff, Bool.and_eq_true, Bool.and_eq_true, rB_iff, rB_iff, rB_iff, rB_iff]
  exact ⟨fun ⟨a, b⟩ => ⟨h1.trans a, b.trans h2⟩, fun ⟨a, b⟩ => ⟨h2.trans a, b.trans h1⟩⟩
theorem lot_self {ps : List (List Int)} {n : Nat} {m : Int} (hm : 0 ≤ m ∧ m < (n : Int)) (h : Rch ps m m) : m ∈ lotOf ps n m := mem_lot.mpr ⟨hm, h, h⟩
theorem lot_none {ps : List (List Int)} {n : Nat} {m : Int} (h : ¬ Rch ps m m) : lotOf ps n m = [] := by
  refine List.eq_nil_iff_forall_not_mem.mpr fun j hj => ?_
  obtain ⟨_, h1, h2⟩ := mem_lot.mp hj
  exact h (h1.trans h2)
theorem lot_some {ps : List (List Int)} {n : Nat} {m j : Int} (h : j ∈ lotOf ps n m) : Rch ps m m := by
  obtain ⟨_, h1, h2⟩ := mem_lot.mp h
  exact h1.trans h2
/-! ### the parts -/
noncomputable def isHead (ps : List (List Int)) (n : Nat) (m : Int) : Bool := decide ((lotOf ps n m).head? = some m)
noncomputable def partsOf (ps : List (List Int)) (n : Nat) : List (List Int) := ((upN n).filter (isHead ps n)).map (lotOf ps n)
theorem mem_parts {ps : List (List Int)} {n : Nat} {p : List Int} : p ∈ partsOf ps n ↔ ∃ m : Int, (0 ≤ m ∧ m < (n : Int)) ∧ (lotOf ps n m).head? = some m ∧ p = lotOf ps n m := by
  unfold partsOf isHead
  rw [List.mem_map]
  constructor
  · rintro ⟨m, hm, rfl⟩
    obtain ⟨h1, h2⟩ := List.mem_filter.mp hm
    exact ⟨m, mem_upN.mp h1, of_decide_eq_true h2, rfl⟩
  · rintro ⟨m, h1, h2, rfl⟩
    exact ⟨m, List.mem_filter.mpr ⟨mem_upN.mpr h1, decide_eq_true h2⟩, rfl⟩
theorem lot_part {ps : List (List Int)} {n : Nat} {m j : Int} (h : j ∈ lotOf ps n m) : lotOf ps n m ∈ partsOf ps n := by
  cases e : lotOf ps n m with
  | nil => rw [e] at h; cases h
  | cons x r =>
    have hx : x ∈ lotOf ps n m := by rw [e]; exact List.mem_cons_self ..
    have ex := lot_eq hx
    refine mem_parts.mpr ⟨x, (mem_lot.mp hx).1, ?_, ?_⟩
    · rw [ex, e]; rfl
    · rw [ex, e]
theorem part_ne {ps : List (List Int)} {n : Nat} {p : List Int} (h : p ∈ partsOf ps n) : p ≠ [] := by
  obtain ⟨m, _, h2, rfl⟩ := mem_parts.mp h
  intro e
  rw [e] at h2; cases h2
theorem part_lot {ps : List (List Int)} {n : Nat} {p : List Int} {x : Int} (h : p ∈ partsOf ps n) (hx : x ∈ p) : lotOf ps n x = p := by
  obtain ⟨m, _, _, rfl⟩ := mem_parts.mp h
  exact lot_eq hx
def hd0 (l : List Int) : Int := l.headD 0
theorem parts_rise (ps : List (List Int)) (n : Nat) : (partsOf ps n).Pairwise fun p q => hd0 p < hd0 q := by
  unfold partsOf
  rw [List.pairwise_map]
  refine List.Pairwise.imp_of_mem (fun {a b} ha hb (h : a < b) => ?_) ((upN_rise n).filter _)
  have ea : (lotOf ps n a).head? = some a := of_decide_eq_true (List.mem_filter.mp ha).2
  have eb : (lotOf ps n b).head? = some b := of_decide_eq_true (List.mem_filter.mp hb).2
  unfold hd0
  rw [List.headD_eq_head?_getD, List.headD_eq_head?_getD, ea, eb]
  exact h
theorem parts_nodup (ps : List (List Int)) (n : Nat) : (partsOf ps n).Nodup := (parts_rise ps n).imp fun {a b} h e => by rw [e] at h; omega
theorem parts_len (ps : List (List Int)) (n : Nat) : (partsOf ps n).length ≤ n := by
  unfold partsOf
  rw [List.length_map]
  have := List.length_filter_le (isHead ps n) (upN n)
  rw [upN_len] at this
  exact this
/-- of two lots unlike heads tell which is ahead -/
theorem part_hd {ps : List (List Int)} {n : Nat} {p q : List Int} (hp : p ∈ partsOf ps n) (hq : q ∈ partsOf ps n) (h : hd0 p = hd0 q) : p = q := by
  obtain ⟨a, _, ea, rfl⟩ := mem_parts.mp hp
  obtain ⟨b, _, eb, rfl⟩ := mem_parts.mp hq
  unfold hd0 at h
  rw [List.headD_eq_head?_getD, List.headD_eq_head?_getD, ea, eb] at h
  have h' : a = b := h
  rw [h']
/-! ### the table that is gone on with, mark by mark -/
def Wsh (ps : List (List Int)) : Nat → Int → Int → Prop
  | 0, i, j => [i, j] ∈ ps
  | k + 1, i, j => Wsh ps k i j ∨ (Wsh ps k i (k : Int) ∧ Wsh ps k (k : Int) j)
theorem Wsh.up {ps : List (List Int)} {i j : Int} (h : [i, j] ∈ ps) : ∀ k, Wsh ps k i j
  | 0 => h
  | k + 1 => .inl (Wsh.up h k)
theorem Wsh.rch {ps : List (List Int)} : ∀ {k : Nat} {i j : Int}, Wsh ps k i j → Rch ps i j
  | 0, _, _, h => .one h
  | k + 1, _, _, .inl h => Wsh.rch h
  | k + 1, _, _, .inr h => (Wsh.rch h.1).trans (Wsh.rch h.2)
theorem Wsh.amid {ps : List (List Int)} : ∀ (k : Nat) (m : Nat) (i j : Int), m < k → Wsh ps k i (m : Int) → Wsh ps k (m : Int) j → Wsh ps k i j
  | 0, _, _, _, h, _, _ => absurd h (Nat.not_lt_zero _)
  | k + 1, m, i, j, h, h1, h2 => by
    by_cases e : m = k
    · subst e
      have a1 : Wsh ps m i (m : Int) := h1.elim id fun z => z.1
      have a2 : Wsh ps m (m : Int) j := h2.elim id fun z => z.2
      exact .inr ⟨a1, a2⟩
    · have hm : m < k := by omega
      have T := fun i j => Wsh.amid (ps := ps) k m i j hm
      rcases h1 with h1 | ⟨p1, p2⟩
      · rcases h2 with h2 | ⟨q1, q2⟩
        · exact .inl (T _ _ h1 h2)
        · exact .inr ⟨T _ _ h1 q1, q2⟩
      · rcases h2 with h2 | ⟨q1, q2⟩
        · exact .inr ⟨p1, T _ _ p2 h2⟩
        · exact .inr ⟨p1, q2⟩
theorem rch_wsh {ps : List (List Int)} {n : Nat} (hb : ∀ p ∈ ps, Pr (n : Int) p) {i j : Int} (h : Rch ps i j) : Wsh ps n i j := by
  induction h with
  | one e => exact Wsh.up e n
  | @more j k _ e ih =>
    have b := (Rch.bound hb (.one e)).1
    have ej : j = ((j.toNat : Nat) : Int) := by omega
    rw [ej] at ih e
    exact Wsh.amid n j.toNat _ _ (by omega) ih (Wsh.up e n)
end RV
set_option maxHeartbeats 4000000
namespace K44
open PySem PySem.Spec PyProof.Rows L2 RV
theorem flds_no (a b t : Addr) {m : Str} (h1 : ¬ m = "mirrors") (h2 : ¬ m = "steps") (h3 : ¬ m = "followers") : (flds a b t).lookup m = none := by
  unfold flds
  rw [lookup_putF, if_neg h3, lookup_putF, if_neg h2, lookup_putF, if_neg h1]
  all_goals rfl
theorem mem_behind {n : Int} {ps : List (List Int)} (hp : ∀ p ∈ ps, Pr n p) {m j : Int} : j ∈ behindOf ps m ↔ [m, j] ∈ ps := by
  unfold behindOf
  rw [List.mem_map]
  constructor
  · rintro ⟨p, h1, h2⟩
    obtain ⟨h3, h4⟩ := List.mem_filter.mp h1
    obtain ⟨x, y, rfl, _⟩ := hp p h3
    have e1 : x = m := of_decide_eq_true h4
    have e2 : y = j := h2
    subst e1 e2
    exact h3
  · intro h
    exact ⟨[m, j], List.mem_filter.mpr ⟨h, decide_eq_true rfl⟩, rfl⟩
theorem behind_nodup {n : Int} {ps : List (List Int)} (hp : ∀ p ∈ ps, Pr n p) (nd : ps.Nodup) (m : Int) : (behindOf ps m).Nodup := by
  unfold behindOf
  refine List.pairwise_map.mpr (List.Pairwise.imp_of_mem (fun {a b} ha hb ne e => ?_) (nd.filter _))
  obtain ⟨a1, a2⟩ := List.mem_filter.mp ha
  obtain ⟨b1, b2⟩ := List.mem_filter.mp hb
  obtain ⟨x, y, rfl, _⟩ := hp a a1
  obtain ⟨x', y', rfl, _⟩ := hp b b1
  have e1 : x = m := of_decide_eq_true a2
  have e2 : x' = m := of_decide_eq_true b2
  have e3 : y = y' := e
  exact ne (by rw [e1, e2, e3])
section
variable {P : Program} {w : World} {K : PySem.W.Frag} {mg : Str → Option Value} {base : Heap}
/-! ### led_to -/
theorem scLed : FnScope ["rule", "mark", "found", "at", "fresh", "other"] ["rule", "mark"] (defScope sLed) := ⟨rfl, rfl, rfl, by decide +kernel, rfl, by decide +kernel, by decide +kernel⟩
def spLed (K : PySem.W.Frag) (C : Addr) : Sp := fun vs H Q _ => ∃ (r : Addr) (m : Int) (ns : List Int) (ps : List (List Int)), vs = [.ref r, .int m] ∧ RuleAt K C H r ns ps ∧ Mir ns ∧ Stp ns ps ∧ (0 ≤ m ∧ m < (ns.length : Int)) ∧
  ∀ (H' : Hp) (c : Addr) (fs : List Int), Same H H' → H c = none → H' c = some (.lst (fs.map V.int)) → fs.length ≤ 8 → (∀ j, j ∈ fs ↔ Rch ps m j) → Q (.ref c) H'
def atOf : L2.St → Nat
  | [_, _, _, some (.int a), _, _] => 8 - a.toNat
  | _ => 0
theorem ok_led {f C fB : Addr} {fd dB : FuncData} (F : Fun K "led_to" "led_to" sLed f fd) (T : Txt K mg C) (B : Bare mg)
    (FB : Fun K "behind" "Rule.behind" sBehindM fB dB) (bB : Binds K dB ["self", "mark"] []) (mB : Meth K C "behind" fB) : FnOk P w K mg base CX0 2 f fd ["rule", "mark"] (spLed K C) := by
  have GB : FnOk P w K mg base CX0 1 fB dB ["self", "mark"] (spBehindM K C) := ok_behindM FB T
  refine F.ok scLed (fun vs H Q E h => ?_) (fun cdv A outer s H vs Q E hr h => ?_)
  · obtain ⟨r, m, ns, ps, rfl, _⟩ := h
    rfl
  · obtain ⟨r, m, ns, ps, rfl, R, M, S, hm, q⟩ := h
    have hu5 := un65 hr
    refine ⟨_, pss_cons (ps_set (i := 2) scLed.nd rfl (Or.inr rfl) (pe_callTy call_list_of (by rfl) B.list boot_list (pa_cons (pe_meth (pv 0) T.cl mB GB hr bB .nil pass0 (pa_cons (pv 1) pa_nil)) pa_nil)))
      (pss_cons (ps_set (i := 3) scLed.nd rfl (Or.inl rfl) pe_int)
      (pss_cons (ps_while PassesOwn.never (pt_cmpR op_lt (pv 3) (pe_callB call_len_seq (by rfl) B.len PySem.boot_len (pa_cons (pv 2) pa_nil)) (nomark _))
        (pss_cons (ps_setLc (i := 4) (own := [("other", 5)]) (g := gName 5) rfl scLed.nd rfl rfl (by rfl) (pi_tup (pe_meth (pv 0) T.cl mB GB hr bB .nil pass0 (pa_cons (pe_ix ix_list (pv 2) (pv 3) (fun _ _ => rfl)) pa_nil))) (blkOk_by (N := ["rule", "mark", "found", "at", "fresh", "other"]) (sc := defScope sLed) (by decide +kernel))
            (fun _ _ _ _ _ => pg_name (i := 5) scLed.nd rfl (Or.inl rfl)) (fun _ _ _ _ _ => pts_one (pt_cmpR (op_notInDK (K := K) rfl hu5) (pv 5) (pv 2) (by rfl))) (fun _ _ _ _ _ => pv 5))
        (pss_cons (ps_expr (pe_bm PySem.F.plainAttrs_list PySem.F.slot_list_extend PySem.F.type_list_extend mt_extend (pv 2) (pa_cons (pv 4) pa_nil)))
        (pss_one (ps_aug (i := 3) scLed.nd rfl (.inl rfl) pe_int ip_add)))))
      (pss_one (ps_ret (pv 2))))), ?_⟩
    obtain ⟨dx, a0, b0, t0, g1, g2, g3, g4⟩ := R.ex
    have fno := flds_no a0 b0 t0 (m := "behind") (by decide +kernel) (by decide +kernel) (by decide +kernel)
    have h8 := M.few
    have hP : ∀ p ∈ ps, Pr (ns.length : Int) p := fun p hp => S.pair p hp
    -- found = list(rule.behind(mark))
    refine ⟨.ref r, rfl, r, dx, _, rfl, g1, fno, .int m, rfl, r, ns, ps, m.toNat, by rw [Int.toNat_of_nonneg hm.1]; rfl, R, by omega, fun c hc => ?_⟩
    rw [Int.toNat_of_nonneg hm.1] at hc
    refine ⟨c, _, rfl, .inr hc, fun F0 nF => ?_⟩
    have small : ∀ fs : List Int, fs.Nodup → (∀ x ∈ fs, Rch ps m x) → fs.length ≤ 8 := fun fs nd hr => by
      have z := nodup_le (us := upN ns.length) nd fun x hx => mem_upN.mpr (Rch.bound hP (hr x hx)).2
      rw [upN_len] at z; omega
    refine while_by (fun σ H' => ∃ (fs : List Int) (a : Nat) (y4 y5 : Option V), σ = [some (.ref r), some (.int m), some (.ref F0), some (.int (a : Int)), y4, y5] ∧ Same H H' ∧ H' F0 = some (.lst (fs.map V.int)) ∧ fs.Nodup ∧ (∀ x ∈ fs, Rch ps m x) ∧ (∀ j, [m, j] ∈ ps → j ∈ fs) ∧ (∀ (k : Nat) (x : Int), k < a → fs[k]? = some x → ∀ j, [x, j] ∈ ps → j ∈ fs) ∧ a ≤ fs.length)
      (fun σ _ => atOf σ) ?_ ?_ ?_
    · exact ⟨behindOf ps m, 0, none, none, rfl, same_upd nF, upd_same, behind_nodup hP S.nd m, fun x hx => .one ((mem_behind hP).mp hx), fun j hj => (mem_behind hP).mpr hj, fun k x hk => absurd hk (Nat.not_lt_zero _), Nat.zero_le _⟩
    · rintro σ H1 ⟨fs, a, y4, y5, rfl, s1, eF, nd, rc, cl, up, hle⟩
      have hl8 := small fs nd rc
      refine ⟨.int (a : Int), rfl, .ref F0, rfl, F0, _, rfl, .inl (lstNew eF), _, _, rfl, rfl, _, rfl, ite2 (fun hlt => ?_) (fun hge => ?_)⟩
      · have hlt : a < fs.length := by
          have z := of_decide_eq_true hlt
          rw [List.length_map] at z; omega
        obtain ⟨x, gx⟩ : ∃ x, fs[a]? = some x := ⟨_, List.getElem?_eq_getElem hlt⟩
        have hx := (Rch.bound hP (rc x (List.mem_of_getElem? gx))).2
        have R1 := R.same s1
        refine ⟨.ref r, rfl, r, dx, _, rfl, s1 _ _ g1, fno, .ref F0, rfl, .int (a : Int), rfl, F0, _, _, .int x, rfl, rfl, lstNew eF, atI_nat (by rw [List.getElem?_map, gx]; rfl), ?_⟩
        refine ⟨r, ns, ps, x.toNat, by rw [Int.toNat_of_nonneg hx.1]; rfl, R1, by omega, fun c2 hc2 => ?_⟩
        rw [Int.toNat_of_nonneg hx.1] at hc2
        refine ⟨c2, rfl, ⟨_, hc2⟩, fun D nD => ?_⟩
        have hbl : (behindOf ps x).length ≤ 64 := by
          have := behind_len ps x
          have := S.few
          omega
        refine lc_filtT (f := fun y => decide (y ∉ fs)) hc2 (by omega) nD (fun y hy H' s' A B h => ?_) (fun y H' Q h => ⟨.int y, rfl, h⟩) fun H2 s2 eD => ?_
        · refine ⟨.int y, rfl, .ref F0, rfl, .int y, fs.map PyData.int, .int y, dpL (lstNew (s' _ _ eF)), shapedN y, shapedLI fs, _, rfl, ?_⟩
          rw [any_int, ← decide_not]
          exact h H' (Same.refl H')
        · have eF2 := s2 _ _ eF
          have nF2 : ∀ H' o, Same H H' → Same H (upd H' F0 o) := fun H' o s b u e => by
            rw [upd_ne (ne_of_none e nF)]; exact s b u e
          have fl : ((behindOf ps x).filter fun y => decide (y ∉ fs)).length ≤ 64 := Nat.le_trans (List.length_filter_le _ _) hbl
          refine ⟨.ref F0, rfl, .inl ⟨rfl, _, lstNew eF2⟩, .ref D, rfl, F0, D, _, _, rfl, rfl, eF2, eD, ?_, ?_⟩
          · rw [List.length_map, List.length_map]; exact Nat.le_of_lt (few1 (by omega))
          refine ⟨.int (a : Int), rfl, _, _, rfl, rfl, ?_⟩
          have mem2 : ∀ j, j ∈ fs ++ (behindOf ps x).filter (fun y => decide (y ∉ fs)) ↔ j ∈ fs ∨ [x, j] ∈ ps := fun j => by
            rw [List.mem_append, List.mem_filter, mem_behind hP]
            constructor
            · rintro (z | z)
              · exact .inl z
              · exact .inr z.1
            · rintro (z | z)
              · exact .inl z
              · by_cases e : j ∈ fs
                · exact .inl e
                · exact .inr ⟨z, decide_eq_true e⟩
          refine ⟨⟨fs ++ (behindOf ps x).filter (fun y => decide (y ∉ fs)), a + 1, _, _, rfl, nF2 _ _ (s1.trans s2), ?_, ?_, ?_, ?_, ?_, ?_⟩, ?_⟩
          · rw [upd_same, List.map_append]
          · rw [List.nodup_append]
            refine ⟨nd, (behind_nodup hP S.nd x).filter _, fun u hu v hv e => ?_⟩
            subst e
            exact of_decide_eq_true (List.mem_filter.mp hv).2 hu
          · intro j hj
            rcases (mem2 j).mp hj with z | z
            · exact rc j z
            · exact .more (rc x (List.mem_of_getElem? gx)) z
          · exact fun j hj => (mem2 j).mpr (.inl (cl j hj))
          · intro k z hk hz j hj
            refine (mem2 j).mpr ?_
            by_cases e : k = a
            · subst e
              rw [List.getElem?_append_left hlt, gx] at hz
              cases hz
              exact .inr hj
            · rw [List.getElem?_append_left (by omega)] at hz
              exact .inl (up k z (by omega) hz j hj)
          · rw [List.length_append]; omega
          · show 8 - ((a : Int) + 1).toNat < 8 - ((a : Int)).toNat
            omega
      · have hge : fs.length ≤ a := by
          have z : ¬ ((a : Int) < ((fs.map V.int).length : Int)) := fun z => hge (decide_eq_true z)
          rw [List.length_map] at z; omega
        refine ⟨.ref F0, rfl, q H1 F0 fs s1 nF eF hl8 fun j => ⟨rc j, fun h => ?_⟩⟩
        refine rch_closed cl (fun x hx j hj => ?_) h
        obtain ⟨k, hk, e⟩ := List.getElem_of_mem hx
        exact up k x (by omega) (by rw [List.getElem?_eq_getElem hk, e]) j hj
    · intro σ H1 Q1 Q2 hq h
      obtain ⟨x, e1, y, e2, p, l, e3, e4, i, j, e5, e6, b, e7, h⟩ := h
      exact ⟨x, e1, y, e2, p, l, e3, e4, i, j, e5, e6, b, e7, hq _ _ h⟩
end
end K44
namespace RV
open PySem PySem.Spec PyProof.Rows L2
/-! ### what repr asks of tuples of pairs -/
theorem small_log {i : Int} (h : i.natAbs < 10 ^ 12) : i.natAbs.log2 < 1920 := by
  rcases Nat.eq_zero_or_pos i.natAbs with e | e
  · rw [e]; decide
  · have h1 : i.natAbs < 2 ^ 64 := Nat.lt_of_lt_of_le h (by decide)
    have h2 : i.natAbs.log2 < 64 := (Nat.log2_lt (by omega)).mpr h1
    omega
theorem show_ints : ∀ ns : List Int, (∀ n ∈ ns, n.natAbs < 10 ^ 12) → PyData.showableAll (ns.map PyData.int) = true
  | [], _ => by simp [PyData.showableAll]
  | n :: r, h => by
    have h1 := small_log (h n (List.mem_cons_self ..))
    have h2 := show_ints r fun m hm => h m (List.mem_cons_of_mem _ hm)
    simp [PyData.showableAll, PyData.showable, h1, h2]
theorem show_dIs : ∀ ps : List (List Int), (∀ p ∈ ps, ∀ n ∈ p, n.natAbs < 10 ^ 12) → PyData.showableAll (ps.map dI) = true
  | [], _ => by simp [PyData.showableAll]
  | p :: r, h => by
    have h1 := show_ints p (h p (List.mem_cons_self ..))
    have h2 := show_dIs r fun m hm => h m (List.mem_cons_of_mem _ hm)
    have h3 : (dI p).showable = true := by simp only [dI, PyData.showable]; exact h1
    simp [PyData.showableAll, h3, h2]
theorem short_dIs : ∀ ps : List (List Int), (∀ p ∈ ps, ∀ n ∈ p, n.natAbs < 10 ^ 12) → PyData.intsShortAll 13 (ps.map dI) = true
  | [], _ => by simp [PyData.intsShortAll]
  | p :: r, h => by
    have h1 := PyData.intsShortAll_ints p (h p (List.mem_cons_self ..))
    have h2 := short_dIs r fun m hm => h m (List.mem_cons_of_mem _ hm)
    have h3 : (dI p).intsShort 13 = true := by simp only [dI, PyData.intsShort]; exact h1
    simp [PyData.intsShortAll, h3, h2]
theorem bulk_ints : ∀ ns : List Int, PyData.bulkAll (ns.map PyData.int) = ns.length
  | [] => by simp [PyData.bulkAll]
  | n :: r => by simp [PyData.bulkAll, PyData.bulk, bulk_ints r]; omega
theorem bulk_dIs : ∀ ps : List (List Int), (∀ p ∈ ps, p.length ≤ 2) → PyData.bulkAll (ps.map dI) ≤ 3 * ps.length
  | [], _ => by simp [PyData.bulkAll]
  | p :: r, h => by
    have h1 : (dI p).bulk = p.length := by simp only [dI, PyData.bulk, bulk_ints]
    have h2 := bulk_dIs r fun m hm => h m (List.mem_cons_of_mem _ hm)
    have h3 := h p (List.mem_cons_self ..)
    simp only [List.map_cons, PyData.bulkAll, h1, List.length_cons]
    omega
/-- (ps, os), two tuples of pairs -/
def d2 (ps os : List (List Int)) : PyData := .tuple [dTT ps, dTT os]
theorem pr_small {b : Int} (hb : b ≤ 64) {ps : List (List Int)} (h : ∀ p ∈ ps, Pr b p) : ∀ p ∈ ps, ∀ n ∈ p, n.natAbs < 10 ^ 12 := fun p hp n hn => by
  obtain ⟨x, y, rfl, hx, hy⟩ := h p hp
  simp only [List.mem_cons, List.not_mem_nil, or_false] at hn
  rcases hn with rfl | rfl <;> omega
theorem pr_len {b : Int} {ps : List (List Int)} (h : ∀ p ∈ ps, Pr b p) : ∀ p ∈ ps, p.length ≤ 2 := fun p hp => by
  obtain ⟨x, y, rfl, _⟩ := h p hp
  simp
structure Reprs (ps os : List (List Int)) : Prop where
  h1 : (d2 ps os).showable = true
  h2 : (d2 ps os).hasDict = false
  h3 : (d2 ps os).depth ≤ 64
  h4 : (d2 ps os).shown.length ≤ sizeLine
theorem reprs {b c : Int} (hb : b ≤ 64) (hc : c ≤ 64) {ps os : List (List Int)} (h : ∀ p ∈ ps, Pr b p) (h' : ∀ p ∈ os, Pr c p) (l1 : ps.length ≤ 1000) (l2 : os.length ≤ 1000) : Reprs ps os := by
  have lay : (d2 ps os).canLay0 = true := by
    simp only [d2, dTT, PyData.canLay0, PyData.canLayAll0, lay_dI, Bool.and_self]
  refine ⟨?_, PyData.hasDict_of_canLay _ lay, ?_, ?_⟩
  · simp only [d2, dTT, PyData.showable, PyData.showableAll, show_dIs ps (pr_small hb h), show_dIs os (pr_small hc h'), Bool.and_self]
  · have h1 := dep_dI ps
    have h2 := dep_dI os
    simp only [d2, dTT, PyData.depth, PyData.depthAll]
    omega
  · refine PyData.shown_fits_bulk (B := 13) (by decide) (by decide) (PyData.leavesShort_of_canLay0 13 _ lay ?_) ?_
    · simp only [d2, dTT, PyData.intsShort, PyData.intsShortAll, short_dIs ps (pr_small hb h), short_dIs os (pr_small hc h'), Bool.and_self]
    · have h1 := bulk_dIs ps (pr_len h)
      have h2 := bulk_dIs os (pr_len h')
      simp only [d2, dTT, PyData.bulk, PyData.bulkAll]
      omega
theorem d2_dp {K : PySem.W.Frag} {H : Hp} {T a b : Addr} {ps os : List (List Int)} (h : H T = some (.tup [.ref a, .ref b])) (h1 : Tups K H a ps) (h2 : Tups K H b os) : Dp K H (.ref T) (d2 ps os) :=
  .tup (.inl (.inl h)) (.cons h1.dp (.cons h2.dp .nil))
end RV
namespace RV
open PySem PySem.Spec PyProof.Rows L2
/-- (ns, ps): mirrors and steps -/
def d1 (ns : List Int) (ps : List (List Int)) : PyData := .tuple [dI ns, dTT ps]
structure Shows (d : PyData) : Prop where
  h1 : d.showable = true
  h2 : d.hasDict = false
  h3 : d.depth ≤ 64
  h4 : d.shown.length ≤ sizeLine
theorem shows_d1 {b : Int} (hb : b ≤ 64) {ns : List Int} {ps : List (List Int)} (hn : ∀ n ∈ ns, n.natAbs < 10 ^ 12) (ln : ns.length ≤ 1000) (h : ∀ p ∈ ps, Pr b p) (l1 : ps.length ≤ 1000) : Shows (d1 ns ps) := by
  have lay : (d1 ns ps).canLay0 = true := by
    simp only [d1, dTT, PyData.canLay0, PyData.canLayAll0, lay_dI, dI_lay, Bool.and_self]
  have i1 : (dI ns).showable = true := by simp only [dI, PyData.showable]; exact show_ints ns hn
  have i2 : (dI ns).intsShort 13 = true := by simp only [dI, PyData.intsShort]; exact PyData.intsShortAll_ints ns hn
  have i3 : (dI ns).bulk = ns.length := by simp only [dI, PyData.bulk, bulk_ints]
  refine ⟨?_, PyData.hasDict_of_canLay _ lay, ?_, ?_⟩
  · simp only [d1, dTT, PyData.showable, PyData.showableAll, i1, show_dIs ps (pr_small hb h), Bool.and_self]
  · have h1 := dep_dI ps
    simp only [d1, dTT, PyData.depth, PyData.depthAll, dI_dep]
    omega
  · refine PyData.shown_fits_bulk (B := 13) (by decide) (by decide) (PyData.leavesShort_of_canLay0 13 _ lay ?_) ?_
    · simp only [d1, dTT, PyData.intsShort, PyData.intsShortAll, i2, short_dIs ps (pr_small hb h), Bool.and_self]
    · have h1 := bulk_dIs ps (pr_len h)
      simp only [d1, dTT, PyData.bulk, PyData.bulkAll, i3]
      omega
theorem shows_dI {ns : List Int} (hn : ∀ n ∈ ns, n.natAbs < 10 ^ 12) (ln : ns.length ≤ 1000) : Shows (dI ns) := by
  have i3 : (dI ns).bulk = ns.length := by simp only [dI, PyData.bulk, bulk_ints]
  refine ⟨by simp only [dI, PyData.showable]; exact show_ints ns hn, PyData.hasDict_of_canLay _ (dI_lay ns), by rw [dI_dep]; decide, ?_⟩
  refine PyData.shown_fits_bulk (B := 13) (by decide) (by decide) (PyData.leavesShort_of_canLay0 13 _ (dI_lay ns) ?_) (by rw [i3]; omega)
  simp only [dI, PyData.intsShort]; exact PyData.intsShortAll_ints ns hn
theorem d1_dp {K : PySem.W.Frag} {H : Hp} {T a b : Addr} {ns : List Int} {ps : List (List Int)} (h : H T = some (.tup [.ref a, .ref b])) (h1 : SqT K H a (ns.map V.int)) (h2 : Tups K H b ps) : Dp K H (.ref T) (d1 ns ps) :=
  .tup (.inl (.inl h)) (.cons (dpT h1) (.cons h2.dp .nil))
theorem shaped_d1 (ns : List Int) (ps : List (List Int)) : SeqAt.shaped (d1 ns ps) = true := by
  have h1 := dep_dI ps
  have e : (d1 ns ps).depth ≤ 64 := by simp only [d1, dTT, PyData.depth, PyData.depthAll, dI_dep]; omega
  show ((d1 ns ps).canLay0 && decide ((d1 ns ps).depth ≤ 64)) = true
  rw [decide_eq_true e, Bool.and_true]
  simp only [d1, dTT, PyData.canLay0, PyData.canLayAll0, lay_dI, dI_lay, Bool.and_self]
theorem eqv_d1 (ns ms : List Int) (ps qs : List (List Int)) : PyData.eqv (d1 ns ps) (d1 ms qs) = (decide (ns = ms) && decide (ps = qs)) := by
  simp only [d1, PyData.eqv, PyData.eqvAll, eqvI, eqvTT, Bool.and_true]
end RV
set_option maxHeartbeats 4000000
namespace RV
open PySem PySem.Spec PyProof.Rows L2
section
variable {X : Cx}
/-- ts.index(t), tuples of ints in a tuple -/
def rIndexTs (K : PySem.W.Frag) : V → List V → Hp → VK → Prop := fun x xs H Q => ∃ (a b : Addr) (ps : List (List Int)) (p : List Int) (j : Nat), x = V.ref a ∧ xs = [V.ref b] ∧ Tups K H a ps ∧ SqT K H b (p.map V.int) ∧ ps[j]? = some p ∧ (∀ m, m < j → ps[m]? ≠ some p) ∧ Q (.int (j : Nat)) H
theorem mt_indexTs (hu : X.A.units + 65 < cLine) : MtR X "tuple.index" (rIndexTs X.K) := by
  intro pins s σ H x xs v us Q I rx rxs h
  obtain ⟨a, b, ps, p, j, rfl, rfl, hT, hb, hj, hno, q⟩ := h
  cases rx
  obtain ⟨u, rfl, ru⟩ := vals1 rxs
  cases ru
  obtain ⟨bs, r1⟩ := Dp.reads I (dI p) (.ref b) (.ref b) (dpT hb) rfl
  have lay := lay_dI ps
  have room : X.A.units + 1 + min (PyData.depthAll (ps.map dI)) (dI p).depth < cLine := by
    have := Nat.min_le_right (PyData.depthAll (ps.map dI)) (dI p).depth
    have e := dI_dep p
    omega
  obtain ⟨ks, rfl, hs, hks⟩ := hT
  obtain ⟨its, rv, ⟨⟨cls, dd, dat, sls⟩, ho, hc, n, hd⟩, hlen⟩ := I.tuple hs
  simp only at hc hd
  subst hc hd
  obtain ⟨as, rall⟩ := Dp.readsAll I ((ks.map (·.2)).map dI) _ its (dpTs ks hks) rv
  have ln : its.length = ((ks.map (·.2)).map dI).length := SeqAt.ReadsAll.length _ its as rall
  have mp : its.map (SeqAt.readOf s.heap) = (ks.map (·.2)).map dI := SeqAt.readsAll_map _ its as lay rall
  have jl : j < its.toArray.size := by
    have := (List.getElem?_eq_some_iff.mp hj).1
    rw [List.size_toArray, ln, List.length_map]; exact this
  have at_ : ∀ (m : Nat) (hm : m < its.toArray.size), ∃ z, (ks.map (·.2))[m]? = some z ∧ SeqAt.readOf s.heap its.toArray[m] = dI z := fun m hm => by
    have hm2 : m < (ks.map (·.2)).length := by rw [List.size_toArray, ln, List.length_map] at hm; exact hm
    refine ⟨_, List.getElem?_eq_getElem hm2, ?_⟩
    have e : (its.map (SeqAt.readOf s.heap))[m]? = some (dI (ks.map (·.2))[m]) := by rw [mp, List.getElem?_map, List.getElem?_eq_getElem hm2]; rfl
    have hml : m < its.length := by simpa using hm
    rw [List.getElem?_map, List.getElem?_eq_getElem hml] at e
    have e' := Option.some.inj e
    simpa using e'
  refine call_meets PySem.F.slot_tuple_index ⟨_, ho, rfl⟩ PySem.F.entry_tuple_index (PySem.F.args_tuple_index_2 _ _) (TI.tuple_indexAt a its.toArray n dd sls (.ref b) (fun y => PyData.eqv (SeqAt.readOf s.heap y) (dI p)) j jl ?_ ?_)
    ⟨ho, SeqAt.items_eqAt (vs := its.toArray) (show ReadsAll s.heap its.toArray.toList _ as from rall) r1 lay (dI_lay p) room, ⟨.int (j : Nat), H, I.tok _, ⟨_, rfl⟩, q⟩⟩
  · obtain ⟨z, e1, e2⟩ := at_ j jl
    rw [hj] at e1
    cases e1
    show PyData.eqv (SeqAt.readOf s.heap its.toArray[j]) (dI p) = true
    rw [e2, eqvI]
    exact decide_eq_true rfl
  · intro m hm hmj
    obtain ⟨z, e1, e2⟩ := at_ m hm
    show PyData.eqv (SeqAt.readOf s.heap its.toArray[m]) (dI p) = false
    rw [e2, eqvI]
    exact decide_eq_false fun e => hno m hmj (by rw [e1, e])
/-- repr(None), repr of a whole number -/
def rReprO : List V → Hp → VK → Prop := fun xs H Q => (∃ i : Int, xs = [.int i] ∧ i.natAbs.log2 < 1920 ∧ Q (.str (toString i)) H) ∨ (xs = [.non] ∧ Q (.str "None") H)
theorem call_reprO : CallR X (.builtin "repr") rReprO := by
  intro pins s σ H xs us Q I r h
  rcases h with h | ⟨rfl, q⟩
  · exact SkE.call_repr_int pins s σ H xs us Q I r h
  · obtain ⟨u, rfl, rx⟩ := vals1 r
    cases (show u = Value.none from rx)
    exact PySem.P.repr_of_none ⟨.str "None", H, I.tok _, ⟨_, rfl⟩, q⟩
theorem op_neDK {K : PySem.W.Frag} (h : X.K = K) (hu : X.A.units + 64 < cLine) : OpR X (compareOp .NotEq) (rNeD K) := h ▸ op_neD hu
end
theorem bulk_any : ∀ (ps : List (List Int)) (k : Nat), (∀ p ∈ ps, p.length ≤ k) → PyData.bulkAll (ps.map dI) ≤ (k + 1) * ps.length
  | [], k, _ => by simp [PyData.bulkAll]
  | p :: r, k, h => by
    have h1 : (dI p).bulk = p.length := by simp only [dI, PyData.bulk, bulk_ints]
    have h2 := bulk_any r k fun m hm => h m (List.mem_cons_of_mem _ hm)
    have h3 := h p (List.mem_cons_self ..)
    simp only [List.map_cons, PyData.bulkAll, h1, List.length_cons, Nat.mul_succ]
    omega
theorem shows_dTT {ps : List (List Int)} (hn : ∀ p ∈ ps, ∀ n ∈ p, n.natAbs < 10 ^ 12) (h1 : ∀ p ∈ ps, p.length ≤ 8) (h2 : ps.length ≤ 64) : Shows (dTT ps) := by
  have lay : (dTT ps).canLay0 = true := by simp only [dTT, PyData.canLay0]; exact lay_dI ps
  refine ⟨by simp only [dTT, PyData.showable]; exact show_dIs ps hn, PyData.hasDict_of_canLay _ lay, ?_, ?_⟩
  · have h := dep_dI ps
    simp only [dTT, PyData.depth]; omega
  · refine PyData.shown_fits_bulk (B := 13) (by decide) (by decide) (PyData.leavesShort_of_canLay0 13 _ lay ?_) ?_
    · simp only [dTT, PyData.intsShort]; exact short_dIs ps hn
    · have b := bulk_any ps 8 h1
      simp only [dTT, PyData.bulk]
      omega
/-! ### lots in order -/
end RV
set_option maxHeartbeats 4000000
/-! sorted(s), s a set of tuples of ints of any lengths, none of them empty -/
namespace RV
open PySem PySem.Spec PyProof.Rows L2 TS
/-- one tuple ahead of another -/
def lexA : List Int → List Int → Bool
  | [], [] => false
  | [], _ :: _ => true
  | _ :: _, [] => false
  | p :: ns, q :: ms => if p = q then lexA ns ms else decide (p < q)
section
variable {prog : Program} {w : World} {A : Around} {E : Value → Shared → Prop} {s : Shared}
theorem kat_any {Q : Bool → Shared → Prop} {b fin : Bool} : ∀ {ns ms : List Int} {xs ys : List Value} (i : Nat), IntsAre xs ns → IntsAre ys ms → fin = decide (ns.length < ms.length) → Q (lexA ns ms) s → PySem.W.KatLex prog w A b fin Q (xs.zip ys) i s
  | [], [], _, _, i, .nil, .nil, hf, h => by
    have e : fin = false := hf
    rw [e]; exact PySem.W.kat_nil h
  | [], _ :: ms, _, _, i, .nil, .cons _ _ _, hf, h => by
    have e : fin = true := by rw [hf]; simp
    rw [e]; exact PySem.W.kat_nil h
  | _ :: _, [], _, _, i, .cons _ _ _, .nil, hf, h => by
    have e : fin = false := by rw [hf]; simp
    rw [e]; exact PySem.W.kat_nil h
  | p :: ns, q :: ms, _, _, i, .cons _ t hx, .cons _ u hy, hf, h => by
    refine PySem.W.kat_cons (wpAny_eqBool_int ?_)
    by_cases e : p = q
    · subst e
      rw [beq_self_eq_true]
      have h' : Q (lexA ns ms) s := by simpa [lexA] using h
      refine PySem.W.kat_yes (kat_any (i + 1) hx hy ?_ h')
      rw [hf]; simp
    · rw [beq_eq_false_iff_ne.mpr e]
      refine PySem.W.kat_no (oneLt_ints _ ?_)
      simpa [lexA, e] using h
theorem heads_of {h : Heap} : ∀ vs : List Value, (∀ v ∈ vs, ∃ ns, TupInts h v ns ∧ ns ≠ []) → ∃ fs, PySem.W.KatTups h vs fs ∧ fs.length = vs.length ∧ ∀ f ∈ fs, ∃ n t, f = Value.int n t
  | [], _ => ⟨[], .nil, rfl, fun _ z => nomatch z⟩
  | v :: vs, x => by
    obtain ⟨fs, kt, hlen, hall⟩ := heads_of vs fun z hz => x z (List.mem_cons_of_mem _ hz)
    obtain ⟨ns, ⟨a, xs, rfl, ⟨ob, hob, hcl, k, hdata⟩, hi⟩, hne⟩ := x v (List.mem_cons_self ..)
    cases hxs : xs.toList with
    | nil =>
      rw [hxs] at hi
      cases hi
      exact absurd rfl hne
    | cons y ys =>
      rw [hxs] at hi
      cases hi with
      | cons m t _ =>
        have z : xs[0]? = some (Value.int m t) := by rw [← Array.getElem?_toList, hxs]; rfl
        refine ⟨.int m t :: fs, .cons hob hcl hdata z kt, by rw [List.length_cons, hlen, List.length_cons], fun f hf => ?_⟩
        rcases List.mem_cons.mp hf with rfl | hf
        · exact ⟨m, t, rfl⟩
        · exact hall f hf
theorem kind_any {vs : List Value} (h2 : 2 ≤ vs.length) (x : ∀ v ∈ vs, ∃ ns, TupInts s.heap v ns ∧ ns ≠ []) (r : Value → Int) (hr : ∀ u ∈ vs, ∀ v ∈ vs, ∀ ns ms, TupInts s.heap u ns → TupInts s.heap v ms → lexA ns ms = decide (r u < r v)) (Q : SortKind → Shared → Prop)
    (h : ∀ κ, Cmp prog w A s κ (pairsOf vs) r → Q κ s) : wpAny (model prog w) A (keyKind' vs.toArray) Q E s := by
  obtain ⟨fs, kt, hlen, hall⟩ := heads_of vs x
  refine PySem.W.kat_kind (T := .type "int") kt (by rw [hlen]; omega) (fun f hf => ?_) rfl (h _ fun p q hp hq Q' E' hQ => ?_)
  · obtain ⟨n, t, rfl⟩ := hall f hf
    exact .of_pure rfl
  · rw [pairsOf_toList] at hp hq
    have ip := mem_zip_self hp
    have iq := mem_zip_self hq
    obtain ⟨ns, tp, _⟩ := x _ ip.2
    obtain ⟨ms, tq, _⟩ := x _ iq.2
    have hlex := hr _ ip.2 _ iq.2 ns ms tp tq
    rw [← hlex] at hQ
    obtain ⟨a, xs, e1, ⟨o1, ho1, _, n1, hd1⟩, i1⟩ := tp
    obtain ⟨b, ys, e2, ⟨o2, ho2, _, n2, hd2⟩, i2⟩ := tq
    rw [e1, e2]
    refine PySem.W.kat_lt ho1 hd1 ho2 hd2 (kat_any 0 i1 i2 ?_ hQ)
    rw [← i1.length, ← i2.length, Array.length_toList, Array.length_toList]
theorem call_sort_any {a : Addr} {vs : List Value} {n : Nat} {Q : Value → Shared → Prop} (ρ : List Int → Int) (ho : s.heap.get? a = some (seqObj "list" vs.toArray n)) (h64 : vs.length < 64) (x : ∀ v ∈ vs, ∃ ns, TupInts s.heap v ns ∧ ns ≠ [])
    (hr : ∀ u ∈ vs, ∀ v ∈ vs, ∀ ns ms, TupInts s.heap u ns → TupInts s.heap v ms → lexA ns ms = decide (ρ ns < ρ ms))
    (h : ∀ out : Array Value, out.toList.Perm vs → out.toList.Pairwise (fun u v => ρ (intsOf s.heap u) ≤ ρ (intsOf s.heap v)) → Q .none { s with heap := sortedHeap s.heap a vs out }) :
    wpAny (model prog w) A (call (.builtin "list.sort") [.ref a]) Q E s := by
  have stays : ∀ b o, s.heap.get? b = some o → o.cls = .type "tuple" → (midHeap s.heap a vs).get? b = some o := fun b o e hc => by
    refine midHeap_old (fun z => ?_) e
    rw [z, ho] at e
    cases e
    have hc2 : Value.type "list" = Value.type "tuple" := hc
    injection hc2 with hc3
    exact absurd hc3 (by decide)
  refine wpAny_call_entry slot_list_sort ⟨_, ho, rfl⟩ entry_list_sort (SK.plain_sort (r := fun v => ρ (intsOf s.heap v)) ho h64 (fun h2 Q hQ => ?_) fun ps out h1 h2 h3 => ?_) (args_list_sort _)
  · refine kind_any (s := { s with heap := midHeap s.heap a vs }) h2 (fun v hv => ?_) _ (fun u hu v hv ns ms tu tv => ?_) Q hQ
    · obtain ⟨ns, t, ne⟩ := x v hv
      exact ⟨ns, t.keeps stays, ne⟩
    · obtain ⟨ns0, t0, _⟩ := x u hu
      obtain ⟨ms0, t1, _⟩ := x v hv
      have e0 : ns = ns0 := tu.ints.symm.trans (t0.keeps stays).ints
      have e1 : ms = ms0 := tv.ints.symm.trans (t1.keeps stays).ints
      subst e0 e1
      rw [hr u hu v hv ns ms t0 t1]
      show decide _ = decide (ρ (intsOf s.heap u) < ρ (intsOf s.heap v))
      rw [t0.ints, t1.ints]
  · obtain ⟨p, o⟩ := out_rank (r := fun v => ρ (intsOf s.heap v)) h1 h2 h3
    exact ⟨_, rfl, h out p o⟩
end
section
variable {P : Program} {w : World} {A : Around} {E : Value → Shared → Prop} {s : Shared}
theorem refs_some : ∀ (L : List (Addr × List Int)) (vs : List Value), (∀ v ∈ vs, ∃ q ∈ L, v = Value.ref q.1) → ∃ L1 : List (Addr × List Int), vs = L1.map (fun q => Value.ref q.1) ∧ ∀ q ∈ L1, q ∈ L
  | _, [], _ => ⟨[], rfl, fun _ z => nomatch z⟩
  | L, v :: vs, h => by
    obtain ⟨q, hq, rfl⟩ := h v (List.mem_cons_self ..)
    obtain ⟨L1, rfl, hs⟩ := refs_some L vs fun z hz => h z (List.mem_cons_of_mem _ hz)
    exact ⟨q :: L1, rfl, fun z hz => (List.mem_cons.mp hz).elim (fun e => e ▸ hq) (hs z)⟩
theorem sorted_setA {a : Addr} {L : List (Addr × List Int)} {es : Array (Int × Value)} {ep : Nat} {t : SetTable} {Q : Value → Shared → Prop} (ρ : List Int → Int) (R : SetTR P w s.heap a L es ep t) (hh : A.handled = none)
    (hne : ∀ p ∈ L, p.2 ≠ []) (hr : ∀ p ∈ L, ∀ q ∈ L, lexA p.2 q.2 = decide (ρ p.2 < ρ q.2))
    (hQ : ∀ s' p (out : Array Value) (c : Nat) (L' : List (Addr × List Int)), (∀ b o, s.heap.get? b = some o → s'.heap.get? b = some o) → s'.gens = s.gens → s'.os = s.os → s.heap.objs.size ≤ p → s'.heap.get? p = some (seqObj "list" out c) →
      out.toList = L'.map (fun q => Value.ref q.1) → L'.Perm L → L'.Pairwise (fun q r => ρ q.2 ≤ ρ r.2) → Q (.ref p) s') : wpAny (model P w) A (call (.builtin "sorted") [.ref a]) Q E s := by
  obtain ⟨o, ho, hex, hd⟩ := R.ob
  have size64 := R.size
  have few64 := R.few
  refine Calls.call_function_entry kind_sorted plain_sorted entry_sorted (args_sorted1 _) ?_
  unfold Builtin.«sorted»
  refine wpAny_bind (m := checkCount "sorted" 1 1 _) (wpAny_pure (wpAny_bind (collect_set (A := A.in1) hh ⟨o, ho, hex.1, hd⟩ R.fits (by unfold scanBound; omega) R.tab.ris R.led fun s1 vs k1 hz g1 o1 pm => ?_)))
  have rows : es.toList.map (·.2) = L.map fun q => Value.ref q.1 := by
    rw [R.rows]; unfold rowsOf
    rw [List.map_map]; rfl
  rw [rows] at pm
  have same1 : ∀ q ∈ L, ∀ r ∈ L, q.1 = r.1 → q = r := fun q hq r hr e => by
    have z := R.tup q hq
    rw [e] at z
    exact Prod.ext e (z.inj (R.tup r hr))
  have nodL : L.Nodup := nodup_of_map R.nd
  have nodR : (L.map fun q => Value.ref q.1).Nodup := List.pairwise_map.mpr (List.Pairwise.imp_of_mem (fun {q r} hq hr ne e => ne (same1 q hq r hr (Value.ref.inj e))) nodL)
  have lvs : vs.length < 64 := by rw [pm.length_eq, List.length_map]; exact few64
  refine wpAny_bind (wpAny_newList ?_ (by rw [sizeLine_eq]; omega))
  have atL : (s1.heap.push (seqObj "list" vs.toArray 0)).get? s1.heap.objs.size = some (seqObj "list" vs.toArray 0) := Heap.get?_push_size _ rfl
  have tups : ∀ q ∈ L, TupInts (s1.heap.push (seqObj "list" vs.toArray 0)) (.ref q.1) q.2 := fun q hq => tupInts_of (P := P) (w := w) (isT_keep (R.tup q hq) fun b u e => Heap.get?_push_of_some _ (k1 b u e))
  have from_ : ∀ v ∈ vs, ∃ q ∈ L, v = Value.ref q.1 := fun v hv => by
    obtain ⟨q, hq, e⟩ := List.mem_map.mp (pm.mem_iff.mp hv)
    exact ⟨q, hq, e.symm⟩
  refine wpAny_bind (wpAny_holding (call_sort_any (s := { s1 with heap := s1.heap.push (seqObj "list" vs.toArray 0) }) ρ atL lvs (fun v hv => ?_) (fun u hu v hv ns ms tu tv => ?_) fun out a1 a2 => ?_))
  · obtain ⟨q, hq, rfl⟩ := from_ v hv
    exact ⟨q.2, tups q hq, hne q hq⟩
  · obtain ⟨q, hq, rfl⟩ := from_ u hu
    obtain ⟨r, hr', rfl⟩ := from_ v hv
    have e1 : ns = q.2 := tu.ints.symm.trans (tups q hq).ints
    have e2 : ms = r.2 := tv.ints.symm.trans (tups r hr').ints
    subst e1 e2
    exact hr q hq r hr'
  · obtain ⟨c, hc⟩ := sortedHeap_at (vs := vs) (out := out) atL
    obtain ⟨L', e', hs'⟩ := refs_some L out.toList fun v hv => from_ v (a1.mem_iff.mp hv)
    have pm' : (L'.map fun q => Value.ref q.1).Perm (L.map fun q => Value.ref q.1) := by rw [← e']; exact a1.trans pm
    have pL : L'.Perm L := by
      refine (List.perm_ext_iff_of_nodup (nodup_of_map (pm'.nodup_iff.mpr nodR)) nodL).mpr fun q => ⟨hs' q, fun hq => ?_⟩
      obtain ⟨r, hr', e⟩ := List.mem_map.mp (pm'.mem_iff.mpr (List.mem_map.mpr ⟨q, hq, rfl⟩))
      rw [← same1 r (hs' r hr') q hq (Value.ref.inj e)]; exact hr'
    have pw : L'.Pairwise (fun q r => ρ q.2 ≤ ρ r.2) := by
      rw [e'] at a2
      refine List.Pairwise.imp_of_mem (fun {q r} hq hr' z => ?_) (List.pairwise_map.mp a2)
      have z' : ρ (intsOf (s1.heap.push (seqObj "list" vs.toArray 0)) (.ref q.1)) ≤ ρ (intsOf (s1.heap.push (seqObj "list" vs.toArray 0)) (.ref r.1)) := z
      rwa [(tups q (hs' q hq)).ints, (tups r (hs' r hr')).ints] at z'
    refine wpAny_pure ⟨_, rfl, hQ _ s1.heap.objs.size out c L' (fun b u e => ?_) g1 o1 hz hc e' pL pw⟩
    have lt := Heap.lt_size (k1 b u e)
    show (sortedHeap (s1.heap.push (seqObj "list" vs.toArray 0)) s1.heap.objs.size vs out).get? b = some u
    rw [sortedHeap_old (Nat.ne_of_lt lt) (by rw [size_push']; exact Nat.lt_succ_of_lt lt)]
    exact Heap.get?_push_of_some _ (k1 b u e)
end
section
variable {X : Cx}
def rSortA (K : PySem.W.Frag) (P : Program) (w : World) : List V → Hp → VK → Prop := fun vs H Q => ∃ (a : Addr) (L : List (Addr × List Int)) (ρ : List Int → Int), vs = [V.ref a] ∧ H a = some (SetTO P w a L) ∧ (∀ p ∈ L, SqT K H p.1 (p.2.map V.int)) ∧
  (∀ p ∈ L, p.2 ≠ []) ∧ (∀ p ∈ L, ∀ q ∈ L, lexA p.2 q.2 = decide (ρ p.2 < ρ q.2)) ∧
  ∀ (L' : List (Addr × List Int)) (p : Addr), L'.Perm L → (L'.map (·.2)).Nodup → L'.length < 64 → L'.Pairwise (fun q r => ρ q.2 ≤ ρ r.2) → H p = none → Q (.ref p) (upd H p (.lst (L'.map fun q => V.ref q.1)))
theorem cr_sortedA (hc : X.calm = true) : CallR X (.builtin "sorted") (rSortA X.K X.prog X.w) := by
  intro pins s σ H vs us Q I r h
  obtain ⟨a, L, ρ, rfl, ha, hk, hne, hr, q⟩ := h
  have R0 : SetT0 X.prog X.w s.heap a L := (I.hok a _ ha).1
  obtain ⟨es, ep, t, R⟩ := R0.full fun p hp => I.isT (hk p hp)
  rw [Vals.ref1 r]
  refine sorted_setA ρ R (I.ok.hd hc) hne hr fun s' p out c L' k g o hp hg hout pm pw => ?_
  have few : L'.length < 64 := by rw [pm.length_eq]; exact R.few
  have len : (L'.map fun q => V.ref q.1).length ≤ sizeLine := by rw [List.length_map, sizeLine_eq]; omega
  have new : H p = none := I.hok.fresh hp
  have vals : Vals (L'.map fun q => V.ref q.1) out.toList := by rw [hout]; exact vals_of_refs L'
  have J : Inv X pins σ (upd H p (.lst (L'.map fun q => V.ref q.1))) { s with heap := s'.heap, gens := s'.gens, drawn := s'.drawn, toks := s'.toks } :=
    I.call (ch := []) (Un.laid k hp new) (I.hok.laid k hp ⟨len, out.toList, c, vals, hg⟩) (by rw [g]; exact I.bare) (fun _ z => nomatch z)
  have e : s' = { s with heap := s'.heap, gens := s'.gens, drawn := s'.drawn, toks := s'.toks } := by
    cases s'; cases s; cases o; rfl
  rw [e]
  exact ⟨.ref p, _, J, rfl, q L' p pm ((pm.map (·.2)).nodup_iff.mpr R.nd) few pw new⟩
end
end RV
set_option maxHeartbeats 4000000
namespace RV
open PySem PySem.Spec PyProof.Rows L2
/-- a tuple known to be plain: its methods may be asked -/
def TupD (H : Hp) (a : Addr) (xs : List V) : Prop := ∃ o : Obj, o.dict = none ∧ o.cls = .type "tuple" ∧ H a = some (.frz o (.tup xs))
theorem TupD.sq {K : PySem.W.Frag} {H : Hp} {a : Addr} {xs : List V} (h : TupD H a xs) : SqT K H a xs := by
  obtain ⟨o, _, _, h⟩ := h
  exact .inl (.inr ⟨o, h⟩)
theorem TupD.same {H H' : Hp} {a : Addr} {xs : List V} (h : TupD H a xs) (s : Same H H') : TupD H' a xs := by
  obtain ⟨o, h1, h2, h⟩ := h
  exact ⟨o, h1, h2, s _ _ h⟩
/-- a tuple of plain tuples of ints -/
def TupsD (H : Hp) (a : Addr) (ps : List (List Int)) : Prop := ∃ ks : List (Addr × List Int), ks.map (·.2) = ps ∧ H a = some (.tup (ks.map fun p => V.ref p.1)) ∧ ∀ p ∈ ks, TupD H p.1 (p.2.map V.int)
theorem TupsD.tups {K : PySem.W.Frag} {H : Hp} {a : Addr} {ps : List (List Int)} (h : TupsD H a ps) : Tups K H a ps :=
  let ⟨ks, h1, h2, h3⟩ := h; ⟨ks, h1, tupNew h2, fun p hp => (h3 p hp).sq⟩
theorem TupsD.same {H H' : Hp} {a : Addr} {ps : List (List Int)} (h : TupsD H a ps) (e : Same H H') : TupsD H' a ps :=
  let ⟨ks, h1, h2, h3⟩ := h; ⟨ks, h1, e _ _ h2, fun p hp => (h3 p hp).same e⟩
section
variable {X : Cx} {a : Expr} {ta : TE}
/-- tuple(x) of a list: a new plain tuple -/
def kTupF (K : PySem.W.Frag) (x : V) (H : Hp) (Q : VK) : Prop := ∃ p xs, x = .ref p ∧ SqL K H p xs ∧ ∀ (q : Addr) (o : Obj), H q = none → o.dict = none → o.cls = .type "tuple" → Q (.ref q) (upd H q (.frz o (.tup xs)))
theorem rl_tupleF (pins : List (Addr × Obj)) (s : Shared) (σ : L2.St) (H : Hp) (x : V) (v : Value) (Q : VK) (I : Inv X pins σ H s) (r : RelV x v) (h : kTupF X.K x H Q) :
    wpAny (model X.prog X.w) X.A (call (.type "tuple") [v]) (EP X pins σ Q) X.xe s := by
  obtain ⟨p, xs, rfl, hs, q⟩ := h
  obtain rfl : v = .ref p := r
  obtain ⟨its, rv, pl, hz⟩ := I.list hs
  refine call_tuple_list pl.isList (fun h' hk => ?_) (by rw [List.size_toArray, ← rv.length]; exact hz)
  have I1 : Inv X pins σ H { s with heap := h' } := I.kept (t' := s.toks) hk
  have I2 : Inv X pins σ (upd H h'.objs.size (.frz { cls := .type "tuple", data := .seq its.toArray } (.tup xs))) { s with heap := h'.push { cls := .type "tuple", data := .seq its.toArray } } :=
    I1.laid (t' := s.toks) (fun b o e => Heap.get?_push_of_some _ e) (Nat.le_refl _) (show ObjOk X.prog X.w _ _ _ (.frz { cls := .type "tuple", data := .seq its.toArray } (.tup xs)) from ⟨Heap.get?_push_size _ rfl, hz, its, rv, IsTup.new _ _⟩)
  exact ⟨.ref h'.objs.size, _, I2, rfl, q _ _ (I1.hok.fresh (Nat.le_refl _)) rfl rfl⟩
theorem pe_tupleF {p pos : Pos} (hg : Gl X "tuple") (hm : X.mg "tuple" = none) (ha : PE X a ta) (na : starEach [a] X.env = (false, eval a X.env) :: starEach [] X.env := by rfl) :
    PE X (.Call (.Name "tuple" p) [a] [] pos) (tThen ta (kTupF X.K)) := by
  refine ⟨fun pins s σ H Q I h => ?_⟩
  exact Call_ (ld_blt I hg hm boot_tuple (PyProof.Rows.callWith_type1 (one_arg ha I h (fun v s2 x H2 I2 r q => rl_tupleF pins s2 σ H2 x v Q I2 r q) na) na))
def tBMT (r : V → List V → Hp → VK → Prop) (to : TE) (t : TA) : TE := fun σ H Q => to σ H fun x H1 => (∃ p xs, x = .ref p ∧ TupD H1 p xs) ∧ t σ H1 fun xs H2 => r x xs H2 Q
variable {o e : Expr} {es : List Expr} {to : TE} {t : TA} {name : Str} {apos cpos : Pos} {id : String} {r : V → List V → Hp → VK → Prop}
/-- t.m(e, ..), a plain tuple's method -/
theorem pe_bmT (slot : Slot "tuple" name id) (hty : typeOf (.builtin id) = pure (.type "method_descriptor")) (hm : MtR X id r) (ho : PE X o to) (ha : PA X (e :: es) t)
    (hbase : attributeBase o name X.env (eval o X.env) = eval o X.env := by rfl)
    (hfew : ((backTo cpos (starEach (e :: es) X.env)).all (fun x => !x.1) && (backToKw cpos (keywordEach [] X.env)).all (fun x => x.1.isSome)
      && decide ((e :: es).length + ([] : List Keyword).length + (if ([] : List Keyword).isEmpty then 0 else 1) < 30)) = true := by rfl)
    (hline : (apos.endLine == cpos.line) = true := by rfl) (hs : starEach (e :: es) X.env = (false, eval e X.env) :: starEach es X.env := by rfl) (hplain : (backTo cpos (starEach es X.env)).any (·.1) = false := by rfl) :
    PE X (.Call (.Attribute o name apos) (e :: es) [] cpos) (tBMT r to t) := by
  refine ⟨fun pins s σ H Q I h => ?_⟩
  refine wpAny_Call_method_late hbase hfew hline rfl (thn (ho.run pins s σ H _ I h) fun v s1 ⟨x, H1, I1, r1, ty, q1⟩ => ?_)
  obtain ⟨p, xs, rfl, ob, od, oc, hp⟩ := ty
  obtain rfl : v = .ref p := r1
  have g : s1.heap.get? p = some ob := (I1.hok p _ hp).1
  refine ⟨"tuple", id, PySem.F.plainAttrs_tuple, slot, hty, ⟨ob, g, oc⟩, fun a e => ?_, ?_⟩
  · cases e
    exact ⟨ob, g, od⟩
  have hA := ha.run cpos pins s1 σ H1 _ I1 q1
  rw [hs] at hA ⊢
  refine Calls.callWith_builtin (by show (false || (backTo cpos (starEach es X.env)).any (·.1)) = false; rw [hplain] <;> rfl) (Calls.evalArgs_plain ?_)
  exact thn hA fun us s2 ⟨vs, H2, I2, r2, q2⟩ => hm pins s2 σ H2 (.ref p) vs (.ref p) us Q I2 rfl r2 q2
end
section
variable {X : Cx}
/-- t.index(n), t a tuple of ints -/
def rIndexI (K : PySem.W.Frag) : V → List V → Hp → VK → Prop := fun x xs H Q => ∃ (a : Addr) (ns : List Int) (n : Int) (j : Nat), x = V.ref a ∧ xs = [V.int n] ∧ SqT K H a (ns.map V.int) ∧ ns[j]? = some n ∧ (∀ m, m < j → ns[m]? ≠ some n) ∧ Q (.int (j : Nat)) H
theorem mt_indexI (hu : X.A.units + 65 < cLine) : MtR X "tuple.index" (rIndexI X.K) := by
  intro pins s σ H x xs v us Q I rx rxs h
  obtain ⟨a, ns, n, j, rfl, rfl, hs, hj, hno, q⟩ := h
  cases rx
  obtain ⟨u, rfl, ru⟩ := vals1 rxs
  obtain ⟨bs, r1⟩ := Dp.reads I (.int n) (.int n) u (.int n) ru
  have lay := lay_ints ns
  have room : X.A.units + 1 + min (PyData.depthAll (ns.map PyData.int)) (PyData.int n).depth < cLine := by
    have := Nat.min_le_right (PyData.depthAll (ns.map PyData.int)) (PyData.int n).depth
    have e : (PyData.int n).depth = 0 := by simp [PyData.depth]
    omega
  obtain ⟨its, rv, ⟨⟨cls, dd, dat, sls⟩, ho, hc, m, hd⟩, hlen⟩ := I.tuple hs
  simp only at hc hd
  subst hc hd
  obtain ⟨as, rall⟩ := Dp.readsAll I (ns.map PyData.int) _ its (dpInts ns) rv
  have ln : its.length = (ns.map PyData.int).length := SeqAt.ReadsAll.length _ its as rall
  have mp : its.map (SeqAt.readOf s.heap) = ns.map PyData.int := SeqAt.readsAll_map _ its as lay rall
  have jl : j < its.toArray.size := by
    have := (List.getElem?_eq_some_iff.mp hj).1
    rw [List.size_toArray, ln, List.length_map]; exact this
  have at_ : ∀ (m : Nat) (hm : m < its.toArray.size), ∃ z, ns[m]? = some z ∧ SeqAt.readOf s.heap its.toArray[m] = PyData.int z := fun m hm => by
    have hm2 : m < ns.length := by rw [List.size_toArray, ln, List.length_map] at hm; exact hm
    refine ⟨_, List.getElem?_eq_getElem hm2, ?_⟩
    have e : (its.map (SeqAt.readOf s.heap))[m]? = some (PyData.int ns[m]) := by rw [mp, List.getElem?_map, List.getElem?_eq_getElem hm2]; rfl
    have hml : m < its.length := by simpa using hm
    rw [List.getElem?_map, List.getElem?_eq_getElem hml] at e
    have e' := Option.some.inj e
    simpa using e'
  refine call_meets PySem.F.slot_tuple_index ⟨_, ho, rfl⟩ PySem.F.entry_tuple_index (PySem.F.args_tuple_index_2 _ _) (TI.tuple_indexAt a its.toArray m dd sls u (fun y => PyData.eqv (SeqAt.readOf s.heap y) (.int n)) j jl ?_ ?_)
    ⟨ho, SeqAt.items_eqAt (vs := its.toArray) (show ReadsAll s.heap its.toArray.toList _ as from rall) r1 lay (by simp [PyData.canLay0]) room, ⟨.int (j : Nat), H, I.tok _, ⟨_, rfl⟩, q⟩⟩
  · obtain ⟨z, e1, e2⟩ := at_ j jl
    rw [hj] at e1
    cases e1
    show PyData.eqv (SeqAt.readOf s.heap its.toArray[j]) (.int n) = true
    rw [e2]
    simp [PyData.eqv]
  · intro m hm hmj
    obtain ⟨z, e1, e2⟩ := at_ m hm
    show PyData.eqv (SeqAt.readOf s.heap its.toArray[m]) (.int n) = false
    rw [e2]
    have ne : z ≠ n := fun e => hno m hmj (by rw [e1, e])
    simp [PyData.eqv, ne]
end
section
variable {X : Cx} {P : Program} {w : World} {K : PySem.W.Frag}
theorem cr_setNK (h : X.K = K) (hP : X.prog = P) (hw : X.w = w) (hc : X.calm = true) (hu : X.A.units + 64 < cLine) : CallR X (.type "set") (rSetN K P w) := by
  subst h hP hw
  exact cr_setN hc hu
theorem cr_sortedAK (h : X.K = K) (hP : X.prog = P) (hw : X.w = w) (hc : X.calm = true) : CallR X (.builtin "sorted") (rSortA K P w) := by
  subst h hP hw
  exact cr_sortedA hc
end
end RV
set_option maxHeartbeats 4000000
namespace K44
open PySem PySem.Spec PyProof.Rows L2 RV
theorem rgV_upN (n : Nat) : rgV 0 (n : Int) = (upN n).map V.int := by
  rw [rgV_rgI]
  unfold rgI upN
  rw [show ((n : Int) - 0).toNat = n by omega]
  congr 1
  refine List.map_congr_left fun i _ => ?_
  omega
/-- the ways of the first i marks -/
def Ways (H : Hp) (D : Addr) (ps : List (List Int)) (ws : List (Addr × List Int)) : Prop := H D = some (.lst (ws.map fun p => V.ref p.1)) ∧ ∀ (k : Nat) (x : Addr × List Int), ws[k]? = some x → H x.1 = some (.lst (x.2.map V.int)) ∧ x.1 ≠ D ∧ x.2.length ≤ 8 ∧ ∀ j, j ∈ x.2 ↔ Rch ps (k : Int) j
theorem Ways.same {H H' : Hp} {D : Addr} {ps : List (List Int)} {ws : List (Addr × List Int)} (h : Ways H D ps ws) (s : Same H H') : Ways H' D ps ws :=
  ⟨s _ _ h.1, fun k x g => let ⟨a, b⟩ := h.2 k x g; ⟨s _ _ a, b⟩⟩
theorem in_way {ps : List (List Int)} {k : Nat} {y : Int} {fs : List Int} (h : ∀ j, j ∈ fs ↔ Rch ps (k : Int) j) : decide (y ∈ fs) = rB ps (k : Int) y := by
  rw [Bool.eq_iff_iff, decide_eq_true_iff, rB_iff]
  exact h y
noncomputable def partsTo (ps : List (List Int)) (n i : Nat) : List (List Int) := (((upN n).take i).filter (isHead ps n)).map (lotOf ps n)
theorem partsTo_next {ps : List (List Int)} {n i : Nat} {m : Int} (g : (upN n)[i]? = some m) : partsTo ps n (i + 1) = partsTo ps n i ++ (if isHead ps n m = true then [lotOf ps n m] else []) := by
  unfold partsTo
  rw [take_filt g, List.map_append]
  by_cases e : isHead ps n m = true
  · rw [if_pos e, if_pos e]; rfl
  · rw [if_neg e, if_neg e]; rfl
theorem partsTo_all (ps : List (List Int)) (n : Nat) : partsTo ps n n = partsOf ps n := by
  unfold partsTo partsOf
  rw [List.take_of_length_le (by rw [upN_len]; exact Nat.le_refl _)]
theorem partsTo_len (ps : List (List Int)) (n i : Nat) : (partsTo ps n i).length ≤ n := by
  unfold partsTo
  rw [List.length_map]
  refine Nat.le_trans (List.length_filter_le _ _) ?_
  rw [List.length_take, upN_len]; omega
section
variable {P : Program} {w : World} {K : PySem.W.Frag} {mg : Str → Option Value} {base : Heap}
/-! ### parts -/
theorem scParts : FnScope ["rule", "every", "mark", "ways", "found", "part", "other"] ["rule"] (defScope sParts) := ⟨rfl, rfl, rfl, by decide +kernel, rfl, by decide +kernel, by decide +kernel⟩
def spParts (K : PySem.W.Frag) (C : Addr) : Sp := fun vs H Q _ => ∃ (r : Addr) (ns : List Int) (ps : List (List Int)), vs = [.ref r] ∧ RuleAt K C H r ns ps ∧ Mir ns ∧ Stp ns ps ∧
  ∀ (H' : Hp) (c : Addr), Same H H' → H c = none → TupsD H' c (partsOf ps ns.length) → Q (.ref c) H'
theorem ok_parts {f C fL fM : Addr} {fd dL dM : FuncData} (F : Fun K "parts" "parts" sParts f fd) (T : Txt K mg C) (B : Bare mg) (DL : DefAt K mg "led_to" sLed ["rule", "mark"] fL dL) (GL : FnOk P w K mg base CX0 2 fL dL ["rule", "mark"] (spLed K C))
    (FM : Fun K "marks" "Rule.marks" sMarksM fM dM) (bM : Binds K dM ["self"] []) (mM : Meth K C "marks" fM) : FnOk P w K mg base CX0 3 f fd ["rule"] (spParts K C) := by
  have GM : FnOk P w K mg base CX0 1 fM dM ["self"] (spMarksM K C) := ok_marksM FM T B
  refine F.ok scParts (fun vs H Q E h => ?_) (fun cdv A outer s H vs Q E hr h => ?_)
  · obtain ⟨r, ns, ps, rfl, _⟩ := h
    rfl
  · obtain ⟨r, ns, ps, rfl, R, M, S, q⟩ := h
    have hu5 := un65 hr
    have hr1 := hr.mono (show 1 ≤ 2 by decide)
    refine ⟨_, pss_cons (ps_set (i := 1) scParts.nd rfl (Or.inl rfl) (pe_listRg rfl (by rfl) B.list (prg_1 (by rfl) B.range (pe_meth0 (pv 0) T.cl mM GM hr1 bM .nil pass0))))
      (pss_cons (ps_set (i := 3) scParts.nd rfl (Or.inr rfl) (pe_lc (own := [("mark", 2)]) (g := gName 2) (tt := tYes) rfl scParts.nd (pi_list (pv 1)) (blkOk_by (N := ["rule", "every", "mark", "ways", "found", "part", "other"]) (sc := defScope sParts) (by decide +kernel))
          (fun _ _ _ _ _ => pg_name (i := 2) scParts.nd rfl (Or.inl rfl)) (fun _ _ _ _ _ => pts_nil) (fun _ _ _ _ _ => pe_call GL hr (by rfl) DL.mg DL.fn.kp DL.bi .nil pass0 (pa_cons (pv 0) (pa_cons (pv 2) pa_nil)))))
      (pss_cons (ps_set (i := 4) scParts.nd rfl (Or.inl rfl) (pe_lst pa_nil))
      (pss_cons (ps_for PassesOwn.never rfl (pi_list (pv 1)) (pg_name (i := 2) scParts.nd rfl (Or.inr rfl))
        (pss_cons (ps_set (i := 5) scParts.nd rfl (Or.inl rfl) (pe_tupleF (by rfl) B.tuple
          (pe_lc (own := [("other", 6)]) (g := gName 6) rfl scParts.nd (pi_list (pv 1)) (blkOk_by (N := ["rule", "every", "mark", "ways", "found", "part", "other"]) (sc := defScope sParts) (by decide +kernel))
            (fun _ _ _ _ _ => pg_name (i := 6) scParts.nd rfl (Or.inl rfl))
            (fun _ _ _ _ _ => pts_one (PW.pt (pw_and (pt_cmpR (op_inDK (K := K) rfl hu5) (pv 6) (pe_ix (ix_listK (K := K) rfl) (pv 3) (pv 2) (fun _ _ => rfl)) (by rfl)) (pw_and1 (pt_cmpR (op_inDK (K := K) rfl hu5) (pv 2) (pe_ix (ix_listK (K := K) rfl) (pv 3) (pv 6) (fun _ _ => rfl)) (by rfl))))))
            (fun _ _ _ _ _ => pv 6))))
        (pss_one (ps_if (PW.pt (pw_and (pt_cmpR op_gt (pe_callB call_len_seq (by rfl) B.len PySem.boot_len (pa_cons (pv 5) pa_nil)) pe_int (nomark _)) (pw_and1 (pt_cmpR op_eq (pe_ix ix_tup (pv 5) pe_int (fun _ _ => rfl)) (pv 2) (nomark _)))))
          (pss_one (ps_expr (pe_bm PySem.F.plainAttrs_list PySem.F.slot_list_append PySem.F.type_list_append mt_append (pv 4) (pa_cons (pv 5) pa_nil)))) pss_nil))))
      (pss_one (ps_ret (pe_tupleOf (by rfl) B.tuple (pv 4))))))), ?_⟩
    obtain ⟨dx, a0, b0, t0, g1, g2, g3, g4⟩ := R.ex
    have fno := flds_no a0 b0 t0 (m := "marks") (by decide +kernel) (by decide +kernel) (by decide +kernel)
    have h8 := M.few
    have hP : ∀ p ∈ ps, Pr (ns.length : Int) p := fun p hp => S.pair p hp
    -- every
    refine ⟨.ref r, rfl, r, dx, _, rfl, g1, fno, r, ns, ps, rfl, R, _, rfl, RgOk.of_le (by omega) (by omega) (by omega) (by omega), fun E0 nE => ?_⟩
    rw [rgV_upN]
    have s1 := same_upd (o := .lst ((upN ns.length).map V.int)) nE
    have eE : (upd H E0 (.lst ((upN ns.length).map V.int))) E0 = some (.lst ((upN ns.length).map V.int)) := upd_same
    generalize upd H E0 (.lst ((upN ns.length).map V.int)) = H1 at s1 eE ⊢
    -- ways
    refine ⟨.ref E0, rfl, E0, rfl, ⟨_, lstNew eE⟩, fun D nD => ?_⟩
    refine lc_list (K := K) (a := E0) (xs := (upN ns.length).map V.int) (fun i H' => Same H1 H' ∧ ∃ ws, ws.length = i ∧ Ways H' D ps ws) ⟨same_upd nD, [], rfl, upd_same, fun k x g => nomatch g⟩ (fun i H' _ p => lstNew (p.1 _ _ eE)) (fun i x H' hx p => ?_) fun H2 p => ?_
    · obtain ⟨k, g, rfl⟩ := map_at hx
      have hil : i < ns.length := by
        have := (List.getElem?_eq_some_iff.mp g).1
        rwa [upN_len] at this
      rw [upN_get hil] at g
      have ek : (i : Int) = k := Option.some.inj g
      subst ek
      obtain ⟨p1, ws, hws, W⟩ := p
      refine ⟨rfl, tt_yes ⟨.ref r, rfl, .int (i : Int), rfl, r, (i : Int), ns, ps, rfl, R.same (s1.trans p1), M, S, ⟨by omega, by omega⟩, fun H3 c fs s3 nc e3 l3 m3 => ?_⟩⟩
      have W3 := W.same s3
      have cD : c ≠ D := (ne_of_none W.1 nc).symm
      refine ⟨_, W3.1, by rw [List.length_map]; exact few1 (by omega), fun b o z => ?_, ws ++ [(c, fs)], by rw [List.length_append, hws]; rfl, ?_, fun k x gx => ?_⟩
      · rw [upd_ne (ne_of_none z nD)]; exact s3 _ _ (p1 b o z)
      · rw [upd_same, List.map_append]; rfl
      · by_cases hk : k < ws.length
        · rw [List.getElem?_append_left hk] at gx
          obtain ⟨w1, w2, w3, w4⟩ := W3.2 k x gx
          exact ⟨by rw [upd_ne w2]; exact w1, w2, w3, w4⟩
        · have hk2 := (List.getElem?_eq_some_iff.mp gx).1
          rw [List.length_append] at hk2
          have hk3 : k = ws.length := by
            have : ([(c, fs)] : List (Addr × List Int)).length = 1 := rfl
            omega
          subst hk3
          rw [List.getElem?_append_right (Nat.le_refl _), Nat.sub_self] at gx
          have ex : (c, fs) = x := Option.some.inj gx
          subst ex
          exact ⟨by rw [upd_ne cD]; exact e3, cD, l3, by rw [hws]; exact m3⟩
    · obtain ⟨p1, ws, hws, W⟩ := p
      rw [List.length_map, upN_len] at hws
      refine nx_step ?_
      dsimp only
      -- found
      refine ⟨Nat.zero_le _, fun F0 nF => ?_⟩
      have sF := same_upd (o := .lst []) nF
      refine ⟨.ref E0, rfl, E0, rfl, ⟨_, lstNew (sF _ _ (p1 _ _ eE))⟩, ?_⟩
      have nFH : H F0 = none := s1.free (p1.free nF)
      refine for_list (K := K) (a := E0) (xs := (upN ns.length).map V.int) (fun i σ H' => ∃ (ks : List (Addr × List Int)) (y2 y5 y6 : Option V), σ = [some (.ref r), some (.ref E0), y2, some (.ref D), some (.ref F0), y5, y6] ∧ Same H2 H' ∧ H' F0 = some (.lst (ks.map fun p => V.ref p.1)) ∧ ks.map (·.2) = partsTo ps ns.length i ∧ ∀ k ∈ ks, TupD H' k.1 (k.2.map V.int))
        ⟨[], none, none, none, rfl, sF, upd_same, rfl, fun _ z => nomatch z⟩ (fun i σ H' _ h => ?_) (fun i x σ H' hx h => ?_) (fun σ H' h => ?_)
      · obtain ⟨_, _, _, _, _, s', _⟩ := h
        exact lstNew (s' _ _ (p1 _ _ eE))
      · obtain ⟨ks, y2, y5, y6, rfl, s', eF, eks, hks⟩ := h
        obtain ⟨m, g, rfl⟩ := map_at hx
        have hil : i < ns.length := by
          have := (List.getElem?_eq_some_iff.mp g).1
          rwa [upN_len] at this
        have g' := g
        rw [upN_get hil] at g'
        have ek : (i : Int) = m := Option.some.inj g'
        subst ek
        have W' := W.same s'
        have lks : ks.length ≤ ns.length := by
          have z := congrArg List.length eks
          rw [List.length_map] at z
          have := partsTo_len ps ns.length i
          omega
        -- part
        refine ⟨.ref E0, rfl, E0, rfl, ⟨_, lstNew (s' _ _ (p1 _ _ eE))⟩, fun D2 nD2 => ?_⟩
        refine lc_filtL (f := fun y => rB ps (i : Int) y && rB ps y (i : Int)) (lstNew (s' _ _ (p1 _ _ eE))) (by rw [upN_len]; omega) nD2 (fun y hy H4 s4 A B h => ?_) (fun y H' Q h => ⟨.int y, rfl, h⟩) fun H4 s4 eD2 => ?_
        · have W4 := W'.same s4
          have hy' := mem_upN.mp hy
          obtain ⟨wi, gwi⟩ : ∃ x, ws[i]? = some x := ⟨_, List.getElem?_eq_getElem (by omega)⟩
          obtain ⟨wy, gwy⟩ : ∃ x, ws[y.toNat]? = some x := ⟨_, List.getElem?_eq_getElem (by omega)⟩
          obtain ⟨u1, _, _, u4⟩ := W4.2 _ _ gwi
          obtain ⟨v1, _, _, v4⟩ := W4.2 _ _ gwy
          have hh := h H4 (Same.refl H4)
          refine ⟨.int y, rfl, .ref D, rfl, .int (i : Int), rfl, D, _, _, .ref wi.1, rfl, rfl, lstNew W4.1, atI_nat (by rw [List.getElem?_map, gwi]; rfl), .int y, wi.2.map PyData.int, .int y, dpL (lstNew u1), shapedN y, shapedLI _, _, rfl, ?_⟩
          rw [any_int, in_way u4]
          cases e1 : rB ps (i : Int) y with
          | false =>
            rw [e1] at hh
            exact iteF hh
          | true =>
            rw [e1] at hh
            refine iteT ?_
            have ey : atI (ws.map fun p => V.ref p.1) y = some (.ref wy.1) := by
              have z : atI (ws.map fun p => V.ref p.1) ((y.toNat : Nat) : Int) = some (.ref wy.1) := atI_nat (by rw [List.getElem?_map, gwy]; rfl)
              rwa [Int.toNat_of_nonneg hy'.1] at z
            refine ⟨.int (i : Int), rfl, .ref D, rfl, .int y, rfl, D, _, _, .ref wy.1, rfl, rfl, lstNew W4.1, ey, .int (i : Int), wy.2.map PyData.int, .int (i : Int), dpL (lstNew v1), shapedN _, shapedLI _, _, rfl, ?_⟩
            rw [any_int, in_way v4, Int.toNat_of_nonneg hy'.1]
            rw [Bool.true_and] at hh
            exact hh
        · change H4 D2 = some (.lst ((lotOf ps ns.length (i : Int)).map V.int)) at eD2
          refine ⟨D2, _, rfl, lstNew eD2, fun T0 ob nT od oc => ?_⟩
          have sT := same_upd (o := .frz ob (.tup ((lotOf ps ns.length (i : Int)).map V.int))) nT
          have eT : TupD (upd H4 T0 (.frz ob (.tup ((lotOf ps ns.length (i : Int)).map V.int)))) T0 ((lotOf ps ns.length (i : Int)).map V.int) := ⟨ob, od, oc, upd_same⟩
          have s5 := s4.trans sT
          generalize upd H4 T0 (.frz ob (.tup ((lotOf ps ns.length (i : Int)).map V.int))) = H5 at eT s5 ⊢
          have eF5 := s5 _ _ eF
          have s25 := s'.trans s5
          refine ⟨.ref T0, rfl, T0, _, rfl, .inr eT.sq, _, _, rfl, rfl, _, rfl, ?_⟩
          have nxt := partsTo_next (ps := ps) g
          have no : isHead ps ns.length (i : Int) = false → partsTo ps ns.length (i + 1) = partsTo ps ns.length i := fun e => by
            rw [nxt, e, if_neg (by simp), List.append_nil]
          cases el : lotOf ps ns.length (i : Int) with
          | nil =>
            have e0 : isHead ps ns.length (i : Int) = false := by unfold isHead; rw [el]; rfl
            refine iteF (iteF ?_)
            exact ⟨ks, _, _, _, rfl, s25, eF5, by rw [no e0]; exact eks, fun k hk => (hks k hk).same s5⟩
          | cons x l =>
            rw [el] at eT
            have e0 : decide ((List.map V.int (x :: l)).length > (0 : Int)) = true := decide_eq_true (by rw [List.map_cons, List.length_cons]; omega)
            rw [e0]
            refine iteT ⟨.ref T0, rfl, T0, _, 0, .int x, rfl, rfl, eT.sq, atI_nat (j := 0) rfl, .int (i : Int), rfl, rfl, _, rfl, ?_⟩
            by_cases ex : x = (i : Int)
            · have e1 : isHead ps ns.length (i : Int) = true := by unfold isHead; rw [el, ex]; exact decide_eq_true rfl
              rw [decide_eq_true (by rw [ex])]
              refine iteT ⟨.ref F0, rfl, .inl ⟨rfl, _, lstNew eF5⟩, .ref T0, rfl, F0, _, _, rfl, rfl, eF5, by rw [List.length_map]; exact few1 (by omega), ?_⟩
              have tF : ∀ (c : Addr) (xs : List V), TupD H5 c xs → TupD (upd H5 F0 (.lst (ks.map (fun p => V.ref p.1) ++ [.ref T0]))) c xs := fun c xs ⟨o, z1, z2, e⟩ => ⟨o, z1, z2, by
                rw [upd_ne (fun z => by rw [z, eF5] at e; cases e)]; exact e⟩
              refine ⟨ks ++ [(T0, lotOf ps ns.length (i : Int))], _, _, _, rfl, fun b o z => ?_, ?_, ?_, fun k hk => ?_⟩
              · rw [upd_ne (ne_of_none z nF)]; exact s25 b o z
              · rw [upd_same, List.map_append]; rfl
              · rw [nxt, if_pos e1, List.map_append, eks]; rfl
              · rcases List.mem_append.mp hk with z | z
                · exact tF _ _ ((hks k z).same s5)
                · rw [List.mem_singleton.mp z]
                  refine tF _ _ ?_
                  rw [el]; exact eT
            · have e1 : isHead ps ns.length (i : Int) = false := by
                unfold isHead
                rw [el]
                exact decide_eq_false fun z => ex (Option.some.inj z)
              rw [decide_eq_false (fun z => ex (V.int.inj z))]
              refine iteF ?_
              exact ⟨ks, _, _, _, rfl, s25, eF5, by rw [no e1]; exact eks, fun k hk => (hks k hk).same s5⟩
      · obtain ⟨ks, y2, y5, y6, rfl, s', eF, eks, hks⟩ := h
        rw [List.length_map, upN_len, partsTo_all] at eks
        refine ⟨.ref F0, rfl, .inl ⟨F0, _, rfl, lstNew eF, fun c nc => ?_⟩⟩
        have sc := same_upd (o := .tup (ks.map fun p => V.ref p.1)) nc
        have s02 := s1.trans (p1.trans s')
        exact q _ c (s02.trans sc) (s02.free nc) ⟨ks, eks, upd_same, fun k hk => (hks k hk).same sc⟩
end
end K44
set_option maxHeartbeats 4000000
namespace RV
open PySem PySem.Spec PyProof.Rows L2
section
variable {K : PySem.W.Frag} {tt : TT} {te : TE} {f : Int → Bool} {σ : L2.St} {H1 : Hp} {D : Addr} {v n : Nat} {Qd : Hp → Prop}
/-- [x for x in range(n) if ..] -/
theorem lc_filtR (hl : n ≤ 1000) (nD : H1 D = none)
    (htest : ∀ x : Int, 0 ≤ x → x < (n : Int) → ∀ H', Same H1 H' → ∀ A B : Hp → Prop, (∀ H2, Same H' H2 → if f x = true then A H2 else B H2) → tt ((wipe σ [v]).set v (some (.int x))) H' (fun b H3 => if b = true then A H3 else B H3))
    (hte : ∀ (x : Int) (H' : Hp) (Q : VK), Q (.int x) H' → te ((wipe σ [v]).set v (some (.int x))) H' Q)
    (hd : ∀ H', Same H1 H' → H' D = some (.lst (((upN n).filter f).map V.int)) → Qd H') :
    ∃ W : Nat → Nat → Hp → Prop, (∃ m, W 0 m (upd H1 D (.lst []))) ∧ ∀ i m H, W i m H →
      ((Itr 0 n).stop i H ∧ Qd H) ∨ ((Itr 0 n).go i H ∧ ∃ Nx : Hp → Prop, (∀ H', Nx H' → ∃ m', m' < m ∧ W (i + 1) m' H') ∧ ∀ x H', (Itr 0 n).yld i H x H' → gName v x (wipe σ [v]) H' fun σ2 H2 => wipe σ2 [v] = wipe σ [v] ∧ tt σ2 H2 fun b H3 =>
        if b = true then te σ2 H3 fun y H4 => ∃ acc, H4 D = some (.lst acc) ∧ acc.length < sizeLine ∧ Nx (upd H4 D (.lst (acc ++ [y]))) else Nx H3) := by
  refine lc_range (lo := 0) (n := n) (fun i H' => Same H1 H' ∧ H' D = some (.lst ((((upN n).take i).filter f).map V.int))) ⟨same_upd nD, upd_same⟩ (fun i H' hi p => ?_) fun H' p => ?_
  · have g : (upN n)[i]? = some (i : Int) := upN_get hi
    rw [Int.zero_add]
    refine ⟨by simp [wipe, List.set_set], htest (i : Int) (by omega) (by omega) H' p.1 _ _ fun H2 s2 => ?_⟩
    have s12 := p.1.trans s2
    have e2 := s2 _ _ p.2
    by_cases e : f (i : Int) = true
    · rw [if_pos e]
      refine hte _ H2 _ ⟨_, e2, ?_, fun b o z => ?_, ?_⟩
      · rw [List.length_map]
        exact few1 (Nat.le_trans (List.length_filter_le _ _) (by rw [List.length_take, upN_len]; omega))
      · rw [upd_ne (ne_of_none z nD)]; exact s12 b o z
      · rw [upd_same, take_filt g, if_pos e, List.map_append]; rfl
    · rw [if_neg e]
      exact ⟨s12, by rw [take_filt g, if_neg e, List.append_nil]; exact e2⟩
  · rw [List.take_of_length_le (by rw [upN_len]; exact Nat.le_refl _)] at p
    exact hd H' p.1 p.2
end
end RV
set_option maxHeartbeats 4000000
namespace RV
open PySem PySem.Spec PyProof.Rows L2
def fromN (lo : Int) (n : Nat) : List Int := (List.range n).map fun (i : Nat) => lo + (i : Int)
theorem fromN_get {lo : Int} {n k : Nat} (h : k < n) : (fromN lo n)[k]? = some (lo + (k : Int)) := by
  unfold fromN
  rw [List.getElem?_map, List.getElem?_range h]; rfl
theorem fromN_len (lo : Int) (n : Nat) : (fromN lo n).length = n := by unfold fromN; rw [List.length_map, List.length_range]
theorem mem_fromN {lo : Int} {n : Nat} {x : Int} : x ∈ fromN lo n ↔ lo ≤ x ∧ x < lo + (n : Int) := by
  unfold fromN
  rw [List.mem_map]
  constructor
  · rintro ⟨k, hk, rfl⟩
    have := List.mem_range.mp hk
    omega
  · rintro ⟨h0, h1⟩
    exact ⟨(x - lo).toNat, List.mem_range.mpr (by omega), by omega⟩
theorem pe_weakR {X : Cx} {e : Expr} {t t' : TE} (h : PE X e t) (imp : ∀ σ H Q, t' σ H Q → t σ H Q) : PE X e t' := ⟨fun pins s σ H Q I q => h.run pins s σ H Q I (imp σ H Q q)⟩
section
variable {X : Cx} {K : PySem.W.Frag}
theorem cr_allK (h : X.K = K) (hc : X.calm = true) : CallR X (.builtin "all") (rAll K) := h ▸ cr_all hc
theorem pi_listK {tg l : Expr} {tl : TE} (h : X.K = K) (hl : PE X l tl) : PI X tg l (iList K tl) := h ▸ pi_list hl
theorem pi_tupK {tg l : Expr} {tl : TE} (h : X.K = K) (hl : PE X l tl) : PI X tg l (iTup K tl) := h ▸ pi_tup hl
end
section
variable {K : PySem.W.Frag} {tt : TT} {te : TE} {f : Int → Bool} {h : Int → Int} {σ : L2.St} {H1 : Hp} {D : Addr} {v n : Nat} {lo : Int} {Qd : Hp → Prop}
/-- [h(x) for x in range(lo, ..) if f(x)] -/
theorem lc_mapR (hl : n ≤ 1000) (nD : H1 D = none)
    (htest : ∀ x ∈ fromN lo n, ∀ H', Same H1 H' → ∀ A B : Hp → Prop, (∀ H2, Same H' H2 → if f x = true then A H2 else B H2) → tt ((wipe σ [v]).set v (some (.int x))) H' (fun b H3 => if b = true then A H3 else B H3))
    (hte : ∀ x ∈ fromN lo n, ∀ (H' : Hp) (Q : VK), Same H1 H' → f x = true → (∀ H2, Same H' H2 → Q (.int (h x)) H2) → te ((wipe σ [v]).set v (some (.int x))) H' Q)
    (hd : ∀ H', Same H1 H' → H' D = some (.lst ((((fromN lo n).filter f).map h).map V.int)) → Qd H') :
    ∃ W : Nat → Nat → Hp → Prop, (∃ m, W 0 m (upd H1 D (.lst []))) ∧ ∀ i m H, W i m H →
      ((Itr lo n).stop i H ∧ Qd H) ∨ ((Itr lo n).go i H ∧ ∃ Nx : Hp → Prop, (∀ H', Nx H' → ∃ m', m' < m ∧ W (i + 1) m' H') ∧ ∀ x H', (Itr lo n).yld i H x H' → gName v x (wipe σ [v]) H' fun σ2 H2 => wipe σ2 [v] = wipe σ [v] ∧ tt σ2 H2 fun b H3 =>
        if b = true then te σ2 H3 fun y H4 => ∃ acc, H4 D = some (.lst acc) ∧ acc.length < sizeLine ∧ Nx (upd H4 D (.lst (acc ++ [y]))) else Nx H3) := by
  refine lc_range (lo := lo) (n := n) (fun i H' => Same H1 H' ∧ H' D = some (.lst (((((fromN lo n).take i).filter f).map h).map V.int))) ⟨same_upd nD, upd_same⟩ (fun i H' hi p => ?_) fun H' p => ?_
  · have g : (fromN lo n)[i]? = some (lo + (i : Int)) := fromN_get hi
    have hm := List.mem_of_getElem? g
    refine ⟨by simp [wipe, List.set_set], htest _ hm H' p.1 _ _ fun H2 s2 => ?_⟩
    have s12 := p.1.trans s2
    have e2 := s2 _ _ p.2
    by_cases e : f (lo + (i : Int)) = true
    · rw [if_pos e]
      refine hte _ hm H2 _ s12 e fun H3 s3 => ⟨_, s3 _ _ e2, ?_, fun b o z => ?_, ?_⟩
      · rw [List.length_map, List.length_map]
        exact few1 (Nat.le_trans (List.length_filter_le _ _) (by rw [List.length_take, fromN_len]; omega))
      · rw [upd_ne (ne_of_none z nD)]; exact s3 _ _ (s12 b o z)
      · rw [upd_same, take_filt g, if_pos e, List.map_append, List.map_append]; rfl
    · rw [if_neg e]
      exact ⟨s12, by rw [take_filt g, if_neg e, List.append_nil]; exact e2⟩
  · rw [List.take_of_length_le (by rw [fromN_len]; exact Nat.le_refl _)] at p
    exact hd H' p.1 p.2
end
/-- [c(x) for x in l] of truths, l a list of ints -/
theorem lc_blL {K : PySem.W.Frag} {te : TE} {c : Int → Bool} {σ : L2.St} {H1 : Hp} {a D : Addr} {v : Nat} {ns : List Int} {Qd : Hp → Prop} (hT : SqL K H1 a (ns.map V.int)) (hl : ns.length ≤ 1000) (nD : H1 D = none)
    (hte : ∀ x ∈ ns, ∀ (H' : Hp) (Q : VK), Same H1 H' → Q (.bl (c x)) H' → te ((wipe σ [v]).set v (some (.int x))) H' Q)
    (hd : ∀ H', Same H1 H' → H' D = some (.lst ((ns.map c).map V.bl)) → Qd H') :
    ∃ W : Nat → Nat → Hp → Prop, (∃ m, W 0 m (upd H1 D (.lst []))) ∧ ∀ i m H, W i m H →
      ((Itl K a).stop i H ∧ Qd H) ∨ ((Itl K a).go i H ∧ ∃ Nx : Hp → Prop, (∀ H', Nx H' → ∃ m', m' < m ∧ W (i + 1) m' H') ∧ ∀ x H', (Itl K a).yld i H x H' → gName v x (wipe σ [v]) H' fun σ2 H2 => wipe σ2 [v] = wipe σ [v] ∧ tYes σ2 H2 fun b H3 =>
        if b = true then te σ2 H3 fun y H4 => ∃ acc, H4 D = some (.lst acc) ∧ acc.length < sizeLine ∧ Nx (upd H4 D (.lst (acc ++ [y]))) else Nx H3) := by
  refine lc_list (K := K) (a := a) (xs := ns.map V.int) (fun i H' => Same H1 H' ∧ H' D = some (.lst (((ns.take i).map c).map V.bl))) ⟨same_upd nD, upd_same⟩ (fun i H' _ p => sqL_same p.1 hT) (fun i x H' hx p => ?_) fun H' p => ?_
  · obtain ⟨k, g, rfl⟩ := map_at hx
    refine ⟨by simp [wipe, List.set_set], tt_yes (hte k (List.mem_of_getElem? g) H' _ p.1 ⟨_, p.2, ?_, fun b o z => ?_, ?_⟩)⟩
    · rw [List.length_map, List.length_map, List.length_take]; exact few1 (by omega)
    · rw [upd_ne (ne_of_none z nD)]; exact p.1 b o z
    · rw [upd_same, List.take_add_one, g, List.map_append, List.map_append]; rfl
  · rw [List.length_map, List.take_of_length_le (Nat.le_refl _)] at p
    exact hd H' p.1 p.2
end RV
set_option maxHeartbeats 4000000
namespace K44
open PySem PySem.Spec PyProof.Rows L2 RV
/-- a list of tuples of ints, all of them seen -/
def LotsH (H : Hp) (a : Addr) (ls : List (List Int)) : Prop := ∃ ks : List (Addr × List Int), ks.map (·.2) = ls ∧ H a = some (.lst (ks.map fun p => V.ref p.1)) ∧ ∀ p ∈ ks, H p.1 = some (.tup (p.2.map V.int))
theorem LotsH.same {H H' : Hp} {a : Addr} {ls : List (List Int)} (h : LotsH H a ls) (s : Same H H') : LotsH H' a ls := by
  obtain ⟨ks, h1, h2, h3⟩ := h
  exact ⟨ks, h1, s _ _ h2, fun p hp => s _ _ (h3 p hp)⟩
theorem half_sub {m : Nat} {fs ls xs : List Int} (h : Half m fs ls) (nd : xs.Nodup) (sub : ∀ x ∈ xs, x ∈ ls) : Half m fs xs := ⟨h.len, h.inn, h.back, nd, fun x hx => h.lin x (sub x hx), fun x hx => h.self x (sub x hx)⟩
theorem half_len {m : Nat} {fs ls : List Int} (h : Half m fs ls) (h8 : m ≤ 8) : ls.length ≤ 8 := by
  have := nodup_le (us := rgI 0 (m : Int)) h.nd fun z hz => by
    have h1 := h.lin z hz
    exact List.mem_of_getElem? (i := z.toNat) (rgI_get.mpr ⟨by omega, by omega⟩)
  rw [rgI_len] at this; omega
def leftAt : L2.St → Hp → Nat
  | [_, _, _, _, some (.ref lf), _, _], H => lenAt H lf
  | _, _ => 0
section
variable {P : Program} {w : World} {K : PySem.W.Frag} {mg : Str → Option Value} {base : Heap}
/-! ### _law_closed -/
def spClosed (K : PySem.W.Frag) : Sp := fun vs H Q _ => ∃ (u l : Addr) (ns : List Int) (qs : List (List Int)), vs = [.ref u, .ref l] ∧ SqT K H u (ns.map V.int) ∧ LotsH H l qs ∧ Mir ns ∧ (∀ q ∈ qs, Pr (ns.length : Int) q) ∧ qs.length ≤ 1000 ∧
  ∀ (H' : Hp) (c : Addr) (ps : List (List Int)), Same H H' → H c = none → TupsH H' c ps → Stp ns ps → Q (.ref c) H'
/-! ### _law_drawn_mirrors -/
def spDrawn (K : PySem.W.Frag) : Sp := fun vs H Q _ => ∃ (p : Addr) (t m : Nat) (st : Int), vs = [.ref p, .int (m : Int), .int st] ∧ PailAt H p t ∧ t ≤ 3000 ∧ 1 ≤ m ∧ m ≤ 8 ∧
  ∀ (H' : Hp) (u : Addr) (t' : Nat) (ns : List Int), PailAt H' p t' → t' ≤ t + 20 → But p H H' → SqT K H' u (ns.map V.int) → Mir ns → ns.length = m → Q (.ref u) H'
end
end K44
set_option maxHeartbeats 4000000
namespace K44
open PySem PySem.Spec PyProof.Rows L2 RV
def Kd (wh : Int) (v : V) : Prop := v = .non ∨ ∃ n : Int, v = .int n ∧ 0 ≤ n ∧ n < wh
section
variable {P : Program} {w : World} {K : PySem.W.Frag} {mg : Str → Option Value} {base : Heap}
/-! ### _law_kinds -/
def spKinds (K : PySem.W.Frag) : Sp := fun vs H Q _ => ∃ (p u : Addr) (t : Nat) (wh : Nat) (kd : Int) (ns : List Int), vs = [.ref p, .ref u, .int (wh : Int), .int kd] ∧ PailAt H p t ∧ t ≤ 3500 ∧ SqT K H u (ns.map V.int) ∧ Mir ns ∧ 1 ≤ wh ∧ wh ≤ 100 ∧ 0 ≤ kd ∧ kd < (wh : Int) ∧
  ∀ (H' : Hp) (L : Addr) (t' : Nat) (xs : List V), PailAt H' p t' → t' ≤ t + 8 → But p H H' → H L = none → H' L = some (.lst xs) → xs.length = ns.length → (∀ v ∈ xs, Kd (wh : Int) v) → Q (.ref L) H'
end
end K44
set_option maxHeartbeats 4000000
namespace K44
open PySem PySem.Spec PyProof.Rows L2 RV
/-- a list of at most n pairs of marks -/
def PairsH (m : Int) (H : Hp) (L : Addr) (n : Nat) : Prop := ∃ qs : List (List Int), LotsH H L qs ∧ (∀ q ∈ qs, Pr m q) ∧ qs.length ≤ n
theorem PairsH.nil {m : Int} {H : Hp} {L : Addr} (e : H L = some (.lst [])) : PairsH m H L 0 := ⟨[], ⟨[], rfl, e, fun _ z => nomatch z⟩, fun _ z => (nomatch z), Nat.le_refl _⟩
theorem PairsH.le {m : Int} {H : Hp} {L : Addr} {n k : Nat} (h : PairsH m H L n) (e : n ≤ k) : PairsH m H L k := let ⟨qs, h1, h2, h3⟩ := h; ⟨qs, h1, h2, Nat.le_trans h3 e⟩
theorem PairsH.same {m : Int} {H H' : Hp} {L : Addr} {n : Nat} (h : PairsH m H L n) (s : Same H H') : PairsH m H' L n := let ⟨qs, h1, h2, h3⟩ := h; ⟨qs, h1.same s, h2, h3⟩
theorem PairsH.but {m : Int} {H H' : Hp} {L p : Addr} {n t : Nat} (h : PairsH m H L n) (hp : PailAt H p t) (b : But p H H') (hn : L ≠ p) : PairsH m H' L n := by
  obtain ⟨qs, ⟨ks, h1, h2, h3⟩, h4, h5⟩ := h
  obtain ⟨x, y, e, _⟩ := hp
  exact ⟨qs, ⟨ks, h1, b _ _ h2 hn, fun k hk => b _ _ (h3 k hk) fun z => by have w := h3 k hk; rw [z, e] at w; cases w⟩, h4, h5⟩
theorem PairsH.lst {m : Int} {H : Hp} {L : Addr} {n : Nat} (h : PairsH m H L n) : ∃ vs : List V, H L = some (.lst vs) ∧ vs.length ≤ n := by
  obtain ⟨qs, ⟨ks, h1, h2, h3⟩, h4, h5⟩ := h
  exact ⟨_, h2, by rw [List.length_map, ← List.length_map (f := fun p : Addr × List Int => p.2), h1]; exact h5⟩
theorem PairsH.add {m : Int} {H : Hp} {L T : Addr} {n : Nat} {x y : Int} {vs : List V} (h : PairsH m H L n) (e : H L = some (.lst vs)) (nT : H T = none) (hx : 0 ≤ x ∧ x < m) (hy : 0 ≤ y ∧ y < m) : PairsH m (upd (upd H T (.tup [.int x, .int y])) L (.lst (vs ++ [.ref T]))) L (n + 1) := by
  obtain ⟨qs, ⟨ks, h1, h2, h3⟩, h4, h5⟩ := h
  have sT := same_upd (o := .tup [.int x, .int y]) nT
  have ev : vs = ks.map fun p => V.ref p.1 := by rw [e] at h2; cases h2; rfl
  subst ev
  refine ⟨qs ++ [[x, y]], ⟨ks ++ [(T, [x, y])], by rw [List.map_append, h1]; rfl, by rw [upd_same, List.map_append]; rfl, fun k hk => ?_⟩, fun q hq => ?_, by rw [List.length_append]; simp; omega⟩
  · rcases List.mem_append.mp hk with hk | hk
    · rw [upd_ne (fun z => by have w := h3 k hk; rw [z, e] at w; cases w)]; exact sT _ _ (h3 k hk)
    · rw [List.mem_singleton.mp hk, upd_ne (ne_of_none e nT).symm]; exact upd_same
  · rcases List.mem_append.mp hq with hq | hq
    · exact h4 q hq
    · rw [List.mem_singleton.mp hq]; exact ⟨x, y, rfl, hx, hy⟩
theorem but_free {p a : Addr} {H H' : Hp} {t : Nat} (b : But p H H') (hp : PailAt H' p t) (n : H' a = none) : H a = none := by
  cases e : H a with
  | none => rfl
  | some o =>
    have z := b a o e (pail_ne hp n)
    rw [n] at z; cases z
section
variable {P : Program} {w : World} {K : PySem.W.Frag} {mg : Str → Option Value} {base : Heap}
/-! ### _law_wheel_pairs -/
def spWheel (K : PySem.W.Frag) : Sp := fun vs H Q _ => ∃ (p u : Addr) (t : Nat) (wh : Nat) (kd th : Int) (ns : List Int), vs = [.ref p, .ref u, .int (wh : Int), .int kd, .int th] ∧ PailAt H p t ∧ t ≤ 3400 ∧ SqT K H u (ns.map V.int) ∧ Mir ns ∧ 1 ≤ wh ∧ wh ≤ 100 ∧ 0 ≤ kd ∧ kd < (wh : Int) ∧
  ∀ (H' : Hp) (L : Addr) (t' : Nat), PailAt H' p t' → t' ≤ t + 80 → But p H H' → H L = none → PairsH (ns.length : Int) H' L 64 → Q (.ref L) H'
end
end K44
set_option maxHeartbeats 4000000
namespace K44
open PySem PySem.Spec PyProof.Rows L2 RV
section
variable {P : Program} {w : World} {K : PySem.W.Frag} {mg : Str → Option Value} {base : Heap}
/-! ### _law_side_pairs -/
def spSide (K : PySem.W.Frag) : Sp := fun vs H Q _ => ∃ (p u : Addr) (t : Nat) (th : Int) (ns : List Int), vs = [.ref p, .ref u, .int th] ∧ PailAt H p t ∧ t ≤ 3400 ∧ SqT K H u (ns.map V.int) ∧ Mir ns ∧
  ∀ (H' : Hp) (L : Addr) (t' : Nat), PailAt H' p t' → t' ≤ t + 128 → But p H H' → H L = none → PairsH (ns.length : Int) H' L 64 → Q (.ref L) H'
end
end K44
set_option maxHeartbeats 4000000
namespace K44
open PySem PySem.Spec PyProof.Rows L2 RV
/-- mirrors and steps as one pair -/
def OwnH (K : PySem.W.Frag) (H : Hp) (R : Addr) (ns : List Int) (ps : List (List Int)) : Prop := ∃ u c : Addr, H R = some (.tup [.ref u, .ref c]) ∧ SqT K H u (ns.map V.int) ∧ TupsH H c ps ∧ Mir ns ∧ Stp ns ps
theorem sqT_lst {K : PySem.W.Frag} {H : Hp} {D : Addr} {vs : List V} {o' : HO} (e : H D = some (.lst vs)) {a : Addr} {xs : List V} (h : SqT K H a xs) : SqT K (upd H D o') a xs := by
  rcases h with (h | ⟨o, h⟩) | h
  · exact .inl (.inl (by rw [upd_ne (fun z => by rw [z, e] at h; cases h)]; exact h))
  · exact .inl (.inr ⟨o, by rw [upd_ne (fun z => by rw [z, e] at h; cases h)]; exact h⟩)
  · exact .inr h
section
variable {P : Program} {w : World} {K : PySem.W.Frag} {mg : Str → Option Value} {base : Heap}
/-! ### _law_rule -/
def spRule (K : PySem.W.Frag) : Sp := fun vs H Q _ => ∃ (p : Addr) (t m : Nat), vs = [.ref p, .int (m : Int)] ∧ PailAt H p t ∧ t ≤ 2500 ∧ 1 ≤ m ∧ m ≤ 8 ∧
  ∀ (H' : Hp) (R : Addr) (t' : Nat) (ns : List Int) (ps : List (List Int)), PailAt H' p t' → t' ≤ t + 200 → But p H H' → OwnH K H' R ns ps → Q (.ref R) H'
end
end K44
set_option maxHeartbeats 4000000
namespace K44
open PySem PySem.Spec PyProof.Rows L2 RV
/-! ### sorted of a list of pairs -/
def kOf (H : Hp) : V → Int × Int
  | .ref t => match H t with
    | some (.tup [.int i, .int j]) => (i, j)
    | _ => (0, 0)
  | _ => (0, 0)
def adOf : V → Addr
  | .ref t => t
  | _ => 0
theorem LotsH.add {H : Hp} {L T : Addr} {qs : List (List Int)} {q : List Int} {vs : List V} (h : LotsH H L qs) (e : H L = some (.lst vs)) (nT : H T = none) : LotsH (upd (upd H T (.tup (q.map V.int))) L (.lst (vs ++ [.ref T]))) L (qs ++ [q]) := by
  obtain ⟨ks, h1, h2, h3⟩ := h
  have sT := same_upd (o := .tup (q.map V.int)) nT
  have ev : vs = ks.map fun p => V.ref p.1 := by rw [e] at h2; cases h2; rfl
  subst ev
  refine ⟨ks ++ [(T, q)], by rw [List.map_append, h1]; rfl, by rw [upd_same, List.map_append]; rfl, fun k hk => ?_⟩
  rcases List.mem_append.mp hk with hk | hk
  · rw [upd_ne (fun z => by have w := h3 k hk; rw [z, e] at w; cases w)]; exact sT _ _ (h3 k hk)
  · rw [List.mem_singleton.mp hk, upd_ne (ne_of_none e nT).symm]; exact upd_same
theorem sort_lots {K : PySem.W.Frag} {H : Hp} {a : Addr} {ps : List (List Int)} {Q : VK} (h : LotsH H a ps) (pr : ∀ p ∈ ps, ∃ x y : Int, p = [x, y])
    (q : ∀ (L : List (Addr × List Int)) (p : Addr), (L.map (·.2)).Perm ps → L.Pairwise (fun a b => SrtO.lexB (two b.2) (two a.2) = false) → (∀ k ∈ L, H k.1 = some (.tup (k.2.map V.int))) → H p = none → Q (.ref p) (upd H p (.lst (L.map fun p => V.ref p.1)))) : rSortedPO K [.ref a] H Q := by
  obtain ⟨ks, h1, h2, h3⟩ := h
  have two_ : ∀ k ∈ ks, kOf H (.ref k.1) = two k.2 ∧ k.2 = [(kOf H (.ref k.1)).1, (kOf H (.ref k.1)).2] := fun k hk => by
    obtain ⟨x, y, e⟩ := pr k.2 (by rw [← h1]; exact List.mem_map_of_mem hk)
    have z := h3 k hk
    rw [e] at z
    have z2 : kOf H (.ref k.1) = (x, y) := by
      show (match H k.1 with | some (.tup [.int i, .int j]) => (i, j) | _ => (0, 0)) = _
      rw [z]; rfl
    rw [z2, e]
    exact ⟨rfl, rfl⟩
  refine ⟨a, _, kOf H, rfl, lstNew h2, fun x hx => ?_, fun ys p srt stb np => ?_⟩
  · obtain ⟨k, hk, rfl⟩ := List.mem_map.mp hx
    refine ⟨k.1, rfl, ?_⟩
    have z := h3 k hk
    rw [(two_ k hk).2] at z
    exact z
  · have pm := stb.perm
    have hy : ∀ y ∈ ys, ∃ k ∈ ks, y = V.ref k.1 := fun y hy => by
      obtain ⟨k, hk, e⟩ := List.mem_map.mp (pm.mem_iff.mp hy)
      exact ⟨k, hk, e.symm⟩
    let g : V → Addr × List Int := fun v => (adOf v, [(kOf H v).1, (kOf H v).2])
    have gk : ∀ k ∈ ks, g (V.ref k.1) = k := fun k hk => by
      show (k.1, _) = k
      rw [← (two_ k hk).2]
    have e1 : (ys.map g).map (fun p => V.ref p.1) = ys := by
      rw [List.map_map]
      conv => rhs; rw [← List.map_id ys]
      refine List.map_congr_left fun y m => ?_
      obtain ⟨k, hk, rfl⟩ := hy y m
      show V.ref (g (V.ref k.1)).1 = _
      rw [gk k hk]; rfl
    have pk : (ys.map g).Perm ks := by
      have z := pm.map g
      rw [List.map_map] at z
      have e2 : ks.map (g ∘ fun p => V.ref p.1) = ks := by
        conv => rhs; rw [← List.map_id ks]
        exact List.map_congr_left fun k hk => gk k hk
      rwa [e2] at z
    have z := q (ys.map g) p (by rw [← h1]; exact pk.map _) ?_ (fun k hk => h3 k (pk.mem_iff.mp hk)) np
    · rwa [e1] at z
    · rw [List.pairwise_map]
      refine List.Pairwise.imp_of_mem ?_ srt
      intro y y' m m' l
      obtain ⟨k, hk, rfl⟩ := hy y m
      obtain ⟨k', hk', rfl⟩ := hy y' m'
      rw [gk k hk, gk k' hk', ← (two_ k hk).1, ← (two_ k' hk').1]
      exact l
end K44
set_option maxHeartbeats 4000000
namespace K44
open PySem PySem.Spec PyProof.Rows L2 RV
/-! ### [b for a, b in pairs if ..] -/
def sel (c : Int → Int → Bool) (ps : List (List Int)) : List Int := (ps.filter fun p => c (p.getD 0 0) (p.getD 1 0)).map fun p => p.getD 1 0
theorem sel_next {c : Int → Int → Bool} {ps : List (List Int)} {i : Nat} {x y : Int} (h : ps[i]? = some [x, y]) : sel c (ps.take (i + 1)) = sel c (ps.take i) ++ (if c x y = true then [y] else []) := by
  unfold sel
  rw [List.take_add_one, h]
  show List.map _ (List.filter _ (ps.take i ++ [[x, y]])) = _
  rw [List.filter_append, List.map_append]
  by_cases e : c x y = true
  · simp [e]
  · simp [e]
theorem sel_len (c : Int → Int → Bool) (ps : List (List Int)) : (sel c ps).length ≤ ps.length := by
  unfold sel
  rw [List.length_map]
  exact List.length_filter_le _ _
theorem mem_sel {c : Int → Int → Bool} {n : Int} {ps : List (List Int)} (hp : ∀ p ∈ ps, Pr n p) {j : Int} : j ∈ sel c ps ↔ ∃ x : Int, [x, j] ∈ ps ∧ c x j = true := by
  unfold sel
  rw [List.mem_map]
  constructor
  · rintro ⟨p, h1, h2⟩
    obtain ⟨h3, h4⟩ := List.mem_filter.mp h1
    obtain ⟨x, y, rfl, _⟩ := hp p h3
    have e2 : y = j := h2
    subst e2
    exact ⟨x, h3, h4⟩
  · rintro ⟨x, h, e⟩
    exact ⟨[x, j], List.mem_filter.mpr ⟨h, e⟩, rfl⟩
theorem sel_nodup {c : Int → Int → Bool} {n m : Int} {ps : List (List Int)} (hp : ∀ p ∈ ps, Pr n p) (nd : ps.Nodup) (hc : ∀ x y, c x y = true → x = m) : (sel c ps).Nodup := by
  unfold sel
  refine List.pairwise_map.mpr (List.Pairwise.imp_of_mem (fun {a b} ha hb ne e => ?_) (nd.filter _))
  obtain ⟨a1, a2⟩ := List.mem_filter.mp ha
  obtain ⟨b1, b2⟩ := List.mem_filter.mp hb
  obtain ⟨x, y, rfl, _⟩ := hp a a1
  obtain ⟨x', y', rfl, _⟩ := hp b b1
  have e1 := hc x y a2
  have e2 := hc x' y' b2
  have e3 : y = y' := e
  exact ne (by rw [e1, e2, e3])
theorem lc_pairs {K : PySem.W.Frag} {tt : TT} {te : TE} {c : Int → Int → Bool} {σ : L2.St} {H1 : Hp} {a D : Addr} {va vb : Nat} {ps : List (List Int)} {Qd : Hp → Prop} (hT : Tups K H1 a ps) (hl : ps.length ≤ 1000) (hp : ∀ p ∈ ps, ∃ x y : Int, p = [x, y]) (nD : H1 D = none) (hw : ∀ x y : Int, wipe (((wipe σ [va, vb]).set va (some (.int x))).set vb (some (.int y))) [va, vb] = wipe σ [va, vb])
    (htest : ∀ x y : Int, [x, y] ∈ ps → ∀ H', Same H1 H' → ∀ A B : Hp → Prop, (∀ H2, Same H' H2 → if c x y = true then A H2 else B H2) → tt (((wipe σ [va, vb]).set va (some (.int x))).set vb (some (.int y))) H' (fun b H3 => if b = true then A H3 else B H3))
    (hte : ∀ (x y : Int) (H' : Hp) (Q : VK), Q (.int y) H' → te (((wipe σ [va, vb]).set va (some (.int x))).set vb (some (.int y))) H' Q)
    (hd : ∀ H', Same H1 H' → H' D = some (.lst ((sel c ps).map V.int)) → Qd H') :
    ∃ W : Nat → Nat → Hp → Prop, (∃ m, W 0 m (upd H1 D (.lst []))) ∧ ∀ i m H, W i m H →
      ((Itt K a).stop i H ∧ Qd H) ∨ ((Itt K a).go i H ∧ ∃ Nx : Hp → Prop, (∀ H', Nx H' → ∃ m', m' < m ∧ W (i + 1) m' H') ∧ ∀ x H', (Itt K a).yld i H x H' → gTup K 2 (gCons (gName va) (gCons (gName vb) gNil)) x (wipe σ [va, vb]) H' fun σ2 H2 => wipe σ2 [va, vb] = wipe σ [va, vb] ∧ tt σ2 H2 fun b H3 =>
        if b = true then te σ2 H3 fun y H4 => ∃ acc, H4 D = some (.lst acc) ∧ acc.length < sizeLine ∧ Nx (upd H4 D (.lst (acc ++ [y]))) else Nx H3) := by
  obtain ⟨ks, rfl, hT, hks⟩ := hT
  refine lc_tup (K := K) (a := a) (xs := ks.map fun p => V.ref p.1) (fun i H' => Same H1 H' ∧ H' D = some (.lst ((sel c ((ks.map (·.2)).take i)).map V.int))) ⟨same_upd nD, by rw [upd_same]; rfl⟩ (fun i H' _ p => sqT_same p.1 hT) (fun i x H' hx p => ?_) fun H' p => ?_
  · obtain ⟨k, g, rfl⟩ := map_at hx
    have hk : k ∈ ks := List.mem_of_getElem? g
    have hm : k.2 ∈ ks.map (·.2) := List.mem_map_of_mem hk
    obtain ⟨x, y, e⟩ := hp k.2 hm
    rw [e] at hm
    have hkT : SqT K H' k.1 ([x, y].map V.int) := by rw [← e]; exact sqT_same p.1 (hks k hk)
    have gi : (ks.map (·.2))[i]? = some [x, y] := by rw [List.getElem?_map, g, ← e]; rfl
    have hle := sel_len c ((ks.map (·.2)).take i)
    rw [List.length_take] at hle
    refine ⟨k.1, _, rfl, hkT, rfl, _, _, rfl, _, _, rfl, rfl, hw x y, htest x y hm H' p.1 _ _ fun H2 s2 => ?_⟩
    have s12 := p.1.trans s2
    have e2 := s2 _ _ p.2
    by_cases e : c x y = true
    · rw [if_pos e]
      refine hte x y H2 _ ⟨_, e2, ?_, fun b o z => ?_, ?_⟩
      · rw [List.length_map]; exact few1 (by omega)
      · rw [upd_ne (ne_of_none z nD)]; exact s12 b o z
      · rw [upd_same, sel_next gi, if_pos e, List.map_append]; rfl
    · rw [if_neg e]
      exact ⟨s12, by rw [sel_next gi, if_neg e, List.append_nil]; exact e2⟩
  · rw [List.length_map] at p
    have e : (ks.map (·.2)).take ks.length = ks.map (·.2) := List.take_of_length_le (by rw [List.length_map]; exact Nat.le_refl _)
    rw [e] at p
    exact hd H' p.1 p.2
end K44
set_option maxHeartbeats 4000000
namespace K44
open PySem PySem.Spec PyProof.Rows L2 RV
section
variable {P : Program} {w : World} {K : PySem.W.Frag} {mg : Str → Option Value} {base : Heap}
/-! ### _law_come_to -/
def spCome (K : PySem.W.Frag) : Sp := fun vs H Q _ => ∃ (c : Addr) (m : Int) (n : Nat) (ps : List (List Int)), vs = [.ref c, .int m] ∧ TupsH H c ps ∧ n ≤ 8 ∧ ps.length ≤ 64 ∧ (∀ p ∈ ps, Pr (n : Int) p) ∧ ps.Nodup ∧
  ∀ (H' : Hp) (d : Addr) (fs : List Int), Same H H' → H d = none → H' d = some (.lst (fs.map V.int)) → fs.length ≤ 8 → fs.Nodup → (∀ j, j ∈ fs ↔ Rch ps m j) → Q (.ref d) H'
abbrev nCome : List Str := ["_law_steps", "_law_mark", "_law_met", "_law_at_here", "_law_a", "_law_b"]
end
end K44
set_option maxHeartbeats 4000000
/-! sorted(l), l a list of unlike tuples of ints of any lengths, none of them empty -/
namespace RV
open PySem PySem.Spec PyProof.Rows L2 TS
section
variable {P : Program} {w : World} {A : Around} {E : Value → Shared → Prop} {s : Shared}
theorem sorted_listA {a : Addr} {L : List (Addr × List Int)} {Q : Value → Shared → Prop} (ρ : List Int → Int) (hl : s.heap.IsList a (L.map fun q => Value.ref q.1).toArray) (tup : ∀ q ∈ L, IsT P w s.heap q.2 q.1) (nd : (L.map (·.2)).Nodup) (few64 : L.length < 64)
    (hne : ∀ p ∈ L, p.2 ≠ []) (hr : ∀ p ∈ L, ∀ q ∈ L, lexA p.2 q.2 = decide (ρ p.2 < ρ q.2))
    (hQ : ∀ (h' : Heap) (d : Addr) (out : Array Value) (c : Nat) (L' : List (Addr × List Int)), (∀ b o, s.heap.get? b = some o → h'.get? b = some o) → s.heap.objs.size ≤ d → h'.get? d = some (seqObj "list" out c) →
      out.toList = L'.map (fun q => Value.ref q.1) → L'.Perm L → L'.Pairwise (fun q r => ρ q.2 ≤ ρ r.2) → Q (.ref d) { s with heap := h' }) : wpAny (model P w) A (call (.builtin "sorted") [.ref a]) Q E s := by
  have same1 : ∀ q ∈ L, ∀ r ∈ L, q.1 = r.1 → q = r := fun q hq r hr e => by
    have z := tup q hq
    rw [e] at z
    exact Prod.ext e (z.inj (tup r hr))
  have nodL : L.Nodup := nodup_of_map nd
  have nodR : (L.map fun q => Value.ref q.1).Nodup := List.pairwise_map.mpr (List.Pairwise.imp_of_mem (fun {q r} hq hr ne e => ne (same1 q hq r hr (Value.ref.inj e))) nodL)
  have lvs : (L.map fun q => Value.ref q.1).length < 64 := by rw [List.length_map]; exact few64
  have hz : (L.map fun q => Value.ref q.1).length ≤ sizeLine := by rw [sizeLine_eq]; omega
  have from_ : ∀ v ∈ L.map (fun q => Value.ref q.1), ∃ q ∈ L, v = Value.ref q.1 := fun v hv => by
    obtain ⟨q, hq, e⟩ := List.mem_map.mp hv
    exact ⟨q, hq, e.symm⟩
  generalize ev : L.map (fun q => Value.ref q.1) = vs at hl lvs hz from_ nodR
  refine Calls.call_function_entry kind_sorted plain_sorted entry_sorted (args_sorted1 _) (show wpAny _ _ _ _ _ _ from ?_)
  unfold Builtin.«sorted»
  refine wpAny_bind (m := checkCount "sorted" 1 1 _) (wpAny_pure (wpAny_bind (collect_list hl (wpAny_bind (wpAny_newList ?_ hz)) hz)))
  have hsz : ((s.heap.push (seqObj "list" #[] 0)).update s.heap.objs.size (Obj.mapSeq (· ++ vs.toArray))).objs.size = s.heap.objs.size + 1 := (Heap.size_update ..).trans (size_push' ..)
  have hoL : (((s.heap.push (seqObj "list" #[] 0)).update s.heap.objs.size (Obj.mapSeq (· ++ vs.toArray))).push (seqObj "list" vs.toArray 0)).get? (s.heap.objs.size + 1) = some (seqObj "list" vs.toArray 0) := hsz ▸ Heap.get?_push_size _ rfl
  have keep : ∀ b o, s.heap.get? b = some o → b < s.heap.objs.size ∧ (((s.heap.push (seqObj "list" #[] 0)).update s.heap.objs.size (Obj.mapSeq (· ++ vs.toArray))).push (seqObj "list" vs.toArray 0)).get? b = some o := fun b o z => by
    have hlt := Heap.lt_size z
    refine ⟨hlt, Heap.get?_push_of_some _ ?_⟩
    exact (Heap.get?_update_ne _ _ _ _ (Nat.ne_of_lt hlt)).trans (Heap.get?_push_of_some _ z)
  show wpAny _ _ _ _ _ { s with heap := ((s.heap.push (seqObj "list" #[] 0)).update s.heap.objs.size (Obj.mapSeq (· ++ vs.toArray))).push (seqObj "list" vs.toArray 0) }
  rw [hsz]
  generalize ((s.heap.push (seqObj "list" #[] 0)).update s.heap.objs.size (Obj.mapSeq (· ++ vs.toArray))).push (seqObj "list" vs.toArray 0) = h1 at hoL keep ⊢
  have tups : ∀ q ∈ L, TupInts h1 (.ref q.1) q.2 := fun q hq => tupInts_of (P := P) (w := w) (isT_keep (tup q hq) fun b u e => (keep b u e).2)
  refine wpAny_bind (wpAny_holding (call_sort_any (s := { s with heap := h1 }) ρ hoL lvs (fun v hv => ?_) (fun u hu v hv ns ms tu tv => ?_) fun out a1 a2 => ?_))
  · obtain ⟨q, hq, rfl⟩ := from_ v hv
    exact ⟨q.2, tups q hq, hne q hq⟩
  · obtain ⟨q, hq, rfl⟩ := from_ u hu
    obtain ⟨r, hr', rfl⟩ := from_ v hv
    have e1 : ns = q.2 := tu.ints.symm.trans (tups q hq).ints
    have e2 : ms = r.2 := tv.ints.symm.trans (tups r hr').ints
    subst e1 e2
    exact hr q hq r hr'
  · obtain ⟨c, hc⟩ := sortedHeap_at (vs := vs) (out := out) hoL
    obtain ⟨L', e', hs'⟩ := refs_some L out.toList fun v hv => from_ v (a1.mem_iff.mp hv)
    have pm' : (L'.map fun q => Value.ref q.1).Perm (L.map fun q => Value.ref q.1) := by rw [← e', ev]; exact a1
    have pL : L'.Perm L := by
      refine (List.perm_ext_iff_of_nodup (nodup_of_map (pm'.nodup_iff.mpr (ev ▸ nodR))) nodL).mpr fun q => ⟨hs' q, fun hq => ?_⟩
      obtain ⟨r, hr', e⟩ := List.mem_map.mp (pm'.mem_iff.mpr (List.mem_map.mpr ⟨q, hq, rfl⟩))
      rw [← same1 r (hs' r hr') q hq (Value.ref.inj e)]; exact hr'
    have pw : L'.Pairwise (fun q r => ρ q.2 ≤ ρ r.2) := by
      rw [e'] at a2
      refine List.Pairwise.imp_of_mem (fun {q r} hq hr' z => ?_) (List.pairwise_map.mp a2)
      have z' : ρ (intsOf h1 (.ref q.1)) ≤ ρ (intsOf h1 (.ref r.1)) := z
      rwa [(tups q (hs' q hq)).ints, (tups r (hs' r hr')).ints] at z'
    refine wpAny_pure ⟨_, rfl, hQ _ (s.heap.objs.size + 1) out c L' (fun b u e => ?_) (Nat.le_succ _) hc e' pL pw⟩
    have lt := (keep b u e).1
    have lt1 := Heap.lt_size hoL
    show (sortedHeap h1 (s.heap.objs.size + 1) vs out).get? b = some u
    rw [sortedHeap_old (Nat.ne_of_lt (Nat.lt_succ_of_lt lt)) (Nat.lt_trans (Nat.lt_succ_of_lt lt) lt1)]
    exact (keep b u e).2
end
section
variable {X : Cx}
def rSortL (K : PySem.W.Frag) : List V → Hp → VK → Prop := fun vs H Q => ∃ (a : Addr) (L : List (Addr × List Int)) (ρ : List Int → Int), vs = [V.ref a] ∧ SqL K H a (L.map fun q => V.ref q.1) ∧ (∀ p ∈ L, SqT K H p.1 (p.2.map V.int)) ∧ (L.map (·.2)).Nodup ∧ L.length < 64 ∧
  (∀ p ∈ L, p.2 ≠ []) ∧ (∀ p ∈ L, ∀ q ∈ L, lexA p.2 q.2 = decide (ρ p.2 < ρ q.2)) ∧
  ∀ (L' : List (Addr × List Int)) (p : Addr), L'.Perm L → L'.Pairwise (fun q r => ρ q.2 ≤ ρ r.2) → H p = none → Q (.ref p) (upd H p (.lst (L'.map fun q => V.ref q.1)))
theorem cr_sortedL : CallR X (.builtin "sorted") (rSortL X.K) := by
  intro pins s σ H vs us Q I r h
  obtain ⟨a, L, ρ, rfl, hs, hk, nd, few, hne, hr, q⟩ := h
  obtain ⟨its, rv, hl, hz⟩ := I.list hs
  rw [Vals.ref1 r]
  have ei : its = L.map fun q => Value.ref q.1 := by
    clear hs hk nd few hne hr q hl hz
    induction L generalizing its with
    | nil => cases rv; rfl
    | cons k L ih =>
      cases rv with
      | cons r1 r2 =>
        cases r1
        rw [List.map_cons, ih _ r2]
  subst ei
  refine sorted_listA ρ hl.isList (fun p hp => I.isT (hk p hp)) nd few hne hr fun h' d out c L' kp hd hg hout pm pw => ?_
  have len : (L'.map fun q => V.ref q.1).length ≤ sizeLine := by rw [List.length_map, sizeLine_eq, pm.length_eq]; omega
  have vals : Vals (L'.map fun q => V.ref q.1) out.toList := by rw [hout]; exact vals_of_refs L'
  exact ⟨.ref d, upd H d (.lst (L'.map fun q => V.ref q.1)), I.laid (t' := s.toks) kp hd ⟨len, out.toList, c, vals, by simpa using hg⟩, rfl, q L' d pm pw (I.hok.fresh hd)⟩
end
end RV
set_option maxHeartbeats 4000000
namespace K44
open PySem PySem.Spec PyProof.Rows L2 RV
/-- what the first i marks come to -/
def Rches (H : Hp) (D : Addr) (ps : List (List Int)) (ws : List (Addr × List Int)) : Prop := H D = some (.lst (ws.map fun p => V.ref p.1)) ∧ ∀ (k : Nat) (x : Addr × List Int), ws[k]? = some x → H x.1 = some (.lst (x.2.map V.int)) ∧ x.1 ≠ D ∧ x.2.length ≤ 8 ∧ x.2.Nodup ∧ ∀ j, j ∈ x.2 ↔ Rch ps (k : Int) j
theorem Rches.same {H H' : Hp} {D : Addr} {ps : List (List Int)} {ws : List (Addr × List Int)} (h : Rches H D ps ws) (s : Same H H') : Rches H' D ps ws :=
  ⟨s _ _ h.1, fun k x g => let ⟨a, b⟩ := h.2 k x g; ⟨s _ _ a, b⟩⟩
theorem eq_of_rise {xs ys : List Int} (h : xs.Perm ys) (h1 : xs.Pairwise (· ≤ ·)) (h2 : ys.Pairwise (· ≤ ·)) : xs = ys := List.Perm.eq_of_pairwise (le := (· ≤ ·)) (fun a b _ _ x y => Int.le_antisymm x y) h1 h2 h
/-- what sorted tells of the marks that are come to and come back -/
theorem some_lot {ps : List (List Int)} {n : Nat} {m : Int} {fs zs : List Int} (hp : ∀ p ∈ ps, Pr (n : Int) p) (nd : fs.Nodup) (hf : ∀ j, j ∈ fs ↔ Rch ps m j) (pm : zs.Perm (fs.filter fun j => rB ps j m)) (pw : zs.Pairwise (· ≤ ·)) : zs = lotOf ps n m := by
  have nd2 : (lotOf ps n m).Nodup := (lot_rise ps n m).imp fun h => by omega
  refine eq_of_rise (pm.trans ((List.perm_ext_iff_of_nodup (nd.filter _) nd2).mpr fun x => ?_)) pw ((lot_rise ps n m).imp fun h => Int.le_of_lt h)
  rw [List.mem_filter, mem_lot, hf, rB_iff]
  exact ⟨fun h => ⟨(Rch.bound hp h.1).2, h⟩, fun h => h.2⟩
theorem head_iff {ps : List (List Int)} {n i : Nat} (hi : i < n) : isHead ps n (i : Int) = (decide ((i : Int) ∈ lotOf ps n (i : Int)) && decide (lotOf ps n (i : Int) ∉ partsTo ps n i)) := by
  rw [Bool.eq_iff_iff, Bool.and_eq_true, decide_eq_true_iff, decide_eq_true_iff]
  unfold isHead
  rw [decide_eq_true_iff]
  have memT : ∀ p, p ∈ partsTo ps n i ↔ ∃ m : Int, (0 ≤ m ∧ m < (i : Int)) ∧ (lotOf ps n m).head? = some m ∧ p = lotOf ps n m := fun p => by
    unfold partsTo isHead
    rw [List.mem_map]
    constructor
    · rintro ⟨m, hm, rfl⟩
      obtain ⟨h1, h2⟩ := List.mem_filter.mp hm
      obtain ⟨k, hk, e⟩ := List.getElem_of_mem h1
      rw [List.length_take, upN_len] at hk
      have e2 : ((upN n).take i)[k]? = some m := by rw [List.getElem?_eq_getElem (by rw [List.length_take, upN_len]; exact hk), e]
      rw [List.getElem?_take, if_pos (by omega), upN_get (by omega)] at e2
      have e3 : (k : Int) = m := Option.some.inj e2
      exact ⟨m, by omega, of_decide_eq_true h2, rfl⟩
    · rintro ⟨m, h1, h2, rfl⟩
      refine ⟨m, List.mem_filter.mpr ⟨?_, decide_eq_true h2⟩, rfl⟩
      refine List.mem_of_getElem? (i := m.toNat) ?_
      rw [List.getElem?_take, if_pos (by omega), upN_get (by omega), Int.toNat_of_nonneg h1.1]
  constructor
  · intro h
    refine ⟨List.mem_of_mem_head? (by rw [h]; rfl), fun z => ?_⟩
    obtain ⟨m, h1, h2, h3⟩ := (memT _).mp z
    rw [← h3, h] at h2
    have := Option.some.inj h2
    omega
  · rintro ⟨h1, h2⟩
    cases e : lotOf ps n (i : Int) with
    | nil => rw [e] at h1; cases h1
    | cons x r =>
      by_cases ex : x = (i : Int)
      · rw [ex]; rfl
      · exfalso
        have hx : x ∈ lotOf ps n (i : Int) := by rw [e]; exact List.mem_cons_self ..
        have exl := lot_eq hx
        have hlt : x < (i : Int) := by
          have rise := lot_rise ps n (i : Int)
          rw [e] at rise h1
          rcases List.mem_cons.mp h1 with z | z
          · exact absurd z.symm ex
          · exact (List.pairwise_cons.mp rise).1 _ z
        refine h2 ((memT _).mpr ⟨x, ⟨(mem_lot.mp hx).1.1, hlt⟩, by rw [exl, e]; rfl, exl.symm⟩)
theorem lexA_hd {ps : List (List Int)} {n : Nat} {p q : List Int} (hp : p ∈ partsOf ps n) (hq : q ∈ partsOf ps n) : lexA p q = decide (hd0 p < hd0 q) := by
  have irr : ∀ xs : List Int, lexA xs xs = false := fun xs => by
    induction xs with
    | nil => rfl
    | cons x xs ih =>
      show (if x = x then lexA xs xs else decide (x < x)) = false
      rw [if_pos rfl]; exact ih
  by_cases e : hd0 p = hd0 q
  · have := part_hd hp hq e
    subst this
    rw [irr, decide_eq_false (Int.lt_irrefl _)]
  · have np := part_ne hp
    have nq := part_ne hq
    cases p with
    | nil => exact absurd rfl np
    | cons x xs =>
      cases q with
      | nil => exact absurd rfl nq
      | cons y ys =>
        have e : x ≠ y := e
        show (if x = y then lexA xs ys else decide (x < y)) = decide (x < y)
        rw [if_neg e]
theorem parts_sorted {ps : List (List Int)} {n : Nat} {ls : List (List Int)} (pm : ls.Perm (partsOf ps n)) (pw : ls.Pairwise fun p q => hd0 p ≤ hd0 q) : ls = partsOf ps n :=
  List.Perm.eq_of_pairwise (le := fun p q => hd0 p ≤ hd0 q) (fun a b ha hb h1 h2 => part_hd (pm.mem_iff.mp ha) hb (Int.le_antisymm h1 h2)) pw ((parts_rise ps n).imp fun h => Int.le_of_lt h) pm
theorem any_lots (p : List Int) (ls : List (List Int)) : (ls.map RV.dI).any (fun y => PyData.eqv y (RV.dI p)) = decide (p ∈ ls) := any_dI p ls
theorem shapedLs (ls : List (List Int)) : SeqAt.shaped (.list (ls.map RV.dI)) = true := by
  have h1 := dep_dI ls
  have e : (PyData.list (ls.map RV.dI)).depth ≤ 64 := by simp only [PyData.depth]; omega
  show ((PyData.list (ls.map RV.dI)).canLay0 && decide ((PyData.list (ls.map RV.dI)).depth ≤ 64)) = true
  rw [decide_eq_true e, Bool.and_true]
  simp only [PyData.canLay0]
  exact lay_dI ls
theorem LotsH.dp {K : PySem.W.Frag} {H : Hp} {a : Addr} {ls : List (List Int)} (h : LotsH H a ls) : Dp K H (.ref a) (.list (ls.map RV.dI)) := by
  obtain ⟨ks, rfl, h2, h3⟩ := h
  exact .lst (lstNew h2) (dpTs ks fun p hp => tupNew (h3 p hp))
section
variable {P : Program} {w : World} {K : PySem.W.Frag} {mg : Str → Option Value} {base : Heap}
/-! ### _law_parts -/
abbrev nLParts : List Str := ["_law_own", "_law_mirrors", "_law_steps", "_law_reach", "_law_found", "_law_mark", "_law_some", "_law_other"]
def spLParts (K : PySem.W.Frag) : Sp := fun vs H Q _ => ∃ (R : Addr) (ns : List Int) (ps : List (List Int)), vs = [.ref R] ∧ OwnH K H R ns ps ∧ ∀ (H' : Hp) (l : Addr), Same H H' → H l = none → LotsH H' l (partsOf ps ns.length) → Q (.ref l) H'
end
end K44
set_option maxHeartbeats 4000000
namespace RV
open PySem PySem.Spec PyProof.Rows L2
section
variable {X : Cx} {K : PySem.W.Frag}
/-- t + u of any two tuples, wherever the sum stands -/
def rCatW (K : PySem.W.Frag) : R2 := fun x y H Q => ∃ a b xs ys, x = .ref a ∧ y = .ref b ∧ SqT K H a xs ∧ SqT K H b ys ∧ xs.length + ys.length ≤ sizeLine ∧ ∀ (p : Addr) (H' : Hp), Same H H' → SqT K H' p (xs ++ ys) → Q (.ref p) H'
theorem op_catW : OpR X (binaryOp .Add) (rCatW X.K) := by
  intro pins s σ H x y v u Q I rx ry h
  obtain ⟨a, b, xs, ys, e1, e2, h1, h2, hl, q⟩ := h
  refine op_catA pins s σ H x y v u Q I rx ry ⟨a, b, xs, ys, e1, e2, h1, h2, hl, fun z => ?_, fun _ z => ?_, fun _ _ p np => ?_⟩
  · exact q b H (fun _ _ e => e) (by rw [z]; exact h2)
  · exact q a H (fun _ _ e => e) (by rw [z, List.append_nil]; exact h1)
  · exact q p _ (same_upd np) (tupNew upd_same)
theorem op_catWK (h : X.K = K) : OpR X (binaryOp .Add) (rCatW K) := h ▸ op_catW
/-- t[lo:hi], wherever the slice stands -/
def rSlW (K : PySem.W.Frag) : V → Option Int → Option Int → Hp → VK → Prop := fun x lo hi H Q => ∃ a xs, x = .ref a ∧ SqT K H a xs ∧ ∀ (p : Addr) (H' : Hp), Same H H' → SqT K H' p (cutV xs lo hi) → Q (.ref p) H'
theorem sl_tupW : SlR X (rSlW X.K) := by
  intro pins s σ H x v vl vu lo hi sl Q I rx hs pl pu h
  obtain ⟨a, xs, e, h1, q⟩ := h
  refine sl_tupA pins s σ H x v vl vu lo hi sl Q I rx hs pl pu ⟨a, xs, e, h1, fun z => ?_, fun _ p np => ?_⟩
  · refine q a H (fun _ _ e => e) ?_
    unfold cutV
    rw [z.1, z.2, List.drop_zero, Nat.sub_zero, List.take_of_length_le (Nat.le_refl _)]
    exact h1
  · exact q p _ (same_upd np) (tupNew upd_same)
theorem sl_tupWK (h : X.K = K) : SlR X (rSlW K) := h ▸ sl_tupW
theorem cut_from (xs : List V) (k : Nat) : cutV xs (some (k : Int)) none = xs.drop k := by
  unfold cutV
  rw [HT.sIx_nat, HT.sIx_none]
  rcases Nat.le_total k xs.length with h | h
  · rw [Nat.min_eq_left h, List.take_of_length_le (by rw [List.length_drop]; exact Nat.le_refl _)]
  · rw [Nat.min_eq_right h, Nat.sub_self, List.take_zero, List.drop_eq_nil_of_le h]
theorem cut_to (xs : List V) (k : Nat) : cutV xs none (some (k : Int)) = xs.take k := by
  unfold cutV
  rw [HT.sIx_nat, HT.sIx_none, List.drop_zero, Nat.sub_zero]
  rcases Nat.le_total k xs.length with h | h
  · rw [Nat.min_eq_left h]
  · rw [Nat.min_eq_right h, List.take_of_length_le (Nat.le_refl _), List.take_of_length_le h]
theorem tuple_mul1 (l : Addr) (items : Array Value) (n : Nat) (dd : Option Addr) (sl : Array (Option Value)) (x : Int) (u : Tok) (c0 : (decide (x < -(2 ^ 63)) || decide (x ≥ 2 ^ 63)) = false) (c1 : (items.isEmpty || x == 1) = true) :
    Meets (Builtin.«tuple.__mul__» ⟨[.ref l, .int x u], []⟩) (fun _ R s => s.heap.get? l = some { cls := .type "tuple", dict := dd, data := .seq items n, slots := sl } ∧ R (.ok (.ret (Value.ref l))) s) :=
  .of_wp fun prog w A R s h => by
    obtain ⟨hp, g, d, tk, os⟩ := s
    obtain ⟨hl, h⟩ := h
    have f1 := AutoSeq1.idx_int
    wp_walk using wpAny_loadPart' hl
    repeat (first
      | (refine wpAny_ite_false (decide_eq_false (by rw [c0]; exact Bool.false_ne_true)) ?_; wp_walk using wpAny_loadPart' hl)
      | (refine wpAny_ite_true (decide_eq_true (by rw [c1])) ?_; wp_walk using wpAny_loadPart' hl))
    exact ⟨_, rfl, h⟩
theorem tuple_mul0 (l : Addr) (items : Array Value) (n : Nat) (dd : Option Addr) (sl : Array (Option Value)) (x : Int) (u : Tok) (c0 : (decide (x < -(2 ^ 63)) || decide (x ≥ 2 ^ 63)) = false) (c1 : (items.isEmpty || x == 1) = false) (c2 : (decide (x ≤ 0) || items.isEmpty) = true) :
    Meets (Builtin.«tuple.__mul__» ⟨[.ref l, .int x u], []⟩) (fun _ R s => s.heap.get? l = some { cls := .type "tuple", dict := dd, data := .seq items n, slots := sl } ∧ R (.ok (.ret (Value.ref s.heap.objs.size))) { s with heap := s.heap.push { cls := Value.type "tuple", data := Data.seq #[] }, toks := s.toks }) :=
  .of_wp fun prog w A R s h => by
    obtain ⟨hp, g, d, tk, os⟩ := s
    obtain ⟨hl, h⟩ := h
    have f1 := AutoSeq1.idx_int
    wp_walk using wpAny_loadPart' hl
    repeat (first
      | (refine wpAny_ite_false (decide_eq_false (by rw [c0]; exact Bool.false_ne_true)) ?_; wp_walk using wpAny_loadPart' hl)
      | (refine wpAny_ite_false (decide_eq_false (by rw [c1]; exact Bool.false_ne_true)) ?_; wp_walk using wpAny_loadPart' hl)
      | (refine wpAny_ite_true (decide_eq_true (by rw [c2])) ?_; wp_walk using wpAny_loadPart' hl))
    exact ⟨_, rfl, h⟩
/-- t * k, k from 0 on -/
def rRepW (K : PySem.W.Frag) : R2 := fun x y H Q => ∃ l k xs, x = .ref l ∧ y = .int k ∧ SqT K H l xs ∧ 0 ≤ k ∧ k ≤ 1000 ∧ xs.length ≤ 1000 ∧ ∀ (p : Addr) (H' : Hp), Same H H' → SqT K H' p (List.replicate k.toNat xs).flatten → Q (.ref p) H'
theorem flat_nil : ∀ m : Nat, (List.replicate m ([] : List V)).flatten = []
  | 0 => rfl
  | m + 1 => by rw [List.replicate_succ, List.flatten_cons, flat_nil m]; rfl
theorem op_repW : OpR X (binaryOp .Mult) (rRepW X.K) := by
  intro pins s σ H x y v u Q I rx ry h
  obtain ⟨l, k, xs, rfl, rfl, hT, h0, h1, hz, q⟩ := h
  by_cases hbig : xs ≠ [] ∧ 2 ≤ k
  · exact op_repT pins s σ H _ _ v u Q I rx ry ⟨l, k, xs, rfl, rfl, hT, hbig.1, hbig.2, h1, hz, fun p np => q p _ (same_upd np) (tupNew upd_same)⟩
  cases rx
  obtain ⟨t, rfl⟩ := ry
  obtain ⟨its, r, ⟨⟨cls, dd, data, sl⟩, ho, hc, n, hd⟩, hs⟩ := I.tuple hT
  simp only at hc hd
  subst hc hd
  have hle : its.length = xs.length := r.length.symm
  have c0 : (decide (k < -(2 ^ 63)) || decide (k ≥ 2 ^ 63)) = false := by
    rw [decide_eq_false (by omega), decide_eq_false (by omega)] <;> rfl
  by_cases e1 : xs = [] ∨ k = 1
  · have c1 : (its.toArray.isEmpty || k == 1) = true := by
      rcases e1 with e | e
      · have : its = [] := List.eq_nil_of_length_eq_zero (by rw [hle, e]; rfl)
        rw [this]; rfl
      · rw [e]; simp
    refine wpAny_binaryOp_repeat_ref (T := "tuple") (U := "int") (by decide) ⟨_, ho, rfl⟩ (fun s' => typeIs_int s' k t) noFill_tuple_mul F.fills_int_mul F.slot_int_rmul repeat_tuple F.slot_int_index.lookup
      (call_meets F.slot_int_rmul (typeIs_int s k t) F.entry_int_rmul (F.args_int_rmul_2 _ _) (int_rmul_tuple k t l its.toArray n dd sl)
        ⟨ho, rfl, ⟨_, ho, rfl⟩, call_meets F.slot_tuple_mul ⟨_, ho, rfl⟩ F.entry_tuple_mul (F.args_tuple_mul_2 _ _) (tuple_mul1 l its.toArray n dd sl k t c0 c1) ⟨ho, ?_⟩⟩)
    refine ⟨.ref l, H, I, rfl, q l H (fun _ _ e => e) ?_⟩
    rcases e1 with e | e
    · subst e; rw [flat_nil]; exact hT
    · subst e
      show SqT X.K H l ([xs].flatten)
      rw [List.flatten_cons, List.flatten_nil, List.append_nil]; exact hT
  · have e2 : xs ≠ [] := fun e => e1 (.inl e)
    have e3 : k = 0 := by
      rcases Int.lt_or_le k 2 with z | z
      · have : k ≠ 1 := fun e => e1 (.inr e)
        omega
      · exact absurd ⟨e2, z⟩ hbig
    have hi : its.toArray.isEmpty = false := by
      cases its with
      | nil => exact absurd (List.eq_nil_of_length_eq_zero hle.symm) e2
      | cons a b => rfl
    have c1 : (its.toArray.isEmpty || k == 1) = false := by
      rw [hi, e3]; rfl
    have c2 : (decide (k ≤ 0) || its.toArray.isEmpty) = true := by
      rw [e3]; rfl
    refine wpAny_binaryOp_repeat_ref (T := "tuple") (U := "int") (by decide) ⟨_, ho, rfl⟩ (fun s' => typeIs_int s' k t) noFill_tuple_mul F.fills_int_mul F.slot_int_rmul repeat_tuple F.slot_int_index.lookup
      (call_meets F.slot_int_rmul (typeIs_int s k t) F.entry_int_rmul (F.args_int_rmul_2 _ _) (int_rmul_tuple k t l its.toArray n dd sl)
        ⟨ho, rfl, ⟨_, ho, rfl⟩, call_meets F.slot_tuple_mul ⟨_, ho, rfl⟩ F.entry_tuple_mul (F.args_tuple_mul_2 _ _) (tuple_mul0 l its.toArray n dd sl k t c0 c1 c2) ⟨ho, ?_⟩⟩)
    refine ⟨.ref s.heap.objs.size, _, I.laid (t' := s.toks) (o := .tup []) (fun b ob q => Heap.get?_push_of_some _ q) (Nat.le_refl _) ?_, rfl, q _ _ (same_upd (I.hok.fresh (Nat.le_refl _))) (by rw [e3]; exact tupNew upd_same)⟩
    exact ⟨Nat.zero_le _, [], .nil, IsTup.new _ _⟩
theorem op_eqI1K (h : X.K = K) (hu : X.A.units + 64 < cLine) : OpR X (compareOp .Eq) (rEqI1 K) := h ▸ op_eqI1 hu
theorem op_repWK (h : X.K = K) : OpR X (binaryOp .Mult) (rRepW K) := h ▸ op_repW
end
/-- [h(x) for x in t], t a tuple of ints -/
theorem lc_mapT {K : PySem.W.Frag} {te : TE} {h : Int → Int} {σ : L2.St} {H1 : Hp} {a D : Addr} {v : Nat} {ns : List Int} {Qd : Hp → Prop} (hT : SqT K H1 a (ns.map V.int)) (hl : ns.length ≤ 1000) (nD : H1 D = none)
    (hte : ∀ x ∈ ns, ∀ (H' : Hp) (Q : VK), Same H1 H' → (∀ H2, Same H' H2 → Q (.int (h x)) H2) → te ((wipe σ [v]).set v (some (.int x))) H' Q)
    (hd : ∀ H', Same H1 H' → H' D = some (.lst ((ns.map h).map V.int)) → Qd H') :
    ∃ W : Nat → Nat → Hp → Prop, (∃ m, W 0 m (upd H1 D (.lst []))) ∧ ∀ i m H, W i m H →
      ((Itt K a).stop i H ∧ Qd H) ∨ ((Itt K a).go i H ∧ ∃ Nx : Hp → Prop, (∀ H', Nx H' → ∃ m', m' < m ∧ W (i + 1) m' H') ∧ ∀ x H', (Itt K a).yld i H x H' → gName v x (wipe σ [v]) H' fun σ2 H2 => wipe σ2 [v] = wipe σ [v] ∧ tYes σ2 H2 fun b H3 =>
        if b = true then te σ2 H3 fun y H4 => ∃ acc, H4 D = some (.lst acc) ∧ acc.length < sizeLine ∧ Nx (upd H4 D (.lst (acc ++ [y]))) else Nx H3) := by
  refine lc_tup (K := K) (a := a) (xs := ns.map V.int) (fun i H' => Same H1 H' ∧ H' D = some (.lst (((ns.take i).map h).map V.int))) ⟨same_upd nD, upd_same⟩ (fun i H' _ p => sqT_same p.1 hT) (fun i x H' hx p => ?_) fun H' p => ?_
  · obtain ⟨k, g, rfl⟩ := map_at hx
    refine ⟨by simp [wipe, List.set_set], tt_yes (hte k (List.mem_of_getElem? g) H' _ p.1 fun H2 s2 => ⟨_, s2 _ _ p.2, ?_, fun b o z => ?_, ?_⟩)⟩
    · rw [List.length_map, List.length_map, List.length_take]; exact few1 (by omega)
    · rw [upd_ne (ne_of_none z nD)]; exact s2 _ _ (p.1 b o z)
    · rw [upd_same, List.take_add_one, g, List.map_append, List.map_append]; rfl
  · rw [List.length_map, List.take_of_length_le (Nat.le_refl _)] at p
    exact hd H' p.1 p.2
end RV
set_option maxHeartbeats 4000000
/-! how many walks there are -/
namespace RV
/-- the sum of f over l -/
def sm {α : Type} (l : List α) (f : α → Int) : Int := (l.map f).sum
section
variable {α β : Type}
theorem sm_nil (f : α → Int) : sm [] f = 0 := rfl
theorem sm_cons (a : α) (l : List α) (f : α → Int) : sm (a :: l) f = f a + sm l f := by unfold sm; rw [List.map_cons, List.sum_cons]
theorem sm_app (l r : List α) (f : α → Int) : sm (l ++ r) f = sm l f + sm r f := by unfold sm; rw [List.map_append, List.sum_append]
theorem sm_congr {l : List α} {f g : α → Int} (h : ∀ a ∈ l, f a = g a) : sm l f = sm l g := by unfold sm; rw [List.map_congr_left h]
theorem sm_zero {l : List α} {f : α → Int} (h : ∀ a ∈ l, f a = 0) : sm l f = 0 := by
  induction l with
  | nil => rfl
  | cons a l ih => rw [sm_cons, h a (List.mem_cons_self ..), ih fun b hb => h b (List.mem_cons_of_mem _ hb)]; rfl
theorem sm_add (l : List α) (f g : α → Int) : sm l (fun a => f a + g a) = sm l f + sm l g := by
  induction l with
  | nil => rfl
  | cons a l ih => rw [sm_cons, sm_cons, sm_cons, ih]; omega
theorem sm_mul (l : List α) (f : α → Int) (c : Int) : sm l (fun a => c * f a) = c * sm l f := by
  induction l with
  | nil => rw [sm_nil, sm_nil, Int.mul_zero]
  | cons a l ih => rw [sm_cons, sm_cons, ih, Int.mul_add]
theorem sm_comm (l : List α) (r : List β) (F : α → β → Int) : sm l (fun a => sm r (F a)) = sm r (fun b => sm l fun a => F a b) := by
  induction l with
  | nil => exact (sm_zero fun b _ => rfl).symm
  | cons a l ih =>
    rw [sm_cons, ih, ← sm_add]
    exact sm_congr fun b _ => (sm_cons a l fun a => F a b).symm
theorem sm_map {γ : Type} (l : List γ) (g : γ → α) (f : α → Int) : sm (l.map g) f = sm l (fun c => f (g c)) := by unfold sm; rw [List.map_map]; rfl
theorem sm_filter (l : List α) (c : α → Bool) (f : α → Int) : sm (l.filter c) f = sm l fun a => if c a = true then f a else 0 := by
  induction l with
  | nil => rfl
  | cons a l ih =>
    rw [List.filter_cons, sm_cons]
    by_cases e : c a = true
    · rw [if_pos e, if_pos e, sm_cons, ih]
    · rw [if_neg e, if_neg e, ih, Int.zero_add]
theorem sm_flat (l : List (List α)) (f : α → Int) : sm l.flatten f = sm l fun r => sm r f := by
  induction l with
  | nil => rfl
  | cons a l ih => rw [List.flatten_cons, sm_app, sm_cons, ih]
theorem sm_len (l : List α) : sm l (fun _ => 1) = (l.length : Int) := by
  induction l with
  | nil => rfl
  | cons a l ih => rw [sm_cons, ih, List.length_cons]; omega
theorem sm_at [DecidableEq α] {l : List α} (nd : l.Nodup) {a : α} (ha : a ∈ l) (f : α → Int) : sm l (fun b => if b = a then f b else 0) = f a := by
  induction l with
  | nil => cases ha
  | cons b l ih =>
    rw [sm_cons]
    have nd' := List.nodup_cons.mp nd
    by_cases e : b = a
    · rw [if_pos e, sm_zero fun c hc => if_neg fun z => nd'.1 (by rw [e, ← z]; exact hc), e, Int.add_zero]
    · rw [if_neg e, ih nd'.2 ((List.mem_cons.mp ha).resolve_left fun z => e z.symm), Int.zero_add]
theorem sm_out [DecidableEq α] {l : List α} {a : α} (ha : a ∉ l) (f : α → Int) : sm l (fun b => if b = a then f b else 0) = 0 := sm_zero fun b hb => if_neg fun z => ha (by rw [← z]; exact hb)
/-- the sum over xs is that over l where f is nought elsewhere -/
theorem sm_part [DecidableEq α] {l : List α} (ndl : l.Nodup) (f : α → Int) : ∀ {xs : List α}, xs.Nodup → (∀ x ∈ xs, x ∉ l → f x = 0) → sm xs f = sm l fun y => if y ∈ xs then f y else 0
  | [], _, _ => by rw [sm_nil, sm_zero fun y _ => if_neg (by simp)]
  | x :: xs, nd, h => by
    have nd' := List.nodup_cons.mp nd
    rw [sm_cons, sm_part ndl f nd'.2 fun y hy => h y (List.mem_cons_of_mem _ hy)]
    have e1 : sm l (fun y => if y ∈ x :: xs then f y else 0) = sm l (fun y => (if y = x then f y else 0) + (if y ∈ xs then f y else 0)) := sm_congr fun y _ => by
      by_cases e : y = x
      · subst e
        rw [if_pos (List.mem_cons_self ..), if_pos rfl, if_neg nd'.1, Int.add_zero]
      · rw [if_neg e, Int.zero_add]
        by_cases e2 : y ∈ xs
        · rw [if_pos e2, if_pos (List.mem_cons_of_mem _ e2)]
        · rw [if_neg e2, if_neg fun z => (List.mem_cons.mp z).elim e e2]
    rw [e1, sm_add]
    by_cases hx : x ∈ l
    · rw [sm_at ndl hx]
    · rw [sm_out hx, h x (List.mem_cons_self ..) hx]
end
/-- one step on: what comes to j -/
def stp (ps : List (List Int)) (f : Int → Int) (j : Int) : Int := sm (ps.filter fun p => decide (p.getD 1 0 = j)) fun p => f (p.getD 0 0)
theorem stp_next {ps : List (List Int)} {f : Int → Int} {i : Nat} {x y : Int} (h : ps[i]? = some [x, y]) (j : Int) : stp (ps.take (i + 1)) f j = stp (ps.take i) f j + (if y = j then f x else 0) := by
  unfold stp
  rw [List.take_add_one, h]
  show sm ((ps.take i ++ [[x, y]]).filter _) _ = _
  rw [List.filter_append, sm_app]
  congr 1
  by_cases e : y = j
  · rw [if_pos e, List.filter_cons, if_pos (by exact decide_eq_true e)]
    exact Int.add_zero _
  · rw [if_neg e, List.filter_cons, if_neg (by show ¬ decide (y = j) = true; rw [decide_eq_false e]; decide)]
    rfl
/-- all walks of n steps from m to j -/
def cw (ps : List (List Int)) : Nat → Int → Int → Int
  | 0, m, j => if j = m then 1 else 0
  | n + 1, m, j => stp ps (cw ps n m) j
/-- those that keep to p -/
def lw (ps : List (List Int)) (p : List Int) : Nat → Int → Int → Int
  | 0, m, j => if j = m then 1 else 0
  | n + 1, m, j => if j ∈ p then stp ps (lw ps p n m) j else 0
theorem stp_mem {ps : List (List Int)} {b : Int} (hP : ∀ q ∈ ps, Pr b q) {j : Int} {q : List Int} (h : q ∈ ps.filter fun p => decide (p.getD 1 0 = j)) : [q.getD 0 0, j] ∈ ps := by
  obtain ⟨h1, h2⟩ := List.mem_filter.mp h
  obtain ⟨x, y, rfl, _⟩ := hP q h1
  have e : y = j := of_decide_eq_true h2
  rw [← e]; exact h1
theorem cw_rch {ps : List (List Int)} {b : Int} (hP : ∀ q ∈ ps, Pr b q) {m : Int} : ∀ {n : Nat} {j : Int}, cw ps n m j ≠ 0 → j = m ∨ Rch ps m j
  | 0, j, h => by
    by_cases e : j = m
    · exact .inl e
    · exact absurd (if_neg e) h
  | n + 1, j, h => by
    refine Classical.byContradiction fun no => h ?_
    show stp ps (cw ps n m) j = 0
    refine sm_zero fun q hq => Classical.byContradiction fun z => no (.inr ?_)
    have e := stp_mem hP hq
    rcases cw_rch hP z with e2 | e2
    · rw [← e2]; exact .one e
    · exact .more e2 e
/-- a walk from a mark of a lot back into it never leaves it -/
theorem lw_cw {ps : List (List Int)} {N : Nat} (hP : ∀ q ∈ ps, Pr (N : Int) q) {m : Int} (hm : m ∈ lotOf ps N m) : ∀ (n : Nat), (∀ j, j ∈ lotOf ps N m → lw ps (lotOf ps N m) n m j = cw ps n m j) ∧ (∀ j, j ∉ lotOf ps N m → lw ps (lotOf ps N m) n m j = 0)
  | 0 => ⟨fun j _ => rfl, fun j h => if_neg fun e => h (by rw [e]; exact hm)⟩
  | n + 1 => by
    obtain ⟨h1, h2⟩ := lw_cw hP hm n
    refine ⟨fun j hj => ?_, fun j hj => if_neg hj⟩
    show (if j ∈ lotOf ps N m then stp ps (lw ps (lotOf ps N m) n m) j else 0) = stp ps (cw ps n m) j
    rw [if_pos hj]
    refine sm_congr fun q hq => ?_
    have e := stp_mem hP hq
    by_cases c : q.getD 0 0 ∈ lotOf ps N m
    · exact h1 _ c
    · rw [h2 _ c]
      refine Classical.byContradiction fun z => c ?_
      have r := cw_rch hP (fun y => z y.symm)
      obtain ⟨_, j1, j2⟩ := mem_lot.mp hj
      have back : Rch ps (q.getD 0 0) m := (Rch.one e).trans j2
      rcases r with r | r
      · rw [r]; exact hm
      · exact mem_lot.mpr ⟨(Rch.bound hP (.one e)).1, r, back⟩
/-- one step on within p, by the marks of p -/
theorem stp_part {ps : List (List Int)} {b : Int} (hP : ∀ q ∈ ps, Pr b q) (nd : ps.Nodup) {p : List Int} (ndp : p.Nodup) {f : Int → Int} (hf : ∀ a, a ∉ p → f a = 0) (j : Int) : stp ps f j = sm p fun a => if [a, j] ∈ ps then f a else 0 := by
  unfold stp
  have e1 : sm (ps.filter fun p => decide (p.getD 1 0 = j)) (fun q => f (q.getD 0 0)) = sm ((ps.filter fun p => decide (p.getD 1 0 = j)).map fun q => q.getD 0 0) f := (sm_map _ _ _).symm
  rw [e1]
  have ndx : ((ps.filter fun p => decide (p.getD 1 0 = j)).map fun q => q.getD 0 0).Nodup := by
    refine List.pairwise_map.mpr (List.Pairwise.imp_of_mem (fun {x y} hx hy ne e => ne ?_) (nd.filter _))
    obtain ⟨x1, x2⟩ := List.mem_filter.mp hx
    obtain ⟨y1, y2⟩ := List.mem_filter.mp hy
    obtain ⟨a, b', rfl, _⟩ := hP x x1
    obtain ⟨c, d, rfl, _⟩ := hP y y1
    have e1 : b' = j := of_decide_eq_true x2
    have e2 : d = j := of_decide_eq_true y2
    have e3 : a = c := e
    rw [e1, e2, e3]
  rw [sm_part ndp f ndx fun x _ hx => hf x hx]
  refine sm_congr fun a _ => ?_
  have iff : a ∈ ((ps.filter fun p => decide (p.getD 1 0 = j)).map fun q => q.getD 0 0) ↔ [a, j] ∈ ps := by
    rw [List.mem_map]
    constructor
    · rintro ⟨q, hq, rfl⟩
      exact stp_mem hP hq
    · intro h
      exact ⟨[a, j], List.mem_filter.mpr ⟨h, decide_eq_true rfl⟩, rfl⟩
  by_cases c : [a, j] ∈ ps
  · rw [if_pos c, if_pos (iff.mpr c)]
  · rw [if_neg c, if_neg fun z => c (iff.mp z)]
/-! ### rows of marks, each behind the one ahead, of p -/
def lst0 (r : List Int) : Int := r.getLastD 0
/-- all rows one mark longer -/
def longer (ps : List (List Int)) (p : List Int) (rows : List (List Int)) : List (List Int) := (rows.map fun r => (p.filter fun b => decide ([lst0 r, b] ∈ ps)).map fun b => r ++ [b]).flatten
def rowsN (ps : List (List Int)) (p : List Int) : Nat → List (List Int)
  | 0 => p.map fun m => [m]
  | n + 1 => longer ps p (rowsN ps p n)
theorem rows_ne {ps : List (List Int)} {p : List Int} : ∀ {n : Nat} {r : List Int}, r ∈ rowsN ps p n → r ≠ []
  | 0, r, h => by
    obtain ⟨m, _, rfl⟩ := List.mem_map.mp h
    simp
  | n + 1, r, h => by
    obtain ⟨l, hl, hr⟩ := List.mem_flatten.mp h
    obtain ⟨r', _, rfl⟩ := List.mem_map.mp hl
    obtain ⟨b, _, rfl⟩ := List.mem_map.mp hr
    simp
theorem hd_app {r : List Int} (h : r ≠ []) (b : Int) : hd0 (r ++ [b]) = hd0 r := by
  cases r with
  | nil => exact absurd rfl h
  | cons x r => rfl
theorem lst_app (r : List Int) (b : Int) : lst0 (r ++ [b]) = b := by unfold lst0; simp
/-- how often each first and last mark comes -/
theorem rows_sum {ps : List (List Int)} {N : Nat} (hP : ∀ q ∈ ps, Pr (N : Int) q) (nd : ps.Nodup) {p : List Int} (hp : ∀ m ∈ p, lotOf ps N m = p) : ∀ (n : Nat) (φ : Int → Int → Int), sm (rowsN ps p n) (fun r => φ (hd0 r) (lst0 r)) = sm p fun m => sm p fun j => lw ps p n m j * φ m j
  | 0, φ => by
    show sm (p.map fun m => [m]) (fun r => φ (hd0 r) (lst0 r)) = _
    rw [sm_map]
    refine sm_congr fun m hm => ?_
    have ndp : p.Nodup := by rw [← hp m hm]; exact (lot_rise ps N m).imp fun h => by omega
    have e : sm p (fun j => lw ps p 0 m j * φ m j) = sm p (fun j => if j = m then φ m j else 0) := sm_congr fun j _ => by
      show (if j = m then (1 : Int) else 0) * φ m j = _
      by_cases c : j = m
      · rw [if_pos c, if_pos c, Int.one_mul]
      · rw [if_neg c, if_neg c, Int.zero_mul]
    rw [e, sm_at ndp hm]; rfl
  | n + 1, φ => by
    have e0 : sm (rowsN ps p (n + 1)) (fun r => φ (hd0 r) (lst0 r)) = sm (rowsN ps p n) (fun r => (fun m a => sm p fun b => if [a, b] ∈ ps then φ m b else 0) (hd0 r) (lst0 r)) := by
      show sm (longer ps p (rowsN ps p n)) _ = _
      unfold longer
      rw [sm_flat, sm_map]
      refine sm_congr fun r hr => ?_
      rw [sm_map, sm_filter]
      refine sm_congr fun b _ => ?_
      rw [hd_app (rows_ne hr), lst_app]
      by_cases c : [lst0 r, b] ∈ ps
      · rw [if_pos (decide_eq_true c), if_pos c]
      · rw [if_neg (by rw [decide_eq_false c]; decide), if_neg c]
    rw [e0]
    refine (rows_sum hP nd hp n (fun m a => sm p fun b => if [a, b] ∈ ps then φ m b else 0)).trans ?_
    refine sm_congr fun m hm => ?_
    have hl := hp m hm
    have hmm : m ∈ lotOf ps N m := by rw [hl]; exact hm
    have ndp : p.Nodup := by rw [← hl]; exact (lot_rise ps N m).imp fun h => by omega
    have out := (lw_cw hP hmm n).2
    rw [hl] at out
    have e1 : sm p (fun j => lw ps p n m j * sm p fun b => if [j, b] ∈ ps then φ m b else 0) = sm p fun j => sm p fun b => lw ps p n m j * (if [j, b] ∈ ps then φ m b else 0) := sm_congr fun j _ => (sm_mul p _ _).symm
    rw [e1, sm_comm]
    refine sm_congr fun b hb => ?_
    show _ = (if b ∈ p then stp ps (lw ps p n m) b else 0) * φ m b
    rw [if_pos hb, stp_part hP nd ndp out b, Int.mul_comm, ← sm_mul]
    refine sm_congr fun a _ => ?_
    by_cases c : [a, b] ∈ ps
    · rw [if_pos c, if_pos c, Int.mul_comm]
    · rw [if_neg c, if_neg c, Int.mul_zero, Int.mul_zero]
/-- all rings of n + 1 places -/
theorem rings_count {ps : List (List Int)} {N : Nat} (hP : ∀ q ∈ ps, Pr (N : Int) q) (nd : ps.Nodup) {p : List Int} (hp : ∀ m ∈ p, lotOf ps N m = p) (n : Nat) :
    (((rowsN ps p n).filter fun r => decide ([lst0 r, hd0 r] ∈ ps)).length : Int) = sm p fun m => cw ps (n + 1) m m := by
  rw [← sm_len, sm_filter]
  have e := rows_sum hP nd hp n (fun m j => if [j, m] ∈ ps then 1 else 0)
  have e0 : sm (rowsN ps p n) (fun r => if (decide ([lst0 r, hd0 r] ∈ ps)) = true then (1 : Int) else 0) = sm (rowsN ps p n) (fun r => (fun m j => if [j, m] ∈ ps then (1 : Int) else 0) (hd0 r) (lst0 r)) := sm_congr fun r _ => by
    by_cases c : [lst0 r, hd0 r] ∈ ps
    · rw [if_pos (decide_eq_true c)]; exact (if_pos c).symm
    · rw [if_neg (by rw [decide_eq_false c]; decide)]; exact (if_neg c).symm
  rw [e0, e]
  refine sm_congr fun m hm => ?_
  have hl := hp m hm
  have hmm : m ∈ lotOf ps N m := by rw [hl]; exact hm
  have ndp : p.Nodup := by rw [← hl]; exact (lot_rise ps N m).imp fun h => by omega
  have out := (lw_cw hP hmm n).2
  have inn := (lw_cw hP hmm (n + 1)).1 m hmm
  rw [hl] at out inn
  rw [← inn]
  show _ = (if m ∈ p then stp ps (lw ps p n m) m else 0)
  rw [if_pos hm, stp_part hP nd ndp out m]
  refine sm_congr fun a _ => ?_
  by_cases c : [a, m] ∈ ps
  · rw [if_pos c, if_pos c, Int.mul_one]
  · rw [if_neg c, if_neg c, Int.mul_zero]
theorem longer_len {ps : List (List Int)} {p : List Int} (rows : List (List Int)) : (longer ps p rows).length ≤ rows.length * p.length := by
  unfold longer
  induction rows with
  | nil => simp
  | cons r rows ih =>
    rw [List.map_cons, List.flatten_cons, List.length_append, List.length_map, List.length_cons, Nat.add_mul, Nat.one_mul]
    have := List.length_filter_le (fun b => decide ([lst0 r, b] ∈ ps)) p
    omega
theorem rows_len {ps : List (List Int)} {p : List Int} : ∀ n : Nat, (rowsN ps p n).length ≤ p.length ^ (n + 1)
  | 0 => by
    show (p.map fun m => [m]).length ≤ _
    rw [List.length_map, Nat.pow_one]; exact Nat.le_refl _
  | n + 1 => by
    rw [Nat.pow_succ]
    exact Nat.le_trans (longer_len _) (Nat.mul_le_mul (rows_len n) (Nat.le_refl _))
end RV
set_option maxHeartbeats 4000000
namespace K44
open PySem PySem.Spec PyProof.Rows L2 RV
section
variable {P : Program} {w : World} {K : PySem.W.Frag} {mg : Str → Option Value} {base : Heap}
/-! ### _law_made -/
theorem scMade : FnScope ["_law_rule_r"] ["_law_rule_r"] (defScope sMade) := ⟨rfl, rfl, rfl, by decide +kernel, rfl, by decide +kernel, by decide +kernel⟩
def spMade (K : PySem.W.Frag) (C : Addr) : Sp := fun vs H Q _ => ∃ (o : Addr) (ns : List Int) (ps : List (List Int)), vs = [.ref o] ∧ OwnH K H o ns ps ∧ ∀ (H' : Hp) (r : Addr), Same H H' → RuleAt K C H' r ns ps → Q (.ref r) H'
theorem ok_made {f fI C : Addr} {fd fdI : FuncData} (F : Fun K "_law_made" "_law_made" sMade f fd) (T : Txt K mg C) (M : Mk K C fI) (bI : Binds K fdI ["self", "mirrors", "steps"] []) (GI : FnOk P w K mg base CX0 6 fI fdI ["self", "mirrors", "steps"] (spInit K C)) (B : Bare mg) :
    FnOk P w K mg base CX0 8 f fd ["_law_rule_r"] (spMade K C) := by
  refine F.ok scMade (fun vs H Q E h => ?_) (fun cdv A outer s H vs Q E hr h => ?_)
  · obtain ⟨o, ns, ps, rfl, _⟩ := h
    rfl
  · obtain ⟨o, ns, ps, rfl, ⟨u, c, o1, o2, o3, hM, S⟩, q⟩ := h
    refine ⟨_, pss_one (ps_ret (pe_make M GI hr (by rfl) T.mgC bI .nil pass0 (pa_cons (pe_ix ix_tup (pv 0) pe_int (fun _ _ => rfl)) (pa_cons (pe_ix ix_tup (pv 0) pe_int (fun _ _ => rfl)) pa_nil)))), ?_⟩
    refine ⟨.ref o, rfl, o, _, 0, .ref u, rfl, rfl, tupNew o1, rfl, .ref o, rfl, o, _, 1, .ref c, rfl, rfl, tupNew o1, rfl, fun x dx nx nd ne => ?_⟩
    exact make_rule o2 o3.tups hM S nx nd ne fun H' s' R => q H' x s' R
end
end K44
set_option maxHeartbeats 4000000
namespace K44
open PySem PySem.Spec PyProof.Rows L2 RV
/-! ### seen from the other side -/
theorem rch_mirror {ns : List Int} {ps : List (List Int)} (M : Mir ns) (S : Stp ns ps) {a b : Int} (h : Rch ps a b) : ∀ {ma mb : Int}, ns[a.toNat]? = some ma → ns[b.toNat]? = some mb → Rch ps mb ma := by
  have hP : ∀ p ∈ ps, Pr (ns.length : Int) p := fun p hp => S.pair p hp
  induction h with
  | one e => exact fun ha hb => .one (S.mirr _ _ _ _ e ha hb)
  | @more j k h1 e ih =>
    intro ma mb ha hb
    have bj := (Rch.bound hP (.one e)).1
    obtain ⟨mj, hj⟩ : ∃ x, ns[j.toNat]? = some x := ⟨_, List.getElem?_eq_getElem (by omega)⟩
    exact (Rch.one (S.mirr _ _ _ _ e hj hb)).trans (ih ha hj)
theorem mir_back {ns : List Int} (M : Mir ns) {a ma : Int} (ha : 0 ≤ a) (h : ns[a.toNat]? = some ma) : ns[ma.toNat]? = some a := by
  have z := M.back _ _ h
  rwa [Int.toNat_of_nonneg ha] at z
theorem lot_mirror {ns : List Int} {ps : List (List Int)} (M : Mir ns) (S : Stp ns ps) {x mx y my : Int} (h0 : 0 ≤ x) (hx : ns[x.toNat]? = some mx) (hy : ns[y.toNat]? = some my) (h : y ∈ lotOf ps ns.length x) : my ∈ lotOf ps ns.length mx := by
  obtain ⟨_, h1, h2⟩ := mem_lot.mp h
  have := M.inn my (List.mem_of_getElem? hy)
  exact mem_lot.mpr ⟨this, rch_mirror M S h2 hy hx, rch_mirror M S h1 hx hy⟩
/-- what part_of tells -/
def PartNo (ps : List (List Int)) (n : Nat) (m : Int) (v : V) : Prop := (¬ Rch ps m m ∧ v = .non) ∨ ∃ k : Nat, (partsOf ps n)[k]? = some (lotOf ps n m) ∧ Rch ps m m ∧ v = .int (k : Int)
section
variable {P : Program} {w : World} {K : PySem.W.Frag} {mg : Str → Option Value} {base : Heap}
/-! ### part_of -/
theorem scPartOf : FnScope ["rule", "mark", "number", "part"] ["rule", "mark"] (defScope sPartOf) := ⟨rfl, rfl, rfl, by decide +kernel, rfl, by decide +kernel, by decide +kernel⟩
def spPartOf (K : PySem.W.Frag) (C : Addr) : Sp := fun vs H Q _ => ∃ (r : Addr) (m : Int) (ns : List Int) (ps : List (List Int)), vs = [.ref r, .int m] ∧ RuleAt K C H r ns ps ∧ Mir ns ∧ Stp ns ps ∧ (0 ≤ m ∧ m < (ns.length : Int)) ∧
  ∀ (H' : Hp) (v : V), Same H H' → PartNo ps ns.length m v → Q v H'
theorem ok_partOf {f C fP : Addr} {fd dP : FuncData} (F : Fun K "part_of" "part_of" sPartOf f fd) (B : Bare mg) (DP : DefAt K mg "parts" sParts ["rule"] fP dP) (GP : FnOk P w K mg base CX0 3 fP dP ["rule"] (spParts K C)) : FnOk P w K mg base CX0 4 f fd ["rule", "mark"] (spPartOf K C) := by
  refine F.ok scPartOf (fun vs H Q E h => ?_) (fun cdv A outer s H vs Q E hr h => ?_)
  · obtain ⟨r, m, ns, ps, rfl, _⟩ := h
    rfl
  · obtain ⟨r, m, ns, ps, rfl, R, M, S, hm, q⟩ := h
    have hu5 := un65 hr
    refine ⟨_, pss_cons (ps_for PassesOwn.never rfl (pi_enT (by rfl) B.enumerate (pa_cons (pe_call GP hr (by rfl) DP.mg DP.fn.kp DP.bi .nil pass0 (pa_cons (pv 0) pa_nil)) pa_nil)) (pg_tup rfl (pgs_cons (pg_name (i := 2) scPartOf.nd rfl (Or.inl rfl)) (pgs_cons (pg_name (i := 3) scPartOf.nd rfl (Or.inl rfl)) pgs_nil)))
        (pss_one (ps_if (pt_cmpR (op_inTI hu5) (pv 1) (pv 3) (by rfl)) (pss_one (ps_ret (pv 2))) pss_nil)))
      (pss_one (ps_ret pe_non)), ?_⟩
    refine ⟨.ref r, rfl, r, ns, ps, rfl, R, M, S, fun H1 c s1 nc hC => ?_⟩
    obtain ⟨ks, ek, hc, hks⟩ := hC
    refine ⟨c, _, rfl, tupNew hc, ?_⟩
    refine for_it (walk_enT (K := K) (a := c) (xs := ks.map fun p => V.ref p.1)) (fun i σ H' => ∃ (y2 y3 : Option V), σ = [some (.ref r), some (.int m), y2, y3] ∧ Same H1 H' ∧ ∀ (k : Nat) (p : List Int), k < i → (partsOf ps ns.length)[k]? = some p → m ∉ p)
      ⟨none, none, rfl, Same.refl H1, fun k p hk => absurd hk (Nat.not_lt_zero _)⟩ (fun i σ H' _ h => ?_) (fun i x σ H2 H3 hi h y => ?_) (fun σ H' h => ?_)
    · obtain ⟨_, _, _, s', _⟩ := h
      exact tupNew (s' _ _ hc)
    · obtain ⟨y2, y3, rfl, s', no⟩ := h
      obtain ⟨T, x1, x2, rfl, nT, rfl, e1, e2⟩ := y
      have e1' : x1 = .int (i : Nat) := (Option.some.inj e1).symm
      subst e1'
      obtain ⟨k, g, rfl⟩ := map_at e2
      have sT := same_upd (o := .tup [.int (i : Nat), .ref k.1]) nT
      have s13 := s'.trans sT
      have gp : (partsOf ps ns.length)[i]? = some k.2 := by rw [← ek, List.getElem?_map, g]; rfl
      refine ⟨T, _, rfl, tupNew upd_same, rfl, _, _, rfl, _, _, rfl, rfl, .int m, rfl, .ref k.1, rfl, k.1, m, k.2, rfl, rfl, ((hks k (List.mem_of_getElem? g)).same s13).sq, _, rfl, ite2 (fun hin => ?_) (fun hno => ?_)⟩
      · have hin := of_decide_eq_true hin
        have hpm := List.mem_of_getElem? gp
        have el := part_lot hpm hin
        refine ⟨.int (i : Nat), rfl, q _ _ (s1.trans s13) (.inr ⟨i, by rw [gp, el], ?_, rfl⟩)⟩
        rw [← el] at hin
        exact lot_some hin
      · refine ⟨_, _, rfl, s13, fun j p hj gj => ?_⟩
        by_cases e : j = i
        · subst e
          rw [gp] at gj
          cases gj
          exact fun z => hno (decide_eq_true z)
        · exact no j p (by omega) gj
    · obtain ⟨y2, y3, rfl, s', no⟩ := h
      refine q _ _ (s1.trans s') (.inl ⟨fun z => ?_, rfl⟩)
      have hs := lot_self hm z
      obtain ⟨k, hk, e⟩ := List.getElem_of_mem (lot_part hs)
      have lk : (ks.map fun p => V.ref p.1).length = (partsOf ps ns.length).length := by rw [← ek, List.length_map, List.length_map]
      exact no k _ (by omega) (by rw [List.getElem?_eq_getElem hk, e]) hs
/-! ### mirror_part -/
theorem scMirrorPart : FnScope ["rule", "part", "mark"] ["rule", "part"] (defScope sMirrorPart) := ⟨rfl, rfl, rfl, by decide +kernel, rfl, by decide +kernel, by decide +kernel⟩
def spMirrorPart (K : PySem.W.Frag) (C : Addr) : Sp := fun vs H Q _ => ∃ (r : Addr) (k : Nat) (p : List Int) (ns : List Int) (ps : List (List Int)), vs = [.ref r, .int (k : Int)] ∧ RuleAt K C H r ns ps ∧ Mir ns ∧ Stp ns ps ∧ (partsOf ps ns.length)[k]? = some p ∧
  ∀ (H' : Hp) (x mx : Int) (k' : Nat), Same H H' → x ∈ p → ns[x.toNat]? = some mx → (partsOf ps ns.length)[k']? = some (lotOf ps ns.length mx) → Q (.int (k' : Int)) H'
theorem ok_mirrorPart {f C fP fO fR : Addr} {fd dP dO dR : FuncData} (F : Fun K "mirror_part" "mirror_part" sMirrorPart f fd) (T : Txt K mg C) (DP : DefAt K mg "parts" sParts ["rule"] fP dP) (GP : FnOk P w K mg base CX0 3 fP dP ["rule"] (spParts K C))
    (DO : DefAt K mg "part_of" sPartOf ["rule", "mark"] fO dO) (GO : FnOk P w K mg base CX0 4 fO dO ["rule", "mark"] (spPartOf K C)) (FR : Fun K "mirror" "Rule.mirror" sMirrorM fR dR) (bR : Binds K dR ["self", "mark"] []) (mR : Meth K C "mirror" fR) : FnOk P w K mg base CX0 5 f fd ["rule", "part"] (spMirrorPart K C) := by
  have GR : FnOk P w K mg base CX0 1 fR dR ["self", "mark"] (spMirrorM K C) := ok_mirrorM FR T
  refine F.ok scMirrorPart (fun vs H Q E h => ?_) (fun cdv A outer s H vs Q E hr h => ?_)
  · obtain ⟨r, k, p, ns, ps, rfl, _⟩ := h
    rfl
  · obtain ⟨r, k, p, ns, ps, rfl, R, M, S, hk, q⟩ := h
    have hr1 := hr.mono (show 1 ≤ 4 by decide)
    have hr3 := hr.mono (show 3 ≤ 4 by decide)
    refine ⟨_, pss_cons (ps_set (i := 2) scMirrorPart.nd rfl (Or.inl rfl) (pe_ix ix_tup (pe_ix ix_tup (pe_call GP hr3 (by rfl) DP.mg DP.fn.kp DP.bi .nil pass0 (pa_cons (pv 0) pa_nil)) (pv 1) (fun _ _ => rfl)) pe_int (fun _ _ => rfl)))
      (pss_one (ps_ret (pe_call GO hr (by rfl) DO.mg DO.fn.kp DO.bi .nil pass0 (pa_cons (pv 0) (pa_cons (pe_meth (pv 0) T.cl mR GR hr1 bR .nil pass0 (pa_cons (pv 2) pa_nil)) pa_nil))))), ?_⟩
    refine ⟨.ref r, rfl, r, ns, ps, rfl, R, M, S, fun H1 c s1 nc hC => ?_⟩
    obtain ⟨ks, ek, hc, hks⟩ := hC
    have gk : (ks.map (·.2))[k]? = some p := by rw [ek]; exact hk
    obtain ⟨kk, g, ekk⟩ := map_at gk
    have hpm := List.mem_of_getElem? hk
    cases ep : p with
    | nil => exact absurd ep (part_ne hpm)
    | cons x l =>
      have hxp : x ∈ p := by rw [ep]; exact List.mem_cons_self ..
      have hlot := part_lot hpm hxp
      have hxl : x ∈ lotOf ps ns.length x := by rw [hlot]; exact hxp
      have hx := (mem_lot.mp hxl).1
      obtain ⟨mx, gm⟩ : ∃ m, ns[x.toNat]? = some m := ⟨_, List.getElem?_eq_getElem (by omega)⟩
      have hT : SqT K H1 kk.1 ((x :: l).map V.int) := by rw [← ep, ekk]; exact (hks kk (List.mem_of_getElem? g)).sq
      refine ⟨.int (k : Int), rfl, c, _, _, .ref kk.1, rfl, rfl, tupNew hc, atI_nat (by rw [List.getElem?_map, g]; rfl), kk.1, _, 0, .int x, rfl, rfl, hT, atI_nat (j := 0) rfl, ?_⟩
      obtain ⟨dx, a0, b0, t0, g1, _⟩ := (R.same s1).ex
      have fno := flds_no a0 b0 t0 (m := "mirror") (by decide +kernel) (by decide +kernel) (by decide +kernel)
      refine ⟨.ref r, rfl, .ref r, rfl, r, dx, _, rfl, g1, fno, .int x, rfl, r, ns, ps, x.toNat, mx, by rw [Int.toNat_of_nonneg hx.1]; rfl, R.same s1, gm, ?_⟩
      refine ⟨r, mx, ns, ps, rfl, R.same s1, M, S, M.inn mx (List.mem_of_getElem? gm), fun H2 v s2 hv => ?_⟩
      rcases hv with ⟨hn, _⟩ | ⟨k', hk', _, rfl⟩
      · exact absurd (lot_some (lot_mirror M S hx.1 gm gm hxl)) hn
      · exact q H2 x mx k' (s1.trans s2) hxp gm hk'
end
end K44
namespace RV
open PySem L2
/-! ### walks by their steps -/
inductive Wk (ps : List (List Int)) : Nat → Int → Int → Prop where
  | nil (i : Int) : Wk ps 0 i i
  | more {n : Nat} {i j k : Int} : Wk ps n i j → [j, k] ∈ ps → Wk ps (n + 1) i k
theorem Wk.trans {ps : List (List Int)} {n m : Nat} {i j k : Int} (h : Wk ps n i j) (g : Wk ps m j k) : Wk ps (n + m) i k := by
  induction g with
  | nil _ => exact h
  | more _ e ih => exact .more (ih h) e
theorem Wk.one {ps : List (List Int)} {i j : Int} (h : [i, j] ∈ ps) : Wk ps 1 i j := .more (.nil i) h
theorem Wk.rch {ps : List (List Int)} {n : Nat} {i j : Int} (h : Wk ps n i j) : n = 0 ∧ i = j ∨ Rch ps i j := by
  induction h with
  | nil _ => exact .inl ⟨rfl, rfl⟩
  | more _ e ih =>
    rcases ih with ⟨_, rfl⟩ | ih
    · exact .inr (.one e)
    · exact .inr (.more ih e)
theorem Wk.lead {ps : List (List Int)} {n : Nat} {i j : Int} (h : Wk ps (n + 1) i j) : Rch ps i j := by
  rcases h.rch with ⟨z, _⟩ | z
  · omega
  · exact z
theorem rch_wk {ps : List (List Int)} {i j : Int} (h : Rch ps i j) : ∃ n, Wk ps (n + 1) i j := by
  induction h with
  | one e => exact ⟨0, .one e⟩
  | more _ e ih =>
    obtain ⟨n, w⟩ := ih
    exact ⟨n + 1, .more w e⟩
theorem Wk.zero {ps : List (List Int)} {i j : Int} (h : Wk ps 0 i j) : i = j := by
  cases h; rfl
theorem Wk.bound {ps : List (List Int)} {b : Int} (hb : ∀ p ∈ ps, Pr b p) {n : Nat} {i j : Int} (h : Wk ps n i j) (hi : 0 ≤ i ∧ i < b) : 0 ≤ j ∧ j < b := by
  rcases h.rch with ⟨_, rfl⟩ | z
  · exact hi
  · exact (Rch.bound hb z).2
/-- whatever is come to is come to by few steps -/
theorem wk_grow {ps : List (List Int)} (i : Int) : ∀ k : Nat, (∃ k', k' ≤ k ∧ ∀ x y : Int, (∃ m, m ≤ k' ∧ Wk ps m i x) → [x, y] ∈ ps → ∃ m, m ≤ k' ∧ Wk ps m i y) ∨ ∃ L : List Int, L.Nodup ∧ L.length = k + 1 ∧ ∀ x ∈ L, ∃ m, m ≤ k ∧ Wk ps m i x
  | 0 => .inr ⟨[i], by simp, rfl, fun x hx => ⟨0, Nat.le_refl _, by rw [List.mem_singleton.mp hx]; exact .nil i⟩⟩
  | k + 1 => by
    rcases wk_grow i k with ⟨k', h1, h2⟩ | ⟨L, nd, len, all⟩
    · exact .inl ⟨k', by omega, h2⟩
    · by_cases c : ∀ x y : Int, (∃ m, m ≤ k ∧ Wk ps m i x) → [x, y] ∈ ps → ∃ m, m ≤ k ∧ Wk ps m i y
      · exact .inl ⟨k, by omega, c⟩
      · refine .inr ?_
        obtain ⟨x, hx⟩ := Classical.not_forall.mp c
        obtain ⟨y, hy⟩ := Classical.not_forall.mp hx
        obtain ⟨h1, hy⟩ := Classical.not_imp.mp hy
        obtain ⟨h2, h3⟩ := Classical.not_imp.mp hy
        obtain ⟨m, hm, wm⟩ := h1
        refine ⟨y :: L, List.nodup_cons.mpr ⟨fun z => h3 (all y z), nd⟩, by rw [List.length_cons, len], fun z hz => ?_⟩
        rcases List.mem_cons.mp hz with rfl | hz
        · exact ⟨m + 1, by omega, .more wm h2⟩
        · obtain ⟨m', h4, h5⟩ := all z hz
          exact ⟨m', by omega, h5⟩
theorem wk_in {ps : List (List Int)} {i : Int} {k : Nat} : ∀ {m : Nat} {j : Int}, Wk ps m i j → (∀ x y : Int, (∃ m, m ≤ k ∧ Wk ps m i x) → [x, y] ∈ ps → ∃ m, m ≤ k ∧ Wk ps m i y) → ∃ m', m' ≤ k ∧ Wk ps m' i j
  | _, _, .nil _, _ => ⟨0, Nat.zero_le _, .nil _⟩
  | _, _, .more w e, h2 => h2 _ _ (wk_in w h2) e
theorem wk_short {ps : List (List Int)} {n : Nat} (hb : ∀ p ∈ ps, Pr (n : Int) p) {i j : Int} (hi : 0 ≤ i ∧ i < (n : Int)) {m : Nat} (h : Wk ps m i j) : ∃ m', m' ≤ n ∧ Wk ps m' i j := by
  rcases wk_grow (ps := ps) i n with ⟨k', h1, h2⟩ | ⟨L, nd, len, all⟩
  · obtain ⟨m', h3, h4⟩ := wk_in h h2
    exact ⟨m', by omega, h4⟩
  · have := nodup_le (us := upN n) nd fun x hx => by
      obtain ⟨m', _, w⟩ := all x hx
      exact mem_upN.mpr (w.bound hb hi)
    rw [upN_len] at this
    omega
/-! ### periods -/
structure Per (ps : List (List Int)) (x : Int) (g : Nat) : Prop where
  all : ∀ n, Wk ps n x x → g ∣ n
  most : ∀ d : Nat, (∀ n, n ≤ 24 → Wk ps n x x → d ∣ n) → d ∣ g
theorem Per.uniq {ps : List (List Int)} {x : Int} {g g' : Nat} (h : Per ps x g) (h' : Per ps x g') : g = g' :=
  Nat.dvd_antisymm (h'.most g fun n _ w => h.all n w) (h.most g' fun n _ w => h'.all n w)
open Classical in
noncomputable def perN (ps : List (List Int)) (x : Int) : Nat := if h : ∃ g, Per ps x g then Classical.choose h else 0
theorem Per.is {ps : List (List Int)} {x : Int} {g : Nat} (h : Per ps x g) : perN ps x = g := by
  have e : ∃ g, Per ps x g := ⟨g, h⟩
  unfold perN
  rw [dif_pos e]
  exact (Classical.choose_spec e).uniq h
open Classical in
noncomputable def clsN (ps : List (List Int)) (x : Int) (g : Nat) (m : Int) : Nat := if h : ∃ n, Wk ps n x m then Classical.choose h % g else 0
theorem mod_of_dvd {g a b r : Nat} (h1 : g ∣ a + r) (h2 : g ∣ b + r) : a % g = b % g := by
  have e : ((a : Int) - b) % g = 0 := by
    have z : (g : Int) ∣ ((a + r : Nat) : Int) - ((b + r : Nat) : Int) := Int.dvd_sub (Int.ofNat_dvd.mpr h1) (Int.ofNat_dvd.mpr h2)
    have e2 : ((a + r : Nat) : Int) - ((b + r : Nat) : Int) = (a : Int) - b := by omega
    rw [e2] at z
    exact Int.emod_eq_zero_of_dvd z
  have z := Int.emod_eq_emod_iff_emod_sub_eq_zero.mpr e
  omega
/-- any way to a mark that leads back tells its class -/
theorem Per.cls {ps : List (List Int)} {x m : Int} {g n : Nat} (h : Per ps x g) (w : Wk ps n x m) (back : ∃ r, Wk ps r m x) : n % g = clsN ps x g m := by
  have e : ∃ n, Wk ps n x m := ⟨n, w⟩
  unfold clsN
  rw [dif_pos e]
  obtain ⟨r, wr⟩ := back
  exact mod_of_dvd (h.all _ (w.trans wr)) (h.all _ ((Classical.choose_spec e).trans wr))
theorem Per.self {ps : List (List Int)} {x : Int} {g : Nat} (h : Per ps x g) : clsN ps x g x = 0 := by
  rw [← h.cls (.nil x) ⟨0, .nil x⟩]; exact Nat.zero_mod g
theorem Per.pos {ps : List (List Int)} {x : Int} {g : Nat} (h : Per ps x g) (r : Rch ps x x) : 0 < g := by
  obtain ⟨n, w⟩ := rch_wk r
  have z := h.all _ w
  rcases Nat.eq_zero_or_pos g with e | e
  · rw [e] at z
    have := Nat.eq_zero_of_zero_dvd z
    omega
  · exact e
theorem dvd_mid {g t n r : Nat} (h1 : g ∣ t + n + r) (h2 : g ∣ t + r) : g ∣ n := by
  have z : (t + n + r) - (t + r) = n := by omega
  rw [← z]
  exact Nat.dvd_sub h1 h2
end RV
set_option maxHeartbeats 4000000
namespace RV
open PySem PySem.Spec PyProof.Rows L2
/-! ### dicts of ints -/
def kO (u : Int × Nat) : L2.Key × V := (Sum.inl u.1, V.int (u.2 : Int))
theorem kO_keys (us : List (Int × Nat)) : (us.map kO).map (·.1) = (us.map (·.1)).map Sum.inl := by
  rw [List.map_map, List.map_map]; rfl
theorem inl_mem {m : Int} {l : List Int} : (Sum.inl m : L2.Key) ∈ l.map Sum.inl ↔ m ∈ l := by
  rw [List.mem_map]
  constructor
  · rintro ⟨x, hx, e⟩
    cases e; exact hx
  · exact fun h => ⟨m, h, rfl⟩
theorem valO_not {us : List (Int × Nat)} {m : Int} (h : valV (us.map kO) (Sum.inl m) = none) : m ∉ us.map (·.1) := fun z => valV_not h (by rw [kO_keys]; exact inl_mem.mpr z)
theorem valO_in {us : List (Int × Nat)} {m : Int} {v : V} (h : valV (us.map kO) (Sum.inl m) = some v) : m ∈ us.map (·.1) := by
  have z := valV_in h
  rw [kO_keys] at z
  exact inl_mem.mp z
theorem valO_at : ∀ {us : List (Int × Nat)} {u : Int × Nat}, (us.map (·.1)).Nodup → u ∈ us → valV (us.map kO) (Sum.inl u.1) = some (.int (u.2 : Int))
  | [], u, _, h => nomatch h
  | v :: us, u, nd, h => by
    rw [List.map_cons, List.nodup_cons] at nd
    rw [List.map_cons]
    rcases List.mem_cons.mp h with rfl | h
    · exact valV_pos rfl
    · rw [valV_neg]
      · exact valO_at nd.2 h
      · intro e
        have e' : v.1 = u.1 := Sum.inl.inj e
        exact nd.1 (by rw [e']; exact List.mem_map_of_mem h)
theorem putO_new {us : List (Int × Nat)} {m : Int} {n : Nat} (h : valV (us.map kO) (Sum.inl m) = none) : putK (us.map kO) (Sum.inl m) (.int (n : Int)) = (us ++ [(m, n)]).map kO := by
  rw [putK_new _ h, List.map_append]; rfl
/-! ### steps off the least mark -/
structure Offs (ps : List (List Int)) (p : List Int) (x : Int) (us : List (Int × Nat)) : Prop where
  nd : (us.map (·.1)).Nodup
  wk : ∀ u ∈ us, Wk ps u.2 x u.1 ∧ u.1 ∈ p ∧ u.2 ≤ 7
  all : ∀ m ∈ p, m ∈ us.map (·.1)
/-- as they are found -/
structure Bf (ps : List (List Int)) (p : List Int) (x : Int) (us : List (Int × Nat)) : Prop where
  nd : (us.map (·.1)).Nodup
  first : us[0]? = some (x, 0)
  wk : ∀ (i : Nat) (u : Int × Nat), us[i]? = some u → Wk ps u.2 x u.1 ∧ u.1 ∈ p ∧ u.2 ≤ i
theorem Bf.len {ps : List (List Int)} {p : List Int} {x : Int} {us : List (Int × Nat)} (h : Bf ps p x us) : us.length ≤ p.length := by
  have := nodup_le (us := p) h.nd fun m hm => by
    obtain ⟨u, hu, rfl⟩ := List.mem_map.mp hm
    obtain ⟨i, hi, e⟩ := List.getElem_of_mem hu
    exact (h.wk i u (by rw [List.getElem?_eq_getElem hi, e])).2.1
  rwa [List.length_map] at this
theorem Bf.start {ps : List (List Int)} {p : List Int} {x : Int} (hx : x ∈ p) : Bf ps p x [(x, 0)] := by
  refine ⟨by simp, rfl, fun i u h => ?_⟩
  cases i with
  | zero =>
    have e : (x, 0) = u := Option.some.inj h
    subst e
    exact ⟨.nil x, hx, Nat.le_refl _⟩
  | succ i => simp at h
theorem Bf.add {ps : List (List Int)} {p : List Int} {x : Int} {us : List (Int × Nat)} (h : Bf ps p x us) {a : Nat} {u : Int × Nat} {y : Int} (hu : us[a]? = some u) (e : [u.1, y] ∈ ps) (hy : y ∈ p) (ny : y ∉ us.map (·.1)) : Bf ps p x (us ++ [(y, u.2 + 1)]) := by
  have hl : 0 < us.length := by
    have := (List.getElem?_eq_some_iff.mp h.first).1
    exact this
  refine ⟨?_, by rw [List.getElem?_append_left hl]; exact h.first, fun i v hv => ?_⟩
  · rw [List.map_append, List.nodup_append]
    exact ⟨h.nd, by simp, fun b hb c hc e => ny (by
      have := List.mem_singleton.mp (show c ∈ [y] from hc)
      rw [← this, ← e]; exact hb)⟩
  · by_cases hi : i < us.length
    · rw [List.getElem?_append_left hi] at hv
      exact h.wk i v hv
    · have hi2 := (List.getElem?_eq_some_iff.mp hv).1
      rw [List.length_append] at hi2
      have ei : i = us.length := by
        have : [(y, u.2 + 1)].length = 1 := rfl
        omega
      subst ei
      rw [List.getElem?_append_right (Nat.le_refl _), Nat.sub_self] at hv
      have ev : (y, u.2 + 1) = v := Option.some.inj hv
      subst ev
      obtain ⟨w1, w2, w3⟩ := h.wk a u hu
      have := (List.getElem?_eq_some_iff.mp hu).1
      exact ⟨.more w1 e, hy, by show u.2 + 1 ≤ us.length; omega⟩
/-- a part: what lies between its marks is in it -/
structure Knot (ps : List (List Int)) (p : List Int) (x : Int) : Prop where
  x_in : x ∈ p
  out : ∀ m ∈ p, ∃ n, Wk ps n x m
  back : ∀ m ∈ p, ∃ n, Wk ps n m x
  mid : ∀ m, (∃ n, Wk ps n x m) → (∃ n, Wk ps n m x) → m ∈ p
theorem Knot.way {ps : List (List Int)} {p : List Int} {x : Int} (k : Knot ps p x) {n : Nat} {j m : Int} (h : Wk ps n x j) (e : [j, m] ∈ ps) (hm : m ∈ p) : j ∈ p := by
  obtain ⟨r, w⟩ := k.back m hm
  exact k.mid j ⟨n, h⟩ ⟨1 + r, (Wk.one e).trans w⟩
theorem Bf.offs {ps : List (List Int)} {p : List Int} {x : Int} {us : List (Int × Nat)} (h : Bf ps p x us) (k : Knot ps p x) (h8 : p.length ≤ 8) (done : ∀ (i : Nat) (u : Int × Nat), us[i]? = some u → ∀ y ∈ p, [u.1, y] ∈ ps → y ∈ us.map (·.1)) : Offs ps p x us := by
  refine ⟨h.nd, fun u hu => ?_, fun m hm => ?_⟩
  · obtain ⟨i, hi, e⟩ := List.getElem_of_mem hu
    obtain ⟨w1, w2, w3⟩ := h.wk i u (by rw [List.getElem?_eq_getElem hi, e])
    have := h.len
    exact ⟨w1, w2, by omega⟩
  · have : ∀ {n : Nat} {m : Int}, Wk ps n x m → m ∈ p → m ∈ us.map (·.1) := by
      intro n
      induction n with
      | zero =>
        intro m w _
        rw [← w.zero]
        exact List.mem_map_of_mem (List.mem_of_getElem? h.first)
      | succ n ih =>
        intro m w hm
        cases w with
        | more w e =>
          have hj := ih w (k.way w e hm)
          obtain ⟨u, hu, eu⟩ := List.mem_map.mp hj
          obtain ⟨i, hi, ei⟩ := List.getElem_of_mem hu
          exact done i u (by rw [List.getElem?_eq_getElem hi, ei]) m hm (by rw [eu]; exact e)
    obtain ⟨n, w⟩ := k.out m hm
    exact this w hm
/-! ### the period by these -/
theorem Offs.get {ps : List (List Int)} {p : List Int} {x : Int} {us : List (Int × Nat)} (h : Offs ps p x us) {m : Int} (hm : m ∈ p) : ∃ o : Nat, (m, o) ∈ us ∧ Wk ps o x m ∧ o ≤ 7 := by
  obtain ⟨u, hu, e⟩ := List.mem_map.mp (h.all m hm)
  obtain ⟨w1, _, w3⟩ := h.wk u hu
  refine ⟨u.2, ?_, by rw [← e]; exact w1, w3⟩
  rw [← e]; exact hu
theorem Offs.one {ps : List (List Int)} {p : List Int} {x : Int} {us : List (Int × Nat)} (h : Offs ps p x us) {m : Int} {a b : Nat} (h1 : (m, a) ∈ us) (h2 : (m, b) ∈ us) : a = b := by
  have e1 := valO_at h.nd h1
  have e2 := valO_at h.nd h2
  rw [e1] at e2
  have := Option.some.inj e2
  injection this with e
  omega
def gapO (a b : Nat) : Nat := ((a : Int) + 1 - (b : Int)).natAbs
/-- what period has found so far -/
structure Gf (ps : List (List Int)) (p : List Int) (us : List (Int × Nat)) (qs : List (List Int)) (g : Nat) : Prop where
  all : ∀ (x y : Int) (a b : Nat), [x, y] ∈ qs → x ∈ p → y ∈ p → (x, a) ∈ us → (y, b) ∈ us → g ∣ gapO a b
  most : ∀ d : Nat, (∀ (x y : Int) (a b : Nat), [x, y] ∈ qs → x ∈ p → y ∈ p → (x, a) ∈ us → (y, b) ∈ us → d ∣ gapO a b) → d ∣ g
theorem gap_dvd {g a b : Nat} (h : g ∣ gapO a b) : ((a : Int) + 1) % g = (b : Int) % g := by
  have z : (g : Int) ∣ (a : Int) + 1 - (b : Int) := Int.ofNat_dvd_left.mpr h
  exact Int.emod_eq_emod_iff_emod_sub_eq_zero.mpr (Int.emod_eq_zero_of_dvd z)
theorem dvd_gap {d a b r : Nat} (h1 : d ∣ a + 1 + r) (h2 : d ∣ b + r) : d ∣ gapO a b := by
  have z : (d : Int) ∣ ((a + 1 + r : Nat) : Int) - ((b + r : Nat) : Int) := Int.dvd_sub (Int.ofNat_dvd.mpr h1) (Int.ofNat_dvd.mpr h2)
  have e : ((a + 1 + r : Nat) : Int) - ((b + r : Nat) : Int) = (a : Int) + 1 - (b : Int) := by omega
  rw [e] at z
  exact Int.ofNat_dvd_left.mp z
theorem Gf.per {ps : List (List Int)} {p : List Int} {x : Int} {us : List (Int × Nat)} {g n : Nat} (G : Gf ps p us ps g) (O : Offs ps p x us) (k : Knot ps p x) (hb : ∀ q ∈ ps, Pr (n : Int) q) (h8 : n ≤ 8) (hp : ∀ m ∈ p, 0 ≤ m ∧ m < (n : Int)) : Per ps x g := by
  obtain ⟨o0, m0, w0, _⟩ := O.get k.x_in
  have key : ∀ {t : Nat} {m : Int}, Wk ps t x m → m ∈ p → ∀ a, (m, a) ∈ us → ((t : Int) + o0) % g = (a : Int) % g := by
    intro t
    induction t with
    | zero =>
      intro m w hm a ha
      rw [← w.zero] at ha
      rw [O.one ha m0]
      simp
    | succ t ih =>
      intro m w hm a ha
      cases w with
      | @more _ _ j _ w e =>
        have hj := k.way w e hm
        obtain ⟨b, hb', _, _⟩ := O.get hj
        have h1 := ih w hj b hb'
        have h2 := gap_dvd (G.all j m b a e hj hm hb' ha)
        have e3 : ((t + 1 : Nat) : Int) + o0 = ((t : Int) + o0) + 1 := by omega
        rw [e3, ← h2, Int.add_emod, h1, ← Int.add_emod]
  have o0z : (o0 : Int) % g = 0 := by
    have z := key w0 k.x_in o0 m0
    have e : ((o0 : Int) + o0 - o0) % g = 0 := Int.emod_eq_emod_iff_emod_sub_eq_zero.mp z
    have e2 : (o0 : Int) + o0 - o0 = o0 := by omega
    rwa [e2] at e
  refine ⟨fun t w => ?_, fun d hd => ?_⟩
  · have z := key w k.x_in o0 m0
    have e : ((t : Int) + o0 - o0) % g = 0 := Int.emod_eq_emod_iff_emod_sub_eq_zero.mp z
    have e2 : (t : Int) + o0 - o0 = t := by omega
    rw [e2] at e
    exact Int.ofNat_dvd.mp (Int.dvd_of_emod_eq_zero e)
  · refine G.most d fun y z a b hyz hy hz ha hb' => ?_
    obtain ⟨r0, wr0⟩ := k.back z hz
    obtain ⟨r, hr, wr⟩ := wk_short hb (hp z hz) wr0
    have wa := (O.wk _ ha)
    have wb := (O.wk _ hb')
    have a7 : a ≤ 7 := wa.2.2
    have b7 : b ≤ 7 := wb.2.2
    exact dvd_gap (hd (a + 1 + r) (by omega) ((Wk.more wa.1 hyz).trans wr)) (hd (b + r) (by omega) (Wk.trans wb.1 wr))
theorem Gf.nil {ps : List (List Int)} {p : List Int} {us : List (Int × Nat)} : Gf ps p us [] 0 := ⟨(fun _ _ _ _ h => nomatch h), fun d _ => Nat.dvd_zero d⟩
theorem Gf.skip {ps : List (List Int)} {p : List Int} {us : List (Int × Nat)} {qs : List (List Int)} {g : Nat} {x y : Int} (G : Gf ps p us qs g) (no : ¬ (x ∈ p ∧ y ∈ p)) : Gf ps p us (qs ++ [[x, y]]) g := by
  refine ⟨fun x' y' a b h hx hy ha hb => ?_, fun d hd => G.most d fun x' y' a b h => hd x' y' a b (List.mem_append_left _ h)⟩
  rcases List.mem_append.mp h with z | z
  · exact G.all x' y' a b z hx hy ha hb
  · have z := List.mem_singleton.mp z
    injection z with z1 z2
    injection z2 with z2 _
    subst z1 z2
    exact absurd ⟨hx, hy⟩ no
theorem Gf.add {ps : List (List Int)} {p : List Int} {us : List (Int × Nat)} {qs : List (List Int)} {g : Nat} {x y : Int} {a b : Nat} {z : Int} (O : Offs ps p z us) (G : Gf ps p us qs g) (hx : x ∈ p) (hy : y ∈ p) (ha : (x, a) ∈ us) (hb : (y, b) ∈ us) : Gf ps p us (qs ++ [[x, y]]) (Nat.gcd g (gapO a b)) := by
  refine ⟨fun x' y' a' b' h hx' hy' ha' hb' => ?_, fun d hd => Nat.dvd_gcd (G.most d fun x' y' a b h => hd x' y' a b (List.mem_append_left _ h)) (hd x y a b (List.mem_append_right _ (List.mem_singleton.mpr rfl)) hx hy ha hb)⟩
  rcases List.mem_append.mp h with e | e
  · exact Nat.dvd_trans (Nat.gcd_dvd_left _ _) (G.all x' y' a' b' e hx' hy' ha' hb')
  · have e := List.mem_singleton.mp e
    injection e with e1 e2
    injection e2 with e2 _
    subst e1 e2
    rw [O.one ha' ha, O.one hb' hb]
    exact Nat.gcd_dvd_right _ _
end RV
set_option maxHeartbeats 4000000
namespace K44
open PySem PySem.Spec PyProof.Rows L2 RV
theorem part_hd_in {ps : List (List Int)} {n : Nat} {p : List Int} (hp : p ∈ partsOf ps n) : hd0 p ∈ p ∧ lotOf ps n (hd0 p) = p := by
  have ne := part_ne hp
  cases e : p with
  | nil => exact absurd e ne
  | cons x l =>
    have hx : x ∈ p := by rw [e]; exact List.mem_cons_self ..
    refine ⟨List.mem_cons_self .., ?_⟩
    have z := part_lot hp hx
    rw [e] at z
    exact z
theorem knot_of {ps : List (List Int)} {n : Nat} (hb : ∀ q ∈ ps, Pr (n : Int) q) {p : List Int} (hp : p ∈ partsOf ps n) : Knot ps p (hd0 p) := by
  obtain ⟨hx, hl⟩ := part_hd_in hp
  have hx' : hd0 p ∈ lotOf ps n (hd0 p) := by rw [hl]; exact hx
  have bx := (mem_lot.mp hx').1
  refine ⟨hx, fun m hm => ?_, fun m hm => ?_, fun m h1 h2 => ?_⟩
  · rw [← hl] at hm
    obtain ⟨k, w⟩ := rch_wk (mem_lot.mp hm).2.1
    exact ⟨_, w⟩
  · rw [← hl] at hm
    obtain ⟨k, w⟩ := rch_wk (mem_lot.mp hm).2.2
    exact ⟨_, w⟩
  · obtain ⟨a, wa⟩ := h1
    obtain ⟨b, wb⟩ := h2
    rcases wa.rch with ⟨_, e⟩ | r1
    · rw [← e]; exact hx
    · rcases wb.rch with ⟨_, e⟩ | r2
      · rw [e]; exact hx
      · rw [← hl]
        exact mem_lot.mpr ⟨wa.bound hb bx, r1, r2⟩
theorem part_len8 {ps : List (List Int)} {n : Nat} (h8 : n ≤ 8) {p : List Int} (hp : p ∈ partsOf ps n) : p.length ≤ 8 := by
  obtain ⟨m, _, _, rfl⟩ := mem_parts.mp hp
  exact Nat.le_trans (lot_len ps n m) h8
theorem part_bd {ps : List (List Int)} {n : Nat} {p : List Int} {x : Int} (h : p ∈ partsOf ps n) (hx : x ∈ p) : 0 ≤ x ∧ x < (n : Int) := by
  have e := part_lot h hx
  rw [← e] at hx
  exact (mem_lot.mp hx).1
section
variable {P : Program} {w : World} {K : PySem.W.Frag} {mg : Str → Option Value} {base : Heap}
/-! ### steps_off -/
theorem scOff : FnScope ["rule", "marks", "least", "off", "queue", "at", "here", "mark"] ["rule", "marks"] (defScope sOff) := ⟨rfl, rfl, rfl, by decide +kernel, rfl, by decide +kernel, by decide +kernel⟩
def spOff (K : PySem.W.Frag) (C : Addr) : Sp := fun vs H Q _ => ∃ (r a : Addr) (ns : List Int) (ps : List (List Int)) (p : List Int), vs = [.ref r, .ref a] ∧ RuleAt K C H r ns ps ∧ Mir ns ∧ Stp ns ps ∧ p ∈ partsOf ps ns.length ∧ SqT K H a (p.map V.int) ∧
  ∀ (H' : Hp) (d : Addr) (us : List (Int × Nat)), Same H H' → H d = none → H' d = some (.dK (us.map kO)) → Offs ps p (hd0 p) us → Q (.ref d) H'
def atOff : L2.St → Nat
  | [_, _, _, _, _, some (.int a), _, _] => 8 - a.toNat
  | _ => 0
theorem ok_off {f C fB : Addr} {fd dB : FuncData} (F : Fun K "steps_off" "steps_off" sOff f fd) (T : Txt K mg C) (B : Bare mg)
    (FB : Fun K "behind" "Rule.behind" sBehindM fB dB) (bB : Binds K dB ["self", "mark"] []) (mB : Meth K C "behind" fB) : FnOk P w K mg base CX0 2 f fd ["rule", "marks"] (spOff K C) := by
  have GB : FnOk P w K mg base CX0 1 fB dB ["self", "mark"] (spBehindM K C) := ok_behindM FB T
  refine F.ok scOff (fun vs H Q E h => ?_) (fun cdv A outer s H vs Q E hr h => ?_)
  · obtain ⟨r, a, ns, ps, p, rfl, _⟩ := h
    rfl
  · obtain ⟨r, a, ns, ps, p, rfl, R, M, S, hp, hA, q⟩ := h
    have hu := hu_of hr
    have hu5 := un65 hr
    refine ⟨_, pss_cons (ps_set (i := 2) scOff.nd rfl (Or.inl rfl) (pe_ix ix_tup (pv 1) pe_int (fun _ _ => rfl)))
      (pss_cons (ps_set (i := 3) scOff.nd rfl (Or.inl rfl) (pe_disp (pps_cons (pv 2) pe_int pps_nil) rfl rfl (by simp) (by decide)))
      (pss_cons (ps_set (i := 4) scOff.nd rfl (Or.inl rfl) (pe_lst (pa_cons (pv 2) pa_nil)))
      (pss_cons (ps_set (i := 5) scOff.nd rfl (Or.inl rfl) pe_int)
      (pss_cons (ps_while PassesOwn.never (pt_cmpR op_lt (pv 5) (pe_callB call_len_seq (by rfl) B.len PySem.boot_len (pa_cons (pv 4) pa_nil)) (nomark _))
        (pss_cons (ps_set (i := 6) scOff.nd rfl (Or.inl rfl) (pe_ix ix_list (pv 4) (pv 5) (fun _ _ => rfl)))
        (pss_cons (ps_for PassesOwn.never rfl (pi_tup (pe_meth (pv 0) T.cl mB GB hr bB .nil pass0 (pa_cons (pv 6) pa_nil))) (pg_name (i := 7) scOff.nd rfl (Or.inl rfl))
          (pss_one (ps_if (PW.pt (pw_and (pt_cmpR (op_inTI hu5) (pv 7) (pv 1) (by rfl)) (pw_and1 (pt_cmp (pc_dnotin hu (pv 7) (pv 3))))))
            (pss_cons (ps_dput hu (pv 3) (pv 7) (pe_op op_add (pe_dget hu (pv 3) (pv 6) (fun _ _ => rfl)) pe_int) rfl)
            (pss_one (ps_expr (pe_bm PySem.F.plainAttrs_list PySem.F.slot_list_append PySem.F.type_list_append mt_append (pv 4) (pa_cons (pv 7) pa_nil))))) pss_nil)))
        (pss_one (ps_aug (i := 5) scOff.nd rfl (.inl rfl) pe_int ip_add)))))
      (pss_one (ps_ret (pv 3))))))), ?_⟩
    obtain ⟨dx, a0, b0, t0, g1, g2, g3, g4⟩ := R.ex
    have fno := flds_no a0 b0 t0 (m := "behind") (by decide +kernel) (by decide +kernel) (by decide +kernel)
    have h8 := M.few
    have hP : ∀ q ∈ ps, Pr (ns.length : Int) q := fun q hq => S.pair q hq
    have kn := knot_of hP hp
    have l8 := part_len8 h8 hp
    have hx0 : (p.map V.int)[0]? = some (.int (hd0 p)) := by
      cases e : p with
      | nil => exact absurd e (part_ne hp)
      | cons x l => rfl
    refine ⟨.ref a, rfl, a, _, 0, .int (hd0 p), rfl, rfl, hA, atI_nat (j := 0) hx0, fun d nd => ?_⟩
    generalize hx : hd0 p = x at kn q ⊢
    refine ⟨.int x, rfl, upd_same, [(Sum.inl x, .int 0)], rfl, (by show 1 ≤ 15; decide), ?_⟩
    have s1 : Same H (upd (upd H d (.dK [])) d (.dK (mergeK [] [(Sum.inl x, .int 0)]))) := fun b o e => by
      rw [upd_ne (ne_of_none e nd), upd_ne (ne_of_none e nd)]; exact e
    have ed : (upd (upd H d (.dK [])) d (.dK (mergeK [] [(Sum.inl x, .int 0)]))) d = some (.dK ([(x, 0)].map kO)) := upd_same
    generalize upd (upd H d (.dK [])) d (.dK (mergeK [] [(Sum.inl x, .int 0)])) = H1 at s1 ed ⊢
    refine ⟨.int x, rfl, (by show 1 ≤ sizeLine; decide), fun L nL => ?_⟩
    have sL := same_upd (o := .lst [.int x]) nL
    have nLH : H L = none := s1.free nL
    have ndL : d ≠ L := ne_of_none ed nL
    refine while_by (fun σ H' => ∃ (us : List (Int × Nat)) (at_ : Nat) (y6 y7 : Option V), σ = [some (.ref r), some (.ref a), some (.int x), some (.ref d), some (.ref L), some (.int (at_ : Int)), y6, y7] ∧ Same H H' ∧ H' d = some (.dK (us.map kO)) ∧ H' L = some (.lst ((us.map (·.1)).map V.int)) ∧ Bf ps p x us ∧ at_ ≤ us.length ∧ ∀ (i : Nat) (u : Int × Nat), i < at_ → us[i]? = some u → ∀ y ∈ p, [u.1, y] ∈ ps → y ∈ us.map (·.1))
      (fun σ _ => atOff σ) ?_ ?_ ?_
    · exact ⟨[(x, 0)], 0, none, none, rfl, s1.trans sL, sL _ _ ed, upd_same, Bf.start kn.x_in, Nat.zero_le _, fun i u hi => absurd hi (Nat.not_lt_zero _)⟩
    · rintro σ H2 ⟨us, at_, y6, y7, rfl, s2, ed2, eL2, bf, hle, dn⟩
      refine ⟨.int (at_ : Int), rfl, .ref L, rfl, L, _, rfl, .inl (lstNew eL2), _, _, rfl, rfl, _, rfl, ite2 (fun hlt => ?_) (fun hge => ?_)⟩
      · have hlt : at_ < us.length := by
          have z := of_decide_eq_true hlt
          rw [List.length_map, List.length_map] at z; omega
        obtain ⟨u, gu⟩ : ∃ u, us[at_]? = some u := ⟨_, List.getElem?_eq_getElem hlt⟩
        obtain ⟨wu1, wu2, wu3⟩ := bf.wk _ _ gu
        have bu := part_bd hp wu2
        refine ⟨.ref L, rfl, .int (at_ : Int), rfl, L, _, _, .int u.1, rfl, rfl, lstNew eL2, atI_nat (by rw [List.getElem?_map, List.getElem?_map, gu]; rfl), ?_⟩
        refine ⟨.ref r, rfl, r, dx, _, rfl, s2 _ _ g1, fno, .int u.1, rfl, r, ns, ps, u.1.toNat, by rw [Int.toNat_of_nonneg bu.1]; rfl, R.same s2, by omega, fun c hc => ?_⟩
        rw [Int.toNat_of_nonneg bu.1] at hc
        refine ⟨c, rfl, ⟨_, hc⟩, ?_⟩
        have hbl : (behindOf ps u.1).length ≤ 64 := by
          have := behind_len ps u.1
          have := S.few
          omega
        refine for_it (walk_tup (K := K) (a := c) (xs := (behindOf ps u.1).map V.int)) (fun j σ H' => ∃ (us' : List (Int × Nat)) (y7 : Option V), σ = [some (.ref r), some (.ref a), some (.int x), some (.ref d), some (.ref L), some (.int (at_ : Int)), some (.int u.1), y7] ∧ Same H H' ∧ SqT K H' c ((behindOf ps u.1).map V.int) ∧ H' d = some (.dK (us'.map kO)) ∧ H' L = some (.lst ((us'.map (·.1)).map V.int)) ∧ Bf ps p x us' ∧ (∃ nw, us' = us ++ nw) ∧ ∀ y ∈ (behindOf ps u.1).take j, y ∈ p → y ∈ us'.map (·.1))
          ⟨us, _, rfl, s2, hc, ed2, eL2, bf, ⟨[], (List.append_nil us).symm⟩, fun y hy => by simp at hy⟩ (fun j σ H' _ h => ?_) (fun j z σ H4 H3 hj h y => ?_) (fun σ H3 h => ?_)
        · obtain ⟨_, _, _, _, hc', _⟩ := h
          exact hc'
        · obtain ⟨us', y7', rfl, s3, hc3, ed3, eL3, bf3, ⟨nw, enw⟩, tk⟩ := h
          obtain ⟨rfl, gz⟩ := y
          obtain ⟨y, gy, rfl⟩ := map_at gz
          have gu' : us'[at_]? = some u := by rw [enw, List.getElem?_append_left hlt]; exact gu
          have ebeh : [u.1, y] ∈ ps := (mem_behind hP).mp (List.mem_of_getElem? gy)
          have tkn : ∀ us2 : List (Int × Nat), (∀ z ∈ us'.map (·.1), z ∈ us2.map (·.1)) → (y ∈ p → y ∈ us2.map (·.1)) → ∀ z ∈ (behindOf ps u.1).take (j + 1), z ∈ p → z ∈ us2.map (·.1) := fun us2 h1 h2 z hz hzp => by
            rw [List.take_add_one, gy] at hz
            rcases List.mem_append.mp hz with e | e
            · exact h1 z (tk z e hzp)
            · have e : z = y := List.mem_singleton.mp e
              subst e
              exact h2 hzp
          refine ⟨.int y, rfl, .ref a, rfl, a, y, p, rfl, rfl, sqT_same s3 hA, _, rfl, ?_⟩
          by_cases hyp : y ∈ p
          · rw [decide_eq_true hyp]
            refine iteT ⟨.int y, rfl, .ref d, rfl, d, _, rfl, DGet.k (k := Sum.inl y) ed3, _, rfl, ?_⟩
            cases ev : valV (us'.map kO) (Sum.inl y) with
            | some v =>
              refine iteF ?_
              exact ⟨us', _, rfl, s3, hc3, ed3, eL3, bf3, ⟨nw, enw⟩, tkn us' (fun _ z => z) fun _ => valO_in ev⟩
            | none =>
              refine iteT ?_
              have ev' := valO_at bf3.nd (List.mem_of_getElem? gu')
              have hl3 := bf3.len
              have dput : DPut H3 d (kV (Sum.inl y)) (.int ((u.2 : Int) + 1)) (upd H3 d (.dK ((us' ++ [(y, u.2 + 1)]).map kO))) := by
                rw [← putO_new ev]
                exact DPut.k ed3 (by rw [List.length_map]; exact few1 (by omega))
              refine ⟨.ref d, rfl, .int u.1, rfl, d, _, rfl, (by rw [← ev']; exact DGet.k (k := Sum.inl u.1) ed3), _, _, rfl, rfl, .ref d, rfl, .int y, rfl, d, upd H3 d (.dK ((us' ++ [(y, u.2 + 1)]).map kO)), rfl, dput, ?_⟩
              have eL4 : (upd H3 d (.dK ((us' ++ [(y, u.2 + 1)]).map kO))) L = some (.lst ((us'.map (·.1)).map V.int)) := by rw [upd_ne ndL.symm]; exact eL3
              refine ⟨.ref L, rfl, .inl ⟨rfl, _, lstNew eL4⟩, .int y, rfl, L, _, _, rfl, rfl, eL4, by rw [List.length_map, List.length_map]; exact few1 (by omega), ?_⟩
              have s5 : Same H (upd (upd H3 d (.dK ((us' ++ [(y, u.2 + 1)]).map kO))) L (.lst ((us'.map (·.1)).map V.int ++ [.int y]))) := fun b o e => by
                rw [upd_ne (ne_of_none e nLH), upd_ne (ne_of_none e nd)]; exact s3 b o e
              refine ⟨us' ++ [(y, u.2 + 1)], _, rfl, s5, ?_, ?_, ?_, bf3.add gu' ebeh hyp (valO_not ev), ⟨nw ++ [(y, u.2 + 1)], by rw [enw, List.append_assoc]⟩, tkn _ (fun z hz => by rw [List.map_append]; exact List.mem_append_left _ hz) fun _ => by rw [List.map_append]; exact List.mem_append_right _ (List.mem_singleton.mpr rfl)⟩
              · have keep : ∀ b o, H3 b = some o → (∃ xs, o = .tup xs) ∨ (∃ ob xs, o = .frz ob (.tup xs)) → (upd (upd H3 d (.dK ((us' ++ [(y, u.2 + 1)]).map kO))) L (.lst ((us'.map (·.1)).map V.int ++ [.int y]))) b = some o := fun b o e k => by
                  rw [upd_ne (fun z => by rw [z, eL3] at e; cases e; rcases k with ⟨_, k⟩ | ⟨_, _, k⟩ <;> cases k), upd_ne (fun z => by rw [z, ed3] at e; cases e; rcases k with ⟨_, k⟩ | ⟨_, _, k⟩ <;> cases k)]
                  exact e
                rcases hc3 with (z | ⟨ob, z⟩) | z
                · exact .inl (.inl (keep _ _ z (.inl ⟨_, rfl⟩)))
                · exact .inl (.inr ⟨ob, keep _ _ z (.inr ⟨_, _, rfl⟩)⟩)
                · exact .inr z
              · rw [upd_ne ndL, upd_same]
              · rw [upd_same, List.map_append, List.map_append]; rfl
          · rw [decide_eq_false hyp]
            refine iteF (iteF ?_)
            exact ⟨us', _, rfl, s3, hc3, ed3, eL3, bf3, ⟨nw, enw⟩, tkn us' (fun _ z => z) fun z => absurd z hyp⟩
        · obtain ⟨us', y7', rfl, s3, hc3, ed3, eL3, bf3, ⟨nw, enw⟩, tk⟩ := h
          rw [List.length_map, List.take_of_length_le (Nat.le_refl _)] at tk
          refine ⟨.int (at_ : Int), rfl, _, _, rfl, rfl, ⟨us', at_ + 1, _, _, rfl, s3, ed3, eL3, bf3, ?_, fun i v hi hv y hy e => ?_⟩, ?_⟩
          · rw [enw, List.length_append]; omega
          · by_cases ei : i = at_
            · subst ei
              rw [enw, List.getElem?_append_left hlt, gu] at hv
              cases hv
              exact tk y ((mem_behind hP).mpr e) hy
            · rw [enw, List.getElem?_append_left (by omega)] at hv
              have := dn i v (by omega) hv y hy e
              rw [enw, List.map_append]
              exact List.mem_append_left _ this
          · show 8 - ((at_ : Int) + 1).toNat < 8 - ((at_ : Int)).toNat
            have := bf.len
            omega
      · have hge : us.length ≤ at_ := by
          have z : ¬ ((at_ : Int) < (((us.map (·.1)).map V.int).length : Int)) := fun z => hge (decide_eq_true z)
          rw [List.length_map, List.length_map] at z; omega
        refine ⟨.ref d, rfl, q H2 d us s2 nd ed2 ?_⟩
        refine bf.offs kn l8 fun i u hu => ?_
        exact dn i u (by have := (List.getElem?_eq_some_iff.mp hu).1; omega) hu
    · intro σ H1 Q1 Q2 hq h
      obtain ⟨x, e1, y, e2, p, l, e3, e4, i, j, e5, e6, b, e7, h⟩ := h
      exact ⟨x, e1, y, e2, p, l, e3, e4, i, j, e5, e6, b, e7, hq _ _ h⟩
end
end K44
set_option maxHeartbeats 4000000
namespace K44
open PySem PySem.Spec PyProof.Rows L2 RV
section
variable {P : Program} {w : World} {K : PySem.W.Frag} {mg : Str → Option Value} {base : Heap}
/-! ### common_measure -/
theorem scMeasure : FnScope ["one", "other"] ["one", "other"] (defScope sMeasure) := ⟨rfl, rfl, rfl, by decide +kernel, rfl, by decide +kernel, by decide +kernel⟩
def spMeasure : Sp := fun vs H Q _ => ∃ a b : Nat, vs = [.int (a : Int), .int (b : Int)] ∧ Q (.int ((Nat.gcd a b : Nat) : Int)) H
def otherOf : L2.St → Nat
  | [_, some (.int b)] => b.toNat
  | _ => 0
theorem ok_measure {f : Addr} {fd : FuncData} (F : Fun K "common_measure" "common_measure" sMeasure f fd) : FnOk P w K mg base CX0 1 f fd ["one", "other"] spMeasure := by
  refine F.ok scMeasure (fun vs H Q E h => ?_) (fun cdv A outer s H vs Q E hr h => ?_)
  · obtain ⟨a, b, rfl, _⟩ := h
    rfl
  · obtain ⟨a, b, rfl, q⟩ := h
    refine ⟨_, pss_cons (ps_while PassesOwn.never (pt_cmpR op_gt (pv 1) pe_int (nomark _))
        (pss_one (ps_par (i := 0) (j := 1) (by rfl) scMeasure.nd rfl rfl (by decide) rfl rfl (pa_cons (pv 1) (pa_cons (pe_op op_mod (pv 0) (pv 1)) pa_nil)) (by rfl))))
      (pss_one (ps_ret (pv 0))), ?_⟩
    refine while_by (fun σ H' => ∃ c d : Nat, σ = [some (.int (c : Int)), some (.int (d : Int))] ∧ H' = H ∧ Nat.gcd c d = Nat.gcd a b) (fun σ _ => otherOf σ) ?_ ?_ ?_
    · exact ⟨a, b, rfl, rfl, rfl⟩
    · rintro σ H1 ⟨c, d, rfl, rfl, e⟩
      refine ⟨.int (d : Int), rfl, _, _, rfl, rfl, _, rfl, ite2 (fun h0 => ?_) (fun h0 => ?_)⟩
      · have h0 : (d : Int) > 0 := of_decide_eq_true h0
        refine ⟨.int (d : Int), rfl, .int (c : Int), rfl, .int (d : Int), rfl, _, _, rfl, rfl, h0, _, _, rfl, ⟨d, c % d, rfl, rfl, ?_⟩, ?_⟩
        · rw [← e, Nat.gcd_comm d (c % d), ← Nat.gcd_rec, Nat.gcd_comm]
        · show ((c : Int) % (d : Int)).toNat < ((d : Int)).toNat
          have := Int.emod_lt_of_pos (c : Int) h0
          have := Int.emod_nonneg (c : Int) (show (d : Int) ≠ 0 by omega)
          omega
      · have h0 : d = 0 := by
          have z : ¬ ((d : Int) > 0) := fun z => h0 (decide_eq_true z)
          omega
        subst h0
        rw [Nat.gcd_zero_right] at e
        refine ⟨.int (c : Int), rfl, ?_⟩
        rw [e]; exact q
    · intro σ H1 Q1 Q2 hq h
      obtain ⟨x, e1, i, j, e5, e6, b, e7, h⟩ := h
      exact ⟨x, e1, i, j, e5, e6, b, e7, hq _ _ h⟩
/-! ### period -/
theorem scPeriod : FnScope ["rule", "part", "marks", "off", "found", "a", "b"] ["rule", "part"] (defScope sPeriod) := ⟨rfl, rfl, rfl, by decide +kernel, rfl, by decide +kernel, by decide +kernel⟩
def spPeriod (K : PySem.W.Frag) (C : Addr) : Sp := fun vs H Q _ => ∃ (r : Addr) (k : Nat) (ns : List Int) (ps : List (List Int)) (p : List Int), vs = [.ref r, .int (k : Int)] ∧ RuleAt K C H r ns ps ∧ Mir ns ∧ Stp ns ps ∧ (partsOf ps ns.length)[k]? = some p ∧
  ∀ H', Same H H' → Per ps (hd0 p) (perN ps (hd0 p)) → Q (.int ((perN ps (hd0 p) : Nat) : Int)) H'
theorem abs_gap (a b : Nat) : (if ((a : Int) + 1 - (b : Int)) < 0 then -((a : Int) + 1 - (b : Int)) else ((a : Int) + 1 - (b : Int))) = ((gapO a b : Nat) : Int) := by
  unfold gapO
  split <;> omega
theorem ok_period {f C fP fO fM : Addr} {fd dP dO dM : FuncData} (F : Fun K "period" "period" sPeriod f fd) (T : Txt K mg C) (B : Bare mg) (DP : DefAt K mg "parts" sParts ["rule"] fP dP) (GP : FnOk P w K mg base CX0 3 fP dP ["rule"] (spParts K C))
    (DO : DefAt K mg "steps_off" sOff ["rule", "marks"] fO dO) (GO : FnOk P w K mg base CX0 2 fO dO ["rule", "marks"] (spOff K C)) (DM : DefAt K mg "common_measure" sMeasure ["one", "other"] fM dM) : FnOk P w K mg base CX0 4 f fd ["rule", "part"] (spPeriod K C) := by
  have GM : FnOk P w K mg base CX0 1 fM dM ["one", "other"] spMeasure := ok_measure DM.fn
  refine F.ok scPeriod (fun vs H Q E h => ?_) (fun cdv A outer s H vs Q E hr h => ?_)
  · obtain ⟨r, k, ns, ps, p, rfl, _⟩ := h
    rfl
  · obtain ⟨r, k, ns, ps, p, rfl, R, M, S, gk, q⟩ := h
    have hu := hu_of hr
    have hu5 := un65 hr
    have hr1 := hr.mono (show 1 ≤ 3 by decide)
    have hr2 := hr.mono (show 2 ≤ 3 by decide)
    refine ⟨_, pss_cons (ps_set (i := 2) scPeriod.nd rfl (Or.inl rfl) (pe_ix ix_tup (pe_call GP hr (by rfl) DP.mg DP.fn.kp DP.bi .nil pass0 (pa_cons (pv 0) pa_nil)) (pv 1) (fun _ _ => rfl)))
      (pss_cons (ps_set (i := 3) scPeriod.nd rfl (Or.inl rfl) (pe_call GO hr2 (by rfl) DO.mg DO.fn.kp DO.bi .nil pass0 (pa_cons (pv 0) (pa_cons (pv 2) pa_nil))))
      (pss_cons (ps_set (i := 4) scPeriod.nd rfl (Or.inl rfl) pe_int)
      (pss_cons (ps_for PassesOwn.never rfl (pi_tup (pe_fld (pv 0) rfl)) (pg_tup rfl (pgs_cons (pg_name (i := 5) scPeriod.nd rfl (Or.inl rfl)) (pgs_cons (pg_name (i := 6) scPeriod.nd rfl (Or.inl rfl)) pgs_nil)))
        (pss_one (ps_if (PW.pt (pw_and (pt_cmpR (op_inTI hu5) (pv 5) (pv 2) (by rfl)) (pw_and1 (pt_cmpR (op_inTI hu5) (pv 6) (pv 2) (by rfl)))))
          (pss_one (ps_set (i := 4) scPeriod.nd rfl (Or.inl rfl) (pe_call GM hr1 (by rfl) DM.mg DM.fn.kp DM.bi .nil pass0 (pa_cons (pv 4) (pa_cons (pe_callB call_abs (by rfl) B.abs (by decide +kernel) (pa_cons (pe_op op_sub (pe_op op_add (pe_dget hu (pv 3) (pv 5) (fun _ _ => rfl)) pe_int) (pe_dget hu (pv 3) (pv 6) (fun _ _ => rfl))) pa_nil)) pa_nil))))) pss_nil)))
      (pss_one (ps_ret (pv 4)))))), ?_⟩
    have h8 := M.few
    have hP : ∀ q ∈ ps, Pr (ns.length : Int) q := fun q hq => S.pair q hq
    have hp := List.mem_of_getElem? gk
    refine ⟨.ref r, rfl, r, ns, ps, rfl, R, M, S, fun H1 c s1 nc hC => ?_⟩
    obtain ⟨ks, ek, hc, hks⟩ := hC
    have gk' : (ks.map (·.2))[k]? = some p := by rw [ek]; exact gk
    obtain ⟨kk, g, ekk⟩ := map_at gk'
    have hT1 : SqT K H1 kk.1 (p.map V.int) := by rw [ekk]; exact (hks kk (List.mem_of_getElem? g)).sq
    refine ⟨.int (k : Int), rfl, c, _, _, .ref kk.1, rfl, rfl, tupNew hc, atI_nat (by rw [List.getElem?_map, g]; rfl), ?_⟩
    refine ⟨.ref r, rfl, .ref kk.1, rfl, r, kk.1, ns, ps, p, rfl, R.same s1, M, S, hp, hT1, fun H2 d us s2 nd ed O => ?_⟩
    have s02 := s1.trans s2
    obtain ⟨dx, a0, b0, t0, g1, g2, g3, g4⟩ := (R.same s02).ex
    obtain ⟨js, ej, hb, hjs⟩ := g3
    refine ⟨.ref r, rfl, r, C, dx, _, _, rfl, g1, T.cl, T.nS, flds_s _ _ _, b0, rfl, ⟨_, hb⟩, ?_⟩
    refine for_it (walk_tup (K := K) (a := b0) (xs := js.map fun p => V.ref p.1)) (fun i σ H' => ∃ (g : Nat) (y5 y6 : Option V), σ = [some (.ref r), some (.int (k : Int)), some (.ref kk.1), some (.ref d), some (.int (g : Int)), y5, y6] ∧ H' = H2 ∧ Gf ps p us (ps.take i) g)
      ⟨0, none, none, rfl, rfl, Gf.nil⟩ (fun i σ H' _ h => ?_) (fun i z σ H4 H3 hi h y => ?_) (fun σ H3 h => ?_)
    · obtain ⟨_, _, _, _, rfl, _⟩ := h
      exact hb
    · obtain ⟨g0, y5, y6, rfl, rfl, G⟩ := h
      obtain ⟨rfl, gz⟩ := y
      obtain ⟨j, gj, rfl⟩ := map_at gz
      have hj : j ∈ js := List.mem_of_getElem? gj
      have hjp : j.2 ∈ ps := by rw [← ej]; exact List.mem_map_of_mem hj
      obtain ⟨x, y, e, _⟩ := S.pair j.2 hjp
      have hjT : SqT K H3 j.1 ([x, y].map V.int) := by rw [← e]; exact hjs j hj
      have gi : ps[i]? = some [x, y] := by rw [← ej, List.getElem?_map, gj, ← e]; rfl
      have tk : ps.take (i + 1) = ps.take i ++ [[x, y]] := by rw [List.take_add_one, gi]; rfl
      have hTp := sqT_same s2 hT1
      refine ⟨j.1, _, rfl, hjT, rfl, _, _, rfl, _, _, rfl, rfl, ?_⟩
      refine ⟨.int x, rfl, .ref kk.1, rfl, kk.1, x, p, rfl, rfl, hTp, _, rfl, ?_⟩
      by_cases hx : x ∈ p
      · rw [decide_eq_true hx]
        refine iteT ⟨.int y, rfl, .ref kk.1, rfl, kk.1, y, p, rfl, rfl, hTp, _, rfl, ?_⟩
        by_cases hy : y ∈ p
        · rw [decide_eq_true hy]
          obtain ⟨a, ha, _, _⟩ := O.get hx
          obtain ⟨b, hb', _, _⟩ := O.get hy
          have ea := valO_at O.nd ha
          have eb := valO_at O.nd hb'
          refine iteT ⟨.int (g0 : Int), rfl, .ref d, rfl, .int x, rfl, d, _, rfl, (by rw [← ea]; exact DGet.k (k := Sum.inl x) ed), _, _, rfl, rfl, .ref d, rfl, .int y, rfl, d, _, rfl, (by rw [← eb]; exact DGet.k (k := Sum.inl y) ed), _, _, rfl, rfl, _, rfl, g0, gapO a b, ?_, ?_⟩
          · rw [abs_gap]; rfl
          · refine ⟨_, _, _, rfl, rfl, ?_⟩
            rw [tk]
            exact G.add O hx hy ha hb'
        · rw [decide_eq_false hy]
          refine iteF ⟨g0, _, _, rfl, rfl, ?_⟩
          rw [tk]
          exact G.skip fun z => hy z.2
      · rw [decide_eq_false hx]
        refine iteF (iteF ⟨g0, _, _, rfl, rfl, ?_⟩)
        rw [tk]
        exact G.skip fun z => hx z.1
    · obtain ⟨g0, y5, y6, rfl, rfl, G⟩ := h
      have ef : ps.take (js.map fun p => V.ref p.1).length = ps := by
        rw [List.length_map]
        have lj : js.length = ps.length := by rw [← ej, List.length_map]
        exact List.take_of_length_le (by omega)
      rw [ef] at G
      have per := G.per O (knot_of hP hp) hP h8 fun m hm => part_bd hp hm
      have e := per.is
      refine ⟨.int (g0 : Int), rfl, ?_⟩
      have z := q H3 s02 (by rw [e]; exact per)
      rw [e] at z
      exact z
end
end K44
set_option maxHeartbeats 4000000
namespace K44
open PySem PySem.Spec PyProof.Rows L2 RV
/-- the class of a mark -/
noncomputable def clsM (ps : List (List Int)) (n : Nat) (m : Int) : Nat := clsN ps (hd0 (lotOf ps n m)) (perN ps (hd0 (lotOf ps n m))) m
noncomputable def clsL (ps : List (List Int)) (n : Nat) (p : List Int) : List Int := p.map fun m => ((clsM ps n m : Nat) : Int)
theorem clsM_of {ps : List (List Int)} {n : Nat} {p : List Int} {m : Int} (hp : p ∈ partsOf ps n) (hm : m ∈ p) : clsM ps n m = clsN ps (hd0 p) (perN ps (hd0 p)) m := by
  unfold clsM
  rw [part_lot hp hm]
section
variable {P : Program} {w : World} {K : PySem.W.Frag} {mg : Str → Option Value} {base : Heap}
/-! ### classes -/
theorem scClasses : FnScope ["rule", "part", "marks", "off", "its_period", "mark"] ["rule", "part"] (defScope sClasses) := ⟨rfl, rfl, rfl, by decide +kernel, rfl, by decide +kernel, by decide +kernel⟩
def spClasses (K : PySem.W.Frag) (C : Addr) : Sp := fun vs H Q _ => ∃ (r : Addr) (k : Nat) (ns : List Int) (ps : List (List Int)) (p : List Int), vs = [.ref r, .int (k : Int)] ∧ RuleAt K C H r ns ps ∧ Mir ns ∧ Stp ns ps ∧ (partsOf ps ns.length)[k]? = some p ∧
  ∀ (H' : Hp) (c : Addr), Same H H' → H c = none → H' c = some (.tup ((clsL ps ns.length p).map V.int)) → Per ps (hd0 p) (perN ps (hd0 p)) → Q (.ref c) H'
theorem ok_classes {f C fP fO fM : Addr} {fd dP dO dM : FuncData} (F : Fun K "classes" "classes" sClasses f fd) (B : Bare mg) (DP : DefAt K mg "parts" sParts ["rule"] fP dP) (GP : FnOk P w K mg base CX0 3 fP dP ["rule"] (spParts K C))
    (DO : DefAt K mg "steps_off" sOff ["rule", "marks"] fO dO) (GO : FnOk P w K mg base CX0 2 fO dO ["rule", "marks"] (spOff K C)) (DM : DefAt K mg "period" sPeriod ["rule", "part"] fM dM) (GM : FnOk P w K mg base CX0 4 fM dM ["rule", "part"] (spPeriod K C)) : FnOk P w K mg base CX0 5 f fd ["rule", "part"] (spClasses K C) := by
  refine F.ok scClasses (fun vs H Q E h => ?_) (fun cdv A outer s H vs Q E hr h => ?_)
  · obtain ⟨r, k, ns, ps, p, rfl, _⟩ := h
    rfl
  · obtain ⟨r, k, ns, ps, p, rfl, R, M, S, gk, q⟩ := h
    have hu := hu_of hr
    have hr2 := hr.mono (show 2 ≤ 4 by decide)
    have hr3 := hr.mono (show 3 ≤ 4 by decide)
    refine ⟨_, pss_cons (ps_set (i := 2) scClasses.nd rfl (Or.inl rfl) (pe_ix ix_tup (pe_call GP hr3 (by rfl) DP.mg DP.fn.kp DP.bi .nil pass0 (pa_cons (pv 0) pa_nil)) (pv 1) (fun _ _ => rfl)))
      (pss_cons (ps_set (i := 3) scClasses.nd rfl (Or.inr rfl) (pe_call GO hr2 (by rfl) DO.mg DO.fn.kp DO.bi .nil pass0 (pa_cons (pv 0) (pa_cons (pv 2) pa_nil))))
      (pss_cons (ps_set (i := 4) scClasses.nd rfl (Or.inr rfl) (pe_call GM hr (by rfl) DM.mg DM.fn.kp DM.bi .nil pass0 (pa_cons (pv 0) (pa_cons (pv 1) pa_nil))))
      (pss_one (ps_ret (pe_tupleOf (by rfl) B.tuple
        (pe_lc (own := [("mark", 5)]) (g := gName 5) (tt := tYes) rfl scClasses.nd (pi_tup (pv 2)) (blkOk_by (N := ["rule", "part", "marks", "off", "its_period", "mark"]) (sc := defScope sClasses) (by decide +kernel))
          (fun _ _ _ _ _ => pg_name (i := 5) scClasses.nd rfl (Or.inl rfl)) (fun _ _ _ _ _ => pts_nil) (fun _ _ _ _ _ => pe_op op_mod (pe_dget hu (pv 3) (pv 5) (fun _ _ => rfl)) (pv 4)))))))), ?_⟩
    have h8 := M.few
    have hP : ∀ q ∈ ps, Pr (ns.length : Int) q := fun q hq => S.pair q hq
    have hp := List.mem_of_getElem? gk
    have kn := knot_of hP hp
    refine ⟨.ref r, rfl, r, ns, ps, rfl, R, M, S, fun H1 c s1 nc hC => ?_⟩
    obtain ⟨ks, ek, hc, hks⟩ := hC
    have gk' : (ks.map (·.2))[k]? = some p := by rw [ek]; exact gk
    obtain ⟨kk, g, ekk⟩ := map_at gk'
    have hT1 : SqT K H1 kk.1 (p.map V.int) := by rw [ekk]; exact (hks kk (List.mem_of_getElem? g)).sq
    refine ⟨.int (k : Int), rfl, c, _, _, .ref kk.1, rfl, rfl, tupNew hc, atI_nat (by rw [List.getElem?_map, g]; rfl), ?_⟩
    refine ⟨.ref r, rfl, .ref kk.1, rfl, r, kk.1, ns, ps, p, rfl, R.same s1, M, S, hp, hT1, fun H2 d us s2 nd ed O => ?_⟩
    have s02 := s1.trans s2
    refine ⟨.ref r, rfl, .int (k : Int), rfl, r, k, ns, ps, p, rfl, R.same s02, M, S, gk, fun H3 s3 per => ?_⟩
    obtain ⟨hx0, hl0⟩ := part_hd_in hp
    have hxl : hd0 p ∈ lotOf ps ns.length (hd0 p) := by rw [hl0]; exact hx0
    have pos : 0 < perN ps (hd0 p) := per.pos (lot_some hxl)
    have s03 := s02.trans s3
    have hT3 := sqT_same (s2.trans s3) hT1
    have ed3 := s3 _ _ ed
    have l8 := part_len8 h8 hp
    refine ⟨.ref kk.1, rfl, kk.1, rfl, ⟨_, hT3⟩, fun D nD => ?_⟩
    refine lc_tup (K := K) (a := kk.1) (xs := p.map V.int) (fun i H' => Same H3 H' ∧ H' D = some (.lst ((clsL ps ns.length (p.take i)).map V.int))) ⟨same_upd nD, by rw [upd_same]; rfl⟩ (fun i H' _ h => sqT_same h.1 hT3) (fun i x H' hx h => ?_) fun H4 h => ?_
    · obtain ⟨m, gm, rfl⟩ := map_at hx
      have hm := List.mem_of_getElem? gm
      obtain ⟨o, ho, wo, _⟩ := O.get hm
      have eo := valO_at O.nd ho
      refine ⟨rfl, tt_yes ⟨.ref d, rfl, .int m, rfl, d, _, rfl, (by rw [← eo]; exact DGet.k (k := Sum.inl m) (h.1 _ _ ed3)), .int ((perN ps (hd0 p) : Nat) : Int), rfl, _, _, rfl, rfl, (by show (0 : Int) < ((perN ps (hd0 p) : Nat) : Int); omega), _, h.2, ?_, fun b o' z => ?_, ?_⟩⟩
      · rw [List.length_map]
        unfold clsL
        rw [List.length_map, List.length_take]; exact few1 (by omega)
      · rw [upd_ne (ne_of_none z nD)]; exact h.1 b o' z
      · have ec : ((o : Int) % ((perN ps (hd0 p) : Nat) : Int)) = ((clsM ps ns.length m : Nat) : Int) := by
          rw [clsM_of hp hm, ← per.cls wo (kn.back m hm)]
          exact (Int.natCast_emod _ _).symm
        rw [upd_same, List.take_add_one, gm]
        unfold clsL
        rw [List.map_append, List.map_append]
        show some (HO.lst (_ ++ [V.int ((o : Int) % ((perN ps (hd0 p) : Nat) : Int))])) = some (HO.lst (_ ++ [V.int ((clsM ps ns.length m : Nat) : Int)]))
        rw [ec]
    · rw [List.length_map, List.take_of_length_le (Nat.le_refl _)] at h
      refine .inl ⟨D, _, rfl, lstNew h.2, fun c2 nc2 => ?_⟩
      have s4 := s03.trans h.1
      exact q _ c2 (s4.trans (same_upd nc2)) (s4.free nc2) upd_same per
/-! ### class_of -/
theorem scClassOf : FnScope ["rule", "mark", "part", "at"] ["rule", "mark"] (defScope sClassOf) := ⟨rfl, rfl, rfl, by decide +kernel, rfl, by decide +kernel, by decide +kernel⟩
def spClassOf (K : PySem.W.Frag) (C : Addr) : Sp := fun vs H Q _ => ∃ (r : Addr) (m : Int) (ns : List Int) (ps : List (List Int)), vs = [.ref r, .int m] ∧ RuleAt K C H r ns ps ∧ Mir ns ∧ Stp ns ps ∧ (0 ≤ m ∧ m < (ns.length : Int)) ∧ Rch ps m m ∧
  ∀ H', Same H H' → Q (.int ((clsM ps ns.length m : Nat) : Int)) H'
theorem ok_classOf {f C fP fO fM : Addr} {fd dP dO dM : FuncData} (F : Fun K "class_of" "class_of" sClassOf f fd) (DP : DefAt K mg "parts" sParts ["rule"] fP dP) (GP : FnOk P w K mg base CX0 3 fP dP ["rule"] (spParts K C))
    (DO : DefAt K mg "part_of" sPartOf ["rule", "mark"] fO dO) (GO : FnOk P w K mg base CX0 4 fO dO ["rule", "mark"] (spPartOf K C)) (DM : DefAt K mg "classes" sClasses ["rule", "part"] fM dM) (GM : FnOk P w K mg base CX0 5 fM dM ["rule", "part"] (spClasses K C)) : FnOk P w K mg base CX0 6 f fd ["rule", "mark"] (spClassOf K C) := by
  refine F.ok scClassOf (fun vs H Q E h => ?_) (fun cdv A outer s H vs Q E hr h => ?_)
  · obtain ⟨r, m, ns, ps, rfl, _⟩ := h
    rfl
  · obtain ⟨r, m, ns, ps, rfl, R, M, S, hm, rc, q⟩ := h
    have hu5 := un65 hr
    have hr3 := hr.mono (show 3 ≤ 5 by decide)
    have hr4 := hr.mono (show 4 ≤ 5 by decide)
    refine ⟨_, pss_cons (ps_set (i := 2) scClassOf.nd rfl (Or.inl rfl) (pe_call GO hr4 (by rfl) DO.mg DO.fn.kp DO.bi .nil pass0 (pa_cons (pv 0) (pa_cons (pv 1) pa_nil))))
      (pss_cons (ps_set (i := 3) scClassOf.nd rfl (Or.inl rfl) (pe_bmT PySem.F.slot_tuple_index PySem.F.type_tuple_index (mt_indexI hu5) (pe_ix ix_tup (pe_call GP hr3 (by rfl) DP.mg DP.fn.kp DP.bi .nil pass0 (pa_cons (pv 0) pa_nil)) (pv 2) (fun _ _ => rfl)) (pa_cons (pv 1) pa_nil)))
      (pss_one (ps_ret (pe_ix ix_tup (pe_call GM hr (by rfl) DM.mg DM.fn.kp DM.bi .nil pass0 (pa_cons (pv 0) (pa_cons (pv 2) pa_nil))) (pv 3) (fun _ _ => rfl))))), ?_⟩
    refine ⟨.ref r, rfl, .int m, rfl, r, m, ns, ps, rfl, R, M, S, hm, fun H1 v s1 hv => ?_⟩
    rcases hv with ⟨no, _⟩ | ⟨k, gk, _, rfl⟩
    · exact absurd rc no
    have hin := lot_self hm rc
    have hp := List.mem_of_getElem? gk
    obtain ⟨j, hj, ej⟩ := List.getElem_of_mem hin
    have gj : (lotOf ps ns.length m)[j]? = some m := by rw [List.getElem?_eq_getElem hj, ej]
    have fst : ∀ i, i < j → (lotOf ps ns.length m)[i]? ≠ some m := fun i hi e => by
      obtain ⟨hi2, e2⟩ := List.getElem?_eq_some_iff.mp e
      have := List.pairwise_iff_getElem.mp (lot_rise ps ns.length m) i j hi2 hj hi
      rw [e2, ej] at this
      omega
    refine ⟨.ref r, rfl, r, ns, ps, rfl, R.same s1, M, S, fun H2 c s2 nc hC => ?_⟩
    obtain ⟨ks, ek, hc, hks⟩ := hC
    have gk' : (ks.map (·.2))[k]? = some (lotOf ps ns.length m) := by rw [ek]; exact gk
    obtain ⟨kk, g, ekk⟩ := map_at gk'
    have hT := hks kk (List.mem_of_getElem? g)
    rw [← ekk] at hT
    have s02 := s1.trans s2
    refine ⟨.int (k : Int), rfl, c, _, _, .ref kk.1, rfl, rfl, tupNew hc, atI_nat (by rw [List.getElem?_map, g]; rfl), ⟨kk.1, _, rfl, hT⟩, .int m, rfl, kk.1, _, m, j, rfl, rfl, hT.sq, gj, fst, ?_⟩
    refine ⟨.ref r, rfl, .int (k : Int), rfl, r, k, ns, ps, _, rfl, R.same s02, M, S, gk, fun H3 c3 s3 nc3 e3 per => ?_⟩
    refine ⟨.int (j : Nat), rfl, c3, _, _, _, rfl, rfl, tupNew e3, atI_nat (by unfold clsL; rw [List.getElem?_map, List.getElem?_map, gj]; rfl), q H3 (s02.trans s3)⟩
/-! ### turning -/
theorem scTurning : FnScope ["rule", "part", "mark"] ["rule", "part"] (defScope sTurning) := ⟨rfl, rfl, rfl, by decide +kernel, rfl, by decide +kernel, by decide +kernel⟩
noncomputable def turnN (ns : List Int) (ps : List (List Int)) (p : List Int) : Int := ((clsM ps ns.length (hd0 p) : Nat) + (clsM ps ns.length (ns.getD (hd0 p).toNat 0) : Nat) : Int) % ((perN ps (hd0 p) : Nat) : Int)
def spTurning (K : PySem.W.Frag) (C : Addr) : Sp := fun vs H Q _ => ∃ (r : Addr) (k : Nat) (ns : List Int) (ps : List (List Int)) (p : List Int), vs = [.ref r, .int (k : Int)] ∧ RuleAt K C H r ns ps ∧ Mir ns ∧ Stp ns ps ∧ (partsOf ps ns.length)[k]? = some p ∧
  ∀ H', Same H H' → Q (.int (turnN ns ps p)) H'
theorem ok_turning {f C fP fO fM fR : Addr} {fd dP dO dM dR : FuncData} (F : Fun K "turning" "turning" sTurning f fd) (T : Txt K mg C) (DP : DefAt K mg "parts" sParts ["rule"] fP dP) (GP : FnOk P w K mg base CX0 3 fP dP ["rule"] (spParts K C))
    (DO : DefAt K mg "class_of" sClassOf ["rule", "mark"] fO dO) (GO : FnOk P w K mg base CX0 6 fO dO ["rule", "mark"] (spClassOf K C)) (DM : DefAt K mg "period" sPeriod ["rule", "part"] fM dM) (GM : FnOk P w K mg base CX0 4 fM dM ["rule", "part"] (spPeriod K C))
    (FR : Fun K "mirror" "Rule.mirror" sMirrorM fR dR) (bR : Binds K dR ["self", "mark"] []) (mR : Meth K C "mirror" fR) : FnOk P w K mg base CX0 7 f fd ["rule", "part"] (spTurning K C) := by
  have GR : FnOk P w K mg base CX0 1 fR dR ["self", "mark"] (spMirrorM K C) := ok_mirrorM FR T
  refine F.ok scTurning (fun vs H Q E h => ?_) (fun cdv A outer s H vs Q E hr h => ?_)
  · obtain ⟨r, k, ns, ps, p, rfl, _⟩ := h
    rfl
  · obtain ⟨r, k, ns, ps, p, rfl, R, M, S, gk, q⟩ := h
    have hr1 := hr.mono (show 1 ≤ 6 by decide)
    have hr3 := hr.mono (show 3 ≤ 6 by decide)
    have hr4 := hr.mono (show 4 ≤ 6 by decide)
    refine ⟨_, pss_cons (ps_set (i := 2) scTurning.nd rfl (Or.inl rfl) (pe_ix ix_tup (pe_ix ix_tup (pe_call GP hr3 (by rfl) DP.mg DP.fn.kp DP.bi .nil pass0 (pa_cons (pv 0) pa_nil)) (pv 1) (fun _ _ => rfl)) pe_int (fun _ _ => rfl)))
      (pss_one (ps_ret (pe_op op_mod (pe_op op_add (pe_call GO hr (by rfl) DO.mg DO.fn.kp DO.bi .nil pass0 (pa_cons (pv 0) (pa_cons (pv 2) pa_nil))) (pe_call GO hr (by rfl) DO.mg DO.fn.kp DO.bi .nil pass0 (pa_cons (pv 0) (pa_cons (pe_meth (pv 0) T.cl mR GR hr1 bR .nil pass0 (pa_cons (pv 2) pa_nil)) pa_nil))))
        (pe_call GM hr4 (by rfl) DM.mg DM.fn.kp DM.bi .nil pass0 (pa_cons (pv 0) (pa_cons (pv 1) pa_nil)))))), ?_⟩
    have hp := List.mem_of_getElem? gk
    obtain ⟨hx, hl⟩ := part_hd_in hp
    have bx := part_bd hp hx
    have hxl : hd0 p ∈ lotOf ps ns.length (hd0 p) := by rw [hl]; exact hx
    have rx := lot_some hxl
    obtain ⟨mx, gm⟩ : ∃ m, ns[(hd0 p).toNat]? = some m := ⟨_, List.getElem?_eq_getElem (by omega)⟩
    have em : ns.getD (hd0 p).toNat 0 = mx := by rw [List.getD_eq_getElem?_getD, gm]; rfl
    have imx := M.inn mx (List.mem_of_getElem? gm)
    have rmx := lot_some (lot_mirror M S bx.1 gm gm hxl)
    refine ⟨.ref r, rfl, r, ns, ps, rfl, R, M, S, fun H1 c s1 nc hC => ?_⟩
    obtain ⟨ks, ek, hc, hks⟩ := hC
    have gk' : (ks.map (·.2))[k]? = some p := by rw [ek]; exact gk
    obtain ⟨kk, g, ekk⟩ := map_at gk'
    have hT1 : SqT K H1 kk.1 (p.map V.int) := by rw [ekk]; exact (hks kk (List.mem_of_getElem? g)).sq
    have hx0 : (p.map V.int)[0]? = some (.int (hd0 p)) := by
      cases e : p with
      | nil => exact absurd e (part_ne hp)
      | cons x l => rfl
    refine ⟨.int (k : Int), rfl, c, _, _, .ref kk.1, rfl, rfl, tupNew hc, atI_nat (by rw [List.getElem?_map, g]; rfl), kk.1, _, 0, .int (hd0 p), rfl, rfl, hT1, atI_nat (j := 0) hx0, ?_⟩
    refine ⟨.ref r, rfl, .int (hd0 p), rfl, r, hd0 p, ns, ps, rfl, R.same s1, M, S, bx, rx, fun H2 s2 => ?_⟩
    have s02 := s1.trans s2
    obtain ⟨dx, a0, b0, t0, g1, _⟩ := (R.same s02).ex
    have fno := flds_no a0 b0 t0 (m := "mirror") (by decide +kernel) (by decide +kernel) (by decide +kernel)
    refine ⟨.ref r, rfl, .ref r, rfl, r, dx, _, rfl, g1, fno, .int (hd0 p), rfl, r, ns, ps, (hd0 p).toNat, mx, by rw [Int.toNat_of_nonneg bx.1]; rfl, R.same s02, gm, ?_⟩
    refine ⟨r, mx, ns, ps, rfl, R.same s02, M, S, imx, rmx, fun H3 s3 => ⟨_, _, rfl, rfl, ?_⟩⟩
    have s03 := s02.trans s3
    refine ⟨.ref r, rfl, .int (k : Int), rfl, r, k, ns, ps, p, rfl, R.same s03, M, S, gk, fun H4 s4 per => ?_⟩
    have pos := per.pos rx
    refine ⟨_, _, rfl, rfl, (by show (0 : Int) < ((perN ps (hd0 p) : Nat) : Int); omega), ?_⟩
    have z := q H4 (s03.trans s4)
    unfold turnN at z
    rw [em] at z
    exact z
end
end K44
set_option maxHeartbeats 4000000
/-! {elt for a in x for b in y}: ints, two clauses, no tests -/
namespace RV
open PySem PySem.Spec PyProof.Rows L2
/-- two clauses, no tests -/
abbrev sc2 (el ta ia tb ib : Expr) (sco : Scope) (p : Pos) : Expr := .SetComp el [⟨ta, ia, [], 0⟩, ⟨tb, ib, [], 0⟩] sco p
/-- the code of a comprehension's turn: store what comes, then body -/
def turnOf (p : Pos) (tg : Expr) (it : Value) (env : Env) (rest : Sem Fin) : Sem Fin := standAt p >>= fun _ => pyNext it >>= fun r => match r with
  | none => pure (.done .next)
  | some v => letOwnedTupleGo tg it v >>= fun _ => assign tg env v >>= fun _ => rest
/-- a loop of a comprehension's block whose turns are of that form -/
theorem walk {Y : Cx} {el ta ia t1 ib tg : Expr} {sco : Scope} {pp : Pos} {d : Nat} {it : Addr} {acc : Value} {p : Pos} {rest : Sem Fin} {fp : List Addr} {tn : Nat → Heap → Prop} {J : It} {pins : List (Addr × Obj)} {σ0 : L2.St} {H0 : Hp} {s0 : Shared} {g : TG} {tb : L2.St → Hp → (Hp → Prop) → Prop} {R : Result → Shared → Prop}
    (hc : Y.calm = true) (T : Turn Y.prog Y.w Y.K tg J fp it tn) (form : compTurn (sc2 el ta ia t1 ib sco pp) d (.ref it) acc Y.env = turnOf p tg (.ref it) Y.env rest)
    (fpok : ∀ {H s}, Inv Y pins σ0 H s → (∀ b ∈ fp, H b = none) → ∀ b ∈ fp, FpOk Y pins H b) (pg : PG Y tg g) (noerr : ∀ e s, Y.xe e s → False)
    (hb : ∀ (pins' : List (Addr × Obj)) (σ2 : L2.St) (H2 : Hp) (s2 : Shared) (Nx : Hp → Prop), Inv Y pins' σ2 H2 s2 → tb σ2 H2 Nx → wpAny (model Y.prog Y.w) Y.A rest (fun fin s3 => fin = .again (.compLoop (sc2 el ta ia t1 ib sco pp) d (.ref it) acc Y.env) ∧ ∃ H3, Inv Y pins' σ0 H3 s3 ∧ Nx H3) (fun _ _ => False) s2)
    (W : Nat → Nat → Hp → Prop) {m0 : Nat} (I0 : Inv Y pins σ0 H0 s0) (t0 : tn 0 s0.heap) (n0 : ∀ b ∈ fp, H0 b = none) (w0 : W 0 m0 H0)
    (turn : ∀ i m H, W i m H → (J.stop i H ∧ ∀ s, Inv Y pins σ0 H s → R (.ok .next) s) ∨ (J.go i H ∧ ∃ Nx : Hp → Prop, (∀ H', Nx H' → ∃ m', m' < m ∧ W (i + 1) m' H') ∧ ∀ x H', J.yld i H x H' → g x σ0 H' fun σ2 H2 => tb σ2 H2 Nx)) :
    codeAny (model Y.prog Y.w) Y.A (.compLoop (sc2 el ta ia t1 ib sco pp) d (.ref it) acc Y.env) R s0 := by
  refine codeAny_loop rfl (fun n s => ∃ i H, Inv Y pins σ0 H s ∧ tn i s.heap ∧ (∀ b ∈ fp, H b = none) ∧ W i n H) (fun n s h => ?_) m0 ⟨0, H0, I0, t0, n0, w0⟩
  obtain ⟨i, H, I, st, nf, hw⟩ := h
  show wpAny (model Y.prog Y.w) Y.A ((compTurn (sc2 el ta ia t1 ib sco pp) d (.ref it) acc Y.env).onRaise fun x => do noteFrame x Y.env; theTreesLotGoes x) _ _ s
  refine wpAny_noted ?_
  rw [form]
  refine wpAny_bind (wpAny_standAt (wpAny_bind ?_))
  rcases turn i n H hw with ⟨stop, fin⟩ | ⟨go, Nx, hNx, step⟩
  · refine thnF (T.done Y rfl rfl rfl hc i pins s σ0 H (fun _ _ => False) I (fpok I nf) st stop) fun r s1 ⟨hr, I1⟩ => ?_
    subst hr
    exact wpAny_pure (fin s1 I1)
  · refine thnF (T.item Y rfl rfl rfl hc i pins s σ0 H (fun _ _ => False) I (fpok I nf) st go) fun r s1 ⟨u, hr, h1⟩ => ?_
    subst hr
    refine wpAny_bind (thnF h1 fun _ s2 ⟨x, H2, I2, rx, yx, st2, nf2⟩ => ?_)
    have J2 := I2.pinned (fpok I2 nf2) (T.obj _ _ st2)
    refine wpAny_bind (wpAny_mono (pg.run _ s2 σ0 H2 x u _ J2 rx (step x H2 yx)) (fun _ s3 h3 => ?_) fun e s' z => (noerr e s' z).elim)
    obtain ⟨σ3, H3, I3, b3⟩ := h3
    refine thnF (hb _ σ3 H3 s3 Nx I3 b3) fun fin s4 ⟨ef, H4, I4, nx⟩ => ?_
    subst ef
    refine ⟨rfl, ?_⟩
    obtain ⟨m', lt, w'⟩ := hNx H4 nx
    have held : ∀ b ∈ fp, ∀ o, s2.heap.get? b = some o → s4.heap.get? b = some o ∧ H4 b = none := fun b hb' o e => by
      have z := I4.pin (b, o) (List.mem_append_right _ (List.mem_append_right _ (mem_pinsAt hb' e)))
      exact ⟨z.1, z.2.1⟩
    refine ⟨m', lt, i + 1, H4, I4.unpinned, T.keep _ _ _ st2 fun b hb' o e => (held b hb' o e).1, fun b hb' => ?_, w'⟩
    obtain ⟨o, e, _⟩ := T.obj _ _ st2 b hb'
    exact (held b hb' o e).2
/-- a clause's start goes to its loop -/
theorem start_of {P : Program} {w : World} {A : Around} {env : Env} {R : Result → Shared → Prop} {s : Shared} {el ta ia t1 ib : Expr} {sco : Scope} {pp : Pos} {d : Nat} {it acc : Value} (hd : d < 2) (self : ∀ (Q : Value → Shared → Prop) (E : Value → Shared → Prop), Q it s → wpAny (model P w) A (pyIter it) Q E s)
    (h : codeAny (model P w) A (.compLoop (sc2 el ta ia t1 ib sco pp) d it acc env) R s) : codeAny (model P w) A (.compStart (sc2 el ta ia t1 ib sco pp) d it acc env) R s := by
  refine codeAny_of_tree ?_
  show wpAny (model P w) A ((compStart (sc2 el ta ia t1 ib sco pp) d it acc env).onRaise fun x => do noteFrame x env; standAt theWindowsPlace) _ _ s
  refine wpAny_notedAt ?_
  have go : ∀ q : Pos, wpAny (model P w) A (standAt q >>= fun _ => pyIter it >>= fun j => again (.compLoop (sc2 el ta ia t1 ib sco pp) d j acc env)) (fun fin s' => match fin with | .done f => R (.ok f) s' | .again c' => c'.quiet = true ∧ codeAny (model P w) A c' R s') (notedBy (model P w) A env fun e s' => R (.error e) s') s := fun q =>
    wpAny_bind (wpAny_standAt (wpAny_bind (self _ _ (wpAny_pure ⟨rfl, h⟩))))
  have now : wpAny (model P w) A (again (.compLoop (sc2 el ta ia t1 ib sco pp) d it acc env)) (fun fin s' => match fin with | .done f => R (.ok f) s' | .again c' => c'.quiet = true ∧ codeAny (model P w) A c' R s') (notedBy (model P w) A env fun e s' => R (.error e) s') s := wpAny_pure ⟨rfl, h⟩
  obtain rfl | rfl : d = 0 ∨ d = 1 := by omega
  all_goals
    unfold compStart
    show wpAny (model P w) A (ask >>= _) _ _ s
    refine wpAny_bind (wpAny_askSetting (wpAny_ite ?_))
    split
    · exact wpAny_bind (wpAny_pure now)
    · exact wpAny_bind (wpAny_rule (go _))
section
variable {el ta ia t1 ib : Expr} {sco : Scope} {pp : Pos}
theorem form0 (it acc : Value) (env : Env) : compTurn (sc2 el ta ia t1 ib sco pp) 0 it acc env = turnOf ia.pos ta it env
    (eval ib env >>= fun x => standAt ib.pos >>= fun _ => foldedSetIterable ib env x >>= fun x => holding [x] (pyIter x) >>= fun j => runOwn (.compStart (sc2 el ta ia t1 ib sco pp) 1 j acc env) env >>= fun _ => again (.compLoop (sc2 el ta ia t1 ib sco pp) 0 it acc env)) := by rfl
theorem form1 (it acc : Value) (env : Env) : compTurn (sc2 el ta ia t1 ib sco pp) 1 it acc env = turnOf ib.pos t1 it env
    ((eval el env >>= fun v => standAt el.pos >>= fun _ => call (.builtin "set.add") [acc, v] >>= fun _ => pure ()) >>= fun _ => again (.compLoop (sc2 el ta ia t1 ib sco pp) 1 it acc env)) := by rfl
end
/-- what the inner loop must do, from what the outer one stored -/
def tInner (w : World) (D : Addr) (wi1 : TI) (g1 : TG) (te : TE) (vs1 : List Nat) : L2.St → Hp → (Hp → Prop) → Prop := fun σ2 H2 Nx => wi1 σ2 H2 fun J1 H4 => ∃ W1 : Nat → Nat → Hp → Prop, (∃ m, W1 0 m H4) ∧ ∀ j k H, W1 j k H →
  (J1.stop j H ∧ Nx H) ∨ (J1.go j H ∧ ∃ Nx1 : Hp → Prop, (∀ H', Nx1 H' → ∃ k', k' < k ∧ W1 (j + 1) k' H') ∧ ∀ x H', J1.yld j H x H' → g1 x (wipe σ2 vs1) H' fun σ3 H5 => wipe σ3 vs1 = wipe σ2 vs1 ∧
    te σ3 H5 fun y H7 => ∃ (c : Int) (S : Int → Bool) (n : Nat), y = .int c ∧ H7 D = some (SetO w D S n) ∧ n + 1 < scanBound ∧ Nx1 (upd H7 D (SetO w D (fun j => S j || decide (j = c)) (if S c = true then n else n + 1))))
/-- {el for ta in ia for t1 in ib}: D the new set, vs the block's names, vs1 those of the second target -/
def tS2 (w : World) (wi : TI) (g : TG) (wi1 : TI) (g1 : TG) (te : TE) (vs vs1 : List Nat) : TE := fun σ H Q => wi σ H fun J H1 => ∀ D, H1 D = none → ∃ W : Nat → Nat → Hp → Prop, (∃ m, W 0 m (upd H1 D (SetO w D (fun _ => false) 0))) ∧ ∀ i m H, W i m H →
  (J.stop i H ∧ Q (.ref D) H) ∨ (J.go i H ∧ ∃ Nx : Hp → Prop, (∀ H', Nx H' → ∃ m', m' < m ∧ W (i + 1) m' H') ∧ ∀ x H', J.yld i H x H' → g x (wipe σ vs) H' fun σ2 H2 => wipe σ2 vs = wipe σ vs ∧ tInner w D wi1 g1 te vs1 σ2 H2 Nx)
theorem wipe_keep {σ : L2.St} {j : Nat} : ∀ {vs : List Nat}, j ∉ vs → (wipe σ vs)[j]? = σ[j]?
  | [], _ => rfl
  | v :: vs, h => by
    have h1 := List.ne_of_not_mem_cons h
    show ((wipe σ vs).set v none)[j]? = _
    rw [List.getElem?_set_ne (Ne.symm h1), wipe_keep (List.not_mem_of_not_mem_cons h)]
section
variable {Y : Cx} {el ta ia t1 ib : Expr} {sco : Scope} {pp : Pos} {D : Addr} {wi1 : TI} {g1 : TG} {te : TE} {vs vs1 : List Nat} {σ0 : L2.St}
/-- the outer loop's body -/
theorem inner {o : Addr} (hc : Y.calm = true) (noerr : ∀ e s, Y.xe e s → False) (hv : ∀ i ∈ vs1, i ∈ vs) (hs : ∀ x, foldedSetIterable ib Y.env x = pure x) (p1 : PI Y t1 ib wi1) (pg1 : PG Y t1 g1) (pe : PE Y el te)
    (pins : List (Addr × Obj)) (σ2 : L2.St) (H2 : Hp) (s2 : Shared) (Nx : Hp → Prop) (I2 : Inv Y pins σ2 H2 s2) (h : wipe σ2 vs = σ0 ∧ tInner Y.w D wi1 g1 te vs1 σ2 H2 Nx) :
    wpAny (model Y.prog Y.w) Y.A (eval ib Y.env >>= fun x => standAt ib.pos >>= fun _ => foldedSetIterable ib Y.env x >>= fun x => holding [x] (pyIter x) >>= fun j => runOwn (.compStart (sc2 el ta ia t1 ib sco pp) 1 j (.ref D) Y.env) Y.env >>= fun _ => again (.compLoop (sc2 el ta ia t1 ib sco pp) 0 (.ref o) (.ref D) Y.env))
      (fun fin s3 => fin = .again (.compLoop (sc2 el ta ia t1 ib sco pp) 0 (.ref o) (.ref D) Y.env) ∧ ∃ H3, Inv Y pins σ0 H3 s3 ∧ Nx H3) (fun _ _ => False) s2 := by
  obtain ⟨hw, h⟩ := h
  refine wpAny_bind (wpAny_mono (p1.run pins s2 σ2 H2 _ I2 h) (fun x s3 hx => ?_) fun e s z => (noerr e s z).elim)
  refine wpAny_bind (wpAny_standAt (wpAny_bind (wpAny_of_eq (hs x) (wpAny_bind (wpAny_holding (wpAny_mono hx (fun j s4 h4 => ?_) fun e s z => (noerr e s z).elim))))))
  obtain ⟨it, fp, tn, J1, H4, e, I4, T, st4, f4, W1, ⟨m1, w1⟩, turn1⟩ := h4
  subst e
  have back : ∀ {H s}, Inv Y pins (wipe σ2 vs1) H s → Inv Y pins σ0 H s := fun I => by
    subst hw
    refine I.weak (by rw [wipe_length, wipe_length]) fun i v e => ?_
    obtain ⟨e1, e2⟩ := wipe_some e
    rw [wipe_keep fun z => e2 (hv i z)]; exact e1
  refine wpAny_bind (wpAny_runOwn ?_)
  rw [Around.mark_none]
  have loop := walk (tb := fun σ3 H5 Nx1 => wipe σ3 vs1 = wipe σ2 vs1 ∧ te σ3 H5 fun y H7 => ∃ (c : Int) (S : Int → Bool) (n : Nat), y = .int c ∧ H7 D = some (SetO Y.w D S n) ∧ n + 1 < scanBound ∧ Nx1 (upd H7 D (SetO Y.w D (fun j => S j || decide (j = c)) (if S c = true then n else n + 1))))
    (R := fun r s' => match r with | .ok _ => ∃ H3, Inv Y pins σ0 H3 s' ∧ Nx H3 | .error _ => False) hc T (form1 (el := el) (ta := ta) (ia := ia) (t1 := t1) (ib := ib) (sco := sco) (pp := pp) (.ref it) (.ref D) Y.env)
    (fun {H s} _ hn b hb => ⟨hn b hb, (f4 b hb).2⟩) pg1 noerr
    (fun pins' σ3 H5 s5 Nx1 I5 ⟨hw5, h5⟩ => by
      refine wpAny_bind (wpAny_bind (wpAny_mono (pe.run pins' s5 σ3 H5 _ I5 h5) (fun z s6 h6 => ?_) fun e s z => (noerr e s z).elim))
      obtain ⟨y, H7, I7, r7, c, S, n, ey, hD, room, nx⟩ := h6
      subst ey
      refine wpAny_bind (wpAny_standAt (wpAny_bind ?_))
      refine wpAny_mono (mt_sadd pins' s6 σ3 H7 (.ref D) [.int c] (.ref D) [z] (fun _ H' => Nx1 H') I7 rfl (.cons r7 .nil) ⟨D, c, S, n, rfl, rfl, hD, room, nx⟩) (fun _ s8 h8 => ?_) fun e s z => (noerr e s z).elim
      obtain ⟨y8, H8, I8, _, q8⟩ := h8
      exact wpAny_pure (wpAny_pure ⟨rfl, H8, I8.weak (by rw [← hw5, wipe_length]) fun i v e => by rw [← hw5] at e; exact (wipe_some e).1, q8⟩))
    W1 (I4.weak (wipe_length _ _) fun i v e => (wipe_some e).1) st4 (fun b hb => (f4 b hb).1) w1
    (fun j k H hW => by
      rcases turn1 j k H hW with ⟨stop, nx⟩ | ⟨go, Nx1, hN1, step⟩
      · exact .inl ⟨stop, fun s I => ⟨H, back I, nx⟩⟩
      · exact .inr ⟨go, Nx1, hN1, step⟩)
  refine codeAny_mono (start_of (by decide) (fun Q E q => T.self _ 0 _ _ _ st4 q) loop) fun r s' hr => ?_
  cases r with
  | ok f => exact wpAny_pure ⟨rfl, hr⟩
  | error e => exact hr.elim
end
section
variable {X : Cx}
abbrev blkEnv (X : Cx) (sco : Scope) (s : Shared) : Env := compEnvC sco (cellsFrom (s.heap.objs.size + 1) sco.names (cloFrom X.env.cells sco.names [])) s.heap.objs.size X.env
theorem block {el ta ia t1 ib : Expr} {sco : Scope} {own : List (PySem.Str × Nat)} {vs1 : List Nat} {pp : Pos} {wi1 : TI} {g g1 : TG} {te : TE} {pins : List (Addr × Obj)} {σ : L2.St} {H : Hp} {s : Shared} {it D : Addr} {fp : List Addr} {tn : Nat → Heap → Prop} {J : It} {Q : VK} {W : Nat → Nat → Hp → Prop} {m0 : Nat} {Z : Result → Shared → Prop}
    (hc : X.calm = true) (hN : X.N.Nodup) (ok : BlkOk X.N X.env.scope sco own) (hv : ∀ i ∈ vs1, i ∈ own.map (·.2)) (hs1 : ∀ env x, foldedSetIterable ib env x = pure x)
    (pg : PG (X.blk s H sco (blkEnv X sco s) fp) ta g) (p1 : PI (X.blk s H sco (blkEnv X sco s) fp) t1 ib wi1) (pg1 : PG (X.blk s H sco (blkEnv X sco s) fp) t1 g1) (pe : PE (X.blk s H sco (blkEnv X sco s) fp) el te)
    (I : Inv X pins σ H s) (T : Turn X.prog X.w X.K ta J fp it tn) (st : tn 0 s.heap) (hf : ∀ b ∈ fp, FpOk X pins H b ∧ b < s.heap.objs.size) (w0 : W 0 m0 H)
    (turn : ∀ i m H, W i m H → (J.stop i H ∧ Q (.ref D) H) ∨ (J.go i H ∧ ∃ Nx : Hp → Prop, (∀ H', Nx H' → ∃ m', m' < m ∧ W (i + 1) m' H') ∧ ∀ x H', J.yld i H x H' → g x (wipe σ (own.map (·.2))) H' fun σ2 H2 => wipe σ2 (own.map (·.2)) = wipe σ (own.map (·.2)) ∧ tInner X.w D wi1 g1 te vs1 σ2 H2 Nx))
    (fin : ∀ s' H' m, Inv X pins σ H' s' → Q (.ref D) H' → s'.heap.Ns s.heap.objs.size m → FpOk X pins H' s.heap.objs.size → Z (.ok .next) s') :
    codeAny (model X.prog X.w) X.A (.compStart (sc2 el ta ia t1 ib sco pp) 0 (.ref it) (.ref D) (blkEnv X sco s)) Z { s with heap := pushCells (s.heap.push { cls := .type "dict", data := .dict #[] }) sco.names } := by
  have I4 := block_start I ok hN hf
  have st4 : tn 0 (pushCells (s.heap.push { cls := .type "dict", data := .dict #[] }) sco.names) := T.keep _ _ _ st fun b _ o e => pushCells_keeps _ _ _ _ (Heap.get?_push_of_some _ e)
  refine start_of (by decide) (fun Q' E q => T.self _ 0 _ _ _ st4 q) ?_
  refine walk (Y := X.blk s H sco (blkEnv X sco s) fp) (tb := fun σ2 H2 Nx => wipe σ2 (own.map (·.2)) = wipe σ (own.map (·.2)) ∧ tInner X.w D wi1 g1 te vs1 σ2 H2 Nx) hc T (form0 (.ref it) (.ref D) (blkEnv X sco s))
    (fun {H' s'} I' hn b hb => ⟨hn b hb, (I'.ok.exf b hb).1, I'.ok.exfs b hb, .inl hb, fun x c e => (I'.ok.exf b hb).2 x c e, fun p hp => nomatch (show p ∈ ([] : List (Addr × Obj)) from hp)⟩) pg (fun _ _ z => z)
    (fun pins' σ2 H2 s2 Nx I2 h2 => inner (Y := X.blk s H sco (blkEnv X sco s) fp) (vs := own.map (·.2)) hc (fun _ _ z => z) hv (hs1 _) p1 pg1 pe pins' σ2 H2 s2 Nx I2 h2) W I4 st4 (fun b hb => (hf b hb).1.1) w0 (fun i m H' hW => ?_)
  rcases turn i m H' hW with ⟨stop, qq⟩ | z
  · refine .inl ⟨stop, fun s6 I6 => ?_⟩
    obtain ⟨m', hn, _⟩ := I6.loc
    exact fin s6 H' m' (I.call' (ch := fp) I6.os I6.base I6.hok I6.bare fun b hb => (hf b hb).1.2.2.2.1 |> fun z => ⟨z, (hf b hb).1.2.1, (hf b hb).1.2.2.2.2.1, (hf b hb).1.2.2.2.2.2⟩) qq hn (I.fpOk (Nat.le_refl _) I6.free)
  · exact .inr z
theorem pe_sc2 {el ta ia t1 ib : Expr} {sco : Scope} {own : List (PySem.Str × Nat)} {vs1 : List Nat} {pp : Pos} {wi wi1 : TI} {g g1 : TG} {te : TE} (hc : X.calm = true) (hN : X.N.Nodup) (hi : PI X ta ia wi) (ok : BlkOk X.N X.env.scope sco own) (hv : ∀ i ∈ vs1, i ∈ own.map (·.2))
    (hg : ∀ s H C cl fp, PG (X.blk s H sco (compEnvC sco cl C X.env) fp) ta g) (hi1 : ∀ s H C cl fp, PI (X.blk s H sco (compEnvC sco cl C X.env) fp) t1 ib wi1) (hg1 : ∀ s H C cl fp, PG (X.blk s H sco (compEnvC sco cl C X.env) fp) t1 g1)
    (he : ∀ s H C cl fp, PE (X.blk s H sco (compEnvC sco cl C X.env) fp) el te) (hs : ∀ x, foldedSetIterable ia X.env x = pure x := by intro _; rfl) (hs1 : ∀ env x, foldedSetIterable ib env x = pure x := by intro _ _; rfl) :
    PE X (.SetComp el [⟨ta, ia, [], 0⟩, ⟨t1, ib, [], 0⟩] sco pp) (tS2 X.w wi g wi1 g1 te (own.map (·.2)) vs1) := by
  refine ⟨fun pins s σ H Q I h => ?_⟩
  rw [PpSet.eval_SetComp]
  have known : ∀ y ∈ sco.names, y.2 = .free → ∃ c, X.env.cells.lookup y.1 = some c := fun y hy e => I.ok.has _ (ok.free y hy e)
  refine wpAny_comprehension_free (use := none) rfl hs (closure_ok known) ok.kind (fun y hy e => by rw [ok.uniq y hy, e]) (thn (hi.run pins s σ H _ I h) fun _ _ hx => thn hx fun iv s2 h2 => ?_)
  obtain ⟨it, fp, tn, J, H2, e, I2, T, st2, f2, q⟩ := h2
  subst e
  refine PpSet.newSet_ok (newEnv_comp ?_)
  have nD : H2 s2.heap.objs.size = none := I2.hok.fresh (Nat.le_refl _)
  obtain ⟨W, ⟨m0, w0⟩, turn⟩ := q _ nD
  have I3 := I2.laid (t' := s2.toks) (o := SetO X.w s2.heap.objs.size (fun _ => false) 0) (fun b o e => Heap.get?_push_of_some { cls := .type "set", dict := none, data := .set #[] 0 (.fresh 0 0 (!X.w.params.followText "set-order")) } e) (Nat.le_refl _) (setO_new (setR_fresh X.w))
  have young : ∀ b ∈ fp, b < s2.heap.objs.size := fun b hb => (T.obj _ _ st2 b hb).elim fun o e => Heap.lt_size e.1
  exact block hc hN ok hv hs1 (hg _ _ _ _ _) (hi1 _ _ _ _ _) (hg1 _ _ _ _ _) (he _ _ _ _ _) I3 T (T.keep _ _ _ st2 fun b _ o e => Heap.get?_push_of_some _ e)
    (fun b hb => ⟨⟨by rw [upd_ne (Nat.ne_of_lt (young b hb))]; exact (f2 b hb).1, (f2 b hb).2⟩, by show b < (Heap.push _ _).objs.size; rw [Heap.size_push]; exact Nat.lt_succ_of_lt (young b hb)⟩) w0 turn
    fun s' H' m I' qq hn ⟨f0, f1, _, f3, f4, f5⟩ => ⟨m, hn, fun h'' sb => ⟨.ref s2.heap.objs.size, H', I'.turned (t' := s'.toks) (fun b o hb e => (sb.2 b hb).trans e) f0 f1 f3 f4 f5, rfl, qq⟩⟩
end
end RV
set_option maxHeartbeats 4000000
/-! {elt for a in x for b in y if ..}: ints, two clauses, tests on the second -/
namespace RV
open PySem PySem.Spec PyProof.Rows L2
/-- two clauses, tests on the second -/
abbrev scT (el ta ia tb ib : Expr) (cs : List Expr) (sco : Scope) (p : Pos) : Expr := .SetComp el [⟨ta, ia, [], 0⟩, ⟨tb, ib, cs, 0⟩] sco p
/-- a loop of a comprehension's block whose turns are of that form -/
theorem walkT {Y : Cx} {el ta ia t1 ib tg : Expr} {cs : List Expr} {sco : Scope} {pp : Pos} {d : Nat} {it : Addr} {acc : Value} {p : Pos} {rest : Sem Fin} {fp : List Addr} {tn : Nat → Heap → Prop} {J : It} {pins : List (Addr × Obj)} {σ0 : L2.St} {H0 : Hp} {s0 : Shared} {g : TG} {tb : L2.St → Hp → (Hp → Prop) → Prop} {R : Result → Shared → Prop}
    (hc : Y.calm = true) (T : Turn Y.prog Y.w Y.K tg J fp it tn) (form : compTurn (scT el ta ia t1 ib cs sco pp) d (.ref it) acc Y.env = turnOf p tg (.ref it) Y.env rest)
    (fpok : ∀ {H s}, Inv Y pins σ0 H s → (∀ b ∈ fp, H b = none) → ∀ b ∈ fp, FpOk Y pins H b) (pg : PG Y tg g) (noerr : ∀ e s, Y.xe e s → False)
    (hb : ∀ (pins' : List (Addr × Obj)) (σ2 : L2.St) (H2 : Hp) (s2 : Shared) (Nx : Hp → Prop), Inv Y pins' σ2 H2 s2 → tb σ2 H2 Nx → wpAny (model Y.prog Y.w) Y.A rest (fun fin s3 => fin = .again (.compLoop (scT el ta ia t1 ib cs sco pp) d (.ref it) acc Y.env) ∧ ∃ H3, Inv Y pins' σ0 H3 s3 ∧ Nx H3) (fun _ _ => False) s2)
    (W : Nat → Nat → Hp → Prop) {m0 : Nat} (I0 : Inv Y pins σ0 H0 s0) (t0 : tn 0 s0.heap) (n0 : ∀ b ∈ fp, H0 b = none) (w0 : W 0 m0 H0)
    (turn : ∀ i m H, W i m H → (J.stop i H ∧ ∀ s, Inv Y pins σ0 H s → R (.ok .next) s) ∨ (J.go i H ∧ ∃ Nx : Hp → Prop, (∀ H', Nx H' → ∃ m', m' < m ∧ W (i + 1) m' H') ∧ ∀ x H', J.yld i H x H' → g x σ0 H' fun σ2 H2 => tb σ2 H2 Nx)) :
    codeAny (model Y.prog Y.w) Y.A (.compLoop (scT el ta ia t1 ib cs sco pp) d (.ref it) acc Y.env) R s0 := by
  refine codeAny_loop rfl (fun n s => ∃ i H, Inv Y pins σ0 H s ∧ tn i s.heap ∧ (∀ b ∈ fp, H b = none) ∧ W i n H) (fun n s h => ?_) m0 ⟨0, H0, I0, t0, n0, w0⟩
  obtain ⟨i, H, I, st, nf, hw⟩ := h
  show wpAny (model Y.prog Y.w) Y.A ((compTurn (scT el ta ia t1 ib cs sco pp) d (.ref it) acc Y.env).onRaise fun x => do noteFrame x Y.env; theTreesLotGoes x) _ _ s
  refine wpAny_noted ?_
  rw [form]
  refine wpAny_bind (wpAny_standAt (wpAny_bind ?_))
  rcases turn i n H hw with ⟨stop, fin⟩ | ⟨go, Nx, hNx, step⟩
  · refine thnF (T.done Y rfl rfl rfl hc i pins s σ0 H (fun _ _ => False) I (fpok I nf) st stop) fun r s1 ⟨hr, I1⟩ => ?_
    subst hr
    exact wpAny_pure (fin s1 I1)
  · refine thnF (T.item Y rfl rfl rfl hc i pins s σ0 H (fun _ _ => False) I (fpok I nf) st go) fun r s1 ⟨u, hr, h1⟩ => ?_
    subst hr
    refine wpAny_bind (thnF h1 fun _ s2 ⟨x, H2, I2, rx, yx, st2, nf2⟩ => ?_)
    have J2 := I2.pinned (fpok I2 nf2) (T.obj _ _ st2)
    refine wpAny_bind (wpAny_mono (pg.run _ s2 σ0 H2 x u _ J2 rx (step x H2 yx)) (fun _ s3 h3 => ?_) fun e s' z => (noerr e s' z).elim)
    obtain ⟨σ3, H3, I3, b3⟩ := h3
    refine thnF (hb _ σ3 H3 s3 Nx I3 b3) fun fin s4 ⟨ef, H4, I4, nx⟩ => ?_
    subst ef
    refine ⟨rfl, ?_⟩
    obtain ⟨m', lt, w'⟩ := hNx H4 nx
    have held : ∀ b ∈ fp, ∀ o, s2.heap.get? b = some o → s4.heap.get? b = some o ∧ H4 b = none := fun b hb' o e => by
      have z := I4.pin (b, o) (List.mem_append_right _ (List.mem_append_right _ (mem_pinsAt hb' e)))
      exact ⟨z.1, z.2.1⟩
    refine ⟨m', lt, i + 1, H4, I4.unpinned, T.keep _ _ _ st2 fun b hb' o e => (held b hb' o e).1, fun b hb' => ?_, w'⟩
    obtain ⟨o, e, _⟩ := T.obj _ _ st2 b hb'
    exact (held b hb' o e).2
/-- a clause's start goes to its loop -/
theorem start_ofT {P : Program} {w : World} {A : Around} {env : Env} {R : Result → Shared → Prop} {s : Shared} {el ta ia t1 ib : Expr} {cs : List Expr} {sco : Scope} {pp : Pos} {d : Nat} {it acc : Value} (hd : d < 2) (self : ∀ (Q : Value → Shared → Prop) (E : Value → Shared → Prop), Q it s → wpAny (model P w) A (pyIter it) Q E s)
    (h : codeAny (model P w) A (.compLoop (scT el ta ia t1 ib cs sco pp) d it acc env) R s) : codeAny (model P w) A (.compStart (scT el ta ia t1 ib cs sco pp) d it acc env) R s := by
  refine codeAny_of_tree ?_
  show wpAny (model P w) A ((compStart (scT el ta ia t1 ib cs sco pp) d it acc env).onRaise fun x => do noteFrame x env; standAt theWindowsPlace) _ _ s
  refine wpAny_notedAt ?_
  have go : ∀ q : Pos, wpAny (model P w) A (standAt q >>= fun _ => pyIter it >>= fun j => again (.compLoop (scT el ta ia t1 ib cs sco pp) d j acc env)) (fun fin s' => match fin with | .done f => R (.ok f) s' | .again c' => c'.quiet = true ∧ codeAny (model P w) A c' R s') (notedBy (model P w) A env fun e s' => R (.error e) s') s := fun q =>
    wpAny_bind (wpAny_standAt (wpAny_bind (self _ _ (wpAny_pure ⟨rfl, h⟩))))
  have now : wpAny (model P w) A (again (.compLoop (scT el ta ia t1 ib cs sco pp) d it acc env)) (fun fin s' => match fin with | .done f => R (.ok f) s' | .again c' => c'.quiet = true ∧ codeAny (model P w) A c' R s') (notedBy (model P w) A env fun e s' => R (.error e) s') s := wpAny_pure ⟨rfl, h⟩
  obtain rfl | rfl : d = 0 ∨ d = 1 := by omega
  all_goals
    unfold compStart
    show wpAny (model P w) A (ask >>= _) _ _ s
    refine wpAny_bind (wpAny_askSetting (wpAny_ite ?_))
    split
    · exact wpAny_bind (wpAny_pure now)
    · exact wpAny_bind (wpAny_rule (go _))
section
variable {el ta ia t1 ib : Expr} {cs : List Expr} {sco : Scope} {pp : Pos}
theorem form0T (it acc : Value) (env : Env) : compTurn (scT el ta ia t1 ib cs sco pp) 0 it acc env = turnOf ia.pos ta it env
    (eval ib env >>= fun x => standAt ib.pos >>= fun _ => foldedSetIterable ib env x >>= fun x => holding [x] (pyIter x) >>= fun j => runOwn (.compStart (scT el ta ia t1 ib cs sco pp) 1 j acc env) env >>= fun _ => again (.compLoop (scT el ta ia t1 ib cs sco pp) 0 it acc env)) := by rfl
theorem form1T (it acc : Value) (env : Env) : compTurn (scT el ta ia t1 ib cs sco pp) 1 it acc env = turnOf ib.pos t1 it env
    (do
      let mut ok := true
      for c in cs do
        if ok then ok ← isTrue c env (eval c env)
      if ok then
        (do let v ← eval el env; standAt el.pos; let _ ← call (.builtin "set.add") [acc, v])
      again (.compLoop (scT el ta ia t1 ib cs sco pp) 1 it acc env)) := by rfl
end
/-- what the inner loop must do, from what the outer one stored -/
def tInnerT (w : World) (D : Addr) (wi1 : TI) (g1 : TG) (tt : TT) (te : TE) (vs1 : List Nat) : L2.St → Hp → (Hp → Prop) → Prop := fun σ2 H2 Nx => wi1 σ2 H2 fun J1 H4 => ∃ W1 : Nat → Nat → Hp → Prop, (∃ m, W1 0 m H4) ∧ ∀ j k H, W1 j k H →
  (J1.stop j H ∧ Nx H) ∨ (J1.go j H ∧ ∃ Nx1 : Hp → Prop, (∀ H', Nx1 H' → ∃ k', k' < k ∧ W1 (j + 1) k' H') ∧ ∀ x H', J1.yld j H x H' → g1 x (wipe σ2 vs1) H' fun σ3 H5 => wipe σ3 vs1 = wipe σ2 vs1 ∧
    tt σ3 H5 fun b H6 => if b = true then te σ3 H6 fun y H7 => ∃ (c : Int) (S : Int → Bool) (n : Nat), y = .int c ∧ H7 D = some (SetO w D S n) ∧ n + 1 < scanBound ∧ Nx1 (upd H7 D (SetO w D (fun j => S j || decide (j = c)) (if S c = true then n else n + 1))) else Nx1 H6)
/-- {el for ta in ia for t1 in ib}: D the new set, vs the block's names, vs1 those of the second target -/
def tST (w : World) (wi : TI) (g : TG) (wi1 : TI) (g1 : TG) (tt : TT) (te : TE) (vs vs1 : List Nat) : TE := fun σ H Q => wi σ H fun J H1 => ∀ D, H1 D = none → ∃ W : Nat → Nat → Hp → Prop, (∃ m, W 0 m (upd H1 D (SetO w D (fun _ => false) 0))) ∧ ∀ i m H, W i m H →
  (J.stop i H ∧ Q (.ref D) H) ∨ (J.go i H ∧ ∃ Nx : Hp → Prop, (∀ H', Nx H' → ∃ m', m' < m ∧ W (i + 1) m' H') ∧ ∀ x H', J.yld i H x H' → g x (wipe σ vs) H' fun σ2 H2 => wipe σ2 vs = wipe σ vs ∧ tInnerT w D wi1 g1 tt te vs1 σ2 H2 Nx)
section
variable {Y : Cx} {el ta ia t1 ib : Expr} {cs : List Expr} {sco : Scope} {pp : Pos} {D : Addr} {wi1 : TI} {g1 : TG} {tt : TT} {te : TE} {vs vs1 : List Nat} {σ0 : L2.St}
/-- the outer loop's body -/
theorem innerT {o : Addr} (hc : Y.calm = true) (noerr : ∀ e s, Y.xe e s → False) (hv : ∀ i ∈ vs1, i ∈ vs) (hs : ∀ x, foldedSetIterable ib Y.env x = pure x) (p1 : PI Y t1 ib wi1) (pg1 : PG Y t1 g1) (pt : PTs Y cs tt) (pe : PE Y el te)
    (pins : List (Addr × Obj)) (σ2 : L2.St) (H2 : Hp) (s2 : Shared) (Nx : Hp → Prop) (I2 : Inv Y pins σ2 H2 s2) (h : wipe σ2 vs = σ0 ∧ tInnerT Y.w D wi1 g1 tt te vs1 σ2 H2 Nx) :
    wpAny (model Y.prog Y.w) Y.A (eval ib Y.env >>= fun x => standAt ib.pos >>= fun _ => foldedSetIterable ib Y.env x >>= fun x => holding [x] (pyIter x) >>= fun j => runOwn (.compStart (scT el ta ia t1 ib cs sco pp) 1 j (.ref D) Y.env) Y.env >>= fun _ => again (.compLoop (scT el ta ia t1 ib cs sco pp) 0 (.ref o) (.ref D) Y.env))
      (fun fin s3 => fin = .again (.compLoop (scT el ta ia t1 ib cs sco pp) 0 (.ref o) (.ref D) Y.env) ∧ ∃ H3, Inv Y pins σ0 H3 s3 ∧ Nx H3) (fun _ _ => False) s2 := by
  obtain ⟨hw, h⟩ := h
  refine wpAny_bind (wpAny_mono (p1.run pins s2 σ2 H2 _ I2 h) (fun x s3 hx => ?_) fun e s z => (noerr e s z).elim)
  refine wpAny_bind (wpAny_standAt (wpAny_bind (wpAny_of_eq (hs x) (wpAny_bind (wpAny_holding (wpAny_mono hx (fun j s4 h4 => ?_) fun e s z => (noerr e s z).elim))))))
  obtain ⟨it, fp, tn, J1, H4, e, I4, T, st4, f4, W1, ⟨m1, w1⟩, turn1⟩ := h4
  subst e
  have back : ∀ {H s}, Inv Y pins (wipe σ2 vs1) H s → Inv Y pins σ0 H s := fun I => by
    subst hw
    refine I.weak (by rw [wipe_length, wipe_length]) fun i v e => ?_
    obtain ⟨e1, e2⟩ := wipe_some e
    rw [wipe_keep fun z => e2 (hv i z)]; exact e1
  refine wpAny_bind (wpAny_runOwn ?_)
  rw [Around.mark_none]
  have loop := walkT (tb := fun σ3 H5 Nx1 => wipe σ3 vs1 = wipe σ2 vs1 ∧ tt σ3 H5 fun b H6 => if b = true then te σ3 H6 fun y H7 => ∃ (c : Int) (S : Int → Bool) (n : Nat), y = .int c ∧ H7 D = some (SetO Y.w D S n) ∧ n + 1 < scanBound ∧ Nx1 (upd H7 D (SetO Y.w D (fun j => S j || decide (j = c)) (if S c = true then n else n + 1))) else Nx1 H6)
    (R := fun r s' => match r with | .ok _ => ∃ H3, Inv Y pins σ0 H3 s' ∧ Nx H3 | .error _ => False) hc T (form1T (el := el) (ta := ta) (ia := ia) (t1 := t1) (ib := ib) (sco := sco) (pp := pp) (.ref it) (.ref D) Y.env)
    (fun {H s} _ hn b hb => ⟨hn b hb, (f4 b hb).2⟩) pg1 noerr
    (fun pins' σ3 H5 s5 Nx1 I5 ⟨hw5, h5⟩ => by
      have weak : ∀ {H8 s8}, Inv Y pins' σ3 H8 s8 → Inv Y pins' (wipe σ2 vs1) H8 s8 := fun I8 => I8.weak (by rw [← hw5, wipe_length]) fun i v e => by rw [← hw5] at e; exact (wipe_some e).1
      refine wpAny_bind (wpAny_mono (pt.run pins' s5 σ3 H5 _ I5 h5) (fun ok s6 h6 => ?_) fun e s z => (noerr e s z).elim)
      obtain ⟨H6, I6, q6⟩ := h6
      cases ok with
      | false =>
        simp only [Bool.false_eq_true, if_false] at q6 ⊢
        exact wpAny_pure ⟨rfl, H6, weak I6, q6⟩
      | true =>
        simp only [if_true] at q6 ⊢
        refine wpAny_bind (wpAny_bind (wpAny_mono (pe.run pins' s6 σ3 H6 _ I6 q6) (fun z s7 h7 => ?_) fun e s z => (noerr e s z).elim))
        obtain ⟨y, H7, I7, r7, c, S, n, ey, hD, room, nx⟩ := h7
        subst ey
        refine wpAny_bind (wpAny_standAt (wpAny_bind ?_))
        refine wpAny_mono (mt_sadd pins' s7 σ3 H7 (.ref D) [.int c] (.ref D) [z] (fun _ H' => Nx1 H') I7 rfl (.cons r7 .nil) ⟨D, c, S, n, rfl, rfl, hD, room, nx⟩) (fun _ s8 h8 => ?_) fun e s z => (noerr e s z).elim
        obtain ⟨y8, H8, I8, _, q8⟩ := h8
        exact wpAny_pure (wpAny_pure ⟨rfl, H8, weak I8, q8⟩))
    W1 (I4.weak (wipe_length _ _) fun i v e => (wipe_some e).1) st4 (fun b hb => (f4 b hb).1) w1
    (fun j k H hW => by
      rcases turn1 j k H hW with ⟨stop, nx⟩ | ⟨go, Nx1, hN1, step⟩
      · exact .inl ⟨stop, fun s I => ⟨H, back I, nx⟩⟩
      · exact .inr ⟨go, Nx1, hN1, step⟩)
  refine codeAny_mono (start_ofT (by decide) (fun Q E q => T.self _ 0 _ _ _ st4 q) loop) fun r s' hr => ?_
  cases r with
  | ok f => exact wpAny_pure ⟨rfl, hr⟩
  | error e => exact hr.elim
end
section
variable {X : Cx}
abbrev blkEnvT (X : Cx) (sco : Scope) (s : Shared) : Env := compEnvC sco (cellsFrom (s.heap.objs.size + 1) sco.names (cloFrom X.env.cells sco.names [])) s.heap.objs.size X.env
theorem blockT {el ta ia t1 ib : Expr} {cs : List Expr} {sco : Scope} {own : List (PySem.Str × Nat)} {vs1 : List Nat} {pp : Pos} {wi1 : TI} {g g1 : TG} {tt : TT} {te : TE} {pins : List (Addr × Obj)} {σ : L2.St} {H : Hp} {s : Shared} {it D : Addr} {fp : List Addr} {tn : Nat → Heap → Prop} {J : It} {Q : VK} {W : Nat → Nat → Hp → Prop} {m0 : Nat} {Z : Result → Shared → Prop}
    (hc : X.calm = true) (hN : X.N.Nodup) (ok : BlkOk X.N X.env.scope sco own) (hv : ∀ i ∈ vs1, i ∈ own.map (·.2)) (hs1 : ∀ env x, foldedSetIterable ib env x = pure x)
    (pg : PG (X.blk s H sco (blkEnvT X sco s) fp) ta g) (p1 : PI (X.blk s H sco (blkEnvT X sco s) fp) t1 ib wi1) (pg1 : PG (X.blk s H sco (blkEnvT X sco s) fp) t1 g1) (pt : PTs (X.blk s H sco (blkEnvT X sco s) fp) cs tt) (pe : PE (X.blk s H sco (blkEnvT X sco s) fp) el te)
    (I : Inv X pins σ H s) (T : Turn X.prog X.w X.K ta J fp it tn) (st : tn 0 s.heap) (hf : ∀ b ∈ fp, FpOk X pins H b ∧ b < s.heap.objs.size) (w0 : W 0 m0 H)
    (turn : ∀ i m H, W i m H → (J.stop i H ∧ Q (.ref D) H) ∨ (J.go i H ∧ ∃ Nx : Hp → Prop, (∀ H', Nx H' → ∃ m', m' < m ∧ W (i + 1) m' H') ∧ ∀ x H', J.yld i H x H' → g x (wipe σ (own.map (·.2))) H' fun σ2 H2 => wipe σ2 (own.map (·.2)) = wipe σ (own.map (·.2)) ∧ tInnerT X.w D wi1 g1 tt te vs1 σ2 H2 Nx))
    (fin : ∀ s' H' m, Inv X pins σ H' s' → Q (.ref D) H' → s'.heap.Ns s.heap.objs.size m → FpOk X pins H' s.heap.objs.size → Z (.ok .next) s') :
    codeAny (model X.prog X.w) X.A (.compStart (scT el ta ia t1 ib cs sco pp) 0 (.ref it) (.ref D) (blkEnvT X sco s)) Z { s with heap := pushCells (s.heap.push { cls := .type "dict", data := .dict #[] }) sco.names } := by
  have I4 := block_start I ok hN hf
  have st4 : tn 0 (pushCells (s.heap.push { cls := .type "dict", data := .dict #[] }) sco.names) := T.keep _ _ _ st fun b _ o e => pushCells_keeps _ _ _ _ (Heap.get?_push_of_some _ e)
  refine start_ofT (by decide) (fun Q' E q => T.self _ 0 _ _ _ st4 q) ?_
  refine walkT (Y := X.blk s H sco (blkEnvT X sco s) fp) (tb := fun σ2 H2 Nx => wipe σ2 (own.map (·.2)) = wipe σ (own.map (·.2)) ∧ tInnerT X.w D wi1 g1 tt te vs1 σ2 H2 Nx) hc T (form0T (.ref it) (.ref D) (blkEnvT X sco s))
    (fun {H' s'} I' hn b hb => ⟨hn b hb, (I'.ok.exf b hb).1, I'.ok.exfs b hb, .inl hb, fun x c e => (I'.ok.exf b hb).2 x c e, fun p hp => nomatch (show p ∈ ([] : List (Addr × Obj)) from hp)⟩) pg (fun _ _ z => z)
    (fun pins' σ2 H2 s2 Nx I2 h2 => innerT (Y := X.blk s H sco (blkEnvT X sco s) fp) (vs := own.map (·.2)) hc (fun _ _ z => z) hv (hs1 _) p1 pg1 pt pe pins' σ2 H2 s2 Nx I2 h2) W I4 st4 (fun b hb => (hf b hb).1.1) w0 (fun i m H' hW => ?_)
  rcases turn i m H' hW with ⟨stop, qq⟩ | z
  · refine .inl ⟨stop, fun s6 I6 => ?_⟩
    obtain ⟨m', hn, _⟩ := I6.loc
    exact fin s6 H' m' (I.call' (ch := fp) I6.os I6.base I6.hok I6.bare fun b hb => (hf b hb).1.2.2.2.1 |> fun z => ⟨z, (hf b hb).1.2.1, (hf b hb).1.2.2.2.2.1, (hf b hb).1.2.2.2.2.2⟩) qq hn (I.fpOk (Nat.le_refl _) I6.free)
  · exact .inr z
theorem pe_scT {el ta ia t1 ib : Expr} {cs : List Expr} {sco : Scope} {own : List (PySem.Str × Nat)} {vs1 : List Nat} {pp : Pos} {wi wi1 : TI} {g g1 : TG} {tt : TT} {te : TE} (hc : X.calm = true) (hN : X.N.Nodup) (hi : PI X ta ia wi) (ok : BlkOk X.N X.env.scope sco own) (hv : ∀ i ∈ vs1, i ∈ own.map (·.2))
    (hg : ∀ s H C cl fp, PG (X.blk s H sco (compEnvC sco cl C X.env) fp) ta g) (hi1 : ∀ s H C cl fp, PI (X.blk s H sco (compEnvC sco cl C X.env) fp) t1 ib wi1) (hg1 : ∀ s H C cl fp, PG (X.blk s H sco (compEnvC sco cl C X.env) fp) t1 g1)
    (ht1 : ∀ s H C cl fp, PTs (X.blk s H sco (compEnvC sco cl C X.env) fp) cs tt) (he : ∀ s H C cl fp, PE (X.blk s H sco (compEnvC sco cl C X.env) fp) el te) (hs : ∀ x, foldedSetIterable ia X.env x = pure x := by intro _; rfl) (hs1 : ∀ env x, foldedSetIterable ib env x = pure x := by intro _ _; rfl) :
    PE X (.SetComp el [⟨ta, ia, [], 0⟩, ⟨t1, ib, cs, 0⟩] sco pp) (tST X.w wi g wi1 g1 tt te (own.map (·.2)) vs1) := by
  refine ⟨fun pins s σ H Q I h => ?_⟩
  rw [PpSet.eval_SetComp]
  have known : ∀ y ∈ sco.names, y.2 = .free → ∃ c, X.env.cells.lookup y.1 = some c := fun y hy e => I.ok.has _ (ok.free y hy e)
  refine wpAny_comprehension_free (use := none) rfl hs (closure_ok known) ok.kind (fun y hy e => by rw [ok.uniq y hy, e]) (thn (hi.run pins s σ H _ I h) fun _ _ hx => thn hx fun iv s2 h2 => ?_)
  obtain ⟨it, fp, tn, J, H2, e, I2, T, st2, f2, q⟩ := h2
  subst e
  refine PpSet.newSet_ok (newEnv_comp ?_)
  have nD : H2 s2.heap.objs.size = none := I2.hok.fresh (Nat.le_refl _)
  obtain ⟨W, ⟨m0, w0⟩, turn⟩ := q _ nD
  have I3 := I2.laid (t' := s2.toks) (o := SetO X.w s2.heap.objs.size (fun _ => false) 0) (fun b o e => Heap.get?_push_of_some { cls := .type "set", dict := none, data := .set #[] 0 (.fresh 0 0 (!X.w.params.followText "set-order")) } e) (Nat.le_refl _) (setO_new (setR_fresh X.w))
  have young : ∀ b ∈ fp, b < s2.heap.objs.size := fun b hb => (T.obj _ _ st2 b hb).elim fun o e => Heap.lt_size e.1
  exact blockT hc hN ok hv hs1 (hg _ _ _ _ _) (hi1 _ _ _ _ _) (hg1 _ _ _ _ _) (ht1 _ _ _ _ _) (he _ _ _ _ _) I3 T (T.keep _ _ _ st2 fun b _ o e => Heap.get?_push_of_some _ e)
    (fun b hb => ⟨⟨by rw [upd_ne (Nat.ne_of_lt (young b hb))]; exact (f2 b hb).1, (f2 b hb).2⟩, by show b < (Heap.push _ _).objs.size; rw [Heap.size_push]; exact Nat.lt_succ_of_lt (young b hb)⟩) w0 turn
    fun s' H' m I' qq hn ⟨f0, f1, _, f3, f4, f5⟩ => ⟨m, hn, fun h'' sb => ⟨.ref s2.heap.objs.size, H', I'.turned (t' := s'.toks) (fun b o hb e => (sb.2 b hb).trans e) f0 f1 f3 f4 f5, rfl, qq⟩⟩
end
end RV
set_option maxHeartbeats 4000000
/-! min of tuples of ints: of two, of a list of them -/
namespace RV
open PySem PySem.Spec PyProof.Rows L2
theorem lex_irr (xs : List Int) : HT.lexLt xs xs = false := by
  cases e : HT.lexLt xs xs with
  | false => rfl
  | true => have := NtL.lex_asym _ _ e; rw [e] at this; cases this
/-- the place of the first least -/
theorem best_least (l : Nat → List Int) : ∀ n : Nat, argBest (fun i j => HT.lexLt (l i) (l j)) n ≤ n ∧ ∀ j, j ≤ n → HT.lexLt (l j) (l (argBest (fun i j => HT.lexLt (l i) (l j)) n)) = false
  | 0 => ⟨Nat.le_refl _, fun j hj => by
    have : j = 0 := by omega
    subst this
    exact lex_irr _⟩
  | n + 1 => by
    obtain ⟨h1, h2⟩ := best_least l n
    have e0 : argBest (fun i j => HT.lexLt (l i) (l j)) (n + 1) = if HT.lexLt (l (n + 1)) (l (argBest (fun i j => HT.lexLt (l i) (l j)) n)) then n + 1 else argBest (fun i j => HT.lexLt (l i) (l j)) n := rfl
    rw [e0]
    generalize argBest (fun i j => HT.lexLt (l i) (l j)) n = b at h1 h2
    cases e : HT.lexLt (l (n + 1)) (l b) with
    | true =>
      rw [if_pos rfl]
      refine ⟨Nat.le_refl _, fun j hj => ?_⟩
      rcases Nat.lt_or_ge j (n + 1) with z | z
      · exact NtL.lex_tr _ _ _ (NtL.lex_asym _ _ e) (h2 j (by omega))
      · have : j = n + 1 := by omega
        subst this; exact lex_irr _
    | false =>
      rw [if_neg (by decide)]
      refine ⟨by omega, fun j hj => ?_⟩
      rcases Nat.lt_or_ge j (n + 1) with z | z
      · exact h2 j (by omega)
      · have : j = n + 1 := by omega
        subst this; exact e
section
variable {prog : Program} {w : World} {A : Around} {E : Value → Shared → Prop} {s : Shared}
/-- v is a tuple of the ints ns in h -/
def TupIn (h : Heap) (v : Value) (ns : List Int) : Prop := ∃ (a : Addr) (items : Array Value), v = .ref a ∧ IsTup h a items ∧ IntsAre items.toList ns
theorem TupIn.keep {h h' : Heap} {v : Value} {ns : List Int} (t : TupIn h v ns) (k : ∀ b o, h.get? b = some o → h'.get? b = some o) : TupIn h' v ns := by
  obtain ⟨a, items, e, ⟨o, h1, h2, h3⟩, hi⟩ := t
  exact ⟨a, items, e, ⟨o, k _ _ h1, h2, h3⟩, hi⟩
theorem cmp_tups {vs : Array Value} {l : Nat → List Int} (hu : A.units < cLine) (ht : ∀ i v, vs[i]? = some v → TupIn s.heap v (l i)) :
    CmpIn prog w A .Lt s.heap (fun i v => vs[i]? = some v) (fun i j => HT.lexLt (l i) (l j)) := fun i j vi vj s' Q E hk hi hj hq => by
  obtain ⟨a, it1, rfl, t1, i1⟩ := (ht i vi hi).keep hk
  obtain ⟨b, it2, rfl, t2, i2⟩ := (ht j vj hj).keep hk
  exact HT.lt_tupInts t1 t2 i1 i2 hu hq
/-- min(l) of a list of tuples of ints -/
theorem min_tups {a : Addr} {vs : Array Value} {l : Nat → List Int} {Q : Value → Shared → Prop} (hh : A.handled = none) (hl : s.heap.IsList a vs) (h0 : 0 < vs.size) (hu : A.units + 1 < cLine) (ht : ∀ i v, vs[i]? = some v → TupIn s.heap v (l i))
    (h : ∀ (i : Nat) v h' tk, vs[i]? = some v → (∀ j, j < vs.size → HT.lexLt (l j) (l i) = false) → (∀ b o, s.heap.get? b = some o → h'.get? b = some o) → Q v { s with heap := h', toks := tk }) :
    wpAny (model prog w) A (call (.builtin "min") [.ref a]) Q E s := by
  refine call_min_walkH (PySem.W.iter_listW (A := A.in1) hh hl fun s₂ e W st hfp hw hk => ?_)
  refine ⟨_, _, _, _, _, _, _, s.heap, _, rfl, W, st, hfp, h0, hw, hk, cmp_tups (A := A.in1) (show A.units + 1 < cLine from hu) ht, fun v s' hP m => ?_⟩
  obtain ⟨h', tk, rfl, hk'⟩ := PySem.W.moved_old e rfl m
  obtain ⟨b1, b2⟩ := best_least l (vs.size - 1)
  exact h _ v h' tk hP (fun j hj => b2 j (by omega)) hk'
/-- min(v, u) of two tuples of ints -/
theorem min_two_tups {v u : Value} {ns ms : List Int} {Q : Value → Shared → Prop} (hh : A.handled = none) (hu : A.units + 1 < cLine) (hv : TupIn s.heap v ns) (hw : TupIn s.heap u ms)
    (h : ∀ h' tk, (∀ b o, s.heap.get? b = some o → h'.get? b = some o) → Q (if HT.lexLt ms ns = true then u else v) { s with heap := h', toks := tk }) :
    wpAny (model prog w) A (call (.builtin "min") [v, u]) Q E s := by
  have hname : (toString "min" ++ toString ".loop" : String) = "min.loop" := by decide
  refine call_function_tree F.kind_min F.plain_min F.entry_min (F.args_min2 _ _) ?_
  show wpAny _ A.in1 (Builtin.Builtins.bindParams "min" ["key", "default"] 0 ⟨[], []⟩ >>= _) _ _ s
  refine wpAny_bind (wpAny_of_eq (show Builtin.Builtins.bindParams "min" ["key", "default"] 0 ⟨[], []⟩ = pure [none, none] from rfl) ?_)
  show wpAny _ A.in1 (newTuple [v, u] >>= _) _ _ s
  refine wpAny_bind (wpAny_newObj_type ?_)
  have hT : (s.heap.push { cls := .type "tuple", data := .seq #[v, u] }).IsTuple s.heap.objs.size #[v, u] := ⟨_, Heap.get?_push_size _ rfl, rfl, 0, rfl⟩
  have k0 : ∀ b o, s.heap.get? b = some o → (s.heap.push { cls := .type "tuple", data := .seq #[v, u] }).get? b = some o := fun b o e => Heap.get?_push_of_some _ e
  have ht : ∀ i x, (#[v, u] : Array Value)[i]? = some x → TupIn (s.heap.push { cls := .type "tuple", data := .seq #[v, u] }) x ((fun i : Nat => if i = 0 then ns else ms) i) := fun i x hx => by
    match i, hx with
    | 0, hx => cases hx; exact hv.keep k0
    | 1, hx => cases hx; exact hw.keep k0
    | i + 2, hx => simp at hx
  refine wpAny_bind (PySem.W.iter_tupleW (s := { s with heap := s.heap.push { cls := .type "tuple", data := .seq #[v, u] } }) (A := A.in1) hh hT fun s₂ e W st hfp hw' hk => ?_)
  refine wpAny_bind (wpAny_newObj_type ?_)
  have hSf : s₂.heap.objs.size ∉ [(s.heap.push { cls := .type "tuple", data := .seq #[v, u] }).objs.size, s.heap.objs.size] := fun hm => Nat.lt_irrefl _ (hfp _ hm)
  rw [hname]
  refine wpAny_pure ⟨plainId_quiet F.plain_min_loop _, codeAny_min_loop_firstH W _ hw' _ (cmp_tups (s := { s with heap := s.heap.push { cls := .type "tuple", data := .seq #[v, u] } }) (A := A.in1) (show A.units + 1 < cLine from hu) ht) s₂.heap.objs.size hSf (fresh_in hk) _ (by show 0 < 2; decide) (fun b o e => Heap.get?_push_of_some _ (hk b o e)) (W.frame 0 s₂ _ s₂.toks st (Nat.le_refl _) fun b _ o e => Heap.get?_push_of_some _ e) (Heap.get?_push_size _ rfl) fun x s' hP hm => ?_⟩
  have m := Moved.drop_new (tk := s₂.toks) hm (Nat.le_refl _)
  obtain ⟨h', tk, rfl, hk'⟩ := PySem.W.moved_old e rfl m
  have z := h h' tk fun b o eb => hk' b o (k0 b o eb)
  have ex : x = if HT.lexLt ms ns = true then u else v := by
    have hP1 : (#[v, u] : Array Value)[argBest (fun i j => HT.lexLt ((fun i : Nat => if i = 0 then ns else ms) i) ((fun i : Nat => if i = 0 then ns else ms) j)) 1]? = some x := hP
    cases el : HT.lexLt ms ns with
    | true =>
      have e1 : argBest (fun i j => HT.lexLt ((fun i : Nat => if i = 0 then ns else ms) i) ((fun i : Nat => if i = 0 then ns else ms) j)) 1 = 1 := by simp [argBest, el]
      rw [e1] at hP1
      rw [if_pos rfl]; cases hP1; rfl
    | false =>
      have e1 : argBest (fun i j => HT.lexLt ((fun i : Nat => if i = 0 then ns else ms) i) ((fun i : Nat => if i = 0 then ns else ms) j)) 1 = 0 := by simp [argBest, el]
      rw [e1] at hP1
      rw [if_neg (by decide)]; cases hP1; rfl
  rw [ex]; exact z
end
section
variable {X : Cx}
theorem tupIn_of {pins : List (Addr × Obj)} {s : Shared} {σ : L2.St} {H : Hp} (I : Inv X pins σ H s) {a : Addr} {ns : List Int} (h : SqT X.K H a (ns.map V.int)) : TupIn s.heap (.ref a) ns := by
  obtain ⟨its, r1, p1, _⟩ := I.tuple h
  exact ⟨a, _, rfl, p1, intsAre_of r1⟩
/-- min(t, u) of two tuples of ints -/
def rMin2T (K : PySem.W.Frag) : List V → Hp → VK → Prop := fun vs H Q => ∃ (a b : Addr) (ns ms : List Int), vs = [.ref a, .ref b] ∧ SqT K H a (ns.map V.int) ∧ SqT K H b (ms.map V.int) ∧ Q (.ref (if HT.lexLt ms ns = true then b else a)) H
theorem cr_min2T (hc : X.calm = true) (hu : X.A.units + 1 < cLine) : CallR X (.builtin "min") (rMin2T X.K) := by
  intro pins s σ H vs us Q I r h
  obtain ⟨a, b, ns, ms, rfl, ha, hb, q⟩ := h
  obtain ⟨u, w', rfl, e1, e2⟩ := vals2 r
  cases e1
  cases e2
  refine min_two_tups (I.ok.hd hc) hu (tupIn_of I ha) (tupIn_of I hb) fun h' tk k => ⟨_, H, I.kept k, ?_, q⟩
  cases HT.lexLt ms ns <;> rfl
/-! sorted of two tuples of ints of one length -/
theorem code_lex {B : Int} : ∀ {xs ys : List Int}, xs.length = ys.length → TS.Bd B xs → TS.Bd B ys → HT.lexLt xs ys = decide (TS.code B xs < TS.code B ys)
  | [], [], _, _, _ => by
    show false = decide (TS.code B [] < TS.code B [])
    rw [decide_eq_false (Int.lt_irrefl _)]
  | x :: xs, y :: ys, hl, h1, h2 => by
    have hl' : xs.length = ys.length := by simpa using hl
    have t1 : TS.Bd B xs := fun m hm => h1 m (List.mem_cons_of_mem _ hm)
    have t2 : TS.Bd B ys := fun m hm => h2 m (List.mem_cons_of_mem _ hm)
    rw [HT.lexLt_cons]
    by_cases e : x = y
    · rw [if_pos e, code_lex hl' t1 t2, e]
      refine decide_eq_decide.mpr ?_
      show TS.code B xs < TS.code B ys ↔ y * B ^ xs.length + TS.code B xs < y * B ^ ys.length + TS.code B ys
      rw [hl']
      omega
    · rw [if_neg e]
      refine decide_eq_decide.mpr ⟨fun z => TS.code_lt hl' t1 t2 z, fun z => ?_⟩
      rcases Int.lt_trichotomy x y with c | c | c
      · exact c
      · exact absurd c e
      · have := TS.code_lt hl'.symm t2 t1 c
        omega
theorem lex_tot : ∀ {xs ys : List Int}, HT.lexLt xs ys = false → HT.lexLt ys xs = false → xs = ys
  | [], [], _, _ => rfl
  | [], y :: ys, h, _ => by cases h
  | x :: xs, [], _, h => by cases h
  | x :: xs, y :: ys, h1, h2 => by
    rw [HT.lexLt_cons] at h1 h2
    by_cases e : x = y
    · rw [if_pos e] at h1
      rw [if_pos e.symm] at h2
      rw [e, lex_tot h1 h2]
    · rw [if_neg e] at h1
      rw [if_neg (fun z => e z.symm)] at h2
      have a1 := of_decide_eq_false h1
      have a2 := of_decide_eq_false h2
      omega
def rSort2T (K : PySem.W.Frag) : List V → Hp → VK → Prop := fun vs H Q => ∃ (l a b : Addr) (ns ms : List Int) (B : Int), vs = [.ref l] ∧ SqL K H l [.ref a, .ref b] ∧ SqT K H a (ns.map V.int) ∧ SqT K H b (ms.map V.int) ∧ ns.length = ms.length ∧ 1 ≤ ns.length ∧ TS.Bd B ns ∧ TS.Bd B ms ∧
  ∀ (c d p : Addr), SqT K H c ((if HT.lexLt ms ns = true then ms else ns).map V.int) → H p = none → Q (.ref p) (upd H p (.lst [.ref c, .ref d]))
theorem cr_sort2T : CallR X (.builtin "sorted") (rSort2T X.K) := by
  intro pins s σ H vs us Q I r h
  obtain ⟨l, a, b, ns, ms, B, rfl, hL, ha, hb, hlen, h1, B1, B2, q⟩ := h
  refine cr_sortT (d := ns.length) (B := B) h1 pins s σ H _ us Q I r ⟨l, _, rfl, hL, by show 2 < 64; decide, fun x hx => ?_, fun ys p pm pw np => ?_⟩
  · simp only [List.mem_cons, List.not_mem_nil, or_false] at hx
    rcases hx with rfl | rfl
    · exact ⟨ns, ⟨a, rfl, ha⟩, rfl, B1⟩
    · exact ⟨ms, ⟨b, rfl, hb⟩, hlen.symm, B2⟩
  · have hl2 : ys.length = 2 := pm.length_eq
    match ys, hl2, pm, pw with
    | [x, y], _, pm, pw =>
      have rel : ∀ n m, TupI X.K H x n → TupI X.K H y m → TS.code B n ≤ TS.code B m := by
        have z := pw
        rw [List.pairwise_cons] at z
        exact z.1 y (List.mem_singleton.mpr rfl)
      have ma : V.ref a = x ∨ V.ref a = y := by
        have z := pm.mem_iff.mpr (show V.ref a ∈ [V.ref a, V.ref b] by simp)
        simpa using z
      have mb : V.ref b = x ∨ V.ref b = y := by
        have z := pm.mem_iff.mpr (show V.ref b ∈ [V.ref a, V.ref b] by simp)
        simpa using z
      have my : y = V.ref a ∨ y = V.ref b := by
        have z := pm.mem_iff.mp (show y ∈ [x, y] by simp)
        simpa using z
      obtain ⟨d, ed⟩ : ∃ d, y = V.ref d := my.elim (fun e => ⟨_, e⟩) fun e => ⟨_, e⟩
      have fst : ∀ ty : TupI X.K H y ms, x = V.ref a → Q (.ref p) (upd H p (.lst [x, y])) := fun ty ex => by
        have le := rel ns ms ⟨a, ex, ha⟩ ty
        have z := code_lex hlen.symm B2 B1
        rw [decide_eq_false (by omega)] at z
        rw [ex, ed]
        refine q a d p ?_ np
        rw [z, if_neg (by decide)]; exact ha
      rcases ma with ea | ea
      · rcases mb with eb | eb
        · have eab : a = b := V.ref.inj (ea.trans eb.symm)
          refine fst ?_ ea.symm
          rcases my with e | e
          · exact ⟨a, e, by rw [eab]; exact hb⟩
          · exact ⟨b, e, hb⟩
        · exact fst ⟨b, eb.symm, hb⟩ ea.symm
      · rcases mb with eb | eb
        · have le := rel ms ns ⟨b, eb.symm, hb⟩ ⟨a, ea.symm, ha⟩
          rw [← eb, ed]
          refine q b d p ?_ np
          have z := code_lex hlen.symm B2 B1
          cases el : HT.lexLt ms ns with
          | true => rw [if_pos rfl]; exact hb
          | false =>
            rw [if_neg (by decide)]
            have z2 := code_lex hlen B1 B2
            rw [decide_eq_false (by omega)] at z2
            rw [lex_tot z2 el]; exact hb
        · have eab : a = b := V.ref.inj (ea.trans eb.symm)
          have mx : x = V.ref a ∨ x = V.ref b := by
            have z := pm.mem_iff.mp (show x ∈ [x, y] by simp)
            simpa using z
          refine fst ⟨b, eb.symm, hb⟩ ?_
          rcases mx with e | e
          · exact e
          · rw [e, eab]
end
end RV
set_option maxHeartbeats 4000000
/-! the least of all walks: mark by mark, and of all gone through -/
namespace RV
open PyProof.Rows
section
variable {bh : Int → List Int} {N : Nat} {E : List Int}
/-- from where so many steps lead to E -/
def beg (bh : Int → List Int) (N : Nat) (E : List Int) : Nat → List Int
  | 0 => E
  | n + 1 => (upN N).filter fun m => (bh m).any fun c => decide (c ∈ beg bh N E n)
theorem mem_beg {n : Nat} {m : Int} : m ∈ beg bh N E (n + 1) ↔ (0 ≤ m ∧ m < (N : Int)) ∧ ∃ c ∈ bh m, c ∈ beg bh N E n := by
  show m ∈ (upN N).filter _ ↔ _
  rw [List.mem_filter, mem_upN, List.any_eq_true]
  simp only [decide_eq_true_eq]
/-- mark by mark the least that still leads there -/
def Gr (bh : Int → List Int) (B : Nat → List Int) : Nat → Int → List Int → Prop
  | 0, m, w => w = [m]
  | n + 1, m, w => ∃ c w', w = m :: w' ∧ c ∈ bh m ∧ c ∈ B n ∧ (∀ y ∈ bh m, y ∈ B n → c ≤ y) ∧ Gr bh B n c w'
theorem Gr.uniq {B : Nat → List Int} : ∀ {n : Nat} {m : Int} {w v : List Int}, Gr bh B n m w → Gr bh B n m v → w = v
  | 0, m, w, v, h, h' => by rw [show w = [m] from h, show v = [m] from h']
  | n + 1, m, w, v, h, h' => by
    obtain ⟨c, w', rfl, a1, a2, a3, a4⟩ := h
    obtain ⟨d, v', rfl, b1, b2, b3, b4⟩ := h'
    have : c = d := Int.le_antisymm (a3 d b1 b2) (b3 c a1 a2)
    subst this
    rw [a4.uniq b4]
theorem Gr.len {B : Nat → List Int} : ∀ {n : Nat} {m : Int} {w : List Int}, Gr bh B n m w → w.length = n + 1
  | 0, m, w, h => by rw [show w = [m] from h]; rfl
  | n + 1, m, w, h => by
    obtain ⟨c, w', rfl, _, _, _, a4⟩ := h
    rw [List.length_cons, a4.len]
theorem Gr.congr {B B' : Nat → List Int} : ∀ {n : Nat} (_ : ∀ k, k < n → ∀ m, m ∈ B k ↔ m ∈ B' k) {m : Int} {w : List Int}, Gr bh B n m w → Gr bh B' n m w
  | 0, _, m, w, h => h
  | n + 1, e, m, w, h => by
    obtain ⟨c, w', rfl, a1, a2, a3, a4⟩ := h
    exact ⟨c, w', rfl, a1, (e n (by omega) c).mp a2, fun y y1 y2 => a3 y y1 ((e n (by omega) y).mpr y2), a4.congr fun k hk => e k (by omega)⟩
theorem Gr.inn {B : Nat → List Int} {P : Int → Prop} (hb : ∀ m, P m → ∀ c ∈ bh m, P c) : ∀ {n : Nat} {m : Int} {w : List Int}, Gr bh B n m w → P m → ∀ x ∈ w, P x
  | 0, m, w, h, hm, x, hx => by
    rw [show w = [m] from h, List.mem_singleton] at hx
    rw [hx]; exact hm
  | n + 1, m, w, h, hm, x, hx => by
    obtain ⟨c, w', rfl, a1, a2, a3, a4⟩ := h
    rcases List.mem_cons.mp hx with rfl | z
    · exact hm
    · exact a4.inn hb (hb m hm c a1) x z
/-- a walk of so many steps from m to o -/
def WkL (bh : Int → List Int) : Nat → Int → Int → List Int → Prop
  | 0, m, o, w => w = [m] ∧ m = o
  | n + 1, m, o, w => ∃ c w', w = m :: w' ∧ c ∈ bh m ∧ WkL bh n c o w'
theorem WkL.head : ∀ {n : Nat} {m o : Int} {w : List Int}, WkL bh n m o w → ∃ v, w = m :: v
  | 0, m, o, w, h => ⟨[], h.1⟩
  | n + 1, m, o, w, h => by
    obtain ⟨c, w', e, _⟩ := h
    exact ⟨w', e⟩
theorem Gr.head {B : Nat → List Int} : ∀ {n : Nat} {m : Int} {w : List Int}, Gr bh B n m w → ∃ v, w = m :: v
  | 0, m, w, h => ⟨[], h⟩
  | n + 1, m, w, h => by
    obtain ⟨c, w', e, _⟩ := h
    exact ⟨w', e⟩
theorem WkL.beg (hb : ∀ m, (0 ≤ m ∧ m < (N : Int)) → ∀ c ∈ bh m, 0 ≤ c ∧ c < (N : Int)) {o : Int} : ∀ {n : Nat} {m : Int} {w : List Int}, WkL bh n m o w → (0 ≤ m ∧ m < (N : Int)) → m ∈ RV.beg bh N [o] n
  | 0, m, w, h, _ => by rw [h.2]; exact List.mem_singleton.mpr rfl
  | n + 1, m, w, h, hm => by
    obtain ⟨c, w', _, h1, h2⟩ := h
    exact mem_beg.mpr ⟨hm, c, h1, h2.beg hb (hb m hm c h1)⟩
theorem Gr.wk {o : Int} : ∀ {n : Nat} {m : Int} {w : List Int}, Gr bh (RV.beg bh N [o]) n m w → m ∈ RV.beg bh N [o] n → WkL bh n m o w
  | 0, m, w, h, hm => ⟨h, List.mem_singleton.mp hm⟩
  | n + 1, m, w, h, hm => by
    obtain ⟨c, w', e, a1, a2, a3, a4⟩ := h
    exact ⟨c, w', e, a1, a4.wk a2⟩
theorem Gr.least (hb : ∀ m, (0 ≤ m ∧ m < (N : Int)) → ∀ c ∈ bh m, 0 ≤ c ∧ c < (N : Int)) {o : Int} : ∀ {n : Nat} {m : Int} {g w : List Int}, Gr bh (RV.beg bh N [o]) n m g → WkL bh n m o w → (0 ≤ m ∧ m < (N : Int)) → HT.lexLt w g = false
  | 0, m, g, w, h, h', _ => by rw [show g = [m] from h, h'.1]; exact lex_irr _
  | n + 1, m, g, w, h, h', hm => by
    obtain ⟨c, g', rfl, a1, a2, a3, a4⟩ := h
    obtain ⟨d, w', rfl, b1, b2⟩ := h'
    have hd := hb m hm d b1
    have le := a3 d b1 (b2.beg hb hd)
    rw [HT.lexLt_cons, if_pos rfl]
    by_cases e : d = c
    · subst e
      exact a4.least hb b2 hd
    · obtain ⟨x, rfl⟩ := a4.head
      obtain ⟨y, rfl⟩ := b2.head
      rw [HT.lexLt_cons, if_neg e, decide_eq_false (by omega)]
theorem ex_gr : ∀ {n : Nat} {m : Int}, m ∈ RV.beg bh N E n → ∃ w, Gr bh (RV.beg bh N E) n m w
  | 0, m, _ => ⟨[m], rfl⟩
  | n + 1, m, h => by
    obtain ⟨_, c, h1, h2⟩ := mem_beg.mp h
    have lst : ∀ (l : List Int), l ≠ [] → ∃ x ∈ l, ∀ y ∈ l, x ≤ y := by
      intro l
      induction l with
      | nil => intro z; exact absurd rfl z
      | cons a l ih =>
        intro _
        by_cases e : l = []
        · subst e
          exact ⟨a, List.mem_singleton.mpr rfl, fun y hy => by rw [List.mem_singleton.mp hy]; exact Int.le_refl _⟩
        · obtain ⟨x, x1, x2⟩ := ih e
          rcases Int.le_total a x with z | z
          · exact ⟨a, List.mem_cons_self, fun y hy => by
              rcases List.mem_cons.mp hy with rfl | y1
              · exact Int.le_refl _
              · exact Int.le_trans z (x2 y y1)⟩
          · exact ⟨x, List.mem_cons_of_mem _ x1, fun y hy => by
              rcases List.mem_cons.mp hy with rfl | y1
              · exact z
              · exact x2 y y1⟩
    obtain ⟨x, x1, x2⟩ := lst ((bh m).filter fun y => decide (y ∈ RV.beg bh N E n)) (fun z => by
      have : c ∈ (bh m).filter fun y => decide (y ∈ RV.beg bh N E n) := List.mem_filter.mpr ⟨h1, decide_eq_true h2⟩
      rw [z] at this; cases this)
    obtain ⟨x3, x4⟩ := List.mem_filter.mp x1
    have x4 := of_decide_eq_true x4
    obtain ⟨w, hw⟩ := ex_gr x4
    exact ⟨m :: w, x, w, rfl, x3, x4, fun y y1 y2 => x2 y (List.mem_filter.mpr ⟨y1, decide_eq_true y2⟩), hw⟩
/-- the last mark -/
def la (w : List Int) : Int := w.getLast?.getD 0
theorem la_add (w : List Int) (c : Int) : la (w ++ [c]) = c := by unfold la; simp
theorem WkL.snoc {o d : Int} : ∀ {n : Nat} {m : Int} {w : List Int}, WkL bh n m o w → d ∈ bh o → WkL bh (n + 1) m d (w ++ [d])
  | 0, m, w, h, hd => by
    obtain ⟨rfl, rfl⟩ := h
    exact ⟨d, [d], rfl, hd, rfl, rfl⟩
  | n + 1, m, w, h, hd => by
    obtain ⟨c, w', rfl, h1, h2⟩ := h
    exact ⟨c, w' ++ [d], rfl, h1, h2.snoc hd⟩
theorem WkL.unsnoc {d : Int} : ∀ {n : Nat} {m : Int} {w : List Int}, WkL bh (n + 1) m d w → ∃ o v, WkL bh n m o v ∧ d ∈ bh o ∧ w = v ++ [d]
  | 0, m, w, h => by
    obtain ⟨c, w', rfl, h1, h2, rfl⟩ := h
    exact ⟨m, [m], ⟨rfl, rfl⟩, h1, by rw [h2]; rfl⟩
  | n + 1, m, w, h => by
    obtain ⟨c, w', rfl, h1, h2⟩ := h
    obtain ⟨o, v, k1, k2, rfl⟩ := h2.unsnoc
    exact ⟨o, m :: v, ⟨c, v, rfl, h1, k1⟩, k2, rfl⟩
theorem WkL.la : ∀ {n : Nat} {m o : Int} {w : List Int}, WkL bh n m o w → RV.la w = o
  | 0, m, o, w, h => by rw [h.1, h.2]; rfl
  | n + 1, m, o, w, h => by
    obtain ⟨c, v, _, _, rfl⟩ := h.unsnoc
    exact la_add _ _
theorem WkL.len : ∀ {n : Nat} {m o : Int} {w : List Int}, WkL bh n m o w → w.length = n + 1
  | 0, m, o, w, h => by rw [h.1]; rfl
  | n + 1, m, o, w, h => by
    obtain ⟨c, v, rfl, _, h2⟩ := h
    rw [List.length_cons, h2.len]
/-- all walks of so many steps from m, gone through -/
def alw (bh : Int → List Int) (m : Int) : Nat → List (List Int)
  | 0 => [[m]]
  | n + 1 => (alw bh m n).flatMap fun w => (bh (la w)).map fun c => w ++ [c]
theorem mem_alw {m : Int} : ∀ {n : Nat} {w : List Int}, w ∈ alw bh m n ↔ ∃ o, WkL bh n m o w
  | 0, w => by
    show w ∈ [[m]] ↔ _
    rw [List.mem_singleton]
    exact ⟨fun h => ⟨m, h, rfl⟩, fun ⟨o, h, _⟩ => h⟩
  | n + 1, w => by
    show w ∈ (alw bh m n).flatMap _ ↔ _
    rw [List.mem_flatMap]
    constructor
    · rintro ⟨v, h1, h2⟩
      obtain ⟨o, ho⟩ := mem_alw.mp h1
      obtain ⟨c, c1, rfl⟩ := List.mem_map.mp h2
      rw [ho.la] at c1
      exact ⟨c, ho.snoc c1⟩
    · rintro ⟨d, hd⟩
      obtain ⟨o, v, k1, k2, rfl⟩ := hd.unsnoc
      refine ⟨v, mem_alw.mpr ⟨o, k1⟩, List.mem_map.mpr ⟨d, ?_, rfl⟩⟩
      rw [k1.la]; exact k2
theorem alw_len {m : Int} {b : Nat} (hb : ∀ x, (bh x).length ≤ b) : ∀ n, (alw bh m n).length ≤ b ^ n
  | 0 => Nat.le_refl _
  | n + 1 => by
    show ((alw bh m n).flatMap _).length ≤ _
    have h : ∀ L : List (List Int), (L.flatMap fun w => (bh (la w)).map fun c => w ++ [c]).length ≤ L.length * b := by
      intro L
      induction L with
      | nil => simp
      | cons w L ih =>
        rw [List.flatMap_cons, List.length_append, List.length_map, List.length_cons, Nat.succ_mul]
        have := hb (la w)
        omega
    exact Nat.le_trans (h _) (by rw [Nat.pow_succ]; exact Nat.mul_le_mul (alw_len hb n) (Nat.le_refl _))
end
end RV
set_option maxHeartbeats 4000000
namespace RV
open PySem PySem.Spec PyProof.Rows L2
theorem shows_dI7 {ns : List Int} (hn : ∀ n ∈ ns, n.natAbs < 10 ^ 12) (ln : ns.length ≤ 7000) : Shows (dI ns) := by
  have i3 : (dI ns).bulk = ns.length := by simp only [dI, PyData.bulk, bulk_ints]
  refine ⟨by simp only [dI, PyData.showable]; exact show_ints ns hn, PyData.hasDict_of_canLay _ (dI_lay ns), by rw [dI_dep]; decide, ?_⟩
  refine PyData.shown_fits_bulk (B := 13) (by decide) (by decide) (PyData.leavesShort_of_canLay0 13 _ (dI_lay ns) ?_) (by rw [i3]; omega)
  simp only [dI, PyData.intsShort]; exact PyData.intsShortAll_ints ns hn
section
variable {X : Cx}
/-- repr of a tuple or of None -/
def rReprT (K : PySem.W.Frag) : List V → Hp → VK → Prop := fun xs H Q => (∃ (a : Addr) (ns : List Int), xs = [.ref a] ∧ SqT K H a (ns.map V.int) ∧ Shows (dI ns) ∧ Q (.str (dI ns).shown) H) ∨ (xs = [.non] ∧ Q (.str "None") H)
theorem call_reprT (gd : X.A.guards = some []) (hu : X.A.units + 65 < cLine) : CallR X (.builtin "repr") (rReprT X.K) := by
  intro pins s σ H xs us Q I r h
  rcases h with ⟨a, ns, e, hT, sh, q⟩ | ⟨rfl, q⟩
  · exact call_reprD gd hu pins s σ H xs us Q I r ⟨a, dI ns, e, dpT hT, sh.h1, sh.h2, sh.h3, sh.h4, q⟩
  · obtain ⟨u, rfl, rx⟩ := vals1 r
    cases (show u = Value.none from rx)
    exact PySem.P.repr_of_none ⟨.str "None", H, I.tok _, ⟨_, rfl⟩, q⟩
end
/-- unlike numbers below n are at most n -/
theorem few_below : ∀ {n : Nat} {l : List Int}, l.Nodup → (∀ x ∈ l, 0 ≤ x ∧ x < (n : Int)) → l.length ≤ n
  | 0, l, _, h => by
    cases l with
    | nil => exact Nat.le_refl _
    | cons x l => have := h x List.mem_cons_self; omega
  | n + 1, l, nd, h => by
    have nd2 : (l.erase (n : Int)).Nodup := nd.erase _
    have h2 : ∀ x ∈ l.erase (n : Int), 0 ≤ x ∧ x < (n : Int) := fun x hx => by
      have h3 := (List.Nodup.mem_erase_iff nd).mp hx
      have h4 := h x h3.2
      have h5 := h3.1
      omega
    have z := few_below nd2 h2
    rw [List.length_erase] at z
    split at z
    · omega
    · rename_i hno
      omega
end RV
set_option maxHeartbeats 4000000
/-! walks of so many steps, and tables of where they end -/
namespace RV
open PySem PySem.Spec PyProof.Rows L2
section
variable {bh : Int → List Int} {N : Nat}
/-- so many steps lead from the one to the other -/
def lk (bh : Int → List Int) : Nat → Int → Int → Prop
  | 0, a, b => a = b
  | n + 1, a, b => ∃ c, c ∈ bh a ∧ lk bh n c b
theorem lk_add {n : Nat} {b : Int} : ∀ {m : Nat} {a : Int}, lk bh (m + n) a b ↔ ∃ c, lk bh m a c ∧ lk bh n c b
  | 0, a => by
    rw [Nat.zero_add]
    exact ⟨fun h => ⟨a, rfl, h⟩, fun ⟨c, h1, h2⟩ => by rw [show a = c from h1]; exact h2⟩
  | m + 1, a => by
    rw [show m + 1 + n = (m + n) + 1 by omega]
    constructor
    · rintro ⟨c, h1, h2⟩
      obtain ⟨d, h3, h4⟩ := lk_add.mp h2
      exact ⟨d, ⟨c, h1, h3⟩, h4⟩
    · rintro ⟨d, ⟨c, h1, h3⟩, h4⟩
      exact ⟨c, h1, lk_add.mpr ⟨d, h3, h4⟩⟩
theorem lk_one {a b : Int} : lk bh 1 a b ↔ b ∈ bh a :=
  ⟨fun ⟨c, h1, h2⟩ => by rw [← show c = b from h2]; exact h1, fun h => ⟨b, h, rfl⟩⟩
theorem lk_inn (hb : ∀ m, ∀ c ∈ bh m, 0 ≤ c ∧ c < (N : Int)) {b : Int} : ∀ {n : Nat} {a : Int}, lk bh n a b → (0 ≤ a ∧ a < (N : Int)) → 0 ≤ b ∧ b < (N : Int)
  | 0, a, h, ha => by rw [← show a = b from h]; exact ha
  | n + 1, a, ⟨c, h1, h2⟩, _ => lk_inn hb h2 (hb a c h1)
theorem beg_lk (hb : ∀ m, ∀ c ∈ bh m, 0 ≤ c ∧ c < (N : Int)) {b : Int} : ∀ {n : Nat} {a : Int}, (0 ≤ a ∧ a < (N : Int)) → (a ∈ beg bh N [b] n ↔ lk bh n a b)
  | 0, a, _ => by show a ∈ [b] ↔ a = b; rw [List.mem_singleton]
  | n + 1, a, ha => by
    rw [mem_beg]
    exact ⟨fun ⟨_, c, h1, h2⟩ => ⟨c, h1, (beg_lk hb (hb a c h1)).mp h2⟩, fun ⟨c, h1, h2⟩ => ⟨ha, c, h1, (beg_lk hb (hb a c h1)).mpr h2⟩⟩
end
/-- a tuple of rising tuples: x in the row of i just where f i x -/
def Tab (K : PySem.W.Frag) (H : Hp) (t : Addr) (N : Nat) (f : Int → Int → Prop) : Prop := ∃ as : List Addr, SqT K H t (as.map V.ref) ∧ as.length = N ∧
  ∀ (i : Nat) (a : Addr), as[i]? = some a → ∃ xs : List Int, SqT K H a (xs.map V.int) ∧ xs.Pairwise (· < ·) ∧ (∀ x ∈ xs, 0 ≤ x ∧ x < (N : Int)) ∧ ∀ x, x ∈ xs ↔ f (i : Int) x
theorem Tab.same {K : PySem.W.Frag} {H H' : Hp} {t : Addr} {N : Nat} {f : Int → Int → Prop} (h : Tab K H t N f) (s : Same H H') : Tab K H' t N f := by
  obtain ⟨as, h1, h2, h3⟩ := h
  exact ⟨as, sqT_same s h1, h2, fun i a e => (h3 i a e).imp fun xs q => ⟨sqT_same s q.1, q.2⟩⟩
theorem Tab.congr {K : PySem.W.Frag} {H : Hp} {t : Addr} {N : Nat} {f g : Int → Int → Prop} (h : Tab K H t N f) (e : ∀ i x : Int, 0 ≤ i → i < (N : Int) → (f i x ↔ g i x)) : Tab K H t N g := by
  obtain ⟨as, h1, h2, h3⟩ := h
  refine ⟨as, h1, h2, fun i a ea => ?_⟩
  obtain ⟨xs, q1, q2, q3, q4⟩ := h3 i a ea
  have hi := (List.getElem?_eq_some_iff.mp ea).1
  exact ⟨xs, q1, q2, q3, fun x => (q4 x).trans (e i x (by omega) (by omega))⟩
theorem Tab.at {K : PySem.W.Frag} {H : Hp} {t : Addr} {N : Nat} {f : Int → Int → Prop} (h : Tab K H t N f) {m : Int} (h0 : 0 ≤ m) (h1 : m < (N : Int)) : ∃ (vs : List V) (a : Addr) (xs : List Int), SqT K H t vs ∧ atI vs m = some (.ref a) ∧ SqT K H a (xs.map V.int) ∧ xs.Pairwise (· < ·) ∧ (∀ x ∈ xs, 0 ≤ x ∧ x < (N : Int)) ∧ ∀ x, x ∈ xs ↔ f m x := by
  obtain ⟨as, q1, q2, q3⟩ := h
  have hm : m.toNat < as.length := by omega
  have e : ((m.toNat : Nat) : Int) = m := Int.toNat_of_nonneg h0
  obtain ⟨xs, z1, z2, z3, z4⟩ := q3 m.toNat _ (List.getElem?_eq_getElem hm)
  rw [e] at z4
  refine ⟨_, as[m.toNat], xs, q1, ?_, z1, z2, z3, z4⟩
  have := atI_nat (xs := as.map V.ref) (j := m.toNat) (v := .ref as[m.toNat]) (by rw [List.getElem?_map, List.getElem?_eq_getElem hm]; rfl)
  rw [e] at this; exact this
theorem rise_nodup {xs : List Int} (h : xs.Pairwise (· < ·)) : xs.Nodup := h.imp fun {a b} z e => by omega
section
variable {X : Cx} {K : PySem.W.Frag} {w : World}
theorem pe_tupleOfK {a : Expr} {ta : TE} {p pos : Pos} (h : X.K = K) (hg : Gl X "tuple") (hm : X.mg "tuple" = none) (ha : PE X a ta) (na : starEach [a] X.env = (false, eval a X.env) :: starEach [] X.env := by rfl) :
    PE X (.Call (.Name "tuple" p) [a] [] pos) (tThen ta (kTup K)) := h ▸ pe_tupleOf hg hm ha na
theorem cr_sortedSetW (h : X.w = w) (hc : X.calm = true) : CallR X (.builtin "sorted") (rSortedSet w) := h ▸ cr_sortedSet hc
theorem pe_sc2W {el ta ia t1 ib : Expr} {sco : Scope} {own : List (PySem.Str × Nat)} {vs1 : List Nat} {pp : Pos} {wi wi1 : TI} {g g1 : TG} {te : TE} (h : X.w = w) (hc : X.calm = true) (hN : X.N.Nodup) (hi : PI X ta ia wi) (ok : BlkOk X.N X.env.scope sco own) (hv : ∀ i ∈ vs1, i ∈ own.map (·.2))
    (hg : ∀ s H C cl fp, PG (X.blk s H sco (compEnvC sco cl C X.env) fp) ta g) (hi1 : ∀ s H C cl fp, PI (X.blk s H sco (compEnvC sco cl C X.env) fp) t1 ib wi1) (hg1 : ∀ s H C cl fp, PG (X.blk s H sco (compEnvC sco cl C X.env) fp) t1 g1)
    (he : ∀ s H C cl fp, PE (X.blk s H sco (compEnvC sco cl C X.env) fp) el te) (hs : ∀ x, foldedSetIterable ia X.env x = pure x := by intro _; rfl) (hs1 : ∀ env x, foldedSetIterable ib env x = pure x := by intro _ _; rfl) :
    PE X (.SetComp el [⟨ta, ia, [], 0⟩, ⟨t1, ib, [], 0⟩] sco pp) (tS2 w wi g wi1 g1 te (own.map (·.2)) vs1) := h ▸ pe_sc2 hc hN hi ok hv hg hi1 hg1 he hs hs1
end
/-- a loop over a tuple that its turns leave as it is -/
theorem it_tup {K : PySem.W.Frag} {a : Addr} {xs : List V} {H0 : Hp} {Fin : Hp → Prop} {Bd : V → Hp → (Hp → Prop) → Prop} (Pv : Nat → Hp → Prop) (h0 : Pv 0 H0) (hl : ∀ i H, i ≤ xs.length → Pv i H → SqT K H a xs)
    (hs : ∀ i x H, xs[i]? = some x → Pv i H → Bd x H (Pv (i + 1))) (hd : ∀ H, Pv xs.length H → Fin H) :
    ∃ W : Nat → Nat → Hp → Prop, (∃ m, W 0 m H0) ∧ ∀ i m H, W i m H → ((Itt K a).stop i H ∧ Fin H) ∨ ((Itt K a).go i H ∧ ∃ Nx : Hp → Prop, (∀ H', Nx H' → ∃ m', m' < m ∧ W (i + 1) m' H') ∧ ∀ x H', (Itt K a).yld i H x H' → Bd x H' Nx) := by
  refine ⟨fun i m H => i ≤ xs.length ∧ m + i = xs.length ∧ Pv i H, ⟨xs.length, Nat.zero_le _, rfl, h0⟩, fun i m H ⟨hi, hm, hp⟩ => ?_⟩
  have hq := hl i H hi hp
  rcases Nat.lt_or_ge i xs.length with z | z
  · refine .inr ⟨⟨xs, xs[i], hq, List.getElem?_eq_getElem z⟩, Pv (i + 1), fun H' p' => ⟨m - 1, by omega, z, by omega, p'⟩, fun x H' y => ?_⟩
    obtain ⟨rfl, y⟩ := y
    exact hs i x _ (y xs hq) hp
  · obtain rfl : i = xs.length := by omega
    exact .inl ⟨⟨xs, hq, Nat.le_refl _⟩, hd H hp⟩
/-- a set that has just these -/
def SetL (w : World) (H : Hp) (D : Addr) (ls : List Int) : Prop := ∃ S : Int → Bool, H D = some (SetO w D S ls.length) ∧ ls.Nodup ∧ ∀ k, S k = true ↔ k ∈ ls
theorem SetL.nil {w : World} {H : Hp} {D : Addr} : SetL w (upd H D (SetO w D (fun _ => false) 0)) D [] := ⟨_, upd_same, List.nodup_nil, fun k => by simp⟩
theorem SetL.add {w : World} {H : Hp} {D : Addr} {ls : List Int} (h : SetL w H D ls) (c : Int) (room : ls.length ≤ 1000) : ∃ (S : Int → Bool) (n : Nat), H D = some (SetO w D S n) ∧ n + 1 < scanBound ∧ ∃ ls', SetL w (upd H D (SetO w D (fun j => S j || decide (j = c)) (if S c = true then n else n + 1))) D ls' ∧ ∀ k, k ∈ ls' ↔ k ∈ ls ∨ k = c := by
  obtain ⟨S, h1, h2, h3⟩ := h
  refine ⟨S, ls.length, h1, by show ls.length + 1 < 4096; omega, ?_⟩
  by_cases e : S c = true
  · refine ⟨ls, ⟨_, by rw [upd_same, if_pos e], h2, fun k => ?_⟩, fun k => ⟨.inl, fun z => z.elim id fun z => by rw [z]; exact (h3 c).mp e⟩⟩
    rw [Bool.or_eq_true, h3, decide_eq_true_iff]
    exact ⟨fun z => z.elim id fun z => by rw [z]; exact (h3 c).mp e, .inl⟩
  · refine ⟨c :: ls, ⟨_, by rw [upd_same, if_neg e]; rfl, List.nodup_cons.mpr ⟨fun z => e ((h3 c).mpr z), h2⟩, fun k => ?_⟩, fun k => by rw [List.mem_cons, or_comm]⟩
    rw [Bool.or_eq_true, h3, decide_eq_true_iff, List.mem_cons, or_comm]
theorem SetL.same {w : World} {H H' : Hp} {D : Addr} {ls : List Int} (h : SetL w H D ls) (s : Same H H') : SetL w H' D ls := by
  obtain ⟨S, h1, h2⟩ := h
  exact ⟨S, s _ _ h1, h2⟩
theorem sqT_set {w : World} {K : PySem.W.Frag} {H : Hp} {D D' : Addr} {S : Int → Bool} {n : Nat} {o' : HO} (e : H D = some (SetO w D' S n)) {a : Addr} {xs : List V} (h : SqT K H a xs) : SqT K (upd H D o') a xs := by
  rcases h with (h | ⟨o, h⟩) | h
  · exact .inl (.inl (by rw [upd_ne (fun z => by rw [z, e] at h; cases h)]; exact h))
  · exact .inl (.inr ⟨o, by rw [upd_ne (fun z => by rw [z, e] at h; cases h)]; exact h⟩)
  · exact .inr h
end RV
set_option maxHeartbeats 4000000
/-! list(zip(s, t)) of two tuples -/
namespace RV
open PySem PySem.Spec PyProof.Rows L2
section
variable {prog : Program} {w : World} {A : Around} {E : Value → Shared → Prop} {s : Shared}
/-- the next pair, while the first one is still out -/
theorem zt_item {z TI TO T0 i1 i2 u1 u2 : Addr} {f : Bool} {ob : Obj} {j : Nat} {xs ys : Array Value} {x y : Value} {Q : Option Value → Shared → Prop} (D : ZipApart z TI TO i1 i2 u1 u2)
    (hz : IsZipHeld s.heap z TI TO T0 f) (h0 : s.heap.get? T0 = some ob) (hP : IsPair s.heap TI (.ref i1) (.ref i2)) (a1 : s.heap.IsTupleIter i1 u1 j) (a2 : s.heap.IsTupleIter i2 u2 j) (b1 : s.heap.IsTuple u1 xs) (b2 : s.heap.IsTuple u2 ys)
    (ex : xs[j]? = some x) (ey : ys[j]? = some y)
    (q : ∀ hh, IsZipHeld hh z TI TO T0 true → hh.IsTupleIter i1 u1 (j + 1) → hh.IsTupleIter i2 u2 (j + 1) → IsPair hh s.heap.objs.size x y → hh.objs.size = s.heap.objs.size + 1 → (∀ c o, c ≠ z → c ≠ i1 → c ≠ i2 → s.heap.get? c = some o → hh.get? c = some o) → Q (some (.ref s.heap.objs.size)) { s with heap := hh }) :
    wpAny (model prog w) A (pyNext (.ref z)) Q E s := by
  have tz : s.TypeIs (.ref z) "zip" := ⟨_, hz, rfl⟩
  unfold pyNext
  refine wpAny_bind (wpAny_attempt (wpAny_callSpecial?_slot (name := Str.ofString "__next__") tz F.slot_zip_next (wpAny_call_entry F.slot_zip_next tz F.entry_zip_next ?_ (F.args_zip_next_1 _))))
  show wpAny _ _ (field (.ref z) 2 >>= fun _ => _) _ _ s
  refine wpAny_bind (wpAny_field hz rfl (x := .bool false) rfl (wpAny_bind (wpAny_field hz rfl (x := .ref TI) rfl (wpAny_bind (wpAny_seqItems hP rfl (wpAny_bind (wpAny_tupleHeld_zip hz h0 fun g1 z1 k1 => ?_)))))))
  simp only [Bool.false_eq_true, if_false]
  refine wpAny_bind ?_
  rw [← Array.forIn_toList]; simp only [List.forIn_cons, List.forIn_nil]
  refine wpAny_bind (wpAny_bind (wpAny_holding (wpAny_bind (wpAny_nextOf_tuple_item (s := { s with heap := g1 }) (a1.extBut k1.extBut D.i1z) (b1.extBut k1.extBut D.l1z) ex fun g2 c1 k2 => wpAny_pure (wpAny_pure ?_)))))
  refine wpAny_bind (wpAny_bind (wpAny_holding (wpAny_bind (wpAny_nextOf_tuple_item (s := { s with heap := g2 }) ((a2.extBut k1.extBut D.i2z).extBut k2.extBut D.i12.symm) ((b2.extBut k1.extBut D.l2z).extBut k2.extBut D.l2i1) ey fun g3 c2 k3 => wpAny_pure (wpAny_pure (wpAny_pure ?_))))))
  show wpAny _ _ (newTuple [x, y] >>= fun _ => _) _ _ _
  refine wpAny_bind (wpAny_newTuple ?_)
  have ez : g3.objs.size = s.heap.objs.size := by rw [k3.1, k2.1, k1.1]
  have z3 : IsZipHeld g3 z TI TO T0 true := k3.extBut _ _ D.i2z.symm (k2.extBut _ _ D.i1z.symm z1)
  have c13 := c1.extBut k3.extBut D.i12
  have np : IsPair (g3.push { cls := .type "tuple", data := .seq #[x, y] }) g3.objs.size x y := Heap.get?_push_size _ rfl
  have nz : (g3.push { cls := .type "tuple", data := .seq #[x, y] }).objs.size = g3.objs.size + 1 := Heap.size_push ..
  refine wpAny_pure ⟨_, rfl, wpAny_pure ?_⟩
  show Q (some (.ref g3.objs.size)) _
  rw [ez] at np nz ⊢
  exact q _ (Heap.get?_push_of_some _ z3) (c13.at fun o e => Heap.get?_push_of_some _ e) (c2.at fun o e => Heap.get?_push_of_some _ e) np nz fun c o n1 n2 n3 e => Heap.get?_push_of_some _ (k3.extBut _ _ n3 (k2.extBut _ _ n2 (k1.extBut _ _ n1 e)))
theorem zt_end {z TI TO T0 i1 i2 u1 u2 : Addr} {f : Bool} {ob : Obj} {j : Nat} {xs ys : Array Value} {Q : Option Value → Shared → Prop} (hh : A.handled = none) (D : ZipApart z TI TO i1 i2 u1 u2)
    (hz : IsZipHeld s.heap z TI TO T0 f) (h0 : s.heap.get? T0 = some ob) (hP : IsPair s.heap TI (.ref i1) (.ref i2)) (a1 : s.heap.IsTupleIter i1 u1 j) (a2 : s.heap.IsTupleIter i2 u2 j) (b1 : s.heap.IsTuple u1 xs) (b2 : s.heap.IsTuple u2 ys)
    (no : xs[j]? = none ∨ ys[j]? = none) (q : ∀ hp, (∀ c o, c ≠ z → c ≠ i1 → c ≠ i2 → s.heap.get? c = some o → hp.get? c = some o) → Q none { s with heap := hp }) : wpAny (model prog w) A (pyNext (.ref z)) Q E s := by
  have tz : s.TypeIs (.ref z) "zip" := ⟨_, hz, rfl⟩
  unfold pyNext
  have fin : ∀ (hp : Heap) (e : Addr), (∀ c o, c ≠ z → c ≠ i1 → c ≠ i2 → s.heap.get? c = some o → hp.get? c = some o) → (∃ o, hp.get? e = some o ∧ o.cls = .type "StopIteration") →
      wpAny (model prog w) A (do if ← isInstance (.ref e) (.type "StopIteration") then pure none else throw (.ref e)) Q E { s with heap := hp } := fun hp e k ⟨o, ho, hc⟩ => by
    refine wpAny_bind (wpAny_isInstance (T := "StopIteration") (b := true) ⟨o, ho, hc⟩ isSubtype_stop ?_)
    exact wpAny_pure (q _ k)
  refine wpAny_bind (wpAny_attempt (wpAny_callSpecial?_slot (name := Str.ofString "__next__") tz F.slot_zip_next (wpAny_call_entry F.slot_zip_next tz F.entry_zip_next ?_ (F.args_zip_next_1 _))))
  show wpAny _ _ (field (.ref z) 2 >>= fun _ => _) _ _ s
  refine wpAny_bind (wpAny_field hz rfl (x := .bool false) rfl (wpAny_bind (wpAny_field hz rfl (x := .ref TI) rfl (wpAny_bind (wpAny_seqItems hP rfl (wpAny_bind (wpAny_tupleHeld_zip hz h0 fun g1 z1 k1 => ?_)))))))
  simp only [Bool.false_eq_true, if_false]
  refine wpAny_bind ?_
  rw [← Array.forIn_toList]; simp only [List.forIn_cons, List.forIn_nil]
  refine wpAny_bind (wpAny_bind (wpAny_holding ?_))
  cases ex : xs[j]? with
  | none => exact wpAny_bind (wpAny_nextOf_tuple_end (s := { s with heap := g1 }) hh (a1.extBut k1.extBut D.i1z) (b1.extBut k1.extBut D.l1z) ex fun g2 e k2 he => fin g2 e (fun c o n1 n2 _ y => k2 _ _ n2 (k1.extBut _ _ n1 y)) he)
  | some x =>
    have ey : ys[j]? = none := by
      rcases no with n | n
      · rw [ex] at n; cases n
      · exact n
    refine wpAny_bind (wpAny_nextOf_tuple_item (s := { s with heap := g1 }) (a1.extBut k1.extBut D.i1z) (b1.extBut k1.extBut D.l1z) ex fun g2 c1 k2 => wpAny_pure (wpAny_pure (wpAny_bind (wpAny_bind (wpAny_holding ?_)))))
    exact wpAny_bind (wpAny_nextOf_tuple_end (s := { s with heap := g2 }) hh ((a2.extBut k1.extBut D.i2z).extBut k2.extBut D.i12.symm) ((b2.extBut k1.extBut D.l2z).extBut k2.extBut D.l2i1) ey fun g3 e k3 he => fin g3 e (fun c o n1 n2 n3 y => k3 _ _ n3 (k2.extBut _ _ n2 (k1.extBut _ _ n1 y))) he)
/-- where the walk stands behind j pairs -/
structure ZSt (h : Heap) (z TI TO i1 i2 u1 u2 S : Addr) (j : Nat) : Prop where
  pr : IsPair h TI (.ref i1) (.ref i2)
  a1 : h.IsTupleIter i1 u1 j
  a2 : h.IsTupleIter i2 u2 j
  st : (j = 0 ∧ IsZip h z TI TO .none ∧ ∃ a b, IsPair h TO a b) ∨ ∃ T0 f ob, IsZipHeld h z TI TO T0 f ∧ h.get? T0 = some ob ∧ T0 ≠ z ∧ T0 ≠ i1 ∧ T0 ≠ i2 ∧ T0 ≠ S
theorem ZSt.keep {h h' : Heap} {z TI TO i1 i2 u1 u2 S : Addr} {j : Nat} (x : ZSt h z TI TO i1 i2 u1 u2 S j) (k : ∀ b o, b ≠ S → h.get? b = some o → h'.get? b = some o) (n1 : z ≠ S) (n2 : TI ≠ S) (n3 : TO ≠ S) (n4 : i1 ≠ S) (n5 : i2 ≠ S) : ZSt h' z TI TO i1 i2 u1 u2 S j := by
  obtain ⟨p, a1, a2, st⟩ := x
  refine ⟨k _ _ n2 p, a1.at fun o e => k _ _ n4 e, a2.at fun o e => k _ _ n5 e, ?_⟩
  rcases st with ⟨e, hz, a, b, ho⟩ | ⟨T0, f, ob, hz, h0, m1, m2, m3, m4⟩
  · exact .inl ⟨e, k _ _ n1 hz, a, b, k _ _ n3 ho⟩
  · exact .inr ⟨T0, f, ob, k _ _ n1 hz, k _ _ m4 h0, m1, m2, m3, m4⟩
theorem zs_item {z TI TO i1 i2 u1 u2 S : Addr} {j : Nat} {xs ys : Array Value} {x y : Value} {Q : Option Value → Shared → Prop} (D : ZipApart z TI TO i1 i2 u1 u2) (x0 : ZSt s.heap z TI TO i1 i2 u1 u2 S j) (hS : S < s.heap.objs.size) (b1 : s.heap.IsTuple u1 xs) (b2 : s.heap.IsTuple u2 ys) (ex : xs[j]? = some x) (ey : ys[j]? = some y)
    (q : ∀ hh, ZSt hh z TI TO i1 i2 u1 u2 S (j + 1) → IsPair hh s.heap.objs.size x y → (∀ c o, c ≠ z → c ≠ TO → c ≠ i1 → c ≠ i2 → s.heap.get? c = some o → hh.get? c = some o) → Q (some (.ref s.heap.objs.size)) { s with heap := hh }) : wpAny (model prog w) A (pyNext (.ref z)) Q E s := by
  obtain ⟨p, a1, a2, st⟩ := x0
  have lt : ∀ {c o}, s.heap.get? c = some o → s.heap.objs.size ≠ c := fun e => Nat.ne_of_gt (Heap.lt_size e)
  have l1 : s.heap.objs.size ≠ i1 := by obtain ⟨_, e, _⟩ := a1; exact lt e
  have l2 : s.heap.objs.size ≠ i2 := by obtain ⟨_, e, _⟩ := a2; exact lt e
  rcases st with ⟨e, hz, a, b, ho⟩ | ⟨T0, f, ob, hz, h0, m1, m2, m3, m4⟩
  · exact RZ.pyNext_zipT_item D hz p ho a1 a2 b1 b2 ex ey fun hh z' o' c1 c2 np nz k => q hh ⟨k _ _ D.TIz D.TITO D.TIi1 D.TIi2 p, c1, c2, .inr ⟨s.heap.objs.size, false, _, z', np, lt hz, l1, l2, Nat.ne_of_gt hS⟩⟩ np k
  · exact zt_item D hz h0 p a1 a2 b1 b2 ex ey fun hh z' c1 c2 np nz k => q hh ⟨k _ _ D.TIz D.TIi1 D.TIi2 p, c1, c2, .inr ⟨T0, true, ob, z', k _ _ m1 m2 m3 h0, m1, m2, m3, m4⟩⟩ np fun c o n1 _ n3 n4 e => k c o n1 n3 n4 e
theorem zs_end {z TI TO i1 i2 u1 u2 S : Addr} {j : Nat} {xs ys : Array Value} {Q : Option Value → Shared → Prop} (hh : A.handled = none) (D : ZipApart z TI TO i1 i2 u1 u2) (x0 : ZSt s.heap z TI TO i1 i2 u1 u2 S j) (b1 : s.heap.IsTuple u1 xs) (b2 : s.heap.IsTuple u2 ys) (no : xs[j]? = none ∨ ys[j]? = none)
    (q : ∀ hp, (∀ c o, c ≠ z → c ≠ TO → c ≠ i1 → c ≠ i2 → s.heap.get? c = some o → hp.get? c = some o) → Q none { s with heap := hp }) : wpAny (model prog w) A (pyNext (.ref z)) Q E s := by
  obtain ⟨p, a1, a2, st⟩ := x0
  rcases st with ⟨e, hz, a, b, ho⟩ | ⟨T0, f, ob, hz, h0, m1, m2, m3, m4⟩
  · exact RZ.pyNext_zipT_end hh D hz p ho a1 a2 b1 b2 no q
  · exact zt_end hh D hz h0 p a1 a2 b1 b2 no fun hp k => q hp fun c o n1 _ n3 n4 e => k c o n1 n3 n4 e
/-- the tuples told so far -/
structure ZG (xs ys : Array Value) (lo : Addr) (h : Heap) (as : List Addr) : Prop where
  up : as.Pairwise (· < ·)
  hi : ∀ a ∈ as, lo < a
  at_ : ∀ (j : Nat) (a : Addr), as[j]? = some a → ∃ x y, xs[j]? = some x ∧ ys[j]? = some y ∧ IsPair h a x y
theorem ZG.lt {xs ys : Array Value} {lo : Addr} {h : Heap} {as : List Addr} (g : ZG xs ys lo h as) {a : Addr} (ha : a ∈ as) : a < h.objs.size := by
  obtain ⟨j, hj⟩ := List.mem_iff_getElem?.mp ha
  obtain ⟨_, _, _, _, e⟩ := g.at_ j a hj
  exact Heap.lt_size e
theorem zs_loop {R : Result → Shared → Prop} {z TI TO i1 i2 u1 u2 S : Addr} {xs ys : Array Value} (hh : A.handled = none) (D : ZipApart z TI TO i1 i2 u1 u2) (n1 : z < S) (n2 : TI < S) (n3 : TO < S) (n4 : i1 < S) (n5 : i2 < S) (n6 : u1 < S) (n7 : u2 < S) (hn : min xs.size ys.size ≤ sizeLine) (res : Value) {h1 : Heap}
    (q : ∀ h' tk acc c as, (∀ b o, b ≠ S → b ≠ z → b ≠ TO → b ≠ i1 → b ≠ i2 → h1.get? b = some o → h'.get? b = some o) → h'.get? S = some { cls := .type "list", dict := none, data := .seq acc c, slots := #[] } → as.length = min xs.size ys.size → ZG xs ys S h' as → acc.toList = as.map Value.ref → R (.ok (.ret res)) { s with heap := h', toks := tk }) :
    ∀ (k j : Nat) (h : Heap) (tk c : Nat) (acc : Array Value) (as : List Addr), min xs.size ys.size - j = k → j ≤ min xs.size ys.size → ZSt h z TI TO i1 i2 u1 u2 S j → h.IsTuple u1 xs → h.IsTuple u2 ys → (∀ b o, b ≠ S → b ≠ z → b ≠ TO → b ≠ i1 → b ≠ i2 → h1.get? b = some o → h.get? b = some o) →
      h.get? S = some { cls := .type "list", dict := none, data := .seq acc c, slots := #[] } → acc.toList = as.map Value.ref → as.length = j → ZG xs ys S h as → codeAny (model prog w) A (.builtin "list.extend.loop" ⟨[.ref S, .ref z, res], []⟩) R { s with heap := h, toks := tk } := by
  intro k
  induction k with
  | zero =>
    intro j h tk c acc as hk hj x0 b1 b2 kp hS ea la g
    refine codeAny_builtin PySem.F.entry_extend_loop ?_
    rw [Around.under_plainId PySem.F.plain_extend_loop _]
    show wpAny _ A.in1 (pyNext (.ref z) >>= fun _ => _) _ _ _
    have no : xs[j]? = none ∨ ys[j]? = none := by
      by_cases e : xs.size ≤ j
      · exact .inl (by simp; omega)
      · exact .inr (by simp; omega)
    refine wpAny_bind (zs_end (s := { s with heap := h, toks := tk }) (A := A.in1) hh D x0 b1 b2 no fun hp k2 => ?_)
    have up : ∀ b o, S ≤ b → h.get? b = some o → hp.get? b = some o := fun b o lb e => k2 b o (Nat.ne_of_gt (Nat.lt_of_lt_of_le n1 lb)) (Nat.ne_of_gt (Nat.lt_of_lt_of_le n3 lb)) (Nat.ne_of_gt (Nat.lt_of_lt_of_le n4 lb)) (Nat.ne_of_gt (Nat.lt_of_lt_of_le n5 lb)) e
    refine wpAny_pure (q hp tk acc c as (fun b o m0 m1 m2 m3 m4 e => k2 b o m1 m2 m3 m4 (kp b o m0 m1 m2 m3 m4 e)) (up S _ (Nat.le_refl _) hS) (by omega) ⟨g.up, g.hi, fun i a hi => ?_⟩ ea)
    obtain ⟨x, y, e1, e2, e3⟩ := g.at_ i a hi
    exact ⟨x, y, e1, e2, up a _ (Nat.le_of_lt (g.hi a (List.mem_of_getElem? hi))) e3⟩
  | succ k ih =>
    intro j h tk c acc as hk hj x0 b1 b2 kp hS ea la g
    have hlt : j < min xs.size ys.size := by omega
    have ex : xs[j]? = some (xs[j]'(by omega)) := Array.getElem?_eq_getElem _
    have ey : ys[j]? = some (ys[j]'(by omega)) := Array.getElem?_eq_getElem _
    have sz : acc.size = j := by rw [← Array.length_toList, ea, List.length_map, la]
    refine codeAny_builtin PySem.F.entry_extend_loop ?_
    rw [Around.under_plainId PySem.F.plain_extend_loop _]
    show wpAny _ A.in1 (pyNext (.ref z) >>= fun _ => _) _ _ _
    refine wpAny_bind (zs_item (s := { s with heap := h, toks := tk }) D x0 (Heap.lt_size hS) b1 b2 ex ey fun hp x1 np k2 => ?_)
    have hSl : S < h.objs.size := Heap.lt_size hS
    have ge : ∀ b o, S ≤ b → h.get? b = some o → hp.get? b = some o := fun b o lb e => k2 b o (Nat.ne_of_gt (Nat.lt_of_lt_of_le n1 lb)) (Nat.ne_of_gt (Nat.lt_of_lt_of_le n3 lb)) (Nat.ne_of_gt (Nat.lt_of_lt_of_le n4 lb)) (Nat.ne_of_gt (Nat.lt_of_lt_of_le n5 lb)) e
    have hS' := ge S _ (Nat.le_refl _) hS
    replace np : IsPair hp h.objs.size _ _ := np
    have up : ∀ b o, b ≠ S → hp.get? b = some o → (hp.update S (Obj.mapSeq (·.push (Value.ref h.objs.size)))).get? b = some o := fun b o hb e => (Heap.get?_update_other _ _ (Ne.symm hb)).trans e
    have ut : ∀ {u : Addr} {vs : Array Value}, u < S → u ≠ z → u ≠ TO → u ≠ i1 → u ≠ i2 → h.IsTuple u vs → (hp.update S (Obj.mapSeq (·.push (Value.ref h.objs.size)))).IsTuple u vs := fun {u vs} lu m1 m2 m3 m4 ⟨o, e, r⟩ => ⟨o, up u o (Nat.ne_of_lt lu) (k2 u o m1 m2 m3 m4 e), r⟩
    show wpAny _ A.in1 (updateSeq S (·.push (Value.ref h.objs.size)) >>= fun _ => _) _ _ _
    refine wpAny_bind ?_
    refine wpAny_updateSeq hS' rfl (wpAny_pure ⟨plainId_quiet PySem.F.plain_extend_loop _, ih (j + 1) _ tk _ (acc.push (Value.ref h.objs.size)) (as ++ [h.objs.size]) (by omega) hlt (x1.keep up (Nat.ne_of_lt n1) (Nat.ne_of_lt n2) (Nat.ne_of_lt n3) (Nat.ne_of_lt n4) (Nat.ne_of_lt n5)) (ut n6 D.l1z D.l1TO D.l1i1 D.l1i2 b1) (ut n7 D.l2z D.l2TO D.l2i1 D.l2i2 b2)
      (fun b o m0 m1 m2 m3 m4 e => up b o m0 (k2 b o m1 m2 m3 m4 (kp b o m0 m1 m2 m3 m4 e))) (Heap.get?_update_self _ hS' rfl) (by rw [Array.toList_push, ea, List.map_append]; rfl) (by rw [List.length_append, la]; rfl) ⟨?_, ?_, ?_⟩⟩) (by rw [sz]; omega) (by show (acc.push (Value.ref h.objs.size)).size ≤ sizeLine + 1; rw [Array.size_push, sz]; omega)
    · refine List.pairwise_append.mpr ⟨g.up, List.pairwise_singleton _ _, fun a ha b hb => ?_⟩
      rw [List.mem_singleton.mp hb]; exact g.lt ha
    · intro a ha
      rcases List.mem_append.mp ha with y | y
      · exact g.hi a y
      · rw [List.mem_singleton.mp y]; exact hSl
    · intro i b hi
      by_cases e : i < as.length
      · rw [List.getElem?_append_left e] at hi
        obtain ⟨x, y, e1, e2, e3⟩ := g.at_ i b hi
        have lb := g.hi b (List.mem_of_getElem? hi)
        exact ⟨x, y, e1, e2, up b _ (Nat.ne_of_gt lb) (ge b _ (Nat.le_of_lt lb) e3)⟩
      · have hl := (List.getElem?_eq_some_iff.mp hi).1
        rw [List.length_append] at hl
        have ei : i = as.length := by
          have : [h.objs.size].length = 1 := rfl
          omega
        subst ei
        rw [List.getElem?_append_right (Nat.le_refl _), Nat.sub_self] at hi
        have eb : h.objs.size = b := Option.some.inj hi
        subst eb
        exact ⟨_, _, by rw [la]; exact ex, by rw [la]; exact ey, up _ _ (Nat.ne_of_gt hSl) np⟩
theorem zip_nolen : typeLookup (.type "zip") "__len__" = pure none := am_miss_of_fast (by decide +kernel)
theorem zip_nohint : typeLookup (.type "zip") "__length_hint__" = pure none := am_miss_of_fast (by decide +kernel)
theorem zs_extend {R : Result → Shared → Prop} {z TI TO i1 i2 u1 u2 S : Addr} {xs ys : Array Value} (hh : A.handled = none) (D : ZipApart z TI TO i1 i2 u1 u2) (x0 : ZSt s.heap z TI TO i1 i2 u1 u2 S 0) (hz : IsZip s.heap z TI TO .none) (b1 : s.heap.IsTuple u1 xs) (b2 : s.heap.IsTuple u2 ys) (n1 : z < S) (n2 : TI < S) (n3 : TO < S) (n4 : i1 < S) (n5 : i2 < S) (n6 : u1 < S) (n7 : u2 < S) (hn : min xs.size ys.size ≤ sizeLine) (res : Value) (c0 : Nat) (hS : s.heap.get? S = some { cls := .type "list", data := .seq #[] c0 })
    (q : ∀ h' tk acc c as, (∀ b o, b ≠ S → b ≠ z → b ≠ TO → b ≠ i1 → b ≠ i2 → s.heap.get? b = some o → h'.get? b = some o) → h'.get? S = some { cls := .type "list", dict := none, data := .seq acc c, slots := #[] } → as.length = min xs.size ys.size → ZG xs ys S h' as → acc.toList = as.map Value.ref → R (.ok (.ret res)) { s with heap := h', toks := tk }) :
    wpAny (model prog w) A.in1 (Builtin.List.listExtendWith (.ref S) (.ref z) res)
      (fun fin s' => match fin with | .done f => R (.ok f) s' | .again c' => c'.quiet = true ∧ codeAny (model prog w) A c' R s') (fun e s' => R (.error e) s') s := by
  have tz : s.TypeIs (.ref z) "zip" := ⟨_, hz, rfl⟩
  have key : ∀ (h : Heap) (c1 : Nat), (∀ b o, b ≠ S → s.heap.get? b = some o → h.get? b = some o) → h.get? S = some { cls := .type "list", data := .seq #[] c1 } → codeAny (model prog w) A (.builtin "list.extend.loop" ⟨[.ref S, .ref z, res], []⟩) R { s with heap := h, toks := s.toks } := fun h c1 k hS1 =>
    zs_loop (s := s) (h1 := s.heap) hh D n1 n2 n3 n4 n5 n6 n7 hn res q (min xs.size ys.size) 0 h s.toks c1 #[] [] (Nat.sub_zero _) (Nat.zero_le _) (x0.keep k (Nat.ne_of_lt n1) (Nat.ne_of_lt n2) (Nat.ne_of_lt n3) (Nat.ne_of_lt n4) (Nat.ne_of_lt n5))
      (let ⟨o, e, r⟩ := b1; ⟨o, k _ _ (Nat.ne_of_lt n6) e, r⟩) (let ⟨o, e, r⟩ := b2; ⟨o, k _ _ (Nat.ne_of_lt n7) e, r⟩) (fun b o m0 _ _ _ _ e => k b o m0 e) hS1 rfl rfl ⟨List.Pairwise.nil, (fun _ ha => nomatch ha), (fun j a hj => by simp at hj)⟩
  unfold Builtin.List.listExtendWith
  refine wpAny_bind (wpAny_typeOf (T := "zip") tz ?_)
  have e1 : Builtin.List.listSameRef (.ref S) (.ref z) = false := by simp [Builtin.List.listSameRef, Nat.ne_of_gt n1]
  have e2 : (Value.type "zip" == Value.type "list") = false := by decide
  have e3 : (Value.type "zip" == Value.type "tuple") = false := by decide
  simp only [e1, e2, e3, Bool.or_false, Bool.false_eq_true, if_false]
  refine wpAny_bind (wpAny_pyIter_zip hz (wpAny_bind (wpAny_holding ?_)))
  unfold Builtin.List.listLengthHint
  refine wpAny_bind (wpAny_specialOf tz zip_nolen ?_)
  show wpAny _ A.in1 (specialOf (Value.ref z) (Str.ofString "__length_hint__") >>= fun _ => _) _ _ _
  refine wpAny_bind (wpAny_specialOf tz zip_nohint (wpAny_pure ?_))
  show wpAny _ A.in1 (rule "list.extend.makes-room" >>= fun _ => Builtin.List.listTouch (.ref S) >>= fun _ => again (.builtin "list.extend.loop" ⟨[.ref S, .ref z, res], []⟩)) _ _ _
  refine wpAny_bind (wpAny_rule (wpAny_bind ?_))
  show wpAny _ _ (updateSeq S (·.push .none) >>= fun _ => updateSeq S (·.pop)) _ _ _
  refine wpAny_bind (wpAny_updateSeq hS rfl ?_)
  have g2 := Heap.get?_update_self (Obj.mapSeq (·.push Value.none)) hS rfl
  refine wpAny_updateSeq (hz := by seq_fits) g2 rfl ?_
  have g3 := Heap.get?_update_self (Obj.mapSeq (·.pop)) g2 rfl
  refine wpAny_pure ⟨plainId_quiet PySem.F.plain_extend_loop _, key _ _ (fun b o hb e => ?_) g3⟩
  exact (Heap.get?_update_other _ _ (Ne.symm hb)).trans ((Heap.get?_update_other _ _ (Ne.symm hb)).trans e)
theorem ZG.low {xs ys : Array Value} {lo lo' : Addr} {h : Heap} {as : List Addr} (g : ZG xs ys lo h as) (l : lo' ≤ lo) : ZG xs ys lo' h as := ⟨g.up, fun a ha => Nat.lt_of_le_of_lt l (g.hi a ha), g.at_⟩
theorem zs_call {z TI TO i1 i2 u1 u2 : Addr} {xs ys : Array Value} {Q : Value → Shared → Prop} (hh : A.handled = none) (D : ZipApart z TI TO i1 i2 u1 u2) (hz : IsZip s.heap z TI TO .none) (hP : IsPair s.heap TI (.ref i1) (.ref i2)) (hO : ∃ a b, IsPair s.heap TO a b) (a1 : s.heap.IsTupleIter i1 u1 0) (a2 : s.heap.IsTupleIter i2 u2 0) (b1 : s.heap.IsTuple u1 xs) (b2 : s.heap.IsTuple u2 ys) (hn : min xs.size ys.size ≤ sizeLine)
    (q : ∀ h' tk acc c as, (∀ b o, b ≠ z → b ≠ TO → b ≠ i1 → b ≠ i2 → s.heap.get? b = some o → h'.get? b = some o) → h'.get? s.heap.objs.size = some { cls := .type "list", dict := none, data := .seq acc c, slots := #[] } → as.length = min xs.size ys.size → ZG xs ys s.heap.objs.size h' as → acc.toList = as.map Value.ref → Q (.ref s.heap.objs.size) { s with heap := h', toks := tk }) :
    wpAny (model prog w) A (call (.type "list") [.ref z]) Q E s := by
  refine callType_codes (Q₁ := fun obj s₁ => obj = .ref s.heap.objs.size ∧ s₁ = { s with heap := s.heap.push { cls := .type "list", data := .seq #[] } }) PySem.F.called_list (PySem.F.typeCall_list_1 _) PySem.F.entry_list_init (code_list_new _ ⟨rfl, rfl⟩) fun obj s₁ h₁ => ?_
  obtain ⟨rfl, rfl⟩ := h₁
  have hS : (s.heap.push { cls := .type "list", data := .seq #[] }).get? s.heap.objs.size = some { cls := .type "list", data := .seq #[] } := Heap.get?_push_size _ rfl
  refine ⟨⟨_, hS, rfl⟩, PySem.F.args_list_init_2 _ _, ?_⟩
  show wpAny _ A.in1.in1 (do let old ← Builtin.List.listItems (.ref s.heap.objs.size); Builtin.List.listUpdate (.ref s.heap.objs.size) (fun _ => #[]); letGo old.toList.reverse; Builtin.List.listExtendWith (.ref s.heap.objs.size) (.ref z) .none) _ _ _
  refine wpAny_bind ?_
  unfold Builtin.List.listItems
  refine wpAny_bind (wpAny_seqItems hS rfl (wpAny_pure ?_))
  show wpAny _ _ (updateSeq s.heap.objs.size (fun _ => #[]) >>= fun _ => letGo (#[] : Array Value).toList.reverse >>= fun _ => Builtin.List.listExtendWith (.ref s.heap.objs.size) (.ref z) .none) _ _ _
  refine wpAny_bind (wpAny_updateSeq hS rfl ?_)
  have g2 := Heap.get?_update_self (Obj.mapSeq (fun _ => (#[] : Array Value))) hS rfl
  have oth : ∀ b o, s.heap.get? b = some o → ((s.heap.push { cls := .type "list", data := .seq #[] }).update s.heap.objs.size (Obj.mapSeq (fun _ => (#[] : Array Value)))).get? b = some o :=
    fun b o e => (Heap.get?_update_other _ _ (Nat.ne_of_gt (Heap.lt_size e))).trans (Heap.get?_push_of_some _ e)
  refine wpAny_bind (wpAny_letGo ?_)
  obtain ⟨oa, ob, hO⟩ := hO
  have l1 : i1 < s.heap.objs.size := by obtain ⟨_, e, _⟩ := a1; exact Heap.lt_size e
  have l2 : i2 < s.heap.objs.size := by obtain ⟨_, e, _⟩ := a2; exact Heap.lt_size e
  have l3 : u1 < s.heap.objs.size := by obtain ⟨_, e, _⟩ := b1; exact Heap.lt_size e
  have l4 : u2 < s.heap.objs.size := by obtain ⟨_, e, _⟩ := b2; exact Heap.lt_size e
  have key := zs_extend (prog := prog) (w := w) (A := A.in1) (s := { s with heap := (s.heap.push { cls := .type "list", data := .seq #[] }).update s.heap.objs.size (Obj.mapSeq (fun _ => (#[] : Array Value))) }) (R := wants (fun v s' => v = .none ∧ Q (.ref s.heap.objs.size) s') E) hh D
    ⟨oth _ _ hP, a1.at fun o e => oth _ _ e, a2.at fun o e => oth _ _ e, .inl ⟨rfl, oth _ _ hz, oa, ob, oth _ _ hO⟩⟩ (oth _ _ hz) (let ⟨o, e, r⟩ := b1; ⟨o, oth _ _ e, r⟩) (let ⟨o, e, r⟩ := b2; ⟨o, oth _ _ e, r⟩) (Heap.lt_size hz) (Heap.lt_size hP) (Heap.lt_size hO) l1 l2 l3 l4 hn .none _ g2
    (fun h' tk acc c as k hS' la g ea => ⟨rfl, q h' tk acc c as (fun b o m1 m2 m3 m4 e => k b o (Nat.ne_of_lt (Heap.lt_size e)) m1 m2 m3 m4 (oth b o e)) hS' la g ea⟩)
  exact key
end
theorem lookup_zip {β : Type} : ∀ {as : List Addr} {ps : List β}, as.Nodup → ∀ {j : Nat} {a : Addr} {p : β}, as[j]? = some a → ps[j]? = some p → (as.zip ps).lookup a = some p
  | [], _, _, j, a, p, h, _ => by simp at h
  | _ :: _, [], _, j, a, p, _, h => by simp at h
  | b :: as, r :: ps, nd, 0, a, p, h1, h2 => by
    have e1 : b = a := Option.some.inj h1
    have e2 : r = p := Option.some.inj h2
    subst e1 e2
    simp [List.lookup]
  | b :: as, r :: ps, nd, j + 1, a, p, h1, h2 => by
    have h1' : as[j]? = some a := h1
    have hn := List.nodup_cons.mp nd
    have ne : (a == b) = false := by
      rw [beq_eq_false_iff_ne]
      intro e
      exact hn.1 (e ▸ List.mem_of_getElem? h1')
    show ((b, r) :: as.zip ps).lookup a = some p
    rw [List.lookup_cons, ne]
    exact lookup_zip hn.2 h1' h2
theorem lookup_not {β : Type} : ∀ {as : List Addr} {ps : List β} {a : Addr}, a ∉ as → (as.zip ps).lookup a = none
  | [], _, _, _ => by simp
  | _ :: _, [], _, _ => by simp
  | b :: as, r :: ps, a, h => by
    have ne : (a == b) = false := by
      rw [beq_eq_false_iff_ne]
      intro e
      exact h (by rw [e]; exact List.mem_cons_self ..)
    show ((b, r) :: as.zip ps).lookup a = none
    rw [List.lookup_cons, ne]
    exact lookup_not fun z => h (List.mem_cons_of_mem _ z)
def putZ (H : Hp) (S : Addr) (as : List Addr) (ps : List (V × V)) : Hp := fun b => if b = S then some (.lst (as.map V.ref)) else match (as.zip ps).lookup b with
  | some p => some (.tup [p.1, p.2])
  | none => H b
def tListZip (K : PySem.W.Frag) (ta : TA) : TE := fun σ H Q => ta σ H fun vs H1 => ∃ a b xs ys, vs = [.ref a, .ref b] ∧ SqT K H1 a xs ∧ SqT K H1 b ys ∧
  ∀ (H' : Hp) (p : Addr) (ts : List Addr), Same H1 H' → H1 p = none → H' p = some (.lst (ts.map V.ref)) → ts.length = min xs.length ys.length → (∀ (j : Nat) (t : Addr), ts[j]? = some t → ∃ x y, xs[j]? = some x ∧ ys[j]? = some y ∧ H' t = some (.tup [x, y])) → Q (.ref p) H'
section
variable {X : Cx} {e e2 : Expr} {ta : TA} {p p2 pos pos2 : Pos}
/-- list(zip(s, t)) -/
theorem pe_listZip (hc : X.calm = true) (hg : Gl X "list") (hm : X.mg "list" = none) (hg2 : Gl X "zip") (hm2 : X.mg "zip" = none) (ha : PA X [e, e2] ta)
    (hs : starEach [.Call (.Name "zip" p2) [e, e2] [] pos2] X.env = (false, eval (.Call (.Name "zip" p2) [e, e2] [] pos2) X.env) :: starEach [] X.env := by rfl)
    (hs2 : starEach [e, e2] X.env = (false, eval e X.env) :: starEach [e2] X.env := by rfl) (hpl : (backTo pos2 (starEach [e2] X.env)).any (·.1) = false := by rfl) :
    PE X (.Call (.Name "list" p) [.Call (.Name "zip" p2) [e, e2] [] pos2] [] pos) (tListZip X.K ta) := by
  refine ⟨fun pins s σ H Q I hq => ?_⟩
  refine wpAny_Call_Name_kw (ld_blt I hg hm boot_list (PyProof.Rows.callWith_type1 ?_ hs rfl))
  rw [hs]
  refine Calls.spliced_cons (Call_ (ld_blt I hg2 hm2 PyProof.Rows.boot_zip (PyProof.Rows.callWith_type1 (thn (ha.run pos2 pins s σ H _ I hq) fun us s1 ⟨vs, H1, I1, r1, q1⟩ => ?_) hs2 hpl)))
  obtain ⟨a, b, xs, ys, ex, hx, hy, q⟩ := q1
  subst ex
  obtain ⟨v1, v2, rfl, r2, r3⟩ := vals2 r1
  cases r2
  cases r3
  obtain ⟨its, rv, t1, z1⟩ := I1.tuple hx
  obtain ⟨its2, rv2, t2, z2⟩ := I1.tuple hy
  obtain ⟨o1, ho1, _⟩ := id t1
  obtain ⟨o2, ho2, _⟩ := id t2
  have l1 := rv.length
  have l2 := rv2.length
  refine RZ.call_zipT (show s1.heap.IsTuple a its.toArray from t1) (show s1.heap.IsTuple b its2.toArray from t2) fun h1 hz hP hO i1 i2 hsz hk => Calls.spliced_nil ?_
  have D := PySem.W.ktu_apart s1.heap.objs.size a b (Heap.lt_size ho1) (Heap.lt_size ho2)
  refine zs_call (s := { s1 with heap := h1 }) (I1.ok.hd hc) D hz hP ⟨_, _, hO⟩ i1 i2 (let ⟨o, e, r⟩ := t1; ⟨o, hk _ _ e, r⟩) (let ⟨o, e, r⟩ := t2; ⟨o, hk _ _ e, r⟩) (by rw [List.size_toArray, List.size_toArray]; omega) fun h' tk acc c as k hS la g ea => ?_
  dsimp only at k hS g ⊢
  rw [List.size_toArray, List.size_toArray, ← l1, ← l2] at la
  have kp : ∀ b o, s1.heap.get? b = some o → h'.get? b = some o := fun b o e => by
    have lb := Heap.lt_size e
    exact k b o (Nat.ne_of_lt (Nat.lt_of_lt_of_le lb (Nat.le_add_right _ _))) (Nat.ne_of_lt (Nat.lt_of_lt_of_le lb (Nat.le_add_right _ _))) (Nat.ne_of_lt lb) (Nat.ne_of_lt (Nat.lt_succ_of_lt lb)) (hk b o e)
  have sz5 : s1.heap.objs.size ≤ h1.objs.size := by rw [hsz]; exact Nat.le_add_right _ _
  have ab : ∀ t ∈ as, s1.heap.objs.size ≤ t := fun t ht => Nat.le_of_lt (Nat.lt_of_le_of_lt sz5 (g.hi t ht))
  have nd : as.Nodup := List.Pairwise.imp (fun {a b} (h : a < b) => Nat.ne_of_lt h) g.up
  have new : ∀ t, s1.heap.objs.size ≤ t → H1 t = none := fun t ht => I1.hok.fresh ht
  have hSn : h1.objs.size ∉ as := fun z => Nat.lt_irrefl _ (g.hi _ z)
  have atH : ∀ (j : Nat) (t : Addr), as[j]? = some t → ∃ x y, xs[j]? = some x ∧ ys[j]? = some y ∧ putZ H1 h1.objs.size as (xs.zip ys) t = some (.tup [x, y]) ∧ ∃ u v, RelV x u ∧ RelV y v ∧ IsPair h' t u v := fun j t hj => by
    have hjl := (List.getElem?_eq_some_iff.mp hj).1
    obtain ⟨u, v, e1, e2, e3⟩ := g.at_ j t hj
    have ex : xs[j]? = some (xs[j]'(by omega)) := List.getElem?_eq_getElem _
    have ey : ys[j]? = some (ys[j]'(by omega)) := List.getElem?_eq_getElem _
    obtain ⟨u', hu', ru⟩ := rv.get ex
    obtain ⟨v', hv', rv'⟩ := rv2.get ey
    have eu : u' = u := by
      have z : its[j]? = some u := by simpa using e1
      rw [hu'] at z; exact Option.some.inj z
    have ev : v' = v := by
      have z : its2[j]? = some v := by simpa using e2
      rw [hv'] at z; exact Option.some.inj z
    subst eu ev
    refine ⟨_, _, ex, ey, ?_, u', v', ru, rv', e3⟩
    have ez : (xs.zip ys)[j]? = some (xs[j]'(by omega), ys[j]'(by omega)) := by
      rw [List.getElem?_zip_eq_some]; exact ⟨ex, ey⟩
    unfold putZ
    rw [if_neg (show ¬ t = h1.objs.size from fun z => hSn (by rw [← z]; exact List.mem_of_getElem? hj)), lookup_zip nd hj ez]
  have eS : putZ H1 h1.objs.size as (xs.zip ys) h1.objs.size = some (.lst (as.map V.ref)) := by unfold putZ; rw [if_pos rfl]
  have off : ∀ t, t ∉ as → t ≠ h1.objs.size → putZ H1 h1.objs.size as (xs.zip ys) t = H1 t := fun t n1 n2 => by
    unfold putZ
    rw [if_neg n2, lookup_not n1]
  have kpH : ∀ t o, H1 t = some o → putZ H1 h1.objs.size as (xs.zip ys) t = some o := fun t o e => by
    rw [off t (fun z => by rw [new t (ab t z)] at e; cases e) (fun z => by rw [z, new _ sz5] at e; cases e)]
    exact e
  refine ⟨.ref h1.objs.size, putZ H1 h1.objs.size as (xs.zip ys), ?_, rfl, q _ _ as kpH (new _ sz5) eS la fun j t hj => ?_⟩
  · have J := I1.call' (ch := []) (H' := putZ H1 h1.objs.size as (xs.zip ys)) (s' := { s1 with heap := h', toks := tk }) rfl ⟨fun b o q _ _ _ => kp b o q, fun b o q _ _ _ => ⟨o.slots, kp b o q⟩, fun b o q n _ => ?_, fun b o q _ => ⟨o, kp b o q⟩, fun b xs q => kpH b _ q, fun b o u q => kpH b _ q, fun b ps q => ⟨#[], by rw [kpH b _ q]; simp⟩⟩ (fun b u q => ?_) I1.bare fun b z => by simp at z
    · exact J
    · have lb := Heap.lt_size q
      rw [off b (fun z => absurd lb (Nat.not_lt.mpr (ab b z))) (fun z => absurd lb (Nat.not_lt.mpr (by rw [z]; exact sz5)))]
      exact n
    · by_cases hb : b ∈ as
      · obtain ⟨j, hj⟩ := List.mem_iff_getElem?.mp hb
        obtain ⟨x, y, _, _, e3, u1, v1, ru, rv', pr⟩ := atH j b hj
        rw [e3] at q
        cases q
        exact ⟨by show 2 ≤ sizeLine; decide, [u1, v1], .cons ru (.cons rv' .nil), ⟨_, pr, rfl, _, rfl⟩⟩
      · by_cases hb2 : b = h1.objs.size
        · subst hb2
          rw [eS] at q
          cases q
          refine ⟨by rw [List.length_map]; omega, acc.toList, c, by rw [ea]; exact LiI.vals_refs as, ?_⟩
          rw [Array.toArray_toList]
          exact hS
        · rw [off b hb hb2] at q
          exact (I1.hok b u q).stay (fun d v _ y => kp d v y) (fun d y => kpH d _ y) fun d xs y => kpH d _ y
  · obtain ⟨x, y, e1, e2, e3, _⟩ := atH j t hj
    exact ⟨x, y, e1, e2, e3⟩
end
end RV
set_option maxHeartbeats 4000000
namespace RV
open PySem PySem.Spec PyProof.Rows L2
theorem walk_revT {K : PySem.W.Frag} {a : Addr} {xs : List V} : Walk (RT.ItvT K a xs.length) xs.length (fun H => SqT K H a xs) (YAt xs.reverse) := by
  refine ⟨fun i H hi g => ⟨hi, xs, xs[xs.length - 1 - i], g, List.getElem?_eq_getElem (by omega)⟩, fun H _ => Nat.le_refl _, fun i H x H' hi g y => ⟨y.1, ?_⟩⟩
  rw [List.getElem?_reverse hi]
  exact y.2 xs g
/-- [h(x) for x in reversed(t)], t a tuple of ints -/
theorem lc_mapRev {K : PySem.W.Frag} {te : TE} {h : Int → Int} {σ : L2.St} {H1 : Hp} {a D : Addr} {v : Nat} {ns : List Int} {Qd : Hp → Prop} (hT : SqT K H1 a (ns.map V.int)) (hl : ns.length ≤ 1000) (nD : H1 D = none)
    (hte : ∀ x ∈ ns, ∀ (H' : Hp) (Q : VK), Same H1 H' → (∀ H2, Same H' H2 → Q (.int (h x)) H2) → te ((wipe σ [v]).set v (some (.int x))) H' Q)
    (hd : ∀ H', Same H1 H' → H' D = some (.lst ((ns.reverse.map h).map V.int)) → Qd H') :
    ∃ W : Nat → Nat → Hp → Prop, (∃ m, W 0 m (upd H1 D (.lst []))) ∧ ∀ i m H, W i m H →
      ((RT.ItvT K a (ns.map V.int).length).stop i H ∧ Qd H) ∨ ((RT.ItvT K a (ns.map V.int).length).go i H ∧ ∃ Nx : Hp → Prop, (∀ H', Nx H' → ∃ m', m' < m ∧ W (i + 1) m' H') ∧ ∀ x H', (RT.ItvT K a (ns.map V.int).length).yld i H x H' → gName v x (wipe σ [v]) H' fun σ2 H2 => wipe σ2 [v] = wipe σ [v] ∧ tYes σ2 H2 fun b H3 =>
        if b = true then te σ2 H3 fun y H4 => ∃ acc, H4 D = some (.lst acc) ∧ acc.length < sizeLine ∧ Nx (upd H4 D (.lst (acc ++ [y]))) else Nx H3) := by
  refine lc_it walk_revT (fun i H' => Same H1 H' ∧ H' D = some (.lst (((ns.reverse.take i).map h).map V.int))) ⟨same_upd nD, upd_same⟩ (fun i H' _ p => sqT_same p.1 hT) (fun i x Hx H' hx p y => ?_) fun H' p => ?_
  · obtain ⟨rfl, hx⟩ := y
    rw [← List.map_reverse] at hx
    obtain ⟨k, g, rfl⟩ := map_at hx
    refine ⟨by simp [wipe, List.set_set], tt_yes (hte k (List.mem_reverse.mp (List.mem_of_getElem? g)) H' _ p.1 fun H2 s2 => ⟨_, s2 _ _ p.2, ?_, fun b o z => ?_, ?_⟩)⟩
    · rw [List.length_map, List.length_map, List.length_take, List.length_reverse]; exact few1 (by omega)
    · rw [upd_ne (ne_of_none z nD)]; exact s2 _ _ (p.1 b o z)
    · rw [upd_same, List.take_add_one, g, List.map_append, List.map_append]; rfl
  · rw [List.length_map, List.take_of_length_le (by rw [List.length_reverse]; exact Nat.le_refl _)] at p
    exact hd H' p.1 p.2
/-- [c(x) for x in range(n)] of truths -/
theorem lc_blR {te : TE} {c : Int → Bool} {σ : L2.St} {H1 : Hp} {D : Addr} {v n : Nat} {Qd : Hp → Prop} (hl : n ≤ 1000) (nD : H1 D = none)
    (hte : ∀ x : Int, 0 ≤ x → x < (n : Int) → ∀ (H' : Hp) (Q : VK), Same H1 H' → (∀ H2, Same H' H2 → Q (.bl (c x)) H2) → te ((wipe σ [v]).set v (some (.int x))) H' Q)
    (hd : ∀ H', Same H1 H' → H' D = some (.lst (((upN n).map c).map V.bl)) → Qd H') :
    ∃ W : Nat → Nat → Hp → Prop, (∃ m, W 0 m (upd H1 D (.lst []))) ∧ ∀ i m H, W i m H →
      ((Itr 0 n).stop i H ∧ Qd H) ∨ ((Itr 0 n).go i H ∧ ∃ Nx : Hp → Prop, (∀ H', Nx H' → ∃ m', m' < m ∧ W (i + 1) m' H') ∧ ∀ x H', (Itr 0 n).yld i H x H' → gName v x (wipe σ [v]) H' fun σ2 H2 => wipe σ2 [v] = wipe σ [v] ∧ tYes σ2 H2 fun b H3 =>
        if b = true then te σ2 H3 fun y H4 => ∃ acc, H4 D = some (.lst acc) ∧ acc.length < sizeLine ∧ Nx (upd H4 D (.lst (acc ++ [y]))) else Nx H3) := by
  refine lc_range (lo := 0) (n := n) (fun i H' => Same H1 H' ∧ H' D = some (.lst ((((upN n).take i).map c).map V.bl))) ⟨same_upd nD, upd_same⟩ (fun i H' hi p => ?_) fun H' p => ?_
  · have g : (upN n)[i]? = some (i : Int) := upN_get hi
    rw [Int.zero_add]
    refine ⟨by simp [wipe, List.set_set], tt_yes (hte (i : Int) (by omega) (by omega) H' _ p.1 fun H2 s2 => ⟨_, s2 _ _ p.2, ?_, fun b o z => ?_, ?_⟩)⟩
    · rw [List.length_map, List.length_map, List.length_take, upN_len]; exact few1 (by omega)
    · rw [upd_ne (ne_of_none z nD)]; exact s2 _ _ (p.1 b o z)
    · rw [upd_same, List.take_add_one, g, List.map_append, List.map_append]; rfl
  · rw [List.take_of_length_le (by rw [upN_len]; exact Nat.le_refl _)] at p
    exact hd H' p.1 p.2
theorem decV (a b : Int) : decide (V.int a = V.int b) = decide (a = b) := by
  by_cases h : a = b
  · rw [h, decide_eq_true rfl, decide_eq_true rfl]
  · rw [decide_eq_false h, decide_eq_false fun z => h (V.int.inj z)]
end RV
set_option maxHeartbeats 4000000
namespace K44
open PySem PySem.Spec PyProof.Rows L2 RV
/-- the mirror -/
def mirI (ns : List Int) (x : Int) : Int := ns.getD x.toNat 0
theorem mirI_at {ns : List Int} {x mx : Int} (h : ns[x.toNat]? = some mx) : mirI ns x = mx := by unfold mirI; rw [List.getD_eq_getElem?_getD, h]; rfl
theorem mirI_get {ns : List Int} {x : Int} (h0 : 0 ≤ x) (h1 : x < (ns.length : Int)) : ns[x.toNat]? = some (mirI ns x) := by
  have h : x.toNat < ns.length := by omega
  unfold mirI
  rw [List.getD_eq_getElem?_getD, List.getElem?_eq_getElem h]; rfl
/-- the part is its own mirror -/
def Own (ns p : List Int) : Prop := ∀ x ∈ p, mirI ns x ∈ p
noncomputable def ownB (ns p : List Int) : Bool := @decide (Own ns p) (Classical.propDecidable _)
theorem ownB_iff {ns p : List Int} : ownB ns p = true ↔ Own ns p := @decide_eq_true_iff _ (Classical.propDecidable _)
def atAx (ns : List Int) (ps : List (List Int)) (m g : Int) : Bool := if g = 0 then decide (mirI ns m = m) else decide (mirI ns m ∈ behindOf ps m)
section
variable {P : Program} {w : World} {K : PySem.W.Frag} {mg : Str → Option Value} {base : Heap}
/-! ### is_own_mirror -/
theorem scIsOwn : FnScope ["rule", "part"] ["rule", "part"] (defScope sIsOwn) := ⟨rfl, rfl, rfl, by decide +kernel, rfl, by decide +kernel, by decide +kernel⟩
def spIsOwn (K : PySem.W.Frag) (C : Addr) : Sp := fun vs H Q _ => ∃ (r : Addr) (k : Nat) (p : List Int) (ns : List Int) (ps : List (List Int)), vs = [.ref r, .int (k : Int)] ∧ RuleAt K C H r ns ps ∧ Mir ns ∧ Stp ns ps ∧ (partsOf ps ns.length)[k]? = some p ∧ ∀ H', Same H H' → Q (.bl (ownB ns p)) H'
theorem ok_isOwn {f C fM : Addr} {fd dM : FuncData} (F : Fun K "is_own_mirror" "is_own_mirror" sIsOwn f fd) (DM : DefAt K mg "mirror_part" sMirrorPart ["rule", "part"] fM dM) (GM : FnOk P w K mg base CX0 5 fM dM ["rule", "part"] (spMirrorPart K C)) : FnOk P w K mg base CX0 6 f fd ["rule", "part"] (spIsOwn K C) := by
  refine F.ok scIsOwn (fun vs H Q E h => ?_) (fun cdv A outer s H vs Q E hr h => ?_)
  · obtain ⟨r, k, p, ns, ps, rfl, _⟩ := h
    rfl
  · obtain ⟨r, k, p, ns, ps, rfl, R, M, S, gk, q⟩ := h
    refine ⟨_, pss_one (ps_ret (pe_cmpR op_eq (pe_call GM hr (by rfl) DM.mg DM.fn.kp DM.bi .nil pass0 (pa_cons (pv 0) (pa_cons (pv 1) pa_nil))) (pv 1) (nomark _))), ?_⟩
    refine ⟨.ref r, rfl, .int (k : Int), rfl, r, k, p, ns, ps, rfl, R, M, S, gk, fun H1 x mx k' s1 hx hmx gk' => ⟨.int (k : Int), rfl, rfl, ?_⟩⟩
    have hpm := List.mem_of_getElem? gk
    have hpl := part_lot hpm hx
    have bx := (mem_lot.mp (by rw [hpl]; exact hx : x ∈ lotOf ps ns.length x)).1
    have e : decide (V.int (k' : Int) = V.int (k : Int)) = ownB ns p := by
      rw [Bool.eq_iff_iff, decide_eq_true_iff, ownB_iff]
      constructor
      · intro z y hy
        have z : k' = k := by have := V.int.inj z; omega
        subst z
        rw [gk] at gk'
        cases gk'
        have by_ := (mem_lot.mp (by rw [part_lot hpm hy]; exact hy : y ∈ lotOf ps ns.length y)).1
        exact lot_mirror M S bx.1 hmx (mirI_get by_.1 by_.2) (by rw [hpl]; exact hy)
      · intro z
        have hm := z x hx
        rw [mirI_at hmx] at hm
        rw [part_lot hpm hm] at gk'
        have h1 := (List.getElem?_eq_some_iff.mp gk).1
        have h2 := (List.getElem?_eq_some_iff.mp gk').1
        have := (List.getElem?_inj h2 (parts_nodup ps ns.length)).mp (gk'.trans gk.symm)
        rw [this]
    rw [e]
    exact q H1 s1
/-! ### is_at_axis -/
theorem scIsAt : FnScope ["rule", "mark", "gap"] ["rule", "mark", "gap"] (defScope sIsAt) := ⟨rfl, rfl, rfl, by decide +kernel, rfl, by decide +kernel, by decide +kernel⟩
def spIsAt (K : PySem.W.Frag) (C : Addr) : Sp := fun vs H Q _ => ∃ (r : Addr) (m g : Int) (ns : List Int) (ps : List (List Int)), vs = [.ref r, .int m, .int g] ∧ RuleAt K C H r ns ps ∧ (0 ≤ m ∧ m < (ns.length : Int)) ∧ Q (.bl (atAx ns ps m g)) H
theorem ok_isAt {f C fB fR : Addr} {fd dB dR : FuncData} (F : Fun K "is_at_axis" "is_at_axis" sIsAt f fd) (T : Txt K mg C)
    (FB : Fun K "behind" "Rule.behind" sBehindM fB dB) (bB : Binds K dB ["self", "mark"] []) (mB : Meth K C "behind" fB) (FR : Fun K "mirror" "Rule.mirror" sMirrorM fR dR) (bR : Binds K dR ["self", "mark"] []) (mR : Meth K C "mirror" fR) : FnOk P w K mg base CX0 2 f fd ["rule", "mark", "gap"] (spIsAt K C) := by
  have GR : FnOk P w K mg base CX0 1 fR dR ["self", "mark"] (spMirrorM K C) := ok_mirrorM FR T
  have GB : FnOk P w K mg base CX0 1 fB dB ["self", "mark"] (spBehindM K C) := ok_behindM FB T
  refine F.ok scIsAt (fun vs H Q E h => ?_) (fun cdv A outer s H vs Q E hr h => ?_)
  · obtain ⟨r, m, g, ns, ps, rfl, _⟩ := h
    rfl
  · obtain ⟨r, m, g, ns, ps, rfl, R, hm, q⟩ := h
    have hu5 := un65 hr
    refine ⟨_, pss_cons (ps_if (pt_cmpR op_eq (pv 2) pe_int (nomark _)) (pss_one (ps_ret (pe_cmpR op_eq (pe_meth (pv 0) T.cl mR GR hr bR .nil pass0 (pa_cons (pv 1) pa_nil)) (pv 1) (nomark _)))) pss_nil)
      (pss_one (ps_ret (pe_cmpR (op_inTI hu5) (pe_meth (pv 0) T.cl mR GR hr bR .nil pass0 (pa_cons (pv 1) pa_nil)) (pe_meth (pv 0) T.cl mB GB hr bB .nil pass0 (pa_cons (pv 1) pa_nil)) (by rfl)))), ?_⟩
    obtain ⟨dx, a0, b0, t0, g1, g2, g3, g4⟩ := R.ex
    have fno := flds_no a0 b0 t0 (m := "behind") (by decide +kernel) (by decide +kernel) (by decide +kernel)
    have fnm := flds_no a0 b0 t0 (m := "mirror") (by decide +kernel) (by decide +kernel) (by decide +kernel)
    have gm := mirI_get hm.1 hm.2
    have em : V.int m = .int ((m.toNat : Nat) : Int) := by rw [Int.toNat_of_nonneg hm.1]
    refine ⟨.int g, rfl, rfl, _, rfl, ?_⟩
    rw [decV]
    unfold atAx at q
    refine ite2 (fun z => ?_) (fun z => ?_)
    · rw [if_pos (of_decide_eq_true z)] at q
      refine ⟨.ref r, rfl, r, dx, _, rfl, g1, fnm, .int m, rfl, r, ns, ps, m.toNat, mirI ns m, by rw [← em]; rfl, R, gm, .int m, rfl, rfl, ?_⟩
      rw [decV]; exact q
    · rw [if_neg (fun y => z (decide_eq_true y))] at q
      refine ⟨.ref r, rfl, r, dx, _, rfl, g1, fnm, .int m, rfl, r, ns, ps, m.toNat, mirI ns m, by rw [← em]; rfl, R, gm, .ref r, rfl, r, dx, _, rfl, g1, fno, .int m, rfl, r, ns, ps, m.toNat, by rw [← em]; rfl, R, by omega, fun c hc => ?_⟩
      rw [Int.toNat_of_nonneg hm.1] at hc
      exact ⟨c, _, _, rfl, rfl, hc, q⟩
end
end K44
set_option maxHeartbeats 4000000
namespace K44
open PySem PySem.Spec PyProof.Rows L2 RV
/-- a loop over a list that its turns leave as it is -/
theorem it_list {K : PySem.W.Frag} {a : Addr} {xs : List V} {H0 : Hp} {Fin : Hp → Prop} {Bd : V → Hp → (Hp → Prop) → Prop} (Pv : Nat → Hp → Prop) (h0 : Pv 0 H0) (hl : ∀ i H, i ≤ xs.length → Pv i H → SqL K H a xs)
    (hs : ∀ i x H, xs[i]? = some x → Pv i H → Bd x H (Pv (i + 1))) (hd : ∀ H, Pv xs.length H → Fin H) :
    ∃ W : Nat → Nat → Hp → Prop, (∃ m, W 0 m H0) ∧ ∀ i m H, W i m H → ((Itl K a).stop i H ∧ Fin H) ∨ ((Itl K a).go i H ∧ ∃ Nx : Hp → Prop, (∀ H', Nx H' → ∃ m', m' < m ∧ W (i + 1) m' H') ∧ ∀ x H', (Itl K a).yld i H x H' → Bd x H' Nx) := by
  refine ⟨fun i m H => i ≤ xs.length ∧ m + i = xs.length ∧ Pv i H, ⟨xs.length, Nat.zero_le _, rfl, h0⟩, fun i m H ⟨hi, hm, hp⟩ => ?_⟩
  have hq := hl i H hi hp
  rcases Nat.lt_or_ge i xs.length with z | z
  · refine .inr ⟨⟨xs, xs[i], hq, List.getElem?_eq_getElem z⟩, Pv (i + 1), fun H' p' => ⟨m - 1, by omega, z, by omega, p'⟩, fun x H' y => ?_⟩
    obtain ⟨rfl, y⟩ := y
    exact hs i x _ (y xs hq) hp
  · obtain rfl : i = xs.length := by omega
    exact .inl ⟨⟨xs, hq, Nat.le_refl _⟩, hd H hp⟩
theorem SetL.more {w : World} {H : Hp} {D : Addr} {ls : List Int} (h : SetL w H D ls) (c : Int) (room : ls.length ≤ 1000) : ∃ (S : Int → Bool) (n : Nat), H D = some (SetO w D S n) ∧ n + 1 < scanBound ∧ ∃ ls', SetL w (upd H D (SetO w D (fun j => S j || decide (j = c)) (if S c = true then n else n + 1))) D ls' ∧ ls'.length ≤ ls.length + 1 ∧ ∀ k, k ∈ ls' ↔ k ∈ ls ∨ k = c := by
  obtain ⟨S, h1, h2, h3⟩ := h
  refine ⟨S, ls.length, h1, by show ls.length + 1 < 4096; omega, ?_⟩
  by_cases e : S c = true
  · refine ⟨ls, ⟨_, by rw [upd_same, if_pos e], h2, fun k => ?_⟩, by omega, fun k => ⟨.inl, fun z => z.elim id fun z => by rw [z]; exact (h3 c).mp e⟩⟩
    rw [Bool.or_eq_true, h3, decide_eq_true_iff]
    exact ⟨fun z => z.elim id fun z => by rw [z]; exact (h3 c).mp e, .inl⟩
  · refine ⟨c :: ls, ⟨_, by rw [upd_same, if_neg e]; rfl, List.nodup_cons.mpr ⟨fun z => e ((h3 c).mpr z), h2⟩, fun k => ?_⟩, Nat.le_refl _, fun k => by rw [List.mem_cons, or_comm]⟩
    rw [Bool.or_eq_true, h3, decide_eq_true_iff, List.mem_cons, or_comm]
/-- the axis classes -/
def AxC (ns : List Int) (ps : List (List Int)) (p : List Int) (z : Int) : Prop := Own ns p ∧ ∃ m ∈ p, ∃ g ∈ ([0, 1] : List Int), atAx ns ps m g = true ∧ z = 2 * ((clsM ps ns.length m : Nat) : Int) + g
section
variable {P : Program} {w : World} {K : PySem.W.Frag} {mg : Str → Option Value} {base : Heap}
/-! ### axis_classes -/
abbrev nAx : List Str := ["rule", "part", "known", "mark", "k", "gap"]
theorem scAx : FnScope nAx ["rule", "part"] (defScope sAxisC) := ⟨rfl, rfl, rfl, by decide +kernel, rfl, by decide +kernel, by decide +kernel⟩
def spAx (K : PySem.W.Frag) (C : Addr) : Sp := fun vs H Q _ => ∃ (r : Addr) (k : Nat) (p : List Int) (ns : List Int) (ps : List (List Int)), vs = [.ref r, .int (k : Int)] ∧ RuleAt K C H r ns ps ∧ Mir ns ∧ Stp ns ps ∧ (partsOf ps ns.length)[k]? = some p ∧
  ∀ (H' : Hp) (t : Addr) (zs : List Int), Same H H' → SqT K H' t (zs.map V.int) → zs.Pairwise (· < ·) → (∀ z, z ∈ zs ↔ AxC ns ps p z) → zs.length ≤ 16 → Q (.ref t) H'
theorem ok_ax {f C fO fP fC fA : Addr} {fd dO dP dC dA : FuncData} (F : Fun K "axis_classes" "axis_classes" sAxisC f fd) (B : Bare mg)
    (DO : DefAt K mg "is_own_mirror" sIsOwn ["rule", "part"] fO dO) (GO : FnOk P w K mg base CX0 6 fO dO ["rule", "part"] (spIsOwn K C)) (DP : DefAt K mg "parts" sParts ["rule"] fP dP) (GP : FnOk P w K mg base CX0 3 fP dP ["rule"] (spParts K C))
    (DC : DefAt K mg "classes" sClasses ["rule", "part"] fC dC) (GC : FnOk P w K mg base CX0 5 fC dC ["rule", "part"] (spClasses K C)) (DA : DefAt K mg "is_at_axis" sIsAt ["rule", "mark", "gap"] fA dA) (GA : FnOk P w K mg base CX0 2 fA dA ["rule", "mark", "gap"] (spIsAt K C)) : FnOk P w K mg base CX0 7 f fd ["rule", "part"] (spAx K C) := by
  refine F.ok scAx (fun vs H Q E h => ?_) (fun cdv A outer s H vs Q E hr h => ?_)
  · obtain ⟨r, k, p, ns, ps, rfl, _⟩ := h
    rfl
  · obtain ⟨r, k, p, ns, ps, rfl, R, M, S, gk, q⟩ := h
    have r2 := hr.mono (show 2 ≤ 6 by decide)
    have r3 := hr.mono (show 3 ≤ 6 by decide)
    have r5 := hr.mono (show 5 ≤ 6 by decide)
    have two : (2 : Nat) ≤ sizeLine := by decide
    refine ⟨_, pss_cons (ps_if (pt_not (pt_val (pe_call GO hr (by rfl) DO.mg DO.fn.kp DO.bi .nil pass0 (pa_cons (pv 0) (pa_cons (pv 1) pa_nil))))) (pss_one (ps_ret (pe_tup pa_nil))) pss_nil)
      (pss_cons (ps_set (i := 2) scAx.nd rfl (Or.inl rfl) (pe_listZip rfl (by rfl) B.list (by rfl) B.zip (pa_cons (pe_ix ix_tup (pe_call GP r3 (by rfl) DP.mg DP.fn.kp DP.bi .nil pass0 (pa_cons (pv 0) pa_nil)) (pv 1) (fun _ _ => rfl)) (pa_cons (pe_call GC r5 (by rfl) DC.mg DC.fn.kp DC.bi .nil pass0 (pa_cons (pv 0) (pa_cons (pv 1) pa_nil))) pa_nil))))
      (pss_one (ps_ret (pe_tupleOf (by rfl) B.tuple (pe_callB (cr_sortedSet rfl) (by rfl) B.sorted (by decide +kernel) (pa_cons
        (pe_scT (own := [("mark", 3), ("k", 4), ("gap", 5)]) (vs1 := [5]) (g := gTup K 2 (gCons (gName 3) (gCons (gName 4) gNil))) (g1 := gName 5) rfl scAx.nd (pi_list (pv 2)) (blkOk_by (N := nAx) (sc := defScope sAxisC) (by decide +kernel)) (by decide)
          (fun _ _ _ _ _ => pg_tupK rfl rfl (pgs_cons (pg_name (i := 3) scAx.nd rfl (Or.inl rfl)) (pgs_cons (pg_name (i := 4) scAx.nd rfl (Or.inl rfl)) pgs_nil)))
          (fun _ _ _ _ _ => pi_tupK (K := K) rfl (pe_tup (pa_cons pe_int (pa_cons pe_int pa_nil)))) (fun _ _ _ _ _ => pg_name (i := 5) scAx.nd rfl (Or.inl rfl))
          (fun _ _ _ _ _ => pts_one (pt_val (pe_call GA r2 (by rfl) DA.mg DA.fn.kp DA.bi .nil pass0 (pa_cons (pv 0) (pa_cons (pv 3) (pa_cons (pv 5) pa_nil))))))
          (fun _ _ _ _ _ => pe_op op_add (pe_op op_mul pe_int (pv 4)) (pv 5))) pa_nil)))))), ?_⟩
    have h8 := M.few
    have hpm := List.mem_of_getElem? gk
    have lp : p.length ≤ 8 := by
      obtain ⟨m, _, _, e⟩ := mem_parts.mp hpm
      rw [e]; exact Nat.le_trans (lot_len _ _ _) h8
    have inn : ∀ x ∈ p, 0 ≤ x ∧ x < (ns.length : Int) := fun x hx => (mem_lot.mp (by rw [part_lot hpm hx]; exact hx : x ∈ lotOf ps ns.length x)).1
    refine ⟨.ref r, rfl, .int (k : Int), rfl, r, k, p, ns, ps, rfl, R, M, S, gk, fun H1 s1 => ⟨_, rfl, ?_⟩⟩
    cases ho : ownB ns p with
    | false =>
      have no : ¬ Own ns p := fun z => by rw [ownB_iff.mpr z] at ho; cases ho
      refine iteT ⟨Nat.zero_le _, fun t nt => ?_⟩
      exact q _ t [] (s1.trans (same_upd nt)) (tupNew upd_same) List.Pairwise.nil (fun z => ⟨fun y => (by cases y), fun y => (no y.1).elim⟩) (Nat.zero_le _)
    | true =>
      have yes := ownB_iff.mp ho
      refine iteF ?_
      refine ⟨.ref r, rfl, r, ns, ps, rfl, R.same s1, M, S, fun H2 c s2 nc hc => ?_⟩
      obtain ⟨ks, k1, k2, k3⟩ := hc
      have gk' : (ks.map (·.2))[k]? = some p := by rw [k1]; exact gk
      obtain ⟨kk, gkk, ekk⟩ := map_at gk'
      have hp : SqT K H2 kk.1 (p.map V.int) := by
        have z := (k3 kk (List.mem_of_getElem? gkk)).sq (K := K)
        rw [← ekk] at z; exact z
      refine ⟨.int (k : Int), rfl, c, _, _, .ref kk.1, rfl, rfl, tupNew k2, atI_nat (by rw [List.getElem?_map, gkk]; rfl), ?_⟩
      refine ⟨.ref r, rfl, .int (k : Int), rfl, r, k, ns, ps, p, rfl, R.same (s1.trans s2), M, S, gk, fun H3 cc s3 ncc hcc pp => ?_⟩
      refine ⟨kk.1, cc, _, _, rfl, sqT_same s3 hp, tupNew hcc, fun H4 L ts s4 nL eL lts hts => ?_⟩
      have s04 := ((s1.trans s2).trans s3).trans s4
      have R4 := R.same s04
      have lts' : ts.length = p.length := by rw [lts]; unfold clsL; simp
      have hts' : ∀ (j : Nat) (t : Addr), ts[j]? = some t → ∃ m, p[j]? = some m ∧ H4 t = some (.tup [.int m, .int ((clsM ps ns.length m : Nat) : Int)]) := fun j t hj => by
        obtain ⟨x, y, e1, e2, e3⟩ := hts j t hj
        rw [List.getElem?_map] at e1
        obtain ⟨m, gm, rfl⟩ := Option.map_eq_some_iff.mp e1
        unfold clsL at e2
        rw [List.getElem?_map, List.getElem?_map, gm] at e2
        cases e2
        exact ⟨m, gm, e3⟩
      refine ⟨.ref L, rfl, L, rfl, ⟨_, lstNew eL⟩, fun D nD => ?_⟩
      refine it_list (xs := ts.map V.ref) (fun i H' => Same H4 H' ∧ ∃ ls, SetL w H' D ls ∧ ls.length ≤ 2 * i ∧ ∀ y, y ∈ ls ↔ ∃ m ∈ p.take i, ∃ g ∈ ([0, 1] : List Int), atAx ns ps m g = true ∧ y = 2 * ((clsM ps ns.length m : Nat) : Int) + g) ⟨same_upd nD, [], SetL.nil, Nat.zero_le _, fun y => by simp⟩ (fun i H' _ h => lstNew (h.1 _ _ eL)) (fun i v H5 hv h => ?_) fun H5 h => ?_
      · obtain ⟨t, gt, rfl⟩ := map_at hv
        obtain ⟨s5, ls, hL, ll, mL⟩ := h
        obtain ⟨m, gm, et⟩ := hts' i t gt
        have hm := inn m (List.mem_of_getElem? gm)
        have hi : i < p.length := (List.getElem?_eq_some_iff.mp gm).1
        refine ⟨t, _, rfl, tupNew (s5 _ _ et), rfl, _, _, rfl, _, _, rfl, rfl, rfl, two, fun u nu => ?_⟩
        have su := same_upd (o := .tup [.int 0, .int 1]) nu
        refine ⟨u, rfl, ⟨_, tupNew upd_same⟩, ?_⟩
        refine it_tup (K := K) (xs := ([0, 1] : List Int).map V.int) (fun j H' => Same H4 H' ∧ SqT K H' u (([0, 1] : List Int).map V.int) ∧ ∃ ls', SetL w H' D ls' ∧ ls'.length ≤ 2 * i + j ∧ ∀ y, y ∈ ls' ↔ y ∈ ls ∨ ∃ g ∈ ([0, 1] : List Int).take j, atAx ns ps m g = true ∧ y = 2 * ((clsM ps ns.length m : Nat) : Int) + g) ⟨s5.trans su, tupNew upd_same, ls, hL.same su, by omega, fun y => by simp⟩ (fun j H' _ h => h.2.1) (fun j v H6 hv6 h => ?_) fun H6 h => ?_
        · obtain ⟨g, gg, rfl⟩ := map_at hv6
          obtain ⟨s6, hu6, ls6, hL6, ll6, mL6⟩ := h
          have hj : j < 2 := (List.getElem?_eq_some_iff.mp gg).1
          refine ⟨rfl, .ref r, rfl, .int m, rfl, .int g, rfl, r, m, g, ns, ps, rfl, R4.same s6, hm, _, rfl, ?_⟩
          cases ha : atAx ns ps m g with
          | false =>
            refine iteF ⟨s6, hu6, ls6, hL6, by omega, fun y => ?_⟩
            rw [mL6 y, List.take_add_one, gg]
            constructor
            · rintro (z | ⟨g', z1, z2⟩)
              · exact .inl z
              · exact .inr ⟨g', List.mem_append_left _ z1, z2⟩
            · rintro (z | ⟨g', z1, z2⟩)
              · exact .inl z
              · rcases List.mem_append.mp z1 with z1 | z1
                · exact .inr ⟨g', z1, z2⟩
                · have e : g' = g := List.mem_singleton.mp z1
                  subst e
                  rw [ha] at z2
                  cases z2.1
          | true =>
            refine iteT ⟨.int ((clsM ps ns.length m : Nat) : Int), rfl, 2, _, rfl, rfl, .inl ⟨by decide, by decide⟩, .int g, rfl, _, _, rfl, rfl, ?_⟩
            obtain ⟨S6, n6, e1, e2, ls7, hL7, ll7, mL7⟩ := SetL.more hL6 (2 * ((clsM ps ns.length m : Nat) : Int) + g) (by omega)
            refine ⟨_, S6, n6, rfl, e1, e2, fun b' o z => ?_, sqT_set e1 hu6, ls7, hL7, by omega, fun y => ?_⟩
            · rw [upd_ne (ne_of_none z nD)]; exact s6 b' o z
            rw [mL7 y, mL6 y, List.take_add_one, gg]
            constructor
            · rintro ((z | ⟨g', z1, z2⟩) | z)
              · exact .inl z
              · exact .inr ⟨g', List.mem_append_left _ z1, z2⟩
              · exact .inr ⟨g, List.mem_append_right _ (List.mem_singleton.mpr rfl), ha, z⟩
            · rintro (z | ⟨g', z1, z2⟩)
              · exact .inl (.inl z)
              · rcases List.mem_append.mp z1 with z1 | z1
                · exact .inl (.inr ⟨g', z1, z2⟩)
                · have e : g' = g := List.mem_singleton.mp z1
                  subst e
                  exact .inr z2.2
        · obtain ⟨s6, _, ls6, hL6, ll6, mL6⟩ := h
          refine ⟨s6, ls6, hL6, by simp at ll6; omega, fun y => ?_⟩
          rw [mL6 y, mL y, List.take_add_one, gm]
          constructor
          · rintro (⟨m', z1, z2⟩ | z)
            · exact ⟨m', List.mem_append_left _ z1, z2⟩
            · exact ⟨m, List.mem_append_right _ (List.mem_singleton.mpr rfl), z⟩
          · rintro ⟨m', z1, z2⟩
            rcases List.mem_append.mp z1 with z1 | z1
            · exact .inl ⟨m', z1, z2⟩
            · have e : m' = m := List.mem_singleton.mp z1
              subst e
              exact .inr z2
      · obtain ⟨s5, ls, hL, ll, mL⟩ := h
        rw [List.length_map, lts', List.take_of_length_le (Nat.le_refl _)] at mL
        rw [List.length_map, lts'] at ll
        obtain ⟨S5, e1, nd, mS⟩ := hL
        refine ⟨D, S5, ls.length, rfl, e1, by omega, fun zs l rise mem len nl => ?_⟩
        have sl := same_upd (o := .lst (zs.map V.int)) nl
        refine .inl ⟨l, _, rfl, lstNew upd_same, fun t nt => ?_⟩
        refine q _ t zs (((s04.trans s5).trans sl).trans (same_upd nt)) (tupNew upd_same) rise (fun z => ?_) (by omega)
        rw [mem z, mS z, mL z]
        exact ⟨fun h => ⟨yes, h⟩, fun h => h.2⟩
end
end K44
set_option maxHeartbeats 4000000
namespace K44
open PySem PySem.Spec PyProof.Rows L2 RV
theorem fmod_small {c d : Int} (h : d ≠ 0) : (c.fmod d).natAbs < d.natAbs := by
  rw [Int.fmod_eq_emod]
  have h1 := Int.emod_nonneg c h
  have h2 : c % d < (d.natAbs : Int) := Int.emod_lt c h
  by_cases z : 0 ≤ d ∨ d ∣ c
  · rw [if_pos z]
    omega
  · rw [if_neg z]
    have h3 : ¬ (d ∣ c) := fun y => z (.inr y)
    have h4 : c % d ≠ 0 := fun y => h3 (Int.dvd_of_emod_eq_zero y)
    have h5 : ¬ 0 ≤ d := fun y => z (.inl y)
    omega
theorem gcd_fmod (c d : Int) : Int.gcd d (c.fmod d) = Int.gcd c d := by
  have e : c.fmod d = c - d * c.fdiv d := Int.fmod_def c d
  refine Nat.dvd_antisymm ?_ ?_
  · have h1 : ((Int.gcd d (c.fmod d) : Nat) : Int) ∣ d := Int.gcd_dvd_left ..
    have h2 : ((Int.gcd d (c.fmod d) : Nat) : Int) ∣ c.fmod d := Int.gcd_dvd_right ..
    have h3 : ((Int.gcd d (c.fmod d) : Nat) : Int) ∣ c := by
      have z := Int.dvd_add h2 (Int.dvd_trans h1 (Int.dvd_mul_right d (c.fdiv d)))
      rwa [show c.fmod d + d * c.fdiv d = c by omega] at z
    exact Int.ofNat_dvd.mp (Int.dvd_coe_gcd h3 h1)
  · have h1 : ((Int.gcd c d : Nat) : Int) ∣ c := Int.gcd_dvd_left ..
    have h2 : ((Int.gcd c d : Nat) : Int) ∣ d := Int.gcd_dvd_right ..
    have h3 : ((Int.gcd c d : Nat) : Int) ∣ c.fmod d := by
      rw [e]
      exact Int.dvd_sub h1 (Int.dvd_trans h2 (Int.dvd_mul_right _ _))
    exact Int.ofNat_dvd.mp (Int.dvd_coe_gcd h2 h3)
/-! ### gaps, as marks are found -/
theorem one_off {us : List (Int × Nat)} (nd : (us.map (·.1)).Nodup) {m : Int} {a b : Nat} (h1 : (m, a) ∈ us) (h2 : (m, b) ∈ us) : a = b := by
  have e1 := valO_at nd h1
  have e2 := valO_at nd h2
  rw [e1] at e2
  have := Option.some.inj e2
  injection this with e
  omega
theorem gf_grow {ps : List (List Int)} {p : List Int} {us : List (Int × Nat)} {qs : List (List Int)} {g : Nat} {y0 : Int} {n : Nat} (G : Gf ps p us qs g) (nd : ((us ++ [(y0, n)]).map (·.1)).Nodup) (known : ∀ x y : Int, [x, y] ∈ qs → x ∈ us.map (·.1) ∧ y ∈ us.map (·.1)) : Gf ps p (us ++ [(y0, n)]) qs g := by
  have old : ∀ (x : Int) (a : Nat), x ∈ us.map (·.1) → (x, a) ∈ us ++ [(y0, n)] → (x, a) ∈ us := fun x a hx ha => by
    rcases List.mem_append.mp ha with z | z
    · exact z
    · have z := List.mem_singleton.mp z
      cases z
      rw [List.map_append, List.nodup_append] at nd
      exact (nd.2.2 _ hx _ (List.mem_singleton.mpr rfl) rfl).elim
  exact ⟨fun x y a b h hx hy ha hb => G.all x y a b h hx hy (old x a (known x y h).1 ha) (old y b (known x y h).2 hb), fun d hd => G.most d fun x y a b h hx hy ha hb => hd x y a b h hx hy (List.mem_append_left _ ha) (List.mem_append_left _ hb)⟩
theorem gf_more {ps : List (List Int)} {p : List Int} {us : List (Int × Nat)} {qs : List (List Int)} {g : Nat} {x y : Int} {a b : Nat} (nd : (us.map (·.1)).Nodup) (G : Gf ps p us qs g) (hx : x ∈ p) (hy : y ∈ p) (ha : (x, a) ∈ us) (hb : (y, b) ∈ us) : Gf ps p us (qs ++ [[x, y]]) (Nat.gcd g (gapO a b)) := by
  refine ⟨fun x' y' a' b' h hx' hy' ha' hb' => ?_, fun d hd => Nat.dvd_gcd (G.most d fun x' y' a b h => hd x' y' a b (List.mem_append_left _ h)) (hd x y a b (List.mem_append_right _ (List.mem_singleton.mpr rfl)) hx hy ha hb)⟩
  rcases List.mem_append.mp h with e | e
  · exact Nat.dvd_trans (Nat.gcd_dvd_left _ _) (G.all x' y' a' b' e hx' hy' ha' hb')
  · have e := List.mem_singleton.mp e
    injection e with e1 e2
    injection e2 with e2 _
    subst e1 e2
    rw [one_off nd ha' ha, one_off nd hb' hb]
    exact Nat.gcd_dvd_right _ _
theorem gf_like {ps : List (List Int)} {p : List Int} {us : List (Int × Nat)} {qs qs' : List (List Int)} {g : Nat} (G : Gf ps p us qs g) (e : ∀ x y : Int, x ∈ p → y ∈ p → ([x, y] ∈ qs ↔ [x, y] ∈ qs')) : Gf ps p us qs' g :=
  ⟨fun x y a b h hx hy ha hb => G.all x y a b ((e x y hx hy).mpr h) hx hy ha hb, fun d hd => G.most d fun x y a b h hx hy ha hb => hd x y a b ((e x y hx hy).mp h) hx hy ha hb⟩
section
variable {P : Program} {w : World} {K : PySem.W.Frag} {mg : Str → Option Value} {base : Heap}
/-! ### _law_common -/
def spCommon : Sp := fun vs H Q _ => ∃ a b : Int, vs = [.int a, .int b] ∧ Q (.int ((Int.gcd a b : Nat) : Int)) H
end
end K44
set_option maxHeartbeats 4000000
namespace K44
open PySem PySem.Spec PyProof.Rows L2 RV
theorem paired_get {α β : Type} {F : α → β → Prop} : ∀ {ts : List α} {ks : List β}, ts.length = ks.length → (∀ (j : Nat) (t : α) (k : β), ts[j]? = some t → ks[j]? = some k → F t k) → Paired F ts ks
  | [], [], _, _ => .nil
  | [], _ :: _, h, _ => by cases h
  | _ :: _, [], h, _ => by cases h
  | t :: ts, k :: ks, h, f => .cons (f 0 t k rfl rfl) (paired_get (Nat.succ.inj h) fun j a b ha hb => f (j + 1) a b ha hb)
theorem merge_fn {f : Int → V} {k : Int} : ∀ (l : List Int) (kvs : List (L2.Key × V)), valV (mergeK kvs (l.map fun m => ((Sum.inl m : L2.Key), f m))) (Sum.inl k) = if k ∈ l then some (f k) else valV kvs (Sum.inl k)
  | [], kvs => by simp [mergeK]
  | m :: l, kvs => by
    show valV (mergeK (putK kvs (Sum.inl m) (f m)) (l.map fun m => ((Sum.inl m : L2.Key), f m))) (Sum.inl k) = _
    rw [merge_fn l, valV_put]
    by_cases e : k = m
    · subst e
      by_cases h : k ∈ l <;> simp [h]
    · have e' : ¬ (Sum.inl k : L2.Key) = Sum.inl m := fun z => e (Sum.inl.inj z)
      by_cases h : k ∈ l <;> simp [h, e, e']
/-- what _law_classes tells: the period and each mark's class -/
def Known (H : Hp) (t : Addr) (ps : List (List Int)) (N : Nat) (p : List Int) : Prop := ∃ (d : Addr) (kvs : List (L2.Key × V)), H t = some (.tup [.int ((perN ps (hd0 p) : Nat) : Int), .ref d]) ∧ H d = some (.dK kvs) ∧ ∀ m ∈ p, valV kvs (Sum.inl m) = some (.int ((clsM ps N m : Nat) : Int))
theorem Known.same {H H' : Hp} {t : Addr} {ps : List (List Int)} {N : Nat} {p : List Int} (h : Known H t ps N p) (s : Same H H') : Known H' t ps N p := by
  obtain ⟨d, kvs, h1, h2, h3⟩ := h
  exact ⟨d, kvs, s _ _ h1, s _ _ h2, h3⟩
section
variable {P : Program} {w : World} {K : PySem.W.Frag} {mg : Str → Option Value} {base : Heap}
/-! ### _law_classes -/
abbrev nLC : List Str := ["_law_steps", "_law_part", "_law_off", "_law_waiting", "_law_goes", "_law_mark", "_law_other", "_law_a", "_law_b"]
def spLC (K : PySem.W.Frag) : Sp := fun vs H Q _ => ∃ (c a : Addr) (ns p : List Int) (ps : List (List Int)), vs = [.ref c, .ref a] ∧ TupsH H c ps ∧ Mir ns ∧ Stp ns ps ∧ p ∈ partsOf ps ns.length ∧ SqT K H a (p.map V.int) ∧
  ∀ (H' : Hp) (t : Addr), Same H H' → Known H' t ps ns.length p → Per ps (hd0 p) (perN ps (hd0 p)) → Q (.ref t) H'
end
end K44
set_option maxHeartbeats 4000000
/-! rising lists of marks: at most two to the power of how many; where walks end, step by step, comes round -/
namespace RV
def subs : Nat → List (List Int)
  | 0 => [[]]
  | n + 1 => subs n ++ (subs n).map fun xs => xs ++ [(n : Int)]
theorem subs_len : ∀ n, (subs n).length = 2 ^ n
  | 0 => rfl
  | n + 1 => by
    show (subs n ++ (subs n).map _).length = _
    rw [List.length_append, List.length_map, subs_len n, Nat.pow_succ]; omega
theorem mem_subs : ∀ {n : Nat} {xs : List Int}, xs.Pairwise (· < ·) → (∀ x ∈ xs, 0 ≤ x ∧ x < (n : Int)) → xs ∈ subs n
  | 0, xs, _, h => by
    cases xs with
    | nil => exact List.mem_singleton.mpr rfl
    | cons x xs => have := h x List.mem_cons_self; omega
  | n + 1, xs, hr, h => by
    show xs ∈ subs n ++ (subs n).map _
    rw [List.mem_append]
    by_cases e : xs = []
    · subst e
      exact .inl (mem_subs List.Pairwise.nil fun x hx => nomatch hx)
    obtain ⟨ys, y, rfl⟩ : ∃ ys y, xs = ys ++ [y] := ⟨xs.dropLast, xs.getLast e, (List.dropLast_concat_getLast e).symm⟩
    obtain ⟨r1, _, r2⟩ := List.pairwise_append.mp hr
    have hy := h y (List.mem_append_right _ (List.mem_singleton.mpr rfl))
    have hys : ∀ x ∈ ys, 0 ≤ x ∧ x < y := fun x hx => ⟨(h x (List.mem_append_left _ hx)).1, r2 x hx y (List.mem_singleton.mpr rfl)⟩
    by_cases e2 : y = (n : Int)
    · subst e2
      exact .inr (List.mem_map.mpr ⟨ys, mem_subs r1 hys, rfl⟩)
    · refine .inl (mem_subs hr fun x hx => ?_)
      rcases List.mem_append.mp hx with z | z
      · have := hys x z; omega
      · rw [List.mem_singleton.mp z]; omega
theorem rise_uniq : ∀ {xs ys : List Int}, xs.Pairwise (· < ·) → ys.Pairwise (· < ·) → (∀ x, x ∈ xs ↔ x ∈ ys) → xs = ys
  | [], [], _, _, _ => rfl
  | [], y :: ys, _, _, h => nomatch (h y).mpr List.mem_cons_self
  | x :: xs, [], _, _, h => nomatch (h x).mp List.mem_cons_self
  | x :: xs, y :: ys, hx, hy, h => by
    obtain ⟨x1, x2⟩ := List.pairwise_cons.mp hx
    obtain ⟨y1, y2⟩ := List.pairwise_cons.mp hy
    have e : x = y := by
      rcases List.mem_cons.mp ((h x).mp List.mem_cons_self) with z | z
      · exact z
      · rcases List.mem_cons.mp ((h y).mpr List.mem_cons_self) with z2 | z2
        · exact z2.symm
        · have := y1 x z; have := x1 y z2; omega
    subst e
    rw [rise_uniq x2 y2 fun z => ?_]
    constructor
    · intro hz
      rcases List.mem_cons.mp ((h z).mp (List.mem_cons_of_mem _ hz)) with e | e
      · have := x1 z hz; omega
      · exact e
    · intro hz
      rcases List.mem_cons.mp ((h z).mpr (List.mem_cons_of_mem _ hz)) with e | e
      · have := y1 z hz; omega
      · exact e
section
variable {bh : Int → List Int} {m : Int}
/-- the rising list of where n steps lead from m -/
def isE (bh : Int → List Int) (m : Int) (n : Nat) (xs : List Int) : Prop := xs.Pairwise (· < ·) ∧ ∀ x, x ∈ xs ↔ lk bh n m x
theorem isE_uniq {n n' : Nat} {xs ys : List Int} (h : isE bh m n xs) (h' : isE bh m n' ys) (e : ∀ x, lk bh n m x ↔ lk bh n' m x) : xs = ys := rise_uniq h.1 h'.1 fun x => (h.2 x).trans ((e x).trans (h'.2 x).symm)
theorem lk_round {f l : Nat} (hf : f < l) (e : ∀ x, lk bh l m x ↔ lk bh f m x) : ∀ (n : Nat), f ≤ n → ∀ x, lk bh n m x ↔ lk bh (f + (n - f) % (l - f)) m x := by
  intro n
  induction n using Nat.strongRecOn with
  | ind n ih =>
    intro hn x
    by_cases z : n < l
    · rw [Nat.mod_eq_of_lt (by omega), Nat.add_sub_cancel' hn]
    · have h1 : lk bh n m x ↔ lk bh (f + (n - l)) m x := by
        rw [show n = l + (n - l) by omega, lk_add, show l + (n - l) - l = n - l by omega, lk_add]
        exact exists_congr fun c => and_congr (e c) Iff.rfl
      rw [h1, ih (f + (n - l)) (by omega) (by omega) x]
      have : (n - f) % (l - f) = (f + (n - l) - f) % (l - f) := by
        rw [show n - f = (f + (n - l) - f) + (l - f) by omega, Nat.add_mod_right]
      rw [this]
end
end RV
set_option maxHeartbeats 4000000
namespace K44
open PySem PySem.Spec PyProof.Rows L2 RV
theorem mirI_two {ns : List Int} (M : Mir ns) {x : Int} (h0 : 0 ≤ x) (h1 : x < (ns.length : Int)) : mirI ns (mirI ns x) = x := mirI_at (mir_back M h0 (mirI_get h0 h1))
theorem sorted_own {ns : List Int} (M : Mir ns) {p zs : List Int} (rise : p.Pairwise (· < ·)) (inn : ∀ x ∈ p, 0 ≤ x ∧ x < (ns.length : Int)) (pm : zs.Perm (p.map (mirI ns))) (up : zs.Pairwise (· ≤ ·)) : decide (zs = p) = ownB ns p := by
  rw [Bool.eq_iff_iff, decide_eq_true_iff, ownB_iff]
  constructor
  · intro e x hx
    have : mirI ns x ∈ zs := pm.mem_iff.mpr (List.mem_map_of_mem hx)
    rw [e] at this; exact this
  · intro o
    have nd : (p.map (mirI ns)).Nodup := by
      refine List.pairwise_map.mpr ((rise_nodup rise).imp_of_mem fun {a b} ha hb ne e => ne ?_)
      rw [← mirI_two M (inn a ha).1 (inn a ha).2, e, mirI_two M (inn b hb).1 (inn b hb).2]
    have ndz : zs.Nodup := pm.nodup_iff.mpr nd
    have risez : zs.Pairwise (· < ·) := (up.and ndz).imp fun {a b} h => by
      have h1 := h.1
      have h2 : a ≠ b := h.2
      omega
    refine rise_uniq risez rise fun x => ?_
    rw [pm.mem_iff, List.mem_map]
    constructor
    · rintro ⟨y, hy, rfl⟩
      exact o y hy
    · intro hx
      exact ⟨mirI ns x, o x hx, mirI_two M (inn x hx).1 (inn x hx).2⟩
section
variable {P : Program} {w : World} {K : PySem.W.Frag} {mg : Str → Option Value} {base : Heap}
/-! ### _law_is_own -/
def spLIO (K : PySem.W.Frag) : Sp := fun vs H Q _ => ∃ (R a : Addr) (ns p : List Int) (ps : List (List Int)), vs = [.ref R, .ref a] ∧ OwnH K H R ns ps ∧ p ∈ partsOf ps ns.length ∧ SqT K H a (p.map V.int) ∧ ∀ H', Same H H' → Q (.bl (ownB ns p)) H'
end
end K44
set_option maxHeartbeats 4000000
namespace K44
open PySem PySem.Spec PyProof.Rows L2 RV
theorem cls_lt {ps : List (List Int)} {n : Nat} {p : List Int} {m : Int} (hp : p ∈ partsOf ps n) (hm : m ∈ p) (pos : 0 < perN ps (hd0 p)) : clsM ps n m < perN ps (hd0 p) := by
  rw [clsM_of hp hm]
  unfold clsN
  split
  · exact Nat.mod_lt _ pos
  · exact pos
theorem rest_eq {a b n : Int} (ha : 0 ≤ a ∧ a < n) (hb : 0 ≤ b ∧ b < n) : (a - b) % n = 0 ↔ a = b := by
  rw [← Int.emod_eq_emod_iff_emod_sub_eq_zero, Int.emod_eq_of_lt ha.1 ha.2, Int.emod_eq_of_lt hb.1 hb.2]
/-- whether a mark makes this axis class -/
noncomputable def mk2 (ns : List Int) (ps : List (List Int)) (z m : Int) : Bool := atAx ns ps m (z % 2) && decide (z = 2 * ((clsM ps ns.length m : Nat) : Int) + z % 2)
theorem mk_even {ns : List Int} {ps : List (List Int)} {z : Int} (hz : z % 2 = 0) {p : List Int} : (p.filter (mk2 ns ps z)).map (mirI ns) = p.filter (mk2 ns ps z) := by
  rw [List.map_congr_left (g := id), List.map_id]
  intro x hx
  have h := (List.mem_filter.mp hx).2
  unfold mk2 atAx at h
  rw [hz, if_pos rfl, Bool.and_eq_true, decide_eq_true_iff] at h
  exact h.1
section
variable {P : Program} {w : World} {K : PySem.W.Frag} {mg : Str → Option Value} {base : Heap}
/-! ### _law_starts -/
abbrev nLS : List Str := ["_law_own", "_law_part", "_law_known", "_law_first", "_law_goes", "_law_kinds_here", "_law_mark", "_law_some"]
def spLS (K : PySem.W.Frag) : Sp := fun vs H Q _ => ∃ (R a kn : Addr) (z : Int) (ns p : List Int) (ps : List (List Int)), vs = [.ref R, .ref a, .ref kn, .int z] ∧ OwnH K H R ns ps ∧ p ∈ partsOf ps ns.length ∧ SqT K H a (p.map V.int) ∧ Known H kn ps ns.length p ∧ 0 < perN ps (hd0 p) ∧ (0 ≤ z ∧ z < 2 * ((perN ps (hd0 p) : Nat) : Int)) ∧
  ∀ (H' : Hp) (l : Addr) (ws : List Int), Same H H' → H' l = some (.lst (ws.map V.int)) → ws = (p.filter (mk2 ns ps z)).map (mirI ns) → Q (.ref l) H'
end
end K44
set_option maxHeartbeats 4000000
namespace K44
open PySem PySem.Spec PyProof.Rows L2 RV
theorem rule_pail {K : PySem.W.Frag} {C : Addr} {H H' : Hp} {p r : Addr} {t : Nat} {ns : List Int} {ps : List (List Int)} (R : RuleAt K C H r ns ps) (hp : PailAt H p t) (b : But p H H') : RuleAt K C H' r ns ps := by
  obtain ⟨dx, a, c, d, h1, h2, h3, h4⟩ := R.ex
  obtain ⟨x, y, e, rest⟩ := hp
  exact ⟨dx, a, c, d, b _ _ h1 (fun z => by rw [z, e] at h1; cases h1), sqT_pail ⟨x, y, e, rest⟩ b h2, tups_pail ⟨x, y, e, rest⟩ b h3, tups_pail ⟨x, y, e, rest⟩ b h4⟩
theorem tup_pail {H H' : Hp} {p a : Addr} {t : Nat} {xs : List V} (h : H a = some (.tup xs)) (hp : PailAt H p t) (b : But p H H') : H' a = some (.tup xs) := by
  obtain ⟨x, y, e, rest⟩ := hp
  exact b _ _ h fun z => by rw [z, e] at h; cases h
theorem OwnH.pail {K : PySem.W.Frag} {H H' : Hp} {p R : Addr} {t : Nat} {ns : List Int} {ps : List (List Int)} (h : OwnH K H R ns ps) (hp : PailAt H p t) (b : But p H H') : OwnH K H' R ns ps := by
  obtain ⟨u, c, o1, o2, o3, M, S⟩ := h
  exact ⟨u, c, tup_pail o1 hp b, sqT_pail hp b o2, o3.but hp b, M, S⟩
theorem OwnH.same {K : PySem.W.Frag} {H H' : Hp} {R : Addr} {ns : List Int} {ps : List (List Int)} (h : OwnH K H R ns ps) (s : Same H H') : OwnH K H' R ns ps := by
  obtain ⟨u, c, o1, o2, o3, M, S⟩ := h
  exact ⟨u, c, s _ _ o1, sqT_same s o2, o3.same s, M, S⟩
theorem part_is {ps : List (List Int)} {n : Nat} {p : List Int} (h : p ∈ partsOf ps n) : ∀ m ∈ p, lotOf ps n m = p := fun m hm => part_lot h hm
theorem op_neDK {X : Cx} {K : PySem.W.Frag} (h : X.K = K) (hu : X.A.units + 64 < cLine) : OpR X (compareOp .NotEq) (rNeD K) := h ▸ op_neD hu
/-- the axis classes by this law's own sets -/
theorem ax_any {ns : List Int} {ps : List (List Int)} {p : List Int} (hp : p ∈ partsOf ps ns.length) (pos : 0 < perN ps (hd0 p)) (own : Own ns p) (z : Int) : (z ∈ (upN (2 * perN ps (hd0 p))).filter fun z => p.any (mk2 ns ps z)) ↔ AxC ns ps p z := by
  rw [List.mem_filter, mem_upN, List.any_eq_true]
  constructor
  · rintro ⟨hz, m, hm, h⟩
    unfold mk2 at h
    rw [Bool.and_eq_true, decide_eq_true_iff] at h
    refine ⟨own, m, hm, z % 2, ?_, h.1, h.2⟩
    simp only [List.mem_cons, List.not_mem_nil, or_false]
    omega
  · rintro ⟨_, m, hm, g, hg, h1, h2⟩
    have cl := cls_lt hp hm pos
    simp only [List.mem_cons, List.not_mem_nil, or_false] at hg
    have eg : z % 2 = g := by omega
    refine ⟨by omega, m, hm, ?_⟩
    unfold mk2
    rw [Bool.and_eq_true, decide_eq_true_iff, eg]
    exact ⟨h1, h2⟩
theorem per_small {ps : List (List Int)} {n : Nat} (hP : ∀ q ∈ ps, Pr (n : Int) q) (h8 : n ≤ 8) {x : Int} {g : Nat} (per : Per ps x g) (r : Rch ps x x) : g ≤ 10 := by
  obtain ⟨k, wk⟩ := rch_wk r
  have bx := (Rch.bound hP r).1
  cases wk with
  | @more _ _ j _ w e =>
    obtain ⟨m, hm, wm⟩ := wk_short hP bx w
    have := Nat.le_of_dvd (by omega) (per.all (m + 1) (.more wm e))
    omega
section
variable {P : Program} {w : World} {K : PySem.W.Frag} {mg : Str → Option Value} {base : Heap}
/-! ### _law_axis_classes -/
abbrev nLAx : List Str := ["_law_own", "_law_part", "_law_known", "_law_first"]
def spLAx (K : PySem.W.Frag) : Sp := fun vs H Q _ => ∃ (R a kn : Addr) (ns p : List Int) (ps : List (List Int)), vs = [.ref R, .ref a, .ref kn] ∧ OwnH K H R ns ps ∧ p ∈ partsOf ps ns.length ∧ SqT K H a (p.map V.int) ∧ Known H kn ps ns.length p ∧ 0 < perN ps (hd0 p) ∧ perN ps (hd0 p) ≤ 100 ∧
  ∀ (H' : Hp) (l : Addr) (zs : List Int), Same H H' → H l = none → H' l = some (.lst (zs.map V.int)) → zs.Pairwise (· < ·) → (∀ z, z ∈ zs ↔ AxC ns ps p z) → Q (.ref l) H'
/-! ### _law_axis_class -/
abbrev nL1 : List Str := ["_law_known", "_law_marks", "_law_s", "_law_goes", "_law_kinds_here"]
def spL1 (K : PySem.W.Frag) : Sp := fun vs H Q _ => ∃ (kn b : Addr) (sx m : Int) (N : Nat) (p ms : List Int) (ps : List (List Int)), vs = [.ref kn, .ref b, .int sx] ∧ Known H kn ps N p ∧ p ∈ partsOf ps N ∧ 0 < perN ps (hd0 p) ∧ SqT K H b (ms.map V.int) ∧ 0 ≤ sx ∧ ms[(sx / 2).toNat]? = some m ∧ m ∈ p ∧
  Q (.int (2 * ((clsM ps N m : Nat) : Int) + sx % 2)) H
end
end K44
set_option maxHeartbeats 4000000
/-! all rows of a part, gone through in their order; the first that closes -/
namespace RV
open PyProof.Rows
theorem lst_la (r : List Int) : lst0 r = la r := by
  unfold lst0 la
  cases r with
  | nil => rfl
  | cons x r => simp [List.getLastD, List.getLast?]
theorem lex_app : ∀ {r s : List Int} (x y : List Int), r.length = s.length → HT.lexLt r s = true → HT.lexLt (r ++ x) (s ++ y) = true
  | [], [], x, y, _, h => by cases h
  | a :: r, b :: s, x, y, hl, h => by
    rw [List.cons_append, List.cons_append, HT.lexLt_cons]
    rw [HT.lexLt_cons] at h
    by_cases e : a = b
    · rw [if_pos e] at h ⊢
      exact lex_app x y (Nat.succ.inj hl) h
    · rw [if_neg e] at h ⊢
      exact h
theorem lex_pre : ∀ (r x y : List Int), HT.lexLt (r ++ x) (r ++ y) = HT.lexLt x y
  | [], x, y => rfl
  | a :: r, x, y => by rw [List.cons_append, List.cons_append, HT.lexLt_cons, if_pos rfl, lex_pre r x y]
theorem lex_hd {r s : List Int} (hr : r ≠ []) (hs : s ≠ []) (h : HT.lexLt r s = true) : hd0 r ≤ hd0 s := by
  cases r with
  | nil => exact absurd rfl hr
  | cons a r =>
    cases s with
    | nil => exact absurd rfl hs
    | cons b s =>
      rw [HT.lexLt_cons] at h
      show a ≤ b
      by_cases e : a = b
      · omega
      · rw [if_neg e] at h
        exact Int.le_of_lt (of_decide_eq_true h)
section
variable {ps : List (List Int)} {p : List Int}
theorem rows_lng : ∀ (m : Nat) (r : List Int), r ∈ rowsN ps p m → r.length = m + 1
  | 0, r, hr => by obtain ⟨x, _, rfl⟩ := List.mem_map.mp hr; rfl
  | m + 1, r, hr => by
    obtain ⟨l', hl', hr'⟩ := List.mem_flatten.mp hr
    obtain ⟨r', hr'', rfl⟩ := List.mem_map.mp hl'
    obtain ⟨b, _, rfl⟩ := List.mem_map.mp hr'
    rw [List.length_append, rows_lng m r' hr'']; rfl
theorem rows_rise (hp : p.Pairwise (· < ·)) : ∀ m, (rowsN ps p m).Pairwise fun r s => HT.lexLt r s = true
  | 0 => by
    refine List.pairwise_map.mpr (hp.imp fun {a b} h => ?_)
    rw [HT.lexLt_cons, if_neg (by omega)]
    exact decide_eq_true h
  | m + 1 => by
    have ih := rows_rise hp m
    show (longer ps p (rowsN ps p m)).Pairwise _
    unfold longer
    rw [List.pairwise_flatten]
    constructor
    · intro l hl
      obtain ⟨r, hr, rfl⟩ := List.mem_map.mp hl
      refine List.pairwise_map.mpr ((hp.filter _).imp fun {a b} h => ?_)
      rw [lex_pre, HT.lexLt_cons, if_neg (by omega)]
      exact decide_eq_true h
    · refine List.pairwise_map.mpr (ih.imp_of_mem fun {r s} hr hs h x hx y hy => ?_)
      obtain ⟨a, _, rfl⟩ := List.mem_map.mp hx
      obtain ⟨b, _, rfl⟩ := List.mem_map.mp hy
      exact lex_app _ _ ((rows_lng m r hr).trans (rows_lng m s hs).symm) h
variable {bh : Int → List Int}
theorem mem_rows (hb : ∀ x y : Int, y ∈ bh x ↔ [x, y] ∈ ps) : ∀ {m : Nat} {r : List Int}, r ∈ rowsN ps p m ↔ (∃ a o, WkL bh m a o r) ∧ ∀ x ∈ r, x ∈ p
  | 0, r => by
    show r ∈ p.map (fun m => [m]) ↔ _
    rw [List.mem_map]
    constructor
    · rintro ⟨a, h, rfl⟩
      exact ⟨⟨a, a, rfl, rfl⟩, fun x hx => by rw [List.mem_singleton.mp hx]; exact h⟩
    · rintro ⟨⟨a, o, h1, h2⟩, h3⟩
      exact ⟨a, h3 a (by rw [h1]; exact List.mem_singleton.mpr rfl), h1.symm⟩
  | m + 1, r => by
    show r ∈ longer ps p (rowsN ps p m) ↔ _
    unfold longer
    rw [List.mem_flatten]
    constructor
    · rintro ⟨l, hl, hr⟩
      obtain ⟨s, hs, rfl⟩ := List.mem_map.mp hl
      obtain ⟨b, hb1, rfl⟩ := List.mem_map.mp hr
      obtain ⟨b1, b2⟩ := List.mem_filter.mp hb1
      obtain ⟨⟨a, o, wk⟩, inp⟩ := (mem_rows hb).mp hs
      have b2 := of_decide_eq_true b2
      rw [lst_la, wk.la] at b2
      refine ⟨⟨a, b, wk.snoc ((hb o b).mpr b2)⟩, fun x hx => ?_⟩
      rcases List.mem_append.mp hx with z | z
      · exact inp x z
      · rw [List.mem_singleton.mp z]; exact b1
    · rintro ⟨⟨a, d, wk⟩, inp⟩
      obtain ⟨o, v, k1, k2, rfl⟩ := wk.unsnoc
      refine ⟨_, List.mem_map.mpr ⟨v, (mem_rows hb).mpr ⟨⟨a, o, k1⟩, fun x hx => inp x (List.mem_append_left _ hx)⟩, rfl⟩, List.mem_map.mpr ⟨d, List.mem_filter.mpr ⟨inp d (List.mem_append_right _ (List.mem_singleton.mpr rfl)), decide_eq_true ?_⟩, rfl⟩⟩
      rw [lst_la, k1.la]
      exact (hb o d).mp k2
end
end RV
set_option maxHeartbeats 4000000
namespace K44
open PySem PySem.Spec PyProof.Rows L2 RV
/-- whether the marks as a ring are mirrored at s, place by place -/
def mirB (ns ms : List Int) (s : Int) : Bool := ((upN ms.length).map fun p => decide (ms.getD ((s - p) % (ms.length : Int)).toNat 0 = ns.getD (ms.getD p.toNat 0).toNat 0)).all id
theorem getD_in {ms : List Int} {k : Nat} (h : k < ms.length) : ms.getD k 0 ∈ ms := by
  simp [List.getD, h]
theorem mod_is {a r n q : Int} (h0 : 0 ≤ r) (h1 : r < n) (e : a = r + n * q) : a % n = r := by rw [e, Int.add_mul_emod_self_left, Int.emod_eq_of_lt h0 h1]
/-! ### marks as a ring, place by place -/
def at_ (ms : List Int) (i : Int) : Int := ms.getD (i % (ms.length : Int)).toNat 0
theorem at_mod {ms : List Int} {i j : Int} (h : i % (ms.length : Int) = j % (ms.length : Int)) : at_ ms i = at_ ms j := by unfold at_; rw [h]
theorem at_small {ms : List Int} {k : Nat} (h : k < ms.length) : at_ ms (k : Int) = ms.getD k 0 := by
  unfold at_
  rw [Int.emod_eq_of_lt (by omega) (by omega), Int.toNat_natCast]
theorem at_ext {xs ys : List Int} (hl : xs.length = ys.length) (h : ∀ i : Int, at_ xs i = at_ ys i) : xs = ys := by
  refine List.ext_getElem hl fun i h1 h2 => ?_
  have z := h (i : Int)
  rw [at_small h1, at_small h2] at z
  simpa [List.getD, h1, h2] using z
theorem at_mem {ms : List Int} (h : 0 < ms.length) (i : Int) : at_ ms i ∈ ms := by
  unfold at_
  have z0 := Int.emod_nonneg i (show (ms.length : Int) ≠ 0 by omega)
  have z1 := Int.emod_lt_of_pos i (show (0 : Int) < (ms.length : Int) by omega)
  exact getD_in (by omega)
theorem getD_app (xs ys : List Int) (k : Nat) : (xs ++ ys).getD k 0 = if k < xs.length then xs.getD k 0 else ys.getD (k - xs.length) 0 := by
  by_cases h : k < xs.length
  · rw [if_pos h]; simp [List.getD, List.getElem?_append_left h]
  · rw [if_neg h]; simp [List.getD, List.getElem?_append_right (Nat.le_of_not_lt h)]
theorem getD_dr (xs : List Int) (a k : Nat) : (xs.drop a).getD k 0 = xs.getD (a + k) 0 := by simp [List.getD, List.getElem?_drop]
theorem getD_tk (xs : List Int) (a k : Nat) (h : k < a) : (xs.take a).getD k 0 = xs.getD k 0 := by simp [List.getD, List.getElem?_take, h]
theorem mir_iff {ns ms : List Int} (h0 : 0 < ms.length) (s : Int) : mirB ns ms s = true ↔ ∀ p : Int, at_ ms (s - p) = ns.getD (at_ ms p).toNat 0 := by
  have hn : (ms.length : Int) ≠ 0 := by omega
  have hp : (0 : Int) < (ms.length : Int) := by omega
  unfold mirB
  rw [List.all_map, List.all_eq_true]
  constructor
  · intro h p
    have a0 := Int.emod_nonneg p hn
    have a1 := Int.emod_lt_of_pos p hp
    have z := of_decide_eq_true (h (p % (ms.length : Int)) (mem_upN.mpr ⟨a0, a1⟩))
    have e : (s - p % (ms.length : Int)) % (ms.length : Int) = (s - p) % (ms.length : Int) := by rw [Int.sub_emod, Int.emod_emod, ← Int.sub_emod]
    rw [e] at z
    exact z
  · intro h p hpm
    obtain ⟨a0, a1⟩ := mem_upN.mp hpm
    have z := h p
    have e : at_ ms p = ms.getD p.toNat 0 := by unfold at_; rw [Int.emod_eq_of_lt a0 a1]
    rw [e] at z
    exact decide_eq_true z
theorem at_add {ms : List Int} (i k : Int) : at_ ms (i + (ms.length : Int) * k) = at_ ms i := at_mod (by rw [Int.add_mul_emod_self_left])
theorem mir_add {ns ms : List Int} (h0 : 0 < ms.length) {s s' k : Int} (e : s' = s + (ms.length : Int) * k) : mirB ns ms s' = mirB ns ms s := by
  rw [Bool.eq_iff_iff, mir_iff h0, mir_iff h0]
  refine forall_congr' fun p => ?_
  rw [e, show s + (ms.length : Int) * k - p = (s - p) + (ms.length : Int) * k by omega, at_add]
/-! ### rings and their axes -/
theorem own_of {ns : List Int} {ps : List (List Int)} (M : Mir ns) (S : Stp ns ps) {p : List Int} (hp : p ∈ partsOf ps ns.length) {x : Int} (hx : x ∈ p) (hmx : mirI ns x ∈ p) : Own ns p := fun y hy => by
  have bx := part_bd hp hx
  have by_ := part_bd hp hy
  have z := lot_mirror M S bx.1 (mirI_get bx.1 bx.2) (mirI_get by_.1 by_.2) (by rw [part_lot hp hx]; exact hy)
  rw [part_lot hp hmx] at z
  exact z
theorem wk_at {bh : Int → List Int} {o : Int} : ∀ {k : Nat} {a : Int} {w : List Int}, WkL bh k a o w → ∀ i, i < k → w.getD (i + 1) 0 ∈ bh (w.getD i 0)
  | 0, a, w, h, i, hi => absurd hi (Nat.not_lt_zero _)
  | k + 1, a, w, h, i, hi => by
    obtain ⟨c, w', rfl, h1, h2⟩ := h
    cases i with
    | zero =>
      obtain ⟨v, rfl⟩ := h2.head
      exact h1
    | succ i => exact wk_at h2 i (by omega)
theorem ring_step {ps : List (List Int)} {N : Nat} (hP : ∀ q ∈ ps, Pr (N : Int) q) {p : List Int} {k : Nat} {r : List Int} (h : r ∈ (rowsN ps p k).filter fun r => decide ([lst0 r, hd0 r] ∈ ps)) : r.length = k + 1 ∧ (∀ x ∈ r, x ∈ p) ∧ ∀ i : Int, [at_ r i, at_ r (i + 1)] ∈ ps := by
  have hb : ∀ x y : Int, y ∈ behindOf ps x ↔ [x, y] ∈ ps := fun x y => mem_behind hP
  obtain ⟨h1, h2⟩ := List.mem_filter.mp h
  have cl := of_decide_eq_true h2
  obtain ⟨⟨a, o, wk⟩, inp⟩ := (mem_rows hb).mp h1
  have ln := wk.len
  refine ⟨ln, inp, fun i => ?_⟩
  have hp : (0 : Int) < (r.length : Int) := by omega
  have a0 := Int.emod_nonneg i (show (r.length : Int) ≠ 0 by omega)
  have a1 := Int.emod_lt_of_pos i hp
  have e : (i + 1) % (r.length : Int) = (i % (r.length : Int) + 1) % (r.length : Int) := by rw [Int.emod_add_emod]
  unfold at_
  rw [e]
  generalize i % (r.length : Int) = x at a0 a1
  by_cases hx : x + 1 < (r.length : Int)
  · rw [Int.emod_eq_of_lt (by omega) hx, show (x + 1).toNat = x.toNat + 1 by omega]
    exact (hb _ _).mp (wk_at wk x.toNat (by omega))
  · have ex : x + 1 = (r.length : Int) := by omega
    rw [ex, Int.emod_self]
    have e1 : r.getD x.toNat 0 = lst0 r := by
      have : x.toNat = r.length - 1 := by omega
      rw [this]
      unfold lst0
      obtain ⟨r', y, rfl⟩ : ∃ r' y, r = r' ++ [y] := ⟨r.dropLast, r.getLast (fun z => by rw [z] at ln; cases ln), (List.dropLast_concat_getLast _).symm⟩
      simp [List.getD]
    have e2 : r.getD (0 : Int).toNat 0 = hd0 r := by
      unfold hd0
      cases r with
      | nil => rfl
      | cons y r => rfl
    rw [e1, e2]
    exact cl
end K44
set_option maxHeartbeats 4000000
namespace K44
open PySem PySem.Spec PyProof.Rows L2 RV
theorem behind_inn {ns : List Int} {ps : List (List Int)} (S : Stp ns ps) (m : Int) : ∀ c ∈ behindOf ps m, 0 ≤ c ∧ c < (ns.length : Int) := fun c hc => by
  have z := (mem_behind (n := (ns.length : Int)) S.pair).mp hc
  obtain ⟨x, y, e, _, h⟩ := S.pair _ z
  cases e
  exact h
section
variable {P : Program} {w : World} {K : PySem.W.Frag} {mg : Str → Option Value} {base : Heap}
/-! ### ends_behind -/
abbrev nEB : List Str := ["first", "second", "row", "mark", "end"]
theorem scEB : FnScope nEB ["first", "second"] (defScope sEndsBehind) := ⟨rfl, rfl, rfl, by decide +kernel, rfl, by decide +kernel, by decide +kernel⟩
def spEB (K : PySem.W.Frag) : Sp := fun vs H Q _ => ∃ (a b : Addr) (N : Nat) (f g : Int → Int → Prop), vs = [.ref a, .ref b] ∧ N ≤ 8 ∧ Tab K H a N f ∧ Tab K H b N g ∧
  ∀ (H' : Hp) (t : Addr), Same H H' → Tab K H' t N (fun i x => ∃ c, f i c ∧ g c x) → Q (.ref t) H'
theorem ok_eb {f : Addr} {fd : FuncData} (F : Fun K "ends_behind" "ends_behind" sEndsBehind f fd) (B : Bare mg) : FnOk P w K mg base CX0 1 f fd ["first", "second"] (spEB K) := by
  refine F.ok scEB (fun vs H Q E h => ?_) (fun cdv A outer s H vs Q E hr h => ?_)
  · obtain ⟨a, b, N, f, g, rfl, _⟩ := h
    rfl
  · obtain ⟨a, b, N, f, g, rfl, n8, hA, hB, q⟩ := h
    refine ⟨_, pss_one (ps_ret (pe_tupleOf (by rfl) B.tuple
      (pe_lc (own := [("row", 2)]) (g := gName 2) (tt := tYes) rfl scEB.nd (pi_tup (pv 0)) (blkOk_by (N := nEB) (sc := defScope sEndsBehind) (by decide +kernel)) (fun _ _ _ _ _ => pg_name (i := 2) scEB.nd rfl (Or.inl rfl)) (fun _ _ _ _ _ => pts_nil)
        (fun _ _ _ _ _ => pe_tupleOfK (K := K) rfl (by rfl) B.tuple (pe_callB (cr_sortedSetW (w := w) rfl rfl) (by rfl) B.sorted (by decide +kernel) (pa_cons
          (pe_sc2W (w := w) (own := [("mark", 3), ("end", 4)]) (vs1 := [4]) (g := gName 3) (g1 := gName 4) rfl rfl scEB.nd (pi_tupK (K := K) rfl (pv 2)) (blkOk_by (N := nEB) (by rfl)) (by decide)
            (fun _ _ _ _ _ => pg_name (i := 3) scEB.nd rfl (Or.inl rfl)) (fun _ _ _ _ _ => pi_tupK (K := K) rfl (pe_ix (ix_tupK (K := K) rfl) (pv 1) (pv 3) (fun _ _ => rfl))) (fun _ _ _ _ _ => pg_name (i := 4) scEB.nd rfl (Or.inl rfl)) (fun _ _ _ _ _ => pv 4)) pa_nil)))))), ?_⟩
    obtain ⟨as, h1, h2, h3⟩ := hA
    have two : (2 : Nat) ≤ sizeLine := by decide
    refine ⟨.ref a, rfl, a, rfl, ⟨_, h1⟩, fun D nD => ?_⟩
    refine lc_tup (K := K) (a := a) (xs := as.map V.ref) (fun i H' => Same H H' ∧ ∃ bs : List Addr, bs.length = i ∧ H' D = some (.lst (bs.map V.ref)) ∧ ∀ (j : Nat) (c : Addr), bs[j]? = some c → ∃ xs : List Int, SqT K H' c (xs.map V.int) ∧ xs.Pairwise (· < ·) ∧ (∀ x ∈ xs, 0 ≤ x ∧ x < (N : Int)) ∧ ∀ x, x ∈ xs ↔ ∃ c, f (j : Int) c ∧ g c x)
      ⟨same_upd nD, [], rfl, upd_same, fun _ _ z => nomatch z⟩ (fun i H' _ p => sqT_same p.1 h1) (fun i x H1 hx p => ?_) fun H1 p => ?_
    · obtain ⟨r, gr, rfl⟩ := map_at hx
      obtain ⟨s1, bs, lb, eD, hbs⟩ := p
      obtain ⟨xs, z1, z2, z3, z4⟩ := h3 i r gr
      have hi : i < N := by rw [← h2]; exact (List.getElem?_eq_some_iff.mp gr).1
      have B1 := hB.same s1
      have zr := sqT_same s1 z1
      have lx : xs.length ≤ 8 := Nat.le_trans (few_below (rise_nodup z2) z3) n8
      refine ⟨by simp [wipe, List.set_set], tt_yes ⟨.ref r, rfl, r, rfl, ⟨_, zr⟩, fun D2 nD2 => ?_⟩⟩
      refine it_tup (xs := xs.map V.int) (fun k H' => Same H1 H' ∧ ∃ ls, SetL w H' D2 ls ∧ ∀ y, y ∈ ls ↔ ∃ c ∈ xs.take k, g c y) ⟨same_upd nD2, [], SetL.nil, fun y => by simp⟩ (fun k H' _ p => sqT_same p.1 zr) (fun k v H2 hv p => ?_) fun H2 p => ?_
      · obtain ⟨m, gm, rfl⟩ := map_at hv
        obtain ⟨s2, ls, hL, mL⟩ := p
        have hm := List.mem_of_getElem? gm
        obtain ⟨vs, rr, ys, k1, k2, k3, k4, k5, k6⟩ := (B1.same s2).at (z3 m hm).1 (z3 m hm).2
        have ly : ys.length ≤ 8 := Nat.le_trans (few_below (rise_nodup k4) k5) n8
        refine ⟨rfl, .ref b, rfl, .int m, rfl, b, vs, m, .ref rr, rfl, rfl, k1, k2, rr, rfl, ⟨_, k3⟩, ?_⟩
        refine it_tup (xs := ys.map V.int) (fun j H' => Same H1 H' ∧ SqT K H' rr (ys.map V.int) ∧ ∃ ls, SetL w H' D2 ls ∧ ∀ y, y ∈ ls ↔ (∃ c ∈ xs.take k, g c y) ∨ y ∈ ys.take j) ⟨s2, k3, ls, hL, fun y => by rw [mL y]; simp⟩ (fun j H' _ p => p.2.1) (fun j v H3 hv p => ?_) fun H3 p => ?_
        · obtain ⟨e, ge, rfl⟩ := map_at hv
          obtain ⟨s3, k3', ls3, hL3, mL3⟩ := p
          have l3 : ls3.length ≤ N := few_below (by obtain ⟨_, _, z, _⟩ := hL3; exact z) fun y hy => by
            rcases (mL3 y).mp hy with ⟨c, c1, c2⟩ | c
            · have hc := z3 c (List.mem_of_mem_take c1)
              obtain ⟨_, _, ys', _, _, _, _, k5', k6'⟩ := hB.at hc.1 hc.2
              exact k5' y ((k6' y).mpr c2)
            · exact k5 y (List.mem_of_mem_take c)
          obtain ⟨S, n, e1, e2, ls4, hL4, mL4⟩ := hL3.add e (by omega)
          refine ⟨rfl, .int e, rfl, e, S, n, rfl, e1, e2, fun b' o z => ?_, ?_, ls4, hL4, fun y => ?_⟩
          · rw [upd_ne (ne_of_none z nD2)]; exact s3 b' o z
          · exact sqT_set e1 k3'
          · rw [mL4 y, mL3 y, List.take_add_one, ge, List.mem_append, or_assoc]
            simp
        · obtain ⟨s3, k3', ls3, hL3, mL3⟩ := p
          rw [List.length_map, List.take_of_length_le (Nat.le_refl _)] at mL3
          refine ⟨s3, ls3, hL3, fun y => ?_⟩
          rw [mL3 y, List.take_add_one, gm, k6 y]
          constructor
          · rintro (⟨c, c1, c2⟩ | c)
            · exact ⟨c, List.mem_append_left _ c1, c2⟩
            · exact ⟨m, List.mem_append_right _ (List.mem_singleton.mpr rfl), c⟩
          · rintro ⟨c, c1, c2⟩
            rcases List.mem_append.mp c1 with c1 | c1
            · exact .inl ⟨c, c1, c2⟩
            · exact .inr (List.mem_singleton.mp c1 ▸ c2)
      · obtain ⟨s2, ls, hL, mL⟩ := p
        rw [List.length_map, List.take_of_length_le (Nat.le_refl _)] at mL
        have inn : ∀ y ∈ ls, 0 ≤ y ∧ y < (N : Int) := fun y hy => by
          obtain ⟨c, c1, c2⟩ := (mL y).mp hy
          obtain ⟨_, _, ys', _, _, _, _, k5', k6'⟩ := hB.at (z3 c c1).1 (z3 c c1).2
          exact k5' y ((k6' y).mpr c2)
        obtain ⟨S, e1, nd, mS⟩ := hL
        have ll := few_below nd inn
        refine ⟨D2, S, ls.length, rfl, e1, by omega, fun zs p rise mem len np => ?_⟩
        have sp := same_upd (o := .lst (zs.map V.int)) np
        refine .inl ⟨p, _, rfl, lstNew upd_same, fun t nt => ?_⟩
        have st := same_upd (o := .tup (zs.map V.int)) nt
        have s3 := (s2.trans sp).trans st
        have eD3 := s3 _ _ eD
        refine ⟨_, eD3, by rw [List.length_map, lb]; exact few1 (by omega), fun b' o z => ?_, bs ++ [t], by rw [List.length_append, lb]; rfl, by rw [upd_same, List.map_append]; rfl, fun j c hc => ?_⟩
        · rw [upd_ne (ne_of_none z nD)]; exact s3 _ _ (s1 b' o z)
        rcases Nat.lt_or_ge j bs.length with z | z
        · rw [List.getElem?_append_left z] at hc
          obtain ⟨us, u1, u2⟩ := hbs j c hc
          exact ⟨us, sqT_lst eD3 (sqT_same s3 u1), u2⟩
        · rw [List.getElem?_append_right z] at hc
          have ej : j = i := by
            have := (List.getElem?_eq_some_iff.mp hc).1
            simp at this
            omega
          rw [lb, ej, Nat.sub_self] at hc
          cases hc
          refine ⟨zs, sqT_lst eD3 (tupNew upd_same), rise, fun y hy => inn y ((mS y).mp ((mem y).mp hy)), fun y => ?_⟩
          rw [mem y, mS y, mL y, ej]
          exact exists_congr fun c => and_congr (z4 c) Iff.rfl
    · obtain ⟨s1, bs, lb, eD, hbs⟩ := p
      rw [List.length_map, h2] at lb
      refine .inl ⟨D, _, rfl, lstNew eD, fun t nt => ?_⟩
      have st := same_upd (o := .tup (bs.map V.ref)) nt
      exact q _ t (s1.trans st) ⟨bs, tupNew upd_same, lb, fun j c hc => (hbs j c hc).imp fun us u => ⟨sqT_same st u.1, u.2⟩⟩
end
end K44
set_option maxHeartbeats 4000000
namespace K44
open PySem PySem.Spec PyProof.Rows L2 RV
/-- the one pair ahead of the other -/
def pLt (p q : List Int) : Prop := p.getD 0 0 < q.getD 0 0 ∨ (p.getD 0 0 = q.getD 0 0 ∧ p.getD 1 0 < q.getD 1 0)
theorem pLt_of {a b c d : Int} (h : HT.lexLt [a, b] [c, d] = true) : pLt [a, b] [c, d] := by
  rw [HT.lexLt_cons] at h
  by_cases e : a = c
  · rw [if_pos e, HT.lexLt_cons] at h
    refine .inr ⟨e, ?_⟩
    by_cases e2 : b = d
    · rw [if_pos e2] at h; cases h
    · rw [if_neg e2] at h; exact of_decide_eq_true h
  · rw [if_neg e] at h; exact .inl (of_decide_eq_true h)
theorem pLt_all : ∀ {ps : List (List Int)}, (∀ p ∈ ps, ∃ x y : Int, p = [x, y]) → (∀ (i : Nat) (p q : List Int), ps[i]? = some p → ps[i + 1]? = some q → HT.lexLt p q = true) → ps.Pairwise pLt
  | [], _, _ => List.Pairwise.nil
  | [p], _, _ => List.pairwise_singleton _ _
  | p :: q :: r, h, hr => by
    have ih := pLt_all (ps := q :: r) (fun x hx => h x (List.mem_cons_of_mem _ hx)) fun i x y h1 h2 => hr (i + 1) x y h1 h2
    obtain ⟨a, b, rfl⟩ := h p List.mem_cons_self
    obtain ⟨c, d, rfl⟩ := h q (List.mem_cons_of_mem _ List.mem_cons_self)
    have h0 := pLt_of (hr 0 _ _ rfl rfl)
    refine List.pairwise_cons.mpr ⟨fun x hx => ?_, ih⟩
    rcases List.mem_cons.mp hx with rfl | hx
    · exact h0
    · have h1 := (List.pairwise_cons.mp ih).1 x hx
      unfold pLt at h0 h1 ⊢
      omega
theorem behind_rise {ns : List Int} {ps : List (List Int)} (S : Stp ns ps) (m : Int) : (behindOf ps m).Pairwise (· < ·) := by
  have h := pLt_all (fun p hp => by obtain ⟨x, y, e, _⟩ := S.pair p hp; exact ⟨x, y, e⟩) S.rise
  unfold behindOf
  rw [List.pairwise_map]
  refine (List.pairwise_filter.mpr (h.imp fun {p q} z hp hq => ?_))
  have e1 := of_decide_eq_true hp
  have e2 := of_decide_eq_true hq
  unfold pLt at z
  omega
section
variable {P : Program} {w : World} {K : PySem.W.Frag} {mg : Str → Option Value} {base : Heap}
/-- the tables that a comprehension over the marks makes -/
def TabL (K : PySem.W.Frag) (H : Hp) (D : Addr) (N i : Nat) (f : Int → Int → Prop) : Prop := ∃ bs : List Addr, bs.length = i ∧ H D = some (.lst (bs.map V.ref)) ∧ ∀ (j : Nat) (c : Addr), bs[j]? = some c → ∃ xs : List Int, SqT K H c (xs.map V.int) ∧ xs.Pairwise (· < ·) ∧ (∀ x ∈ xs, 0 ≤ x ∧ x < (N : Int)) ∧ ∀ x, x ∈ xs ↔ f (j : Int) x
theorem TabL.add {H : Hp} {D t : Addr} {N i : Nat} {f : Int → Int → Prop} {xs : List Int} {bs : List Addr} (lb : bs.length = i) (eD : H D = some (.lst (bs.map V.ref))) (hb : ∀ (j : Nat) (c : Addr), bs[j]? = some c → ∃ xs : List Int, SqT K H c (xs.map V.int) ∧ xs.Pairwise (· < ·) ∧ (∀ x ∈ xs, 0 ≤ x ∧ x < (N : Int)) ∧ ∀ x, x ∈ xs ↔ f (j : Int) x)
    (h1 : SqT K H t (xs.map V.int)) (h2 : xs.Pairwise (· < ·)) (h3 : ∀ x ∈ xs, 0 ≤ x ∧ x < (N : Int)) (h4 : ∀ x, x ∈ xs ↔ f (i : Int) x) : TabL K (upd H D (.lst (bs.map V.ref ++ [.ref t]))) D N (i + 1) f := by
  refine ⟨bs ++ [t], by rw [List.length_append, lb]; rfl, by rw [upd_same, List.map_append]; rfl, fun j c hc => ?_⟩
  rcases Nat.lt_or_ge j bs.length with z | z
  · rw [List.getElem?_append_left z] at hc
    obtain ⟨us, u1, u2⟩ := hb j c hc
    exact ⟨us, sqT_lst eD u1, u2⟩
  · rw [List.getElem?_append_right z] at hc
    have ej : j = i := by
      have := (List.getElem?_eq_some_iff.mp hc).1
      simp at this
      omega
    rw [lb, ej, Nat.sub_self] at hc
    cases hc
    exact ⟨xs, sqT_lst eD h1, h2, h3, fun x => by rw [ej]; exact h4 x⟩
theorem TabL.same {H H' : Hp} {D : Addr} {N i : Nat} {f : Int → Int → Prop} (h : TabL K H D N i f) (s : Same H H') : TabL K H' D N i f := by
  obtain ⟨bs, h1, h2, h3⟩ := h
  exact ⟨bs, h1, s _ _ h2, fun j c hc => (h3 j c hc).imp fun us u => ⟨sqT_same s u.1, u.2⟩⟩
/-! ### ends_at_once -/
theorem scOnce : FnScope ["rule", "mark"] ["rule"] (defScope sAtOnce) := ⟨rfl, rfl, rfl, by decide +kernel, rfl, by decide +kernel, by decide +kernel⟩
def spTab (K : PySem.W.Frag) (C : Addr) (k : Nat) : Sp := fun vs H Q _ => ∃ (r : Addr) (ns : List Int) (ps : List (List Int)), vs = [.ref r] ∧ RuleAt K C H r ns ps ∧ Stp ns ps ∧ ns.length ≤ 8 ∧
  ∀ (H' : Hp) (t : Addr), Same H H' → Tab K H' t ns.length (lk (behindOf ps) k) → Q (.ref t) H'
theorem ok_once {f C fM : Addr} {fd dM : FuncData} (F : Fun K "ends_at_once" "ends_at_once" sAtOnce f fd) (T : Txt K mg C) (B : Bare mg) (FM : Fun K "marks" "Rule.marks" sMarksM fM dM) (bM : Binds K dM ["self"] []) (mM : Meth K C "marks" fM) : FnOk P w K mg base CX0 2 f fd ["rule"] (spTab K C 0) := by
  have GM : FnOk P w K mg base CX0 1 fM dM ["self"] (spMarksM K C) := ok_marksM FM T B
  refine F.ok scOnce (fun vs H Q E h => ?_) (fun cdv A outer s H vs Q E hr h => ?_)
  · obtain ⟨r, ns, ps, rfl, _⟩ := h
    rfl
  · obtain ⟨r, ns, ps, rfl, R, S, n8, q⟩ := h
    have one : (1 : Nat) ≤ sizeLine := by decide
    refine ⟨_, pss_one (ps_ret (pe_tupleOf (by rfl) B.tuple
      (pe_lc (own := [("mark", 1)]) (g := gName 1) (tt := tYes) rfl scOnce.nd (pi_range1 (by rfl) B.range (pa_cons (pe_meth0 (pv 0) T.cl mM GM hr bM .nil pass0) pa_nil)) (blkOk_by (N := ["rule", "mark"]) (sc := defScope sAtOnce) (by decide +kernel)) (fun _ _ _ _ _ => pg_name (i := 1) scOnce.nd rfl (Or.inl rfl)) (fun _ _ _ _ _ => pts_nil)
        (fun _ _ _ _ _ => pe_tup (pa_cons (pv 1) pa_nil))))), ?_⟩
    obtain ⟨dx, a0, b0, t0, g1, g2, g3, g4⟩ := R.ex
    have fno := flds_no a0 b0 t0 (m := "marks") (by decide +kernel) (by decide +kernel) (by decide +kernel)
    refine ⟨.ref r, rfl, r, dx, _, rfl, g1, fno, r, ns, ps, rfl, R, (ns.length : Int), rfl, by omega, by omega, fun D nD => ?_⟩
    rw [Int.toNat_natCast]
    refine lc_range (lo := 0) (n := ns.length) (fun i H' => Same H H' ∧ TabL K H' D ns.length i (lk (behindOf ps) 0)) ⟨same_upd nD, [], rfl, upd_same, fun _ _ z => nomatch z⟩ (fun i H1 hi p => ?_) fun H1 p => ?_
    · obtain ⟨s1, bs, lb, eD, hb⟩ := p
      refine ⟨by simp [wipe, List.set_set], tt_yes ⟨.int (0 + (i : Int)), rfl, one, fun t nt => ?_⟩⟩
      have st := same_upd (o := .tup [.int (0 + (i : Int))]) nt
      have e0 : (0 + (i : Int)) = (i : Int) := by omega
      refine ⟨_, st _ _ eD, by rw [List.length_map, lb]; exact few1 (by omega), fun b' o z => ?_, TabL.add (xs := [(i : Int)]) lb (st _ _ eD) (fun j c hc => (hb j c hc).imp fun us u => ⟨sqT_same st u.1, u.2⟩) (tupNew (by rw [upd_same, e0]; rfl)) (List.pairwise_singleton _ _) (fun x hx => by rw [List.mem_singleton.mp hx]; omega) fun x => ?_⟩
      · rw [upd_ne (ne_of_none z nD)]; exact st _ _ (s1 b' o z)
      · rw [List.mem_singleton]; exact ⟨fun z => z.symm, fun z => z.symm⟩
    · obtain ⟨s1, bs, lb, eD, hb⟩ := p
      refine .inl ⟨D, _, rfl, lstNew eD, fun t nt => ?_⟩
      have st := same_upd (o := .tup (bs.map V.ref)) nt
      exact q _ t (s1.trans st) ⟨bs, tupNew upd_same, lb, fun j c hc => (hb j c hc).imp fun us u => ⟨sqT_same st u.1, u.2⟩⟩
/-! ### ends_of_steps -/
theorem scOfSt : FnScope ["rule", "mark"] ["rule"] (defScope sOfSteps) := ⟨rfl, rfl, rfl, by decide +kernel, rfl, by decide +kernel, by decide +kernel⟩
theorem ok_ofst {f C fM fB : Addr} {fd dM dB : FuncData} (F : Fun K "ends_of_steps" "ends_of_steps" sOfSteps f fd) (T : Txt K mg C) (B : Bare mg) (FB : Fun K "behind" "Rule.behind" sBehindM fB dB) (bB : Binds K dB ["self", "mark"] []) (mB : Meth K C "behind" fB) (FM : Fun K "marks" "Rule.marks" sMarksM fM dM) (bM : Binds K dM ["self"] []) (mM : Meth K C "marks" fM) : FnOk P w K mg base CX0 2 f fd ["rule"] (spTab K C 1) := by
  have GM : FnOk P w K mg base CX0 1 fM dM ["self"] (spMarksM K C) := ok_marksM FM T B
  have GB : FnOk P w K mg base CX0 1 fB dB ["self", "mark"] (spBehindM K C) := ok_behindM FB T
  refine F.ok scOfSt (fun vs H Q E h => ?_) (fun cdv A outer s H vs Q E hr h => ?_)
  · obtain ⟨r, ns, ps, rfl, _⟩ := h
    rfl
  · obtain ⟨r, ns, ps, rfl, R, S, n8, q⟩ := h
    refine ⟨_, pss_one (ps_ret (pe_tupleOf (by rfl) B.tuple
      (pe_lc (own := [("mark", 1)]) (g := gName 1) (tt := tYes) rfl scOfSt.nd (pi_range1 (by rfl) B.range (pa_cons (pe_meth0 (pv 0) T.cl mM GM hr bM .nil pass0) pa_nil)) (blkOk_by (N := ["rule", "mark"]) (sc := defScope sOfSteps) (by decide +kernel)) (fun _ _ _ _ _ => pg_name (i := 1) scOfSt.nd rfl (Or.inl rfl)) (fun _ _ _ _ _ => pts_nil)
        (fun _ _ _ _ _ => pe_meth (pv 0) T.cl mB GB hr bB .nil pass0 (pa_cons (pv 1) pa_nil))))), ?_⟩
    obtain ⟨dx, a0, b0, t0, g1, g2, g3, g4⟩ := R.ex
    have fno := flds_no a0 b0 t0 (m := "marks") (by decide +kernel) (by decide +kernel) (by decide +kernel)
    have fno2 := flds_no a0 b0 t0 (m := "behind") (by decide +kernel) (by decide +kernel) (by decide +kernel)
    refine ⟨.ref r, rfl, r, dx, _, rfl, g1, fno, r, ns, ps, rfl, R, (ns.length : Int), rfl, by omega, by omega, fun D nD => ?_⟩
    rw [Int.toNat_natCast]
    refine lc_range (lo := 0) (n := ns.length) (fun i H' => Same H H' ∧ TabL K H' D ns.length i (lk (behindOf ps) 1)) ⟨same_upd nD, [], rfl, upd_same, fun _ _ z => nomatch z⟩ (fun i H1 hi p => ?_) fun H1 p => ?_
    · obtain ⟨s1, bs, lb, eD, hb⟩ := p
      have e0 : (0 + (i : Int)) = (i : Int) := by omega
      rw [e0]
      refine ⟨by simp [wipe, List.set_set], tt_yes ⟨.ref r, rfl, r, dx, _, rfl, s1 _ _ g1, fno2, .int (i : Int), rfl, r, ns, ps, i, rfl, R.same s1, hi, fun c hc => ?_⟩⟩
      refine ⟨_, eD, by rw [List.length_map, lb]; exact few1 (by omega), fun b' o z => ?_, TabL.add lb eD hb hc (behind_rise S _) (behind_inn S _) fun x => lk_one.symm⟩
      rw [upd_ne (ne_of_none z nD)]; exact s1 b' o z
    · obtain ⟨s1, bs, lb, eD, hb⟩ := p
      refine .inl ⟨D, _, rfl, lstNew eD, fun t nt => ?_⟩
      have st := same_upd (o := .tup (bs.map V.ref)) nt
      exact q _ t (s1.trans st) ⟨bs, tupNew upd_same, lb, fun j c hc => (hb j c hc).imp fun us u => ⟨sqT_same st u.1, u.2⟩⟩
end
end K44
set_option maxHeartbeats 4000000
namespace K44
open PySem PySem.Spec PyProof.Rows L2 RV
section
variable {P : Program} {w : World} {K : PySem.W.Frag} {mg : Str → Option Value} {base : Heap}
/-! ### ends_of_walks -/
abbrev nOW : List Str := ["rule", "n", "found", "doubled"]
theorem scOW : FnScope nOW ["rule", "n"] (defScope sOfWalks) := ⟨rfl, rfl, rfl, by decide +kernel, rfl, by decide +kernel, by decide +kernel⟩
def spOW (K : PySem.W.Frag) (C : Addr) : Sp := fun vs H Q _ => ∃ (r : Addr) (n : Nat) (ns : List Int) (ps : List (List Int)), vs = [.ref r, .int (n : Int)] ∧ RuleAt K C H r ns ps ∧ Stp ns ps ∧ ns.length ≤ 8 ∧
  ∀ (H' : Hp) (t : Addr), Same H H' → Tab K H' t ns.length (lk (behindOf ps) n) → Q (.ref t) H'
theorem ok_ow {f C fO fS fE : Addr} {fd dO dS dE : FuncData} (F : Fun K "ends_of_walks" "ends_of_walks" sOfWalks f fd)
    (DO : DefAt K mg "ends_at_once" sAtOnce ["rule"] fO dO) (GO : FnOk P w K mg base CX0 2 fO dO ["rule"] (spTab K C 0)) (DS : DefAt K mg "ends_of_steps" sOfSteps ["rule"] fS dS) (GS : FnOk P w K mg base CX0 2 fS dS ["rule"] (spTab K C 1))
    (DE : DefAt K mg "ends_behind" sEndsBehind ["first", "second"] fE dE) (B : Bare mg) : FnOk P w K mg base CX0 3 f fd ["rule", "n"] (spOW K C) := by
  have GE : FnOk P w K mg base CX0 1 fE dE ["first", "second"] (spEB K) := ok_eb DE.fn B
  refine F.ok scOW (fun vs H Q E h => ?_) (fun cdv A outer s H vs Q E hr h => ?_)
  · obtain ⟨r, n, ns, ps, rfl, _⟩ := h
    rfl
  · obtain ⟨r, n, ns, ps, rfl, R, S, n8, q⟩ := h
    have r1 := hr.mono (show 1 ≤ 2 by decide)
    refine ⟨_, pss_cons (ps_set (i := 2) scOW.nd rfl (Or.inl rfl) (pe_call GO hr (by rfl) DO.mg DO.fn.kp DO.bi .nil pass0 (pa_cons (pv 0) pa_nil)))
      (pss_cons (ps_set (i := 3) scOW.nd rfl (Or.inl rfl) (pe_call GS hr (by rfl) DS.mg DS.fn.kp DS.bi .nil pass0 (pa_cons (pv 0) pa_nil)))
      (pss_cons (ps_while PassesOwn.never (pt_cmpR op_gt (pv 1) pe_int (nomark _))
        (pss_cons (ps_if (pt_cmpR op_eq (pe_op op_mod (pv 1) pe_int) pe_int (nomark _)) (pss_one (ps_set (i := 2) scOW.nd rfl (Or.inl rfl) (pe_call GE r1 (by rfl) DE.mg DE.fn.kp DE.bi .nil pass0 (pa_cons (pv 2) (pa_cons (pv 3) pa_nil))))) pss_nil)
        (pss_cons (ps_set (i := 3) scOW.nd rfl (Or.inl rfl) (pe_call GE r1 (by rfl) DE.mg DE.fn.kp DE.bi .nil pass0 (pa_cons (pv 3) (pa_cons (pv 3) pa_nil))))
        (pss_one (ps_aug (i := 1) scOW.nd rfl (.inl rfl) pe_int iop_fdiv)))))
      (pss_one (ps_ret (pv 2))))), ?_⟩
    refine ⟨.ref r, rfl, r, ns, ps, rfl, R, S, n8, fun H1 t1 s1 T1 => ?_⟩
    refine ⟨.ref r, rfl, r, ns, ps, rfl, R.same s1, S, n8, fun H2 t2 s2 T2 => ?_⟩
    have s02 := s1.trans s2
    refine ⟨fun m σ H' => ∃ (k j : Nat) (a b : Addr), σ = [some (.ref r), some (.int (m : Int)), some (.ref a), some (.ref b)] ∧ Same H H' ∧ Tab K H' a ns.length (lk (behindOf ps) k) ∧ Tab K H' b ns.length (lk (behindOf ps) j) ∧ k + j * m = n,
      ⟨n, 0, 1, t1, t2, rfl, s02, T1.same s2, T2, by omega⟩, ?_⟩
    rintro m σ H3 ⟨k, j, a, b, rfl, s3, A3, B3, e3⟩
    refine ⟨.int (m : Int), rfl, _, 0, rfl, rfl, _, rfl, ite2 (fun hm => ?_) (fun hm => ?_)⟩
    · have hm : 0 < m := by have := of_decide_eq_true hm; omega
      refine ⟨fun σ H' => ∃ (k j : Nat) (a b : Addr), σ = [some (.ref r), some (.int ((m / 2 : Nat) : Int)), some (.ref a), some (.ref b)] ∧ Same H H' ∧ Tab K H' a ns.length (lk (behindOf ps) k) ∧ Tab K H' b ns.length (lk (behindOf ps) j) ∧ k + j * (m / 2) = n, fun σ' H' z => ⟨m / 2, by omega, z⟩, ?_⟩
      refine seq_mid (fun σ H' => ∃ (k : Nat) (a : Addr), σ = [some (.ref r), some (.int (m : Int)), some (.ref a), some (.ref b)] ∧ Same H H' ∧ Tab K H' a ns.length (lk (behindOf ps) k) ∧ Tab K H' b ns.length (lk (behindOf ps) j) ∧ k + (j + j) * (m / 2) = n) ?_ fun tail => ?_
      · rintro σ H4 ⟨k, a, rfl, s4, A4, B4, e4⟩
        refine ⟨.ref b, rfl, .ref b, rfl, b, b, ns.length, _, _, rfl, n8, B4, B4, fun H5 t5 s5 T5 => ?_⟩
        refine ⟨_, rfl, _, 2, rfl, rfl, ⟨by decide, by decide⟩, k, j + j, a, t5, ?_, s4.trans s5, A4.same s5, T5.congr fun i x _ _ => lk_add.symm, e4⟩
        show [some (V.ref r), some (.int ((m : Int) / 2)), some (.ref a), some (.ref t5)] = _
        rw [show (m : Int) / 2 = ((m / 2 : Nat) : Int) by omega]
      · refine ⟨.int (m : Int), rfl, _, 2, rfl, rfl, by show (0 : Int) < 2; decide, rfl, _, rfl, ?_⟩
        rw [decV]
        refine ite2 (fun hz => ?_) (fun hz => ?_)
        · have hz := of_decide_eq_true hz
          refine ⟨.ref a, rfl, .ref b, rfl, a, b, ns.length, _, _, rfl, n8, A3, B3, fun H5 t5 s5 T5 => tail _ _ ⟨k + j, t5, rfl, s3.trans s5, T5.congr fun i x _ _ => lk_add.symm, B3.same s5, ?_⟩⟩
          have em : m = 2 * (m / 2) + 1 := by omega
          rw [em] at e3
          rw [← e3, Nat.mul_add, Nat.add_mul, ← Nat.mul_assoc, Nat.mul_comm j 2, Nat.two_mul, Nat.add_mul]
          omega
        · have hz : ¬ ((m : Int) % 2 = 1) := fun z => hz (decide_eq_true z)
          refine tail _ _ ⟨k, a, rfl, s3, A3, B3, ?_⟩
          have em : m = 2 * (m / 2) := by omega
          rw [em] at e3
          rw [← e3, Nat.add_mul, ← Nat.mul_assoc, Nat.mul_comm j 2, Nat.two_mul, Nat.add_mul]
    · have hm : m = 0 := by
        have z : ¬ (0 < (m : Int)) := fun z => hm (decide_eq_true z)
        omega
      subst hm
      refine ⟨.ref a, rfl, q H3 a s3 ?_⟩
      have : k = n := by omega
      rw [← this]; exact A3
end
end K44
set_option maxHeartbeats 4000000
namespace K44
open PySem PySem.Spec PyProof.Rows L2 RV
theorem few7 {n : Nat} (h : n ≤ 20000) : n < sizeLine := by rw [sizeLine_eq]; omega
/-- [c(x) for x in t] of truths, t a tuple of ints -/
theorem lc_blT {K : PySem.W.Frag} {te : TE} {c : Int → Bool} {σ : L2.St} {H1 : Hp} {a D : Addr} {v : Nat} {ns : List Int} {Qd : Hp → Prop} (hT : SqT K H1 a (ns.map V.int)) (hl : ns.length ≤ 1000) (nD : H1 D = none)
    (hte : ∀ x ∈ ns, ∀ (H' : Hp) (Q : VK), Same H1 H' → Q (.bl (c x)) H' → te ((wipe σ [v]).set v (some (.int x))) H' Q)
    (hd : ∀ H', Same H1 H' → H' D = some (.lst ((ns.map c).map V.bl)) → Qd H') :
    ∃ W : Nat → Nat → Hp → Prop, (∃ m, W 0 m (upd H1 D (.lst []))) ∧ ∀ i m H, W i m H →
      ((Itt K a).stop i H ∧ Qd H) ∨ ((Itt K a).go i H ∧ ∃ Nx : Hp → Prop, (∀ H', Nx H' → ∃ m', m' < m ∧ W (i + 1) m' H') ∧ ∀ x H', (Itt K a).yld i H x H' → gName v x (wipe σ [v]) H' fun σ2 H2 => wipe σ2 [v] = wipe σ [v] ∧ tYes σ2 H2 fun b H3 =>
        if b = true then te σ2 H3 fun y H4 => ∃ acc, H4 D = some (.lst acc) ∧ acc.length < sizeLine ∧ Nx (upd H4 D (.lst (acc ++ [y]))) else Nx H3) := by
  refine lc_tup (K := K) (a := a) (xs := ns.map V.int) (fun i H' => Same H1 H' ∧ H' D = some (.lst (((ns.take i).map c).map V.bl))) ⟨same_upd nD, upd_same⟩ (fun i H' _ p => sqT_same p.1 hT) (fun i x H' hx p => ?_) fun H' p => ?_
  · obtain ⟨k, g, rfl⟩ := map_at hx
    refine ⟨by simp [wipe, List.set_set], tt_yes (hte k (List.mem_of_getElem? g) H' _ p.1 ⟨_, p.2, ?_, fun b o z => ?_, ?_⟩)⟩
    · rw [List.length_map, List.length_map, List.length_take]; exact few1 (by omega)
    · rw [upd_ne (ne_of_none z nD)]; exact p.1 b o z
    · rw [upd_same, List.take_add_one, g, List.map_append, List.map_append]; rfl
  · rw [List.length_map, List.take_of_length_le (Nat.le_refl _)] at p
    exact hd H' p.1 p.2
/-- a list of tuples of ints -/
def TL (K : PySem.W.Frag) (H : Hp) (F : Addr) (Ls : List (List Int)) : Prop := ∃ as : List Addr, H F = some (.lst (as.map V.ref)) ∧ as.length = Ls.length ∧ ∀ (i : Nat) (a : Addr) (w : List Int), as[i]? = some a → Ls[i]? = some w → SqT K H a (w.map V.int)
theorem TL.same {K : PySem.W.Frag} {H H' : Hp} {F : Addr} {Ls : List (List Int)} (h : TL K H F Ls) (s : Same H H') : TL K H' F Ls := by
  obtain ⟨as, h1, h2, h3⟩ := h
  exact ⟨as, s _ _ h1, h2, fun i a w ha hw => sqT_same s (h3 i a w ha hw)⟩
theorem sqT_upd {K : PySem.W.Frag} {H : Hp} {D : Addr} {vs : List V} {o' : HO} (e : H D = some (.lst vs)) {a : Addr} {xs : List V} (h : SqT K H a xs) : SqT K (upd H D o') a xs := by
  rcases h with (h | ⟨o, h⟩) | h
  · exact .inl (.inl (by rw [upd_ne (fun z => by rw [z, e] at h; cases h)]; exact h))
  · exact .inl (.inr ⟨o, by rw [upd_ne (fun z => by rw [z, e] at h; cases h)]; exact h⟩)
  · exact .inr h
theorem TL.add {K : PySem.W.Frag} {H : Hp} {F t : Addr} {Ls : List (List Int)} {w : List Int} {as : List Addr} (h1 : H F = some (.lst (as.map V.ref))) (h2 : as.length = Ls.length) (h3 : ∀ (i : Nat) (a : Addr) (w : List Int), as[i]? = some a → Ls[i]? = some w → SqT K H a (w.map V.int)) (ht : SqT K H t (w.map V.int)) :
    TL K (upd H F (.lst (as.map V.ref ++ [.ref t]))) F (Ls ++ [w]) := by
  refine ⟨as ++ [t], by rw [upd_same, List.map_append]; rfl, by rw [List.length_append, List.length_append, h2]; rfl, fun i a u ha hu => sqT_upd h1 ?_⟩
  rcases Nat.lt_or_ge i as.length with z | z
  · rw [List.getElem?_append_left z] at ha
    rw [List.getElem?_append_left (by omega)] at hu
    exact h3 i a u ha hu
  · rw [List.getElem?_append_right z] at ha
    rw [List.getElem?_append_right (by omega)] at hu
    rw [h2] at ha
    cases e : i - Ls.length with
    | zero =>
      rw [e] at ha hu
      cases ha
      cases hu
      exact ht
    | succ k => rw [e] at ha; cases ha
theorem TL.at {K : PySem.W.Frag} {H : Hp} {F : Addr} {Ls : List (List Int)} (h : TL K H F Ls) {i : Nat} {w : List Int} (hw : Ls[i]? = some w) : ∃ (xs : List V) (a : Addr), H F = some (.lst xs) ∧ atI xs (i : Int) = some (.ref a) ∧ SqT K H a (w.map V.int) := by
  obtain ⟨as, h1, h2, h3⟩ := h
  have hi : i < as.length := by rw [h2]; exact (List.getElem?_eq_some_iff.mp hw).1
  refine ⟨_, as[i], h1, atI_nat (by rw [List.getElem?_map, List.getElem?_eq_getElem hi]; rfl), h3 i _ w (List.getElem?_eq_getElem hi) hw⟩
/-- beg 0 .. beg (n - 1) -/
def begs (ps : List (List Int)) (N : Nat) (E : List Int) (n : Nat) : List (List Int) := (List.range n).map (beg (behindOf ps) N E)
theorem begs_at {ps : List (List Int)} {N : Nat} {E : List Int} {n i : Nat} (h : i < n) : (begs ps N E n)[i]? = some (beg (behindOf ps) N E i) := by
  unfold begs
  rw [List.getElem?_map, List.getElem?_range h]; rfl
theorem begs_next (ps : List (List Int)) (N : Nat) (E : List Int) (n : Nat) : begs ps N E (n + 1) = begs ps N E n ++ [beg (behindOf ps) N E n] := by
  unfold begs
  rw [List.range_succ, List.map_append]; rfl
section
variable {P : Program} {w : World} {K : PySem.W.Frag} {mg : Str → Option Value} {base : Heap}
/-! ### leads_into -/
theorem scLeadsInto : FnScope ["rule", "mark", "marks", "coming"] ["rule", "mark", "marks"] (defScope sLeadsInto) := ⟨rfl, rfl, rfl, by decide +kernel, rfl, by decide +kernel, by decide +kernel⟩
def spLeadsInto (K : PySem.W.Frag) (C : Addr) : Sp := fun vs H Q _ => ∃ (r a : Addr) (i : Nat) (ns : List Int) (ps : List (List Int)) (ms : List Int), vs = [.ref r, .int (i : Int), .ref a] ∧ RuleAt K C H r ns ps ∧ Stp ns ps ∧ i < ns.length ∧ SqT K H a (ms.map V.int) ∧
  ∀ (H' : Hp), Same H H' → Q (.bl ((behindOf ps (i : Int)).any fun c => decide (c ∈ ms))) H'
theorem ok_leadsInto {f C fB : Addr} {fd dB : FuncData} (F : Fun K "leads_into" "leads_into" sLeadsInto f fd) (T : Txt K mg C) (B : Bare mg)
    (FB : Fun K "behind" "Rule.behind" sBehindM fB dB) (bB : Binds K dB ["self", "mark"] []) (mB : Meth K C "behind" fB) : FnOk P w K mg base CX0 2 f fd ["rule", "mark", "marks"] (spLeadsInto K C) := by
  have GB : FnOk P w K mg base CX0 1 fB dB ["self", "mark"] (spBehindM K C) := ok_behindM FB T
  refine F.ok scLeadsInto (fun vs H Q E h => ?_) (fun cdv A outer s H vs Q E hr h => ?_)
  · obtain ⟨r, a, i, ns, ps, ms, rfl, _⟩ := h
    rfl
  · obtain ⟨r, a, i, ns, ps, ms, rfl, R, S, hi, hA, q⟩ := h
    have hu5 := un65 hr
    refine ⟨_, pss_one (ps_ret (pe_callB (cr_any rfl) (by rfl) B.any (by decide +kernel) (pa_cons
      (pe_lc (own := [("coming", 3)]) (g := gName 3) (tt := tYes) rfl scLeadsInto.nd (pi_tup (pe_meth (pv 0) T.cl mB GB hr bB .nil pass0 (pa_cons (pv 1) pa_nil))) (blkOk_by (N := ["rule", "mark", "marks", "coming"]) (sc := defScope sLeadsInto) (by decide +kernel))
        (fun _ _ _ _ _ => pg_name (i := 3) scLeadsInto.nd rfl (Or.inl rfl)) (fun _ _ _ _ _ => pts_nil)
        (fun _ _ _ _ _ => pe_cmpR (op_inTIK (K := K) rfl hu5) (pv 3) (pv 2) (by rfl))) pa_nil))), ?_⟩
    obtain ⟨dx, a0, b0, t0, g1, g2, g3, g4⟩ := R.ex
    have fno := flds_no a0 b0 t0 (m := "behind") (by decide +kernel) (by decide +kernel) (by decide +kernel)
    refine ⟨.ref r, rfl, r, dx, _, rfl, g1, fno, .int (i : Int), rfl, r, ns, ps, i, rfl, R, hi, fun c hc => ⟨c, rfl, ⟨_, hc⟩, fun D nD => ?_⟩⟩
    have bl := Nat.le_trans (behind_len ps (i : Int)) S.few
    refine lc_blT (c := fun x => decide (x ∈ ms)) hc (by omega) nD (fun x hx H' Q' s' kk => ⟨.int x, rfl, .ref a, rfl, a, x, ms, rfl, rfl, sqT_same s' hA, kk⟩) fun H2 s2 e2 => ?_
    refine ⟨D, _, rfl, lstNew e2, ?_⟩
    rw [List.any_map]
    exact q H2 s2
end
end K44
set_option maxHeartbeats 4000000
namespace K44
open PySem PySem.Spec PyProof.Rows L2 RV
theorem beg_inn {ps : List (List Int)} {N : Nat} {E : List Int} (hE : ∀ x ∈ E, 0 ≤ x ∧ x < (N : Int)) : ∀ n, ∀ x ∈ beg (behindOf ps) N E n, 0 ≤ x ∧ x < (N : Int)
  | 0, x, hx => hE x hx
  | n + 1, x, hx => (mem_beg.mp hx).1
section
variable {P : Program} {w : World} {K : PySem.W.Frag} {mg : Str → Option Value} {base : Heap}
/-! ### beginnings -/
abbrev nBegin : List Str := ["rule", "ends", "n", "found", "at", "ahead", "mark"]
theorem scBegin : FnScope nBegin ["rule", "ends", "n"] (defScope sBegin) := ⟨rfl, rfl, rfl, by decide +kernel, rfl, by decide +kernel, by decide +kernel⟩
def spBegin (K : PySem.W.Frag) (C : Addr) : Sp := fun vs H Q _ => ∃ (r e : Addr) (n : Nat) (ns : List Int) (ps : List (List Int)) (es : List Int), vs = [.ref r, .ref e, .int (n : Int)] ∧ RuleAt K C H r ns ps ∧ Stp ns ps ∧ ns.length ≤ 8 ∧ SqT K H e (es.map V.int) ∧ n ≤ 6000 ∧
  ∀ (H' : Hp) (F : Addr), Same H H' → TL K H' F (begs ps ns.length es (n + 1)) → Q (.ref F) H'
theorem ok_begin {f C fB fM fL : Addr} {fd dB dM dL : FuncData} (F : Fun K "beginnings" "beginnings" sBegin f fd) (T : Txt K mg C) (B : Bare mg)
    (FB : Fun K "behind" "Rule.behind" sBehindM fB dB) (bB : Binds K dB ["self", "mark"] []) (mB : Meth K C "behind" fB) (FM : Fun K "marks" "Rule.marks" sMarksM fM dM) (bM : Binds K dM ["self"] []) (mM : Meth K C "marks" fM)
    (DL : DefAt K mg "leads_into" sLeadsInto ["rule", "mark", "marks"] fL dL) : FnOk P w K mg base CX0 3 f fd ["rule", "ends", "n"] (spBegin K C) := by
  have GL : FnOk P w K mg base CX0 2 fL dL ["rule", "mark", "marks"] (spLeadsInto K C) := ok_leadsInto DL.fn T B FB bB mB
  have GM : FnOk P w K mg base CX0 1 fM dM ["self"] (spMarksM K C) := ok_marksM FM T B
  refine F.ok scBegin (fun vs H Q E h => ?_) (fun cdv A outer s H vs Q E hr h => ?_)
  · obtain ⟨r, e, n, ns, ps, es, rfl, _⟩ := h
    rfl
  · obtain ⟨r, e, n, ns, ps, es, rfl, R, S, n8, hE, hn, q⟩ := h
    have r1 := hr.mono (show 1 ≤ 2 by decide)
    have one : (1 : Nat) ≤ sizeLine := by decide
    refine ⟨_, pss_cons (ps_set (i := 3) scBegin.nd rfl (Or.inl rfl) (pe_lst (pa_cons (pe_tupleOf (by rfl) B.tuple (pv 1)) pa_nil)))
      (pss_cons (ps_for PassesOwn.never rfl (pi_range1 (by rfl) B.range (pa_cons (pv 2) pa_nil)) (pg_name (i := 4) scBegin.nd rfl (Or.inl rfl))
        (pss_cons (ps_set (i := 5) scBegin.nd rfl (Or.inr rfl) (pe_ix ix_list (pv 3) (pv 4) (fun _ _ => rfl)))
        (pss_one (ps_expr (pe_bm PySem.F.plainAttrs_list PySem.F.slot_list_append PySem.F.type_list_append mt_append (pv 3) (pa_cons (pe_tupleOf (by rfl) B.tuple
          (pe_lc (own := [("mark", 6)]) (g := gName 6) rfl scBegin.nd (pi_range1 (by rfl) B.range (pa_cons (pe_meth0 (pv 0) T.cl mM GM r1 bM .nil pass0) pa_nil)) (blkOk_by (N := nBegin) (sc := defScope sBegin) (by decide +kernel))
            (fun _ _ _ _ _ => pg_name (i := 6) scBegin.nd rfl (Or.inl rfl)) (fun _ _ _ _ _ => pts_one (pt_val (pe_call GL hr (by rfl) DL.mg DL.fn.kp DL.bi .nil pass0 (pa_cons (pv 0) (pa_cons (pv 6) (pa_cons (pv 5) pa_nil)))))) (fun _ _ _ _ _ => pv 6))) pa_nil))))))
      (pss_one (ps_ret (pv 3)))), ?_⟩
    refine ⟨.ref e, rfl, .inr ⟨e, _, rfl, hE, one, fun F0 nF => ?_⟩⟩
    have sF := same_upd (o := .lst [.ref e]) nF
    have T0 : TL K (upd H F0 (.lst [.ref e])) F0 (begs ps ns.length es (0 + 1)) := ⟨[e], upd_same, rfl, fun i a w ha hw => by
      cases i with
      | zero => cases ha; cases hw; exact sqT_same sF hE
      | succ i => cases ha⟩
    refine ⟨.int (n : Int), rfl, (n : Int), rfl, by omega, by omega, ?_⟩
    rw [Int.toNat_natCast]
    refine for_range (lo := 0) (n := n) (fun i σ H' => ∃ (y4 y5 y6 : Option V), σ = [some (.ref r), some (.ref e), some (.int (n : Int)), some (.ref F0), y4, y5, y6] ∧ Same H H' ∧ TL K H' F0 (begs ps ns.length es (i + 1))) ⟨none, none, none, rfl, sF, T0⟩ (fun i σ H1 hi h => ?_) (fun σ H1 h => ?_)
    · obtain ⟨y4, y5, y6, rfl, s1, T1⟩ := h
      rw [show (0 : Int) + (i : Int) = (i : Int) by omega]
      obtain ⟨xs, a, eF, ea, hA⟩ := T1.at (begs_at (show i < i + 1 by omega))
      refine ⟨.ref F0, rfl, .int (i : Int), rfl, F0, xs, _, _, rfl, rfl, lstNew eF, ea, ?_⟩
      have R1 := R.same s1
      obtain ⟨dx, a0, b0, t0, g1, g2, g3, g4⟩ := R1.ex
      have fno := flds_no a0 b0 t0 (m := "marks") (by decide +kernel) (by decide +kernel) (by decide +kernel)
      refine ⟨.ref F0, rfl, .inl ⟨rfl, _, lstNew eF⟩, .ref r, rfl, r, dx, _, rfl, g1, fno, r, ns, ps, rfl, R1, (ns.length : Int), rfl, by omega, by omega, fun D nD => ?_⟩
      rw [Int.toNat_natCast]
      refine lc_filtR (f := fun m => (behindOf ps m).any fun c => decide (c ∈ beg (behindOf ps) ns.length es i)) (by omega) nD (fun x x0 x1 H' s' A' B' kk => ?_) (fun x H' Q' k => ⟨.int x, rfl, k⟩) fun H2 s2 e2 => ?_
      · refine ⟨.ref r, rfl, .int x, rfl, .ref a, rfl, r, a, x.toNat, ns, ps, _, by rw [Int.toNat_of_nonneg x0]; rfl, R1.same s', S, by omega, sqT_same s' hA, fun H3 s3 => ?_⟩
        rw [Int.toNat_of_nonneg x0]
        exact ⟨_, rfl, kk H3 s3⟩
      refine .inl ⟨D, _, rfl, lstNew e2, fun t nt => ?_⟩
      have st := same_upd (o := .tup ((beg (behindOf ps) ns.length es (i + 1)).map V.int)) nt
      have s3 := s2.trans st
      obtain ⟨as, k1, k2, k3⟩ := T1.same s3
      refine ⟨F0, _, _, rfl, rfl, k1, ?_, ?_⟩
      · rw [List.length_map, k2]; unfold begs; rw [List.length_map, List.length_range]; exact few7 (by omega)
      · refine ⟨_, _, _, rfl, fun b o z => ?_, ?_⟩
        · rw [upd_ne (ne_of_none z nF)]; exact s3 _ _ (s1 b o z)
        · rw [begs_next ps ns.length es (i + 1)]
          exact TL.add k1 k2 k3 (tupNew upd_same)
    · obtain ⟨y4, y5, y6, rfl, s1, T1⟩ := h
      exact ⟨.ref F0, rfl, q H1 F0 s1 T1⟩
end
end K44
set_option maxHeartbeats 4000000
namespace K44
open PySem PySem.Spec PyProof.Rows L2 RV
section
variable {P : Program} {w : World} {K : PySem.W.Frag} {mg : Str → Option Value} {base : Heap}
/-! ### least_between -/
abbrev nBetween : List Str := ["rule", "starts", "ends", "n", "begun", "able", "walk", "left", "mark"]
theorem scBetween : FnScope nBetween ["rule", "starts", "ends", "n"] (defScope sBetween) := ⟨rfl, rfl, rfl, by decide +kernel, rfl, by decide +kernel, by decide +kernel⟩
def spBetween (K : PySem.W.Frag) (C : Addr) : Sp := fun vs H Q _ => ∃ (r b e : Addr) (n : Nat) (ns : List Int) (ps : List (List Int)) (bs es : List Int), vs = [.ref r, .ref b, .ref e, .int (n : Int)] ∧ RuleAt K C H r ns ps ∧ Stp ns ps ∧ ns.length ≤ 8 ∧ SqT K H b (bs.map V.int) ∧ bs.length ≤ 8 ∧ SqT K H e (es.map V.int) ∧ n ≤ 6000 ∧
  (∀ x ∈ bs, 0 ≤ x ∧ x < (ns.length : Int)) ∧ (∀ x ∈ es, 0 ≤ x ∧ x < (ns.length : Int)) ∧
  (∀ H', Same H H' → (∀ x ∈ bs, x ∉ beg (behindOf ps) ns.length es n) → Q .non H') ∧
  ∀ (H' : Hp) (t : Addr) (m : Int) (g : List Int), Same H H' → m ∈ bs → m ∈ beg (behindOf ps) ns.length es n → (∀ y ∈ bs, y ∈ beg (behindOf ps) ns.length es n → m ≤ y) → Gr (behindOf ps) (beg (behindOf ps) ns.length es) n m g → SqT K H' t (g.map V.int) → Q (.ref t) H'
theorem ok_between {f C fB fM fL fG : Addr} {fd dB dM dL dG : FuncData} (F : Fun K "least_between" "least_between" sBetween f fd) (T : Txt K mg C) (B : Bare mg)
    (FB : Fun K "behind" "Rule.behind" sBehindM fB dB) (bB : Binds K dB ["self", "mark"] []) (mB : Meth K C "behind" fB) (FM : Fun K "marks" "Rule.marks" sMarksM fM dM) (bM : Binds K dM ["self"] []) (mM : Meth K C "marks" fM)
    (DL : DefAt K mg "leads_into" sLeadsInto ["rule", "mark", "marks"] fL dL) (DG : DefAt K mg "beginnings" sBegin ["rule", "ends", "n"] fG dG) : FnOk P w K mg base CX0 4 f fd ["rule", "starts", "ends", "n"] (spBetween K C) := by
  have GG : FnOk P w K mg base CX0 3 fG dG ["rule", "ends", "n"] (spBegin K C) := ok_begin DG.fn T B FB bB mB FM bM mM DL
  have GB : FnOk P w K mg base CX0 1 fB dB ["self", "mark"] (spBehindM K C) := ok_behindM FB T
  refine F.ok scBetween (fun vs H Q E h => ?_) (fun cdv A outer s H vs Q E hr h => ?_)
  · obtain ⟨r, b, e, n, ns, ps, bs, es, rfl, _⟩ := h
    rfl
  · obtain ⟨r, b, e, n, ns, ps, bs, es, rfl, R, S, n8, hB, b8, hE, hn, bi, ei, q1, q2⟩ := h
    have r1 := hr.mono (show 1 ≤ 3 by decide)
    have hu5 := un65 hr
    have one : (1 : Nat) ≤ sizeLine := by decide
    refine ⟨_, pss_cons (ps_set (i := 4) scBetween.nd rfl (Or.inr rfl) (pe_call GG hr (by rfl) DG.mg DG.fn.kp DG.bi .nil pass0 (pa_cons (pv 0) (pa_cons (pv 2) (pa_cons (pv 3) pa_nil)))))
      (pss_cons (ps_setLc (i := 5) (own := [("mark", 8)]) (g := gName 8) rfl scBetween.nd rfl rfl (by rfl) (pi_tup (pv 1)) (blkOk_by (N := nBetween) (sc := defScope sBetween) (by decide +kernel))
          (fun _ _ _ _ _ => pg_name (i := 8) scBetween.nd rfl (Or.inl rfl)) (fun _ _ _ _ _ => pts_one (pt_cmpR (op_inTIK (K := K) rfl hu5) (pv 8) (pe_ix (ix_listK (K := K) rfl) (pv 4) (pv 3) (fun _ _ => rfl)) (by rfl))) (fun _ _ _ _ _ => pv 8))
      (pss_cons (ps_if (pt_cmpR op_eq (pe_callB call_len_seq (by rfl) B.len PySem.boot_len (pa_cons (pv 5) pa_nil)) pe_int (nomark _)) (pss_one (ps_ret pe_non)) pss_nil)
      (pss_cons (ps_set (i := 6) scBetween.nd rfl (Or.inl rfl) (pe_lst (pa_cons (pe_callB (cr_min rfl) (by rfl) B.min (by decide +kernel) (pa_cons (pv 5) pa_nil)) pa_nil)))
      (pss_cons (ps_for PassesOwn.never rfl (pi_range3 (by rfl) B.range (pa_cons (pe_op op_sub (pv 3) pe_int) (pa_cons (pe_un un_neg pe_int) (pa_cons (pe_un un_neg pe_int) pa_nil)))) (pg_name (i := 7) scBetween.nd rfl (Or.inr rfl))
        (pss_one (ps_expr (pe_bm PySem.F.plainAttrs_list PySem.F.slot_list_append PySem.F.type_list_append mt_append (pv 6) (pa_cons (pe_callB (cr_min rfl) (by rfl) B.min (by decide +kernel) (pa_cons
          (pe_lc (own := [("mark", 8)]) (g := gName 8) rfl scBetween.nd (pi_tup (pe_meth (pv 0) T.cl mB GB r1 bB .nil pass0 (pa_cons (pe_ix ix_list (pv 6) (pe_un un_neg pe_int) (fun _ _ => rfl)) pa_nil))) (blkOk_by (N := nBetween) (sc := defScope sBetween) (by decide +kernel))
            (fun _ _ _ _ _ => pg_name (i := 8) scBetween.nd rfl (Or.inl rfl)) (fun _ _ _ _ _ => pts_one (pt_cmpR (op_inTIK (K := K) rfl hu5) (pv 8) (pe_ix (ix_listK (K := K) rfl) (pv 4) (pv 7) (fun _ _ => rfl)) (by rfl))) (fun _ _ _ _ _ => pv 8)) pa_nil)) pa_nil)))))
      (pss_one (ps_ret (pe_tupleOf (by rfl) B.tuple (pv 6)))))))), ?_⟩
    refine ⟨.ref r, rfl, .ref e, rfl, .int (n : Int), rfl, r, e, n, ns, ps, es, rfl, R, S, n8, hE, hn, fun H1 G s1 T1 => ?_⟩
    generalize hBg : beg (behindOf ps) ns.length es = Bg at q1 q2
    -- able
    refine ⟨.ref b, rfl, b, rfl, ⟨_, sqT_same s1 hB⟩, fun D nD => ?_⟩
    refine lc_filtT (f := fun x => decide (x ∈ Bg n)) (sqT_same s1 hB) (by omega) nD (fun x hx H' s' A' B' kk => ?_) (fun x H' Q' k => ⟨.int x, rfl, k⟩) fun H2 s2 e2 => ?_
    · obtain ⟨xs, a, eF, ea, hA⟩ := (T1.same s').at (begs_at (show n < n + 1 by omega))
      refine ⟨.int x, rfl, .ref G, rfl, .int (n : Int), rfl, G, xs, _, _, rfl, rfl, lstNew eF, ea, a, x, _, rfl, rfl, hA, _, rfl, ?_⟩
      rw [hBg]
      exact kk H' (Same.refl H')
    have s02 := s1.trans s2
    have T2 := T1.same s2
    refine ⟨.ref D, rfl, D, _, rfl, .inl (lstNew e2), rfl, _, rfl, ?_⟩
    rw [List.length_map, decV]
    by_cases hz : bs.filter (fun x => decide (x ∈ Bg n)) = []
    · rw [hz]
      refine iteT ?_
      refine q1 H2 s02 fun x hx hn' => ?_
      have : x ∈ bs.filter (fun x => decide (x ∈ Bg n)) := List.mem_filter.mpr ⟨hx, decide_eq_true hn'⟩
      rw [hz] at this; cases this
    have hz0 : 0 < (bs.filter (fun x => decide (x ∈ Bg n))).length := List.length_pos_iff.mpr hz
    rw [decide_eq_false (show ¬ ((((bs.filter (fun x => decide (x ∈ Bg n))).length : Nat) : Int) = 0) by omega)]
    refine iteF ?_
    refine ⟨.ref D, rfl, D, _, rfl, lstNew e2, hz0, fun m0 hm0 hle => ⟨one, fun Wd nW => ?_⟩⟩
    obtain ⟨m1, m2⟩ := List.mem_filter.mp hm0
    have m2 := of_decide_eq_true m2
    have sW := same_upd (o := .lst [.int m0]) nW
    have eW : (upd H2 Wd (.lst [.int m0])) Wd = some (.lst (([] ++ [m0]).map V.int)) := upd_same
    have s03 := s02.trans sW
    have T3 := T2.same sW
    have nWH : H Wd = none := s02.free nW
    generalize upd H2 Wd (.lst [.int m0]) = H3 at eW s03 T3 ⊢
    refine ⟨.int (n : Int), rfl, _, 1, rfl, rfl, 1, rfl, 1, rfl, _, _, _, _, rfl, RgC.neg (by omega) (by omega) (by decide) (by decide), ?_⟩
    rw [show ((n : Int) - 1 - -1).toNat = n by omega]
    refine for_rangeC (lo := (n : Int) - 1) (c := -1) (n := n) (fun j σ H' => ∃ (y7 y8 : Option V) (pre : List Int) (m : Int), σ = [some (.ref r), some (.ref b), some (.ref e), some (.int (n : Int)), some (.ref G), some (.ref D), some (.ref Wd), y7, y8] ∧ Same H H' ∧ TL K H' G (begs ps ns.length es (n + 1)) ∧ H' Wd = some (.lst ((pre ++ [m]).map V.int)) ∧ pre.length = j ∧ m ∈ Bg (n - j) ∧ (0 ≤ m ∧ m < (ns.length : Int)) ∧ ∀ v, Gr (behindOf ps) Bg (n - j) m v → Gr (behindOf ps) Bg n m0 (pre ++ v))
      ⟨none, none, [], m0, rfl, s03, T3, eW, rfl, m2, bi m0 m1, fun v hv => hv⟩ (fun j σ H4 hj h => ?_) (fun σ H4 h => ?_)
    · obtain ⟨y7, y8, pre, m, rfl, s4, T4, eW4, lp, hm, hin, hG⟩ := h
      rw [show (n : Int) - 1 + (j : Int) * -1 = ((n - 1 - j : Nat) : Int) by omega]
      have R4 := R.same s4
      obtain ⟨dx, a0, b0, t0, g1, g2, g3, g4⟩ := R4.ex
      have fno := flds_no a0 b0 t0 (m := "behind") (by decide +kernel) (by decide +kernel) (by decide +kernel)
      obtain ⟨k, ek⟩ : ∃ k, n - j = k + 1 := ⟨n - j - 1, by omega⟩
      have ek2 : n - 1 - j = k := by omega
      have ek3 : n - (j + 1) = k := by omega
      rw [ek] at hm hG
      rw [ek2]
      have bl := Nat.le_trans (behind_len ps m) S.few
      refine ⟨.ref Wd, rfl, .inl ⟨rfl, _, lstNew eW4⟩, .ref r, rfl, r, dx, _, rfl, g1, fno, .ref Wd, rfl, 1, rfl, Wd, _, _, _, rfl, rfl, lstNew eW4, (by rw [List.map_append]; exact atI_last _ _), ?_⟩
      refine ⟨r, ns, ps, m.toNat, by rw [Int.toNat_of_nonneg hin.1]; rfl, R4, by omega, fun c hc => ⟨c, rfl, ⟨_, hc⟩, fun D' nD' => ?_⟩⟩
      rw [Int.toNat_of_nonneg hin.1] at hc
      refine lc_filtT (f := fun x => decide (x ∈ Bg k)) hc (by omega) nD' (fun x hx H' s' A' B' kk => ?_) (fun x H' Q' k => ⟨.int x, rfl, k⟩) fun H5 s5 e5 => ?_
      · obtain ⟨xs, a, eF, ea, hA⟩ := (T4.same s').at (begs_at (show k < n + 1 by omega))
        refine ⟨.int x, rfl, .ref G, rfl, .int (k : Int), rfl, G, xs, _, _, rfl, rfl, lstNew eF, ea, a, x, _, rfl, rfl, hA, _, rfl, ?_⟩
        rw [hBg]
        exact kk H' (Same.refl H')
      have hne : 0 < ((behindOf ps m).filter (fun x => decide (x ∈ Bg k))).length := by
        rw [← hBg] at hm
        obtain ⟨_, c', c1, c2⟩ := mem_beg.mp hm
        rw [hBg] at c2
        exact List.length_pos_iff.mpr fun z => by
          have : c' ∈ (behindOf ps m).filter (fun x => decide (x ∈ Bg k)) := List.mem_filter.mpr ⟨c1, decide_eq_true c2⟩
          rw [z] at this; cases this
      refine ⟨D', _, rfl, lstNew e5, hne, fun m' hm' hle' => ?_⟩
      obtain ⟨x1, x2⟩ := List.mem_filter.mp hm'
      have x2 := of_decide_eq_true x2
      refine ⟨Wd, _, _, rfl, rfl, s5 _ _ eW4, by rw [List.length_map, List.length_append, lp]; exact few7 (by simp; omega), ?_⟩
      refine ⟨_, _, pre ++ [m], m', rfl, fun b' o z => ?_, ?_, ?_, by rw [List.length_append, lp]; rfl, by rw [ek3]; exact x2, behind_inn S m m' x1, fun v hv => ?_⟩
      · rw [upd_ne (ne_of_none z nWH)]; exact s5 _ _ (s4 b' o z)
      · obtain ⟨as, k1, k2, k3⟩ := T4.same s5
        have hGW : G ≠ Wd := fun z => by
          rw [z, s5 _ _ eW4] at k1
          cases as with
          | nil => unfold begs at k2; rw [List.length_map, List.length_range] at k2; cases k2
          | cons a as =>
            have z2 := HO.lst.inj (Option.some.inj k1)
            cases pre <;> cases z2
        exact ⟨as, by rw [upd_ne hGW]; exact k1, k2, fun i a w ha hw => sqT_upd (s5 _ _ eW4) (k3 i a w ha hw)⟩
      · rw [upd_same, List.map_append (l₁ := pre ++ [m])]; rfl
      · rw [ek3] at hv
        have z := hG (m :: v) ⟨m', v, rfl, x1, x2, fun y y1 y2 => hle' y (List.mem_filter.mpr ⟨y1, decide_eq_true y2⟩), hv⟩
        rw [List.append_assoc]; exact z
    · obtain ⟨y7, y8, pre, m, rfl, s4, T4, eW4, lp, hm, hin, hG⟩ := h
      refine ⟨.ref Wd, rfl, .inl ⟨Wd, _, rfl, lstNew eW4, fun t nt => ?_⟩⟩
      refine q2 _ t m0 (pre ++ [m]) (s4.trans (same_upd nt)) m1 m2 (fun y y1 y2 => hle y (List.mem_filter.mpr ⟨y1, decide_eq_true y2⟩)) ?_ (tupNew upd_same)
      refine hG [m] ?_
      rw [Nat.sub_self]; rfl
/-! ### least_walk -/
theorem scLeastW : FnScope ["rule", "one", "other", "n"] ["rule", "one", "other", "n"] (defScope sLeastW) := ⟨rfl, rfl, rfl, by decide +kernel, rfl, by decide +kernel, by decide +kernel⟩
def spLeastW (K : PySem.W.Frag) (C : Addr) : Sp := fun vs H Q _ => ∃ (r : Addr) (x y : Int) (n : Nat) (ns : List Int) (ps : List (List Int)), vs = [.ref r, .int x, .int y, .int (n : Int)] ∧ RuleAt K C H r ns ps ∧ Stp ns ps ∧ ns.length ≤ 8 ∧ n ≤ 6000 ∧ (0 ≤ x ∧ x < (ns.length : Int)) ∧ (0 ≤ y ∧ y < (ns.length : Int)) ∧
  (∀ H', Same H H' → x ∉ beg (behindOf ps) ns.length [y] n → Q .non H') ∧
  ∀ (H' : Hp) (t : Addr) (g : List Int), Same H H' → x ∈ beg (behindOf ps) ns.length [y] n → Gr (behindOf ps) (beg (behindOf ps) ns.length [y]) n x g → SqT K H' t (g.map V.int) → Q (.ref t) H'
theorem ok_leastW {f C fB fM fL fG fN : Addr} {fd dB dM dL dG dN : FuncData} (F : Fun K "least_walk" "least_walk" sLeastW f fd) (T : Txt K mg C) (B : Bare mg)
    (FB : Fun K "behind" "Rule.behind" sBehindM fB dB) (bB : Binds K dB ["self", "mark"] []) (mB : Meth K C "behind" fB) (FM : Fun K "marks" "Rule.marks" sMarksM fM dM) (bM : Binds K dM ["self"] []) (mM : Meth K C "marks" fM)
    (DL : DefAt K mg "leads_into" sLeadsInto ["rule", "mark", "marks"] fL dL) (DG : DefAt K mg "beginnings" sBegin ["rule", "ends", "n"] fG dG) (DN : DefAt K mg "least_between" sBetween ["rule", "starts", "ends", "n"] fN dN) : FnOk P w K mg base CX0 5 f fd ["rule", "one", "other", "n"] (spLeastW K C) := by
  have GN : FnOk P w K mg base CX0 4 fN dN ["rule", "starts", "ends", "n"] (spBetween K C) := ok_between DN.fn T B FB bB mB FM bM mM DL DG
  refine F.ok scLeastW (fun vs H Q E h => ?_) (fun cdv A outer s H vs Q E hr h => ?_)
  · obtain ⟨r, x, y, n, ns, ps, rfl, _⟩ := h
    rfl
  · obtain ⟨r, x, y, n, ns, ps, rfl, R, S, n8, hn, hx, hy, q1, q2⟩ := h
    have one : (1 : Nat) ≤ sizeLine := by decide
    refine ⟨_, pss_cons (ps_if (pt_cmpR op_lt (pv 3) pe_int (nomark _)) (pss_one (ps_ret pe_non)) pss_nil)
      (pss_one (ps_ret (pe_call GN hr (by rfl) DN.mg DN.fn.kp DN.bi .nil pass0 (pa_cons (pv 0) (pa_cons (pe_tup (pa_cons (pv 1) pa_nil)) (pa_cons (pe_tup (pa_cons (pv 2) pa_nil)) (pa_cons (pv 3) pa_nil))))))), ?_⟩
    refine ⟨.int (n : Int), rfl, _, 0, rfl, rfl, _, rfl, ite2 (fun z => ?_) (fun _ => ?_)⟩
    · have z := of_decide_eq_true z
      omega
    refine ⟨.ref r, rfl, .int x, rfl, one, fun b nb => ⟨.int y, rfl, one, fun e ne => ⟨.int (n : Int), rfl, ?_⟩⟩⟩
    have s1 := same_upd (o := .tup [.int x]) nb
    have s2 := same_upd (o := .tup [.int y]) ne
    have s12 := s1.trans s2
    refine ⟨r, b, e, n, ns, ps, [x], [y], rfl, R.same s12, S, n8, tupNew (s2 _ _ upd_same), (by show 1 ≤ 8; decide), tupNew upd_same, hn, fun v hv => by rw [List.mem_singleton.mp hv]; exact hx, fun v hv => by rw [List.mem_singleton.mp hv]; exact hy, fun H' s' hno => ?_, fun H' t m g s' hm hmb _ hg ht => ?_⟩
    · exact q1 H' (s12.trans s') (hno x (List.mem_singleton.mpr rfl))
    · rw [List.mem_singleton.mp hm] at hmb hg
      exact q2 H' t g (s12.trans s') hmb hg ht
end
end K44
set_option maxHeartbeats 4000000
namespace K44
open PySem PySem.Spec PyProof.Rows L2 RV
section
variable {P : Program} {w : World} {K : PySem.W.Frag} {mg : Str → Option Value} {base : Heap}
/-! ### beginnings -/
abbrev nBeginL : List Str := ["rule", "ends", "n", "found", "at", "ahead", "mark"]
theorem scBeginL : FnScope nBeginL ["rule", "ends", "n"] (defScope sBegin) := ⟨rfl, rfl, rfl, by decide +kernel, rfl, by decide +kernel, by decide +kernel⟩
def spBeginL (K : PySem.W.Frag) (C : Addr) : Sp := fun vs H Q _ => ∃ (r e : Addr) (n : Nat) (ns : List Int) (ps : List (List Int)) (es : List Int), vs = [.ref r, .ref e, .int (n : Int)] ∧ RuleAt K C H r ns ps ∧ Stp ns ps ∧ ns.length ≤ 8 ∧ SqL K H e (es.map V.int) ∧ n ≤ 6000 ∧
  ∀ (H' : Hp) (F : Addr), Same H H' → TL K H' F (begs ps ns.length es (n + 1)) → Q (.ref F) H'
theorem ok_beginL {f C fB fM fL : Addr} {fd dB dM dL : FuncData} (F : Fun K "beginnings" "beginnings" sBegin f fd) (T : Txt K mg C) (B : Bare mg)
    (FB : Fun K "behind" "Rule.behind" sBehindM fB dB) (bB : Binds K dB ["self", "mark"] []) (mB : Meth K C "behind" fB) (FM : Fun K "marks" "Rule.marks" sMarksM fM dM) (bM : Binds K dM ["self"] []) (mM : Meth K C "marks" fM)
    (DL : DefAt K mg "leads_into" sLeadsInto ["rule", "mark", "marks"] fL dL) : FnOk P w K mg base CX0 3 f fd ["rule", "ends", "n"] (spBeginL K C) := by
  have GL : FnOk P w K mg base CX0 2 fL dL ["rule", "mark", "marks"] (spLeadsInto K C) := ok_leadsInto DL.fn T B FB bB mB
  have GM : FnOk P w K mg base CX0 1 fM dM ["self"] (spMarksM K C) := ok_marksM FM T B
  refine F.ok scBeginL (fun vs H Q E h => ?_) (fun cdv A outer s H vs Q E hr h => ?_)
  · obtain ⟨r, e, n, ns, ps, es, rfl, _⟩ := h
    rfl
  · obtain ⟨r, e, n, ns, ps, es, rfl, R, S, n8, hE, hn, q⟩ := h
    have r1 := hr.mono (show 1 ≤ 2 by decide)
    have one : (1 : Nat) ≤ sizeLine := by decide
    refine ⟨_, pss_cons (ps_set (i := 3) scBeginL.nd rfl (Or.inl rfl) (pe_lst (pa_cons (pe_tupleOf (by rfl) B.tuple (pv 1)) pa_nil)))
      (pss_cons (ps_for PassesOwn.never rfl (pi_range1 (by rfl) B.range (pa_cons (pv 2) pa_nil)) (pg_name (i := 4) scBeginL.nd rfl (Or.inl rfl))
        (pss_cons (ps_set (i := 5) scBeginL.nd rfl (Or.inr rfl) (pe_ix ix_list (pv 3) (pv 4) (fun _ _ => rfl)))
        (pss_one (ps_expr (pe_bm PySem.F.plainAttrs_list PySem.F.slot_list_append PySem.F.type_list_append mt_append (pv 3) (pa_cons (pe_tupleOf (by rfl) B.tuple
          (pe_lc (own := [("mark", 6)]) (g := gName 6) rfl scBeginL.nd (pi_range1 (by rfl) B.range (pa_cons (pe_meth0 (pv 0) T.cl mM GM r1 bM .nil pass0) pa_nil)) (blkOk_by (N := nBeginL) (sc := defScope sBegin) (by decide +kernel))
            (fun _ _ _ _ _ => pg_name (i := 6) scBeginL.nd rfl (Or.inl rfl)) (fun _ _ _ _ _ => pts_one (pt_val (pe_call GL hr (by rfl) DL.mg DL.fn.kp DL.bi .nil pass0 (pa_cons (pv 0) (pa_cons (pv 6) (pa_cons (pv 5) pa_nil)))))) (fun _ _ _ _ _ => pv 6))) pa_nil))))))
      (pss_one (ps_ret (pv 3)))), ?_⟩
    refine ⟨.ref e, rfl, .inl ⟨e, _, rfl, hE, fun e' ne => ⟨one, fun F0 nF' => ?_⟩⟩⟩
    have se := same_upd (o := .tup (es.map V.int)) ne
    have hE' : SqT K (upd H e' (.tup (es.map V.int))) e' (es.map V.int) := tupNew upd_same
    have nF : H F0 = none := se.free nF'
    generalize upd H e' (.tup (es.map V.int)) = He at se hE' nF' ⊢
    have sF' := same_upd (o := .lst [.ref e']) nF'
    have sF := se.trans sF'
    have T0 : TL K (upd He F0 (.lst [.ref e'])) F0 (begs ps ns.length es (0 + 1)) := ⟨[e'], upd_same, rfl, fun i a w ha hw => by
      cases i with
      | zero => cases ha; cases hw; exact sqT_same sF' hE'
      | succ i => cases ha⟩
    refine ⟨.int (n : Int), rfl, (n : Int), rfl, by omega, by omega, ?_⟩
    rw [Int.toNat_natCast]
    refine for_range (lo := 0) (n := n) (fun i σ H' => ∃ (y4 y5 y6 : Option V), σ = [some (.ref r), some (.ref e), some (.int (n : Int)), some (.ref F0), y4, y5, y6] ∧ Same H H' ∧ TL K H' F0 (begs ps ns.length es (i + 1))) ⟨none, none, none, rfl, sF, T0⟩ (fun i σ H1 hi h => ?_) (fun σ H1 h => ?_)
    · obtain ⟨y4, y5, y6, rfl, s1, T1⟩ := h
      rw [show (0 : Int) + (i : Int) = (i : Int) by omega]
      obtain ⟨xs, a, eF, ea, hA⟩ := T1.at (begs_at (show i < i + 1 by omega))
      refine ⟨.ref F0, rfl, .int (i : Int), rfl, F0, xs, _, _, rfl, rfl, lstNew eF, ea, ?_⟩
      have R1 := R.same s1
      obtain ⟨dx, a0, b0, t0, g1, g2, g3, g4⟩ := R1.ex
      have fno := flds_no a0 b0 t0 (m := "marks") (by decide +kernel) (by decide +kernel) (by decide +kernel)
      refine ⟨.ref F0, rfl, .inl ⟨rfl, _, lstNew eF⟩, .ref r, rfl, r, dx, _, rfl, g1, fno, r, ns, ps, rfl, R1, (ns.length : Int), rfl, by omega, by omega, fun D nD => ?_⟩
      rw [Int.toNat_natCast]
      refine lc_filtR (f := fun m => (behindOf ps m).any fun c => decide (c ∈ beg (behindOf ps) ns.length es i)) (by omega) nD (fun x x0 x1 H' s' A' B' kk => ?_) (fun x H' Q' k => ⟨.int x, rfl, k⟩) fun H2 s2 e2 => ?_
      · refine ⟨.ref r, rfl, .int x, rfl, .ref a, rfl, r, a, x.toNat, ns, ps, _, by rw [Int.toNat_of_nonneg x0]; rfl, R1.same s', S, by omega, sqT_same s' hA, fun H3 s3 => ?_⟩
        rw [Int.toNat_of_nonneg x0]
        exact ⟨_, rfl, kk H3 s3⟩
      refine .inl ⟨D, _, rfl, lstNew e2, fun t nt => ?_⟩
      have st := same_upd (o := .tup ((beg (behindOf ps) ns.length es (i + 1)).map V.int)) nt
      have s3 := s2.trans st
      obtain ⟨as, k1, k2, k3⟩ := T1.same s3
      refine ⟨F0, _, _, rfl, rfl, k1, ?_, ?_⟩
      · rw [List.length_map, k2]; unfold begs; rw [List.length_map, List.length_range]; exact few7 (by omega)
      · refine ⟨_, _, _, rfl, fun b o z => ?_, ?_⟩
        · rw [upd_ne (ne_of_none z nF)]; exact s3 _ _ (s1 b o z)
        · rw [begs_next ps ns.length es (i + 1)]
          exact TL.add k1 k2 k3 (tupNew upd_same)
    · obtain ⟨y4, y5, y6, rfl, s1, T1⟩ := h
      exact ⟨.ref F0, rfl, q H1 F0 s1 T1⟩
end
end K44
set_option maxHeartbeats 4000000
namespace K44
open PySem PySem.Spec PyProof.Rows L2 RV
section
variable {P : Program} {w : World} {K : PySem.W.Frag} {mg : Str → Option Value} {base : Heap}
/-! ### least_between -/
abbrev nBetweenL : List Str := ["rule", "starts", "ends", "n", "begun", "able", "walk", "left", "mark"]
theorem scBetweenL : FnScope nBetweenL ["rule", "starts", "ends", "n"] (defScope sBetween) := ⟨rfl, rfl, rfl, by decide +kernel, rfl, by decide +kernel, by decide +kernel⟩
def spBetweenL (K : PySem.W.Frag) (C : Addr) : Sp := fun vs H Q _ => ∃ (r b e : Addr) (n : Nat) (ns : List Int) (ps : List (List Int)) (bs es : List Int), vs = [.ref r, .ref b, .ref e, .int (n : Int)] ∧ RuleAt K C H r ns ps ∧ Stp ns ps ∧ ns.length ≤ 8 ∧ SqL K H b (bs.map V.int) ∧ bs.length ≤ 8 ∧ SqL K H e (es.map V.int) ∧ n ≤ 6000 ∧
  (∀ x ∈ bs, 0 ≤ x ∧ x < (ns.length : Int)) ∧ (∀ x ∈ es, 0 ≤ x ∧ x < (ns.length : Int)) ∧
  (∀ H', Same H H' → (∀ x ∈ bs, x ∉ beg (behindOf ps) ns.length es n) → Q .non H') ∧
  ∀ (H' : Hp) (t : Addr) (m : Int) (g : List Int), Same H H' → m ∈ bs → m ∈ beg (behindOf ps) ns.length es n → (∀ y ∈ bs, y ∈ beg (behindOf ps) ns.length es n → m ≤ y) → Gr (behindOf ps) (beg (behindOf ps) ns.length es) n m g → SqT K H' t (g.map V.int) → Q (.ref t) H'
theorem ok_betweenL {f C fB fM fL fG : Addr} {fd dB dM dL dG : FuncData} (F : Fun K "least_between" "least_between" sBetween f fd) (T : Txt K mg C) (B : Bare mg)
    (FB : Fun K "behind" "Rule.behind" sBehindM fB dB) (bB : Binds K dB ["self", "mark"] []) (mB : Meth K C "behind" fB) (FM : Fun K "marks" "Rule.marks" sMarksM fM dM) (bM : Binds K dM ["self"] []) (mM : Meth K C "marks" fM)
    (DL : DefAt K mg "leads_into" sLeadsInto ["rule", "mark", "marks"] fL dL) (DG : DefAt K mg "beginnings" sBegin ["rule", "ends", "n"] fG dG) : FnOk P w K mg base CX0 4 f fd ["rule", "starts", "ends", "n"] (spBetweenL K C) := by
  have GG : FnOk P w K mg base CX0 3 fG dG ["rule", "ends", "n"] (spBeginL K C) := ok_beginL DG.fn T B FB bB mB FM bM mM DL
  have GB : FnOk P w K mg base CX0 1 fB dB ["self", "mark"] (spBehindM K C) := ok_behindM FB T
  refine F.ok scBetweenL (fun vs H Q E h => ?_) (fun cdv A outer s H vs Q E hr h => ?_)
  · obtain ⟨r, b, e, n, ns, ps, bs, es, rfl, _⟩ := h
    rfl
  · obtain ⟨r, b, e, n, ns, ps, bs, es, rfl, R, S, n8, hB, b8, hE, hn, bi, ei, q1, q2⟩ := h
    have r1 := hr.mono (show 1 ≤ 3 by decide)
    have hu5 := un65 hr
    have one : (1 : Nat) ≤ sizeLine := by decide
    refine ⟨_, pss_cons (ps_set (i := 4) scBetweenL.nd rfl (Or.inr rfl) (pe_call GG hr (by rfl) DG.mg DG.fn.kp DG.bi .nil pass0 (pa_cons (pv 0) (pa_cons (pv 2) (pa_cons (pv 3) pa_nil)))))
      (pss_cons (ps_setLc (i := 5) (own := [("mark", 8)]) (g := gName 8) rfl scBetweenL.nd rfl rfl (by rfl) (pi_list (pv 1)) (blkOk_by (N := nBetweenL) (sc := defScope sBetween) (by decide +kernel))
          (fun _ _ _ _ _ => pg_name (i := 8) scBetweenL.nd rfl (Or.inl rfl)) (fun _ _ _ _ _ => pts_one (pt_cmpR (op_inTIK (K := K) rfl hu5) (pv 8) (pe_ix (ix_listK (K := K) rfl) (pv 4) (pv 3) (fun _ _ => rfl)) (by rfl))) (fun _ _ _ _ _ => pv 8))
      (pss_cons (ps_if (pt_cmpR op_eq (pe_callB call_len_seq (by rfl) B.len PySem.boot_len (pa_cons (pv 5) pa_nil)) pe_int (nomark _)) (pss_one (ps_ret pe_non)) pss_nil)
      (pss_cons (ps_set (i := 6) scBetweenL.nd rfl (Or.inl rfl) (pe_lst (pa_cons (pe_callB (cr_min rfl) (by rfl) B.min (by decide +kernel) (pa_cons (pv 5) pa_nil)) pa_nil)))
      (pss_cons (ps_for PassesOwn.never rfl (pi_range3 (by rfl) B.range (pa_cons (pe_op op_sub (pv 3) pe_int) (pa_cons (pe_un un_neg pe_int) (pa_cons (pe_un un_neg pe_int) pa_nil)))) (pg_name (i := 7) scBetweenL.nd rfl (Or.inr rfl))
        (pss_one (ps_expr (pe_bm PySem.F.plainAttrs_list PySem.F.slot_list_append PySem.F.type_list_append mt_append (pv 6) (pa_cons (pe_callB (cr_min rfl) (by rfl) B.min (by decide +kernel) (pa_cons
          (pe_lc (own := [("mark", 8)]) (g := gName 8) rfl scBetweenL.nd (pi_tup (pe_meth (pv 0) T.cl mB GB r1 bB .nil pass0 (pa_cons (pe_ix ix_list (pv 6) (pe_un un_neg pe_int) (fun _ _ => rfl)) pa_nil))) (blkOk_by (N := nBetweenL) (sc := defScope sBetween) (by decide +kernel))
            (fun _ _ _ _ _ => pg_name (i := 8) scBetweenL.nd rfl (Or.inl rfl)) (fun _ _ _ _ _ => pts_one (pt_cmpR (op_inTIK (K := K) rfl hu5) (pv 8) (pe_ix (ix_listK (K := K) rfl) (pv 4) (pv 7) (fun _ _ => rfl)) (by rfl))) (fun _ _ _ _ _ => pv 8)) pa_nil)) pa_nil)))))
      (pss_one (ps_ret (pe_tupleOf (by rfl) B.tuple (pv 6)))))))), ?_⟩
    refine ⟨.ref r, rfl, .ref e, rfl, .int (n : Int), rfl, r, e, n, ns, ps, es, rfl, R, S, n8, hE, hn, fun H1 G s1 T1 => ?_⟩
    generalize hBg : beg (behindOf ps) ns.length es = Bg at q1 q2
    -- able
    refine ⟨.ref b, rfl, b, rfl, ⟨_, s1.seq hB⟩, fun D nD => ?_⟩
    refine lc_filtL (f := fun x => decide (x ∈ Bg n)) (s1.seq hB) (by omega) nD (fun x hx H' s' A' B' kk => ?_) (fun x H' Q' k => ⟨.int x, rfl, k⟩) fun H2 s2 e2 => ?_
    · obtain ⟨xs, a, eF, ea, hA⟩ := (T1.same s').at (begs_at (show n < n + 1 by omega))
      refine ⟨.int x, rfl, .ref G, rfl, .int (n : Int), rfl, G, xs, _, _, rfl, rfl, lstNew eF, ea, a, x, _, rfl, rfl, hA, _, rfl, ?_⟩
      rw [hBg]
      exact kk H' (Same.refl H')
    have s02 := s1.trans s2
    have T2 := T1.same s2
    refine ⟨.ref D, rfl, D, _, rfl, .inl (lstNew e2), rfl, _, rfl, ?_⟩
    rw [List.length_map, decV]
    by_cases hz : bs.filter (fun x => decide (x ∈ Bg n)) = []
    · rw [hz]
      refine iteT ?_
      refine q1 H2 s02 fun x hx hn' => ?_
      have : x ∈ bs.filter (fun x => decide (x ∈ Bg n)) := List.mem_filter.mpr ⟨hx, decide_eq_true hn'⟩
      rw [hz] at this; cases this
    have hz0 : 0 < (bs.filter (fun x => decide (x ∈ Bg n))).length := List.length_pos_iff.mpr hz
    rw [decide_eq_false (show ¬ ((((bs.filter (fun x => decide (x ∈ Bg n))).length : Nat) : Int) = 0) by omega)]
    refine iteF ?_
    refine ⟨.ref D, rfl, D, _, rfl, lstNew e2, hz0, fun m0 hm0 hle => ⟨one, fun Wd nW => ?_⟩⟩
    obtain ⟨m1, m2⟩ := List.mem_filter.mp hm0
    have m2 := of_decide_eq_true m2
    have sW := same_upd (o := .lst [.int m0]) nW
    have eW : (upd H2 Wd (.lst [.int m0])) Wd = some (.lst (([] ++ [m0]).map V.int)) := upd_same
    have s03 := s02.trans sW
    have T3 := T2.same sW
    have nWH : H Wd = none := s02.free nW
    generalize upd H2 Wd (.lst [.int m0]) = H3 at eW s03 T3 ⊢
    refine ⟨.int (n : Int), rfl, _, 1, rfl, rfl, 1, rfl, 1, rfl, _, _, _, _, rfl, RgC.neg (by omega) (by omega) (by decide) (by decide), ?_⟩
    rw [show ((n : Int) - 1 - -1).toNat = n by omega]
    refine for_rangeC (lo := (n : Int) - 1) (c := -1) (n := n) (fun j σ H' => ∃ (y7 y8 : Option V) (pre : List Int) (m : Int), σ = [some (.ref r), some (.ref b), some (.ref e), some (.int (n : Int)), some (.ref G), some (.ref D), some (.ref Wd), y7, y8] ∧ Same H H' ∧ TL K H' G (begs ps ns.length es (n + 1)) ∧ H' Wd = some (.lst ((pre ++ [m]).map V.int)) ∧ pre.length = j ∧ m ∈ Bg (n - j) ∧ (0 ≤ m ∧ m < (ns.length : Int)) ∧ ∀ v, Gr (behindOf ps) Bg (n - j) m v → Gr (behindOf ps) Bg n m0 (pre ++ v))
      ⟨none, none, [], m0, rfl, s03, T3, eW, rfl, m2, bi m0 m1, fun v hv => hv⟩ (fun j σ H4 hj h => ?_) (fun σ H4 h => ?_)
    · obtain ⟨y7, y8, pre, m, rfl, s4, T4, eW4, lp, hm, hin, hG⟩ := h
      rw [show (n : Int) - 1 + (j : Int) * -1 = ((n - 1 - j : Nat) : Int) by omega]
      have R4 := R.same s4
      obtain ⟨dx, a0, b0, t0, g1, g2, g3, g4⟩ := R4.ex
      have fno := flds_no a0 b0 t0 (m := "behind") (by decide +kernel) (by decide +kernel) (by decide +kernel)
      obtain ⟨k, ek⟩ : ∃ k, n - j = k + 1 := ⟨n - j - 1, by omega⟩
      have ek2 : n - 1 - j = k := by omega
      have ek3 : n - (j + 1) = k := by omega
      rw [ek] at hm hG
      rw [ek2]
      have bl := Nat.le_trans (behind_len ps m) S.few
      refine ⟨.ref Wd, rfl, .inl ⟨rfl, _, lstNew eW4⟩, .ref r, rfl, r, dx, _, rfl, g1, fno, .ref Wd, rfl, 1, rfl, Wd, _, _, _, rfl, rfl, lstNew eW4, (by rw [List.map_append]; exact atI_last _ _), ?_⟩
      refine ⟨r, ns, ps, m.toNat, by rw [Int.toNat_of_nonneg hin.1]; rfl, R4, by omega, fun c hc => ⟨c, rfl, ⟨_, hc⟩, fun D' nD' => ?_⟩⟩
      rw [Int.toNat_of_nonneg hin.1] at hc
      refine lc_filtT (f := fun x => decide (x ∈ Bg k)) hc (by omega) nD' (fun x hx H' s' A' B' kk => ?_) (fun x H' Q' k => ⟨.int x, rfl, k⟩) fun H5 s5 e5 => ?_
      · obtain ⟨xs, a, eF, ea, hA⟩ := (T4.same s').at (begs_at (show k < n + 1 by omega))
        refine ⟨.int x, rfl, .ref G, rfl, .int (k : Int), rfl, G, xs, _, _, rfl, rfl, lstNew eF, ea, a, x, _, rfl, rfl, hA, _, rfl, ?_⟩
        rw [hBg]
        exact kk H' (Same.refl H')
      have hne : 0 < ((behindOf ps m).filter (fun x => decide (x ∈ Bg k))).length := by
        rw [← hBg] at hm
        obtain ⟨_, c', c1, c2⟩ := mem_beg.mp hm
        rw [hBg] at c2
        exact List.length_pos_iff.mpr fun z => by
          have : c' ∈ (behindOf ps m).filter (fun x => decide (x ∈ Bg k)) := List.mem_filter.mpr ⟨c1, decide_eq_true c2⟩
          rw [z] at this; cases this
      refine ⟨D', _, rfl, lstNew e5, hne, fun m' hm' hle' => ?_⟩
      obtain ⟨x1, x2⟩ := List.mem_filter.mp hm'
      have x2 := of_decide_eq_true x2
      refine ⟨Wd, _, _, rfl, rfl, s5 _ _ eW4, by rw [List.length_map, List.length_append, lp]; exact few7 (by simp; omega), ?_⟩
      refine ⟨_, _, pre ++ [m], m', rfl, fun b' o z => ?_, ?_, ?_, by rw [List.length_append, lp]; rfl, by rw [ek3]; exact x2, behind_inn S m m' x1, fun v hv => ?_⟩
      · rw [upd_ne (ne_of_none z nWH)]; exact s5 _ _ (s4 b' o z)
      · obtain ⟨as, k1, k2, k3⟩ := T4.same s5
        have hGW : G ≠ Wd := fun z => by
          rw [z, s5 _ _ eW4] at k1
          cases as with
          | nil => unfold begs at k2; rw [List.length_map, List.length_range] at k2; cases k2
          | cons a as =>
            have z2 := HO.lst.inj (Option.some.inj k1)
            cases pre <;> cases z2
        exact ⟨as, by rw [upd_ne hGW]; exact k1, k2, fun i a w ha hw => sqT_upd (s5 _ _ eW4) (k3 i a w ha hw)⟩
      · rw [upd_same, List.map_append (l₁ := pre ++ [m])]; rfl
      · rw [ek3] at hv
        have z := hG (m :: v) ⟨m', v, rfl, x1, x2, fun y y1 y2 => hle' y (List.mem_filter.mpr ⟨y1, decide_eq_true y2⟩), hv⟩
        rw [List.append_assoc]; exact z
    · obtain ⟨y7, y8, pre, m, rfl, s4, T4, eW4, lp, hm, hin, hG⟩ := h
      refine ⟨.ref Wd, rfl, .inl ⟨Wd, _, rfl, lstNew eW4, fun t nt => ?_⟩⟩
      refine q2 _ t m0 (pre ++ [m]) (s4.trans (same_upd nt)) m1 m2 (fun y y1 y2 => hle y (List.mem_filter.mpr ⟨y1, decide_eq_true y2⟩)) ?_ (tupNew upd_same)
      refine hG [m] ?_
      rw [Nat.sub_self]; rfl
end
end K44
set_option maxHeartbeats 4000000
namespace K44
open PySem PySem.Spec PyProof.Rows L2 RV
noncomputable def fB (f : Int → Int → Prop) (m : Int) : Bool := @decide (f m m) (Classical.propDecidable _)
theorem fB_iff {f : Int → Int → Prop} {m : Int} : fB f m = true ↔ f m m := @decide_eq_true_iff _ (Classical.propDecidable _)
theorem cut_last (xs : List V) (v : V) : cutV (xs ++ [v]) none (some (-1)) = xs := by
  have e : cutV (xs ++ [v]) none (some (-1)) = cutV (xs ++ [v]) none (some ((xs.length : Nat) : Int)) := by
    unfold cutV
    have z : HT.sIx (xs ++ [v]).length (xs ++ [v]).length (some (-1)) = HT.sIx (xs ++ [v]).length (xs ++ [v]).length (some ((xs.length : Nat) : Int)) := by
      rw [HT.sIx_nat]
      show (if (-1 : Int) < 0 then ((-1 : Int) + ((xs ++ [v]).length : Int)).toNat else min (-1 : Int).toNat (xs ++ [v]).length) = _
      rw [if_pos (by decide), List.length_append]
      simp; omega
    rw [z]
  rw [e, cut_to]; simp
/-- the least ring: mark by mark -/
def LR (ps : List (List Int)) (N : Nat) (p : List Int) (n : Nat) (r : List Int) : Prop := ∃ m, m ∈ p ∧ m ∈ beg (behindOf ps) N [m] n ∧ (∀ y ∈ p, y ∈ beg (behindOf ps) N [y] n → m ≤ y) ∧ Gr (behindOf ps) (beg (behindOf ps) N [m]) n m (r ++ [m])
def NR (ps : List (List Int)) (N : Nat) (p : List Int) (n : Nat) : Prop := ∀ m ∈ p, m ∉ beg (behindOf ps) N [m] n
theorem LR.uniq {ps : List (List Int)} {N : Nat} {p : List Int} {n : Nat} {r r' : List Int} (h : LR ps N p n r) (h' : LR ps N p n r') : r = r' := by
  obtain ⟨m, a1, a2, a3, a4⟩ := h
  obtain ⟨m', b1, b2, b3, b4⟩ := h'
  have e : m = m' := Int.le_antisymm (a3 m' b1 b2) (b3 m a1 a2)
  subst e
  exact List.append_cancel_right (a4.uniq b4)
theorem LR.not {ps : List (List Int)} {N : Nat} {p : List Int} {n : Nat} {r : List Int} (h : LR ps N p n r) (h' : NR ps N p n) : False := by
  obtain ⟨m, a1, a2, _⟩ := h
  exact h' m a1 a2
theorem gr_last {bh : Int → List Int} {N : Nat} {o : Int} {n : Nat} {m : Int} {g : List Int} (h : Gr bh (beg bh N [o]) n m g) (hm : m ∈ beg bh N [o] n) : ∃ r, g = r ++ [o] := by
  have w := h.wk hm
  cases n with
  | zero => exact ⟨[], by rw [w.1, w.2]; rfl⟩
  | succ n =>
    obtain ⟨_, v, _, _, e⟩ := w.unsnoc
    exact ⟨v, e⟩
section
variable {P : Program} {w : World} {K : PySem.W.Frag} {mg : Str → Option Value} {base : Heap}
/-! ### come_back -/
theorem scCB : FnScope ["ends", "marks", "mark"] ["ends", "marks"] (defScope sComeBack) := ⟨rfl, rfl, rfl, by decide +kernel, rfl, by decide +kernel, by decide +kernel⟩
def spCB (K : PySem.W.Frag) : Sp := fun vs H Q _ => ∃ (t a : Addr) (N : Nat) (f : Int → Int → Prop) (p : List Int), vs = [.ref t, .ref a] ∧ Tab K H t N f ∧ SqT K H a (p.map V.int) ∧ p.length ≤ 8 ∧ (∀ x ∈ p, 0 ≤ x ∧ x < (N : Int)) ∧
  ∀ (H' : Hp) (l : Addr), Same H H' → H' l = some (.lst ((p.filter (fB f)).map V.int)) → Q (.ref l) H'
theorem ok_cb {f : Addr} {fd : FuncData} (F : Fun K "come_back" "come_back" sComeBack f fd) : FnOk P w K mg base CX0 1 f fd ["ends", "marks"] (spCB K) := by
  refine F.ok scCB (fun vs H Q E h => ?_) (fun cdv A outer s H vs Q E hr h => ?_)
  · obtain ⟨t, a, N, f, p, rfl, _⟩ := h
    rfl
  · obtain ⟨t, a, N, f, p, rfl, hT, hA, lp, inn, q⟩ := h
    have hu5 := un65 hr
    refine ⟨_, pss_one (ps_ret (pe_lc (own := [("mark", 2)]) (g := gName 2) rfl scCB.nd (pi_tup (pv 1)) (blkOk_by (N := ["ends", "marks", "mark"]) (sc := defScope sComeBack) (by decide +kernel))
          (fun _ _ _ _ _ => pg_name (i := 2) scCB.nd rfl (Or.inl rfl)) (fun _ _ _ _ _ => pts_one (pt_cmpR (op_inTIK (K := K) rfl hu5) (pv 2) (pe_ix (ix_tupK (K := K) rfl) (pv 0) (pv 2) (fun _ _ => rfl)) (by rfl))) (fun _ _ _ _ _ => pv 2))), ?_⟩
    refine ⟨.ref a, rfl, a, rfl, ⟨_, hA⟩, fun D nD => ?_⟩
    refine lc_filtT (f := fB f) hA (by omega) nD (fun x hx H' s' A' B' kk => ?_) (fun x H' Q' k => ⟨.int x, rfl, k⟩) fun H2 s2 e2 => q H2 D s2 e2
    obtain ⟨vs, c, xs, k1, k2, k3, k4, k5, k6⟩ := (hT.same s').at (inn x hx).1 (inn x hx).2
    refine ⟨.int x, rfl, .ref t, rfl, .int x, rfl, t, vs, x, .ref c, rfl, rfl, k1, k2, c, x, xs, rfl, rfl, k3, _, rfl, ?_⟩
    rw [show decide (x ∈ xs) = fB f x by rw [Bool.eq_iff_iff, decide_eq_true_iff, fB_iff]; exact k6 x]
    exact kk H' (Same.refl H')
/-! ### least_ring -/
abbrev nLR : List Str := ["rule", "part", "n", "starts", "walk"]
theorem scLR : FnScope nLR ["rule", "part", "n"] (defScope sLeastR) := ⟨rfl, rfl, rfl, by decide +kernel, rfl, by decide +kernel, by decide +kernel⟩
def spLR (K : PySem.W.Frag) (C : Addr) : Sp := fun vs H Q _ => ∃ (r : Addr) (k n : Nat) (ns p : List Int) (ps : List (List Int)), vs = [.ref r, .int (k : Int), .int (n : Int)] ∧ RuleAt K C H r ns ps ∧ Mir ns ∧ Stp ns ps ∧ (partsOf ps ns.length)[k]? = some p ∧ 1 ≤ n ∧ n ≤ 6000 ∧
  (∀ H', Same H H' → NR ps ns.length p n → Q .non H') ∧ ∀ (H' : Hp) (t : Addr) (l : List Int), Same H H' → LR ps ns.length p n l → SqT K H' t (l.map V.int) → Q (.ref t) H'
theorem ok_lr {f C fP fO fC fW : Addr} {fd dP dO dC dW : FuncData} (F : Fun K "least_ring" "least_ring" sLeastR f fd) (B : Bare mg)
    (DP : DefAt K mg "parts" sParts ["rule"] fP dP) (GP : FnOk P w K mg base CX0 3 fP dP ["rule"] (spParts K C)) (DO : DefAt K mg "ends_of_walks" sOfWalks ["rule", "n"] fO dO) (GO : FnOk P w K mg base CX0 3 fO dO ["rule", "n"] (spOW K C))
    (DC : DefAt K mg "come_back" sComeBack ["ends", "marks"] fC dC) (DW : DefAt K mg "least_walk" sLeastW ["rule", "one", "other", "n"] fW dW) (GW : FnOk P w K mg base CX0 5 fW dW ["rule", "one", "other", "n"] (spLeastW K C)) : FnOk P w K mg base CX0 6 f fd ["rule", "part", "n"] (spLR K C) := by
  have GC : FnOk P w K mg base CX0 1 fC dC ["ends", "marks"] (spCB K) := ok_cb DC.fn
  refine F.ok scLR (fun vs H Q E h => ?_) (fun cdv A outer s H vs Q E hr h => ?_)
  · obtain ⟨r, k, n, ns, p, ps, rfl, _⟩ := h
    rfl
  · obtain ⟨r, k, n, ns, p, ps, rfl, R, M, S, gk, n1, n2, q1, q2⟩ := h
    have r1 := hr.mono (show 1 ≤ 5 by decide)
    have r3 := hr.mono (show 3 ≤ 5 by decide)
    refine ⟨_, pss_cons (ps_if (pt_cmpR op_lt (pv 2) pe_int (nomark _)) (pss_one (ps_ret pe_non)) pss_nil)
      (pss_cons (ps_set (i := 3) scLR.nd rfl (Or.inl rfl) (pe_call GC r1 (by rfl) DC.mg DC.fn.kp DC.bi .nil pass0 (pa_cons (pe_call GO r3 (by rfl) DO.mg DO.fn.kp DO.bi .nil pass0 (pa_cons (pv 0) (pa_cons (pv 2) pa_nil))) (pa_cons (pe_ix ix_tup (pe_call GP r3 (by rfl) DP.mg DP.fn.kp DP.bi .nil pass0 (pa_cons (pv 0) pa_nil)) (pv 1) (fun _ _ => rfl)) pa_nil))))
      (pss_cons (ps_if (pt_cmpR op_eq (pe_callB call_len_seq (by rfl) B.len PySem.boot_len (pa_cons (pv 3) pa_nil)) pe_int (nomark _)) (pss_one (ps_ret pe_non)) pss_nil)
      (pss_cons (ps_set (i := 4) scLR.nd rfl (Or.inl rfl) (pe_call GW hr (by rfl) DW.mg DW.fn.kp DW.bi .nil pass0 (pa_cons (pv 0) (pa_cons (pe_ix ix_list (pv 3) pe_int (fun _ _ => rfl)) (pa_cons (pe_ix ix_list (pv 3) pe_int (fun _ _ => rfl)) (pa_cons (pv 2) pa_nil))))))
      (pss_one (ps_ret (pe_slice sl_tupW (pv 4) po_none (po_some (pe_un un_neg pe_int)))))))), ?_⟩
    have h8 := M.few
    have hpm := List.mem_of_getElem? gk
    have lp : p.length ≤ 8 := by
      obtain ⟨m, _, _, e⟩ := mem_parts.mp hpm
      rw [e]; exact Nat.le_trans (lot_len _ _ _) h8
    have inn : ∀ x ∈ p, 0 ≤ x ∧ x < (ns.length : Int) := fun x hx => (mem_lot.mp (by rw [part_lot hpm hx]; exact hx : x ∈ lotOf ps ns.length x)).1
    refine ⟨.int (n : Int), rfl, _, _, rfl, rfl, _, rfl, ?_⟩
    rw [decide_eq_false (by omega)]
    refine iteF ?_
    refine ⟨.ref r, rfl, .int (n : Int), rfl, r, n, ns, ps, rfl, R, S, h8, fun H1 t s1 hT => ?_⟩
    refine ⟨.ref r, rfl, r, ns, ps, rfl, R.same s1, M, S, fun H2 c s2 nc hc => ?_⟩
    obtain ⟨ks, k1, k2, k3⟩ := hc
    have gk' : (ks.map (·.2))[k]? = some p := by rw [k1]; exact gk
    obtain ⟨kk, gkk, ekk⟩ := map_at gk'
    have hp : SqT K H2 kk.1 (p.map V.int) := by
      have z := (k3 kk (List.mem_of_getElem? gkk)).sq (K := K)
      rw [← ekk] at z; exact z
    refine ⟨.int (k : Int), rfl, c, _, _, .ref kk.1, rfl, rfl, tupNew k2, atI_nat (by rw [List.getElem?_map, gkk]; rfl), ?_⟩
    refine ⟨t, kk.1, ns.length, _, p, rfl, hT.same s2, hp, lp, inn, fun H3 l s3 e3 => ?_⟩
    have s03 := (s1.trans s2).trans s3
    have known : ∀ x ∈ p, (fB (lk (behindOf ps) n) x = true ↔ x ∈ beg (behindOf ps) ns.length [x] n) := fun x hx => fB_iff.trans (beg_lk (behind_inn S) (inn x hx)).symm
    refine ⟨.ref l, rfl, l, _, rfl, .inl (lstNew e3), rfl, _, rfl, ?_⟩
    rw [List.length_map, decV]
    cases hz : p.filter (fB (lk (behindOf ps) n)) with
    | nil =>
      refine iteT (q1 H3 s03 fun m hm hb => ?_)
      have z : m ∈ p.filter (fB (lk (behindOf ps) n)) := List.mem_filter.mpr ⟨hm, (known m hm).mpr hb⟩
      rw [hz] at z; cases z
    | cons m rest =>
      rw [hz] at e3
      have rise : (m :: rest).Pairwise (· < ·) := by
        rw [← hz]
        obtain ⟨x, _, _, e⟩ := mem_parts.mp hpm
        rw [e]; exact (lot_rise _ _ _).filter _
      have hm : m ∈ p.filter (fB (lk (behindOf ps) n)) := by rw [hz]; exact List.mem_cons_self
      obtain ⟨hm1, hm2⟩ := List.mem_filter.mp hm
      have hmb := (known m hm1).mp hm2
      rw [decide_eq_false (by rw [List.length_cons]; omega)]
      refine iteF ?_
      have at0 : atI ((m :: rest).map V.int) 0 = some (.int m) := atI_nat (j := 0) rfl
      refine ⟨.ref r, rfl, .ref l, rfl, l, _, 0, _, rfl, rfl, lstNew e3, at0, .ref l, rfl, l, _, 0, _, rfl, rfl, lstNew e3, at0, .int (n : Int), rfl, ?_⟩
      refine ⟨r, m, m, n, ns, ps, rfl, R.same s03, S, h8, n2, inn m hm1, inn m hm1, fun H4 s4 z => absurd hmb z, fun H4 t4 g s4 _ hg ht => ?_⟩
      obtain ⟨l0, rfl⟩ := gr_last hg hmb
      refine ⟨.ref t4, rfl, 1, rfl, _, rfl, t4, _, rfl, ht, fun t5 H5 s5 h5 => ?_⟩
      rw [List.map_append, show [m].map V.int = [.int m] from rfl, cut_last] at h5
      refine q2 H5 t5 l0 ((s03.trans s4).trans s5) ⟨m, hm1, hmb, fun y hy hyb => ?_, hg⟩ h5
      have hy2 : y ∈ p.filter (fB (lk (behindOf ps) n)) := List.mem_filter.mpr ⟨hy, (known y hy).mpr hyb⟩
      rw [hz] at hy2
      rcases List.mem_cons.mp hy2 with e | e
      · omega
      · exact Int.le_of_lt ((List.pairwise_cons.mp rise).1 y e)
end
end K44
set_option maxHeartbeats 4000000
/-! from how many steps on walks lead everywhere in a part -/
namespace RV
open PySem PySem.Spec PyProof.Rows L2
/-- so many times round -/
theorem wk_times {ps : List (List Int)} {x : Int} {t : Nat} (w : Wk ps t x x) : ∀ k : Nat, Wk ps (k * t) x x
  | 0 => by rw [Nat.zero_mul]; exact .nil x
  | k + 1 => by rw [Nat.succ_mul]; exact (wk_times w k).trans w
/-- closed walks by rests by c: the least rest from 1 on parts them all -/
theorem least_rest {ps : List (List Int)} {x : Int} {c : Nat} (c1 : 1 ≤ c) (wc : Wk ps c x x) : ∃ d t : Nat, 1 ≤ d ∧ Wk ps t x x ∧ t % c = d % c ∧ ∀ a, Wk ps a x x → d ∣ a := by
  have low : ∀ n : Nat, (∃ d, d ≤ n ∧ 1 ≤ d ∧ ∃ t, Wk ps t x x ∧ t % c = d % c) → ∃ d t : Nat, 1 ≤ d ∧ Wk ps t x x ∧ t % c = d % c ∧ ∀ d', 1 ≤ d' → d' < d → ¬ ∃ t, Wk ps t x x ∧ t % c = d' % c := fun n => by
    induction n with
    | zero => rintro ⟨d, h1, h2, _⟩; omega
    | succ n ih =>
      rintro ⟨d, h1, h2, t, wt, et⟩
      by_cases h : ∃ d, d ≤ n ∧ 1 ≤ d ∧ ∃ t, Wk ps t x x ∧ t % c = d % c
      · exact ih h
      · refine ⟨d, t, h2, wt, et, fun d' h3 h4 h5 => h ⟨d', by omega, h3, h5⟩⟩
  obtain ⟨d, t, d1, wt, et, least⟩ := low c ⟨c, Nat.le_refl _, c1, c, wc, rfl⟩
  refine ⟨d, t, d1, wt, et, fun a wa => ?_⟩
  refine Nat.dvd_of_mod_eq_zero (Classical.byContradiction fun no => ?_)
  have rlt := Nat.mod_lt a (show 0 < d by omega)
  refine least (a % d) (by omega) rlt ⟨a + (c - 1) * (a / d) * t, wa.trans (wk_times wt _), ?_⟩
  have e1 : ((t : Int) - d) % c = 0 := by
    have : ((t % c : Nat) : Int) = ((d % c : Nat) : Int) := by rw [et]
    rw [Int.natCast_emod, Int.natCast_emod] at this
    exact Int.emod_eq_emod_iff_emod_sub_eq_zero.mp this
  have h1 : (c : Int) ∣ (t : Int) - d := Int.dvd_of_emod_eq_zero e1
  have h2 : (c : Int) ∣ ((a + (c - 1) * (a / d) * t : Nat) : Int) - ((a % d : Nat) : Int) := by
    have ea : (a : Int) = (d : Int) * ((a / d : Nat) : Int) + ((a % d : Nat) : Int) := by
      have := Nat.div_add_mod a d
      exact_mod_cast this.symm
    have ec : ((c - 1 : Nat) : Int) = (c : Int) - 1 := by omega
    have e : ((a + (c - 1) * (a / d) * t : Nat) : Int) - ((a % d : Nat) : Int) = (c : Int) * (((a / d : Nat) : Int) * (t : Int)) - ((a / d : Nat) : Int) * ((t : Int) - d) := by
      rw [Int.natCast_add, Int.natCast_mul, Int.natCast_mul, ec, ea]
      generalize ((a / d : Nat) : Int) = q
      generalize ((a % d : Nat) : Int) = r
      rw [Int.sub_mul, Int.sub_mul, Int.one_mul, Int.mul_sub, Int.mul_assoc, Int.mul_comm (d : Int) q]
      omega
    rw [e]
    exact Int.dvd_sub (Int.dvd_mul_right _ _) (Int.dvd_trans h1 (Int.dvd_mul_left _ _))
  have h3 := Int.emod_eq_emod_iff_emod_sub_eq_zero.mpr (Int.emod_eq_zero_of_dvd h2)
  rw [← Int.natCast_emod, ← Int.natCast_emod] at h3
  exact_mod_cast h3
theorem wk_split {ps : List (List Int)} {i k : Int} {n : Nat} : ∀ {m : Nat}, Wk ps (n + m) i k → ∃ j, Wk ps n i j ∧ Wk ps m j k
  | 0, w => ⟨k, w, .nil k⟩
  | m + 1, w => by
    have w' : Wk ps ((n + m) + 1) i k := w
    cases w' with
    | more w1 e =>
      obtain ⟨j, h1, h2⟩ := wk_split w1
      exact ⟨j, h1, .more h2 e⟩
/-- steps of c steps at once -/
noncomputable def far (ps : List (List Int)) (n c : Nat) : List (List Int) := (upN n).flatMap fun a => ((upN n).filter fun b => @decide (Wk ps c a b) (Classical.propDecidable _)).map fun b => [a, b]
theorem mem_far {ps : List (List Int)} {n c : Nat} {a b : Int} : [a, b] ∈ far ps n c ↔ (0 ≤ a ∧ a < (n : Int)) ∧ (0 ≤ b ∧ b < (n : Int)) ∧ Wk ps c a b := by
  unfold far
  rw [List.mem_flatMap]
  constructor
  · rintro ⟨a', ha, h⟩
    obtain ⟨b', hb, e⟩ := List.mem_map.mp h
    obtain ⟨h1, h2⟩ := List.mem_filter.mp hb
    injection e with e1 e2
    injection e2 with e2 _
    subst e1 e2
    exact ⟨mem_upN.mp ha, mem_upN.mp h1, (@decide_eq_true_iff _ (Classical.propDecidable _)).mp h2⟩
  · rintro ⟨ha, hb, w⟩
    exact ⟨a, mem_upN.mpr ha, List.mem_map.mpr ⟨b, List.mem_filter.mpr ⟨mem_upN.mpr hb, (@decide_eq_true_iff _ (Classical.propDecidable _)).mpr w⟩, rfl⟩⟩
theorem far_pr {ps : List (List Int)} {n c : Nat} : ∀ q ∈ far ps n c, Pr (n : Int) q := fun q hq => by
  unfold far at hq
  obtain ⟨a, ha, h⟩ := List.mem_flatMap.mp hq
  obtain ⟨b, hb, rfl⟩ := List.mem_map.mp h
  exact ⟨a, b, rfl, mem_upN.mp ha, mem_upN.mp (List.mem_filter.mp hb).1⟩
theorem wk_far {ps : List (List Int)} {n c : Nat} (hb : ∀ q ∈ ps, Pr (n : Int) q) {x : Int} (hx : 0 ≤ x ∧ x < (n : Int)) : ∀ {k : Nat} {y : Int}, Wk ps (k * c) x y → Wk (far ps n c) k x y
  | 0, y, w => by
    rw [Nat.zero_mul] at w
    rw [w.zero]; exact .nil y
  | k + 1, y, w => by
    rw [Nat.succ_mul] at w
    obtain ⟨j, h1, h2⟩ := wk_split w
    have bj := h1.bound hb hx
    exact .more (wk_far hb hx h1) (mem_far.mpr ⟨bj, h2.bound hb bj, h2⟩)
theorem far_wk {ps : List (List Int)} {n c : Nat} {x : Int} : ∀ {k : Nat} {y : Int}, Wk (far ps n c) k x y → Wk ps (k * c) x y
  | 0, y, w => by
    rw [w.zero, Nat.zero_mul]; exact .nil y
  | k + 1, y, w => by
    cases w with
    | more w1 e =>
      rw [Nat.succ_mul]
      exact (far_wk w1).trans (mem_far.mp e).2.2
section
variable {ps : List (List Int)} {p : List Int} {x0 : Int} {g n : Nat}
/-- from a mark that is come back to by c steps all of its class are come to by n times c -/
theorem same_class (hb : ∀ q ∈ ps, Pr (n : Int) q) (kn : Knot ps p x0) (per : Per ps x0 g) (hbd : ∀ m ∈ p, 0 ≤ m ∧ m < (n : Int)) {x y : Int} (hx : x ∈ p) (hy : y ∈ p) (ec : clsN ps x0 g y = clsN ps x0 g x) {c : Nat} (c1 : 1 ≤ c) (wc : Wk ps c x x) : Wk ps (n * c) x y := by
  obtain ⟨t, wt⟩ := kn.out x hx
  obtain ⟨r, wr⟩ := kn.back x hx
  obtain ⟨u, wu⟩ := kn.out y hy
  have wL := wr.trans wu
  generalize r + u = L at wL
  have gL : g ∣ L := by
    have e1 := per.cls wt (kn.back x hx)
    have e2 := per.cls (wt.trans wL) (kn.back y hy)
    rw [ec, ← e1] at e2
    refine Int.ofNat_dvd.mp ?_
    have z : ((t + L : Nat) : Int) % g = ((t : Nat) : Int) % g := by rw [← Int.natCast_emod, ← Int.natCast_emod, e2]
    have z2 := Int.dvd_of_emod_eq_zero (Int.emod_eq_emod_iff_emod_sub_eq_zero.mp z)
    have e : ((t + L : Nat) : Int) - ((t : Nat) : Int) = (L : Int) := by omega
    rwa [e] at z2
  obtain ⟨d, t0, d1, w0, e0, dall⟩ := least_rest c1 wc
  have dg : d ∣ g := per.most d fun a _ wa => dvd_mid (dall _ ((wr.trans wa).trans wt)) (dall _ (wr.trans wt))
  obtain ⟨m, hm⟩ := Nat.dvd_trans dg gL
  have w1 := (wk_times w0 ((c - 1) * m)).trans wL
  have cd : c ∣ (c - 1) * m * t0 + L := by
    refine Int.ofNat_dvd.mp ?_
    have h1 : (c : Int) ∣ (t0 : Int) - d := by
      have : ((t0 % c : Nat) : Int) = ((d % c : Nat) : Int) := by rw [e0]
      rw [Int.natCast_emod, Int.natCast_emod] at this
      exact Int.dvd_of_emod_eq_zero (Int.emod_eq_emod_iff_emod_sub_eq_zero.mp this)
    have ecc : ((c - 1 : Nat) : Int) = (c : Int) - 1 := by omega
    have e : (((c - 1) * m * t0 + L : Nat) : Int) = (c : Int) * ((m : Int) * (t0 : Int)) - (m : Int) * ((t0 : Int) - d) := by
      rw [hm, Int.natCast_add, Int.natCast_mul, Int.natCast_mul, Int.natCast_mul, ecc, Int.sub_mul, Int.sub_mul, Int.one_mul, Int.mul_sub, Int.mul_assoc, Int.mul_comm (d : Int) m]
      omega
    rw [e]
    exact Int.dvd_sub (Int.dvd_mul_right _ _) (Int.dvd_trans h1 (Int.dvd_mul_left _ _))
  obtain ⟨k, hk⟩ := cd
  rw [hk, Nat.mul_comm] at w1
  have bx := hbd x hx
  obtain ⟨m', hm', w2⟩ := wk_short far_pr bx (wk_far hb bx w1)
  have w3 := far_wk w2
  have w4 := (wk_times wc (n - m')).trans w3
  rwa [← Nat.add_mul, Nat.sub_add_cancel hm'] at w4
/-- n steps lead everywhere -/
def Ev (ps : List (List Int)) (p : List Int) (x0 : Int) (g n : Nat) : Prop := ∀ x ∈ p, ∀ y ∈ p, clsN ps x0 g y = (clsN ps x0 g x + n) % g → Wk ps n x y
theorem step_in (kn : Knot ps p x0) {y : Int} (hy : y ∈ p) (r : Rch ps y y) : ∃ z ∈ p, [z, y] ∈ ps := by
  obtain ⟨m, w⟩ := rch_wk r
  cases w with
  | more w e =>
    refine ⟨_, ?_, e⟩
    obtain ⟨a, wa⟩ := kn.out y hy
    obtain ⟨b, wb⟩ := kn.back y hy
    exact kn.mid _ ⟨_, wa.trans w⟩ ⟨_, (Wk.one e).trans wb⟩
theorem ev_next (kn : Knot ps p x0) (per : Per ps x0 g) (rp : ∀ y ∈ p, Rch ps y y) {m : Nat} {x : Int} (h : ∀ y ∈ p, clsN ps x0 g y = (clsN ps x0 g x + m) % g → Wk ps m x y) : ∀ y ∈ p, clsN ps x0 g y = (clsN ps x0 g x + (m + 1)) % g → Wk ps (m + 1) x y := fun y hy ey => by
  obtain ⟨z, hz, e⟩ := step_in kn hy (rp y hy)
  refine .more (h z hz ?_) e
  obtain ⟨t, wt⟩ := kn.out z hz
  have pos := per.pos (rp x0 kn.x_in)
  rw [← per.cls (wt.trans (.one e)) (kn.back y hy)] at ey
  rw [← per.cls wt (kn.back z hz)]
  have e1 : ((t + 1 : Nat) : Int) % g = ((clsN ps x0 g x + (m + 1) : Nat) : Int) % g := by rw [← Int.natCast_emod, ← Int.natCast_emod, ey]
  have e2 := Int.emod_eq_emod_iff_emod_sub_eq_zero.mp e1
  have e3 : ((t : Nat) : Int) % g = ((clsN ps x0 g x + m : Nat) : Int) % g := by
    refine Int.emod_eq_emod_iff_emod_sub_eq_zero.mpr ?_
    rw [show ((t : Nat) : Int) - ((clsN ps x0 g x + m : Nat) : Int) = ((t + 1 : Nat) : Int) - ((clsN ps x0 g x + (m + 1) : Nat) : Int) by omega]
    exact e2
  rw [← Int.natCast_emod, ← Int.natCast_emod] at e3
  exact_mod_cast e3
/-- by so many steps of a part of up to n marks: everywhere -/
theorem ev_far (hb : ∀ q ∈ ps, Pr (n : Int) q) (kn : Knot ps p x0) (per : Per ps x0 g) (hbd : ∀ m ∈ p, 0 ≤ m ∧ m < (n : Int)) (rp : ∀ y ∈ p, Rch ps y y) : Ev ps p x0 g (n * (n + 1)) := fun x hx => by
  -- a way back to x by n + 1 steps at most
  obtain ⟨c, c1, cn, wc⟩ : ∃ c, 1 ≤ c ∧ c ≤ n + 1 ∧ Wk ps c x x := by
    obtain ⟨z, _, e⟩ := step_in kn hx (rp x hx)
    obtain ⟨t, wt⟩ := rch_wk (rp x hx)
    cases wt with
    | more w e2 =>
      obtain ⟨m', hm', w'⟩ := wk_short hb (hbd x hx) w
      exact ⟨m' + 1, by omega, by omega, .more w' e2⟩
  have gc : g ∣ c := by
    obtain ⟨a, wa⟩ := kn.out x hx
    obtain ⟨b, wb⟩ := kn.back x hx
    exact dvd_mid (per.all _ ((wa.trans wc).trans wb)) (per.all _ (wa.trans wb))
  have base : ∀ y ∈ p, clsN ps x0 g y = (clsN ps x0 g x + n * c) % g → Wk ps (n * c) x y := fun y hy ey => by
    refine same_class hb kn per hbd hx hy ?_ c1 wc
    obtain ⟨k, hk⟩ := gc
    obtain ⟨t, wt⟩ := kn.out x hx
    have ex := per.cls wt (kn.back x hx)
    rw [ey, hk, ← Nat.mul_assoc, Nat.mul_comm n g, Nat.mul_assoc, Nat.add_mul_mod_self_left, ← ex, Nat.mod_mod]
  have up : ∀ j, ∀ y ∈ p, clsN ps x0 g y = (clsN ps x0 g x + (n * c + j)) % g → Wk ps (n * c + j) x y := fun j => by
    induction j with
    | zero => exact base
    | succ j ih => exact ev_next kn per rp ih
  have hle : n * c ≤ n * (n + 1) := Nat.mul_le_mul_left n cn
  have z := up (n * (n + 1) - n * c)
  rw [Nat.add_sub_cancel' hle] at z
  exact z
end
end RV
set_option maxHeartbeats 4000000
namespace K44
open PySem PySem.Spec PyProof.Rows L2 RV
theorem lk_wk {ps : List (List Int)} {N : Int} (hP : ∀ q ∈ ps, Pr N q) : ∀ {n : Nat} {a b : Int}, lk (behindOf ps) n a b → Wk ps n a b
  | 0, a, b, h => by rw [show a = b from h]; exact .nil b
  | n + 1, a, b, ⟨c, h1, h2⟩ => by
    rw [Nat.add_comm]
    exact (Wk.one ((mem_behind hP).mp h1)).trans (lk_wk hP h2)
theorem wk_lk {ps : List (List Int)} {N : Int} (hP : ∀ q ∈ ps, Pr N q) : ∀ {n : Nat} {a b : Int}, Wk ps n a b → lk (behindOf ps) n a b
  | 0, a, b, h => h.zero
  | n + 1, a, b, h => by
    cases h with
    | more w e => exact lk_add.mpr ⟨_, wk_lk hP w, lk_one.mpr ((mem_behind hP).mpr e)⟩
/-- the pairs (mark, class) of a part, as a list of tuples -/
def KnownAt (H : Hp) (L : Addr) (ps : List (List Int)) (N : Nat) (p : List Int) : Prop := ∃ ts : List Addr, H L = some (.lst (ts.map V.ref)) ∧ ts.length = p.length ∧ ∀ (j : Nat) (t : Addr), ts[j]? = some t → ∃ m, p[j]? = some m ∧ H t = some (.tup [.int m, .int ((clsM ps N m : Nat) : Int)])
theorem KnownAt.same {H H' : Hp} {L : Addr} {ps : List (List Int)} {N : Nat} {p : List Int} (h : KnownAt H L ps N p) (s : Same H H') : KnownAt H' L ps N p := by
  obtain ⟨ts, h1, h2, h3⟩ := h
  exact ⟨ts, s _ _ h1, h2, fun j t ht => (h3 j t ht).imp fun m z => ⟨z.1, s _ _ z.2⟩⟩
section
variable {P : Program} {w : World} {K : PySem.W.Frag} {mg : Str → Option Value} {base : Heap}
/-! ### lead_everywhere -/
abbrev nLead : List Str := ["ends", "known", "its_period", "n", "one", "its_class", "wanted", "other", "k"]
theorem scLead : FnScope nLead ["ends", "known", "its_period", "n"] (defScope sLead) := ⟨rfl, rfl, rfl, by decide +kernel, rfl, by decide +kernel, by decide +kernel⟩
def spLead (K : PySem.W.Frag) : Sp := fun vs H Q _ => ∃ (e L : Addr) (g n N : Nat) (p : List Int) (ps : List (List Int)), vs = [.ref e, .ref L, .int (g : Int), .int (n : Int)] ∧ N ≤ 8 ∧ p.length ≤ 8 ∧ 0 < g ∧ (∀ x ∈ p, 0 ≤ x ∧ x < (N : Int)) ∧ Tab K H e N (lk (behindOf ps) n) ∧ KnownAt H L ps N p ∧
  ∀ (H' : Hp) (b : Bool), Same H H' → (b = true ↔ ∀ x ∈ p, ∀ y ∈ p, clsM ps N y = (clsM ps N x + n) % g → lk (behindOf ps) n x y) → Q (.bl b) H'
theorem ok_lead {f : Addr} {fd : FuncData} (F : Fun K "lead_everywhere" "lead_everywhere" sLead f fd) (B : Bare mg) : FnOk P w K mg base CX0 1 f fd ["ends", "known", "its_period", "n"] (spLead K) := by
  refine F.ok scLead (fun vs H Q E h => ?_) (fun cdv A outer s H vs Q E hr h => ?_)
  · obtain ⟨e, L, g, n, N, p, ps, rfl, _⟩ := h
    rfl
  · obtain ⟨e, L, g, n, N, p, ps, rfl, n8, lp, g0, inn, tab, kn, q⟩ := h
    have hu5 := un65 hr
    refine ⟨_, pss_cons (ps_for PassesOwn.never rfl (pi_list (pv 1)) (pg_tup rfl (pgs_cons (pg_name (i := 4) scLead.nd rfl (Or.inr rfl)) (pgs_cons (pg_name (i := 5) scLead.nd rfl (Or.inl rfl)) pgs_nil)))
        (pss_cons (ps_set (i := 6) scLead.nd rfl (Or.inr rfl) (pe_op op_mod (pe_op op_add (pv 5) (pv 3)) (pv 2)))
        (pss_one (ps_if (pt_not (pt_val (pe_callB (cr_all rfl) (by rfl) B.all (by decide +kernel) (pa_cons
          (pe_lc (own := [("other", 7), ("k", 8)]) (g := gTup K 2 (gCons (gName 7) (gCons (gName 8) gNil))) rfl scLead.nd (pi_list (pv 1)) (blkOk_by (N := nLead) (sc := defScope sLead) (by decide +kernel))
            (fun _ _ _ _ _ => pg_tupK rfl rfl (pgs_cons (pg_name (i := 7) scLead.nd rfl (Or.inl rfl)) (pgs_cons (pg_name (i := 8) scLead.nd rfl (Or.inl rfl)) pgs_nil)))
            (fun _ _ _ _ _ => pts_one (pt_cmpR op_eq (pv 8) (pv 6) (nomark _)))
            (fun _ _ _ _ _ => pe_cmpR (op_inTIK (K := K) rfl hu5) (pv 7) (pe_ix (ix_tupK (K := K) rfl) (pv 0) (pv 4) (fun _ _ => rfl)) (by rfl))) pa_nil)))) (pss_one (ps_ret pe_bl)) pss_nil))))
      (pss_one (ps_ret pe_bl)), ?_⟩
    obtain ⟨ts, k1, k2, k3⟩ := id kn
    refine ⟨.ref L, rfl, L, rfl, ⟨_, lstNew k1⟩, ?_⟩
    refine for_list (K := K) (a := L) (xs := ts.map V.ref) (fun i σ H' => ∃ (y4 y5 y6 y7 y8 : Option V), σ = [some (.ref e), some (.ref L), some (.int (g : Int)), some (.int (n : Int)), y4, y5, y6, y7, y8] ∧ Same H H' ∧ ∀ x ∈ p.take i, ∀ y ∈ p, clsM ps N y = (clsM ps N x + n) % g → lk (behindOf ps) n x y)
      ⟨none, none, none, none, none, rfl, Same.refl H, fun x hx => by simp at hx⟩ ?_ ?_ ?_
    · intro i σ H1 _ h
      obtain ⟨_, _, _, _, _, rfl, s1, _⟩ := h
      exact lstNew (s1 _ _ k1)
    · rintro i v σ H1 hv ⟨y4, y5, y6, y7, y8, rfl, s1, done⟩
      obtain ⟨t, gt, rfl⟩ := map_at hv
      obtain ⟨x, gx, et⟩ := k3 i t gt
      have hx := List.mem_of_getElem? gx
      have bx := inn x hx
      refine ⟨t, _, rfl, tupNew (s1 _ _ et), rfl, _, _, rfl, _, _, rfl, rfl, ?_⟩
      refine ⟨.int ((clsM ps N x : Nat) : Int), rfl, .int (n : Int), rfl, _, _, rfl, rfl, .int (g : Int), rfl, _, _, rfl, rfl, (by omega), ?_⟩
      have ew : (((clsM ps N x : Nat) : Int) + (n : Int)) % (g : Int) = (((clsM ps N x + n) % g : Nat) : Int) := by rw [Int.natCast_emod, Int.natCast_add]
      show gName 6 (V.int ((((clsM ps N x : Nat) : Int) + (n : Int)) % (g : Int))) _ _ _
      rw [ew]
      generalize hw : (clsM ps N x + n) % g = wn
      refine ⟨.ref L, rfl, L, rfl, ⟨_, lstNew (s1 _ _ k1)⟩, fun D nD => ?_⟩
      refine lc_list (K := K) (a := L) (xs := ts.map V.ref) (fun j H' => Same H1 H' ∧ ∃ bs : List Bool, H' D = some (.lst (bs.map V.bl)) ∧ bs.length ≤ j ∧ (bs.all id = true ↔ ∀ y ∈ p.take j, clsM ps N y = wn → lk (behindOf ps) n x y)) ⟨same_upd nD, [], upd_same, Nat.le_refl _, by simp⟩ (fun j H' _ h => lstNew (h.1 _ _ (s1 _ _ k1))) (fun j v H2 hv2 h => ?_) fun H2 h => ?_
      · obtain ⟨u, gu, rfl⟩ := map_at hv2
        obtain ⟨y, gy, eu⟩ := k3 j u gu
        obtain ⟨s2, bs, e2, l2, m2⟩ := h
        have hj : j < p.length := (List.getElem?_eq_some_iff.mp gy).1
        obtain ⟨vs, ca, xs, z1, z2, z3, z4, z5, z6⟩ := (tab.same (s1.trans s2)).at bx.1 bx.2
        refine ⟨u, _, rfl, tupNew ((s1.trans s2) _ _ eu), rfl, _, _, rfl, _, _, rfl, rfl, rfl, ?_⟩
        refine ⟨.int ((clsM ps N y : Nat) : Int), rfl, .int (wn : Int), rfl, rfl, _, rfl, ?_⟩
        rw [decV]
        by_cases hc : clsM ps N y = wn
        · rw [decide_eq_true (show ((clsM ps N y : Nat) : Int) = (wn : Int) by rw [hc])]
          refine iteT ⟨.int y, rfl, .ref e, rfl, .int x, rfl, e, vs, x, .ref ca, rfl, rfl, z1, z2, ca, y, xs, rfl, rfl, z3, ?_⟩
          refine ⟨_, e2, by rw [List.length_map]; exact few1 (by omega), fun b' o zz => ?_, bs ++ [decide (y ∈ xs)], by rw [upd_same, List.map_append]; rfl, by rw [List.length_append]; simp; omega, ?_⟩
          · rw [upd_ne (ne_of_none zz nD)]; exact s2 b' o zz
          · rw [List.all_append, Bool.and_eq_true, m2, List.take_add_one, gy]
            have e6 : ([decide (y ∈ xs)].all id = true) ↔ lk (behindOf ps) n x y := by
              rw [← z6 y]; simp
            rw [e6]
            constructor
            · rintro ⟨h1, h2⟩ o ho eo
              rcases List.mem_append.mp ho with ho | ho
              · exact h1 o ho eo
              · rw [List.mem_singleton.mp ho]; exact h2
            · intro h
              exact ⟨fun o ho => h o (List.mem_append_left _ ho), h y (List.mem_append_right _ (List.mem_singleton.mpr rfl)) hc⟩
        · rw [decide_eq_false (show ¬ ((clsM ps N y : Nat) : Int) = (wn : Int) by omega)]
          refine iteF ⟨s2, bs, e2, by omega, ?_⟩
          rw [m2, List.take_add_one, gy]
          constructor
          · intro h o ho eo
            rcases List.mem_append.mp ho with ho | ho
            · exact h o ho eo
            · rw [List.mem_singleton.mp ho] at eo; exact absurd eo hc
          · exact fun h o ho => h o (List.mem_append_left _ ho)
      · obtain ⟨s2, bs, e2, l2, m2⟩ := h
        rw [List.length_map, k2, List.take_of_length_le (Nat.le_refl _)] at m2
        refine ⟨D, _, rfl, lstNew e2, ?_⟩
        cases hb : bs.all id with
        | true =>
          refine ⟨true, rfl, iteF ?_⟩
          refine ⟨_, _, _, _, _, rfl, s1.trans s2, fun o ho => ?_⟩
          rw [List.take_add_one, gx] at ho
          rcases List.mem_append.mp ho with ho | ho
          · exact done o ho
          · rw [List.mem_singleton.mp ho, hw]; exact m2.mp hb
        | false =>
          refine ⟨false, rfl, iteT ?_⟩
          refine q H2 false (s1.trans s2) ⟨fun z => (by cases z), fun z => ?_⟩
          have := m2.mpr (by have := z x hx; rw [hw] at this; exact this)
          rw [hb] at this; cases this
    · rintro σ H1 ⟨y4, y5, y6, y7, y8, rfl, s1, done⟩
      refine q H1 true s1 ?_
      rw [List.length_map, k2, List.take_of_length_le (Nat.le_refl _)] at done
      exact ⟨fun _ => done, fun _ => rfl⟩
/-! ### span -/
abbrev nSpan : List Str := ["rule", "part", "its_period", "known", "step", "ends", "n"]
theorem scSpan : FnScope nSpan ["rule", "part"] (defScope sSpan) := ⟨rfl, rfl, rfl, by decide +kernel, rfl, by decide +kernel, by decide +kernel⟩
/-- the span of a part: the first number of steps from 1 on that leads everywhere -/
def SpanIs (ps : List (List Int)) (p : List Int) (T : Nat) : Prop := 1 ≤ T ∧ Ev ps p (hd0 p) (perN ps (hd0 p)) T ∧ ∀ m, 1 ≤ m → m < T → ¬ Ev ps p (hd0 p) (perN ps (hd0 p)) m
theorem SpanIs.uniq {ps : List (List Int)} {p : List Int} {T T' : Nat} (h : SpanIs ps p T) (h' : SpanIs ps p T') : T = T' := by
  rcases Nat.lt_trichotomy T T' with z | z | z
  · exact absurd h.2.1 (h'.2.2 T h.1 z)
  · exact z
  · exact absurd h'.2.1 (h.2.2 T' h'.1 z)
def spSpan (K : PySem.W.Frag) (C : Addr) : Sp := fun vs H Q _ => ∃ (r : Addr) (k : Nat) (ns : List Int) (ps : List (List Int)) (p : List Int), vs = [.ref r, .int (k : Int)] ∧ RuleAt K C H r ns ps ∧ Mir ns ∧ Stp ns ps ∧ (partsOf ps ns.length)[k]? = some p ∧
  ∀ (H' : Hp) (T : Nat), Same H H' → SpanIs ps p T → T ≤ ns.length * (ns.length + 1) → Q (.int (T : Int)) H'
theorem ok_span {f C fP fC fM fS fE fL : Addr} {fd dP dC dM dS dE dL : FuncData} (F : Fun K "span" "span" sSpan f fd) (B : Bare mg)
    (DM : DefAt K mg "period" sPeriod ["rule", "part"] fM dM) (GM : FnOk P w K mg base CX0 4 fM dM ["rule", "part"] (spPeriod K C))
    (DP : DefAt K mg "parts" sParts ["rule"] fP dP) (GP : FnOk P w K mg base CX0 3 fP dP ["rule"] (spParts K C)) (DC : DefAt K mg "classes" sClasses ["rule", "part"] fC dC) (GC : FnOk P w K mg base CX0 5 fC dC ["rule", "part"] (spClasses K C))
    (DS : DefAt K mg "ends_of_steps" sOfSteps ["rule"] fS dS) (GS : FnOk P w K mg base CX0 2 fS dS ["rule"] (spTab K C 1)) (DE : DefAt K mg "ends_behind" sEndsBehind ["first", "second"] fE dE) (DL : DefAt K mg "lead_everywhere" sLead ["ends", "known", "its_period", "n"] fL dL) :
    FnOk P w K mg base CX0 6 f fd ["rule", "part"] (spSpan K C) := by
  have GE : FnOk P w K mg base CX0 1 fE dE ["first", "second"] (spEB K) := ok_eb DE.fn B
  have GL : FnOk P w K mg base CX0 1 fL dL ["ends", "known", "its_period", "n"] (spLead K) := ok_lead DL.fn B
  refine F.ok scSpan (fun vs H Q E h => ?_) (fun cdv A outer s H vs Q E hr h => ?_)
  · obtain ⟨r, k, ns, ps, p, rfl, _⟩ := h
    rfl
  · obtain ⟨r, k, ns, ps, p, rfl, R, M, S, gk, q⟩ := h
    have r1 := hr.mono (show 1 ≤ 5 by decide)
    have r2 := hr.mono (show 2 ≤ 5 by decide)
    have r3 := hr.mono (show 3 ≤ 5 by decide)
    have r4 := hr.mono (show 4 ≤ 5 by decide)
    refine ⟨_, pss_cons (ps_set (i := 2) scSpan.nd rfl (Or.inl rfl) (pe_call GM r4 (by rfl) DM.mg DM.fn.kp DM.bi .nil pass0 (pa_cons (pv 0) (pa_cons (pv 1) pa_nil))))
      (pss_cons (ps_set (i := 3) scSpan.nd rfl (Or.inl rfl) (pe_listZip rfl (by rfl) B.list (by rfl) B.zip (pa_cons (pe_ix ix_tup (pe_call GP r3 (by rfl) DP.mg DP.fn.kp DP.bi .nil pass0 (pa_cons (pv 0) pa_nil)) (pv 1) (fun _ _ => rfl)) (pa_cons (pe_call GC hr (by rfl) DC.mg DC.fn.kp DC.bi .nil pass0 (pa_cons (pv 0) (pa_cons (pv 1) pa_nil))) pa_nil))))
      (pss_cons (ps_set (i := 4) scSpan.nd rfl (Or.inl rfl) (pe_call GS r2 (by rfl) DS.mg DS.fn.kp DS.bi .nil pass0 (pa_cons (pv 0) pa_nil)))
      (pss_cons (ps_set (i := 5) scSpan.nd rfl (Or.inl rfl) (pv 4))
      (pss_cons (ps_set (i := 6) scSpan.nd rfl (Or.inl rfl) pe_int)
      (pss_cons (ps_while PassesOwn.never (pt_not (pt_val (pe_call GL r1 (by rfl) DL.mg DL.fn.kp DL.bi .nil pass0 (pa_cons (pv 5) (pa_cons (pv 3) (pa_cons (pv 2) (pa_cons (pv 6) pa_nil)))))))
        (pss_cons (ps_set (i := 5) scSpan.nd rfl (Or.inl rfl) (pe_call GE r1 (by rfl) DE.mg DE.fn.kp DE.bi .nil pass0 (pa_cons (pv 5) (pa_cons (pv 4) pa_nil))))
        (pss_one (ps_aug (i := 6) scSpan.nd rfl (.inl rfl) pe_int iop_add))))
      (pss_one (ps_ret (pv 6)))))))), ?_⟩
    have h8 := M.few
    have hP : ∀ q ∈ ps, Pr (ns.length : Int) q := fun q hq => S.pair q hq
    have hpm := List.mem_of_getElem? gk
    have lp : p.length ≤ 8 := part_len8 h8 hpm
    have inn : ∀ x ∈ p, 0 ≤ x ∧ x < (ns.length : Int) := fun x hx => part_bd hpm hx
    have kn := knot_of hP hpm
    have rp : ∀ y ∈ p, Rch ps y y := fun y hy => lot_some (n := ns.length) (by rw [part_lot hpm hy]; exact hy)
    refine ⟨.ref r, rfl, .int (k : Int), rfl, r, k, ns, ps, p, rfl, R, M, S, gk, fun H1 s1 per => ?_⟩
    have g0 : 0 < perN ps (hd0 p) := per.pos (rp _ kn.x_in)
    have evIs : ∀ n, Ev ps p (hd0 p) (perN ps (hd0 p)) n ↔ ∀ x ∈ p, ∀ y ∈ p, clsM ps ns.length y = (clsM ps ns.length x + n) % perN ps (hd0 p) → lk (behindOf ps) n x y := fun n => by
      constructor
      · intro h x hx y hy e
        rw [clsM_of hpm hx, clsM_of hpm hy] at e
        exact wk_lk hP (h x hx y hy e)
      · intro h x hx y hy e
        rw [← clsM_of hpm hx, ← clsM_of hpm hy] at e
        exact lk_wk hP (h x hx y hy e)
    have far := ev_far hP kn per inn rp
    have N1 : 1 ≤ ns.length := by have := inn _ kn.x_in; omega
    obtain ⟨B, eB⟩ : ∃ B, B = ns.length * (ns.length + 1) := ⟨_, rfl⟩
    rw [← eB] at far q
    have B1 : 1 ≤ B := by rw [eB]; exact Nat.mul_pos N1 (by omega)
    refine ⟨.ref r, rfl, r, ns, ps, rfl, R.same s1, M, S, fun H2 c s2 nc hc => ?_⟩
    obtain ⟨ks, k1, k2, k3⟩ := hc
    have gk' : (ks.map (·.2))[k]? = some p := by rw [k1]; exact gk
    obtain ⟨kk, gkk, ekk⟩ := map_at gk'
    have hp : SqT K H2 kk.1 (p.map V.int) := by
      have z := (k3 kk (List.mem_of_getElem? gkk)).sq (K := K)
      rw [← ekk] at z; exact z
    refine ⟨.int (k : Int), rfl, c, _, _, .ref kk.1, rfl, rfl, tupNew k2, atI_nat (by rw [List.getElem?_map, gkk]; rfl), ?_⟩
    refine ⟨.ref r, rfl, .int (k : Int), rfl, r, k, ns, ps, p, rfl, R.same (s1.trans s2), M, S, gk, fun H3 cc s3 ncc hcc pp => ?_⟩
    refine ⟨kk.1, cc, _, _, rfl, sqT_same s3 hp, tupNew hcc, fun H4 L ts s4 nL eL lts hts => ?_⟩
    have s04 := ((s1.trans s2).trans s3).trans s4
    have lts' : ts.length = p.length := by rw [lts]; unfold clsL; simp
    have kn4 : KnownAt H4 L ps ns.length p := ⟨ts, eL, lts', fun j t hj => by
      obtain ⟨x, y, e1, e2, e3⟩ := hts j t hj
      rw [List.getElem?_map] at e1
      obtain ⟨m, gm, rfl⟩ := Option.map_eq_some_iff.mp e1
      unfold clsL at e2
      rw [List.getElem?_map, List.getElem?_map, gm] at e2
      cases e2
      exact ⟨m, gm, e3⟩⟩
    refine ⟨.ref r, rfl, r, ns, ps, rfl, R.same s04, S, h8, fun H5 t s5 tab => ?_⟩
    have s05 := s04.trans s5
    refine ⟨.ref t, rfl, ?_⟩
    refine ⟨fun m σ H' => ∃ (n : Nat) (e : Addr), σ = [some (.ref r), some (.int (k : Int)), some (.int ((perN ps (hd0 p) : Nat) : Int)), some (.ref L), some (.ref t), some (.ref e), some (.int (n : Int))] ∧ Same H5 H' ∧ Tab K H' e ns.length (lk (behindOf ps) n) ∧ 1 ≤ n ∧ n + m = B ∧ ∀ j, 1 ≤ j → j < n → ¬ Ev ps p (hd0 p) (perN ps (hd0 p)) j,
      ⟨B - 1, 1, t, rfl, Same.refl H5, tab, Nat.le_refl _, by omega, fun j h1 h2 => by omega⟩, ?_⟩
    rintro m σ H6 ⟨n, e, rfl, s6, tab6, n1, em, no⟩
    refine ⟨.ref e, rfl, .ref L, rfl, .int ((perN ps (hd0 p) : Nat) : Int), rfl, .int (n : Int), rfl, e, L, perN ps (hd0 p), n, ns.length, p, ps, rfl, h8, lp, g0, inn, tab6, kn4.same (s5.trans s6), fun H7 b s7 hb => ?_⟩
    rw [← evIs n] at hb
    cases b with
    | true =>
      refine ⟨true, rfl, iteF ⟨.int (n : Int), rfl, q H7 n ((s05.trans s6).trans s7) ⟨n1, hb.mp rfl, no⟩ (by omega)⟩⟩
    | false =>
      have ne : ¬ Ev ps p (hd0 p) (perN ps (hd0 p)) n := fun z => by have := hb.mpr z; cases this
      have m0 : m ≠ 0 := fun z => ne (by rw [show n = B by omega]; exact far)
      refine ⟨false, rfl, iteT ?_⟩
      refine ⟨fun σ H' => ∃ (n' : Nat) (e : Addr), σ = [some (.ref r), some (.int (k : Int)), some (.int ((perN ps (hd0 p) : Nat) : Int)), some (.ref L), some (.ref t), some (.ref e), some (.int (n' : Int))] ∧ Same H5 H' ∧ Tab K H' e ns.length (lk (behindOf ps) n') ∧ 1 ≤ n' ∧ n' + (m - 1) = B ∧ ∀ j, 1 ≤ j → j < n' → ¬ Ev ps p (hd0 p) (perN ps (hd0 p)) j, fun σ' H' z => ⟨m - 1, by omega, z⟩, ?_⟩
      have s67 := s6.trans s7
      refine ⟨.ref e, rfl, .ref t, rfl, e, t, ns.length, _, _, rfl, h8, tab6.same s7, tab.same s67, fun H8 t8 s8 T8 => ?_⟩
      refine ⟨_, rfl, _, 1, rfl, rfl, n + 1, t8, rfl, s67.trans s8, T8.congr fun i x _ _ => lk_add.symm, by omega, by omega, fun j h1 h2 => ?_⟩
      rcases Nat.lt_or_ge j n with z | z
      · exact no j h1 z
      · rw [show j = n by omega]; exact ne
end
end K44
set_option maxHeartbeats 4000000
namespace K44
open PySem PySem.Spec PyProof.Rows L2 RV
/-! ### mirrors -/
theorem mir_bd {ns : List Int} (M : Mir ns) {x : Int} (hx : 0 ≤ x ∧ x < (ns.length : Int)) : 0 ≤ mirI ns x ∧ mirI ns x < (ns.length : Int) := M.inn _ (List.mem_of_getElem? (mirI_get hx.1 hx.2))
theorem mir_mir {ns : List Int} (M : Mir ns) {x : Int} (hx : 0 ≤ x ∧ x < (ns.length : Int)) : mirI ns (mirI ns x) = x := by
  rw [mirI_at (M.back x.toNat _ (mirI_get hx.1 hx.2))]
  omega
theorem step_bd {ns : List Int} {ps : List (List Int)} (S : Stp ns ps) {x y : Int} (h : [x, y] ∈ ps) : (0 ≤ x ∧ x < (ns.length : Int)) ∧ (0 ≤ y ∧ y < (ns.length : Int)) := by
  obtain ⟨a, b, e, ha, hb⟩ := S.pair _ h
  cases e
  exact ⟨ha, hb⟩
theorem mir_step {ns : List Int} {ps : List (List Int)} (S : Stp ns ps) {x y : Int} (h : [x, y] ∈ ps) : [mirI ns y, mirI ns x] ∈ ps := by
  obtain ⟨ha, hb⟩ := step_bd S h
  exact S.mirr _ _ _ _ h (mirI_get ha.1 ha.2) (mirI_get hb.1 hb.2)
/-! ### walks and parts -/
theorem lk_rch {ps : List (List Int)} {N : Nat} (hP : ∀ q ∈ ps, Pr (N : Int) q) : ∀ {k : Nat} {x m : Int}, lk (behindOf ps) (k + 1) x m → Rch ps x m
  | 0, x, m, ⟨c, h1, h2⟩ => by
    rw [← show c = m from h2]
    exact .one ((mem_behind hP).mp h1)
  | k + 1, x, m, ⟨c, h1, h2⟩ => Rch.trans (.one ((mem_behind hP).mp h1)) (lk_rch hP h2)
theorem in_part {ps : List (List Int)} {N : Nat} (hP : ∀ q ∈ ps, Pr (N : Int) q) {p : List Int} (hp : p ∈ partsOf ps N) {m x c : Int} (hm : m ∈ p) (hx : x ∈ p) (h1 : c ∈ behindOf ps x) {k : Nat} (h2 : lk (behindOf ps) k c m) : c ∈ p := by
  cases k with
  | zero => rw [show c = m from h2]; exact hm
  | succ k =>
    have e := part_lot hp hm
    have hxl := mem_lot.mp (by rw [e]; exact hx : x ∈ lotOf ps N m)
    have st := (mem_behind hP).mp h1
    rw [← e]
    exact mem_lot.mpr ⟨(Rch.bound hP (.one st)).2, Rch.trans hxl.2.1 (.one st), lk_rch hP h2⟩
theorem lk_mir {ns : List Int} {ps : List (List Int)} (S : Stp ns ps) : ∀ {k : Nat} {a b : Int}, lk (behindOf ps) k a b → lk (behindOf ps) k (mirI ns b) (mirI ns a)
  | 0, a, b, h => by rw [show a = b from h]; exact rfl
  | k + 1, a, b, ⟨c, h1, h2⟩ => by
    have st := mir_step S ((mem_behind (n := (ns.length : Int)) S.pair).mp h1)
    exact lk_add.mpr ⟨_, lk_mir S h2, lk_one.mpr ((mem_behind (n := (ns.length : Int)) S.pair).mpr st)⟩
theorem beg_lkE {bh : Int → List Int} {N : Nat} {E : List Int} (hb : ∀ m, ∀ c ∈ bh m, 0 ≤ c ∧ c < (N : Int)) : ∀ {n : Nat} {a : Int}, (0 ≤ a ∧ a < (N : Int)) → (a ∈ beg bh N E n ↔ ∃ o ∈ E, lk bh n a o)
  | 0, a, _ => ⟨fun h => ⟨a, h, rfl⟩, fun ⟨o, h1, h2⟩ => by rw [show a = o from h2]; exact h1⟩
  | n + 1, a, ha => by
    rw [mem_beg]
    constructor
    · rintro ⟨_, c, h1, h2⟩
      obtain ⟨o, h3, h4⟩ := (beg_lkE hb (hb a c h1)).mp h2
      exact ⟨o, h3, c, h1, h4⟩
    · rintro ⟨o, h1, c, h2, h3⟩
      exact ⟨ha, c, h2, (beg_lkE hb (hb a c h2)).mpr ⟨o, h1, h3⟩⟩
/-! ### where halves begin and end -/
noncomputable def hStart (ns : List Int) (ps : List (List Int)) (p : List Int) (z : Int) : List Int := if ownB ns p = true then (p.filter (mk2 ns ps z)).map (mirI ns) else []
def hEnd (ns : List Int) (ps : List (List Int)) (g : Int) : List Int := (upN ns.length).filter fun m => atAx ns ps m g
def hSteps (z : Int) (n : Nat) : Nat := (((n : Int) - z % 2) / 2).toNat
theorem mem_hEnd {ns : List Int} {ps : List (List Int)} {g x : Int} : x ∈ hEnd ns ps g ↔ (0 ≤ x ∧ x < (ns.length : Int)) ∧ atAx ns ps x g = true := by
  unfold hEnd
  rw [List.mem_filter, mem_upN]
theorem mem_hStart {ns : List Int} {ps : List (List Int)} {p : List Int} (own : Own ns p) {z a : Int} : a ∈ hStart ns ps p z ↔ ∃ m ∈ p, mk2 ns ps z m = true ∧ mirI ns m = a := by
  unfold hStart
  rw [if_pos (ownB_iff.mpr own), List.mem_map]
  simp only [List.mem_filter, and_assoc]
theorem hStart_in {ns : List Int} {ps : List (List Int)} {p : List Int} {z a : Int} (h : a ∈ hStart ns ps p z) : Own ns p ∧ a ∈ p := by
  unfold hStart at h
  split at h
  · rename_i o
    have o := ownB_iff.mp o
    obtain ⟨m, h1, rfl⟩ := List.mem_map.mp h
    exact ⟨o, o m (List.mem_filter.mp h1).1⟩
  · cases h
/-- at an axis a mark is its mirror, or leads to it -/
theorem ax_lk {ns : List Int} {ps : List (List Int)} {o g : Int} (h : atAx ns ps o g = true) : ∃ e : Nat, lk (behindOf ps) e o (mirI ns o) := by
  unfold atAx at h
  split at h
  · exact ⟨0, (of_decide_eq_true h).symm⟩
  · exact ⟨1, lk_one.mpr (of_decide_eq_true h)⟩
/-- a walk from a part that is its own mirror to an axis stays there -/
theorem lead_in {ns : List Int} {ps : List (List Int)} (S : Stp ns ps) {p : List Int} (hp : p ∈ partsOf ps ns.length) (own : Own ns p) {x c g : Int} (hx : x ∈ p) (h1 : c ∈ behindOf ps x) {k : Nat} (h2 : c ∈ beg (behindOf ps) ns.length (hEnd ns ps g) k) : c ∈ p := by
  have hP : ∀ q ∈ ps, Pr (ns.length : Int) q := fun q hq => S.pair q hq
  obtain ⟨o, h3, h4⟩ := (beg_lkE (fun m => behind_inn S m) (behind_inn S x c h1)).mp h2
  obtain ⟨e, h5⟩ := ax_lk (mem_hEnd.mp h3).2
  have h6 := lk_mir S (k := k + 1) (a := x) ⟨c, h1, h4⟩
  exact in_part hP hp (own x hx) hx h1 (lk_add.mpr ⟨o, h4, lk_add.mpr ⟨_, h5, h6⟩⟩)
/-- the law's own rows: from where so many steps within the part lead to its ends -/
def rowL (ps : List (List Int)) (p E : List Int) : Nat → Int → Prop
  | 0, x => x ∈ E
  | n + 1, x => x ∈ p ∧ ∃ b, rowL ps p E n b ∧ [x, b] ∈ ps
theorem rowL_in {ps : List (List Int)} {p E : List Int} (hE : ∀ x ∈ E, x ∈ p) : ∀ {n : Nat} {x : Int}, rowL ps p E n x → x ∈ p
  | 0, x, h => hE x h
  | n + 1, x, h => h.1
theorem row_beg {ns : List Int} {ps : List (List Int)} (S : Stp ns ps) {p : List Int} (hp : p ∈ partsOf ps ns.length) (own : Own ns p) {g : Int} : ∀ {k : Nat} {x : Int}, x ∈ p → (rowL ps p (p.filter fun m => atAx ns ps m g) k x ↔ x ∈ beg (behindOf ps) ns.length (hEnd ns ps g) k)
  | 0, x, hx => by
    show x ∈ p.filter _ ↔ x ∈ hEnd ns ps g
    rw [List.mem_filter, mem_hEnd]
    exact ⟨fun h => ⟨part_bd hp hx, h.2⟩, fun h => ⟨hx, h.2⟩⟩
  | k + 1, x, hx => by
    have hP : ∀ q ∈ ps, Pr (ns.length : Int) q := fun q hq => S.pair q hq
    rw [mem_beg]
    constructor
    · rintro ⟨_, b, h1, h2⟩
      have hb := rowL_in (fun x hx => (List.mem_filter.mp hx).1) h1
      exact ⟨part_bd hp hx, b, (mem_behind hP).mpr h2, (row_beg S hp own hb).mp h1⟩
    · rintro ⟨_, c, h1, h2⟩
      have hc := lead_in S hp own hx h1 h2
      exact ⟨hx, c, (row_beg S hp own hc).mpr h2, (mem_behind hP).mp h1⟩
/-! ### the least walk to any of some ends -/
theorem wkl_lk {bh : Int → List Int} {o : Int} : ∀ {k : Nat} {a : Int} {w : List Int}, WkL bh k a o w → lk bh k a o
  | 0, a, w, h => h.2
  | k + 1, a, w, ⟨c, w', _, h1, h2⟩ => ⟨c, h1, wkl_lk h2⟩
theorem gr_wkE {bh : Int → List Int} {N : Nat} {E : List Int} : ∀ {n : Nat} {m : Int} {w : List Int}, Gr bh (beg bh N E) n m w → m ∈ beg bh N E n → ∃ o ∈ E, WkL bh n m o w
  | 0, m, w, h, hm => ⟨m, hm, h, rfl⟩
  | n + 1, m, w, h, hm => by
    obtain ⟨c, w', e, a1, a2, a3, a4⟩ := h
    obtain ⟨o, h1, h2⟩ := gr_wkE a4 a2
    exact ⟨o, h1, c, w', e, a1, h2⟩
theorem gr_leastE {bh : Int → List Int} {N : Nat} {E : List Int} (hb : ∀ m, ∀ c ∈ bh m, 0 ≤ c ∧ c < (N : Int)) {o : Int} (ho : o ∈ E) : ∀ {n : Nat} {m : Int} {g w : List Int}, Gr bh (beg bh N E) n m g → WkL bh n m o w → HT.lexLt w g = false
  | 0, m, g, w, h, h' => by rw [show g = [m] from h, h'.1]; exact lex_irr _
  | n + 1, m, g, w, h, h' => by
    obtain ⟨c, g', rfl, a1, a2, a3, a4⟩ := h
    obtain ⟨d, w', rfl, b1, b2⟩ := h'
    have le := a3 d b1 ((beg_lkE hb (hb m d b1)).mpr ⟨o, ho, wkl_lk b2⟩)
    rw [HT.lexLt_cons, if_pos rfl]
    by_cases e : d = c
    · subst e
      exact gr_leastE hb ho a4 b2
    · obtain ⟨x, rfl⟩ := a4.head
      obtain ⟨y, rfl⟩ := b2.head
      rw [HT.lexLt_cons, if_neg e, decide_eq_false (by omega)]
/-- mark by mark by two tables that are one along the way -/
theorem gr_along {bh : Int → List Int} {B B' : Nat → List Int} {P : Int → Prop} (e : ∀ k m, P m → ∀ c ∈ bh m, (c ∈ B k ↔ c ∈ B' k)) (i : ∀ k c, c ∈ B' k → P c) : ∀ {n : Nat} {m : Int} {w : List Int}, P m → Gr bh B n m w → Gr bh B' n m w
  | 0, m, w, _, h => h
  | n + 1, m, w, hm, h => by
    obtain ⟨c, w', rfl, a1, a2, a3, a4⟩ := h
    have a2' := (e n m hm c a1).mp a2
    exact ⟨c, w', rfl, a1, a2', fun y y1 y2 => a3 y y1 ((e n m hm y y1).mpr y2), gr_along e i (i n c a2') a4⟩
/-! ### walks by their places -/
theorem wk_of {bh : Int → List Int} : ∀ {k : Nat} {w : List Int}, w.length = k + 1 → (∀ i, i < k → w.getD (i + 1) 0 ∈ bh (w.getD i 0)) → WkL bh k (w.getD 0 0) (w.getD k 0) w
  | 0, w, hl, _ => by
    obtain ⟨x, rfl⟩ := List.length_eq_one_iff.mp hl
    exact ⟨rfl, rfl⟩
  | k + 1, w, hl, h => by
    cases w with
    | nil => cases hl
    | cons x w =>
      have hl : w.length = k + 1 := by simpa using hl
      refine ⟨w.getD 0 0, w, rfl, h 0 (by omega), ?_⟩
      exact wk_of hl fun i hi => h (i + 1) (by omega)
theorem wk_ends {bh : Int → List Int} {o : Int} : ∀ {k : Nat} {a : Int} {w : List Int}, WkL bh k a o w → w.getD 0 0 = a ∧ w.getD k 0 = o
  | 0, a, w, h => by rw [h.1, ← h.2]; exact ⟨rfl, rfl⟩
  | k + 1, a, w, h => by
    obtain ⟨c, w', rfl, h1, h2⟩ := h
    exact ⟨rfl, (wk_ends h2).2⟩
end K44
set_option maxHeartbeats 4000000
namespace K44
open PySem PySem.Spec PyProof.Rows L2 RV
/-- the half of a ring from the axis s on -/
def halfOf (r : List Int) (s : Int) (m : Nat) : List Int := (List.range m).map fun k : Nat => at_ r (s / 2 + s % 2 + (k : Int))
theorem hof_len (r : List Int) (s : Int) (m : Nat) : (halfOf r s m).length = m := by unfold halfOf; rw [List.length_map, List.length_range]
theorem half_at {r : List Int} {s : Int} {m i : Nat} (h : i < m) : (halfOf r s m).getD i 0 = at_ r (s / 2 + s % 2 + (i : Int)) := by
  unfold halfOf
  rw [List.getD_eq_getElem?_getD, List.getElem?_map, List.getElem?_range h]; rfl
/-- how many steps, and what is left over -/
theorem hs_split (z : Int) {n : Nat} (h1 : 1 ≤ n) : ∃ (g e : Int), z % 2 = g ∧ (g = 0 ∨ g = 1) ∧ (e = 0 ∨ e = 1) ∧ (n : Int) = 2 * ((hSteps z n : Nat) : Int) + e + g ∧ (z + (n : Int)) % 2 = e := by
  unfold hSteps
  refine ⟨z % 2, ((n : Int) - z % 2) % 2, rfl, by omega, by omega, ?_, by omega⟩
  rw [Int.toNat_of_nonneg (by omega)]
  omega
/-- the half of a mirrored ring is a walk from a start to an end -/
theorem half_walk {ns : List Int} {ps : List (List Int)} (S : Stp ns ps) {p : List Int} (hp : p ∈ partsOf ps ns.length) (own : Own ns p) {r : List Int} {n : Nat} (h1 : 1 ≤ n) (hl : r.length = n) (inp : ∀ x ∈ r, x ∈ p) (st : ∀ i : Int, [at_ r i, at_ r (i + 1)] ∈ ps) {s z : Int}
    (hz : 2 * ((clsM ps ns.length (at_ r (s / 2)) : Nat) : Int) + s % 2 = z) (mi : mirB ns r s = true) :
    ∃ a ∈ hStart ns ps p z, ∃ o ∈ hEnd ns ps ((z + (n : Int)) % 2), WkL (behindOf ps) (hSteps z n) a o (halfOf r s (hSteps z n + 1)) := by
  have hP : ∀ q ∈ ps, Pr (ns.length : Int) q := fun q hq => S.pair q hq
  have h0 : 0 < r.length := by omega
  have mi := (mir_iff h0 s).mp mi
  have mi : ∀ q : Int, at_ r (s - q) = mirI ns (at_ r q) := mi
  obtain ⟨g, e, hg, g01, e01, hn, hne⟩ := hs_split z h1
  have hsg : s % 2 = g := by omega
  generalize hSteps z n = k at hn ⊢
  have wk := wk_of (bh := behindOf ps) (k := k) (w := halfOf r s (k + 1)) (hof_len _ _ _) fun i hi => by
    rw [half_at (by omega), half_at (by omega)]
    refine (mem_behind hP).mpr ?_
    have z := st (s / 2 + s % 2 + (i : Int))
    rw [show s / 2 + s % 2 + (i : Int) + 1 = s / 2 + s % 2 + ((i + 1 : Nat) : Int) by omega] at z
    exact z
  rw [half_at (by omega), half_at (by omega)] at wk
  refine ⟨_, (mem_hStart own).mpr ⟨at_ r (s / 2), inp _ (at_mem h0 _), ?_, ?_⟩, _, mem_hEnd.mpr ⟨part_bd hp (inp _ (at_mem h0 _)), ?_⟩, wk⟩
  · unfold mk2
    rw [Bool.and_eq_true, decide_eq_true_iff]
    refine ⟨?_, by omega⟩
    unfold atAx
    rw [hg]
    have m2 := mi (s / 2)
    rcases g01 with y | y
    · rw [if_pos y]
      refine decide_eq_true ?_
      rw [← m2, show s - s / 2 = s / 2 by omega]
    · rw [if_neg (by omega)]
      refine decide_eq_true ((mem_behind hP).mpr ?_)
      rw [← m2, show s - s / 2 = s / 2 + 1 by omega]
      exact st _
  · rw [← mi (s / 2)]
    congr 1; omega
  · rw [hne]
    unfold atAx
    have m2 := mi (s / 2 + s % 2 + (k : Int))
    have m3 : at_ r (s - (s / 2 + s % 2 + (k : Int))) = at_ r (s / 2 + s % 2 + (k : Int) + e) := by
      rw [← at_add (s - (s / 2 + s % 2 + (k : Int))) 1, hl]
      congr 1; omega
    rw [m3] at m2
    rcases e01 with y | y
    · rw [if_pos y]
      refine decide_eq_true ?_
      rw [← m2, y, Int.add_zero]
    · rw [if_neg (by omega)]
      refine decide_eq_true ((mem_behind hP).mpr ?_)
      rw [← m2, y]
      exact st _
theorem lk_ring {ps : List (List Int)} {N : Nat} (hP : ∀ q ∈ ps, Pr (N : Int) q) {r : List Int} (st : ∀ i : Int, [at_ r i, at_ r (i + 1)] ∈ ps) : ∀ (k : Nat) (i : Int), lk (behindOf ps) k (at_ r i) (at_ r (i + (k : Int)))
  | 0, i => by rw [show i + ((0 : Nat) : Int) = i by omega]; exact rfl
  | k + 1, i => ⟨_, (mem_behind hP).mpr (st i), by
    have z := lk_ring hP st k (i + 1)
    rw [show i + 1 + (k : Int) = i + ((k + 1 : Nat) : Int) by omega] at z
    exact z⟩
/-- a ring with one mark of a part lies in it -/
theorem ring_in {ps : List (List Int)} {N : Nat} (hP : ∀ q ∈ ps, Pr (N : Int) q) {p : List Int} (hp : p ∈ partsOf ps N) {r : List Int} (h0 : 0 < r.length) (st : ∀ i : Int, [at_ r i, at_ r (i + 1)] ∈ ps) {b : Int} (hb : at_ r b ∈ p) : ∀ x ∈ r, x ∈ p := by
  have go : ∀ k : Nat, at_ r (b + (k : Int)) ∈ p := fun k => by
    induction k with
    | zero => rw [show b + ((0 : Nat) : Int) = b by omega]; exact hb
    | succ k ih =>
      have e : (((r.length * (k + 1) - (k + 1) : Nat) : Nat) : Int) = (r.length : Int) * ((k : Int) + 1) - ((k : Int) + 1) := by
        have : k + 1 ≤ r.length * (k + 1) := Nat.le_mul_of_pos_left _ h0
        rw [Int.ofNat_sub this, Int.natCast_mul]; rfl
      have z := lk_ring hP st (r.length * (k + 1) - (k + 1)) (b + ((k + 1 : Nat) : Int))
      rw [show b + ((k + 1 : Nat) : Int) + ((r.length * (k + 1) - (k + 1) : Nat) : Int) = b + (r.length : Int) * ((k : Int) + 1) by rw [e]; omega, at_add] at z
      refine in_part hP hp hb ih ((mem_behind hP).mpr ?_) z
      have z := st (b + (k : Int))
      rw [show b + (k : Int) + 1 = b + ((k + 1 : Nat) : Int) by omega] at z
      exact z
  intro x hx
  obtain ⟨j, hj, rfl⟩ := List.getElem_of_mem hx
  have e1 : r[j] = at_ r (j : Int) := by rw [at_small hj]; simp [List.getD, hj]
  have b0 := Int.emod_nonneg ((j : Int) - b) (show (r.length : Int) ≠ 0 by omega)
  have z := go (((j : Int) - b) % (r.length : Int)).toNat
  rw [Int.toNat_of_nonneg b0] at z
  rw [e1]
  rw [at_mod (j := (j : Int)) (by rw [Int.add_emod_emod]; congr 1; omega)] at z
  exact z
/-- marks that lead round are among all rings -/
theorem ring_mem {ps : List (List Int)} {N : Nat} (hP : ∀ q ∈ ps, Pr (N : Int) q) {p : List Int} {r : List Int} {n : Nat} (h1 : 1 ≤ n) (hl : r.length = n) (inp : ∀ x ∈ r, x ∈ p) (st : ∀ i : Int, [at_ r i, at_ r (i + 1)] ∈ ps) : r ∈ (rowsN ps p (n - 1)).filter fun r => decide ([lst0 r, hd0 r] ∈ ps) := by
  have hb : ∀ x y : Int, y ∈ behindOf ps x ↔ [x, y] ∈ ps := fun x y => mem_behind hP
  have wk := wk_of (bh := behindOf ps) (k := n - 1) (w := r) (by omega) fun i hi => by
    rw [← at_small (by omega), ← at_small (by omega)]
    exact (hb _ _).mpr (st (i : Int))
  refine List.mem_filter.mpr ⟨(mem_rows hb).mpr ⟨⟨_, _, wk⟩, inp⟩, decide_eq_true ?_⟩
  have e1 : lst0 r = at_ r ((n : Int) - 1) := by
    obtain ⟨r', y, rfl⟩ : ∃ r' y, r = r' ++ [y] := ⟨r.dropLast, r.getLast (fun z => by rw [z] at hl; simp at hl; omega), (List.dropLast_concat_getLast _).symm⟩
    have hn : n = r'.length + 1 := by rw [← hl]; simp
    rw [show (n : Int) - 1 = ((r'.length : Nat) : Int) by omega, at_small (by simp)]
    unfold lst0
    simp [List.getD]
  have e2 : hd0 r = at_ r ((n : Int) - 1 + 1) := by
    rw [show (n : Int) - 1 + 1 = 0 + (r.length : Int) * 1 by omega, at_add, show (0 : Int) = ((0 : Nat) : Int) from rfl, at_small (by omega)]
    unfold hd0
    cases r with
    | nil => rfl
    | cons y r => rfl
  rw [e1, e2]
  exact st _
/-- each walk from a start to an end is the half of a mirrored ring -/
theorem walk_half {ns : List Int} {ps : List (List Int)} (M : Mir ns) (S : Stp ns ps) {p : List Int} (hp : p ∈ partsOf ps ns.length) (own : Own ns p) {n : Nat} (h1 : 1 ≤ n) {z a o : Int} {h : List Int} (ha : a ∈ hStart ns ps p z) (ho : o ∈ hEnd ns ps ((z + (n : Int)) % 2)) (wk : WkL (behindOf ps) (hSteps z n) a o h) :
    ∃ (r : List Int) (s : Int), (r ∈ (rowsN ps p (n - 1)).filter fun r => decide ([lst0 r, hd0 r] ∈ ps)) ∧ (0 ≤ s ∧ s < 2 * (n : Int)) ∧ 2 * ((clsM ps ns.length (at_ r (s / 2)) : Nat) : Int) + s % 2 = z ∧ mirB ns r s = true ∧ halfOf r s (hSteps z n + 1) = h := by
  have hP : ∀ q ∈ ps, Pr (ns.length : Int) q := fun q hq => S.pair q hq
  obtain ⟨g, e, hg, g01, e01, hn, hne⟩ := hs_split z h1
  rw [hne] at ho
  have hap := (hStart_in ha).2
  obtain ⟨m, hm, mk, em⟩ := (mem_hStart own).mp ha
  have bm := part_bd hp hm
  generalize hSteps z n = k at hn wk ⊢
  have lh := wk.len
  obtain ⟨w0, wn⟩ := wk_ends wk
  have stp : ∀ i, i < k → [h.getD i 0, h.getD (i + 1) 0] ∈ ps := fun i hi => (mem_behind hP).mp (wk_at wk i hi)
  have bd : ∀ i, i ≤ k → 0 ≤ h.getD i 0 ∧ h.getD i 0 < (ns.length : Int) := fun i hi => by
    cases i with
    | zero => rw [w0]; exact part_bd hp hap
    | succ i => exact (step_bd S (stp i (by omega))).2
  unfold mk2 at mk
  rw [Bool.and_eq_true, decide_eq_true_iff, hg] at mk
  obtain ⟨mk1, mk2⟩ := mk
  have mw : mirI ns (h.getD 0 0) = m := by rw [w0, ← em, mir_mir M bm]
  have c0 : g = 0 → mirI ns (h.getD 0 0) = h.getD 0 0 := fun y => by
    unfold atAx at mk1
    rw [if_pos y] at mk1
    rw [mw, w0, ← em, of_decide_eq_true mk1]
  have c1 : g = 1 → [mirI ns (h.getD 0 0), h.getD 0 0] ∈ ps := fun y => by
    unfold atAx at mk1
    rw [if_neg (by omega)] at mk1
    rw [mw, w0, ← em]
    exact (mem_behind hP).mp (of_decide_eq_true mk1)
  have ho := (mem_hEnd.mp ho).2
  have d0 : e = 0 → mirI ns (h.getD k 0) = h.getD k 0 := fun y => by
    unfold atAx at ho
    rw [if_pos y] at ho
    rw [wn, of_decide_eq_true ho]
  have d1 : e = 1 → [h.getD k 0, mirI ns (h.getD k 0)] ∈ ps := fun y => by
    unfold atAx at ho
    rw [if_neg (by omega)] at ho
    rw [wn]
    exact (mem_behind hP).mp (of_decide_eq_true ho)
  -- the ring
  let F : Nat → Int := fun i => if g ≤ (i : Int) ∧ (i : Int) ≤ g + (k : Int) then h.getD ((i : Int) - g).toNat 0 else mirI ns (h.getD ((n - i) % n) 0)
  obtain ⟨r, er⟩ : ∃ r, r = (List.range n).map F := ⟨_, rfl⟩
  have hl : r.length = n := by rw [er, List.length_map, List.length_range]
  have rat : ∀ (i : Int) (j : Nat), j < n → i % (n : Int) = (j : Int) → at_ r i = F j := fun i j hj e' => by
    unfold at_
    rw [hl, e', Int.toNat_natCast, er, List.getD_eq_getElem?_getD, List.getElem?_map, List.getElem?_range hj]; rfl
  have fA : ∀ j : Nat, j ≤ k → at_ r (g + (j : Int)) = h.getD j 0 := fun j hj => by
    by_cases c : g + (j : Int) < (n : Int)
    · rw [rat _ (g + (j : Int)).toNat (by omega) (by rw [Int.emod_eq_of_lt (by omega) c]; omega)]
      show (if _ then _ else _) = _
      rw [if_pos (by omega)]
      congr 1; omega
    · have hk : k = 0 := by omega
      have hg1 : g = 1 := by omega
      have he : e = 0 := by omega
      have hj0 : j = 0 := by omega
      have hn1 : n = 1 := by omega
      subst hj0
      rw [rat _ 0 (by omega) (by rw [hn1]; exact Int.emod_one _)]
      show (if _ then _ else _) = _
      rw [if_neg (by omega), hn1]
      have := d0 he
      rw [hk] at this
      exact this
  have fB : ∀ j : Nat, j ≤ k → at_ r (-(j : Int)) = mirI ns (h.getD j 0) := fun j hj => by
    by_cases c : j = 0
    · subst c
      rw [rat _ 0 (by omega) (by simp)]
      show (if _ then _ else _) = _
      by_cases hg0 : g = 0
      · rw [if_pos (by omega), c0 hg0]
        congr 1; omega
      · rw [if_neg (by omega), Nat.sub_zero, Nat.mod_self]
    · rw [rat _ (n - j) (by omega) (mod_is (q := -1) (by omega) (by omega) (by omega))]
      show (if _ then _ else _) = _
      by_cases c2 : ((n - j : Nat) : Int) ≤ g + (k : Int)
      · have hjk : j = k := by omega
        have he : e = 0 := by omega
        rw [if_pos (by omega), hjk, d0 he]
        congr 1; omega
      · rw [if_neg (by omega)]
        congr 2
        rw [show n - (n - j) = j by omega, Nat.mod_eq_of_lt (by omega)]
  -- each place is one of -k .. n - k - 1
  have red : ∀ i : Int, ∃ (i0 q : Int), i = i0 + (r.length : Int) * q ∧ -(k : Int) ≤ i0 ∧ i0 < (n : Int) - (k : Int) := fun i => by
    have a0 := Int.emod_nonneg (i + (k : Int)) (show (n : Int) ≠ 0 by omega)
    have a1 := Int.emod_lt_of_pos (i + (k : Int)) (show (0 : Int) < (n : Int) by omega)
    refine ⟨(i + (k : Int)) % (n : Int) - (k : Int), (i + (k : Int)) / (n : Int), ?_, by omega, by omega⟩
    have := Int.emod_add_mul_ediv (i + (k : Int)) (n : Int)
    rw [hl]; omega
  have st : ∀ i : Int, [at_ r i, at_ r (i + 1)] ∈ ps := fun i => by
    obtain ⟨i0, q, ei, lo, hi⟩ := red i
    rw [ei, show i0 + (r.length : Int) * q + 1 = (i0 + 1) + (r.length : Int) * q by omega, at_add, at_add]
    by_cases c : i0 < 0
    · obtain ⟨j, ej⟩ : ∃ j : Nat, i0 = -((j + 1 : Nat) : Int) := ⟨(-i0 - 1).toNat, by omega⟩
      rw [show i0 + 1 = -(j : Int) by omega, ej, fB (j + 1) (by omega), fB j (by omega)]
      exact mir_step S (stp j (by omega))
    · by_cases c2 : i0 < g
      · have hg1 : g = 1 := by omega
        have z0 := fB 0 (by omega)
        have z1 := fA 0 (by omega)
        rw [show i0 = -((0 : Nat) : Int) by omega, z0, show -((0 : Nat) : Int) + 1 = g + ((0 : Nat) : Int) by omega, z1]
        exact c1 hg1
      · obtain ⟨j, ej⟩ : ∃ j : Nat, i0 = g + (j : Int) := ⟨(i0 - g).toNat, by omega⟩
        by_cases c3 : j < k
        · rw [ej, show g + (j : Int) + 1 = g + ((j + 1 : Nat) : Int) by omega, fA j (by omega), fA (j + 1) (by omega)]
          exact stp j c3
        · have he : e = 1 := by omega
          have hj : j = k := by omega
          rw [ej, hj, fA k (Nat.le_refl _), ← at_add (g + (k : Int) + 1) (-1), hl, show g + (k : Int) + 1 + (n : Int) * -1 = -(k : Int) by omega, fB k (Nat.le_refl _)]
          exact d1 he
  have mi : mirB ns r g = true := by
    refine (mir_iff (by omega) g).mpr fun q0 => ?_
    show at_ r (g - q0) = mirI ns (at_ r q0)
    obtain ⟨i0, q, ei, lo, hi⟩ := red q0
    rw [ei, at_add, show g - (i0 + (r.length : Int) * q) = (g - i0) + (r.length : Int) * (-q) by rw [Int.mul_neg]; omega, at_add]
    by_cases c : i0 ≤ 0
    · obtain ⟨j, ej⟩ : ∃ j : Nat, i0 = -(j : Int) := ⟨(-i0).toNat, by omega⟩
      rw [ej, show g - -(j : Int) = g + (j : Int) by omega, fA j (by omega), fB j (by omega), mir_mir M (bd j (by omega))]
    · obtain ⟨j, ej⟩ : ∃ j : Nat, i0 = g + (j : Int) := ⟨(i0 - g).toNat, by omega⟩
      rw [ej, show g - (g + (j : Int)) = -(j : Int) by omega, fA j (by omega), fB j (by omega)]
  have r0 := fB 0 (by omega)
  have r0 : at_ r 0 = m := by
    rw [show -((0 : Nat) : Int) = 0 from rfl] at r0
    rw [r0, mw]
  have inp := ring_in hP hp (by omega) st (b := 0) (by rw [r0]; exact hm)
  refine ⟨r, g, ring_mem hP h1 hl inp st, by omega, ?_, mi, ?_⟩
  · rw [show g / 2 = 0 by omega, r0, show g % 2 = g by omega]
    exact mk2.symm
  · refine List.ext_getElem (by rw [hof_len, lh]) fun i i1 i2 => ?_
    rw [hof_len] at i1
    have z := half_at (r := r) (s := g) (m := k + 1) (i := i) i1
    rw [show g / 2 + g % 2 = g by omega, fA i (by omega)] at z
    rw [List.getD_eq_getElem?_getD, List.getElem?_eq_getElem (by rw [hof_len]; exact i1), List.getD_eq_getElem?_getD, List.getElem?_eq_getElem i2] at z
    exact z
end K44
set_option maxHeartbeats 4000000
namespace K44
open PySem PySem.Spec PyProof.Rows L2 RV
section
variable {P : Program} {w : World} {K : PySem.W.Frag} {mg : Str → Option Value} {base : Heap}
/-! ### half_starts -/
abbrev nHS : List Str := ["rule", "part", "first", "gap", "known", "ahead", "mark", "k"]
theorem scHS : FnScope nHS ["rule", "part", "first"] (defScope sHalfS) := ⟨rfl, rfl, rfl, by decide +kernel, rfl, by decide +kernel, by decide +kernel⟩
def spHS (K : PySem.W.Frag) (C : Addr) : Sp := fun vs H Q _ => ∃ (r : Addr) (k : Nat) (z : Int) (p : List Int) (ns : List Int) (ps : List (List Int)), vs = [.ref r, .int (k : Int), .int z] ∧ RuleAt K C H r ns ps ∧ Mir ns ∧ Stp ns ps ∧ (partsOf ps ns.length)[k]? = some p ∧
  ∀ (H' : Hp) (l : Addr), Same H H' → H' l = some (.lst ((hStart ns ps p z).map V.int)) → Q (.ref l) H'
theorem ok_hs {f C fO fP fC fA fR : Addr} {fd dO dP dC dA dR : FuncData} (F : Fun K "half_starts" "half_starts" sHalfS f fd) (T : Txt K mg C) (B : Bare mg)
    (DO : DefAt K mg "is_own_mirror" sIsOwn ["rule", "part"] fO dO) (GO : FnOk P w K mg base CX0 6 fO dO ["rule", "part"] (spIsOwn K C)) (DP : DefAt K mg "parts" sParts ["rule"] fP dP) (GP : FnOk P w K mg base CX0 3 fP dP ["rule"] (spParts K C))
    (DC : DefAt K mg "classes" sClasses ["rule", "part"] fC dC) (GC : FnOk P w K mg base CX0 5 fC dC ["rule", "part"] (spClasses K C)) (DA : DefAt K mg "is_at_axis" sIsAt ["rule", "mark", "gap"] fA dA) (GA : FnOk P w K mg base CX0 2 fA dA ["rule", "mark", "gap"] (spIsAt K C))
    (FR : Fun K "mirror" "Rule.mirror" sMirrorM fR dR) (bR : Binds K dR ["self", "mark"] []) (mR : Meth K C "mirror" fR) : FnOk P w K mg base CX0 7 f fd ["rule", "part", "first"] (spHS K C) := by
  have GR : FnOk P w K mg base CX0 1 fR dR ["self", "mark"] (spMirrorM K C) := ok_mirrorM FR T
  refine F.ok scHS (fun vs H Q E h => ?_) (fun cdv A outer s H vs Q E hr h => ?_)
  · obtain ⟨r, k, z, p, ns, ps, rfl, _⟩ := h
    rfl
  · obtain ⟨r, k, z, p, ns, ps, rfl, R, M, S, gk, q⟩ := h
    have r1 := hr.mono (show 1 ≤ 6 by decide)
    have r2 := hr.mono (show 2 ≤ 6 by decide)
    have r3 := hr.mono (show 3 ≤ 6 by decide)
    have r5 := hr.mono (show 5 ≤ 6 by decide)
    have two : (2 : Nat) ≤ sizeLine := by decide
    refine ⟨_, pss_cons (ps_if (pt_not (pt_val (pe_call GO hr (by rfl) DO.mg DO.fn.kp DO.bi .nil pass0 (pa_cons (pv 0) (pa_cons (pv 1) pa_nil))))) (pss_one (ps_ret (pe_lst pa_nil))) pss_nil)
      (pss_cons (ps_set (i := 3) scHS.nd rfl (Or.inr rfl) (pe_op op_mod (pv 2) pe_int))
      (pss_cons (ps_set (i := 4) scHS.nd rfl (Or.inl rfl) (pe_listZip rfl (by rfl) B.list (by rfl) B.zip (pa_cons (pe_ix ix_tup (pe_call GP r3 (by rfl) DP.mg DP.fn.kp DP.bi .nil pass0 (pa_cons (pv 0) pa_nil)) (pv 1) (fun _ _ => rfl)) (pa_cons (pe_call GC r5 (by rfl) DC.mg DC.fn.kp DC.bi .nil pass0 (pa_cons (pv 0) (pa_cons (pv 1) pa_nil))) pa_nil))))
      (pss_cons (ps_setLc (i := 5) (own := [("mark", 6), ("k", 7)]) (g := gTup K 2 (gCons (gName 6) (gCons (gName 7) gNil))) rfl scHS.nd rfl rfl (by rfl) (pi_list (pv 4)) (blkOk_by (N := nHS) (sc := defScope sHalfS) (by decide +kernel))
          (fun _ _ _ _ _ => pg_tupK rfl rfl (pgs_cons (pg_name (i := 6) scHS.nd rfl (Or.inl rfl)) (pgs_cons (pg_name (i := 7) scHS.nd rfl (Or.inl rfl)) pgs_nil)))
          (fun _ _ _ _ _ => pts_one (PW.pt (pw_and (pt_cmpR op_eq (pe_op op_add (pe_op op_mul pe_int (pv 7)) (pv 3)) (pv 2) (nomark _)) (pw_and1 (pt_val (pe_call GA r2 (by rfl) DA.mg DA.fn.kp DA.bi .nil pass0 (pa_cons (pv 0) (pa_cons (pv 6) (pa_cons (pv 3) pa_nil)))))))))
          (fun _ _ _ _ _ => pv 6))
      (pss_one (ps_ret (pe_lc (own := [("mark", 6)]) (g := gName 6) (tt := tYes) rfl scHS.nd (pi_list (pv 5)) (blkOk_by (N := nHS) (sc := defScope sHalfS) (by decide +kernel))
          (fun _ _ _ _ _ => pg_name (i := 6) scHS.nd rfl (Or.inl rfl)) (fun _ _ _ _ _ => pts_nil)
          (fun _ _ _ _ _ => pe_meth (pv 0) T.cl mR GR r1 bR .nil pass0 (pa_cons (pv 6) pa_nil)))))))), ?_⟩
    have h8 := M.few
    have hpm := List.mem_of_getElem? gk
    have lp : p.length ≤ 8 := part_len8 h8 hpm
    have inn : ∀ x ∈ p, 0 ≤ x ∧ x < (ns.length : Int) := fun x hx => part_bd hpm hx
    refine ⟨.ref r, rfl, .int (k : Int), rfl, r, k, p, ns, ps, rfl, R, M, S, gk, fun H1 s1 => ⟨_, rfl, ?_⟩⟩
    unfold hStart at q
    cases ho : ownB ns p with
    | false =>
      rw [ho, if_neg (by decide)] at q
      refine iteT ⟨Nat.zero_le _, fun t nt => ?_⟩
      exact q _ t (s1.trans (same_upd nt)) upd_same
    | true =>
      rw [ho, if_pos rfl] at q
      refine iteF ?_
      refine ⟨.int z, rfl, z, 2, rfl, rfl, by show (0 : Int) < 2; decide, ?_⟩
      refine ⟨.ref r, rfl, r, ns, ps, rfl, R.same s1, M, S, fun H2 c s2 nc hc => ?_⟩
      obtain ⟨ks, k1, k2, k3⟩ := hc
      have gk' : (ks.map (·.2))[k]? = some p := by rw [k1]; exact gk
      obtain ⟨kk, gkk, ekk⟩ := map_at gk'
      have hp : SqT K H2 kk.1 (p.map V.int) := by
        have z := (k3 kk (List.mem_of_getElem? gkk)).sq (K := K)
        rw [← ekk] at z; exact z
      refine ⟨.int (k : Int), rfl, c, _, _, .ref kk.1, rfl, rfl, tupNew k2, atI_nat (by rw [List.getElem?_map, gkk]; rfl), ?_⟩
      refine ⟨.ref r, rfl, .int (k : Int), rfl, r, k, ns, ps, p, rfl, R.same (s1.trans s2), M, S, gk, fun H3 cc s3 ncc hcc pp => ?_⟩
      refine ⟨kk.1, cc, _, _, rfl, sqT_same s3 hp, tupNew hcc, fun H4 L ts s4 nL eL lts hts => ?_⟩
      have s04 := ((s1.trans s2).trans s3).trans s4
      have R4 := R.same s04
      have lts' : ts.length = p.length := by rw [lts]; unfold clsL; simp
      have hts' : ∀ (j : Nat) (t : Addr), ts[j]? = some t → ∃ m, p[j]? = some m ∧ H4 t = some (.tup [.int m, .int ((clsM ps ns.length m : Nat) : Int)]) := fun j t hj => by
        obtain ⟨x, y, e1, e2, e3⟩ := hts j t hj
        rw [List.getElem?_map] at e1
        obtain ⟨m, gm, rfl⟩ := Option.map_eq_some_iff.mp e1
        unfold clsL at e2
        rw [List.getElem?_map, List.getElem?_map, gm] at e2
        cases e2
        exact ⟨m, gm, e3⟩
      refine ⟨.ref L, rfl, L, rfl, ⟨_, lstNew eL⟩, fun D nD => ?_⟩
      refine lc_list (K := K) (a := L) (xs := ts.map V.ref) (fun i H' => Same H4 H' ∧ H' D = some (.lst (((p.take i).filter (mk2 ns ps z)).map V.int))) ⟨same_upd nD, upd_same⟩ (fun i H' _ h => lstNew (h.1 _ _ eL)) (fun i v H5 hv h => ?_) fun H5 h => ?_
      · obtain ⟨t, gt, rfl⟩ := map_at hv
        obtain ⟨s5, e5⟩ := h
        obtain ⟨m, gm, et⟩ := hts' i t gt
        have hm := inn m (List.mem_of_getElem? gm)
        have hi : i < p.length := (List.getElem?_eq_some_iff.mp gm).1
        have nxt := take_filt (c := mk2 ns ps z) gm
        have lw : ((p.take i).filter (mk2 ns ps z)).length ≤ 8 := Nat.le_trans (List.length_filter_le _ _) (Nat.le_trans (by rw [List.length_take]; exact Nat.min_le_right _ _) lp)
        refine ⟨t, _, rfl, tupNew (s5 _ _ et), rfl, _, _, rfl, _, _, rfl, rfl, rfl, ?_⟩
        refine ⟨.int ((clsM ps ns.length m : Nat) : Int), rfl, 2, _, rfl, rfl, .inl ⟨by decide, by decide⟩, .int (z % 2), rfl, _, _, rfl, rfl, .int z, rfl, rfl, _, rfl, ?_⟩
        rw [decV]
        have fin : ∀ b : Bool, b = mk2 ns ps z m → (if b = true then (∃ acc, H5 D = some (.lst acc) ∧ acc.length < sizeLine ∧ (Same H4 (upd H5 D (.lst (acc ++ [.int m]))) ∧ (upd H5 D (.lst (acc ++ [.int m]))) D = some (.lst (((p.take (i + 1)).filter (mk2 ns ps z)).map V.int)))) else (Same H4 H5 ∧ H5 D = some (.lst (((p.take (i + 1)).filter (mk2 ns ps z)).map V.int)))) := fun b hb => by
          rw [hb]
          cases e1 : mk2 ns ps z m with
          | true =>
            rw [if_pos e1] at nxt
            refine iteT ⟨_, e5, by rw [List.length_map]; exact few1 (by omega), fun b' o zz => ?_, ?_⟩
            · rw [upd_ne (ne_of_none zz nD)]; exact s5 b' o zz
            · rw [upd_same, nxt, List.map_append]; rfl
          | false =>
            rw [if_neg (by rw [e1]; decide), List.append_nil] at nxt
            exact iteF ⟨s5, by rw [nxt]; exact e5⟩
        by_cases e1 : 2 * ((clsM ps ns.length m : Nat) : Int) + z % 2 = z
        · rw [decide_eq_true e1]
          refine iteT ⟨.ref r, rfl, .int m, rfl, .int (z % 2), rfl, r, m, z % 2, ns, ps, rfl, R4.same s5, hm, _, rfl, ?_⟩
          have ff := fin (atAx ns ps m (z % 2)) (by unfold mk2; rw [decide_eq_true e1.symm, Bool.and_true])
          cases ha : atAx ns ps m (z % 2) with
          | true => rw [ha, if_pos rfl] at ff; exact iteT ⟨.int m, rfl, ff⟩
          | false => rw [ha, if_neg (by decide)] at ff; exact iteF ff
        · rw [decide_eq_false e1]
          have ff := fin false (by unfold mk2; rw [decide_eq_false (fun y => e1 y.symm), Bool.and_false])
          rw [if_neg (by decide)] at ff
          exact iteF (A := True) (iteF ff)
      · obtain ⟨s5, e5⟩ := h
        rw [List.length_map, lts', List.take_of_length_le (Nat.le_refl _)] at e5
        have lw : (p.filter (mk2 ns ps z)).length ≤ 8 := Nat.le_trans (List.length_filter_le _ _) lp
        have hin : ∀ x ∈ p.filter (mk2 ns ps z), 0 ≤ x ∧ x < (ns.length : Int) := fun x hx => inn x (List.mem_filter.mp hx).1
        generalize p.filter (mk2 ns ps z) = ws at e5 lw hin q
        have R5 := R4.same s5
        refine ⟨.ref D, rfl, D, rfl, ⟨_, lstNew e5⟩, fun D2 nD2 => ?_⟩
        refine lc_list (K := K) (a := D) (xs := ws.map V.int) (fun i H' => Same H5 H' ∧ H' D2 = some (.lst (((ws.take i).map (mirI ns)).map V.int))) ⟨same_upd nD2, upd_same⟩ (fun i H' _ h => lstNew (h.1 _ _ e5)) (fun i v H6 hv h => ?_) fun H6 h => ?_
        · obtain ⟨m, gm, rfl⟩ := map_at hv
          obtain ⟨s6, e6⟩ := h
          have hm := hin m (List.mem_of_getElem? gm)
          have hi : i < ws.length := (List.getElem?_eq_some_iff.mp gm).1
          have R6 := R5.same s6
          obtain ⟨dx, a0, b0, t0, g1, g2, g3, g4⟩ := R6.ex
          have fnm := flds_no a0 b0 t0 (m := "mirror") (by decide +kernel) (by decide +kernel) (by decide +kernel)
          have em : V.int m = .int ((m.toNat : Nat) : Int) := by rw [Int.toNat_of_nonneg hm.1]
          refine ⟨by simp [wipe, List.set_set], tt_yes ⟨.ref r, rfl, r, dx, _, rfl, g1, fnm, .int m, rfl, r, ns, ps, m.toNat, mirI ns m, by rw [← em]; rfl, R6, mirI_get hm.1 hm.2, ?_⟩⟩
          refine ⟨_, e6, by rw [List.length_map, List.length_map, List.length_take]; exact few1 (by omega), fun b' o zz => ?_, ?_⟩
          · rw [upd_ne (ne_of_none zz nD2)]; exact s6 b' o zz
          · rw [upd_same, List.take_add_one, gm, List.map_append, List.map_append]; rfl
        · obtain ⟨s6, e6⟩ := h
          rw [List.length_map, List.take_of_length_le (Nat.le_refl _)] at e6
          exact q H6 D2 ((s04.trans s5).trans s6) e6
/-! ### half_ends -/
abbrev nHE : List Str := ["rule", "first", "n", "mark"]
theorem scHE : FnScope nHE ["rule", "first", "n"] (defScope sHalfE) := ⟨rfl, rfl, rfl, by decide +kernel, rfl, by decide +kernel, by decide +kernel⟩
def spHE (K : PySem.W.Frag) (C : Addr) : Sp := fun vs H Q _ => ∃ (r : Addr) (z n : Int) (ns : List Int) (ps : List (List Int)), vs = [.ref r, .int z, .int n] ∧ RuleAt K C H r ns ps ∧ Mir ns ∧
  ∀ (H' : Hp) (l : Addr), Same H H' → H' l = some (.lst ((hEnd ns ps ((z + n) % 2)).map V.int)) → Q (.ref l) H'
theorem ok_he {f C fA fM : Addr} {fd dA dM : FuncData} (F : Fun K "half_ends" "half_ends" sHalfE f fd) (T : Txt K mg C) (B : Bare mg)
    (DA : DefAt K mg "is_at_axis" sIsAt ["rule", "mark", "gap"] fA dA) (GA : FnOk P w K mg base CX0 2 fA dA ["rule", "mark", "gap"] (spIsAt K C)) (FM : Fun K "marks" "Rule.marks" sMarksM fM dM) (bM : Binds K dM ["self"] []) (mM : Meth K C "marks" fM) : FnOk P w K mg base CX0 3 f fd ["rule", "first", "n"] (spHE K C) := by
  have GM : FnOk P w K mg base CX0 1 fM dM ["self"] (spMarksM K C) := ok_marksM FM T B
  refine F.ok scHE (fun vs H Q E h => ?_) (fun cdv A outer s H vs Q E hr h => ?_)
  · obtain ⟨r, z, n, ns, ps, rfl, _⟩ := h
    rfl
  · obtain ⟨r, z, n, ns, ps, rfl, R, M, q⟩ := h
    have r1 := hr.mono (show 1 ≤ 2 by decide)
    refine ⟨_, pss_one (ps_ret (pe_lc (own := [("mark", 3)]) (g := gName 3) rfl scHE.nd (pi_range1 (by rfl) B.range (pa_cons (pe_meth0 (pv 0) T.cl mM GM r1 bM .nil pass0) pa_nil)) (blkOk_by (N := nHE) (sc := defScope sHalfE) (by decide +kernel))
      (fun _ _ _ _ _ => pg_name (i := 3) scHE.nd rfl (Or.inl rfl)) (fun _ _ _ _ _ => pts_one (pt_val (pe_call GA hr (by rfl) DA.mg DA.fn.kp DA.bi .nil pass0 (pa_cons (pv 0) (pa_cons (pv 3) (pa_cons (pe_op op_mod (pe_op op_add (pv 1) (pv 2)) pe_int) pa_nil)))))) (fun _ _ _ _ _ => pv 3))), ?_⟩
    obtain ⟨dx, a0, b0, t0, g1, g2, g3, g4⟩ := R.ex
    have h8 := M.few
    have fno := flds_no a0 b0 t0 (m := "marks") (by decide +kernel) (by decide +kernel) (by decide +kernel)
    refine ⟨.ref r, rfl, r, dx, _, rfl, g1, fno, r, ns, ps, rfl, R, (ns.length : Int), rfl, by omega, by omega, fun D nD => ?_⟩
    rw [Int.toNat_natCast]
    refine lc_filtR (f := fun m => atAx ns ps m ((z + n) % 2)) (by omega) nD (fun x x0 x1 H' s' A' B' kk => ?_) (fun x H' Q' k => ⟨.int x, rfl, k⟩) fun H2 s2 e2 => q H2 D s2 e2
    exact ⟨.ref r, rfl, .int x, rfl, .int z, rfl, .int n, rfl, z, n, rfl, rfl, _, 2, rfl, rfl, (by show (0 : Int) < 2; decide), r, x, _, ns, ps, rfl, R.same s', ⟨x0, by omega⟩, _, rfl, kk H' (Same.refl H')⟩
/-! ### half_steps -/
theorem scHN : FnScope ["first", "n"] ["first", "n"] (defScope sHalfN) := ⟨rfl, rfl, rfl, by decide +kernel, rfl, by decide +kernel, by decide +kernel⟩
def spHN : Sp := fun vs H Q _ => ∃ z n : Int, vs = [.int z, .int n] ∧ Q (.int ((n - z % 2) / 2)) H
theorem ok_hn {f : Addr} {fd : FuncData} (F : Fun K "half_steps" "half_steps" sHalfN f fd) : FnOk P w K mg base CX0 1 f fd ["first", "n"] spHN := by
  refine F.ok scHN (fun vs H Q E h => ?_) (fun cdv A outer s H vs Q E hr h => ?_)
  · obtain ⟨z, n, rfl, _⟩ := h
    rfl
  · obtain ⟨z, n, rfl, q⟩ := h
    refine ⟨_, pss_one (ps_ret (pe_op op_fdiv (pe_op op_sub (pv 1) (pe_op op_mod (pv 0) pe_int)) pe_int)), ?_⟩
    exact ⟨.int n, rfl, .int z, rfl, z, 2, rfl, rfl, (by show (0 : Int) < 2; decide), n, _, rfl, rfl, _, 2, rfl, rfl, ⟨by decide, by decide⟩, q⟩
end
end K44
set_option maxHeartbeats 4000000
namespace K44
open PySem PySem.Spec PyProof.Rows L2 RV
theorem atI_map {ns : List Int} {i : Int} (h0 : 0 ≤ i) (h1 : i < (ns.length : Int)) : atI (ns.map V.int) i = some (.int (ns.getD i.toNat 0)) := by
  rw [show i = ((i.toNat : Nat) : Int) by omega]
  refine atI_nat ?_
  have : i.toNat < ns.length := by omega
  rw [List.getElem?_map, List.getElem?_eq_getElem this, Int.toNat_natCast]
  simp [List.getD, this]
theorem sqT_butL {K : PySem.W.Frag} {H H' : Hp} {fo : Addr} {vs : List V} (e : H fo = some (.lst vs)) (b : But fo H H') {a : Addr} {xs : List V} (h : SqT K H a xs) : SqT K H' a xs := by
  rcases h with (h | ⟨o, h⟩) | h
  · exact .inl (.inl (b _ _ h fun z => by rw [z, e] at h; cases h))
  · exact .inl (.inr ⟨o, b _ _ h fun z => by rw [z, e] at h; cases h⟩)
  · exact .inr h
section
variable {X : Cx}
theorem len_seqK {K : PySem.W.Frag} (h : X.K = K) : CallR X (.builtin "len") (fun xs H Q => ∃ p ys, xs = [.ref p] ∧ (SqL K H p ys ∨ SqT K H p ys) ∧ Q (.int ys.length) H) := h ▸ call_len_seq
end
section
variable {P : Program} {w : World} {K : PySem.W.Frag} {mg : Str → Option Value} {base : Heap}
/-! ### _law_is_mirrored -/
abbrev nIM : List Str := ["_law_own", "_law_marks", "_law_s", "_law_n", "_law_place"]
def spIsMir (K : PySem.W.Frag) : Sp := fun vs H Q _ => ∃ (o a : Addr) (s : Int) (ns ms : List Int) (ps : List (List Int)), vs = [.ref o, .ref a, .int s] ∧ OwnH K H o ns ps ∧ SqT K H a (ms.map V.int) ∧ (∀ m ∈ ms, 0 ≤ m ∧ m < (ns.length : Int)) ∧ 0 < ms.length ∧ ms.length ≤ 400 ∧ ∀ H', Same H H' → Q (.bl (mirB ns ms s)) H'
/-! ### _law_ends -/
abbrev nLE : List Str := ["_law_own", "_law_part", "_law_is_place", "_law_mark"]
def spLE (K : PySem.W.Frag) : Sp := fun vs H Q _ => ∃ (R a : Addr) (b : Bool) (ns p : List Int) (ps : List (List Int)), vs = [.ref R, .ref a, .bl b] ∧ OwnH K H R ns ps ∧ p ∈ partsOf ps ns.length ∧ SqT K H a (p.map V.int) ∧
  ∀ (H' : Hp) (l : Addr), Same H H' → H l = none → H' l = some (.lst ((p.filter fun m => atAx ns ps m (if b = true then 0 else 1)).map V.int)) → Q (.ref l) H'
/-! ### _law_half_steps -/
def spLHN : Sp := fun vs H Q _ => ∃ z n : Int, vs = [.int z, .int n] ∧ Q (.int ((n - z % 2) / 2)) H
end
end K44
set_option maxHeartbeats 4000000
/-! set(xs) of nums -/
namespace RV
open PySem PySem.Spec PyProof.Rows L2
section
variable {P : Program} {w : World} {A : Around} {E : Value → Shared → Prop} {s : Shared}
theorem SetR.names {h : Heap} {a : Addr} {S : Int → Bool} {n : Nat} (R : SetR w h a S n) : ∃ ls : List Int, ls.Nodup ∧ ls.length = n ∧ ∀ k, k ∈ ls ↔ S k = true := by
  obtain ⟨o, es, ep, t, _, _, _, _, nd, hm, _, _, hn, _⟩ := R
  exact ⟨es.toList.map keyOf, nd, by rw [List.length_map, Array.length_toList]; exact hn, fun k => (hm k).symm⟩
theorem setI_loop {R : Result → Shared → Prop} (hh : A.in1.handled = none) (S l it : Addr) (hSl : S ≠ l) (hSi : S ≠ it) (hli : l ≠ it) (items : Array Value) (ns : List Int) (few : ns.length ≤ 1000)
    (nums : ∀ (i : Nat) (k : Int), ns[i]? = some k → ∃ tk, items[i]? = some (Value.int k tk)) (size : items.size = ns.length) (old : Heap) (o1 : old.get? S = none) (o2 : old.get? it = none) :
    ∀ (k i : Nat) (s : Shared), ns.length - i = k → i ≤ ns.length → s.heap.IsListIter it l i → s.heap.IsList l items → (∀ b o, old.get? b = some o → s.heap.get? b = some o) → (∃ n, n ≤ i ∧ SetR w s.heap S (fun j => decide (j ∈ ns.take i)) n) →
      (∀ h' tk n, SetR w h' S (fun j => decide (j ∈ ns)) n → (∀ b o, old.get? b = some o → h'.get? b = some o) → R (.ok (.ret .none)) { s with heap := h', toks := tk }) →
      codeAny (model P w) A (.builtin "set.update.loop" ⟨[.ref S, .ref it], []⟩) R s
  | 0, i, s, hk, hi, hit, hl, keep, ⟨n, hn, hS⟩, fin => by
    obtain rfl : i = ns.length := by omega
    rw [List.take_length] at hS
    refine codeAny_builtin F.entry_set_update_loop ?_
    rw [Around.under_plainId F.plain_set_update_loop _]
    show wpAny _ A.in1 (pyNext (.ref it) >>= _) _ _ s
    refine wpAny_bind (wpAny_pyNext_list_end hh hit hl (by simp [size]) fun h' ext => ?_)
    exact wpAny_pure (fin h' s.toks n (hS.at fun o e => ext S o hSi e) fun b o e => ext b o (fun z => by rw [z, o2] at e; cases e) (keep b o e))
  | k + 1, i, s, hk, hi, hit, hl, keep, ⟨n, hn, hS⟩, fin => by
    obtain ⟨x, hx⟩ : ∃ x, ns[i]? = some x := ⟨_, List.getElem?_eq_getElem (by omega)⟩
    obtain ⟨tk, hv⟩ := nums i x hx
    refine codeAny_builtin F.entry_set_update_loop ?_
    rw [Around.under_plainId F.plain_set_update_loop _]
    show wpAny _ A.in1 (pyNext (.ref it) >>= _) _ _ s
    refine wpAny_bind (wpAny_pyNext_list_item hit hl hv fun h1 hit1 sb1 => ?_)
    have keep1 : ∀ b o, old.get? b = some o → h1.get? b = some o := fun b o e => (sb1.2 b fun z => by rw [z, o2] at e; cases e).trans (keep b o e)
    have hS1 := hS.at (h' := h1) fun o e => (sb1.2 S hSi).trans e
    show wpAny _ A.in1 (holding [Value.int x tk] (setAdd S (.int x tk)) >>= _) _ _ _
    refine wpAny_bind (wpAny_holding ?_)
    unfold setAdd
    refine wpAny_holding (wpAny_bind ((intKind P w).pyHash (intKind_is P w x tk) ?_))
    refine setR_add_hashed (s := { s with heap := h1, toks := s.toks + 1 }) hS1 (by show n + 1 < 4096; omega) fun h2 sb2 hS2 => ?_
    have e : (fun j => decide (j ∈ ns.take i) || decide (j = x)) = fun j => decide (j ∈ ns.take (i + 1)) := by
      funext j
      rw [List.take_add_one, hx, ← Bool.decide_or]
      refine decide_eq_decide.mpr ?_
      rw [List.mem_append]
      simp
    rw [e] at hS2
    have keep2 : ∀ b o, old.get? b = some o → h2.get? b = some o := fun b o e => (sb2.2 b fun z => by rw [z, o1] at e; cases e).trans (keep1 b o e)
    refine wpAny_pure ⟨plainId_quiet F.plain_set_update_loop _, setI_loop hh S l it hSl hSi hli items ns few nums size old o1 o2 k (i + 1) _ (by omega) (by omega)
      (hit1.at fun o e => (sb2.2 it (Ne.symm hSi)).trans e) ((hl.at fun o e => (sb1.2 l hli).trans e).at fun o e => (sb2.2 l (Ne.symm hSl)).trans e) keep2 ⟨_, by split <;> omega, hS2⟩ fun h' tk n z1 z2 => fin h' tk n z1 z2⟩
set_option maxHeartbeats 8000000 in
theorem call_setI {l : Addr} {items : Array Value} (ns : List Int) {Q : Value → Shared → Prop} (hh : A.handled = none) (hl : s.heap.IsList l items) (nums : IntsAre items.toList ns)
    (few : ns.length ≤ 1000) (hu : A.units + 3 < cLine)
    (k : ∀ (h' : Heap) (tk n : Nat), SetR w h' s.heap.objs.size (fun j => decide (j ∈ ns)) n → (∀ b o, s.heap.get? b = some o → h'.get? b = some o) → Q (.ref s.heap.objs.size) { s with heap := h', toks := tk }) :
    wpAny (model P w) A (call (.type "set") [.ref l]) Q E s := by
  have size : items.size = ns.length := by rw [← Array.length_toList]; exact IntsAre.length nums
  have nums' : ∀ (i : Nat) (k : Int), ns[i]? = some k → ∃ tk, items[i]? = some (Value.int k tk) := fun i k e => by
    have hi : i < items.size := by rw [size]; exact (List.getElem?_eq_some_iff.mp e).1
    obtain ⟨n, t, h1, h2⟩ := IntsAre.at nums i items[i] (by rw [Array.getElem?_toList]; exact Array.getElem?_eq_getElem hi)
    rw [e] at h2
    cases h2
    exact ⟨t, by rw [Array.getElem?_eq_getElem hi, h1]⟩
  obtain ⟨c, tl, hm⟩ := F.called_set.mro
  have a1 := F.called_set.made
  have a2 := F.called_set.sub
  have a3 := F.called_set.notType
  have a4 := F.called_set.canCreate
  have a5 := F.typeCall_set_1 (.ref l)
  refine wpAny_call (codeAny_of_tree ?_)
  show wpAny _ _ (callAny (.type "set") _) _ _ _
  refine wpAny_pure ⟨Code.quiet_builtin _ (by decide +kernel), codeAny_builtin F.entry_type_call ?_⟩
  rw [Around.under_plain (weight_type_call_type "set" [.ref l] []) rfl]
  repeat (any_goals (first | assumption | wp_step))
  refine codeAny_mono (code_set_led1 (.ref l) (E := E) (Q₁ := fun obj s₁ => obj = .ref s.heap.objs.size ∧ s₁ = { s with heap := s.heap.push (noneYet w) }) ⟨rfl, rfl⟩) fun r s₁ hr => ?_
  match r, hr with
  | .error e, hr => exact hr
  | .ok .next, hr => exact hr.elim
  | .ok .brk, hr => exact hr.elim
  | .ok .cont, hr => exact hr.elim
  | .ok (.ret obj), hr =>
    obtain ⟨rfl, rfl⟩ := hr
    have hS : (s.heap.push (noneYet w)).get? s.heap.objs.size = some (noneYet w) := Heap.get?_push_size _ rfl
    have hT : Shared.TypeIs { s with heap := s.heap.push (noneYet w) } (.ref s.heap.objs.size) "set" := ⟨_, hS, rfl⟩
    have b1 := F.called_set.init.lookup
    have b2 := F.called_set.init.bind (.ref s.heap.objs.size)
    repeat (any_goals (first | assumption | wp_step))
    refine codeAny_mono (codeAny_call_builtin (R := wants (fun r s₂ => r = .none ∧ ∃ h' tk n, s₂ = { s with heap := h', toks := tk } ∧ SetR w h' s.heap.objs.size (fun j => decide (j ∈ ns)) n ∧
        (∀ b o, s.heap.get? b = some o → h'.get? b = some o)) E) F.called_set.init.plain F.entry_set_init (check_set_init_1 hT ?_)) fun r₂ s₂ hr₂ => ?_
    · obtain ⟨⟨oc, od, dt, os⟩, g1, g2, nl, g3⟩ := hl
      simp only at g2 g3
      subst g2 g3
      have g4 : (s.heap.push (noneYet w)).get? l = some { cls := .type "list", dict := od, data := .seq items nl, slots := os } := Heap.get?_push_of_some _ g1
      have c1 := F.sub_list_set
      have c2 := F.sub_list_frozenset
      have c3 : (Value.type "list" == Value.type "dict") = false := by decide
      have isl : (s.heap.push (noneYet w)).IsList l items := ⟨_, g4, rfl, nl, rfl⟩
      unfold Builtin.«set.__init__» noKeywords Builtin.Frozenset.updateFrom
      generalize hpi : pyIter = pI
      wp_walk
      subst hpi
      refine wpAny_pyIter_list isl (wpAny_bind (wpAny_runValue ?_))
      have lt : l < s.heap.objs.size := Heap.lt_size g1
      have z1 : (s.heap.push (noneYet w)).objs.size = s.heap.objs.size + 1 := Heap.size_push ..
      have none1 : ∀ b, s.heap.objs.size ≤ b → s.heap.get? b = none := fun b hb => by
        cases q : s.heap.get? b with
        | none => rfl
        | some o => exact absurd (Nat.lt_of_lt_of_le (Heap.lt_size q) hb) (Nat.lt_irrefl _)
      refine setI_loop (A := A.in1.in1) (by simp [hh]) s.heap.objs.size l (s.heap.push (noneYet w)).objs.size (Nat.ne_of_gt lt) (by rw [z1]; exact Nat.ne_of_lt (Nat.lt_succ_self _)) (by rw [z1]; exact Nat.ne_of_lt (Nat.lt_succ_of_lt lt)) items ns few nums' size s.heap (none1 _ (Nat.le_refl _)) (none1 _ (by rw [z1]; exact Nat.le_succ _)) (ns.length - 0) 0 _ rfl (Nat.zero_le _)
        ⟨_, Heap.get?_push_size _ rfl, rfl, rfl⟩ (isl.push _) (fun b o e => Heap.get?_push_of_some _ (Heap.get?_push_of_some _ e)) ⟨0, Nat.le_refl _, by rw [List.take_zero]; exact (setR_fresh w).at fun o e => Heap.get?_push_of_some _ e⟩ fun h' tk n q1 q3 => ?_
      show wpAny _ _ _ _ _ _
      refine wpAny_pure ?_
      show wpAny _ _ (ret Value.none) _ _ _
      exact wpAny_pure ⟨rfl, h', tk, n, rfl, q1, q3⟩
    · match r₂, hr₂ with
      | .error e, hr₂ => exact hr₂
      | .ok .next, hr₂ => exact hr₂.elim
      | .ok .brk, hr₂ => exact hr₂.elim
      | .ok .cont, hr₂ => exact hr₂.elim
      | .ok (.ret r), hr₂ =>
        obtain ⟨rfl, h', tk, n, rfl, q1, q3⟩ := hr₂
        repeat (any_goals (first | assumption | wp_step))
        exact k _ _ _ q1 q3
end
section
variable {X : Cx}
/-- set(xs), xs a list of nums -/
def rSetI (K : PySem.W.Frag) (w : World) : List V → Hp → VK → Prop := fun xs H Q => ∃ (l : Addr) (ns : List Int), xs = [V.ref l] ∧ SqL K H l (ns.map V.int) ∧ ns.length ≤ 1000 ∧
  ∀ (a : Addr) (n : Nat), H a = none → (∃ ls : List Int, ls.Nodup ∧ ls.length = n ∧ ∀ k, k ∈ ls ↔ k ∈ ns) → Q (.ref a) (upd H a (SetO w a (fun j => decide (j ∈ ns)) n))
theorem cr_setI (hc : X.calm = true) (hu : X.A.units + 64 < cLine) : CallR X (.type "set") (rSetI X.K X.w) := by
  intro pins s σ H xs us Q I r h
  obtain ⟨l, ns, rfl, hl, few, q⟩ := h
  rw [Vals.ref1 r]
  obtain ⟨its, rv, pl, hz⟩ := I.list hl
  refine call_setI ns (I.ok.hd hc) pl.isList (intsAre_of rv) few (by omega) fun h' tk n R kp => ?_
  refine ⟨.ref s.heap.objs.size, upd H s.heap.objs.size (SetO X.w s.heap.objs.size (fun j => decide (j ∈ ns)) n), I.laid (t' := tk) kp (Nat.le_refl _) (setO_new R), rfl, ?_⟩
  obtain ⟨ls, h1, h2, h3⟩ := RV.SetR.names R
  exact q _ n (I.hok.fresh (Nat.le_refl _)) ⟨ls, h1, h2, fun k => (h3 k).trans decide_eq_true_iff⟩
end
end RV
set_option maxHeartbeats 4000000
namespace K44
open PySem PySem.Spec PyProof.Rows L2 RV
theorem strict_of {xs : List Int} (h : xs.Pairwise (· ≤ ·)) (nd : xs.Nodup) : xs.Pairwise (· < ·) := by
  refine List.Pairwise.imp (fun {a b} (z : a ≤ b ∧ a ≠ b) => by omega) (List.pairwise_and_iff.mpr ⟨h, nd⟩)
section
variable {bh : Int → List Int} {ms : List Int}
/-- from any of some marks n steps lead to x -/
def lkS (bh : Int → List Int) (n : Nat) (ms : List Int) (x : Int) : Prop := ∃ m ∈ ms, lk bh n m x
theorem lkS_add {n : Nat} {b : Int} {m : Nat} : lkS bh (m + n) ms b ↔ ∃ c, lkS bh m ms c ∧ lk bh n c b := by
  constructor
  · rintro ⟨a, h1, h2⟩
    obtain ⟨c, h3, h4⟩ := lk_add.mp h2
    exact ⟨c, ⟨a, h1, h3⟩, h4⟩
  · rintro ⟨c, ⟨a, h1, h3⟩, h4⟩
    exact ⟨a, h1, lk_add.mpr ⟨c, h3, h4⟩⟩
theorem lkS_inn {N : Nat} (hb : ∀ m, ∀ c ∈ bh m, 0 ≤ c ∧ c < (N : Int)) (hm : ∀ x ∈ ms, 0 ≤ x ∧ x < (N : Int)) {n : Nat} {b : Int} (h : lkS bh n ms b) : 0 ≤ b ∧ b < (N : Int) := by
  obtain ⟨m, h1, h2⟩ := h
  exact lk_inn hb h2 (hm m h1)
/-- the rising list of where n steps lead from some marks -/
def isES (bh : Int → List Int) (ms : List Int) (n : Nat) (xs : List Int) : Prop := xs.Pairwise (· < ·) ∧ ∀ x, x ∈ xs ↔ lkS bh n ms x
theorem lkS_round {f l : Nat} (hf : f < l) (e : ∀ x, lkS bh l ms x ↔ lkS bh f ms x) : ∀ (n : Nat), f ≤ n → ∀ x, lkS bh n ms x ↔ lkS bh (f + (n - f) % (l - f)) ms x := by
  intro n
  induction n using Nat.strongRecOn with
  | ind n ih =>
    intro hn x
    by_cases z : n < l
    · rw [Nat.mod_eq_of_lt (by omega), Nat.add_sub_cancel' hn]
    · have h1 : lkS bh n ms x ↔ lkS bh (f + (n - l)) ms x := by
        rw [show n = l + (n - l) by omega, lkS_add, show l + (n - l) - l = n - l by omega, lkS_add]
        exact exists_congr fun c => and_congr (e c) Iff.rfl
      rw [h1, ih (f + (n - l)) (by omega) (by omega) x]
      have : (n - f) % (l - f) = (f + (n - l) - f) % (l - f) := by
        rw [show n - f = (f + (n - l) - f) + (l - f) by omega, Nat.add_mod_right]
      rw [this]
end
/-- a dict that tells at which place of the list a tuple stands -/
def DM (H : Hp) (d : Addr) (Xs : List (List Int)) : Prop := ∃ kvs : List (List L2.Key × V), H d = some (.dT kvs) ∧ kvs.length ≤ Xs.length ∧ (∀ ys : List Int, ys ∉ Xs → valV kvs (keyP ys) = none) ∧ ∀ (i : Nat) (ys : List Int), Xs[i]? = some ys → valV kvs (keyP ys) = some (.int (i : Int))
theorem dm_put {kvs : List (List L2.Key × V)} {Xs : List (List Int)} {hs : List Int} (h1 : kvs.length ≤ Xs.length) (h2 : ∀ ys : List Int, ys ∉ Xs → valV kvs (keyP ys) = none) (h3 : ∀ (i : Nat) (ys : List Int), Xs[i]? = some ys → valV kvs (keyP ys) = some (.int (i : Int))) (hn : hs ∉ Xs) :
    (putK kvs (keyP hs) (.int (Xs.length : Int))).length ≤ (Xs ++ [hs]).length ∧ (∀ ys : List Int, ys ∉ Xs ++ [hs] → valV (putK kvs (keyP hs) (.int (Xs.length : Int))) (keyP ys) = none) ∧ ∀ (i : Nat) (ys : List Int), (Xs ++ [hs])[i]? = some ys → valV (putK kvs (keyP hs) (.int (Xs.length : Int))) (keyP ys) = some (.int (i : Int)) := by
  refine ⟨?_, fun ys hy => ?_, fun i ys hi => ?_⟩
  · have := length_putK kvs (keyP hs) (.int (Xs.length : Int))
    rw [List.length_append]; simp; omega
  · rw [valV_put, if_neg (fun z => hy (List.mem_append_right _ (List.mem_singleton.mpr (keyP_inj z)))), h2 ys fun z => hy (List.mem_append_left _ z)]
  · rcases Nat.lt_or_ge i Xs.length with z | z
    · rw [List.getElem?_append_left z] at hi
      rw [valV_put, if_neg (fun e => hn (by rw [← keyP_inj e]; exact List.mem_of_getElem? hi))]
      exact h3 i ys hi
    · rw [List.getElem?_append_right z] at hi
      have ei : i = Xs.length := by
        have := (List.getElem?_eq_some_iff.mp hi).1
        simp at this; omega
      rw [ei, Nat.sub_self] at hi
      cases hi
      rw [valV_put, if_pos rfl, ei]
/-- a list of tuples that tell, step by step, where walks from m end -/
def RowE (H : Hp) (L : Addr) (ps : List (List Int)) (m : List Int) (Xs : List (List Int)) : Prop := ∃ as : List Addr, H L = some (.lst (as.map V.ref)) ∧ as.length = Xs.length ∧ (∀ (i : Nat) (a : Addr) (xs : List Int), as[i]? = some a → Xs[i]? = some xs → H a = some (.tup (xs.map V.int))) ∧ ∀ (i : Nat) (xs : List Int), Xs[i]? = some xs → isES (behindOf ps) m i xs
def SetsH (H : Hp) (R : Addr) (ps : List (List Int)) (m : List Int) : Prop := ∃ (L : Addr) (f : Nat) (Xs : List (List Int)), H R = some (.tup [.ref L, .int (f : Int)]) ∧ RowE H L ps m Xs ∧ f < Xs.length ∧ Xs.length ≤ 256 ∧ ∀ x, lkS (behindOf ps) Xs.length m x ↔ lkS (behindOf ps) f m x
theorem RowE.same {H H' : Hp} {L : Addr} {ps : List (List Int)} {m : List Int} {Xs : List (List Int)} (h : RowE H L ps m Xs) (s : Same H H') : RowE H' L ps m Xs := by
  obtain ⟨as, h1, h2, h3, h4⟩ := h
  exact ⟨as, s _ _ h1, h2, fun i a xs e1 e2 => s _ _ (h3 i a xs e1 e2), h4⟩
theorem SetsH.same {H H' : Hp} {R : Addr} {ps : List (List Int)} {m : List Int} (h : SetsH H R ps m) (s : Same H H') : SetsH H' R ps m := by
  obtain ⟨L, f, Xs, h1, h2, h3⟩ := h
  exact ⟨L, f, Xs, s _ _ h1, h2.same s, h3⟩
section
variable {P : Program} {w : World} {K : PySem.W.Frag} {mg : Str → Option Value} {base : Heap}
/-! ### _law_behind -/
abbrev nLBh : List Str := ["_law_steps", "_law_begins", "_law_here", "_law_row", "_law_met", "_law_a", "_law_b"]
def spLBh (K : PySem.W.Frag) : Sp := fun vs H Q _ => ∃ (c b : Addr) (m : List Int) (ns : List Int) (ps : List (List Int)), vs = [.ref c, .ref b] ∧ TupsH H c ps ∧ Mir ns ∧ Stp ns ps ∧ (∀ x ∈ m, 0 ≤ x ∧ x < (ns.length : Int)) ∧ m.Nodup ∧ m.length ≤ 8 ∧ H b = some (.lst (m.map V.int)) ∧
  ∀ (H' : Hp) (R : Addr), Same H H' → SetsH H' R ps m → Q (.ref R) H'
end
end K44
set_option maxHeartbeats 4000000
namespace K44
open PySem PySem.Spec PyProof.Rows L2 RV
theorem RowE.at {H : Hp} {L : Addr} {ps : List (List Int)} {m : List Int} {Xs : List (List Int)} (h : RowE H L ps m Xs) {i : Nat} (hi : i < Xs.length) : ∃ (vs : List V) (a : Addr) (xs : List Int), H L = some (.lst vs) ∧ vs.length = Xs.length ∧ atI vs (i : Int) = some (.ref a) ∧ H a = some (.tup (xs.map V.int)) ∧ isES (behindOf ps) m i xs := by
  obtain ⟨as, h1, h2, h3, h4⟩ := h
  have hi' : i < as.length := by omega
  exact ⟨_, as[i], Xs[i], h1, by rw [List.length_map, h2], atI_nat (by rw [List.getElem?_map, List.getElem?_eq_getElem hi']; rfl), h3 i _ _ (List.getElem?_eq_getElem hi') (List.getElem?_eq_getElem hi), h4 i _ (List.getElem?_eq_getElem hi)⟩
section
variable {P : Program} {w : World} {K : PySem.W.Frag} {mg : Str → Option Value} {base : Heap}
/-! ### _law_at -/
abbrev nLAt : List Str := ["_law_sets", "_law_n", "_law_row", "_law_first", "_law_late"]
def spLAt : Sp := fun vs H Q _ => ∃ (R : Addr) (n : Nat) (m : List Int) (ps : List (List Int)), vs = [.ref R, .int (n : Int)] ∧ SetsH H R ps m ∧ ∀ (a : Addr) (xs : List Int), H a = some (.tup (xs.map V.int)) → isES (behindOf ps) m n xs → Q (.ref a) H
end
end K44
set_option maxHeartbeats 4000000
namespace K44
open PySem PySem.Spec PyProof.Rows L2 RV
/-- whether a ring is mirrored at s, with this axis class -/
noncomputable def okH (ns : List Int) (ps : List (List Int)) (z : Int) (r : List Int) (s : Int) : Bool := decide (2 * ((clsM ps ns.length (at_ r (s / 2)) : Nat) : Int) + s % 2 = z) && mirB ns r s
/-- the halves of one ring -/
noncomputable def hvs (ns : List Int) (ps : List (List Int)) (z : Int) (n : Nat) (r : List Int) : List (List Int) := ((upN (2 * n)).filter (okH ns ps z r)).map fun s => halfOf r s (hSteps z n + 1)
theorem mem_hvs {ns : List Int} {ps : List (List Int)} (M : Mir ns) (S : Stp ns ps) {p : List Int} (hp : p ∈ partsOf ps ns.length) (own : Own ns p) {n : Nat} (h1 : 1 ≤ n) {z : Int} {h : List Int} :
    h ∈ ((rowsN ps p (n - 1)).filter fun r => decide ([lst0 r, hd0 r] ∈ ps)).flatMap (hvs ns ps z n) ↔ ∃ a ∈ hStart ns ps p z, ∃ o ∈ hEnd ns ps ((z + (n : Int)) % 2), WkL (behindOf ps) (hSteps z n) a o h := by
  have hP : ∀ q ∈ ps, Pr (ns.length : Int) q := fun q hq => S.pair q hq
  rw [List.mem_flatMap]
  constructor
  · rintro ⟨r, hr, hh⟩
    obtain ⟨lr, inp, st⟩ := ring_step hP hr
    obtain ⟨s, hs, rfl⟩ := List.mem_map.mp hh
    obtain ⟨s1, s2⟩ := List.mem_filter.mp hs
    unfold okH at s2
    rw [Bool.and_eq_true, decide_eq_true_iff] at s2
    exact half_walk S hp own h1 (by omega) inp st s2.1 s2.2
  · rintro ⟨a, ha, o, ho, wk⟩
    obtain ⟨r, s, hr, hs, hz, mi, rfl⟩ := walk_half M S hp own h1 ha ho wk
    refine ⟨r, hr, List.mem_map.mpr ⟨s, List.mem_filter.mpr ⟨mem_upN.mpr (by omega), ?_⟩, rfl⟩⟩
    unfold okH
    rw [Bool.and_eq_true, decide_eq_true_iff]
    exact ⟨hz, mi⟩
/-- [c(x) for x in t] of truths, t a tuple of ints; the heap may grow -/
theorem lc_blG {K : PySem.W.Frag} {te : TE} {c : Int → Bool} {σ : L2.St} {H1 : Hp} {a D : Addr} {v : Nat} {ns : List Int} {Qd : Hp → Prop} (hT : SqT K H1 a (ns.map V.int)) (hl : ns.length ≤ 1000) (nD : H1 D = none)
    (hte : ∀ x ∈ ns, ∀ (H' : Hp) (Q : VK), Same H1 H' → (∀ H2, Same H' H2 → Q (.bl (c x)) H2) → te ((wipe σ [v]).set v (some (.int x))) H' Q)
    (hd : ∀ H', Same H1 H' → H' D = some (.lst ((ns.map c).map V.bl)) → Qd H') :
    ∃ W : Nat → Nat → Hp → Prop, (∃ m, W 0 m (upd H1 D (.lst []))) ∧ ∀ i m H, W i m H →
      ((Itt K a).stop i H ∧ Qd H) ∨ ((Itt K a).go i H ∧ ∃ Nx : Hp → Prop, (∀ H', Nx H' → ∃ m', m' < m ∧ W (i + 1) m' H') ∧ ∀ x H', (Itt K a).yld i H x H' → gName v x (wipe σ [v]) H' fun σ2 H2 => wipe σ2 [v] = wipe σ [v] ∧ tYes σ2 H2 fun b H3 =>
        if b = true then te σ2 H3 fun y H4 => ∃ acc, H4 D = some (.lst acc) ∧ acc.length < sizeLine ∧ Nx (upd H4 D (.lst (acc ++ [y]))) else Nx H3) := by
  refine lc_tup (K := K) (a := a) (xs := ns.map V.int) (fun i H' => Same H1 H' ∧ H' D = some (.lst (((ns.take i).map c).map V.bl))) ⟨same_upd nD, upd_same⟩ (fun i H' _ p => sqT_same p.1 hT) (fun i x H' hx p => ?_) fun H' p => ?_
  · obtain ⟨k, g, rfl⟩ := map_at hx
    refine ⟨by simp [wipe, List.set_set], tt_yes (hte k (List.mem_of_getElem? g) H' _ p.1 fun H2 s2 => ⟨_, s2 _ _ p.2, ?_, fun b o z => ?_, ?_⟩)⟩
    · rw [List.length_map, List.length_map, List.length_take]; exact few1 (by omega)
    · rw [upd_ne (ne_of_none z nD)]; exact s2 _ _ (p.1 b o z)
    · rw [upd_same, List.take_add_one, g, List.map_append, List.map_append]; rfl
  · rw [List.length_map, List.take_of_length_le (Nat.le_refl _)] at p
    exact hd H' p.1 p.2
/-- there is a half -/
def MS (ns : List Int) (ps : List (List Int)) (p : List Int) (z : Int) (n : Nat) : Prop := ∃ a ∈ hStart ns ps p z, ∃ o ∈ hEnd ns ps ((z + (n : Int)) % 2), lk (behindOf ps) (hSteps z n) a o
theorem lk_wkl {bh : Int → List Int} {o : Int} : ∀ {k : Nat} {a : Int}, lk bh k a o → ∃ w, WkL bh k a o w
  | 0, a, h => ⟨[a], rfl, h⟩
  | k + 1, a, ⟨c, h1, h2⟩ => by
    obtain ⟨w, hw⟩ := lk_wkl h2
    exact ⟨a :: w, c, w, rfl, h1, hw⟩
theorem ms_all {ns : List Int} {ps : List (List Int)} (M : Mir ns) (S : Stp ns ps) {p : List Int} (hp : p ∈ partsOf ps ns.length) (own : Own ns p) {n : Nat} (h1 : 1 ≤ n) {z : Int} : MS ns ps p z n ↔ ∃ r ∈ (rowsN ps p (n - 1)).filter (fun r => decide ([lst0 r, hd0 r] ∈ ps)), ∃ s ∈ upN (2 * n), okH ns ps z r s = true := by
  constructor
  · rintro ⟨a, ha, o, ho, hl⟩
    obtain ⟨w, hw⟩ := lk_wkl hl
    obtain ⟨r, hr, hh⟩ := List.mem_flatMap.mp ((mem_hvs M S hp own h1).mpr ⟨a, ha, o, ho, hw⟩)
    obtain ⟨s, hs, _⟩ := List.mem_map.mp hh
    exact ⟨r, hr, s, (List.mem_filter.mp hs).1, (List.mem_filter.mp hs).2⟩
  · rintro ⟨r, hr, s, hs, ok⟩
    obtain ⟨a, ha, o, ho, wk⟩ := (mem_hvs M S hp own h1 (h := halfOf r s (hSteps z n + 1))).mp (List.mem_flatMap.mpr ⟨r, hr, List.mem_map.mpr ⟨s, List.mem_filter.mpr ⟨hs, ok⟩, rfl⟩⟩)
    exact ⟨a, ha, o, ho, wkl_lk wk⟩
theorem end_in {ns : List Int} {ps : List (List Int)} (S : Stp ns ps) {p : List Int} (hp : p ∈ partsOf ps ns.length) (own : Own ns p) {o g : Int} (ho : o ∈ hEnd ns ps g) : ∀ {k : Nat} {a : Int}, a ∈ p → lk (behindOf ps) k a o → o ∈ p
  | 0, a, ha, h => by rw [← show a = o from h]; exact ha
  | k + 1, a, ha, ⟨c, h1, h2⟩ => by
    have hb : c ∈ beg (behindOf ps) ns.length (hEnd ns ps g) k := (beg_lkE (fun m => behind_inn S m) (behind_inn S a c h1)).mpr ⟨o, ho, h2⟩
    exact end_in S hp own ho (lead_in S hp own ha h1 hb) h2
theorem hs_nodup {ns : List Int} {ps : List (List Int)} (M : Mir ns) {p : List Int} (hp : p ∈ partsOf ps ns.length) {z : Int} : (hStart ns ps p z).Nodup := by
  unfold hStart
  split
  · have rise : p.Pairwise (· < ·) := by
      obtain ⟨x, _, _, e⟩ := mem_parts.mp hp
      rw [e]; exact lot_rise _ _ _
    refine List.pairwise_map.mpr (List.Pairwise.imp_of_mem (fun {a b} ha hb (h : a < b) e => ?_) (rise.filter _))
    have e1 := mir_mir M (part_bd hp (List.mem_filter.mp ha).1)
    have e2 := mir_mir M (part_bd hp (List.mem_filter.mp hb).1)
    rw [e] at e1
    omega
  · exact List.nodup_nil
theorem hStart_len {ns : List Int} {ps : List (List Int)} {p : List Int} {z : Int} (lp : p.length ≤ 8) : (hStart ns ps p z).length ≤ 8 := by
  unfold hStart
  split
  · rw [List.length_map]; exact Nat.le_trans (List.length_filter_le _ _) lp
  · exact Nat.zero_le _
theorem end_bit (z : Int) (n : Nat) : (if decide ((z + (n : Int)) % 2 = 0) = true then (0 : Int) else 1) = (z + (n : Int)) % 2 := by
  by_cases e : (z + (n : Int)) % 2 = 0
  · rw [decide_eq_true e, if_pos rfl, e]
  · rw [decide_eq_false e, if_neg (by decide)]; omega
theorem hs_eq (z : Int) {n : Nat} (h : 1 ≤ n) : ((n : Int) - z % 2) / 2 = ((hSteps z n : Nat) : Int) := by
  unfold hSteps
  rw [Int.toNat_of_nonneg (by omega)]
section
variable {P : Program} {w : World} {K : PySem.W.Frag} {mg : Str → Option Value} {base : Heap}
/-! ### _law_axis_sets -/
def spAS (K : PySem.W.Frag) : Sp := fun vs H Q _ => ∃ (R a kn : Addr) (z : Int) (ns p : List Int) (ps : List (List Int)), vs = [.ref R, .ref a, .ref kn, .int z] ∧ OwnH K H R ns ps ∧ p ∈ partsOf ps ns.length ∧ SqT K H a (p.map V.int) ∧ Known H kn ps ns.length p ∧ 0 < perN ps (hd0 p) ∧ (0 ≤ z ∧ z < 2 * ((perN ps (hd0 p) : Nat) : Int)) ∧ Own ns p ∧
  ∀ (H' : Hp) (t : Addr), Same H H' → SetsH H' t ps (hStart ns ps p z) → Q (.ref t) H'
/-! ### _law_mirrors_so -/
abbrev nSo : List Str := ["_law_own", "_law_part", "_law_sets", "_law_first", "_law_n", "_law_ends_here", "_law_mark"]
def spSo (K : PySem.W.Frag) : Sp := fun vs H Q _ => ∃ (R a t : Addr) (z : Int) (n : Nat) (ns p : List Int) (ps : List (List Int)), vs = [.ref R, .ref a, .ref t, .int z, .int (n : Int)] ∧ OwnH K H R ns ps ∧ p ∈ partsOf ps ns.length ∧ SqT K H a (p.map V.int) ∧ SetsH H t ps (hStart ns ps p z) ∧ Own ns p ∧ 1 ≤ n ∧
  ∀ (H' : Hp) (b : Bool), Same H H' → (b = true ↔ MS ns ps p z n) → Q (.bl b) H'
end
end K44
set_option maxHeartbeats 4000000
namespace K44
open PySem PySem.Spec PyProof.Rows L2 RV
theorem any_fB {f : Int → Int → Prop} {p : List Int} : decide (0 < ((p.filter (fB f)).length : Int)) = p.any (fB f) := by
  rw [Bool.eq_iff_iff, decide_eq_true_iff, List.any_eq_true]
  constructor
  · intro h
    obtain ⟨x, hx⟩ := List.exists_mem_of_length_pos (show 0 < (p.filter (fB f)).length by omega)
    obtain ⟨h1, h2⟩ := List.mem_filter.mp hx
    exact ⟨x, h1, h2⟩
  · rintro ⟨x, h1, h2⟩
    have := List.length_pos_of_mem (List.mem_filter.mpr ⟨h1, h2⟩)
    omega
/-- the list of a part's marks, each with where its walks end -/
def OS (H : Hp) (l : Addr) (ps : List (List Int)) (p : List Int) : Prop := ∃ qs : List (Addr × Addr × Int), H l = some (.lst (qs.map fun q => V.ref q.1)) ∧ (qs.map fun q => q.2.2) = p ∧ ∀ q ∈ qs, H q.1 = some (.tup [.int q.2.2, .ref q.2.1]) ∧ SetsH H q.2.1 ps [q.2.2]
theorem OS.same {H H' : Hp} {l : Addr} {ps : List (List Int)} {p : List Int} (h : OS H l ps p) (s : Same H H') : OS H' l ps p := by
  obtain ⟨qs, h1, h2, h3⟩ := h
  exact ⟨qs, s _ _ h1, h2, fun q hq => ⟨s _ _ (h3 q hq).1, (h3 q hq).2.same s⟩⟩
theorem SetsH.away {H : Hp} {R D : Addr} {ps : List (List Int)} {m : List Int} {qs : List (Addr × Addr × Int)} {o' : HO} (h : SetsH H R ps m) (eD : H D = some (.lst (qs.map fun q => V.ref q.1))) (hq : ∀ q ∈ qs, H q.1 = some (.tup [.int q.2.2, .ref q.2.1])) : SetsH (upd H D o') R ps m := by
  obtain ⟨L, f, Xs, h1, ⟨as, r1, r2, r3, r4⟩, h3, h4⟩ := h
  have tp : ∀ (a : Addr) (vs : List V), H a = some (.tup vs) → (upd H D o') a = some (.tup vs) := fun a vs e => by rw [upd_ne (fun z => by rw [z, eD] at e; cases e)]; exact e
  have hL : L ≠ D := fun z => by
    rw [z, eD] at r1
    have e := HO.lst.inj (Option.some.inj r1)
    cases as with
    | nil => cases Xs with
      | nil => cases h3
      | cons x Xs => cases r2
    | cons a as =>
      cases qs with
      | nil => cases e
      | cons q qs =>
        have e0 : q.1 = a := V.ref.inj (List.cons.inj e).1
        obtain ⟨x0, hx0⟩ : ∃ x0, Xs[0]? = some x0 := ⟨_, List.getElem?_eq_getElem (by omega)⟩
        have e1 := r3 0 a x0 rfl hx0
        rw [← e0, hq q List.mem_cons_self] at e1
        have e2 := HO.tup.inj (Option.some.inj e1)
        cases x0 with
        | nil => cases e2
        | cons y x0 =>
          cases x0 with
          | nil => cases e2
          | cons y2 x0 => cases e2
  exact ⟨L, f, Xs, tp _ _ h1, ⟨as, by rw [upd_ne hL]; exact r1, r2, fun i a xs e1 e2 => tp _ _ (r3 i a xs e1 e2), r4⟩, h3, h4⟩
section
variable {P : Program} {w : World} {K : PySem.W.Frag} {mg : Str → Option Value} {base : Heap}
/-! ### _law_own_sets -/
abbrev nOS : List Str := ["_law_steps", "_law_part", "_law_mark"]
def spOS (K : PySem.W.Frag) : Sp := fun vs H Q _ => ∃ (c a : Addr) (ns p : List Int) (ps : List (List Int)), vs = [.ref c, .ref a] ∧ TupsH H c ps ∧ Mir ns ∧ Stp ns ps ∧ SqT K H a (p.map V.int) ∧ p.length ≤ 8 ∧ (∀ x ∈ p, 0 ≤ x ∧ x < (ns.length : Int)) ∧
  ∀ (H' : Hp) (l : Addr), Same H H' → OS H' l ps p → Q (.ref l) H'
/-! ### _law_is_size -/
abbrev nLIS : List Str := ["_law_sets", "_law_n", "_law_mark", "_law_some"]
def spLIS : Sp := fun vs H Q _ => ∃ (l : Addr) (n : Nat) (p : List Int) (ps : List (List Int)), vs = [.ref l, .int (n : Int)] ∧ OS H l ps p ∧ p.length ≤ 8 ∧ ∀ H', Same H H' → Q (.bl (p.any (fB (lk (behindOf ps) n)))) H'
end
end K44
set_option maxHeartbeats 4000000
namespace K44
open PySem PySem.Spec PyProof.Rows L2 RV
/-- whether the part has a ring of so many places -/
noncomputable def isZ (ps : List (List Int)) (p : List Int) (z : Int) : Bool := p.any (fB (lk (behindOf ps) z.toNat))
theorem isZ_nat (ps : List (List Int)) (p : List Int) (n : Nat) : isZ ps p (n : Int) = p.any (fB (lk (behindOf ps) n)) := by unfold isZ; rw [Int.toNat_natCast]
section
variable {P : Program} {w : World} {K : PySem.W.Frag} {mg : Str → Option Value} {base : Heap}
/-! ### sizes -/
abbrev nSz : List Str := ["rule", "part", "most", "marks", "step", "ends", "found", "n"]
theorem scSz : FnScope nSz ["rule", "part", "most"] (defScope sSizes) := ⟨rfl, rfl, rfl, by decide +kernel, rfl, by decide +kernel, by decide +kernel⟩
def spSz (K : PySem.W.Frag) (C : Addr) : Sp := fun vs H Q _ => ∃ (r : Addr) (k mo : Nat) (ns p : List Int) (ps : List (List Int)), vs = [.ref r, .int (k : Int), .int (mo : Int)] ∧ RuleAt K C H r ns ps ∧ Mir ns ∧ Stp ns ps ∧ (partsOf ps ns.length)[k]? = some p ∧ mo ≤ 900 ∧
  ∀ (H' : Hp) (t : Addr), Same H H' → SqT K H' t (((fromN 1 mo).filter (isZ ps p)).map V.int) → Q (.ref t) H'
theorem ok_sz {f C fP fO fS fE fC : Addr} {fd dP dO dS dE dC : FuncData} (F : Fun K "sizes" "sizes" sSizes f fd) (B : Bare mg)
    (DP : DefAt K mg "parts" sParts ["rule"] fP dP) (GP : FnOk P w K mg base CX0 3 fP dP ["rule"] (spParts K C)) (DO : DefAt K mg "ends_at_once" sAtOnce ["rule"] fO dO) (GO : FnOk P w K mg base CX0 2 fO dO ["rule"] (spTab K C 0))
    (DS : DefAt K mg "ends_of_steps" sOfSteps ["rule"] fS dS) (GS : FnOk P w K mg base CX0 2 fS dS ["rule"] (spTab K C 1)) (DE : DefAt K mg "ends_behind" sEndsBehind ["first", "second"] fE dE)
    (DC : DefAt K mg "come_back" sComeBack ["ends", "marks"] fC dC) : FnOk P w K mg base CX0 4 f fd ["rule", "part", "most"] (spSz K C) := by
  have GC : FnOk P w K mg base CX0 1 fC dC ["ends", "marks"] (spCB K) := ok_cb DC.fn
  have GE : FnOk P w K mg base CX0 1 fE dE ["first", "second"] (spEB K) := ok_eb DE.fn B
  refine F.ok scSz (fun vs H Q E h => ?_) (fun cdv A outer s H vs Q E hr h => ?_)
  · obtain ⟨r, k, mo, ns, p, ps, rfl, _⟩ := h
    rfl
  · obtain ⟨r, k, mo, ns, p, ps, rfl, R, M, S, gk, hmo, q⟩ := h
    have r1 := hr.mono (show 1 ≤ 3 by decide)
    have r2 := hr.mono (show 2 ≤ 3 by decide)
    refine ⟨_, pss_cons (ps_set (i := 3) scSz.nd rfl (Or.inl rfl) (pe_ix ix_tup (pe_call GP hr (by rfl) DP.mg DP.fn.kp DP.bi .nil pass0 (pa_cons (pv 0) pa_nil)) (pv 1) (fun _ _ => rfl)))
      (pss_cons (ps_set (i := 4) scSz.nd rfl (Or.inl rfl) (pe_call GS r2 (by rfl) DS.mg DS.fn.kp DS.bi .nil pass0 (pa_cons (pv 0) pa_nil)))
      (pss_cons (ps_set (i := 5) scSz.nd rfl (Or.inl rfl) (pe_call GO r2 (by rfl) DO.mg DO.fn.kp DO.bi .nil pass0 (pa_cons (pv 0) pa_nil)))
      (pss_cons (ps_set (i := 6) scSz.nd rfl (Or.inl rfl) (pe_lst pa_nil))
      (pss_cons (ps_for PassesOwn.never rfl (pi_range2 (by rfl) B.range (pa_cons pe_int (pa_cons (pe_op op_add (pv 2) pe_int) pa_nil))) (pg_name (i := 7) scSz.nd rfl (Or.inl rfl))
        (pss_cons (ps_set (i := 5) scSz.nd rfl (Or.inl rfl) (pe_call GE r1 (by rfl) DE.mg DE.fn.kp DE.bi .nil pass0 (pa_cons (pv 5) (pa_cons (pv 4) pa_nil))))
        (pss_one (ps_if (pt_cmpR op_gt (pe_callB call_len_seq (by rfl) B.len PySem.boot_len (pa_cons (pe_call GC r1 (by rfl) DC.mg DC.fn.kp DC.bi .nil pass0 (pa_cons (pv 5) (pa_cons (pv 3) pa_nil))) pa_nil)) pe_int (nomark _))
          (pss_one (ps_expr (pe_bm PySem.F.plainAttrs_list PySem.F.slot_list_append PySem.F.type_list_append mt_append (pv 6) (pa_cons (pv 7) pa_nil)))) pss_nil))))
      (pss_one (ps_ret (pe_tupleOf (by rfl) B.tuple (pv 6)))))))), ?_⟩
    have h8 := M.few
    have hpm := List.mem_of_getElem? gk
    have lp : p.length ≤ 8 := by
      obtain ⟨m, _, _, e⟩ := mem_parts.mp hpm
      rw [e]; exact Nat.le_trans (lot_len _ _ _) h8
    have inn : ∀ x ∈ p, 0 ≤ x ∧ x < (ns.length : Int) := fun x hx => (mem_lot.mp (by rw [part_lot hpm hx]; exact hx : x ∈ lotOf ps ns.length x)).1
    refine ⟨.ref r, rfl, r, ns, ps, rfl, R, M, S, fun H1 c s1 nc hc => ?_⟩
    obtain ⟨ks, k1, k2, k3⟩ := hc
    have gk' : (ks.map (·.2))[k]? = some p := by rw [k1]; exact gk
    obtain ⟨kk, gkk, ekk⟩ := map_at gk'
    have hp : SqT K H1 kk.1 (p.map V.int) := by
      have z := (k3 kk (List.mem_of_getElem? gkk)).sq (K := K)
      rw [← ekk] at z; exact z
    refine ⟨.int (k : Int), rfl, c, _, _, .ref kk.1, rfl, rfl, tupNew k2, atI_nat (by rw [List.getElem?_map, gkk]; rfl), ?_⟩
    refine ⟨.ref r, rfl, r, ns, ps, rfl, R.same s1, S, h8, fun H2 t2 s2 T2 => ?_⟩
    refine ⟨.ref r, rfl, r, ns, ps, rfl, R.same (s1.trans s2), S, h8, fun H3 t3 s3 T3 => ⟨Nat.zero_le _, fun Fo nF => ?_⟩⟩
    have sF := same_upd (o := .lst []) nF
    have s04 := ((s1.trans s2).trans s3).trans sF
    have nFH : H Fo = none := ((s1.trans s2).trans s3).free nF
    have nF1 : H1 Fo = none := (s2.trans s3).free nF
    have s14 := (s2.trans s3).trans sF
    refine ⟨.int (mo : Int), rfl, _, 1, rfl, rfl, 1, _, rfl, ⟨by decide, by decide, by omega, by omega⟩, ?_⟩
    rw [show ((mo : Int) + 1 - 1).toNat = mo by omega]
    refine for_range (lo := 1) (n := mo) (fun i σ H' => ∃ (e : Addr) (y7 : Option V), σ = [some (.ref r), some (.int (k : Int)), some (.int (mo : Int)), some (.ref kk.1), some (.ref t2), some (.ref e), some (.ref Fo), y7] ∧ Same H1 H' ∧ Tab K H' t2 ns.length (lk (behindOf ps) 1) ∧ Tab K H' e ns.length (lk (behindOf ps) i) ∧ H' Fo = some (.lst ((((fromN 1 mo).take i).filter (isZ ps p)).map V.int)))
      ⟨t3, _, rfl, s14, T2.same (s3.trans sF), T3.same sF, upd_same⟩ (fun i σ H5 hi h => ?_) (fun σ H5 h => ?_)
    · obtain ⟨e, y7, rfl, s5, T5, E5, eF⟩ := h
      have gi : (fromN 1 mo)[i]? = some ((i + 1 : Nat) : Int) := by rw [fromN_get hi]; congr 1; omega
      rw [show (1 : Int) + (i : Int) = ((i + 1 : Nat) : Int) by omega]
      refine ⟨.ref e, rfl, .ref t2, rfl, e, t2, ns.length, _, _, rfl, h8, E5, T5, fun H6 t6 s6 T6 => ?_⟩
      have E6 : Tab K H6 t6 ns.length (lk (behindOf ps) (i + 1)) := T6.congr fun a x _ _ => lk_add.symm
      refine ⟨.ref t6, rfl, .ref kk.1, rfl, t6, kk.1, ns.length, _, p, rfl, E6, sqT_same (s5.trans s6) hp, lp, inn, fun H7 l s7 e7 => ?_⟩
      refine ⟨l, _, rfl, .inl (lstNew e7), _, _, rfl, rfl, _, rfl, ?_⟩
      rw [List.length_map, any_fB, ← isZ_nat]
      have s57 := (s5.trans s6).trans s7
      have eF7 := (s6.trans s7) _ _ eF
      have nxt := take_filt (c := isZ ps p) gi
      have lF : ((((fromN 1 mo).take i).filter (isZ ps p)).map V.int).length ≤ 900 := by
        rw [List.length_map]
        exact Nat.le_trans (List.length_filter_le _ _) (by rw [List.length_take]; omega)
      by_cases c : isZ ps p ((i + 1 : Nat) : Int) = true
      · rw [c]
        rw [if_pos c] at nxt
        refine iteT ⟨.ref Fo, rfl, .inl ⟨rfl, _, lstNew eF7⟩, .int _, rfl, Fo, _, _, rfl, rfl, eF7, few1 (by omega), ?_⟩
        have notSet : ∀ {t : Addr} {f : Int → Int → Prop}, Tab K H7 t ns.length f → Tab K (upd H7 Fo (.lst ((((fromN 1 mo).take i).filter (isZ ps p)).map V.int ++ [.int ((i + 1 : Nat) : Int)]))) t ns.length f := fun {t f} h => by
          obtain ⟨as, h1, h2, h3⟩ := h
          exact ⟨as, sqT_lst eF7 h1, h2, fun j a ha => (h3 j a ha).imp fun xs u => ⟨sqT_lst eF7 u.1, u.2⟩⟩
        refine ⟨t6, _, rfl, fun b' o z => ?_, notSet (T5.same (s6.trans s7)), notSet (E6.same s7), ?_⟩
        · rw [upd_ne (ne_of_none z nF1)]; exact s57 b' o z
        · rw [upd_same, nxt, List.map_append]; rfl
      · rw [show isZ ps p ((i + 1 : Nat) : Int) = false by simpa using c]
        rw [if_neg c, List.append_nil] at nxt
        exact iteF ⟨t6, _, rfl, s57, T5.same (s6.trans s7), E6.same s7, by rw [nxt]; exact eF7⟩
    · obtain ⟨e, y7, rfl, s5, T5, E5, eF⟩ := h
      rw [show (fromN 1 mo).take mo = fromN 1 mo from List.take_of_length_le (by rw [fromN_len]; exact Nat.le_refl _)] at eF
      refine ⟨.ref Fo, rfl, .inl ⟨Fo, _, rfl, lstNew eF, fun t nt => ?_⟩⟩
      exact q _ t ((s1.trans s5).trans (same_upd nt)) (tupNew upd_same)
end
end K44
set_option maxHeartbeats 4000000
namespace K44
open PySem PySem.Spec PyProof.Rows L2 RV
theorem atI_m1 {xs : List V} {v : V} (h : xs[xs.length - 1]? = some v) : atI xs (-1) = some v := by
  obtain ⟨hl, e⟩ := List.getElem?_eq_some_iff.mp h
  have ne : xs ≠ [] := fun z => by rw [z] at hl; exact absurd hl (by decide)
  have z : xs = xs.dropLast ++ [v] := by rw [← e, ← List.getLast_eq_getElem ne, List.dropLast_concat_getLast]
  rw [z]
  exact atI_last _ _
open Classical in
/-- whether the part has a mirror ring of so many places -/
noncomputable def msZ (ns : List Int) (ps : List (List Int)) (p : List Int) (z : Int) (n : Int) : Bool := decide (MS ns ps p z n.toNat)
/-- lists of where so many steps lead from some marks -/
def Rchd (H : Hp) (F : Addr) (N : Nat) (bh : Int → List Int) (ms : List Int) (c : Nat) : Prop := ∃ as : List Addr, as.length = c ∧ H F = some (.lst (as.map V.ref)) ∧ ∀ (i : Nat) (a : Addr), as[i]? = some a → ∃ xs : List Int, H a = some (.lst (xs.map V.int)) ∧ xs.Nodup ∧ (∀ x ∈ xs, 0 ≤ x ∧ x < (N : Int)) ∧ ∀ x, x ∈ xs ↔ lkS bh i ms x
theorem Rchd.same {H H' : Hp} {F : Addr} {N : Nat} {bh : Int → List Int} {ms : List Int} {c : Nat} (h : Rchd H F N bh ms c) (s : Same H H') : Rchd H' F N bh ms c := by
  obtain ⟨as, h1, h2, h3⟩ := h
  exact ⟨as, h1, s _ _ h2, fun i a ha => (h3 i a ha).imp fun xs z => ⟨s _ _ z.1, z.2⟩⟩
theorem Rchd.add {H : Hp} {F t : Addr} {N : Nat} {bh : Int → List Int} {ms : List Int} {c : Nat} {as : List Addr} {ys : List Int} (c1 : 1 ≤ c) (h1 : as.length = c) (h2 : H F = some (.lst (as.map V.ref))) (h3 : ∀ (i : Nat) (a : Addr), as[i]? = some a → ∃ xs : List Int, H a = some (.lst (xs.map V.int)) ∧ xs.Nodup ∧ (∀ x ∈ xs, 0 ≤ x ∧ x < (N : Int)) ∧ ∀ x, x ∈ xs ↔ lkS bh i ms x)
    (e : H t = some (.lst (ys.map V.int))) (nd : ys.Nodup) (inn : ∀ x ∈ ys, 0 ≤ x ∧ x < (N : Int)) (my : ∀ x, x ∈ ys ↔ lkS bh c ms x) : Rchd (upd H F (.lst (as.map V.ref ++ [.ref t]))) F N bh ms (c + 1) := by
  have away : ∀ (a : Addr) (xs : List Int), H a = some (.lst (xs.map V.int)) → (upd H F (.lst (as.map V.ref ++ [.ref t]))) a = some (.lst (xs.map V.int)) := fun a xs ea => by
    rw [upd_ne (fun z => ?_)]
    · exact ea
    rw [z, h2] at ea
    have e2 := HO.lst.inj (Option.some.inj ea)
    cases as with
    | nil => simp at h1; omega
    | cons a0 as => cases xs with
      | nil => cases e2
      | cons x xs => cases e2
  refine ⟨as ++ [t], by rw [List.length_append, h1]; rfl, by rw [upd_same, List.map_append]; rfl, fun i a ha => ?_⟩
  rcases Nat.lt_or_ge i as.length with z | z
  · rw [List.getElem?_append_left z] at ha
    obtain ⟨xs, u1, u2⟩ := h3 i a ha
    exact ⟨xs, away _ _ u1, u2⟩
  · rw [List.getElem?_append_right z] at ha
    have ei : i = c := by
      have := (List.getElem?_eq_some_iff.mp ha).1
      simp at this
      omega
    rw [h1, ei, Nat.sub_self] at ha
    cases ha
    rw [ei]
    exact ⟨ys, away _ _ e, nd, inn, my⟩
section
variable {P : Program} {w : World} {K : PySem.W.Frag} {mg : Str → Option Value} {base : Heap}
/-! ### mirror_sizes -/
abbrev nMZ : List Str := ["rule", "part", "first", "most", "reached", "here", "coming", "ends", "found", "n", "mark", "other"]
theorem scMZ : FnScope nMZ ["rule", "part", "first", "most"] (defScope sMSizes) := ⟨rfl, rfl, rfl, by decide +kernel, rfl, by decide +kernel, by decide +kernel⟩
def spMZ (K : PySem.W.Frag) (C : Addr) : Sp := fun vs H Q _ => ∃ (r : Addr) (k mo : Nat) (z : Int) (p : List Int) (ns : List Int) (ps : List (List Int)), vs = [.ref r, .int (k : Int), .int z, .int (mo : Int)] ∧ RuleAt K C H r ns ps ∧ Mir ns ∧ Stp ns ps ∧ (partsOf ps ns.length)[k]? = some p ∧ 1 ≤ mo ∧ mo ≤ 900 ∧
  ∀ (H' : Hp) (t : Addr), Same H H' → SqT K H' t (((fromN 1 mo).filter (msZ ns ps p z)).map V.int) → Q (.ref t) H'
theorem ok_mz {f C fS fE fN fB : Addr} {fd dS dE dN dB : FuncData} (F : Fun K "mirror_sizes" "mirror_sizes" sMSizes f fd) (T : Txt K mg C) (B : Bare mg)
    (DS : DefAt K mg "half_starts" sHalfS ["rule", "part", "first"] fS dS) (GS : FnOk P w K mg base CX0 7 fS dS ["rule", "part", "first"] (spHS K C)) (DE : DefAt K mg "half_ends" sHalfE ["rule", "first", "n"] fE dE) (GE : FnOk P w K mg base CX0 3 fE dE ["rule", "first", "n"] (spHE K C))
    (DN : DefAt K mg "half_steps" sHalfN ["first", "n"] fN dN) (FB : Fun K "behind" "Rule.behind" sBehindM fB dB) (bB : Binds K dB ["self", "mark"] []) (mB : Meth K C "behind" fB) : FnOk P w K mg base CX0 8 f fd ["rule", "part", "first", "most"] (spMZ K C) := by
  have GN : FnOk P w K mg base CX0 1 fN dN ["first", "n"] spHN := ok_hn DN.fn
  have GB : FnOk P w K mg base CX0 1 fB dB ["self", "mark"] (spBehindM K C) := ok_behindM FB T
  refine F.ok scMZ (fun vs H Q E h => ?_) (fun cdv A outer s H vs Q E hr h => ?_)
  · obtain ⟨r, k, mo, z, p, ns, ps, rfl, _⟩ := h
    rfl
  · obtain ⟨r, k, mo, z, p, ns, ps, rfl, R, M, S, gk, mo1, mo9, q⟩ := h
    have r1 := hr.mono (show 1 ≤ 7 by decide)
    have r3 := hr.mono (show 3 ≤ 7 by decide)
    have hu5 := un65 hr
    refine ⟨_, pss_cons (ps_set (i := 4) scMZ.nd rfl (Or.inl rfl) (pe_lst (pa_cons (pe_call GS hr (by rfl) DS.mg DS.fn.kp DS.bi .nil pass0 (pa_cons (pv 0) (pa_cons (pv 1) (pa_cons (pv 2) pa_nil)))) pa_nil)))
      (pss_cons (ps_while PassesOwn.never (pt_cmpR op_le (pe_callB call_len_seq (by rfl) B.len PySem.boot_len (pa_cons (pv 4) pa_nil)) (pe_call GN r1 (by rfl) DN.mg DN.fn.kp DN.bi .nil pass0 (pa_cons (pv 2) (pa_cons (pv 3) pa_nil))) (nomark _))
        (pss_cons (ps_set (i := 5) scMZ.nd rfl (Or.inl rfl) (pe_ix ix_list (pv 4) (pe_un un_neg pe_int) (fun _ _ => rfl)))
        (pss_cons (ps_set (i := 6) scMZ.nd rfl (Or.inl rfl) (pe_callB (cr_sortedSetW (w := w) rfl rfl) (by rfl) B.sorted (by decide +kernel) (pa_cons
          (pe_sc2W (w := w) (own := [("mark", 10), ("other", 11)]) (vs1 := [11]) (g := gName 10) (g1 := gName 11) rfl rfl scMZ.nd (pi_list (pv 5)) (blkOk_by (N := nMZ) (by rfl)) (by decide)
            (fun _ _ _ _ _ => pg_name (i := 10) scMZ.nd rfl (Or.inl rfl)) (fun _ _ _ _ _ => pi_tupK (K := K) rfl (pe_meth (pv 0) T.cl mB GB r1 bB .nil pass0 (pa_cons (pv 10) pa_nil))) (fun _ _ _ _ _ => pg_name (i := 11) scMZ.nd rfl (Or.inl rfl)) (fun _ _ _ _ _ => pv 11)) pa_nil)))
        (pss_one (ps_expr (pe_bm PySem.F.plainAttrs_list PySem.F.slot_list_append PySem.F.type_list_append mt_append (pv 4) (pa_cons (pv 6) pa_nil)))))))
      (pss_cons (ps_set (i := 7) scMZ.nd rfl (Or.inr rfl) (pe_tup (pa_cons (pe_call GE r3 (by rfl) DE.mg DE.fn.kp DE.bi .nil pass0 (pa_cons (pv 0) (pa_cons (pv 2) (pa_cons pe_int pa_nil)))) (pa_cons (pe_call GE r3 (by rfl) DE.mg DE.fn.kp DE.bi .nil pass0 (pa_cons (pv 0) (pa_cons (pv 2) (pa_cons pe_int pa_nil)))) pa_nil))))
      (pss_cons (ps_set (i := 8) scMZ.nd rfl (Or.inl rfl) (pe_lst pa_nil))
      (pss_cons (ps_for PassesOwn.never rfl (pi_range2 (by rfl) B.range (pa_cons pe_int (pa_cons (pe_op op_add (pv 3) pe_int) pa_nil))) (pg_name (i := 9) scMZ.nd rfl (Or.inr rfl))
        (pss_one (ps_if (pt_val (pe_callB (cr_any rfl) (by rfl) B.any (by decide +kernel) (pa_cons
          (pe_lc (own := [("mark", 10)]) (g := gName 10) (tt := tYes) rfl scMZ.nd (pi_list (pe_ix ix_list (pv 4) (pe_call GN r1 (by rfl) DN.mg DN.fn.kp DN.bi .nil pass0 (pa_cons (pv 2) (pa_cons (pv 9) pa_nil))) (fun _ _ => rfl))) (blkOk_by (N := nMZ) (by rfl)) (fun _ _ _ _ _ => pg_name (i := 10) scMZ.nd rfl (Or.inl rfl)) (fun _ _ _ _ _ => pts_nil)
            (fun _ _ _ _ _ => pe_cmpR (op_inDK (K := K) rfl hu5) (pv 10) (pe_ix (ix_tupK (K := K) rfl) (pv 7) (pe_op op_mod (pv 9) pe_int) (fun _ _ => rfl)) (by rfl))) pa_nil)))
          (pss_one (ps_expr (pe_bm PySem.F.plainAttrs_list PySem.F.slot_list_append PySem.F.type_list_append mt_append (pv 8) (pa_cons (pv 9) pa_nil)))) pss_nil)))
      (pss_one (ps_ret (pe_tupleOf (by rfl) B.tuple (pv 8)))))))), ?_⟩
    have h8 := M.few
    have hP : ∀ q ∈ ps, Pr (ns.length : Int) q := fun q hq => S.pair q hq
    have hpm := List.mem_of_getElem? gk
    have lp := part_len8 h8 hpm
    have one : (1 : Nat) ≤ sizeLine := by decide
    have two : (2 : Nat) ≤ sizeLine := by decide
    have ins : ∀ x ∈ hStart ns ps p z, 0 ≤ x ∧ x < (ns.length : Int) := fun x hx => part_bd hpm (hStart_in hx).2
    have nds : (hStart ns ps p z).Nodup := hs_nodup M hpm
    have hmz : ∀ n : Nat, msZ ns ps p z (n : Int) = true ↔ ∃ a ∈ hStart ns ps p z, ∃ o ∈ hEnd ns ps ((z + (n : Int)) % 2), lk (behindOf ps) (hSteps z n) a o := fun n => by
      unfold msZ MS
      rw [Int.toNat_natCast]
      exact @decide_eq_true_iff _ (Classical.propDecidable _)
    have hle : ∀ n : Nat, hSteps z n ≤ n := fun n => by
      unfold hSteps
      have := Int.emod_nonneg z (show (2 : Int) ≠ 0 by decide)
      omega
    have hmono : ∀ n n' : Nat, n ≤ n' → hSteps z n ≤ hSteps z n' := fun n n' hn => by
      unfold hSteps
      omega
    refine ⟨.ref r, rfl, .int (k : Int), rfl, .int z, rfl, r, k, z, p, ns, ps, rfl, R, M, S, gk, fun H1 l s1 e1 => ⟨one, fun Fr nF => ?_⟩⟩
    generalize hStart ns ps p z = ss at ins nds hmz e1
    have sF := same_upd (o := .lst [.ref l]) nF
    have nFH : H Fr = none := s1.free nF
    have R0 : Rchd (upd H1 Fr (.lst [.ref l])) Fr ns.length (behindOf ps) ss 1 := ⟨[l], rfl, upd_same, fun i a ha => by
      cases i with
      | succ i => cases ha
      | zero =>
        cases ha
        exact ⟨ss, sF _ _ e1, nds, ins, fun x => ⟨fun h => ⟨x, h, rfl⟩, fun ⟨m, h1, h2⟩ => by rw [← show m = x from h2]; exact h1⟩⟩⟩
    have s01 := s1.trans sF
    generalize upd H1 Fr (.lst [.ref l]) = H2 at R0 s01 ⊢
    refine ⟨fun m σ H' => ∃ (c : Nat) (y5 y6 y7 y8 y9 y10 y11 : Option V), σ = [some (.ref r), some (.int (k : Int)), some (.int z), some (.int (mo : Int)), some (.ref Fr), y5, y6, y7, y8, y9, y10, y11] ∧ Same H H' ∧ Rchd H' Fr ns.length (behindOf ps) ss c ∧ 1 ≤ c ∧ (c + m = hSteps z mo + 1 ∨ m = 0 ∧ hSteps z mo < c),
      ⟨hSteps z mo, 1, _, _, _, _, _, _, _, rfl, s01, R0, Nat.le_refl _, .inl (by omega)⟩, ?_⟩
    rintro m σ H3 ⟨c, y5, y6, y7, y8, y9, y10, y11, rfl, s3, ⟨as, a1, a2, a3⟩, c1, ec⟩
    refine ⟨.ref Fr, rfl, Fr, _, rfl, .inl (lstNew a2), .int z, rfl, .int (mo : Int), rfl, z, _, rfl, ?_⟩
    rw [hs_eq z mo1]
    refine ⟨_, _, rfl, rfl, _, rfl, ite2 (fun hm => ?_) (fun hm => ?_)⟩
    · have hm' : c ≤ hSteps z mo := by
        have := of_decide_eq_true hm
        rw [List.length_map, a1] at this
        omega
      have hm0 : c + m = hSteps z mo + 1 := by omega
      refine ⟨fun σ H' => ∃ (c : Nat) (y5 y6 y7 y8 y9 y10 y11 : Option V), σ = [some (.ref r), some (.int (k : Int)), some (.int z), some (.int (mo : Int)), some (.ref Fr), y5, y6, y7, y8, y9, y10, y11] ∧ Same H H' ∧ Rchd H' Fr ns.length (behindOf ps) ss c ∧ 1 ≤ c ∧ (c + (m - 1) = hSteps z mo + 1 ∨ m - 1 = 0 ∧ hSteps z mo < c), fun σ' H' zz => ⟨m - 1, by omega, zz⟩, ?_⟩
      obtain ⟨aL, gL⟩ : ∃ aL, as[c - 1]? = some aL := ⟨_, List.getElem?_eq_getElem (by omega)⟩
      obtain ⟨xs, x1, x2, x3, x4⟩ := a3 (c - 1) aL gL
      refine ⟨.ref Fr, rfl, 1, rfl, Fr, _, _, .ref aL, rfl, rfl, lstNew a2, atI_m1 (by rw [List.length_map, a1, List.getElem?_map, gL]; rfl), ?_⟩
      refine ⟨.ref aL, rfl, aL, rfl, ⟨_, lstNew x1⟩, fun D nD => ?_⟩
      have lx : xs.length ≤ 8 := Nat.le_trans (few_below x2 x3) h8
      refine it_list (xs := xs.map V.int) (fun k H' => Same H3 H' ∧ ∃ ls, SetL w H' D ls ∧ ∀ y, y ∈ ls ↔ ∃ d ∈ xs.take k, y ∈ behindOf ps d) ⟨same_upd nD, [], SetL.nil, fun y => by simp⟩ (fun k H' _ p => lstNew (p.1 _ _ x1)) (fun k v H4 hv p => ?_) fun H4 p => ?_
      · obtain ⟨m', gm, rfl⟩ := map_at hv
        obtain ⟨s4, ls, hL, mL⟩ := p
        have bm := x3 m' (List.mem_of_getElem? gm)
        obtain ⟨i, rfl⟩ : ∃ i : Nat, m' = (i : Int) := ⟨m'.toNat, by omega⟩
        have R4 := R.same (s3.trans s4)
        obtain ⟨dx, a0, b0, t0, g1, g2, g3, g4⟩ := R4.ex
        have fno2 := flds_no a0 b0 t0 (m := "behind") (by decide +kernel) (by decide +kernel) (by decide +kernel)
        refine ⟨rfl, .ref r, rfl, r, dx, _, rfl, g1, fno2, .int (i : Int), rfl, r, ns, ps, i, rfl, R4, by omega, fun q1 hq1 => ⟨q1, rfl, ⟨_, hq1⟩, ?_⟩⟩
        refine it_tup (xs := (behindOf ps (i : Int)).map V.int) (fun j H' => Same H3 H' ∧ SqT K H' q1 ((behindOf ps (i : Int)).map V.int) ∧ ∃ ls, SetL w H' D ls ∧ ∀ y, y ∈ ls ↔ (∃ d ∈ xs.take k, y ∈ behindOf ps d) ∨ y ∈ (behindOf ps (i : Int)).take j) ⟨s4, hq1, ls, hL, fun y => by rw [mL y]; simp⟩ (fun j H' _ p => p.2.1) (fun j v H5 hv p => ?_) fun H5 p => ?_
        · obtain ⟨e, ge, rfl⟩ := map_at hv
          obtain ⟨s5, k5, ls5, hL5, mL5⟩ := p
          have l5 : ls5.length ≤ ns.length := few_below (by obtain ⟨_, _, zz, _⟩ := hL5; exact zz) fun y hy => by
            rcases (mL5 y).mp hy with ⟨d, _, d2⟩ | d
            · exact behind_inn S _ _ d2
            · exact behind_inn S _ _ (List.mem_of_mem_take d)
          obtain ⟨St, n, q3, q4, ls6, hL6, mL6⟩ := hL5.add e (by omega)
          refine ⟨rfl, .int e, rfl, e, St, n, rfl, q3, q4, fun b' o zz => ?_, ?_, ls6, hL6, fun y => ?_⟩
          · rw [upd_ne (ne_of_none zz nD)]; exact s5 b' o zz
          · exact sqT_set q3 k5
          · rw [mL6 y, mL5 y, List.take_add_one, ge, List.mem_append, or_assoc]
            simp
        · obtain ⟨s5, k5, ls5, hL5, mL5⟩ := p
          rw [List.length_map, List.take_of_length_le (Nat.le_refl _)] at mL5
          refine ⟨s5, ls5, hL5, fun y => ?_⟩
          rw [mL5 y, List.take_add_one, gm]
          constructor
          · rintro (⟨d, d1, d2⟩ | d)
            · exact ⟨d, List.mem_append_left _ d1, d2⟩
            · exact ⟨_, List.mem_append_right _ (List.mem_singleton.mpr rfl), d⟩
          · rintro ⟨d, d1, d2⟩
            rcases List.mem_append.mp d1 with d1 | d1
            · exact .inl ⟨d, d1, d2⟩
            · exact .inr (List.mem_singleton.mp d1 ▸ d2)
      · obtain ⟨s4, ls, hL, mL⟩ := p
        rw [List.length_map, List.take_of_length_le (Nat.le_refl _)] at mL
        have inn : ∀ y ∈ ls, 0 ≤ y ∧ y < (ns.length : Int) := fun y hy => by
          obtain ⟨d, _, d2⟩ := (mL y).mp hy
          exact behind_inn S _ _ d2
        obtain ⟨St, q1, nd, mS⟩ := hL
        have ll := few_below nd inn
        refine ⟨D, St, ls.length, rfl, q1, by omega, fun zs pz rise mem len np => ?_⟩
        have sp := same_upd (o := .lst (zs.map V.int)) np
        have s35 := s4.trans sp
        have eF := s35 _ _ a2
        have mz : ∀ x, x ∈ zs ↔ lkS (behindOf ps) c ss x := fun x => by
          rw [mem x, mS x, mL x, show c = (c - 1) + 1 by omega, lkS_add]
          exact exists_congr fun d => and_congr (x4 d) lk_one.symm
        refine ⟨.ref Fr, rfl, .inl ⟨rfl, _, lstNew eF⟩, .ref pz, rfl, Fr, _, _, rfl, rfl, eF, by rw [List.length_map, a1]; exact few1 (by have := hle mo; omega), c + 1, _, _, _, _, _, _, _, rfl, fun b' o zz => ?_, Rchd.add c1 a1 eF (fun i a ha => (a3 i a ha).imp fun us u => ⟨s35 _ _ u.1, u.2⟩) upd_same (rise_nodup rise) (fun x hx => inn x ((mS x).mp ((mem x).mp hx))) mz, by omega, .inl (by omega)⟩
        rw [upd_ne (ne_of_none zz nFH)]; exact s35 _ _ (s3 b' o zz)
    · have hm' : hSteps z mo < c := by
        have : ¬ ((as.map V.ref).length : Int) ≤ (hSteps z mo : Int) := fun zz => hm (decide_eq_true zz)
        rw [List.length_map, a1] at this
        omega
      clear hm ec
      have Rd : Rchd H3 Fr ns.length (behindOf ps) ss c := ⟨as, a1, a2, a3⟩
      refine ⟨.ref r, rfl, .int z, rfl, r, z, 0, ns, ps, rfl, R.same s3, M, fun H4 f0 s4 ef0 => ?_⟩
      refine ⟨.ref r, rfl, .int z, rfl, r, z, 1, ns, ps, rfl, R.same (s3.trans s4), M, fun H5 f1 s5 ef1 => ⟨two, fun Er nE => ?_⟩⟩
      have sE := same_upd (o := .tup [.ref f0, .ref f1]) nE
      have eE : (upd H5 Er (.tup [.ref f0, .ref f1])) Er = some (.tup [.ref f0, .ref f1]) := upd_same
      have ef0' := (s5.trans sE) _ _ ef0
      have ef1' := sE _ _ ef1
      have s36 := (s4.trans s5).trans sE
      generalize upd H5 Er (.tup [.ref f0, .ref f1]) = H6 at eE ef0' ef1' s36 ⊢
      have a2' := s36 _ _ a2
      have a3' : ∀ (i : Nat) (a : Addr), as[i]? = some a → ∃ xs : List Int, H6 a = some (.lst (xs.map V.int)) ∧ xs.Nodup ∧ (∀ x ∈ xs, 0 ≤ x ∧ x < (ns.length : Int)) ∧ ∀ x, x ∈ xs ↔ lkS (behindOf ps) i ss x := fun i a ha => (a3 i a ha).imp fun xs zz => ⟨s36 _ _ zz.1, zz.2⟩
      refine ⟨Nat.zero_le _, fun Fo nFo => ?_⟩
      have sFo := same_upd (o := .lst []) nFo
      have s06 := s3.trans s36
      have nFoH : H Fo = none := s06.free nFo
      refine ⟨.int (mo : Int), rfl, _, 1, rfl, rfl, 1, _, rfl, ⟨by decide, by decide, by omega, by omega⟩, ?_⟩
      rw [show ((mo : Int) + 1 - 1).toNat = mo by omega]
      refine for_range (lo := 1) (n := mo) (fun i σ H' => ∃ (y9 y10 y11 : Option V), σ = [some (.ref r), some (.int (k : Int)), some (.int z), some (.int (mo : Int)), some (.ref Fr), y5, y6, some (.ref Er), some (.ref Fo), y9, y10, y11] ∧ Same H6 H' ∧ H' Fo = some (.lst ((((fromN 1 mo).take i).filter (msZ ns ps p z)).map V.int)))
        ⟨_, _, _, rfl, sFo, upd_same⟩ (fun i σ H7 hi h => ?_) (fun σ H7 h => ?_)
      · obtain ⟨y9, y10, y11, rfl, s7, eFo⟩ := h
        have gi : (fromN 1 mo)[i]? = some ((i + 1 : Nat) : Int) := by rw [fromN_get hi]; congr 1; omega
        rw [show (1 : Int) + (i : Int) = ((i + 1 : Nat) : Int) by omega]
        have nxt := take_filt (c := msZ ns ps p z) gi
        have lF : ((((fromN 1 mo).take i).filter (msZ ns ps p z)).map V.int).length ≤ 900 := by
          rw [List.length_map]
          exact Nat.le_trans (List.length_filter_le _ _) (by rw [List.length_take]; omega)
        have hmi := hmz (i + 1)
        have hq : hSteps z (i + 1) < c := Nat.lt_of_le_of_lt (hmono _ _ (by omega)) hm'
        obtain ⟨aL, gL⟩ : ∃ aL, as[hSteps z (i + 1)]? = some aL := ⟨_, List.getElem?_eq_getElem (by omega)⟩
        obtain ⟨xs, x1, x2, x3, x4⟩ := a3' _ aL gL
        have lx : xs.length ≤ 8 := Nat.le_trans (few_below x2 x3) h8
        have hx1 := hs_eq z (n := i + 1) (by omega)
        obtain ⟨n, en⟩ : ∃ n, n = i + 1 := ⟨_, rfl⟩
        rw [← en] at gi hmi hq gL hx1 x4 ⊢
        refine ⟨.ref Fr, rfl, .int z, rfl, .int (n : Int), rfl, z, _, rfl, ?_⟩
        rw [hx1]
        refine ⟨Fr, _, _, .ref aL, rfl, rfl, lstNew (s7 _ _ a2'), atI_nat (by rw [List.getElem?_map, gL]; rfl), aL, rfl, ⟨_, lstNew (s7 _ _ x1)⟩, fun D nD => ?_⟩
        obtain ⟨le, en', b1, b2, b3⟩ : ∃ (le : Addr) (en' : List Int), atI [V.ref f0, V.ref f1] ((n : Int) % 2) = some (.ref le) ∧ H6 le = some (.lst (en'.map V.int)) ∧ en' = hEnd ns ps ((z + (n : Int)) % 2) := by
          rcases Nat.mod_two_eq_zero_or_one n with hn | hn
          · refine ⟨f0, _, ?_, ef0', ?_⟩
            · rw [show (n : Int) % 2 = 0 by omega]; rfl
            · rw [show (z + (n : Int)) % 2 = (z + 0) % 2 by omega]
          · refine ⟨f1, _, ?_, ef1', ?_⟩
            · rw [show (n : Int) % 2 = 1 by omega]; rfl
            · rw [show (z + (n : Int)) % 2 = (z + 1) % 2 by omega]
        rw [← b3] at hmi
        refine lc_list (K := K) (a := aL) (xs := xs.map V.int) (fun i H' => Same H7 H' ∧ H' D = some (.lst (((xs.take i).map fun x => decide (x ∈ en')).map V.bl))) ⟨same_upd nD, upd_same⟩ (fun i H' _ h => lstNew (h.1 _ _ (s7 _ _ x1))) (fun i v H8 hv h => ?_) fun H8 h => ?_
        · obtain ⟨x, gx, rfl⟩ := map_at hv
          obtain ⟨s8, e8⟩ := h
          have s68 := s7.trans s8
          refine ⟨by simp [wipe, List.set_set], tt_yes ⟨.int x, rfl, .ref Er, rfl, .int (n : Int), rfl, _, 2, rfl, rfl, (by show (0 : Int) < 2; decide), Er, _, _, .ref le, rfl, rfl, tupNew (s68 _ _ eE), b1, .int x, en'.map PyData.int, .int x, dpL (lstNew (s68 _ _ b2)), shapedN x, shapedLI _, ?_⟩⟩
          rw [any_int]
          refine ⟨_, e8, by rw [List.length_map, List.length_map, List.length_take]; exact few1 (by omega), fun b' o zz => ?_, ?_⟩
          · rw [upd_ne (ne_of_none zz nD)]; exact s8 b' o zz
          · rw [upd_same, List.take_add_one, gx, List.map_append, List.map_append]; rfl
        · obtain ⟨s8, e8⟩ := h
          rw [List.length_map, List.take_of_length_le (Nat.le_refl _)] at e8
          refine ⟨D, _, rfl, lstNew e8, ?_⟩
          have s78 := s7.trans s8
          have eF8 := s8 _ _ eFo
          have eb : (xs.map fun x => decide (x ∈ en')).any id = msZ ns ps p z (n : Int) := by
            rw [Bool.eq_iff_iff, hmi, List.any_map, List.any_eq_true]
            constructor
            · rintro ⟨x, h1, h2⟩
              obtain ⟨m', m1, m2⟩ := (x4 x).mp h1
              exact ⟨m', m1, x, of_decide_eq_true h2, m2⟩
            · rintro ⟨m', m1, o, ho, m2⟩
              exact ⟨o, (x4 o).mpr ⟨m', m1, m2⟩, decide_eq_true ho⟩
          rw [eb]
          have gi' : (fromN 1 mo)[i]? = some (n : Int) := gi
          rw [← en] at nxt
          by_cases cc : msZ ns ps p z (n : Int) = true
          · rw [if_pos cc] at nxt
            refine ⟨_, rfl, ?_⟩
            rw [cc]
            refine iteT ⟨.ref Fo, rfl, .inl ⟨rfl, _, lstNew eF8⟩, .int _, rfl, Fo, _, _, rfl, rfl, eF8, few1 (by omega), ?_⟩
            refine ⟨_, _, _, rfl, fun b' o zz => ?_, ?_⟩
            · rw [upd_ne (ne_of_none zz nFo)]; exact s78 b' o zz
            · rw [upd_same, nxt, List.map_append]; rfl
          · rw [if_neg cc, List.append_nil] at nxt
            refine ⟨_, rfl, ?_⟩
            rw [show msZ ns ps p z (n : Int) = false by simpa using cc]
            exact iteF ⟨_, _, _, rfl, s78, by rw [nxt]; exact eF8⟩
      · obtain ⟨y9, y10, y11, rfl, s7, eFo⟩ := h
        rw [show (fromN 1 mo).take mo = fromN 1 mo from List.take_of_length_le (by rw [fromN_len]; exact Nat.le_refl _)] at eFo
        refine ⟨.ref Fo, rfl, .inl ⟨Fo, _, rfl, lstNew eFo, fun t nt => ?_⟩⟩
        exact q _ t ((s06.trans s7).trans (same_upd nt)) (tupNew upd_same)
end
end K44
set_option maxHeartbeats 4000000
namespace K44
open PySem PySem.Spec PyProof.Rows L2 RV
/-- a part of a rule in the heap -/
structure PartR (K : PySem.W.Frag) (C : Addr) (H : Hp) (r : Addr) (k : Nat) (ns : List Int) (ps : List (List Int)) (p : List Int) : Prop where
  R : RuleAt K C H r ns ps
  M : Mir ns
  S : Stp ns ps
  gk : (partsOf ps ns.length)[k]? = some p
theorem PartR.same {K : PySem.W.Frag} {C : Addr} {H H' : Hp} {r : Addr} {k : Nat} {ns : List Int} {ps : List (List Int)} {p : List Int} (h : PartR K C H r k ns ps p) (s : Same H H') : PartR K C H' r k ns ps p := ⟨h.R.same s, h.M, h.S, h.gk⟩
/-- the period of a part -/
noncomputable abbrev pOf (ps : List (List Int)) (p : List Int) : Nat := perN ps (hd0 p)
/-- how far sizes are looked at -/
def Far (ps : List (List Int)) (p : List Int) (ps' : List (List Int)) (p' : List Int) (mo : Nat) : Prop := ∃ T T' : Nat, SpanIs ps p T ∧ SpanIs ps' p' T' ∧ T ≤ 72 ∧ T' ≤ 72 ∧ Per ps (hd0 p) (pOf ps p) ∧ mo = 2 * max T T' + 2 * pOf ps p
theorem Far.uniq {ps : List (List Int)} {p : List Int} {ps' : List (List Int)} {p' : List Int} {mo mo' : Nat} (h : Far ps p ps' p' mo) (h' : Far ps p ps' p' mo') : mo = mo' := by
  obtain ⟨T, T', a, b, _, _, _, e⟩ := h
  obtain ⟨U, U', c, d, _, _, _, e'⟩ := h'
  rw [e, e', a.uniq c, b.uniq d]
section
variable {P : Program} {w : World} {K : PySem.W.Frag} {mg : Str → Option Value} {base : Heap}
/-! ### far_enough -/
abbrev nFE : List Str := ["rule", "part", "other", "its"]
theorem scFE : FnScope nFE nFE (defScope sFarE) := ⟨rfl, rfl, rfl, by decide +kernel, rfl, by decide +kernel, by decide +kernel⟩
def spFE (K : PySem.W.Frag) (C : Addr) : Sp := fun vs H Q _ => ∃ (r : Addr) (k : Nat) (ns : List Int) (ps : List (List Int)) (p : List Int) (r' : Addr) (k' : Nat) (ns' : List Int) (ps' : List (List Int)) (p' : List Int), vs = [.ref r, .int (k : Int), .ref r', .int (k' : Int)] ∧ PartR K C H r k ns ps p ∧ PartR K C H r' k' ns' ps' p' ∧
  ∀ (H' : Hp) (mo : Nat), Same H H' → Far ps p ps' p' mo → Q (.int (mo : Int)) H'
theorem span_72 {n T : Nat} (h8 : n ≤ 8) (h : T ≤ n * (n + 1)) : T ≤ 72 := Nat.le_trans h (Nat.mul_le_mul h8 (by omega : n + 1 ≤ 9))
theorem ok_fe {f C fS fM : Addr} {fd dS dM : FuncData} (F : Fun K "far_enough" "far_enough" sFarE f fd) (B : Bare mg)
    (DS : DefAt K mg "span" sSpan ["rule", "part"] fS dS) (GS : FnOk P w K mg base CX0 6 fS dS ["rule", "part"] (spSpan K C)) (DM : DefAt K mg "period" sPeriod ["rule", "part"] fM dM) (GM : FnOk P w K mg base CX0 4 fM dM ["rule", "part"] (spPeriod K C)) : FnOk P w K mg base CX0 7 f fd nFE (spFE K C) := by
  refine F.ok scFE (fun vs H Q E h => ?_) (fun cdv A outer s H vs Q E hr h => ?_)
  · obtain ⟨r, k, ns, ps, p, r', k', ns', ps', p', rfl, _⟩ := h
    rfl
  · obtain ⟨r, k, ns, ps, p, r', k', ns', ps', p', rfl, h1, h2, q⟩ := h
    have r4 := hr.mono (show 4 ≤ 6 by decide)
    refine ⟨_, pss_one (ps_ret (pe_op op_add (pe_op op_mul pe_int (pe_callB (call_max2 rfl) (by rfl) B.max (by decide +kernel) (pa_cons (pe_call GS hr (by rfl) DS.mg DS.fn.kp DS.bi .nil pass0 (pa_cons (pv 0) (pa_cons (pv 1) pa_nil))) (pa_cons (pe_call GS hr (by rfl) DS.mg DS.fn.kp DS.bi .nil pass0 (pa_cons (pv 2) (pa_cons (pv 3) pa_nil))) pa_nil))))
      (pe_op op_mul pe_int (pe_call GM r4 (by rfl) DM.mg DM.fn.kp DM.bi .nil pass0 (pa_cons (pv 0) (pa_cons (pv 1) pa_nil)))))), ?_⟩
    refine ⟨.ref r, rfl, .int (k : Int), rfl, r, k, ns, ps, p, rfl, h1.R, h1.M, h1.S, h1.gk, fun H1 T s1 sT lT => ?_⟩
    refine ⟨.ref r', rfl, .int (k' : Int), rfl, r', k', ns', ps', p', rfl, h2.R.same s1, h2.M, h2.S, h2.gk, fun H2 T' s2 sT' lT' => ?_⟩
    refine ⟨_, _, rfl, 2, _, rfl, rfl, .inl ⟨by decide, by decide⟩, .ref r, rfl, .int (k : Int), rfl, r, k, ns, ps, p, rfl, h1.R.same (s1.trans s2), h1.M, h1.S, h1.gk, fun H3 s3 per => ⟨2, _, rfl, rfl, .inl ⟨by decide, by decide⟩, _, _, rfl, rfl, ?_⟩⟩
    have z := q H3 (2 * max T T' + 2 * pOf ps p) ((s1.trans s2).trans s3) ⟨T, T', sT, sT', span_72 h1.M.few lT, span_72 h2.M.few lT', per, rfl⟩
    have e : 2 * (if (T' : Int) > (T : Int) then (T' : Int) else (T : Int)) + 2 * ((perN ps (hd0 p) : Nat) : Int) = ((2 * max T T' + 2 * pOf ps p : Nat) : Int) := by
      split <;> simp only [pOf] <;> omega
    rw [← e] at z
    exact z
/-! ### shifted_axis -/
theorem scSA : FnScope ["first", "shift", "its_period"] ["first", "shift", "its_period"] (defScope sShAxis) := ⟨rfl, rfl, rfl, by decide +kernel, rfl, by decide +kernel, by decide +kernel⟩
def spSA : Sp := fun vs H Q _ => ∃ (z h : Int) (g : Nat), vs = [.int z, .int h, .int (g : Int)] ∧ 0 < g ∧ Q (.int ((z + 2 * h) % (2 * (g : Int)))) H
theorem ok_sa {f : Addr} {fd : FuncData} (F : Fun K "shifted_axis" "shifted_axis" sShAxis f fd) : FnOk P w K mg base CX0 1 f fd ["first", "shift", "its_period"] spSA := by
  refine F.ok scSA (fun vs H Q E h => ?_) (fun cdv A outer s H vs Q E hr h => ?_)
  · obtain ⟨z, h, g, rfl, _⟩ := h
    rfl
  · obtain ⟨z, h, g, rfl, g0, q⟩ := h
    refine ⟨_, pss_one (ps_ret (pe_op op_mod (pe_op op_add (pv 0) (pe_op op_mul pe_int (pv 1))) (pe_op op_mul pe_int (pv 2)))), ?_⟩
    exact ⟨.int z, rfl, .int h, rfl, 2, h, rfl, rfl, .inl ⟨by decide, by decide⟩, z, _, rfl, rfl, .int (g : Int), rfl, 2, (g : Int), rfl, rfl, .inl ⟨by decide, by decide⟩, _, _, rfl, rfl, (by omega), q⟩
end
end K44
set_option maxHeartbeats 4000000
namespace K44
open PySem PySem.Spec PyProof.Rows L2 RV
/-- the shifts by which the turnings are alike -/
noncomputable def ableS (ns : List Int) (ps : List (List Int)) (p : List Int) (ns' : List Int) (ps' : List (List Int)) (p' : List Int) (h : Int) : Bool := decide ((turnN ns' ps' p' - turnN ns ps p - 2 * h) % ((pOf ps' p' : Nat) : Int) = 0)
section
variable {P : Program} {w : World} {K : PySem.W.Frag} {mg : Str → Option Value} {base : Heap}
/-! ### turning_shifts -/
abbrev nTSh : List Str := ["rule", "part", "other", "its", "its_period", "off", "shift"]
theorem scTSh : FnScope nTSh nFE (defScope sTShifts) := ⟨rfl, rfl, rfl, by decide +kernel, rfl, by decide +kernel, by decide +kernel⟩
def spTSh (K : PySem.W.Frag) (C : Addr) : Sp := fun vs H Q _ => ∃ (r : Addr) (k : Nat) (ns : List Int) (ps : List (List Int)) (p : List Int) (r' : Addr) (k' : Nat) (ns' : List Int) (ps' : List (List Int)) (p' : List Int), vs = [.ref r, .int (k : Int), .ref r', .int (k' : Int)] ∧ PartR K C H r k ns ps p ∧ PartR K C H r' k' ns' ps' p' ∧
  ∀ (H' : Hp) (l : Addr), Same H H' → H l = none → H' l = some (.lst (((upN (pOf ps' p')).filter (ableS ns ps p ns' ps' p')).map V.int)) → Per ps' (hd0 p') (pOf ps' p') → Q (.ref l) H'
theorem ok_tsh {f C fT fM : Addr} {fd dT dM : FuncData} (F : Fun K "turning_shifts" "turning_shifts" sTShifts f fd) (B : Bare mg)
    (DT : DefAt K mg "turning" sTurning ["rule", "part"] fT dT) (GT : FnOk P w K mg base CX0 7 fT dT ["rule", "part"] (spTurning K C)) (DM : DefAt K mg "period" sPeriod ["rule", "part"] fM dM) (GM : FnOk P w K mg base CX0 4 fM dM ["rule", "part"] (spPeriod K C)) : FnOk P w K mg base CX0 8 f fd nFE (spTSh K C) := by
  refine F.ok scTSh (fun vs H Q E h => ?_) (fun cdv A outer s H vs Q E hr h => ?_)
  · obtain ⟨r, k, ns, ps, p, r', k', ns', ps', p', rfl, _⟩ := h
    rfl
  · obtain ⟨r, k, ns, ps, p, r', k', ns', ps', p', rfl, h1, h2, q⟩ := h
    have r4 := hr.mono (show 4 ≤ 7 by decide)
    refine ⟨_, pss_cons (ps_set (i := 4) scTSh.nd rfl (Or.inr rfl) (pe_call GM r4 (by rfl) DM.mg DM.fn.kp DM.bi .nil pass0 (pa_cons (pv 2) (pa_cons (pv 3) pa_nil))))
      (pss_cons (ps_set (i := 5) scTSh.nd rfl (Or.inr rfl) (pe_op op_sub (pe_call GT hr (by rfl) DT.mg DT.fn.kp DT.bi .nil pass0 (pa_cons (pv 2) (pa_cons (pv 3) pa_nil))) (pe_call GT hr (by rfl) DT.mg DT.fn.kp DT.bi .nil pass0 (pa_cons (pv 0) (pa_cons (pv 1) pa_nil)))))
      (pss_one (ps_ret (pe_lc (own := [("shift", 6)]) (g := gName 6) rfl scTSh.nd (pi_range1 (by rfl) B.range (pa_cons (pv 4) pa_nil)) (blkOk_by (N := nTSh) (by rfl)) (fun _ _ _ _ _ => pg_name (i := 6) scTSh.nd rfl (Or.inl rfl))
        (fun _ _ _ _ _ => pts_one (pt_cmpR op_eq (pe_op op_mod (pe_op op_sub (pv 5) (pe_op op_mul pe_int (pv 6))) (pv 4)) pe_int (nomark _))) (fun _ _ _ _ _ => pv 6))))), ?_⟩
    refine ⟨.ref r', rfl, .int (k' : Int), rfl, r', k', ns', ps', p', rfl, h2.R, h2.M, h2.S, h2.gk, fun H1 s1 per => ?_⟩
    refine ⟨.ref r', rfl, .int (k' : Int), rfl, r', k', ns', ps', p', rfl, h2.R.same s1, h2.M, h2.S, h2.gk, fun H2 s2 => ?_⟩
    refine ⟨.ref r, rfl, .int (k : Int), rfl, r, k, ns, ps, p, rfl, h1.R.same (s1.trans s2), h1.M, h1.S, h1.gk, fun H3 s3 => ⟨_, _, rfl, rfl, ?_⟩⟩
    have s03 := (s1.trans s2).trans s3
    have hP' : ∀ q ∈ ps', Pr (ns'.length : Int) q := fun q hq => h2.S.pair q hq
    have hpm' := List.mem_of_getElem? h2.gk
    have kn' := knot_of hP' hpm'
    have rp' : Rch ps' (hd0 p') (hd0 p') := lot_some (n := ns'.length) (by rw [part_lot hpm' kn'.x_in]; exact kn'.x_in)
    have g0 : 0 < perN ps' (hd0 p') := per.pos rp'
    have g9 : perN ps' (hd0 p') ≤ 10 := per_small hP' h2.M.few per rp'
    refine ⟨.int ((perN ps' (hd0 p') : Nat) : Int), rfl, ((perN ps' (hd0 p') : Nat) : Int), rfl, by omega, by omega, fun D nD => ?_⟩
    rw [Int.toNat_natCast]
    refine lc_filtR (f := ableS ns ps p ns' ps' p') (by omega) nD (fun x x0 x1 H' s' A' B' kk => ?_) (fun x H' Q' k => ⟨.int x, rfl, k⟩) fun H4 s4 e4 => q H4 D (s03.trans s4) (s03.free nD) e4 per
    refine ⟨.int _, rfl, .int x, rfl, 2, x, rfl, rfl, .inl ⟨by decide, by decide⟩, _, _, rfl, rfl, .int _, rfl, _, _, rfl, rfl, (by omega), rfl, _, rfl, ?_⟩
    rw [decV]
    exact kk H' (Same.refl H')
end
end K44
set_option maxHeartbeats 4000000
namespace K44
open PySem PySem.Spec PyProof.Rows L2 RV
section
variable {X : Cx}
/-- n not in t, t a tuple of ints -/
def rNotInTI (K : PySem.W.Frag) : R2 := fun x y H Q => ∃ (b : Addr) (n : Int) (ns : List Int), x = .int n ∧ y = .ref b ∧ SqT K H b (ns.map V.int) ∧ Q (.bl (!decide (n ∈ ns))) H
theorem op_notInTI (hu : X.A.units + 65 < cLine) : OpR X (compareOp .NotIn) (rNotInTI X.K) := by
  intro pins s σ H x y v u Q I rx ry h
  obtain ⟨b, n, ns, rfl, rfl, h2, q⟩ := h
  obtain ⟨as, r1⟩ := Dp.reads I (.int n) (.int n) v (.int n) rx
  obtain ⟨bs, r2⟩ := Dp.reads I (dI ns) (.ref b) u (dpT h2) ry
  refine SeqAt.notIn_tuple_reads (xs := ns.map PyData.int) r2 r1 (lay_ints ns) (by simp [PyData.canLay0]) ?_ ⟨.bl _, H, I, rfl, ?_⟩
  · have := Nat.min_le_right (PyData.depthAll (ns.map PyData.int)) (PyData.int n).depth
    have e : (PyData.int n).depth = 0 := by simp [PyData.depth]
    omega
  · rw [any_int]; exact q
end
section
variable {P : Program} {w : World} {K : PySem.W.Frag} {mg : Str → Option Value} {base : Heap}
/-! ### lacking_size -/
abbrev nLk : List Str := ["rule", "part", "other", "its", "most", "known", "n"]
theorem scLk : FnScope nLk nFE (defScope sLackS) := ⟨rfl, rfl, rfl, by decide +kernel, rfl, by decide +kernel, by decide +kernel⟩
/-- a size that the other part lacks, none of none -/
def Lacks (ps : List (List Int)) (p : List Int) (ps' : List (List Int)) (p' : List Int) (mo : Nat) (v : V) : Prop :=
  (v = .non ∧ ∀ n ∈ fromN 1 mo, isZ ps p n = true → isZ ps' p' n = true) ∨ ∃ n : Int, v = .int n ∧ n ∈ fromN 1 mo ∧ isZ ps p n = true ∧ isZ ps' p' n = false
def spLk (K : PySem.W.Frag) (C : Addr) : Sp := fun vs H Q _ => ∃ (r : Addr) (k : Nat) (ns : List Int) (ps : List (List Int)) (p : List Int) (r' : Addr) (k' : Nat) (ns' : List Int) (ps' : List (List Int)) (p' : List Int), vs = [.ref r, .int (k : Int), .ref r', .int (k' : Int)] ∧ PartR K C H r k ns ps p ∧ PartR K C H r' k' ns' ps' p' ∧
  ∀ (H' : Hp) (v : V) (mo : Nat), Same H H' → Far ps p ps' p' mo → Lacks ps p ps' p' mo v → Q v H'
theorem ok_lk {f C fF fZ : Addr} {fd dF dZ : FuncData} (F : Fun K "lacking_size" "lacking_size" sLackS f fd) (B : Bare mg)
    (DF : DefAt K mg "far_enough" sFarE nFE fF dF) (GF : FnOk P w K mg base CX0 7 fF dF nFE (spFE K C)) (DZ : DefAt K mg "sizes" sSizes ["rule", "part", "most"] fZ dZ) (GZ : FnOk P w K mg base CX0 4 fZ dZ ["rule", "part", "most"] (spSz K C)) : FnOk P w K mg base CX0 8 f fd nFE (spLk K C) := by
  refine F.ok scLk (fun vs H Q E h => ?_) (fun cdv A outer s H vs Q E hr h => ?_)
  · obtain ⟨r, k, ns, ps, p, r', k', ns', ps', p', rfl, _⟩ := h
    rfl
  · obtain ⟨r, k, ns, ps, p, r', k', ns', ps', p', rfl, h1, h2, q⟩ := h
    have r4 := hr.mono (show 4 ≤ 7 by decide)
    have hu5 := un65 hr
    refine ⟨_, pss_cons (ps_set (i := 4) scLk.nd rfl (Or.inl rfl) (pe_call GF hr (by rfl) DF.mg DF.fn.kp DF.bi .nil pass0 (pa_cons (pv 0) (pa_cons (pv 1) (pa_cons (pv 2) (pa_cons (pv 3) pa_nil))))))
      (pss_cons (ps_set (i := 5) scLk.nd rfl (Or.inl rfl) (pe_call GZ r4 (by rfl) DZ.mg DZ.fn.kp DZ.bi .nil pass0 (pa_cons (pv 2) (pa_cons (pv 3) (pa_cons (pv 4) pa_nil)))))
      (pss_cons (ps_for PassesOwn.never rfl (pi_tup (pe_call GZ r4 (by rfl) DZ.mg DZ.fn.kp DZ.bi .nil pass0 (pa_cons (pv 0) (pa_cons (pv 1) (pa_cons (pv 4) pa_nil))))) (pg_name (i := 6) scLk.nd rfl (Or.inl rfl))
        (pss_one (ps_if (pt_cmpR (op_notInTI hu5) (pv 6) (pv 5) (by rfl)) (pss_one (ps_ret (pv 6))) pss_nil)))
      (pss_one (ps_ret pe_non)))), ?_⟩
    refine ⟨.ref r, rfl, .int (k : Int), rfl, .ref r', rfl, .int (k' : Int), rfl, r, k, ns, ps, p, r', k', ns', ps', p', rfl, h1, h2, fun H1 mo s1 far => ?_⟩
    have hP : ∀ q ∈ ps, Pr (ns.length : Int) q := fun q hq => h1.S.pair q hq
    have kn := knot_of hP (List.mem_of_getElem? h1.gk)
    have rp : Rch ps (hd0 p) (hd0 p) := lot_some (n := ns.length) (by rw [part_lot (List.mem_of_getElem? h1.gk) kn.x_in]; exact kn.x_in)
    have mo9 : mo ≤ 200 := by
      obtain ⟨T, T', _, _, lT, lT', per, e⟩ := far
      have := per_small hP h1.M.few per rp
      have : max T T' ≤ 72 := Nat.max_le.mpr ⟨lT, lT'⟩
      omega
    refine ⟨.ref r', rfl, .int (k' : Int), rfl, .int (mo : Int), rfl, r', k', mo, ns', p', ps', rfl, h2.R.same s1, h2.M, h2.S, h2.gk, by omega, fun H2 kt s2 hK => ?_⟩
    refine ⟨.ref r, rfl, .int (k : Int), rfl, .int (mo : Int), rfl, r, k, mo, ns, p, ps, rfl, h1.R.same (s1.trans s2), h1.M, h1.S, h1.gk, by omega, fun H3 zt s3 hZ => ⟨zt, rfl, ⟨_, hZ⟩, ?_⟩⟩
    have s03 := (s1.trans s2).trans s3
    have hK3 := sqT_same s3 hK
    refine for_tup (K := K) (a := zt) (xs := ((fromN 1 mo).filter (isZ ps p)).map V.int) (fun i σ H' => ∃ y6 : Option V, σ = [some (.ref r), some (.int (k : Int)), some (.ref r'), some (.int (k' : Int)), some (.int (mo : Int)), some (.ref kt), y6] ∧ H' = H3 ∧ ∀ n ∈ ((fromN 1 mo).filter (isZ ps p)).take i, isZ ps' p' n = true)
      ⟨_, rfl, rfl, fun n hn => by simp at hn⟩ (fun i σ H' _ h => ?_) (fun i x σ H' hx h => ?_) (fun σ H' h => ?_)
    · obtain ⟨_, _, rfl, _⟩ := h
      exact hZ
    · obtain ⟨y6, rfl, rfl, done⟩ := h
      obtain ⟨n, gn, rfl⟩ := map_at hx
      obtain ⟨hn1, hn2⟩ := List.mem_filter.mp (List.mem_of_getElem? gn)
      have tk : ((fromN 1 mo).filter (isZ ps p)).take (i + 1) = ((fromN 1 mo).filter (isZ ps p)).take i ++ [n] := by rw [List.take_add_one, gn]; rfl
      refine ⟨.int n, rfl, .ref kt, rfl, kt, n, _, rfl, rfl, hK3, _, rfl, ?_⟩
      have ed : decide (n ∈ (fromN 1 mo).filter (isZ ps' p')) = isZ ps' p' n := by
        rw [Bool.eq_iff_iff, decide_eq_true_iff, List.mem_filter]
        exact ⟨fun h => h.2, fun h => ⟨hn1, h⟩⟩
      rw [ed]
      cases hz : isZ ps' p' n with
      | true =>
        refine iteF ⟨_, rfl, rfl, fun m hm => ?_⟩
        rw [tk] at hm
        rcases List.mem_append.mp hm with hm | hm
        · exact done m hm
        · rw [List.mem_singleton.mp hm]; exact hz
      | false =>
        refine iteT ⟨.int n, rfl, q _ (.int n) mo s03 far (.inr ⟨n, rfl, hn1, hn2, hz⟩)⟩
    · obtain ⟨y6, rfl, rfl, done⟩ := h
      rw [List.length_map, List.take_of_length_le (Nat.le_refl _)] at done
      exact q H' .non mo s03 far (.inl ⟨rfl, fun n h1 h2 => done n (List.mem_filter.mpr ⟨h1, h2⟩)⟩)
end
end K44
set_option maxHeartbeats 4000000
namespace K44
open PySem PySem.Spec PyProof.Rows L2 RV
/-- an axis class and a number that the other part lacks -/
noncomputable def lackB (ns : List Int) (ps : List (List Int)) (p : List Int) (ns' : List Int) (ps' : List (List Int)) (p' : List Int) (h z n : Int) : Prop := msZ ns ps p z n = true ∧ msZ ns' ps' p' ((z + 2 * h) % (2 * ((pOf ps' p' : Nat) : Int))) n = false
/-- all mirror rings are there -/
def MFit (ns : List Int) (ps : List (List Int)) (p : List Int) (ns' : List Int) (ps' : List (List Int)) (p' : List Int) (h : Int) (mo : Nat) : Prop := ∀ z, AxC ns ps p z → ∀ n ∈ fromN 1 mo, msZ ns ps p z n = true → msZ ns' ps' p' ((z + 2 * h) % (2 * ((pOf ps' p' : Nat) : Int))) n = true
/-- what is told of mirror rings: none, or an axis class and a number -/
def LackM (H : Hp) (ns : List Int) (ps : List (List Int)) (p : List Int) (ns' : List Int) (ps' : List (List Int)) (p' : List Int) (h : Int) (mo : Nat) (v : V) : Prop :=
  (v = .non ∧ MFit ns ps p ns' ps' p' h mo) ∨ ∃ (a : Addr) (z n : Int), v = .ref a ∧ H a = some (.tup [.int z, .int n]) ∧ AxC ns ps p z ∧ n ∈ fromN 1 mo ∧ lackB ns ps p ns' ps' p' h z n
theorem far_few {ps : List (List Int)} {p : List Int} {ps' : List (List Int)} {p' : List Int} {mo n : Nat} (hP : ∀ q ∈ ps, Pr (n : Int) q) (h8 : n ≤ 8) (rp : Rch ps (hd0 p) (hd0 p)) (h : Far ps p ps' p' mo) : 1 ≤ mo ∧ mo ≤ 200 := by
  obtain ⟨T, T', sT, _, lT, lT', per, e⟩ := h
  have := per_small hP h8 per rp
  have := sT.1
  have : T ≤ max T T' := Nat.le_max_left _ _
  have : max T T' ≤ 72 := Nat.max_le.mpr ⟨lT, lT'⟩
  omega
theorem PartR.rch {K : PySem.W.Frag} {C : Addr} {H : Hp} {r : Addr} {k : Nat} {ns : List Int} {ps : List (List Int)} {p : List Int} (h : PartR K C H r k ns ps p) : Rch ps (hd0 p) (hd0 p) := by
  have hP : ∀ q ∈ ps, Pr (ns.length : Int) q := fun q hq => h.S.pair q hq
  have kn := knot_of hP (List.mem_of_getElem? h.gk)
  exact lot_some (n := ns.length) (by rw [part_lot (List.mem_of_getElem? h.gk) kn.x_in]; exact kn.x_in)
section
variable {P : Program} {w : World} {K : PySem.W.Frag} {mg : Str → Option Value} {base : Heap}
/-! ### lacking_mirror -/
abbrev nLM : List Str := ["rule", "part", "other", "its", "shift", "most", "first", "known", "n"]
abbrev nLMa : List Str := ["rule", "part", "other", "its", "shift"]
theorem scLM : FnScope nLM nLMa (defScope sLackM) := ⟨rfl, rfl, rfl, by decide +kernel, rfl, by decide +kernel, by decide +kernel⟩
def spLM (K : PySem.W.Frag) (C : Addr) : Sp := fun vs H Q _ => ∃ (r : Addr) (k : Nat) (ns : List Int) (ps : List (List Int)) (p : List Int) (r' : Addr) (k' : Nat) (ns' : List Int) (ps' : List (List Int)) (p' : List Int) (h : Int), vs = [.ref r, .int (k : Int), .ref r', .int (k' : Int), .int h] ∧ PartR K C H r k ns ps p ∧ PartR K C H r' k' ns' ps' p' ∧
  ∀ (H' : Hp) (v : V) (mo : Nat), Same H H' → Far ps p ps' p' mo → LackM H' ns ps p ns' ps' p' h mo v → Q v H'
theorem ok_lm {f C fF fX fZ fS fM : Addr} {fd dF dX dZ dS dM : FuncData} (F : Fun K "lacking_mirror" "lacking_mirror" sLackM f fd) (B : Bare mg)
    (DF : DefAt K mg "far_enough" sFarE nFE fF dF) (GF : FnOk P w K mg base CX0 7 fF dF nFE (spFE K C)) (DX : DefAt K mg "axis_classes" sAxisC ["rule", "part"] fX dX) (GX : FnOk P w K mg base CX0 7 fX dX ["rule", "part"] (spAx K C))
    (DZ : DefAt K mg "mirror_sizes" sMSizes ["rule", "part", "first", "most"] fZ dZ) (GZ : FnOk P w K mg base CX0 8 fZ dZ ["rule", "part", "first", "most"] (spMZ K C))
    (DS : DefAt K mg "shifted_axis" sShAxis ["first", "shift", "its_period"] fS dS) (DM : DefAt K mg "period" sPeriod ["rule", "part"] fM dM) (GM : FnOk P w K mg base CX0 4 fM dM ["rule", "part"] (spPeriod K C)) : FnOk P w K mg base CX0 9 f fd nLMa (spLM K C) := by
  have GS : FnOk P w K mg base CX0 1 fS dS ["first", "shift", "its_period"] spSA := ok_sa DS.fn
  refine F.ok scLM (fun vs H Q E h => ?_) (fun cdv A outer s H vs Q E hr h => ?_)
  · obtain ⟨r, k, ns, ps, p, r', k', ns', ps', p', h, rfl, _⟩ := h
    rfl
  · obtain ⟨r, k, ns, ps, p, r', k', ns', ps', p', h, rfl, h1, h2, q⟩ := h
    have r1 := hr.mono (show 1 ≤ 8 by decide)
    have r4 := hr.mono (show 4 ≤ 8 by decide)
    have r7 := hr.mono (show 7 ≤ 8 by decide)
    have hu5 := un65 hr
    have two : (2 : Nat) ≤ sizeLine := by decide
    refine ⟨_, pss_cons (ps_set (i := 5) scLM.nd rfl (Or.inl rfl) (pe_call GF r7 (by rfl) DF.mg DF.fn.kp DF.bi .nil pass0 (pa_cons (pv 0) (pa_cons (pv 1) (pa_cons (pv 2) (pa_cons (pv 3) pa_nil))))))
      (pss_cons (ps_for PassesOwn.never rfl (pi_tup (pe_call GX r7 (by rfl) DX.mg DX.fn.kp DX.bi .nil pass0 (pa_cons (pv 0) (pa_cons (pv 1) pa_nil)))) (pg_name (i := 6) scLM.nd rfl (Or.inl rfl))
        (pss_cons (ps_set (i := 7) scLM.nd rfl (Or.inl rfl) (pe_call GZ hr (by rfl) DZ.mg DZ.fn.kp DZ.bi .nil pass0 (pa_cons (pv 2) (pa_cons (pv 3) (pa_cons (pe_call GS r1 (by rfl) DS.mg DS.fn.kp DS.bi .nil pass0 (pa_cons (pv 6) (pa_cons (pv 4) (pa_cons (pe_call GM r4 (by rfl) DM.mg DM.fn.kp DM.bi .nil pass0 (pa_cons (pv 2) (pa_cons (pv 3) pa_nil))) pa_nil)))) (pa_cons (pv 5) pa_nil))))))
        (pss_one (ps_for PassesOwn.never rfl (pi_tup (pe_call GZ hr (by rfl) DZ.mg DZ.fn.kp DZ.bi .nil pass0 (pa_cons (pv 0) (pa_cons (pv 1) (pa_cons (pv 6) (pa_cons (pv 5) pa_nil)))))) (pg_name (i := 8) scLM.nd rfl (Or.inl rfl))
          (pss_one (ps_if (pt_cmpR (op_notInTI hu5) (pv 8) (pv 7) (by rfl)) (pss_one (ps_ret (pe_tup (pa_cons (pv 6) (pa_cons (pv 8) pa_nil))))) pss_nil))))))
      (pss_one (ps_ret pe_non))), ?_⟩
    refine ⟨.ref r, rfl, .int (k : Int), rfl, .ref r', rfl, .int (k' : Int), rfl, r, k, ns, ps, p, r', k', ns', ps', p', rfl, h1, h2, fun H1 mo s1 far => ?_⟩
    have mo9 := far_few (fun q hq => h1.S.pair q hq) h1.M.few h1.rch far
    refine ⟨.ref r, rfl, .int (k : Int), rfl, r, k, p, ns, ps, rfl, h1.R.same s1, h1.M, h1.S, h1.gk, fun H2 zt zs s2 hZ rise mem lz => ⟨zt, rfl, ⟨_, hZ⟩, ?_⟩⟩
    have s02 := s1.trans s2
    refine for_tup (K := K) (a := zt) (xs := zs.map V.int) (fun i σ H' => ∃ y6 y7 y8 : Option V, σ = [some (.ref r), some (.int (k : Int)), some (.ref r'), some (.int (k' : Int)), some (.int h), some (.int (mo : Int)), y6, y7, y8] ∧ Same H2 H' ∧ ∀ z ∈ zs.take i, ∀ n ∈ fromN 1 mo, msZ ns ps p z n = true → msZ ns' ps' p' ((z + 2 * h) % (2 * ((pOf ps' p' : Nat) : Int))) n = true)
      ⟨_, _, _, rfl, Same.refl H2, fun z hz => by simp at hz⟩ (fun i σ H' _ h => ?_) (fun i x σ H3 hx h => ?_) (fun σ H3 h => ?_)
    · obtain ⟨_, _, _, _, s', _⟩ := h
      exact sqT_same s' hZ
    · obtain ⟨y6, y7, y8, rfl, s3, done⟩ := h
      obtain ⟨z, gz, rfl⟩ := map_at hx
      have hz := (mem z).mp (List.mem_of_getElem? gz)
      have s03 := s02.trans s3
      refine ⟨.ref r', rfl, .int (k' : Int), rfl, .int z, rfl, .int h, rfl, .ref r', rfl, .int (k' : Int), rfl, r', k', ns', ps', p', rfl, h2.R.same s03, h2.M, h2.S, h2.gk, fun H4 s4 per => ?_⟩
      have g0 : 0 < perN ps' (hd0 p') := per.pos h2.rch
      have s04 := s03.trans s4
      refine ⟨z, h, perN ps' (hd0 p'), rfl, g0, ?_⟩
      refine ⟨.int (mo : Int), rfl, r', k', mo, _, p', ns', ps', rfl, h2.R.same s04, h2.M, h2.S, h2.gk, mo9.1, by omega, fun H5 kt s5 hK => ?_⟩
      have s05 := s04.trans s5
      refine ⟨.ref r, rfl, .int (k : Int), rfl, .int z, rfl, .int (mo : Int), rfl, r, k, mo, z, p, ns, ps, rfl, h1.R.same s05, h1.M, h1.S, h1.gk, mo9.1, by omega, fun H6 nt s6 hN => ⟨nt, rfl, ⟨_, hN⟩, ?_⟩⟩
      have s06 := s05.trans s6
      have s26 := ((s3.trans s4).trans s5).trans s6
      have hK6 := sqT_same s6 hK
      refine for_tup (K := K) (a := nt) (xs := ((fromN 1 mo).filter (msZ ns ps p z)).map V.int) (fun i σ H' => ∃ y8 : Option V, σ = [some (.ref r), some (.int (k : Int)), some (.ref r'), some (.int (k' : Int)), some (.int h), some (.int (mo : Int)), some (.int z), some (.ref kt), y8] ∧ H' = H6 ∧ ∀ n ∈ ((fromN 1 mo).filter (msZ ns ps p z)).take i, msZ ns' ps' p' ((z + 2 * h) % (2 * ((pOf ps' p' : Nat) : Int))) n = true)
        ⟨_, rfl, rfl, fun n hn => by simp at hn⟩ (fun i σ H' _ h => ?_) (fun j x σ H' hx h => ?_) (fun σ H' h => ?_)
      · obtain ⟨_, _, rfl, _⟩ := h
        exact hN
      · obtain ⟨y8, rfl, rfl, done2⟩ := h
        obtain ⟨n, gn, rfl⟩ := map_at hx
        obtain ⟨hn1, hn2⟩ := List.mem_filter.mp (List.mem_of_getElem? gn)
        refine ⟨.int n, rfl, .ref kt, rfl, kt, n, _, rfl, rfl, hK6, _, rfl, ?_⟩
        have ed : decide (n ∈ (fromN 1 mo).filter (msZ ns' ps' p' ((z + 2 * h) % (2 * ((perN ps' (hd0 p') : Nat) : Int))))) = msZ ns' ps' p' ((z + 2 * h) % (2 * ((pOf ps' p' : Nat) : Int))) n := by
          rw [Bool.eq_iff_iff, decide_eq_true_iff, List.mem_filter]
          exact ⟨fun h => h.2, fun h => ⟨hn1, h⟩⟩
        rw [ed]
        cases hz2 : msZ ns' ps' p' ((z + 2 * h) % (2 * ((pOf ps' p' : Nat) : Int))) n with
        | true =>
          refine iteF ⟨_, rfl, rfl, fun m hm => ?_⟩
          rw [List.take_add_one, gn] at hm
          rcases List.mem_append.mp hm with hm | hm
          · exact done2 m hm
          · rw [List.mem_singleton.mp hm]; exact hz2
        | false =>
          refine iteT ⟨.int z, rfl, .int n, rfl, two, fun t nt' => ?_⟩
          exact q _ (.ref t) mo (s06.trans (same_upd nt')) far (.inr ⟨t, z, n, rfl, upd_same, hz, hn1, hn2, hz2⟩)
      · obtain ⟨y8, rfl, rfl, done2⟩ := h
        rw [List.length_map, List.take_of_length_le (Nat.le_refl _)] at done2
        refine ⟨_, _, _, rfl, s26, fun z' hz' => ?_⟩
        rw [List.take_add_one, gz] at hz'
        rcases List.mem_append.mp hz' with hz' | hz'
        · exact done z' hz'
        · rw [List.mem_singleton.mp hz']
          exact fun n n1 n2 => done2 n (List.mem_filter.mpr ⟨n1, n2⟩)
    · obtain ⟨y6, y7, y8, rfl, s3, done⟩ := h
      rw [List.length_map, List.take_of_length_le (Nat.le_refl _)] at done
      exact q H3 .non mo (s02.trans s3) far (.inl ⟨rfl, fun z hz => done z ((mem z).mpr hz)⟩)
end
end K44
set_option maxHeartbeats 4000000
/-! every mark that comes back to itself has a period -/
namespace RV
open PySem PySem.Spec PyProof.Rows L2
theorem per_off {ps : List (List Int)} {n : Nat} (hb : ∀ q ∈ ps, Pr (n : Int) q) (h8 : n ≤ 8) {x : Int} (hx : 0 ≤ x ∧ x < (n : Int)) {D : Nat} (hD : ∀ k, k ≤ 24 → Wk ps k x x → D ∣ k) : ∀ {k : Nat} {y : Int}, Wk ps k x y → (∃ r, Wk ps r y x) → ∀ m, m ≤ 8 → Wk ps m x y → (D : Int) ∣ (k : Int) - (m : Int)
  | 0, y, w, _, m, hm, wm => by
    have e := w.zero
    subst e
    have := hD m (by omega) wm
    obtain ⟨c, hc⟩ := this
    exact ⟨-(c : Int), by rw [hc, Int.natCast_mul, Int.mul_neg]; omega⟩
  | k + 1, y, w, ⟨r, wr⟩, m, hm, wm => by
    cases w with
    | @more _ _ z _ w e =>
      have by_ : 0 ≤ y ∧ y < (n : Int) := wm.bound hb hx
      obtain ⟨mz, hmz, wz⟩ := wk_short hb hx w
      obtain ⟨r', hr', wr'⟩ := wk_short hb by_ wr
      have ih := per_off hb h8 hx hD w ⟨1 + r, (Wk.one e).trans wr⟩ mz (by omega) wz
      have d1 := hD (mz + 1 + r') (by omega) ((wz.trans (.one e)).trans wr')
      have d2 := hD (m + r') (by omega) (wm.trans wr')
      have d3 := Int.dvd_sub (Int.ofNat_dvd.mpr d1) (Int.ofNat_dvd.mpr d2)
      have d4 := Int.dvd_add ih d3
      rw [show ((k + 1 : Nat) : Int) - (m : Int) = (k : Int) - (mz : Int) + (((mz + 1 + r' : Nat) : Int) - ((m + r' : Nat) : Int)) by omega]
      exact d4
theorem per_ex {ps : List (List Int)} {n : Nat} (hb : ∀ q ∈ ps, Pr (n : Int) q) (h8 : n ≤ 8) {x : Int} (r : Rch ps x x) : Per ps x (perN ps x) := by
  obtain ⟨k, wk⟩ := rch_wk r
  have bx := (Rch.bound hb r).1
  obtain ⟨d, t, d1, wt, et, all⟩ := least_rest (show 1 ≤ k + 1 by omega) wk
  have h : Per ps x d := by
    refine ⟨fun n w => all n w, fun D hD => ?_⟩
    have any : ∀ c, Wk ps c x x → D ∣ c := fun c w => by
      have z := per_off hb h8 bx hD w ⟨0, .nil x⟩ 0 (by omega) (.nil x)
      rw [show (c : Int) - ((0 : Nat) : Int) = (c : Int) by omega] at z
      exact Int.ofNat_dvd.mp z
    have a1 := any _ wk
    have a2 := any _ wt
    have a3 : D ∣ t % (k + 1) := (Nat.dvd_mod_iff a1).mpr a2
    rw [et] at a3
    exact (Nat.dvd_mod_iff a1).mp a3
  rw [h.is]; exact h
end RV
set_option maxHeartbeats 4000000
namespace K44
open PySem PySem.Spec PyProof.Rows L2 RV
/-- sizes fit to so many places -/
def SFit (ps : List (List Int)) (p : List Int) (ps' : List (List Int)) (p' : List Int) (mo : Nat) : Prop := ∀ n ∈ fromN 1 mo, isZ ps p n = true → isZ ps' p' n = true
/-- a good shift -/
def Good (ns : List Int) (ps : List (List Int)) (p : List Int) (ns' : List Int) (ps' : List (List Int)) (p' : List Int) (mo : Nat) (h : Int) : Prop :=
  SFit ps p ps' p' mo ∧ (ownB ns p = true → ownB ns' p' = true ∧ ableS ns ps p ns' ps' p' h = true ∧ MFit ns ps p ns' ps' p' h mo)
open Classical in
noncomputable def goodB (ns : List Int) (ps : List (List Int)) (p : List Int) (ns' : List Int) (ps' : List (List Int)) (p' : List Int) (mo : Nat) (h : Int) : Bool := decide (Good ns ps p ns' ps' p' mo h)
theorem goodB_iff {ns : List Int} {ps : List (List Int)} {p : List Int} {ns' : List Int} {ps' : List (List Int)} {p' : List Int} {mo : Nat} {h : Int} : goodB ns ps p ns' ps' p' mo h = true ↔ Good ns ps p ns' ps' p' mo h := @decide_eq_true_iff _ (Classical.propDecidable _)
theorem filt_none {α : Type} {f : α → Bool} {l : List α} (h : ∀ x ∈ l, f x = false) : l.filter f = [] := List.filter_eq_nil_iff.mpr fun x hx => by rw [h x hx]; exact Bool.false_ne_true
section
variable {P : Program} {w : World} {K : PySem.W.Frag} {mg : Str → Option Value} {base : Heap}
/-! ### good_shifts -/
abbrev nGS : List Str := ["rule", "part", "other", "its", "able", "shift"]
theorem scGS : FnScope nGS nFE (defScope sGoodSh) := ⟨rfl, rfl, rfl, by decide +kernel, rfl, by decide +kernel, by decide +kernel⟩
def spGS (K : PySem.W.Frag) (C : Addr) : Sp := fun vs H Q _ => ∃ (r : Addr) (k : Nat) (ns : List Int) (ps : List (List Int)) (p : List Int) (r' : Addr) (k' : Nat) (ns' : List Int) (ps' : List (List Int)) (p' : List Int), vs = [.ref r, .int (k : Int), .ref r', .int (k' : Int)] ∧ PartR K C H r k ns ps p ∧ PartR K C H r' k' ns' ps' p' ∧
  ∀ (H' : Hp) (l : Addr) (mo : Nat), Same H H' → H l = none → Far ps p ps' p' mo → H' l = some (.lst (((upN (pOf ps' p')).filter (goodB ns ps p ns' ps' p' mo)).map V.int)) → Q (.ref l) H'
theorem ok_gs {f C fL fO fM fT fN : Addr} {fd dL dO dM dT dN : FuncData} (F : Fun K "good_shifts" "good_shifts" sGoodSh f fd) (B : Bare mg)
    (DL : DefAt K mg "lacking_size" sLackS nFE fL dL) (GL : FnOk P w K mg base CX0 8 fL dL nFE (spLk K C)) (DO : DefAt K mg "is_own_mirror" sIsOwn ["rule", "part"] fO dO) (GO : FnOk P w K mg base CX0 6 fO dO ["rule", "part"] (spIsOwn K C))
    (DM : DefAt K mg "period" sPeriod ["rule", "part"] fM dM) (GM : FnOk P w K mg base CX0 4 fM dM ["rule", "part"] (spPeriod K C)) (DT : DefAt K mg "turning_shifts" sTShifts nFE fT dT) (GT : FnOk P w K mg base CX0 8 fT dT nFE (spTSh K C))
    (DN : DefAt K mg "lacking_mirror" sLackM nLMa fN dN) (GN : FnOk P w K mg base CX0 9 fN dN nLMa (spLM K C)) : FnOk P w K mg base CX0 10 f fd nFE (spGS K C) := by
  refine F.ok scGS (fun vs H Q E h => ?_) (fun cdv A outer s H vs Q E hr h => ?_)
  · obtain ⟨r, k, ns, ps, p, r', k', ns', ps', p', rfl, _⟩ := h
    rfl
  · obtain ⟨r, k, ns, ps, p, r', k', ns', ps', p', rfl, h1, h2, q⟩ := h
    have r8 := hr.mono (show 8 ≤ 9 by decide)
    have r6 := hr.mono (show 6 ≤ 9 by decide)
    have r4 := hr.mono (show 4 ≤ 9 by decide)
    have z0 : (0 : Nat) ≤ sizeLine := Nat.zero_le _
    refine ⟨_, pss_cons (ps_if (pt_cmpR op_notN (pe_call GL r8 (by rfl) DL.mg DL.fn.kp DL.bi .nil pass0 (pa_cons (pv 0) (pa_cons (pv 1) (pa_cons (pv 2) (pa_cons (pv 3) pa_nil))))) pe_non (nomark _)) (pss_one (ps_ret (pe_lst pa_nil))) pss_nil)
      (pss_cons (ps_if (pt_not (pt_val (pe_call GO r6 (by rfl) DO.mg DO.fn.kp DO.bi .nil pass0 (pa_cons (pv 0) (pa_cons (pv 1) pa_nil))))) (pss_one (ps_ret (pe_listRg rfl (by rfl) B.list (prg_1 (by rfl) B.range (pe_call GM r4 (by rfl) DM.mg DM.fn.kp DM.bi .nil pass0 (pa_cons (pv 2) (pa_cons (pv 3) pa_nil))))))) pss_nil)
      (pss_cons (ps_if (pt_not (pt_val (pe_call GO r6 (by rfl) DO.mg DO.fn.kp DO.bi .nil pass0 (pa_cons (pv 2) (pa_cons (pv 3) pa_nil))))) (pss_one (ps_ret (pe_lst pa_nil))) pss_nil)
      (pss_cons (ps_set (i := 4) scGS.nd rfl (Or.inl rfl) (pe_call GT r8 (by rfl) DT.mg DT.fn.kp DT.bi .nil pass0 (pa_cons (pv 0) (pa_cons (pv 1) (pa_cons (pv 2) (pa_cons (pv 3) pa_nil))))))
      (pss_one (ps_ret (pe_lc (own := [("shift", 5)]) (g := gName 5) rfl scGS.nd (pi_list (pv 4)) (blkOk_by (N := nGS) (sc := defScope sGoodSh) (by decide +kernel)) (fun _ _ _ _ _ => pg_name (i := 5) scGS.nd rfl (Or.inl rfl))
        (fun _ _ _ _ _ => pts_one (pt_cmpR op_isN (pe_call GN hr (by rfl) DN.mg DN.fn.kp DN.bi .nil pass0 (pa_cons (pv 0) (pa_cons (pv 1) (pa_cons (pv 2) (pa_cons (pv 3) (pa_cons (pv 5) pa_nil)))))) pe_non (nomark _))) (fun _ _ _ _ _ => pv 5))))))), ?_⟩
    have hP' : ∀ q ∈ ps', Pr (ns'.length : Int) q := fun q hq => h2.S.pair q hq
    refine ⟨.ref r, rfl, .int (k : Int), rfl, .ref r', rfl, .int (k' : Int), rfl, r, k, ns, ps, p, r', k', ns', ps', p', rfl, h1, h2, fun H1 v mo s1 far hv => ⟨rfl, _, rfl, ?_⟩⟩
    rcases hv with ⟨rfl, sf⟩ | ⟨n, rfl, hn1, hn2, hn3⟩
    · refine iteF ⟨.ref r, rfl, .int (k : Int), rfl, r, k, p, ns, ps, rfl, h1.R.same s1, h1.M, h1.S, h1.gk, fun H2 s2 => ⟨_, rfl, ?_⟩⟩
      have s02 := s1.trans s2
      have sfit : SFit ps p ps' p' mo := sf
      cases ho : ownB ns p with
      | false =>
        refine iteT ⟨.ref r', rfl, .int (k' : Int), rfl, r', k', ns', ps', p', rfl, h2.R.same s02, h2.M, h2.S, h2.gk, fun H3 s3 per => ?_⟩
        have g9 : perN ps' (hd0 p') ≤ 10 := per_small hP' h2.M.few per h2.rch
        refine ⟨_, rfl, RgOk.of_le (by omega) (by omega) (by omega) (by omega), fun D nD => ?_⟩
        rw [rgV_upN]
        refine q _ D mo ((s02.trans s3).trans (same_upd nD)) ((s02.trans s3).free nD) far ?_
        rw [upd_same, List.filter_eq_self.mpr fun h _ => goodB_iff.mpr ⟨sfit, fun z => by rw [ho] at z; cases z⟩]
      | true =>
        refine iteF ⟨.ref r', rfl, .int (k' : Int), rfl, r', k', p', ns', ps', rfl, h2.R.same s02, h2.M, h2.S, h2.gk, fun H3 s3 => ⟨_, rfl, ?_⟩⟩
        have s03 := s02.trans s3
        cases ho' : ownB ns' p' with
        | false =>
          refine iteT ⟨z0, fun D nD => ?_⟩
          refine q _ D mo (s03.trans (same_upd nD)) (s03.free nD) far ?_
          rw [upd_same, filt_none]
          · rfl
          · intro h _
            rw [Bool.eq_false_iff]
            intro z
            have := (goodB_iff.mp z).2 ho
            rw [ho'] at this; cases this.1
        | true =>
          refine iteF ⟨.ref r, rfl, .int (k : Int), rfl, .ref r', rfl, .int (k' : Int), rfl, r, k, ns, ps, p, r', k', ns', ps', p', rfl, ⟨h1.R.same s03, h1.M, h1.S, h1.gk⟩, ⟨h2.R.same s03, h2.M, h2.S, h2.gk⟩, fun H4 l s4 nl el per => ?_⟩
          have s04 := s03.trans s4
          have g9 : pOf ps' p' ≤ 10 := per_small hP' h2.M.few per h2.rch
          obtain ⟨as, eas⟩ : ∃ as, as = (upN (pOf ps' p')).filter (ableS ns ps p ns' ps' p') := ⟨_, rfl⟩
          have las : as.length ≤ 10 := by rw [eas]; exact Nat.le_trans (List.length_filter_le _ _) (by rw [upN_len]; exact g9)
          have ek : (upN (pOf ps' p')).filter (goodB ns ps p ns' ps' p' mo) = as.filter (goodB ns ps p ns' ps' p' mo) := by
            rw [eas, List.filter_filter]
            refine List.filter_congr fun h _ => ?_
            cases e : goodB ns ps p ns' ps' p' mo h with
            | false => rfl
            | true => rw [((goodB_iff.mp e).2 ho).2.1]; rfl
          have able : ∀ h ∈ as, ableS ns ps p ns' ps' p' h = true := fun h hh => by rw [eas] at hh; exact (List.mem_filter.mp hh).2
          rw [← eas] at el
          refine ⟨.ref l, rfl, l, rfl, ⟨_, lstNew el⟩, fun D nD => ?_⟩
          refine lc_list (K := K) (a := l) (xs := as.map V.int) (fun j H' => Same H4 H' ∧ H' D = some (.lst (((as.take j).filter (goodB ns ps p ns' ps' p' mo)).map V.int))) ⟨same_upd nD, upd_same⟩ (fun j H' _ h => lstNew (h.1 _ _ el)) (fun j v H5 hv h => ?_) fun H5 h => ?_
          · obtain ⟨s5, e5⟩ := h
            obtain ⟨h, gh, rfl⟩ := map_at hv
            have s05 := s04.trans s5
            have ha := able _ (List.mem_of_getElem? gh)
            refine ⟨by simp [wipe, List.set_set], .ref r, rfl, .int (k : Int), rfl, .ref r', rfl, .int (k' : Int), rfl, .int h, rfl, r, k, ns, ps, p, r', k', ns', ps', p', h, rfl, ⟨h1.R.same s05, h1.M, h1.S, h1.gk⟩, ⟨h2.R.same s05, h2.M, h2.S, h2.gk⟩, fun H6 v mo2 s6 far2 hv2 => ⟨rfl, _, rfl, ?_⟩⟩
            obtain rfl := far.uniq far2
            have e6 := s6 _ _ e5
            have s56 := s5.trans s6
            rcases hv2 with ⟨rfl, mf⟩ | ⟨a, z, n, rfl, _, z1, z2, z3⟩
            · have gd : goodB ns ps p ns' ps' p' mo h = true := goodB_iff.mpr ⟨sfit, fun _ => ⟨ho', ha, mf⟩⟩
              refine iteT ⟨.int h, rfl, _, e6, by rw [List.length_map]; exact few1 (Nat.le_trans (List.length_filter_le _ _) (by rw [List.length_take]; omega)), fun b' o zz => ?_, ?_⟩
              · rw [upd_ne (ne_of_none zz nD)]; exact s56 b' o zz
              · rw [upd_same, List.take_add_one, gh, List.filter_append, List.map_append]
                show _ = some (HO.lst (_ ++ (List.filter _ [h]).map V.int))
                rw [List.filter_cons_of_pos gd]; rfl
            · have gd : goodB ns ps p ns' ps' p' mo h = false := by
                rw [Bool.eq_false_iff]
                intro zz
                have := ((goodB_iff.mp zz).2 ho).2.2 z z1 n z2 z3.1
                rw [z3.2] at this; cases this
              refine iteF ⟨s56, ?_⟩
              rw [List.take_add_one, gh, List.filter_append]
              show _ = some (HO.lst ((_ ++ (List.filter _ [h])).map V.int))
              rw [List.filter_cons_of_neg (by rw [gd]; decide), List.filter_nil, List.append_nil]; exact e6
          · obtain ⟨s5, e5⟩ := h
            rw [List.length_map, List.take_of_length_le (Nat.le_refl _)] at e5
            exact q H5 D mo (s04.trans s5) (s04.free nD) far (by rw [ek]; exact e5)
    · refine iteT ⟨z0, fun D nD => ?_⟩
      refine q _ D mo (s1.trans (same_upd nD)) (s1.free nD) far ?_
      rw [upd_same, filt_none]
      · rfl
      · intro h _
        rw [Bool.eq_false_iff]
        intro z
        have := (goodB_iff.mp z).1 n hn1 hn2
        rw [hn3] at this; cases this
end
end K44
set_option maxHeartbeats 4000000
/-! sizes and mirror sizes far on -/
namespace K44
open PySem PySem.Spec PyProof.Rows L2 RV
/-- a part, its period, and a number of steps that leads everywhere -/
structure Ever (ns : List Int) (ps : List (List Int)) (p : List Int) (E : Nat) : Prop where
  M : Mir ns
  S : Stp ns ps
  hp : p ∈ partsOf ps ns.length
  ev : Ev ps p (hd0 p) (pOf ps p) E
section
variable {ns : List Int} {ps : List (List Int)} {p : List Int} {E : Nat}
theorem Ever.hP (h : Ever ns ps p E) : ∀ q ∈ ps, Pr (ns.length : Int) q := fun q hq => h.S.pair q hq
theorem Ever.kn (h : Ever ns ps p E) : Knot ps p (hd0 p) := knot_of h.hP h.hp
theorem Ever.rp (h : Ever ns ps p E) : ∀ y ∈ p, Rch ps y y := fun y hy => lot_some (n := ns.length) (by rw [part_lot h.hp hy]; exact hy)
theorem Ever.per (h : Ever ns ps p E) : Per ps (hd0 p) (pOf ps p) := per_ex h.hP h.M.few (h.rp _ h.kn.x_in)
theorem Ever.pos (h : Ever ns ps p E) : 0 < pOf ps p := h.per.pos (h.rp _ h.kn.x_in)
/-- the class that so many steps lead to -/
theorem Ever.cls (h : Ever ns ps p E) {x y : Int} {n : Nat} (hx : x ∈ p) (hy : y ∈ p) (w : Wk ps n x y) : clsN ps (hd0 p) (pOf ps p) y = (clsN ps (hd0 p) (pOf ps p) x + n) % pOf ps p := by
  obtain ⟨t, wt⟩ := h.kn.out x hx
  rw [← h.per.cls wt (h.kn.back x hx), ← h.per.cls (wt.trans w) (h.kn.back y hy), Nat.mod_add_mod]
theorem Ever.up (h : Ever ns ps p E) {n : Nat} (hn : E ≤ n) : Ev ps p (hd0 p) (pOf ps p) n := fun x hx => by
  obtain ⟨d, rfl⟩ : ∃ d, n = E + d := ⟨n - E, by omega⟩
  clear hn
  induction d with
  | zero => exact h.ev x hx
  | succ d ih => exact ev_next h.kn h.per h.rp ih
theorem Ever.more (h : Ever ns ps p E) {n : Nat} (hn : E ≤ n) : Ever ns ps p n := ⟨h.M, h.S, h.hp, h.up hn⟩
theorem Ever.iff (h : Ever ns ps p E) {n : Nat} (hn : E ≤ n) {x y : Int} (hx : x ∈ p) (hy : y ∈ p) : Wk ps n x y ↔ clsN ps (hd0 p) (pOf ps p) y = (clsN ps (hd0 p) (pOf ps p) x + n) % pOf ps p := ⟨h.cls hx hy, h.up hn x hx y hy⟩
theorem Ever.round (h : Ever ns ps p E) {n : Nat} (hn : E ≤ n) (c : Nat) {x y : Int} (hx : x ∈ p) (hy : y ∈ p) : Wk ps n x y ↔ Wk ps (n + c * pOf ps p) x y := by
  rw [h.iff hn hx hy, h.iff (Nat.le_trans hn (Nat.le_add_right _ _)) hx hy, ← Nat.add_assoc, Nat.add_mul_mod_self_right]
theorem isZ_wk (hP : ∀ q ∈ ps, Pr (ns.length : Int) q) {n : Nat} : isZ ps p (n : Int) = true ↔ ∃ x ∈ p, Wk ps n x x := by
  rw [isZ_nat, List.any_eq_true]
  refine exists_congr fun x => and_congr_right fun _ => ?_
  rw [fB_iff]
  exact ⟨fun h => lk_wk hP h, fun h => wk_lk hP h⟩
theorem Ever.size_dvd (h : Ever ns ps p E) {n : Nat} (z : isZ ps p (n : Int) = true) : pOf ps p ∣ n := by
  obtain ⟨x, hx, w⟩ := (isZ_wk h.hP).mp z
  obtain ⟨t, wt⟩ := h.kn.out x hx
  obtain ⟨r, wr⟩ := h.kn.back x hx
  exact dvd_mid (h.per.all _ ((wt.trans w).trans wr)) (h.per.all _ (wt.trans wr))
theorem Ever.size_far (h : Ever ns ps p E) {n : Nat} (hn : E ≤ n) (d : pOf ps p ∣ n) : isZ ps p (n : Int) = true := by
  refine (isZ_wk h.hP).mpr ⟨hd0 p, h.kn.x_in, (h.iff hn h.kn.x_in h.kn.x_in).mpr ?_⟩
  obtain ⟨c, rfl⟩ := d
  rw [h.per.self, Nat.zero_add, Nat.mul_mod_right]
end
section
variable {ns : List Int} {ps : List (List Int)} {p : List Int} {E : Nat} {ns' : List Int} {ps' : List (List Int)} {p' : List Int} {E' : Nat}
/-- where all sizes to a number fit, all do -/
theorem sizes_all (h : Ever ns ps p E) (h' : Ever ns' ps' p' E') {B : Nat} (hB : E + 2 * pOf ps p ≤ B) (hB' : E' ≤ B) (f : SFit ps p ps' p' B) : pOf ps' p' ∣ pOf ps p ∧ ∀ n : Nat, 1 ≤ n → isZ ps p (n : Int) = true → isZ ps' p' (n : Int) = true := by
  have g0 := h.pos
  have use : ∀ n : Nat, 1 ≤ n → n ≤ B → isZ ps p (n : Int) = true → isZ ps' p' (n : Int) = true := fun n n1 nB z => f _ (mem_fromN.mpr (by omega)) z
  have dv : pOf ps' p' ∣ pOf ps p := by
    obtain ⟨n, n1, n2, n3, n4⟩ : ∃ n, 1 ≤ n ∧ E ≤ n ∧ n ≤ E + pOf ps p ∧ pOf ps p ∣ n := by
      generalize pOf ps p = g at g0
      have e := Nat.div_add_mod E g
      have l := Nat.mod_lt E g0
      refine ⟨g * (E / g + 1), Nat.mul_pos g0 (Nat.succ_pos _), ?_, ?_, Nat.dvd_mul_right _ _⟩
      · rw [Nat.mul_add, Nat.mul_one]; omega
      · rw [Nat.mul_add, Nat.mul_one]; omega
    have d1 := h'.size_dvd (use n n1 (by omega) (h.size_far n2 n4))
    have d2 := h'.size_dvd (use (n + pOf ps p) (by omega) (by omega) (h.size_far (by omega) (Nat.dvd_add n4 (Nat.dvd_refl _))))
    exact (Nat.dvd_add_right d1).mp d2
  refine ⟨dv, fun n n1 z => ?_⟩
  rcases Nat.lt_or_ge B n with l | l
  · exact h'.size_far (by omega) (Nat.dvd_trans dv (h.size_dvd z))
  · exact use n n1 l z
/-! ### mirror sizes -/
theorem ms_round (h : Ever ns ps p E) (own : Own ns p) {z : Int} {n : Nat} (n1 : 1 ≤ n) (hn : E ≤ hSteps z n) (c : Nat) : MS ns ps p z n ↔ MS ns ps p z (n + c * (2 * pOf ps p)) := by
  have e1 : hSteps z (n + c * (2 * pOf ps p)) = hSteps z n + c * pOf ps p := by
    unfold hSteps
    have e : ((n + c * (2 * pOf ps p) : Nat) : Int) = (n : Int) + 2 * ((c * pOf ps p : Nat) : Int) := by
      rw [Nat.mul_left_comm]
      generalize c * pOf ps p = x
      omega
    rw [e]
    omega
  have e2 : (z + ((n + c * (2 * pOf ps p) : Nat) : Int)) % 2 = (z + (n : Int)) % 2 := by
    have e : ((n + c * (2 * pOf ps p) : Nat) : Int) = (n : Int) + 2 * ((c * pOf ps p : Nat) : Int) := by
      rw [Nat.mul_left_comm]
      generalize c * pOf ps p = x
      omega
    rw [e]
    omega
  unfold MS
  rw [e1, e2]
  refine exists_congr fun a => and_congr_right fun ha => exists_congr fun o => and_congr_right fun ho => ?_
  have ap := (hStart_in ha).2
  constructor
  · intro l
    have op := end_in h.S h.hp own ho ap l
    exact wk_lk h.hP ((h.round hn c ap op).mp (lk_wk h.hP l))
  · intro l
    have op := end_in h.S h.hp own ho ap l
    exact wk_lk h.hP ((h.round hn c ap op).mpr (lk_wk h.hP l))
theorem hs_par {z z' : Int} (e : z' % 2 = z % 2) (n : Nat) : hSteps z' n = hSteps z n := by unfold hSteps; rw [e]
theorem hs_ge (z : Int) {n B : Nat} (h : 2 * B + 1 ≤ n) : B ≤ hSteps z n := by
  unfold hSteps
  have : z % 2 = 0 ∨ z % 2 = 1 := by omega
  omega
/-- where all mirror sizes to a number fit, all do -/
theorem mirrs_all (h : Ever ns ps p E) (h' : Ever ns' ps' p' E') (own : Own ns p) (own' : Own ns' p') (dv : pOf ps' p' ∣ pOf ps p) {z z' : Int} {B : Nat} (hB : 2 * E + 2 * pOf ps p ≤ B) (hB' : 2 * E' + 2 * pOf ps p ≤ B)
    (f : ∀ n : Nat, 1 ≤ n → n ≤ B → MS ns ps p z n → MS ns' ps' p' z' n) : ∀ n : Nat, 1 ≤ n → MS ns ps p z n → MS ns' ps' p' z' n := by
  have g0 := h.pos
  intro n
  induction n using Nat.strongRecOn with
  | _ n ih =>
    intro n1 m
    rcases Nat.lt_or_ge B n with l | l
    · obtain ⟨k, rfl⟩ : ∃ k, n = k + 1 * (2 * pOf ps p) := ⟨n - 2 * pOf ps p, by omega⟩
      have m0 := (ms_round h own (z := z) (n := k) (by omega) (hs_ge _ (by omega)) 1).mpr m
      have m1 := ih k (by omega) (by omega) m0
      obtain ⟨c, hc⟩ := dv
      have m2 := (ms_round h' own' (z := z') (n := k) (by omega) (hs_ge _ (by omega)) c).mp m1
      rw [show 1 * (2 * pOf ps p) = c * (2 * pOf ps' p') by rw [hc, Nat.one_mul, Nat.mul_comm (pOf ps' p') c, Nat.mul_left_comm]]
      exact m2
    · exact f n n1 l m
theorem msZ_iff {z : Int} {n : Nat} : msZ ns ps p z (n : Int) = true ↔ MS ns ps p z n := by
  unfold msZ
  rw [Int.toNat_natCast]
  exact @decide_eq_true_iff _ (Classical.propDecidable _)
theorem mfit_iff {h : Int} {B : Nat} : MFit ns ps p ns' ps' p' h B ↔ ∀ z, AxC ns ps p z → ∀ n : Nat, 1 ≤ n → n ≤ B → MS ns ps p z n → MS ns' ps' p' ((z + 2 * h) % (2 * ((pOf ps' p' : Nat) : Int))) n := by
  constructor
  · exact fun f z hz n n1 nB m => msZ_iff.mp (f z hz _ (mem_fromN.mpr (by omega)) (msZ_iff.mpr m))
  · intro f z hz n hn m
    have b := mem_fromN.mp hn
    obtain ⟨k, rfl⟩ : ∃ k : Nat, n = (k : Int) := ⟨n.toNat, by omega⟩
    exact msZ_iff.mpr (f z hz k (by omega) (by omega) (msZ_iff.mp m))
/-- a part of a rule of at most five marks -/
theorem ever5 (M : Mir ns) (S : Stp ns ps) (hp : p ∈ partsOf ps ns.length) (h5 : ns.length ≤ 5) : Ever ns ps p 30 := by
  have hP : ∀ q ∈ ps, Pr (ns.length : Int) q := fun q hq => S.pair q hq
  have kn := knot_of hP hp
  have rp : ∀ y ∈ p, Rch ps y y := fun y hy => lot_some (n := ns.length) (by rw [part_lot hp hy]; exact hy)
  have per := per_ex hP M.few (rp _ kn.x_in)
  have e : Ever ns ps p (ns.length * (ns.length + 1)) := ⟨M, S, hp, ev_far hP kn per (fun x hx => part_bd hp hx) rp⟩
  exact e.more (Nat.mul_le_mul h5 (by omega : ns.length + 1 ≤ 6))
/-- what the law asks of a shift -/
def LawFit (ns : List Int) (ps : List (List Int)) (p : List Int) (ns' : List Int) (ps' : List (List Int)) (p' : List Int) (h : Int) : Prop :=
  h < ((pOf ps' p' : Nat) : Int) ∧ pOf ps' p' ∣ pOf ps p ∧ SFit ps p ps' p' 70 ∧ (ownB ns p = true → ownB ns' p' = true ∧ (turnN ns ps p + 2 * h - turnN ns' ps' p') % ((pOf ps' p' : Nat) : Int) = 0 ∧ MFit ns ps p ns' ps' p' h 130)
theorem able_iff {h : Int} : ableS ns ps p ns' ps' p' h = true ↔ (turnN ns ps p + 2 * h - turnN ns' ps' p') % ((pOf ps' p' : Nat) : Int) = 0 := by
  unfold ableS
  rw [decide_eq_true_iff, ← Int.dvd_iff_emod_eq_zero, ← Int.dvd_iff_emod_eq_zero, ← Int.dvd_neg]
  rw [show -(turnN ns' ps' p' - turnN ns ps p - 2 * h) = turnN ns ps p + 2 * h - turnN ns' ps' p' by omega]
/-- the program's fits is the law's -/
theorem fits_law (M : Mir ns) (S : Stp ns ps) (hp : p ∈ partsOf ps ns.length) (h5 : ns.length ≤ 5) (M' : Mir ns') (S' : Stp ns' ps') (hp' : p' ∈ partsOf ps' ns'.length) (h5' : ns'.length ≤ 5) {mo : Nat} (far : Far ps p ps' p' mo) {h : Int} (h0 : 0 ≤ h) :
    ((0 ≤ h ∧ h < ((pOf ps' p' : Nat) : Int)) ∧ Good ns ps p ns' ps' p' mo h) ↔ LawFit ns ps p ns' ps' p' h := by
  have e := ever5 M S hp h5
  have e' := ever5 M' S' hp' h5'
  have g10 : pOf ps p ≤ 10 := per_small e.hP M.few e.per (e.rp _ e.kn.x_in)
  obtain ⟨T, T', sT, sT', _, _, _, emo⟩ := far
  have eT : Ever ns ps p T := ⟨M, S, hp, sT.2.1⟩
  have eT' : Ever ns' ps' p' T' := ⟨M', S', hp', sT'.2.1⟩
  have lT : T ≤ max T T' := Nat.le_max_left _ _
  have lT' : T' ≤ max T T' := Nat.le_max_right _ _
  have any : ∀ {B : Nat}, (∀ n : Nat, 1 ≤ n → isZ ps p (n : Int) = true → isZ ps' p' (n : Int) = true) → SFit ps p ps' p' B := fun {B} f n hn z => by
    have b := mem_fromN.mp hn
    obtain ⟨k, rfl⟩ : ∃ k : Nat, n = (k : Int) := ⟨n.toNat, by omega⟩
    exact f k (by omega) z
  constructor
  · rintro ⟨⟨_, h1⟩, sf, ow⟩
    obtain ⟨dv, all⟩ := sizes_all eT eT' (B := mo) (by omega) (by omega) sf
    refine ⟨h1, dv, any all, fun o => ?_⟩
    obtain ⟨o', ab, mf⟩ := ow o
    refine ⟨o', able_iff.mp ab, mfit_iff.mpr fun z hz n n1 _ m => ?_⟩
    exact mirrs_all eT eT' (ownB_iff.mp o) (ownB_iff.mp o') dv (B := mo) (by omega) (by omega) (mfit_iff.mp mf z hz) n n1 m
  · rintro ⟨h1, dv, sf, ow⟩
    obtain ⟨_, all⟩ := sizes_all e e' (B := 70) (by omega) (by omega) sf
    refine ⟨⟨h0, h1⟩, any all, fun o => ?_⟩
    obtain ⟨o', ab, mf⟩ := ow o
    refine ⟨o', able_iff.mpr ab, mfit_iff.mpr fun z hz n n1 _ m => ?_⟩
    exact mirrs_all e e' (ownB_iff.mp o) (ownB_iff.mp o') dv (B := 130) (by omega) (by omega) (mfit_iff.mp mf z hz) n n1 m
end
end K44
set_option maxHeartbeats 4000000
/-! what the law keeps of each part -/
namespace K44
open PySem PySem.Spec PyProof.Rows L2 RV
theorem merge_new : ∀ (l kvs : List (L2.Key × V)), ((kvs ++ l).map (·.1)).Nodup → mergeK kvs l = kvs ++ l
  | [], kvs, _ => by rw [List.append_nil]; rfl
  | x :: l, kvs, h => by
    show mergeK (putK kvs x.1 x.2) l = _
    have e : putK kvs x.1 x.2 = kvs ++ [x] := by
      unfold putK
      rw [if_neg]
      rw [List.any_eq_true]
      rintro ⟨y, hy, e⟩
      rw [List.map_append, List.map_cons, List.nodup_append] at h
      exact h.2.2 y.1 (List.mem_map_of_mem hy) x.1 List.mem_cons_self (of_decide_eq_true e)
    rw [e, merge_new l (kvs ++ [x]) (by rw [List.append_assoc]; exact h), List.append_assoc]
    rfl
/-- a dict from axis classes to their sets -/
abbrev kA (qs : List (Addr × Int)) : List (L2.Key × V) := qs.map fun q => ((Sum.inl q.2 : L2.Key), V.ref q.1)
theorem kA_get : ∀ {qs : List (Addr × Int)} {q : Addr × Int}, (qs.map (·.2)).Nodup → q ∈ qs → valV (kA qs) (Sum.inl q.2) = some (.ref q.1)
  | [], q, _, h => by cases h
  | x :: qs, q, nd, h => by
    rw [List.map_cons, List.nodup_cons] at nd
    unfold valV
    show ((((Sum.inl x.2 : L2.Key), V.ref x.1) :: kA qs).find? _).map _ = _
    rw [List.find?_cons]
    rcases List.mem_cons.mp h with rfl | h
    · simp
    · have ne : ¬ (Sum.inl x.2 : L2.Key) = Sum.inl q.2 := fun e => nd.1 (by rw [Sum.inl.inj e]; exact List.mem_map_of_mem h)
      simp only [ne, decide_false]
      exact kA_get nd.2 h
theorem kA_not : ∀ {qs : List (Addr × Int)} {z : Int}, z ∉ qs.map (·.2) → valV (kA qs) (Sum.inl z) = none
  | [], z, _ => rfl
  | x :: qs, z, h => by
    unfold valV
    show ((((Sum.inl x.2 : L2.Key), V.ref x.1) :: kA qs).find? _).map _ = _
    rw [List.find?_cons]
    have ne : ¬ (Sum.inl x.2 : L2.Key) = Sum.inl z := fun e => h (by rw [List.map_cons, Sum.inl.inj e]; exact List.mem_cons_self)
    simp only [ne, decide_false]
    exact kA_not fun e => h (List.mem_cons_of_mem _ e)
/-- the sets from each axis class -/
def AxD (H : Hp) (d : Addr) (ns : List Int) (ps : List (List Int)) (p : List Int) : Prop := ∃ qs : List (Addr × Int), H d = some (.dK (kA qs)) ∧ (qs.map (·.2)).Nodup ∧ (∀ z, z ∈ qs.map (·.2) ↔ AxC ns ps p z) ∧ ∀ q ∈ qs, SetsH H q.1 ps (hStart ns ps p q.2)
theorem AxD.same {H H' : Hp} {d : Addr} {ns : List Int} {ps : List (List Int)} {p : List Int} (h : AxD H d ns ps p) (s : Same H H') : AxD H' d ns ps p := by
  obtain ⟨qs, h1, h2, h3, h4⟩ := h
  exact ⟨qs, s _ _ h1, h2, h3, fun q hq => (h4 q hq).same s⟩
/-- what is kept of a part: (part, known, own sets, sets from axes) -/
structure It4 where
  t : Addr
  a : Addr
  kn : Addr
  os : Addr
  ad : Addr
  p : List Int
structure ItemAt (K : PySem.W.Frag) (H : Hp) (q : It4) (ns : List Int) (ps : List (List Int)) : Prop where
  et : H q.t = some (.tup [.ref q.a, .ref q.kn, .ref q.os, .ref q.ad])
  ha : H q.a = some (.tup (q.p.map V.int))
  hk : Known H q.kn ps ns.length q.p
  ho : OS H q.os ps q.p
  hd : AxD H q.ad ns ps q.p
theorem ItemAt.same {K : PySem.W.Frag} {H H' : Hp} {q : It4} {ns : List Int} {ps : List (List Int)} (h : ItemAt K H q ns ps) (s : Same H H') : ItemAt K H' q ns ps := ⟨s _ _ h.et, s _ _ h.ha, h.hk.same s, h.ho.same s, h.hd.same s⟩
def AllK (K : PySem.W.Frag) (H : Hp) (l : Addr) (ns : List Int) (ps : List (List Int)) : Prop := ∃ qs : List It4, H l = some (.lst (qs.map fun q => V.ref q.t)) ∧ (qs.map fun q => q.p) = partsOf ps ns.length ∧ ∀ q ∈ qs, ItemAt K H q ns ps
theorem AllK.same {K : PySem.W.Frag} {H H' : Hp} {l : Addr} {ns : List Int} {ps : List (List Int)} (h : AllK K H l ns ps) (s : Same H H') : AllK K H' l ns ps := by
  obtain ⟨qs, h1, h2, h3⟩ := h
  exact ⟨qs, s _ _ h1, h2, fun q hq => (h3 q hq).same s⟩
/-- a list of tuples that begin with a reference -/
def Refs (H : Hp) (D : Addr) : Prop := ∃ vs, H D = some (.lst vs) ∧ ∀ v ∈ vs, ∃ (a b : Addr) (ws : List V), v = .ref a ∧ H a = some (.tup (.ref b :: ws))
section
variable {H : Hp} {D : Addr} {o' : HO}
theorem Refs.tup (h : Refs H D) {a : Addr} {vs : List V} (e : H a = some (.tup vs)) : (upd H D o') a = some (.tup vs) := by
  obtain ⟨ws, h1, _⟩ := h
  rw [upd_ne (fun z => by rw [z, h1] at e; cases e)]; exact e
theorem Refs.dK (h : Refs H D) {a : Addr} {vs : List (L2.Key × V)} (e : H a = some (.dK vs)) : (upd H D o') a = some (.dK vs) := by
  obtain ⟨ws, h1, _⟩ := h
  rw [upd_ne (fun z => by rw [z, h1] at e; cases e)]; exact e
theorem Refs.lst (h : Refs H D) {a b : Addr} {vs : List V} (e : H a = some (.lst (.ref b :: vs))) (n : ∀ (c : Addr) (ws : List V), H b ≠ some (.tup (.ref c :: ws))) : (upd H D o') a = some (.lst (.ref b :: vs)) := by
  obtain ⟨ws, h1, h2⟩ := h
  rw [upd_ne (fun z => ?_)]
  · exact e
  rw [z, h1] at e
  have e2 := HO.lst.inj (Option.some.inj e)
  obtain ⟨a', b', ws', e3, e4⟩ := h2 (.ref b) (by rw [e2]; exact List.mem_cons_self)
  cases e3
  exact n _ _ e4
theorem SetsH.awayR {R : Addr} {ps : List (List Int)} {m : List Int} (h : SetsH H R ps m) (r : Refs H D) : SetsH (upd H D o') R ps m := by
  obtain ⟨L, f, Xs, h1, ⟨as, r1, r2, r3, r4⟩, h3, h4⟩ := h
  refine ⟨L, f, Xs, r.tup h1, ⟨as, ?_, r2, fun i a xs e1 e2 => r.tup (r3 i a xs e1 e2), r4⟩, h3, h4⟩
  cases as with
  | nil => exact absurd r2 (by simp; omega)
  | cons a as =>
    refine r.lst r1 fun c ws e => ?_
    obtain ⟨x0, hx0⟩ : ∃ x0, Xs[0]? = some x0 := ⟨_, List.getElem?_eq_getElem (by omega)⟩
    rw [r3 0 a x0 rfl hx0] at e
    have e2 := HO.tup.inj (Option.some.inj e)
    cases x0 with
    | nil => cases e2
    | cons y x0 => cases e2
theorem OS.awayR {l : Addr} {ps : List (List Int)} {p : List Int} (h : OS H l ps p) (ne : p ≠ []) (r : Refs H D) : OS (upd H D o') l ps p := by
  obtain ⟨qs, h1, h2, h3⟩ := h
  refine ⟨qs, ?_, h2, fun q hq => ⟨r.tup (h3 q hq).1, (h3 q hq).2.awayR r⟩⟩
  cases qs with
  | nil => exact absurd h2.symm ne
  | cons q qs =>
    refine r.lst h1 fun c ws e => ?_
    rw [(h3 q List.mem_cons_self).1] at e
    cases e
theorem ItemAt.awayR {K : PySem.W.Frag} {q : It4} {ns : List Int} {ps : List (List Int)} (h : ItemAt K H q ns ps) (ne : q.p ≠ []) (r : Refs H D) : ItemAt K (upd H D o') q ns ps := by
  obtain ⟨h1, h2, ⟨d, kvs, k1, k2, k3⟩, h4, ⟨qs, d1, d2, d3, d4⟩⟩ := h
  exact ⟨r.tup h1, r.tup h2, ⟨d, kvs, r.tup k1, r.dK k2, k3⟩, h4.awayR ne r, ⟨qs, r.dK d1, d2, d3, fun q hq => (d4 q hq).awayR r⟩⟩
end
section
variable {P : Program} {w : World} {K : PySem.W.Frag} {mg : Str → Option Value} {base : Heap}
/-! ### _law_turning -/
abbrev nLT : List Str := ["_law_own", "_law_part", "_law_known", "_law_goes", "_law_kinds_here"]
def spLT (K : PySem.W.Frag) : Sp := fun vs H Q _ => ∃ (R a kn : Addr) (ns p : List Int) (ps : List (List Int)), vs = [.ref R, .ref a, .ref kn] ∧ OwnH K H R ns ps ∧ p ∈ partsOf ps ns.length ∧ SqT K H a (p.map V.int) ∧ Known H kn ps ns.length p ∧ 0 < perN ps (hd0 p) ∧ Own ns p ∧ Q (.int (turnN ns ps p)) H
end
end K44
set_option maxHeartbeats 4000000
namespace K44
open PySem PySem.Spec PyProof.Rows L2 RV
theorem ax_bd {ns : List Int} {ps : List (List Int)} {p : List Int} (hp : p ∈ partsOf ps ns.length) (pos : 0 < perN ps (hd0 p)) {z : Int} (h : AxC ns ps p z) : 0 ≤ z ∧ z < 2 * ((perN ps (hd0 p) : Nat) : Int) := by
  obtain ⟨_, m, hm, g, hg, _, rfl⟩ := h
  have cl := cls_lt hp hm pos
  simp only [List.mem_cons, List.not_mem_nil, or_false] at hg
  omega
section
variable {P : Program} {w : World} {K : PySem.W.Frag} {mg : Str → Option Value} {base : Heap}
/-! ### _law_all_known -/
abbrev nAK : List Str := ["_law_own", "_law_found", "_law_part", "_law_known", "_law_firsts", "_law_from_axes", "_law_first"]
def spAK (K : PySem.W.Frag) : Sp := fun vs H Q _ => ∃ (R : Addr) (ns : List Int) (ps : List (List Int)), vs = [.ref R] ∧ OwnH K H R ns ps ∧ ∀ (H' : Hp) (l : Addr), Same H H' → H l = none → AllK K H' l ns ps → Q (.ref l) H'
end
end K44
set_option maxHeartbeats 4000000
namespace K44
open PySem PySem.Spec PyProof.Rows L2 RV
/-- the table of where so many steps lead to the ends -/
abbrev hB (ns : List Int) (ps : List (List Int)) (z : Int) (n : Nat) : Nat → List Int := beg (behindOf ps) ns.length (hEnd ns ps ((z + (n : Int)) % 2))
/-- no half -/
def NH (ns : List Int) (ps : List (List Int)) (p : List Int) (z : Int) (n : Nat) : Prop := ∀ x ∈ hStart ns ps p z, x ∉ hB ns ps z n (hSteps z n)
/-- the least half, mark by mark -/
def LH (ns : List Int) (ps : List (List Int)) (p : List Int) (z : Int) (n : Nat) (g : List Int) : Prop := ∃ m ∈ hStart ns ps p z, m ∈ hB ns ps z n (hSteps z n) ∧ (∀ y ∈ hStart ns ps p z, y ∈ hB ns ps z n (hSteps z n) → m ≤ y) ∧ Gr (behindOf ps) (hB ns ps z n) (hSteps z n) m g
theorem LH.not {ns : List Int} {ps : List (List Int)} {p : List Int} {z : Int} {n : Nat} {g : List Int} (h : LH ns ps p z n g) : ¬ NH ns ps p z n := fun no => by
  obtain ⟨m, h1, h2, _⟩ := h
  exact no m h1 h2
theorem LH.uniq {ns : List Int} {ps : List (List Int)} {p : List Int} {z : Int} {n : Nat} {g g' : List Int} (h : LH ns ps p z n g) (h' : LH ns ps p z n g') : g = g' := by
  obtain ⟨m, a1, a2, a3, a4⟩ := h
  obtain ⟨m', b1, b2, b3, b4⟩ := h'
  have : m = m' := Int.le_antisymm (a3 m' b1 b2) (b3 m a1 a2)
  subst this
  exact a4.uniq b4
theorem LH.len {ns : List Int} {ps : List (List Int)} {p : List Int} {z : Int} {n : Nat} {g : List Int} (h : LH ns ps p z n g) : g.length = hSteps z n + 1 := by
  obtain ⟨m, a1, a2, a3, a4⟩ := h
  exact a4.len
theorem hs_le (z : Int) (n : Nat) : hSteps z n ≤ n := by unfold hSteps; omega
theorem LH.inn {ns : List Int} {ps : List (List Int)} (S : Stp ns ps) {p : List Int} (hp : p ∈ partsOf ps ns.length) {z : Int} {n : Nat} {g : List Int} (h : LH ns ps p z n g) : ∀ x ∈ g, 0 ≤ x ∧ x < (ns.length : Int) := by
  obtain ⟨m, a1, a2, a3, a4⟩ := h
  exact a4.inn (P := fun c => 0 ≤ c ∧ c < (ns.length : Int)) (fun m _ => behind_inn S m) (part_bd hp (hStart_in a1).2)
theorem hStart_len8 {ns : List Int} {ps : List (List Int)} {p : List Int} {z : Int} (lp : p.length ≤ 8) : (hStart ns ps p z).length ≤ 8 := by
  unfold hStart
  split
  · rw [List.length_map]; exact Nat.le_trans (List.length_filter_le _ _) lp
  · exact Nat.zero_le _
section
variable {P : Program} {w : World} {K : PySem.W.Frag} {mg : Str → Option Value} {base : Heap}
/-! ### least_half -/
theorem scLH : FnScope ["rule", "part", "first", "n"] ["rule", "part", "first", "n"] (defScope sLeastH) := ⟨rfl, rfl, rfl, by decide +kernel, rfl, by decide +kernel, by decide +kernel⟩
def spLH (K : PySem.W.Frag) (C : Addr) : Sp := fun vs H Q _ => ∃ (r : Addr) (k n : Nat) (z : Int) (p : List Int) (ns : List Int) (ps : List (List Int)), vs = [.ref r, .int (k : Int), .int z, .int (n : Int)] ∧ RuleAt K C H r ns ps ∧ Mir ns ∧ Stp ns ps ∧ (partsOf ps ns.length)[k]? = some p ∧ 1 ≤ n ∧ n ≤ 6000 ∧
  (∀ H', Same H H' → NH ns ps p z n → Q .non H') ∧ ∀ (H' : Hp) (t : Addr) (g : List Int), Same H H' → LH ns ps p z n g → SqT K H' t (g.map V.int) → Q (.ref t) H'
theorem ok_lh {f C fS fE fN fB : Addr} {fd dS dE dN dB : FuncData} (F : Fun K "least_half" "least_half" sLeastH f fd)
    (DS : DefAt K mg "half_starts" sHalfS ["rule", "part", "first"] fS dS) (GS : FnOk P w K mg base CX0 7 fS dS ["rule", "part", "first"] (spHS K C)) (DE : DefAt K mg "half_ends" sHalfE ["rule", "first", "n"] fE dE) (GE : FnOk P w K mg base CX0 3 fE dE ["rule", "first", "n"] (spHE K C))
    (DN : DefAt K mg "half_steps" sHalfN ["first", "n"] fN dN) (DB : DefAt K mg "least_between" sBetween ["rule", "starts", "ends", "n"] fB dB) (GB : FnOk P w K mg base CX0 4 fB dB ["rule", "starts", "ends", "n"] (spBetweenL K C)) : FnOk P w K mg base CX0 8 f fd ["rule", "part", "first", "n"] (spLH K C) := by
  have GN : FnOk P w K mg base CX0 1 fN dN ["first", "n"] spHN := ok_hn DN.fn
  refine F.ok scLH (fun vs H Q E h => ?_) (fun cdv A outer s H vs Q E hr h => ?_)
  · obtain ⟨r, k, n, z, p, ns, ps, rfl, _⟩ := h
    rfl
  · obtain ⟨r, k, n, z, p, ns, ps, rfl, R, M, S, gk, n1, n6, q1, q2⟩ := h
    have r1 := hr.mono (show 1 ≤ 7 by decide)
    have r3 := hr.mono (show 3 ≤ 7 by decide)
    have r4 := hr.mono (show 4 ≤ 7 by decide)
    refine ⟨_, pss_cons (ps_if (pt_cmpR op_lt (pv 3) pe_int (nomark _)) (pss_one (ps_ret pe_non)) pss_nil)
      (pss_one (ps_ret (pe_call GB r4 (by rfl) DB.mg DB.fn.kp DB.bi .nil pass0 (pa_cons (pv 0) (pa_cons (pe_call GS hr (by rfl) DS.mg DS.fn.kp DS.bi .nil pass0 (pa_cons (pv 0) (pa_cons (pv 1) (pa_cons (pv 2) pa_nil))))
        (pa_cons (pe_call GE r3 (by rfl) DE.mg DE.fn.kp DE.bi .nil pass0 (pa_cons (pv 0) (pa_cons (pv 2) (pa_cons (pv 3) pa_nil)))) (pa_cons (pe_call GN r1 (by rfl) DN.mg DN.fn.kp DN.bi .nil pass0 (pa_cons (pv 2) (pa_cons (pv 3) pa_nil))) pa_nil))))))), ?_⟩
    have hpm := List.mem_of_getElem? gk
    refine ⟨.int (n : Int), rfl, _, 1, rfl, rfl, _, rfl, ite2 (fun z => ?_) (fun _ => ?_)⟩
    · have z := of_decide_eq_true z
      omega
    refine ⟨.ref r, rfl, .ref r, rfl, .int (k : Int), rfl, .int z, rfl, r, k, z, p, ns, ps, rfl, R, M, S, gk, fun H1 l1 s1 e1 => ?_⟩
    refine ⟨.ref r, rfl, .int z, rfl, .int (n : Int), rfl, r, z, _, ns, ps, rfl, R.same s1, M, fun H2 l2 s2 e2 => ?_⟩
    have en : ((n : Int) - z % 2) / 2 = ((hSteps z n : Nat) : Int) := by
      unfold hSteps
      rw [Int.toNat_of_nonneg (by omega)]
    refine ⟨.int z, rfl, .int (n : Int), rfl, z, _, rfl, ?_⟩
    rw [en]
    have s12 := s1.trans s2
    have le := hs_le z n
    refine ⟨r, l1, l2, _, ns, ps, hStart ns ps p z, hEnd ns ps ((z + (n : Int)) % 2), rfl, R.same s12, S, M.few, lstNew (s2 _ _ e1), hStart_len8 (part_len8 M.few hpm), lstNew e2, by omega, fun x hx => part_bd hpm (hStart_in hx).2, fun x hx => (mem_hEnd.mp hx).1, fun H' s' hno => ?_, fun H' t m g s' hm hmb hle hg ht => ?_⟩
    · exact q1 H' (s12.trans s') hno
    · exact q2 H' t g (s12.trans s') ⟨m, hm, hmb, hle, hg⟩ ht
end
end K44
set_option maxHeartbeats 4000000
namespace K44
open PySem PySem.Spec PyProof.Rows L2 RV
/-! ### a ring out of its half -/
/-- the axis at which the half begins -/
def hAx (z : Int) (n : Nat) : Int := if z % 2 = 0 then 0 else 2 * (n : Int) - 1
/-- the mark that an unfolded ring has at a place behind the half -/
def unfM (ns h : List Int) (z : Int) (n : Nat) (p : Int) : Int := mirI ns (h.getD ((hAx z n - p) % (n : Int)).toNat 0)
def unfI (ns h : List Int) (z : Int) (n : Nat) : List Int := h ++ (fromN (h.length : Int) (n - h.length)).map (unfM ns h z n)
/-- what is told of a mirror ring: its places, its axis -/
structure MRing (ns : List Int) (ps : List (List Int)) (p : List Int) (z : Int) (n : Nat) (r : List Int) (s : Int) : Prop where
  len : r.length = n
  inp : ∀ x ∈ r, x ∈ p
  st : ∀ i : Int, [at_ r i, at_ r (i + 1)] ∈ ps
  bd : 0 ≤ s ∧ s < 2 * (n : Int)
  mir : mirB ns r s = true
  cl : 2 * ((clsM ps ns.length (at_ r (s / 2)) : Nat) : Int) + s % 2 = z
theorem mirB_iff {ns r : List Int} {s : Int} : mirB ns r s = true ↔ ∀ i : Int, 0 ≤ i → i < (r.length : Int) → at_ r (s - i) = mirI ns (at_ r i) := by
  unfold mirB
  rw [List.all_map, List.all_eq_true]
  constructor
  · intro h i h0 h1
    have z := of_decide_eq_true (h i (mem_upN.mpr ⟨h0, h1⟩))
    unfold at_ mirI
    rw [Int.emod_eq_of_lt h0 h1]
    exact z
  · intro h i hi
    obtain ⟨h0, h1⟩ := mem_upN.mp hi
    have z := h i h0 h1
    unfold at_ mirI at z
    rw [Int.emod_eq_of_lt h0 h1] at z
    exact decide_eq_true z
theorem unf_ring {ns : List Int} {ps : List (List Int)} (M : Mir ns) (S : Stp ns ps) {p : List Int} (hp : p ∈ partsOf ps ns.length) (own : Own ns p) {n : Nat} (h1 : 1 ≤ n) {z a o : Int} {h : List Int} (ha : a ∈ hStart ns ps p z) (ho : o ∈ hEnd ns ps ((z + (n : Int)) % 2)) (wk : WkL (behindOf ps) (hSteps z n) a o h) :
    MRing ns ps p z n (unfI ns h z n) (hAx z n) := by
  have hP : ∀ q ∈ ps, Pr (ns.length : Int) q := fun q hq => S.pair q hq
  obtain ⟨r, s, hr, hs, cl, mi, hh⟩ := walk_half M S hp own h1 ha ho wk
  obtain ⟨lr, inp, st⟩ := ring_step hP hr
  have lr : r.length = n := by omega
  have lh := wk.len
  obtain ⟨g, e, hg, g01, e01, hn, hne⟩ := hs_split z h1
  have es : s % 2 = g := by omega
  have hb : s / 2 + s % 2 = s / 2 + g := by rw [es]
  -- r so far on
  obtain ⟨U, eU⟩ : ∃ U, U = halfOf r s n := ⟨_, rfl⟩
  have lU : U.length = n := by rw [eU]; exact hof_len _ _ _
  have uat0 : ∀ j : Nat, j < n → U.getD j 0 = at_ r (s / 2 + g + (j : Int)) := fun j hj => by rw [eU, half_at hj, hb]
  have uat : ∀ i : Int, at_ U i = at_ r (s / 2 + g + i) := fun i => by
    have i0 := Int.emod_nonneg i (show (n : Int) ≠ 0 by omega)
    have i1 := Int.emod_lt_of_pos i (show (0 : Int) < (n : Int) by omega)
    unfold at_
    rw [lU]
    rw [uat0 _ (by omega)]
    rw [show (((i % (n : Int)).toNat : Nat) : Int) = i % (n : Int) by omega]
    refine at_mod ?_
    rw [lr]
    exact (Int.add_emod_emod _ _ _)
  have rm : ∀ i : Int, at_ r (s - i) = mirI ns (at_ r i) := fun i => by
    have i0 := Int.emod_nonneg i (show (n : Int) ≠ 0 by omega)
    have i1 := Int.emod_lt_of_pos i (show (0 : Int) < (n : Int) by omega)
    have z := (mirB_iff.mp mi) (i % (n : Int)) i0 (by rw [lr]; exact i1)
    rw [show at_ r i = at_ r (i % (n : Int)) from at_mod (by rw [lr, Int.emod_emod])]
    rw [← z, show s - i = (s - i % (n : Int)) + (r.length : Int) * (-(i / (n : Int))) by
      have := Int.emod_add_mul_ediv i (n : Int)
      rw [lr, Int.mul_neg]
      omega]
    exact at_add _ _
  -- the half is its first marks
  have uh : ∀ j : Nat, j < h.length → at_ U (j : Int) = h.getD j 0 := fun j hj => by
    rw [uat, ← hh, half_at (by omega), hb]
  have gAx : ∃ q : Int, hAx z n = -g + (n : Int) * q := by
    unfold hAx
    rw [hg]
    rcases g01 with e | e
    · rw [if_pos e, e]; exact ⟨0, by omega⟩
    · rw [if_neg (by omega), e]; exact ⟨2, by omega⟩
  -- mirrored about the axis
  have um : ∀ i : Int, at_ U (hAx z n - i) = mirI ns (at_ U i) := fun i => by
    obtain ⟨q, eq⟩ := gAx
    rw [eq, show -g + (n : Int) * q - i = (-g - i) + (U.length : Int) * q by rw [lU]; omega, at_add, uat, uat, ← rm]
    congr 1
    omega
  have eqU : unfI ns h z n = U := by
    refine at_ext ?_ fun i => ?_
    · unfold unfI
      rw [List.length_append, List.length_map, fromN_len, lU]; omega
    · have ll : (unfI ns h z n).length = n := by
        unfold unfI
        rw [List.length_append, List.length_map, fromN_len]; omega
      have i0 := Int.emod_nonneg i (show (n : Int) ≠ 0 by omega)
      have i1 := Int.emod_lt_of_pos i (show (0 : Int) < (n : Int) by omega)
      obtain ⟨j, ej⟩ : ∃ j : Nat, i % (n : Int) = (j : Int) := ⟨(i % (n : Int)).toNat, by omega⟩
      rw [show at_ (unfI ns h z n) i = (unfI ns h z n).getD j 0 by unfold at_; rw [ll, ej, Int.toNat_natCast], show at_ U i = at_ U (j : Int) from at_mod (by rw [lU, ← ej, Int.emod_emod])]
      unfold unfI
      by_cases c : j < h.length
      · rw [uh j c, List.getD_eq_getElem?_getD, List.getElem?_append_left c, ← List.getD_eq_getElem?_getD]
      · rw [List.getD_eq_getElem?_getD, List.getElem?_append_right (by omega), List.getElem?_map, fromN_get (by omega), Option.map_some, Option.getD_some]
        rw [show (h.length : Int) + ((j - h.length : Nat) : Int) = (j : Int) by omega]
        unfold unfM
        have x0 := Int.emod_nonneg (hAx z n - (j : Int)) (show (n : Int) ≠ 0 by omega)
        have x1 : (hAx z n - (j : Int)) % (n : Int) = (n : Int) - g - (j : Int) := by
          unfold hAx
          rw [hg]
          rcases g01 with e' | e'
          · rw [if_pos e', e']
            exact mod_is (q := -1) (by omega) (by omega) (by omega)
          · rw [if_neg (by omega), e']
            exact mod_is (q := 1) (by omega) (by omega) (by omega)
        rw [← uh _ (by omega), ← um]
        refine at_mod ?_
        rw [lU, show (((hAx z n - (j : Int)) % (n : Int)).toNat : Int) = (hAx z n - (j : Int)) % (n : Int) by omega]
        rw [show hAx z n - (hAx z n - (j : Int)) % (n : Int) = (j : Int) + (n : Int) * ((hAx z n - (j : Int)) / (n : Int)) by
          have := Int.emod_add_mul_ediv (hAx z n - (j : Int)) (n : Int)
          omega, Int.add_mul_emod_self_left]
  rw [eqU]
  have bdA : 0 ≤ hAx z n ∧ hAx z n < 2 * (n : Int) := by unfold hAx; split <;> omega
  refine ⟨lU, fun x hx => ?_, fun i => ?_, bdA, mirB_iff.mpr fun i _ _ => um i, ?_⟩
  · rw [eU] at hx
    unfold halfOf at hx
    obtain ⟨k, _, rfl⟩ := List.mem_map.mp hx
    exact inp _ (at_mem (by omega) _)
  · rw [uat, uat, ← Int.add_assoc]
    exact st _
  · rw [uat]
    unfold hAx
    rw [hg]
    rcases g01 with e' | e'
    · rw [if_pos e', e']
      rw [show s / 2 + 0 + (0 : Int) / 2 = s / 2 by omega]
      rw [e'] at es hg
      rw [es] at cl
      omega
    · rw [if_neg (by omega), e']
      rw [show s / 2 + 1 + (2 * (n : Int) - 1) / 2 = s / 2 + (r.length : Int) * 1 by omega, at_add]
      rw [e'] at es
      rw [es] at cl
      omega
end K44
set_option maxHeartbeats 4000000
namespace K44
open PySem PySem.Spec PyProof.Rows L2 RV
section
variable {P : Program} {w : World} {K : PySem.W.Frag} {mg : Str → Option Value} {base : Heap}
/-! ### half_axis -/
theorem scHA : FnScope ["first", "n"] ["first", "n"] (defScope sHalfAx) := ⟨rfl, rfl, rfl, by decide +kernel, rfl, by decide +kernel, by decide +kernel⟩
def spHA : Sp := fun vs H Q _ => ∃ (z : Int) (n : Nat), vs = [.int z, .int (n : Int)] ∧ Q (.int (hAx z n)) H
theorem ok_ha {f : Addr} {fd : FuncData} (F : Fun K "half_axis" "half_axis" sHalfAx f fd) : FnOk P w K mg base CX0 1 f fd ["first", "n"] spHA := by
  refine F.ok scHA (fun vs H Q E h => ?_) (fun cdv A outer s H vs Q E hr h => ?_)
  · obtain ⟨z, n, rfl, _⟩ := h
    rfl
  · obtain ⟨z, n, rfl, q⟩ := h
    refine ⟨_, pss_one (ps_ret (pe_ifExp (pt_cmpR op_eq (pe_op op_mod (pv 0) pe_int) pe_int (nomark _)) pe_int (pe_op op_sub (pe_op op_mul pe_int (pv 1)) pe_int))), ?_⟩
    refine ⟨.int z, rfl, z, 2, rfl, rfl, (by show (0 : Int) < 2; decide), rfl, _, rfl, ?_⟩
    rw [decV]
    unfold hAx at q
    by_cases e : z % 2 = 0
    · rw [decide_eq_true e]
      rw [if_pos e] at q
      exact iteT q
    · rw [decide_eq_false e]
      rw [if_neg e] at q
      exact iteF ⟨.int (n : Int), rfl, 2, _, rfl, rfl, .inl ⟨by decide, by decide⟩, _, 1, rfl, rfl, q⟩
/-! ### unfolded -/
abbrev nUn : List Str := ["rule", "half", "first", "n", "s", "place"]
theorem scUn : FnScope nUn ["rule", "half", "first", "n"] (defScope sUnf) := ⟨rfl, rfl, rfl, by decide +kernel, rfl, by decide +kernel, by decide +kernel⟩
def spUn (K : PySem.W.Frag) (C : Addr) : Sp := fun vs H Q _ => ∃ (r a : Addr) (z : Int) (n : Nat) (ns h : List Int) (ps : List (List Int)), vs = [.ref r, .ref a, .int z, .int (n : Int)] ∧ RuleAt K C H r ns ps ∧ Mir ns ∧ SqT K H a (h.map V.int) ∧ (∀ x ∈ h, 0 ≤ x ∧ x < (ns.length : Int)) ∧ 1 ≤ n ∧ n ≤ 900 ∧ h.length ≤ n + 1 ∧
  (∀ i : Nat, h.length ≤ i → i < n → ((hAx z n - (i : Int)) % (n : Int)).toNat < h.length) ∧
  ∀ (H' : Hp) (t : Addr), Same H H' → SqT K H' t ((unfI ns h z n).map V.int) → Q (.ref t) H'
theorem ok_un {f C fA fR : Addr} {fd dA dR : FuncData} (F : Fun K "unfolded" "unfolded" sUnf f fd) (T : Txt K mg C) (B : Bare mg) (DA : DefAt K mg "half_axis" sHalfAx ["first", "n"] fA dA)
    (FR : Fun K "mirror" "Rule.mirror" sMirrorM fR dR) (bR : Binds K dR ["self", "mark"] []) (mR : Meth K C "mirror" fR) : FnOk P w K mg base CX0 2 f fd ["rule", "half", "first", "n"] (spUn K C) := by
  have GR : FnOk P w K mg base CX0 1 fR dR ["self", "mark"] (spMirrorM K C) := ok_mirrorM FR T
  have GA : FnOk P w K mg base CX0 1 fA dA ["first", "n"] spHA := ok_ha DA.fn
  refine F.ok scUn (fun vs H Q E h => ?_) (fun cdv A outer s H vs Q E hr h => ?_)
  · obtain ⟨r, a, z, n, ns, h, ps, rfl, _⟩ := h
    rfl
  · obtain ⟨r, a, z, n, ns, h, ps, rfl, R, M, hA, inn, n1, n9, hn, ix, q⟩ := h
    refine ⟨_, pss_cons (ps_set (i := 4) scUn.nd rfl (Or.inr rfl) (pe_call GA hr (by rfl) DA.mg DA.fn.kp DA.bi .nil pass0 (pa_cons (pv 2) (pa_cons (pv 3) pa_nil))))
      (pss_one (ps_ret (pe_op op_catW (pv 1) (pe_tupleOf (by rfl) B.tuple
        (pe_lc (own := [("place", 5)]) (g := gName 5) (tt := tYes) rfl scUn.nd (pi_range2 (by rfl) B.range (pa_cons (pe_callB call_len_seq (by rfl) B.len PySem.boot_len (pa_cons (pv 1) pa_nil)) (pa_cons (pv 3) pa_nil))) (blkOk_by (N := nUn) (sc := defScope sUnf) (by decide +kernel))
          (fun _ _ _ _ _ => pg_name (i := 5) scUn.nd rfl (Or.inl rfl)) (fun _ _ _ _ _ => pts_nil)
          (fun _ _ _ _ _ => pe_meth (pv 0) T.cl mR GR hr bR .nil pass0 (pa_cons (pe_ix (ix_tupK (K := K) rfl) (pv 1) (pe_op op_mod (pe_op op_sub (pv 4) (pv 5)) (pv 3)) (fun _ _ => rfl)) pa_nil))))))), ?_⟩
    refine ⟨.int z, rfl, .int (n : Int), rfl, z, n, rfl, ?_⟩
    show gName 4 (V.int (hAx z n)) _ _ _
    obtain ⟨ax, eax⟩ : ∃ ax, ax = hAx z n := ⟨_, rfl⟩
    rw [← eax] at ix ⊢
    refine ⟨.ref a, rfl, .ref a, rfl, a, _, rfl, .inr hA, .int (n : Int), rfl, _, _, rfl, ?_⟩
    rw [List.length_map]
    refine ⟨⟨by omega, by omega, by omega, by omega⟩, fun D nD => ?_⟩
    rw [show ((n : Int) - (h.length : Int)).toNat = n - h.length by omega]
    obtain ⟨g, eg⟩ : ∃ g : Int → Int, g = unfM ns h z n := ⟨_, rfl⟩
    refine lc_range (lo := (h.length : Int)) (n := n - h.length) (fun i H' => Same H H' ∧ H' D = some (.lst ((((fromN (h.length : Int) (n - h.length)).take i).map g).map V.int))) ⟨same_upd nD, upd_same⟩ (fun i H1 hi p => ?_) fun H1 p => ?_
    · obtain ⟨s1, eD⟩ := p
      have gi := fromN_get (lo := (h.length : Int)) hi
      have hx := ix (h.length + i) (by omega) (by omega)
      rw [show ((h.length + i : Nat) : Int) = (h.length : Int) + (i : Int) by omega] at hx
      have R1 := R.same s1
      obtain ⟨dx, a0, b0, t0, g1, g2, g3, g4⟩ := R1.ex
      have fno := flds_no a0 b0 t0 (m := "mirror") (by decide +kernel) (by decide +kernel) (by decide +kernel)
      have e0 := Int.emod_nonneg (ax - ((h.length : Int) + (i : Int))) (show (n : Int) ≠ 0 by omega)
      have hv : h.getD ((ax - ((h.length : Int) + (i : Int))) % (n : Int)).toNat 0 ∈ h := by
        rw [List.getD_eq_getElem?_getD, List.getElem?_eq_getElem hx]
        exact List.getElem_mem hx
      have bv := inn _ hv
      refine ⟨by simp [wipe, List.set_set], tt_yes ⟨.ref r, rfl, r, dx, _, rfl, g1, fno, .ref a, rfl, .int ax, rfl, .int _, rfl, ax, _, rfl, rfl, .int (n : Int), rfl, _, _, rfl, rfl, (by show (0 : Int) < (n : Int); omega), a, _, _, _, rfl, rfl, sqT_same s1 hA, atI_map e0 (by omega), ?_⟩⟩
      refine ⟨r, ns, ps, (h.getD ((ax - ((h.length : Int) + (i : Int))) % (n : Int)).toNat 0).toNat, g ((h.length : Int) + (i : Int)), ?_, R1, ?_, ?_⟩
      · rw [Int.toNat_of_nonneg bv.1]; rfl
      · rw [mirI_get bv.1 bv.2, eg]
        unfold unfM
        rw [eax]
      refine ⟨_, eD, ?_, fun b o zz => ?_, ?_⟩
      · rw [List.length_map, List.length_map, List.length_take, fromN_len]; exact few1 (by omega)
      · rw [upd_ne (ne_of_none zz nD)]; exact s1 b o zz
      · rw [upd_same, List.take_add_one, gi, List.map_append, List.map_append]; rfl
    · obtain ⟨s1, eD⟩ := p
      rw [List.take_of_length_le (by rw [fromN_len]; exact Nat.le_refl _)] at eD
      refine .inl ⟨D, _, rfl, lstNew eD, fun V0 nV => ?_⟩
      have sV := same_upd (o := .tup (((fromN (h.length : Int) (n - h.length)).map g).map V.int)) nV
      refine ⟨a, V0, _, _, rfl, rfl, sqT_same (s1.trans sV) hA, tupNew upd_same, ?_, fun t H2 s2 ht => ?_⟩
      · rw [List.length_map, List.length_map, List.length_map, fromN_len]
        exact Nat.le_of_lt (few1 (by omega))
      · refine q H2 t ((s1.trans sV).trans s2) ?_
        unfold unfI
        rw [List.map_append, ← eg]
        exact ht
end
end K44
set_option maxHeartbeats 4000000
namespace K44
open PySem PySem.Spec PyProof.Rows L2 RV
/-- what a mirror ring that the other part lacks is -/
def AxOk (ns : List Int) (ps : List (List Int)) (p : List Int) (ns' : List Int) (ps' : List (List Int)) (p' : List Int) (h : Int) (ring : List Int) (s : Int) : Prop :=
  ∃ (z : Int) (n : Nat), AxC ns ps p z ∧ 1 ≤ n ∧ n ≤ 200 ∧ msZ ns' ps' p' ((z + 2 * h) % (2 * ((pOf ps' p' : Nat) : Int))) (n : Int) = false ∧ MRing ns ps p z n ring s
section
variable {P : Program} {w : World} {K : PySem.W.Frag} {mg : Str → Option Value} {base : Heap}
/-! ### way_to_mirror -/
abbrev nWM : List Str := ["rule", "mark", "n", "walk"]
theorem scWM : FnScope nWM ["rule", "mark"] (defScope sWayTo) := ⟨rfl, rfl, rfl, by decide +kernel, rfl, by decide +kernel, by decide +kernel⟩
def spWM (K : PySem.W.Frag) (C : Addr) : Sp := fun vs H Q _ => ∃ (r : Addr) (m : Int) (ns : List Int) (ps : List (List Int)) (k : Nat), vs = [.ref r, .int m] ∧ RuleAt K C H r ns ps ∧ Mir ns ∧ Stp ns ps ∧ (0 ≤ m ∧ m < (ns.length : Int)) ∧ k ≤ 8 ∧ lk (behindOf ps) k m (mirI ns m) ∧
  ∀ (H' : Hp) (t : Addr) (g : List Int) (n : Nat), Same H H' → n ≤ 8 → WkL (behindOf ps) n m (mirI ns m) g → SqT K H' t (g.map V.int) → Q (.ref t) H'
theorem ok_wm {f C fW fR : Addr} {fd dW dR : FuncData} (F : Fun K "way_to_mirror" "way_to_mirror" sWayTo f fd) (T : Txt K mg C) (DW : DefAt K mg "least_walk" sLeastW ["rule", "one", "other", "n"] fW dW) (GW : FnOk P w K mg base CX0 5 fW dW ["rule", "one", "other", "n"] (spLeastW K C))
    (FR : Fun K "mirror" "Rule.mirror" sMirrorM fR dR) (bR : Binds K dR ["self", "mark"] []) (mR : Meth K C "mirror" fR) : FnOk P w K mg base CX0 6 f fd ["rule", "mark"] (spWM K C) := by
  have GR : FnOk P w K mg base CX0 1 fR dR ["self", "mark"] (spMirrorM K C) := ok_mirrorM FR T
  refine F.ok scWM (fun vs H Q E h => ?_) (fun cdv A outer s H vs Q E hr h => ?_)
  · obtain ⟨r, m, ns, ps, k, rfl, _⟩ := h
    rfl
  · obtain ⟨r, m, ns, ps, k, rfl, R, M, S, bm, k8, hk, q⟩ := h
    have r1 := hr.mono (show 1 ≤ 5 by decide)
    refine ⟨_, pss_cons (ps_set (i := 2) scWM.nd rfl (Or.inl rfl) pe_int)
      (pss_cons (ps_set (i := 3) scWM.nd rfl (Or.inl rfl) (pe_call GW hr (by rfl) DW.mg DW.fn.kp DW.bi .nil pass0 (pa_cons (pv 0) (pa_cons (pv 1) (pa_cons (pe_meth (pv 0) T.cl mR GR r1 bR .nil pass0 (pa_cons (pv 1) pa_nil)) (pa_cons (pv 2) pa_nil))))))
      (pss_cons (ps_while PassesOwn.never (pt_cmpR op_isN (pv 3) pe_non (nomark _))
        (pss_cons (ps_aug (i := 2) scWM.nd rfl (.inl rfl) pe_int iop_add)
        (pss_one (ps_set (i := 3) scWM.nd rfl (Or.inl rfl) (pe_call GW hr (by rfl) DW.mg DW.fn.kp DW.bi .nil pass0 (pa_cons (pv 0) (pa_cons (pv 1) (pa_cons (pe_meth (pv 0) T.cl mR GR r1 bR .nil pass0 (pa_cons (pv 1) pa_nil)) (pa_cons (pv 2) pa_nil)))))))))
      (pss_one (ps_ret (pv 3))))), ?_⟩
    have em : V.int m = .int ((m.toNat : Nat) : Int) := by rw [Int.toNat_of_nonneg bm.1]
    have bo := mir_bd M bm
    have nobeg : ∀ n : Nat, m ∉ beg (behindOf ps) ns.length [mirI ns m] n → n ≠ k := fun n no e => no (by rw [e]; exact (beg_lk (fun a => behind_inn S a) bm).mpr hk)
    have iswk : ∀ (n : Nat) (g : List Int), m ∈ beg (behindOf ps) ns.length [mirI ns m] n → Gr (behindOf ps) (beg (behindOf ps) ns.length [mirI ns m]) n m g → WkL (behindOf ps) n m (mirI ns m) g := fun n g yes gr => by
      obtain ⟨o, ho, w⟩ := gr_wkE gr yes
      rw [← List.mem_singleton.mp ho]; exact w
    obtain ⟨dx, a0, b0, t0, g1, g2, g3, g4⟩ := R.ex
    have fno := flds_no a0 b0 t0 (m := "mirror") (by decide +kernel) (by decide +kernel) (by decide +kernel)
    refine nx_step ?_
    dsimp only
    refine seq_mid (fun σ H' => ∃ (v : V), σ = [some (.ref r), some (.int m), some (.int ((0 : Nat) : Int)), some v] ∧ Same H H' ∧ ((v = .non ∧ 0 < k) ∨ ∃ (t : Addr) (g : List Int), v = .ref t ∧ WkL (behindOf ps) 0 m (mirI ns m) g ∧ SqT K H' t (g.map V.int))) (fun σ H1 h => ?_) (fun tail => ?_)
    · obtain ⟨v0, rfl, s1, hv0⟩ := h
      refine ⟨fun d σ H' => ∃ (n : Nat) (v : V), σ = [some (.ref r), some (.int m), some (.int (n : Int)), some v] ∧ Same H H' ∧ n + d = k ∧ ((v = .non ∧ n < k) ∨ ∃ (t : Addr) (g : List Int), v = .ref t ∧ WkL (behindOf ps) n m (mirI ns m) g ∧ SqT K H' t (g.map V.int)), ⟨k, 0, v0, rfl, s1, by omega, hv0⟩, ?_⟩
      rintro d σ H2 ⟨n, v, rfl, s2, hn, hv⟩
      refine ⟨v, rfl, rfl, _, rfl, ?_⟩
      rcases hv with ⟨rfl, hlt⟩ | ⟨t, g, rfl, wk, hT⟩
      · refine iteT ⟨fun σ H' => ∃ (n : Nat) (v : V), σ = [some (.ref r), some (.int m), some (.int (n : Int)), some v] ∧ Same H H' ∧ n + (d - 1) = k ∧ ((v = .non ∧ n < k) ∨ ∃ (t : Addr) (g : List Int), v = .ref t ∧ WkL (behindOf ps) n m (mirI ns m) g ∧ SqT K H' t (g.map V.int)), fun σ' H' z => ⟨d - 1, by omega, z⟩, ?_⟩
        have g1' := s2 _ _ g1
        refine ⟨_, rfl, _, 1, rfl, rfl, ?_⟩
        show _
        refine ⟨.ref r, rfl, .int m, rfl, .ref r, rfl, r, dx, _, rfl, g1', fno, .int m, rfl, r, ns, ps, m.toNat, mirI ns m, (by rw [← em]; rfl), R.same s2, mirI_get bm.1 bm.2, .int ((n + 1 : Nat) : Int), rfl, ?_⟩
        refine ⟨r, m, mirI ns m, n + 1, ns, ps, rfl, R.same s2, S, M.few, by omega, bm, bo, fun H3 s3 no => ?_, fun H3 t g s3 yes gr hT => ?_⟩
        · exact ⟨n + 1, .non, rfl, s2.trans s3, by omega, .inl ⟨rfl, by have := nobeg _ no; omega⟩⟩
        · exact ⟨n + 1, .ref t, rfl, s2.trans s3, by omega, .inr ⟨t, g, rfl, iswk _ g yes gr, hT⟩⟩
      · exact iteF ⟨.ref t, rfl, q H2 t g n s2 (by omega) wk hT⟩
    · refine ⟨.ref r, rfl, .int m, rfl, .ref r, rfl, r, dx, _, rfl, g1, fno, .int m, rfl, r, ns, ps, m.toNat, mirI ns m, (by rw [← em]; rfl), R, mirI_get bm.1 bm.2, .int ((0 : Nat) : Int), rfl, ?_⟩
      refine ⟨r, m, mirI ns m, 0, ns, ps, rfl, R, S, M.few, by omega, bm, bo, fun H1 s1 no => ?_, fun H1 t g s1 yes gr hT => ?_⟩
      · exact tail _ _ ⟨.non, rfl, s1, .inl ⟨rfl, by have := nobeg _ no; omega⟩⟩
      · exact tail _ _ ⟨.ref t, rfl, s1, .inr ⟨t, g, rfl, iswk _ g yes gr, hT⟩⟩
end
end K44
set_option maxHeartbeats 4000000
namespace K44
open PySem PySem.Spec PyProof.Rows L2 RV
/-- a mirror ring and its axis, as a tuple -/
def RingA (K : PySem.W.Frag) (H : Hp) (a : Addr) (x : List Int × Int) : Prop := ∃ u : Addr, H a = some (.tup [.ref u, .int x.2]) ∧ SqT K H u (x.1.map V.int)
theorem RingA.same {K : PySem.W.Frag} {H H' : Hp} {a : Addr} {x : List Int × Int} (h : RingA K H a x) (s : Same H H') : RingA K H' a x := by
  obtain ⟨u, h1, h2⟩ := h
  exact ⟨u, s _ _ h1, sqT_same s h2⟩
section
variable {P : Program} {w : World} {K : PySem.W.Frag} {mg : Str → Option Value} {base : Heap}
/-! ### mirror_ring -/
abbrev nMR : List Str := ["rule", "part", "other", "its", "shift", "first", "n", "half"]
theorem scMR : FnScope nMR nLMa (defScope sMRing) := ⟨rfl, rfl, rfl, by decide +kernel, rfl, by decide +kernel, by decide +kernel⟩
def spMR (K : PySem.W.Frag) (C : Addr) : Sp := fun vs H Q _ => ∃ (r : Addr) (k : Nat) (ns : List Int) (ps : List (List Int)) (p : List Int) (r' : Addr) (k' : Nat) (ns' : List Int) (ps' : List (List Int)) (p' : List Int) (h : Int), vs = [.ref r, .int (k : Int), .ref r', .int (k' : Int), .int h] ∧ PartR K C H r k ns ps p ∧ PartR K C H r' k' ns' ps' p' ∧ (∀ mo, Far ps p ps' p' mo → ¬ MFit ns ps p ns' ps' p' h mo) ∧
  ∀ (H' : Hp) (a : Addr) (x : List Int × Int), Same H H' → RingA K H' a x → AxOk ns ps p ns' ps' p' h x.1 x.2 → Q (.ref a) H'
theorem ok_mr {f C fL fH fU fA : Addr} {fd dL dH dU dA : FuncData} (F : Fun K "mirror_ring" "mirror_ring" sMRing f fd)
    (DL : DefAt K mg "lacking_mirror" sLackM nLMa fL dL) (GL : FnOk P w K mg base CX0 9 fL dL nLMa (spLM K C)) (DH : DefAt K mg "least_half" sLeastH ["rule", "part", "first", "n"] fH dH) (GH : FnOk P w K mg base CX0 8 fH dH ["rule", "part", "first", "n"] (spLH K C))
    (DU : DefAt K mg "unfolded" sUnf ["rule", "half", "first", "n"] fU dU) (GU : FnOk P w K mg base CX0 2 fU dU ["rule", "half", "first", "n"] (spUn K C)) (DA : DefAt K mg "half_axis" sHalfAx ["first", "n"] fA dA) : FnOk P w K mg base CX0 10 f fd nLMa (spMR K C) := by
  have GA : FnOk P w K mg base CX0 1 fA dA ["first", "n"] spHA := ok_ha DA.fn
  refine F.ok scMR (fun vs H Q E h => ?_) (fun cdv A outer s H vs Q E hr h => ?_)
  · obtain ⟨r, k, ns, ps, p, r', k', ns', ps', p', h, rfl, _⟩ := h
    rfl
  · obtain ⟨r, k, ns, ps, p, r', k', ns', ps', p', h, rfl, h1, h2, bad, q⟩ := h
    have r1 := hr.mono (show 1 ≤ 9 by decide)
    have r2 := hr.mono (show 2 ≤ 9 by decide)
    have r8 := hr.mono (show 8 ≤ 9 by decide)
    have two : (2 : Nat) ≤ sizeLine := by decide
    refine ⟨_, pss_cons (ps_asg (pe_call GL hr (by rfl) DL.mg DL.fn.kp DL.bi .nil pass0 (pa_cons (pv 0) (pa_cons (pv 1) (pa_cons (pv 2) (pa_cons (pv 3) (pa_cons (pv 4) pa_nil)))))) (pg_tup rfl (pgs_cons (pg_name (i := 5) scMR.nd rfl (Or.inl rfl)) (pgs_cons (pg_name (i := 6) scMR.nd rfl (Or.inl rfl)) pgs_nil))))
      (pss_cons (ps_set (i := 7) scMR.nd rfl (Or.inl rfl) (pe_call GH r8 (by rfl) DH.mg DH.fn.kp DH.bi .nil pass0 (pa_cons (pv 0) (pa_cons (pv 1) (pa_cons (pv 5) (pa_cons (pv 6) pa_nil))))))
      (pss_one (ps_ret (pe_tup (pa_cons (pe_call GU r2 (by rfl) DU.mg DU.fn.kp DU.bi .nil pass0 (pa_cons (pv 0) (pa_cons (pv 7) (pa_cons (pv 5) (pa_cons (pv 6) pa_nil))))) (pa_cons (pe_call GA r1 (by rfl) DA.mg DA.fn.kp DA.bi .nil pass0 (pa_cons (pv 5) (pa_cons (pv 6) pa_nil))) pa_nil)))))), ?_⟩
    have hpm := List.mem_of_getElem? h1.gk
    refine ⟨.ref r, rfl, .int (k : Int), rfl, .ref r', rfl, .int (k' : Int), rfl, .int h, rfl, r, k, ns, ps, p, r', k', ns', ps', p', h, rfl, h1, h2, fun H1 v mo s1 far hv => ?_⟩
    have mo9 := far_few (fun q hq => h1.S.pair q hq) h1.M.few h1.rch far
    rcases hv with ⟨_, mf⟩ | ⟨a, z, n, rfl, ea, ax, hn, lk1, lk2⟩
    · exact absurd mf (bad mo far)
    have bn := mem_fromN.mp hn
    obtain ⟨m, rfl⟩ : ∃ m : Nat, n = (m : Int) := ⟨n.toNat, by omega⟩
    have hms := msZ_iff.mp lk1
    refine ⟨a, _, rfl, tupNew ea, rfl, _, _, rfl, _, _, rfl, rfl, ?_⟩
    refine ⟨.ref r, rfl, .int (k : Int), rfl, .int z, rfl, .int (m : Int), rfl, r, k, m, z, p, ns, ps, rfl, h1.R.same s1, h1.M, h1.S, h1.gk, by omega, by omega, fun H2 s2 no => ?_, fun H2 t g s2 lh hg => ?_⟩
    · obtain ⟨x, hx, o, ho, l⟩ := hms
      exact absurd ((beg_lkE (fun a => behind_inn h1.S a) (part_bd hpm (hStart_in hx).2)).mpr ⟨o, ho, l⟩) (no x hx)
    · obtain ⟨x, hx, hxb, _, gr⟩ := lh
      obtain ⟨o, ho, wk⟩ := gr_wkE gr hxb
      have own := ax.1
      have ring := unf_ring h1.M h1.S hpm own (by omega) hx ho wk
      obtain ⟨gg, ee, hgg, g01, e01, hnn, _⟩ := hs_split z (show 1 ≤ m by omega)
      have lg := wk.len
      have s02 := s1.trans s2
      have bh : ∀ x ∈ g, 0 ≤ x ∧ x < (ns.length : Int) := by
        have bx := part_bd hpm (hStart_in hx).2
        have : ∀ {k : Nat} {a o : Int} {w : List Int}, (0 ≤ a ∧ a < (ns.length : Int)) → WkL (behindOf ps) k a o w → ∀ x ∈ w, 0 ≤ x ∧ x < (ns.length : Int) := fun {k} => by
          induction k with
          | zero => intro a o w ba h x hx; rw [h.1] at hx; rw [List.mem_singleton.mp hx]; exact ba
          | succ k ih =>
            intro a o w ba h x hx
            obtain ⟨c, w', rfl, h1', h2'⟩ := h
            rcases List.mem_cons.mp hx with rfl | hx
            · exact ba
            · exact ih (behind_inn h1.S a c h1') h2' x hx
        exact this bx wk
      refine ⟨.ref r, rfl, .ref t, rfl, .int z, rfl, .int (m : Int), rfl, r, t, z, m, ns, g, ps, rfl, h1.R.same s02, h1.M, hg, bh, by omega, by omega, by omega, fun i hi1 hi2 => ?_, fun H3 u s3 hu => ?_⟩
      · have : (hAx z m - (i : Int)) % (m : Int) = (m : Int) - gg - (i : Int) := by
          unfold hAx
          rw [hgg]
          rcases g01 with e' | e'
          · rw [if_pos e', e']; exact mod_is (q := -1) (by omega) (by omega) (by omega)
          · rw [if_neg (by omega), e']; exact mod_is (q := 1) (by omega) (by omega) (by omega)
        rw [this]
        omega
      · refine ⟨.int z, rfl, .int (m : Int), rfl, z, m, rfl, two, fun T nT => ?_⟩
        have sT := same_upd (o := .tup [.ref u, .int (hAx z m)]) nT
        exact q _ T (unfI ns g z m, hAx z m) ((s02.trans s3).trans sT) ⟨u, upd_same, sqT_same sT hu⟩ ⟨z, m, ax, by omega, by omega, lk2, ring⟩
end
end K44
set_option maxHeartbeats 4000000
namespace K44
open PySem PySem.Spec PyProof.Rows L2 RV
/-- a reason -/
inductive Rsn
  | size (r : List Int)
  | side
  | way (w : List Int)
  | axes (xs : List (List Int × Int))
def ReasonH (K : PySem.W.Frag) (H : Hp) (a : Addr) : Rsn → Prop
  | .size r => ∃ t : Addr, H a = some (.tup [.str (Str.ofString "size"), .ref t]) ∧ SqT K H t (r.map V.int)
  | .side => H a = some (.tup [.str (Str.ofString "side")])
  | .way w => ∃ t : Addr, H a = some (.tup [.str (Str.ofString "way"), .ref t]) ∧ SqT K H t (w.map V.int)
  | .axes xs => ∃ (c : Addr) (ts : List Addr), H a = some (.tup [.str (Str.ofString "axes"), .ref c]) ∧ H c = some (.tup (ts.map V.ref)) ∧ ts.length = xs.length ∧ ∀ (j : Nat) (t : Addr) (x : List Int × Int), ts[j]? = some t → xs[j]? = some x → RingA K H t x
theorem ReasonH.same {K : PySem.W.Frag} {H H' : Hp} {a : Addr} {d : Rsn} (h : ReasonH K H a d) (s : Same H H') : ReasonH K H' a d := by
  cases d with
  | size r => obtain ⟨t, h1, h2⟩ := h; exact ⟨t, s _ _ h1, sqT_same s h2⟩
  | side => exact s _ _ h
  | way w => obtain ⟨t, h1, h2⟩ := h; exact ⟨t, s _ _ h1, sqT_same s h2⟩
  | axes xs => obtain ⟨c, ts, h1, h2, h3, h4⟩ := h; exact ⟨c, ts, s _ _ h1, s _ _ h2, h3, fun j t x a b => (h4 j t x a b).same s⟩
/-- the shifts that the turnings let -/
noncomputable abbrev ableL (ns : List Int) (ps : List (List Int)) (p : List Int) (ns' : List Int) (ps' : List (List Int)) (p' : List Int) : List Int := (upN (pOf ps' p')).filter (ableS ns ps p ns' ps' p')
/-- what a reason says -/
def RsnOk (ns : List Int) (ps : List (List Int)) (p : List Int) (ns' : List Int) (ps' : List (List Int)) (p' : List Int) : Rsn → Prop
  | .size r => ∃ n : Nat, 1 ≤ n ∧ n ≤ 200 ∧ isZ ps' p' (n : Int) = false ∧ LR ps ns.length p n r
  | .side => Own ns p ∧ ¬ Own ns' p'
  | .way w => Own ns p ∧ Own ns' p' ∧ pOf ps' p' ∣ pOf ps p ∧ ableL ns ps p ns' ps' p' = [] ∧ ∃ n : Nat, n ≤ 8 ∧ WkL (behindOf ps) n (hd0 p) (mirI ns (hd0 p)) w
  | .axes xs => Own ns p ∧ Own ns' p' ∧ pOf ps' p' ∣ pOf ps p ∧ ableL ns ps p ns' ps' p' ≠ [] ∧ xs.length = (ableL ns ps p ns' ps' p').length ∧ ∀ (j : Nat) (h : Int) (x : List Int × Int), (ableL ns ps p ns' ps' p')[j]? = some h → xs[j]? = some x → AxOk ns ps p ns' ps' p' h x.1 x.2
/-- no shift is good -/
def NoGood (ns : List Int) (ps : List (List Int)) (p : List Int) (ns' : List Int) (ps' : List (List Int)) (p' : List Int) : Prop := ∀ mo, Far ps p ps' p' mo → ∀ h ∈ upN (pOf ps' p'), ¬ Good ns ps p ns' ps' p' mo h
section
variable {P : Program} {w : World} {K : PySem.W.Frag} {mg : Str → Option Value} {base : Heap}
/-! ### reason_of -/
abbrev nRO : List Str := ["rule", "part", "other", "its", "n", "able", "shift"]
theorem scRO : FnScope nRO nFE (defScope sReasonOf) := ⟨rfl, rfl, rfl, by decide +kernel, rfl, by decide +kernel, by decide +kernel⟩
def spRO (K : PySem.W.Frag) (C : Addr) : Sp := fun vs H Q _ => ∃ (r : Addr) (k : Nat) (ns : List Int) (ps : List (List Int)) (p : List Int) (r' : Addr) (k' : Nat) (ns' : List Int) (ps' : List (List Int)) (p' : List Int), vs = [.ref r, .int (k : Int), .ref r', .int (k' : Int)] ∧ PartR K C H r k ns ps p ∧ PartR K C H r' k' ns' ps' p' ∧ NoGood ns ps p ns' ps' p' ∧
  ∀ (H' : Hp) (a : Addr) (d : Rsn), Same H H' → ReasonH K H' a d → RsnOk ns ps p ns' ps' p' d → Q (.ref a) H'
theorem ok_ro {f C fL fR fO fT fW fP fM : Addr} {fd dL dR dO dT dW dP dM : FuncData} (F : Fun K "reason_of" "reason_of" sReasonOf f fd) (B : Bare mg)
    (DL : DefAt K mg "lacking_size" sLackS nFE fL dL) (GL : FnOk P w K mg base CX0 8 fL dL nFE (spLk K C)) (DR : DefAt K mg "least_ring" sLeastR ["rule", "part", "n"] fR dR) (GR : FnOk P w K mg base CX0 6 fR dR ["rule", "part", "n"] (spLR K C))
    (DO : DefAt K mg "is_own_mirror" sIsOwn ["rule", "part"] fO dO) (GO : FnOk P w K mg base CX0 6 fO dO ["rule", "part"] (spIsOwn K C)) (DT : DefAt K mg "turning_shifts" sTShifts nFE fT dT) (GT : FnOk P w K mg base CX0 8 fT dT nFE (spTSh K C))
    (DW : DefAt K mg "way_to_mirror" sWayTo ["rule", "mark"] fW dW) (GW : FnOk P w K mg base CX0 6 fW dW ["rule", "mark"] (spWM K C)) (DP : DefAt K mg "parts" sParts ["rule"] fP dP) (GP : FnOk P w K mg base CX0 3 fP dP ["rule"] (spParts K C))
    (DM : DefAt K mg "mirror_ring" sMRing nLMa fM dM) (GM : FnOk P w K mg base CX0 10 fM dM nLMa (spMR K C)) : FnOk P w K mg base CX0 11 f fd nFE (spRO K C) := by
  refine F.ok scRO (fun vs H Q E h => ?_) (fun cdv A outer s H vs Q E hr h => ?_)
  · obtain ⟨r, k, ns, ps, p, r', k', ns', ps', p', rfl, _⟩ := h
    rfl
  · obtain ⟨r, k, ns, ps, p, r', k', ns', ps', p', rfl, h1, h2, bad, q⟩ := h
    have r3 := hr.mono (show 3 ≤ 10 by decide)
    have r6 := hr.mono (show 6 ≤ 10 by decide)
    have r8 := hr.mono (show 8 ≤ 10 by decide)
    have one : (1 : Nat) ≤ sizeLine := by decide
    have two : (2 : Nat) ≤ sizeLine := by decide
    refine ⟨_, pss_cons (ps_set (i := 4) scRO.nd rfl (Or.inl rfl) (pe_call GL r8 (by rfl) DL.mg DL.fn.kp DL.bi .nil pass0 (pa_cons (pv 0) (pa_cons (pv 1) (pa_cons (pv 2) (pa_cons (pv 3) pa_nil))))))
      (pss_cons (ps_if (pt_cmpR op_notN (pv 4) pe_non (nomark _)) (pss_one (ps_ret (pe_tup (pa_cons pe_str (pa_cons (pe_call GR r6 (by rfl) DR.mg DR.fn.kp DR.bi .nil pass0 (pa_cons (pv 0) (pa_cons (pv 1) (pa_cons (pv 4) pa_nil)))) pa_nil))))) pss_nil)
      (pss_cons (ps_if (pt_not (pt_val (pe_call GO r6 (by rfl) DO.mg DO.fn.kp DO.bi .nil pass0 (pa_cons (pv 2) (pa_cons (pv 3) pa_nil))))) (pss_one (ps_ret (pe_tup (pa_cons pe_str pa_nil)))) pss_nil)
      (pss_cons (ps_set (i := 5) scRO.nd rfl (Or.inl rfl) (pe_call GT r8 (by rfl) DT.mg DT.fn.kp DT.bi .nil pass0 (pa_cons (pv 0) (pa_cons (pv 1) (pa_cons (pv 2) (pa_cons (pv 3) pa_nil))))))
      (pss_cons (ps_if (pt_cmpR op_eq (pe_callB call_len_seq (by rfl) B.len PySem.boot_len (pa_cons (pv 5) pa_nil)) pe_int (nomark _))
        (pss_one (ps_ret (pe_tup (pa_cons pe_str (pa_cons (pe_call GW r6 (by rfl) DW.mg DW.fn.kp DW.bi .nil pass0 (pa_cons (pv 0) (pa_cons (pe_ix ix_tup (pe_ix ix_tup (pe_call GP r3 (by rfl) DP.mg DP.fn.kp DP.bi .nil pass0 (pa_cons (pv 0) pa_nil)) (pv 1) (fun _ _ => rfl)) pe_int (fun _ _ => rfl)) pa_nil))) pa_nil))))) pss_nil)
      (pss_one (ps_ret (pe_tup (pa_cons pe_str (pa_cons (pe_tupleOf (by rfl) B.tuple
        (pe_lc (own := [("shift", 6)]) (g := gName 6) (tt := tYes) rfl scRO.nd (pi_list (pv 5)) (blkOk_by (N := nRO) (sc := defScope sReasonOf) (by decide +kernel)) (fun _ _ _ _ _ => pg_name (i := 6) scRO.nd rfl (Or.inl rfl)) (fun _ _ _ _ _ => pts_nil)
          (fun _ _ _ _ _ => pe_call GM hr (by rfl) DM.mg DM.fn.kp DM.bi .nil pass0 (pa_cons (pv 0) (pa_cons (pv 1) (pa_cons (pv 2) (pa_cons (pv 3) (pa_cons (pv 6) pa_nil)))))))) pa_nil))))))))), ?_⟩
    have hpm := List.mem_of_getElem? h1.gk
    have hpm' := List.mem_of_getElem? h2.gk
    have hP : ∀ q ∈ ps, Pr (ns.length : Int) q := fun q hq => h1.S.pair q hq
    have hP' : ∀ q ∈ ps', Pr (ns'.length : Int) q := fun q hq => h2.S.pair q hq
    refine ⟨.ref r, rfl, .int (k : Int), rfl, .ref r', rfl, .int (k' : Int), rfl, r, k, ns, ps, p, r', k', ns', ps', p', rfl, h1, h2, fun H1 v mo s1 far hv => ?_⟩
    have mo9 := far_few hP h1.M.few h1.rch far
    refine ⟨v, rfl, rfl, _, rfl, ?_⟩
    rcases hv with ⟨rfl, sf⟩ | ⟨n, rfl, hn1, hn2, hn3⟩
    · -- sizes fit
      have sfit : SFit ps p ps' p' mo := sf
      obtain ⟨T, T', sT, sT', _, _, _, emo⟩ := id far
      have eT : Ever ns ps p T := ⟨h1.M, h1.S, hpm, sT.2.1⟩
      have eT' : Ever ns' ps' p' T' := ⟨h2.M, h2.S, hpm', sT'.2.1⟩
      have lT : T ≤ max T T' := Nat.le_max_left _ _
      have lT' : T' ≤ max T T' := Nat.le_max_right _ _
      obtain ⟨dv, _⟩ := sizes_all eT eT' (B := mo) (by omega) (by omega) sfit
      have g0 := eT'.pos
      have own : Own ns p := Classical.byContradiction fun no => bad mo far 0 (mem_upN.mpr (by omega)) ⟨sfit, fun z => absurd (ownB_iff.mp z) no⟩
      refine iteF ⟨.ref r', rfl, .int (k' : Int), rfl, r', k', p', ns', ps', rfl, h2.R.same s1, h2.M, h2.S, h2.gk, fun H2 s2 => ⟨_, rfl, ?_⟩⟩
      have s02 := s1.trans s2
      cases ho' : ownB ns' p' with
      | false =>
        refine iteT ⟨one, fun t nt => ?_⟩
        exact q _ t .side (s02.trans (same_upd nt)) upd_same ⟨own, fun z => by rw [ownB_iff.mpr z] at ho'; cases ho'⟩
      | true =>
        have own' := ownB_iff.mp ho'
        refine iteF ⟨.ref r, rfl, .int (k : Int), rfl, .ref r', rfl, .int (k' : Int), rfl, r, k, ns, ps, p, r', k', ns', ps', p', rfl, ⟨h1.R.same s02, h1.M, h1.S, h1.gk⟩, ⟨h2.R.same s02, h2.M, h2.S, h2.gk⟩, fun H3 l s3 nl el _ => ?_⟩
        have s03 := s02.trans s3
        have g9 : pOf ps' p' ≤ 10 := per_small hP' h2.M.few (per_ex hP' h2.M.few h2.rch) h2.rch
        have el : H3 l = some (.lst ((ableL ns ps p ns' ps' p').map V.int)) := el
        have las : (ableL ns ps p ns' ps' p').length ≤ 10 := Nat.le_trans (List.length_filter_le _ _) (by rw [upN_len]; exact g9)
        have able : ∀ h ∈ ableL ns ps p ns' ps' p', h ∈ upN (pOf ps' p') ∧ ableS ns ps p ns' ps' p' h = true := fun h hh => List.mem_filter.mp hh
        refine ⟨.ref l, rfl, l, _, rfl, .inl (lstNew el), rfl, _, rfl, ?_⟩
        rw [decV, List.length_map]
        by_cases h0 : ((ableL ns ps p ns' ps' p').length : Int) = 0
        · rw [decide_eq_true h0]
          have enil : ableL ns ps p ns' ps' p' = [] := List.eq_nil_of_length_eq_zero (by omega)
          refine iteT ⟨.ref r, rfl, .ref r, rfl, r, ns, ps, rfl, h1.R.same s03, h1.M, h1.S, fun H4 c s4 nc hc => ?_⟩
          obtain ⟨ks, k1, k2, k3⟩ := hc
          have gk' : (ks.map (·.2))[k]? = some p := by rw [k1]; exact h1.gk
          obtain ⟨kk, gkk, ekk⟩ := map_at gk'
          have hp4 : SqT K H4 kk.1 (p.map V.int) := by
            have z := (k3 kk (List.mem_of_getElem? gkk)).sq (K := K)
            rw [← ekk] at z; exact z
          have hx : (p.map V.int)[0]? = some (.int (hd0 p)) := by
            cases e : p with
            | nil => exact absurd e (part_ne hpm)
            | cons x l => rfl
          obtain ⟨hx0, hl0⟩ := part_hd_in hpm
          have bx := part_bd hpm hx0
          have kn := knot_of hP hpm
          obtain ⟨nn, wn⟩ := kn.out _ (own _ hx0)
          obtain ⟨n8, hn8, wn8⟩ := wk_short hP bx wn
          have s04 := s03.trans s4
          refine ⟨.int (k : Int), rfl, c, _, _, .ref kk.1, rfl, rfl, tupNew k2, atI_nat (by rw [List.getElem?_map, gkk]; rfl), kk.1, _, 0, .int (hd0 p), rfl, rfl, hp4, atI_nat (j := 0) hx, ?_⟩
          refine ⟨r, hd0 p, ns, ps, n8, rfl, h1.R.same s04, h1.M, h1.S, bx, Nat.le_trans hn8 h1.M.few, wk_lk hP wn8, fun H5 t g n s5 n8' wk hg => ⟨two, fun u nu => ?_⟩⟩
          have su := same_upd (o := .tup [.str (Str.ofString "way"), .ref t]) nu
          exact q _ u (.way g) ((s04.trans s5).trans su) ⟨t, upd_same, sqT_same su hg⟩ ⟨own, own', dv, enil, n, n8', wk⟩
        · rw [decide_eq_false h0]
          refine iteF ⟨.ref l, rfl, l, rfl, ⟨_, lstNew el⟩, fun D nD => ?_⟩
          refine lc_list (K := K) (a := l) (xs := (ableL ns ps p ns' ps' p').map V.int) (fun j H' => Same H3 H' ∧ ∃ (ts : List Addr) (xs : List (List Int × Int)), H' D = some (.lst (ts.map V.ref)) ∧ ts.length = j ∧ xs.length = j ∧ (∀ (i : Nat) (t : Addr) (x : List Int × Int), ts[i]? = some t → xs[i]? = some x → RingA K H' t x) ∧ ∀ (i : Nat) (h : Int) (x : List Int × Int), (ableL ns ps p ns' ps' p')[i]? = some h → xs[i]? = some x → AxOk ns ps p ns' ps' p' h x.1 x.2)
            ⟨same_upd nD, [], [], upd_same, rfl, rfl, fun _ _ _ z => (by cases z), fun _ _ _ _ z => (by cases z)⟩ (fun j H' _ h => lstNew (h.1 _ _ el)) (fun j v H4 hv h => ?_) fun H4 h => ?_
          · obtain ⟨s4, ts, xs, eD, lt, lx, hR, hX⟩ := h
            obtain ⟨h, gh, rfl⟩ := map_at hv
            have hj : j < (ableL ns ps p ns' ps' p').length := (List.getElem?_eq_some_iff.mp gh).1
            obtain ⟨hu, ha⟩ := able h (List.mem_of_getElem? gh)
            have s04 := s03.trans s4
            refine ⟨by simp [wipe, List.set_set], tt_yes ⟨.ref r, rfl, .int (k : Int), rfl, .ref r', rfl, .int (k' : Int), rfl, .int h, rfl, r, k, ns, ps, p, r', k', ns', ps', p', h, rfl, ⟨h1.R.same s04, h1.M, h1.S, h1.gk⟩, ⟨h2.R.same s04, h2.M, h2.S, h2.gk⟩, fun mo2 far2 mf => ?_, fun H5 a x s5 hA hx => ?_⟩⟩
            · obtain rfl := far.uniq far2
              exact bad mo far h hu ⟨sfit, fun _ => ⟨ho', ha, mf⟩⟩
            have eD5 := s5 _ _ eD
            obtain ⟨u, u1, u2⟩ := hA
            have tp : ∀ {b : Addr} {y : List Int × Int}, RingA K H5 b y → RingA K (upd H5 D (.lst (ts.map V.ref ++ [.ref a]))) b y := fun {b y} z => by
              obtain ⟨u, u1, u2⟩ := z
              refine ⟨u, ?_, sqT_lst eD5 u2⟩
              rw [upd_ne (fun z => by rw [z, eD5] at u1; cases u1)]; exact u1
            refine ⟨_, eD5, by rw [List.length_map]; exact few1 (by omega), fun b o zz => ?_, ts ++ [a], xs ++ [x], by rw [upd_same, List.map_append]; rfl, by rw [List.length_append, lt]; rfl, by rw [List.length_append, lx]; rfl, fun i t y e1 e2 => ?_, fun i h' y e1 e2 => ?_⟩
            · rw [upd_ne (ne_of_none zz nD)]; exact s5 _ _ (s4 b o zz)
            · rcases Nat.lt_or_ge i j with z | z
              · rw [List.getElem?_append_left (by omega)] at e1 e2
                exact tp ((hR i t y e1 e2).same s5)
              · rw [List.getElem?_append_right (by omega)] at e1 e2
                have ei : i = j := by
                  have := (List.getElem?_eq_some_iff.mp e1).1
                  simp at this; omega
                rw [ei, lt, Nat.sub_self] at e1
                rw [ei, lx, Nat.sub_self] at e2
                cases e1
                cases e2
                exact tp ⟨u, u1, u2⟩
            · rcases Nat.lt_or_ge i j with z | z
              · rw [List.getElem?_append_left (by omega)] at e2
                exact hX i h' y e1 e2
              · rw [List.getElem?_append_right (by omega)] at e2
                have ei : i = j := by
                  have := (List.getElem?_eq_some_iff.mp e2).1
                  simp at this; omega
                rw [ei, lx, Nat.sub_self] at e2
                cases e2
                rw [ei, gh] at e1
                cases e1
                exact hx
          · obtain ⟨s4, ts, xs, eD, lt, lx, hR, hX⟩ := h
            rw [List.length_map] at lt lx
            refine .inl ⟨D, _, rfl, lstNew eD, fun c nc => ⟨two, fun u nu => ?_⟩⟩
            have sc := same_upd (o := .tup (ts.map V.ref)) nc
            have su := same_upd (o := .tup [.str (Str.ofString "axes"), .ref c]) nu
            have s46 := sc.trans su
            refine q _ u (.axes xs) ((s03.trans s4).trans s46) ⟨c, ts, upd_same, su _ _ upd_same, by rw [lt, lx], fun j t x a b => (hR j t x a b).same s46⟩ ⟨own, own', dv, fun z => h0 (by rw [z]; rfl), lx, hX⟩
    · -- a size is lacking
      have bn := mem_fromN.mp hn1
      obtain ⟨m, rfl⟩ : ∃ m : Nat, n = (m : Int) := ⟨n.toNat, by omega⟩
      obtain ⟨x, hx, wx⟩ := (isZ_wk hP).mp hn2
      refine iteT ⟨.ref r, rfl, .int (k : Int), rfl, .int (m : Int), rfl, r, k, m, ns, p, ps, rfl, h1.R.same s1, h1.M, h1.S, h1.gk, by omega, by omega, fun H2 s2 no => ?_, fun H2 t g s2 lr hg => ⟨two, fun u nu => ?_⟩⟩
      · exact absurd ((beg_lk (fun a => behind_inn h1.S a) (part_bd hpm hx)).mpr (wk_lk hP wx)) (no x hx)
      · have su := same_upd (o := .tup [.str (Str.ofString "size"), .ref t]) nu
        exact q _ u (.size g) ((s1.trans s2).trans su) ⟨t, upd_same, sqT_same su hg⟩ ⟨m, by omega, by omega, hn3, lr⟩
end
end K44
set_option maxHeartbeats 4000000
namespace K44
open PySem PySem.Spec PyProof.Rows L2 RV
theorem RingA.lst {K : PySem.W.Frag} {H : Hp} {D : Addr} {vs : List V} {o' : HO} (e : H D = some (.lst vs)) {a : Addr} {x : List Int × Int} (h : RingA K H a x) : RingA K (upd H D o') a x := by
  obtain ⟨u, u1, u2⟩ := h
  exact ⟨u, by rw [upd_ne (fun z => by rw [z, e] at u1; cases u1)]; exact u1, sqT_lst e u2⟩
theorem ReasonH.lst {K : PySem.W.Frag} {H : Hp} {D : Addr} {vs : List V} {o' : HO} (e : H D = some (.lst vs)) {a : Addr} {d : Rsn} (h : ReasonH K H a d) : ReasonH K (upd H D o') a d := by
  have tp : ∀ {b : Addr} {ws : List V}, H b = some (.tup ws) → (upd H D o') b = some (.tup ws) := fun {b ws} z => by rw [upd_ne (fun y => by rw [y, e] at z; cases z)]; exact z
  cases d with
  | size r => obtain ⟨t, h1, h2⟩ := h; exact ⟨t, tp h1, sqT_lst e h2⟩
  | side => exact tp h
  | way w => obtain ⟨t, h1, h2⟩ := h; exact ⟨t, tp h1, sqT_lst e h2⟩
  | axes xs => obtain ⟨c, ts, h1, h2, h3, h4⟩ := h; exact ⟨c, ts, tp h1, tp h2, h3, fun j t x a b => (h4 j t x a b).lst e⟩
/-- a paper -/
def PaperH (K : PySem.W.Frag) (H : Hp) (a : Addr) (k : Nat) (ds : List Rsn) : Prop := ∃ (c : Addr) (ts : List Addr), H a = some (.tup [.int (k : Int), .ref c]) ∧ H c = some (.tup (ts.map V.ref)) ∧ ts.length = ds.length ∧ ∀ (j : Nat) (t : Addr) (d : Rsn), ts[j]? = some t → ds[j]? = some d → ReasonH K H t d
theorem PaperH.same {K : PySem.W.Frag} {H H' : Hp} {a : Addr} {k : Nat} {ds : List Rsn} (h : PaperH K H a k ds) (s : Same H H') : PaperH K H' a k ds := by
  obtain ⟨c, ts, h1, h2, h3, h4⟩ := h
  exact ⟨c, ts, s _ _ h1, s _ _ h2, h3, fun j t d a b => (h4 j t d a b).same s⟩
/-- a reason for each part of the other rule -/
def PaperOk (ns : List Int) (ps : List (List Int)) (p : List Int) (ns' : List Int) (ps' : List (List Int)) (ds : List Rsn) : Prop := ds.length = (partsOf ps' ns'.length).length ∧ ∀ (j : Nat) (p' : List Int) (d : Rsn), (partsOf ps' ns'.length)[j]? = some p' → ds[j]? = some d → RsnOk ns ps p ns' ps' p' d
/-- fits none -/
def NoPair (ns : List Int) (ps : List (List Int)) (p : List Int) (ns' : List Int) (ps' : List (List Int)) : Prop := ∀ p' ∈ partsOf ps' ns'.length, (∃ mo, Far ps p ps' p' mo) ∧ NoGood ns ps p ns' ps' p'
/-- a pair of a part's number and a shift -/
def PairA (H : Hp) (a : Addr) (ns' : List Int) (ps' : List (List Int)) : Prop := ∃ (k : Nat) (h : Int) (p' : List Int), H a = some (.tup [.int (k : Int), .int h]) ∧ (partsOf ps' ns'.length)[k]? = some p'
theorem PairA.same {H H' : Hp} {a : Addr} {ns' : List Int} {ps' : List (List Int)} (h : PairA H a ns' ps') (s : Same H H') : PairA H' a ns' ps' := by
  obtain ⟨k, x, p', h1, h2⟩ := h
  exact ⟨k, x, p', s _ _ h1, h2⟩
section
variable {P : Program} {w : World} {K : PySem.W.Frag} {mg : Str → Option Value} {base : Heap}
/-! ### mirror_pair -/
abbrev nMP : List Str := ["rule", "part", "other", "pair", "its", "shift", "back"]
theorem scMP : FnScope nMP ["rule", "part", "other", "pair"] (defScope sMPair) := ⟨rfl, rfl, rfl, by decide +kernel, rfl, by decide +kernel, by decide +kernel⟩
def spMP (K : PySem.W.Frag) (C : Addr) : Sp := fun vs H Q _ => ∃ (r : Addr) (k : Nat) (ns : List Int) (ps : List (List Int)) (p : List Int) (r' : Addr) (ns' : List Int) (ps' : List (List Int)) (a : Addr), vs = [.ref r, .int (k : Int), .ref r', .ref a] ∧ PartR K C H r k ns ps p ∧ RuleAt K C H r' ns' ps' ∧ Mir ns' ∧ Stp ns' ps' ∧ PairA H a ns' ps' ∧
  ∀ (H' : Hp) (b : Addr), Same H H' → PairA H' b ns' ps' → Q (.ref b) H'
theorem ok_mp {f C fT fM fG : Addr} {fd dT dM dG : FuncData} (F : Fun K "mirror_pair" "mirror_pair" sMPair f fd) (DT : DefAt K mg "turning" sTurning ["rule", "part"] fT dT) (GT : FnOk P w K mg base CX0 7 fT dT ["rule", "part"] (spTurning K C))
    (DM : DefAt K mg "mirror_part" sMirrorPart ["rule", "part"] fM dM) (GM : FnOk P w K mg base CX0 5 fM dM ["rule", "part"] (spMirrorPart K C)) (DG : DefAt K mg "period" sPeriod ["rule", "part"] fG dG) (GG : FnOk P w K mg base CX0 4 fG dG ["rule", "part"] (spPeriod K C)) : FnOk P w K mg base CX0 8 f fd ["rule", "part", "other", "pair"] (spMP K C) := by
  refine F.ok scMP (fun vs H Q E h => ?_) (fun cdv A outer s H vs Q E hr h => ?_)
  · obtain ⟨r, k, ns, ps, p, r', ns', ps', a, rfl, _⟩ := h
    rfl
  · obtain ⟨r, k, ns, ps, p, r', ns', ps', a, rfl, h1, R', M', S', ⟨k', x, p', ea, gk'⟩, q⟩ := h
    have r5 := hr.mono (show 5 ≤ 7 by decide)
    have r4 := hr.mono (show 4 ≤ 7 by decide)
    have two : (2 : Nat) ≤ sizeLine := by decide
    refine ⟨_, pss_cons (ps_asg (pv 3) (pg_tup rfl (pgs_cons (pg_name (i := 4) scMP.nd rfl (Or.inl rfl)) (pgs_cons (pg_name (i := 5) scMP.nd rfl (Or.inl rfl)) pgs_nil))))
      (pss_cons (ps_set (i := 6) scMP.nd rfl (Or.inl rfl) (pe_op op_sub (pe_op op_sub (pe_call GT hr (by rfl) DT.mg DT.fn.kp DT.bi .nil pass0 (pa_cons (pv 2) (pa_cons (pv 4) pa_nil))) (pe_call GT hr (by rfl) DT.mg DT.fn.kp DT.bi .nil pass0 (pa_cons (pv 0) (pa_cons (pv 1) pa_nil)))) (pv 5)))
      (pss_one (ps_ret (pe_tup (pa_cons (pe_call GM r5 (by rfl) DM.mg DM.fn.kp DM.bi .nil pass0 (pa_cons (pv 2) (pa_cons (pv 4) pa_nil))) (pa_cons (pe_op op_mod (pv 6) (pe_call GG r4 (by rfl) DG.mg DG.fn.kp DG.bi .nil pass0 (pa_cons (pv 2) (pa_cons (pv 4) pa_nil)))) pa_nil)))))), ?_⟩
    have hpm' := List.mem_of_getElem? gk'
    have hP' : ∀ q ∈ ps', Pr (ns'.length : Int) q := fun q hq => S'.pair q hq
    have rp' : Rch ps' (hd0 p') (hd0 p') := lot_some (n := ns'.length) (by rw [part_lot hpm' (knot_of hP' hpm').x_in]; exact (knot_of hP' hpm').x_in)
    refine ⟨.ref a, rfl, a, _, rfl, tupNew ea, rfl, _, _, rfl, _, _, rfl, rfl, ?_⟩
    refine ⟨.ref r', rfl, .int (k' : Int), rfl, r', k', ns', ps', p', rfl, R', M', S', gk', fun H1 s1 => ?_⟩
    refine ⟨.ref r, rfl, .int (k : Int), rfl, r, k, ns, ps, p, rfl, h1.R.same s1, h1.M, h1.S, h1.gk, fun H2 s2 => ⟨_, _, rfl, rfl, .int x, rfl, _, x, rfl, rfl, ?_⟩⟩
    have s02 := s1.trans s2
    refine ⟨.ref r', rfl, .int (k' : Int), rfl, r', k', p', ns', ps', rfl, R'.same s02, M', S', gk', fun H3 y my k2 s3 hy gy gk2 => ?_⟩
    have s03 := s02.trans s3
    refine ⟨.int _, rfl, .ref r', rfl, .int (k' : Int), rfl, r', k', ns', ps', p', rfl, R'.same s03, M', S', gk', fun H4 s4 per => ?_⟩
    have g0 : 0 < perN ps' (hd0 p') := per.pos rp'
    refine ⟨_, _, rfl, rfl, (by show (0 : Int) < ((perN ps' (hd0 p') : Nat) : Int); omega), two, fun T nT => ?_⟩
    exact q _ T ((s03.trans s4).trans (same_upd nT)) ⟨k2, _, _, upd_same, gk2⟩
/-! ### first_pair -/
abbrev nFP : List Str := ["rule", "part", "other", "its", "able"]
theorem scFP : FnScope nFP ["rule", "part", "other"] (defScope sFirstP) := ⟨rfl, rfl, rfl, by decide +kernel, rfl, by decide +kernel, by decide +kernel⟩
def spFP (K : PySem.W.Frag) (C : Addr) : Sp := fun vs H Q _ => ∃ (r : Addr) (k : Nat) (ns : List Int) (ps : List (List Int)) (p : List Int) (r' : Addr) (ns' : List Int) (ps' : List (List Int)), vs = [.ref r, .int (k : Int), .ref r'] ∧ PartR K C H r k ns ps p ∧ RuleAt K C H r' ns' ps' ∧ Mir ns' ∧ Stp ns' ps' ∧
  (∀ H', Same H H' → NoPair ns ps p ns' ps' → Q .non H') ∧ ∀ (H' : Hp) (a : Addr), Same H H' → PairA H' a ns' ps' → ¬ NoPair ns ps p ns' ps' → Q (.ref a) H'
theorem ok_fp {f C fP fG : Addr} {fd dP dG : FuncData} (F : Fun K "first_pair" "first_pair" sFirstP f fd) (B : Bare mg) (DP : DefAt K mg "parts" sParts ["rule"] fP dP) (GP : FnOk P w K mg base CX0 3 fP dP ["rule"] (spParts K C))
    (DG : DefAt K mg "good_shifts" sGoodSh nFE fG dG) (GG : FnOk P w K mg base CX0 10 fG dG nFE (spGS K C)) : FnOk P w K mg base CX0 11 f fd ["rule", "part", "other"] (spFP K C) := by
  refine F.ok scFP (fun vs H Q E h => ?_) (fun cdv A outer s H vs Q E hr h => ?_)
  · obtain ⟨r, k, ns, ps, p, r', ns', ps', rfl, _⟩ := h
    rfl
  · obtain ⟨r, k, ns, ps, p, r', ns', ps', rfl, h1, R', M', S', q0, q⟩ := h
    have r3 := hr.mono (show 3 ≤ 10 by decide)
    have two : (2 : Nat) ≤ sizeLine := by decide
    refine ⟨_, pss_cons (ps_for PassesOwn.never rfl (pi_range1 (by rfl) B.range (pa_cons (pe_callB call_len_seq (by rfl) B.len PySem.boot_len (pa_cons (pe_call GP r3 (by rfl) DP.mg DP.fn.kp DP.bi .nil pass0 (pa_cons (pv 2) pa_nil)) pa_nil)) pa_nil)) (pg_name (i := 3) scFP.nd rfl (Or.inl rfl))
        (pss_cons (ps_set (i := 4) scFP.nd rfl (Or.inl rfl) (pe_call GG hr (by rfl) DG.mg DG.fn.kp DG.bi .nil pass0 (pa_cons (pv 0) (pa_cons (pv 1) (pa_cons (pv 2) (pa_cons (pv 3) pa_nil))))))
        (pss_one (ps_if (pt_cmpR op_gt (pe_callB call_len_seq (by rfl) B.len PySem.boot_len (pa_cons (pv 4) pa_nil)) pe_int (nomark _)) (pss_one (ps_ret (pe_tup (pa_cons (pv 3) (pa_cons (pe_ix ix_list (pv 4) pe_int (fun _ _ => rfl)) pa_nil))))) pss_nil))))
      (pss_one (ps_ret pe_non)), ?_⟩
    refine ⟨.ref r', rfl, r', ns', ps', rfl, R', M', S', fun H1 c s1 nc hc => ?_⟩
    obtain ⟨ks, k1, k2, k3⟩ := hc
    have lks : ks.length = (partsOf ps' ns'.length).length := by rw [← k1, List.length_map]
    have lks8 : ks.length ≤ 8 := by rw [lks]; exact Nat.le_trans (parts_len _ _) M'.few
    refine ⟨c, _, rfl, .inr (tupNew k2), ?_⟩
    rw [List.length_map]
    refine ⟨(ks.length : Int), rfl, by omega, by omega, ?_⟩
    rw [Int.toNat_natCast]
    refine for_range (lo := 0) (n := ks.length) (fun i σ H' => ∃ (y3 y4 : Option V), σ = [some (.ref r), some (.int (k : Int)), some (.ref r'), y3, y4] ∧ Same H H' ∧ ∀ p' ∈ (partsOf ps' ns'.length).take i, (∃ mo, Far ps p ps' p' mo) ∧ NoGood ns ps p ns' ps' p')
      ⟨_, _, rfl, s1, fun _ z => by simp at z⟩ (fun i σ H2 hi h => ?_) (fun σ H2 h => ?_)
    · obtain ⟨y3, y4, rfl, s2, done⟩ := h
      rw [show (0 : Int) + (i : Int) = (i : Int) by omega]
      obtain ⟨p', gp'⟩ : ∃ p', (partsOf ps' ns'.length)[i]? = some p' := ⟨_, List.getElem?_eq_getElem (by omega)⟩
      refine ⟨.ref r, rfl, .int (k : Int), rfl, .ref r', rfl, .int (i : Int), rfl, r, k, ns, ps, p, r', i, ns', ps', p', rfl, ⟨h1.R.same s2, h1.M, h1.S, h1.gk⟩, ⟨R'.same s2, M', S', gp'⟩, fun H3 l mo s3 nl far el => ?_⟩
      have s03 := s2.trans s3
      obtain ⟨gs, egs⟩ : ∃ gs, gs = (upN (pOf ps' p')).filter (goodB ns ps p ns' ps' p' mo) := ⟨_, rfl⟩
      rw [← egs] at el
      refine ⟨.ref l, rfl, l, _, rfl, .inl (lstNew el), _, _, rfl, rfl, _, rfl, ?_⟩
      rw [List.length_map]
      cases hgs : gs with
      | nil =>
        refine iteF ⟨_, _, rfl, s03, fun p'' hp'' => ?_⟩
        rw [List.take_add_one, gp'] at hp''
        rcases List.mem_append.mp hp'' with z | z
        · exact done p'' z
        · rw [show p'' = p' from List.mem_singleton.mp z]
          refine ⟨⟨mo, far⟩, ?_⟩
          intro mo2 far2 h hh good
          obtain rfl := far.uniq far2
          have : h ∈ gs := by rw [egs]; exact List.mem_filter.mpr ⟨hh, goodB_iff.mpr good⟩
          rw [hgs] at this; cases this
      | cons h0 gs' =>
        have : (((h0 :: gs').length : Nat) : Int) > 0 := by simp
        rw [decide_eq_true this]
        rw [hgs] at el egs
        refine iteT ⟨.int (i : Int), rfl, .ref l, rfl, l, _, 0, .int h0, rfl, rfl, lstNew el, atI_nat (j := 0) rfl, two, fun T nT => ?_⟩
        have hm : h0 ∈ (upN (pOf ps' p')).filter (goodB ns ps p ns' ps' p' mo) := by rw [← egs]; exact List.mem_cons_self
        obtain ⟨m1, m2⟩ := List.mem_filter.mp hm
        exact q _ T (s03.trans (same_upd nT)) ⟨i, h0, p', upd_same, gp'⟩ fun no => (no p' (List.mem_of_getElem? gp')).2 mo far h0 m1 (goodB_iff.mp m2)
    · obtain ⟨y3, y4, rfl, s2, done⟩ := h
      rw [List.take_of_length_le (by omega)] at done
      exact q0 H2 s2 done
/-! ### paper_of -/
abbrev nPO : List Str := ["rule", "part", "other", "its"]
theorem scPO : FnScope nPO ["rule", "part", "other"] (defScope sPaperOf) := ⟨rfl, rfl, rfl, by decide +kernel, rfl, by decide +kernel, by decide +kernel⟩
def spPO (K : PySem.W.Frag) (C : Addr) : Sp := fun vs H Q _ => ∃ (r : Addr) (k : Nat) (ns : List Int) (ps : List (List Int)) (p : List Int) (r' : Addr) (ns' : List Int) (ps' : List (List Int)), vs = [.ref r, .int (k : Int), .ref r'] ∧ PartR K C H r k ns ps p ∧ RuleAt K C H r' ns' ps' ∧ Mir ns' ∧ Stp ns' ps' ∧ NoPair ns ps p ns' ps' ∧
  ∀ (H' : Hp) (a : Addr) (ds : List Rsn), Same H H' → PaperH K H' a k ds → PaperOk ns ps p ns' ps' ds → Q (.ref a) H'
theorem ok_po {f C fP fG : Addr} {fd dP dG : FuncData} (F : Fun K "paper_of" "paper_of" sPaperOf f fd) (B : Bare mg) (DP : DefAt K mg "parts" sParts ["rule"] fP dP) (GP : FnOk P w K mg base CX0 3 fP dP ["rule"] (spParts K C))
    (DG : DefAt K mg "reason_of" sReasonOf nFE fG dG) (GG : FnOk P w K mg base CX0 11 fG dG nFE (spRO K C)) : FnOk P w K mg base CX0 12 f fd ["rule", "part", "other"] (spPO K C) := by
  refine F.ok scPO (fun vs H Q E h => ?_) (fun cdv A outer s H vs Q E hr h => ?_)
  · obtain ⟨r, k, ns, ps, p, r', ns', ps', rfl, _⟩ := h
    rfl
  · obtain ⟨r, k, ns, ps, p, r', ns', ps', rfl, h1, R', M', S', no, q⟩ := h
    have r3 := hr.mono (show 3 ≤ 11 by decide)
    have two : (2 : Nat) ≤ sizeLine := by decide
    refine ⟨_, pss_one (ps_ret (pe_tup (pa_cons (pv 1) (pa_cons (pe_tupleOf (by rfl) B.tuple
      (pe_lc (own := [("its", 3)]) (g := gName 3) (tt := tYes) rfl scPO.nd (pi_range1 (by rfl) B.range (pa_cons (pe_callB call_len_seq (by rfl) B.len PySem.boot_len (pa_cons (pe_call GP r3 (by rfl) DP.mg DP.fn.kp DP.bi .nil pass0 (pa_cons (pv 2) pa_nil)) pa_nil)) pa_nil)) (blkOk_by (N := nPO) (sc := defScope sPaperOf) (by decide +kernel)) (fun _ _ _ _ _ => pg_name (i := 3) scPO.nd rfl (Or.inl rfl)) (fun _ _ _ _ _ => pts_nil)
        (fun _ _ _ _ _ => pe_call GG hr (by rfl) DG.mg DG.fn.kp DG.bi .nil pass0 (pa_cons (pv 0) (pa_cons (pv 1) (pa_cons (pv 2) (pa_cons (pv 3) pa_nil))))))) pa_nil)))), ?_⟩
    refine ⟨.int (k : Int), rfl, .ref r', rfl, r', ns', ps', rfl, R', M', S', fun H1 c s1 nc hc => ?_⟩
    obtain ⟨ks, k1, k2, k3⟩ := hc
    have lks : ks.length = (partsOf ps' ns'.length).length := by rw [← k1, List.length_map]
    have lks8 : ks.length ≤ 8 := by rw [lks]; exact Nat.le_trans (parts_len _ _) M'.few
    refine ⟨c, _, rfl, .inr (tupNew k2), ?_⟩
    rw [List.length_map]
    refine ⟨(ks.length : Int), rfl, by omega, by omega, fun D nD => ?_⟩
    rw [Int.toNat_natCast]
    refine lc_range (lo := 0) (n := ks.length) (fun j H' => Same H1 H' ∧ ∃ (ts : List Addr) (ds : List Rsn), H' D = some (.lst (ts.map V.ref)) ∧ ts.length = j ∧ ds.length = j ∧ (∀ (i : Nat) (t : Addr) (d : Rsn), ts[i]? = some t → ds[i]? = some d → ReasonH K H' t d) ∧ ∀ (i : Nat) (p' : List Int) (d : Rsn), (partsOf ps' ns'.length)[i]? = some p' → ds[i]? = some d → RsnOk ns ps p ns' ps' p' d)
      ⟨same_upd nD, [], [], upd_same, rfl, rfl, fun _ _ _ z => (by cases z), fun _ _ _ _ z => (by cases z)⟩ (fun j H2 hj h => ?_) fun H2 h => ?_
    · obtain ⟨s2, ts, ds, eD, lt, ld, hR, hX⟩ := h
      rw [show (0 : Int) + (j : Int) = (j : Int) by omega]
      obtain ⟨p', gp'⟩ : ∃ p', (partsOf ps' ns'.length)[j]? = some p' := ⟨_, List.getElem?_eq_getElem (by omega)⟩
      have s02 := s1.trans s2
      refine ⟨by simp [wipe, List.set_set], tt_yes ⟨.ref r, rfl, .int (k : Int), rfl, .ref r', rfl, .int (j : Int), rfl, r, k, ns, ps, p, r', j, ns', ps', p', rfl, ⟨h1.R.same s02, h1.M, h1.S, h1.gk⟩, ⟨R'.same s02, M', S', gp'⟩, (no p' (List.mem_of_getElem? gp')).2, fun H3 a d s3 hA hd => ?_⟩⟩
      have eD3 := s3 _ _ eD
      refine ⟨_, eD3, by rw [List.length_map]; exact few1 (by omega), fun b o zz => ?_, ts ++ [a], ds ++ [d], by rw [upd_same, List.map_append]; rfl, by rw [List.length_append, lt]; rfl, by rw [List.length_append, ld]; rfl, fun i t y e1 e2 => ?_, fun i p'' y e1 e2 => ?_⟩
      · rw [upd_ne (ne_of_none zz nD)]; exact s3 _ _ (s2 b o zz)
      · rcases Nat.lt_or_ge i j with z | z
        · rw [List.getElem?_append_left (by omega)] at e1 e2
          exact ((hR i t y e1 e2).same s3).lst eD3
        · rw [List.getElem?_append_right (by omega)] at e1 e2
          have ei : i = j := by
            have := (List.getElem?_eq_some_iff.mp e1).1
            simp at this; omega
          rw [ei, lt, Nat.sub_self] at e1
          rw [ei, ld, Nat.sub_self] at e2
          cases e1
          cases e2
          exact hA.lst eD3
      · rcases Nat.lt_or_ge i j with z | z
        · rw [List.getElem?_append_left (by omega)] at e2
          exact hX i p'' y e1 e2
        · rw [List.getElem?_append_right (by omega)] at e2
          have ei : i = j := by
            have := (List.getElem?_eq_some_iff.mp e2).1
            simp at this; omega
          rw [ei, ld, Nat.sub_self] at e2
          cases e2
          rw [ei, gp'] at e1
          cases e1
          exact hd
    · obtain ⟨s2, ts, ds, eD, lt, ld, hR, hX⟩ := h
      refine .inl ⟨D, _, rfl, lstNew eD, fun c' nc' => ⟨two, fun u nu => ?_⟩⟩
      have sc := same_upd (o := .tup (ts.map V.ref)) nc'
      have su := same_upd (o := .tup [.int (k : Int), .ref c']) nu
      have s24 := sc.trans su
      exact q _ u ds ((s1.trans s2).trans s24) ⟨c', ts, upd_same, su _ _ upd_same, by rw [lt, ld], fun j t d a b => (hR j t d a b).same s24⟩ ⟨by omega, hX⟩
end
end K44
set_option maxHeartbeats 4000000
namespace K44
open PySem PySem.Spec PyProof.Rows L2 RV
/-- a plan: a pair for each part -/
def PlanH (H : Hp) (c : Addr) (n : Nat) (ns' : List Int) (ps' : List (List Int)) : Prop := ∃ ts : List Addr, H c = some (.tup (ts.map V.ref)) ∧ ts.length = n ∧ ∀ t ∈ ts, PairA H t ns' ps'
section
variable {P : Program} {w : World} {K : PySem.W.Frag} {mg : Str → Option Value} {base : Heap}
/-! ### judged -/
abbrev nJ : List Str := ["rule", "other", "plan", "part", "mirror", "pair"]
theorem scJ : FnScope nJ ["rule", "other"] (defScope sJudged) := ⟨rfl, rfl, rfl, by decide +kernel, rfl, by decide +kernel, by decide +kernel⟩
/-- a part whose mirror part doesn't come ahead of it -/
def Ahead (ns : List Int) (ps : List (List Int)) (k : Nat) : Prop := ∃ (p : List Int) (x mx : Int) (k' : Nat), (partsOf ps ns.length)[k]? = some p ∧ x ∈ p ∧ ns[x.toNat]? = some mx ∧ (partsOf ps ns.length)[k']? = some (lotOf ps ns.length mx) ∧ k' < k
theorem ahead_iff {ns : List Int} {ps : List (List Int)} (M : Mir ns) (S : Stp ns ps) {k k' : Nat} {p : List Int} {x mx : Int} (gp : (partsOf ps ns.length)[k]? = some p) (hx : x ∈ p) (gx : ns[x.toNat]? = some mx) (gk : (partsOf ps ns.length)[k']? = some (lotOf ps ns.length mx)) : Ahead ns ps k ↔ k' < k := by
  constructor
  · rintro ⟨p2, x2, mx2, k2, h1, h2, h3, h4, h5⟩
    rw [gp] at h1
    cases h1
    have hp := List.mem_of_getElem? gp
    have e : lotOf ps ns.length mx2 = lotOf ps ns.length mx := lot_eq (lot_mirror M S (part_bd hp hx).1 gx h3 (by rw [part_lot hp hx]; exact h2))
    rw [e] at h4
    have l1 := (List.getElem?_eq_some_iff.mp h4).1
    have l2 := (List.getElem?_eq_some_iff.mp gk).1
    have : k2 = k' := (List.getElem?_inj l1 (parts_nodup ps ns.length)).mp (h4.trans gk.symm)
    omega
  · intro h
    exact ⟨p, x, mx, k', gp, hx, gx, gk, h⟩
def spJ (K : PySem.W.Frag) (C : Addr) : Sp := fun vs H Q _ => ∃ (r : Addr) (ns : List Int) (ps : List (List Int)) (r' : Addr) (ns' : List Int) (ps' : List (List Int)), vs = [.ref r, .ref r'] ∧ RuleAt K C H r ns ps ∧ Mir ns ∧ Stp ns ps ∧ RuleAt K C H r' ns' ps' ∧ Mir ns' ∧ Stp ns' ps' ∧
  (∀ (H' : Hp) (a c : Addr), Same H H' → H' a = some (.tup [.str (Str.ofString "plan"), .ref c]) → PlanH H' c (partsOf ps ns.length).length ns' ps' → (∀ (k : Nat) (p : List Int), (partsOf ps ns.length)[k]? = some p → Ahead ns ps k ∨ ¬ NoPair ns ps p ns' ps') → Q (.ref a) H') ∧
  ∀ (H' : Hp) (a b : Addr) (k : Nat) (p : List Int) (ds : List Rsn), Same H H' → H' a = some (.tup [.str (Str.ofString "none"), .ref b]) → (partsOf ps ns.length)[k]? = some p → PaperH K H' b k ds → NoPair ns ps p ns' ps' → ¬ Ahead ns ps k → PaperOk ns ps p ns' ps' ds → Q (.ref a) H'
theorem ok_j {f C fP fM fR fF fO : Addr} {fd dP dM dR dF dO : FuncData} (F : Fun K "judged" "judged" sJudged f fd) (B : Bare mg) (DP : DefAt K mg "parts" sParts ["rule"] fP dP) (GP : FnOk P w K mg base CX0 3 fP dP ["rule"] (spParts K C))
    (DM : DefAt K mg "mirror_part" sMirrorPart ["rule", "part"] fM dM) (GM : FnOk P w K mg base CX0 5 fM dM ["rule", "part"] (spMirrorPart K C)) (DR : DefAt K mg "mirror_pair" sMPair ["rule", "part", "other", "pair"] fR dR) (GR : FnOk P w K mg base CX0 8 fR dR ["rule", "part", "other", "pair"] (spMP K C))
    (DF : DefAt K mg "first_pair" sFirstP ["rule", "part", "other"] fF dF) (GF : FnOk P w K mg base CX0 11 fF dF ["rule", "part", "other"] (spFP K C)) (DO : DefAt K mg "paper_of" sPaperOf ["rule", "part", "other"] fO dO) (GO : FnOk P w K mg base CX0 12 fO dO ["rule", "part", "other"] (spPO K C)) : FnOk P w K mg base CX0 13 f fd ["rule", "other"] (spJ K C) := by
  refine F.ok scJ (fun vs H Q E h => ?_) (fun cdv A outer s H vs Q E hr h => ?_)
  · obtain ⟨r, ns, ps, r', ns', ps', rfl, _⟩ := h
    rfl
  · obtain ⟨r, ns, ps, r', ns', ps', rfl, R, M, S, R', M', S', qp, qn⟩ := h
    have r3 := hr.mono (show 3 ≤ 12 by decide)
    have r5 := hr.mono (show 5 ≤ 12 by decide)
    have r8 := hr.mono (show 8 ≤ 12 by decide)
    have r11 := hr.mono (show 11 ≤ 12 by decide)
    have z0 : (0 : Nat) ≤ sizeLine := Nat.zero_le _
    have two : (2 : Nat) ≤ sizeLine := by decide
    refine ⟨_, pss_cons (ps_set (i := 2) scJ.nd rfl (Or.inl rfl) (pe_lst pa_nil))
      (pss_cons (ps_for PassesOwn.never rfl (pi_range1 (by rfl) B.range (pa_cons (pe_callB call_len_seq (by rfl) B.len PySem.boot_len (pa_cons (pe_call GP r3 (by rfl) DP.mg DP.fn.kp DP.bi .nil pass0 (pa_cons (pv 0) pa_nil)) pa_nil)) pa_nil)) (pg_name (i := 3) scJ.nd rfl (Or.inl rfl))
        (pss_cons (ps_set (i := 4) scJ.nd rfl (Or.inl rfl) (pe_call GM r5 (by rfl) DM.mg DM.fn.kp DM.bi .nil pass0 (pa_cons (pv 0) (pa_cons (pv 3) pa_nil))))
        (pss_cons (ps_if (pt_cmpR op_lt (pv 4) (pv 3) (nomark _))
          (pss_one (ps_set (i := 5) scJ.nd rfl (Or.inl rfl) (pe_call GR r8 (by rfl) DR.mg DR.fn.kp DR.bi .nil pass0 (pa_cons (pv 0) (pa_cons (pv 4) (pa_cons (pv 1) (pa_cons (pe_ix ix_list (pv 2) (pv 4) (fun _ _ => rfl)) pa_nil)))))))
          (pss_one (ps_set (i := 5) scJ.nd rfl (Or.inl rfl) (pe_call GF r11 (by rfl) DF.mg DF.fn.kp DF.bi .nil pass0 (pa_cons (pv 0) (pa_cons (pv 3) (pa_cons (pv 1) pa_nil)))))))
        (pss_cons (ps_if (pt_cmpR op_isN (pv 5) pe_non (nomark _)) (pss_one (ps_ret (pe_tup (pa_cons pe_str (pa_cons (pe_call GO hr (by rfl) DO.mg DO.fn.kp DO.bi .nil pass0 (pa_cons (pv 0) (pa_cons (pv 3) (pa_cons (pv 1) pa_nil)))) pa_nil))))) pss_nil)
        (pss_one (ps_expr (pe_bm PySem.F.plainAttrs_list PySem.F.slot_list_append PySem.F.type_list_append mt_append (pv 2) (pa_cons (pv 5) pa_nil))))))))
      (pss_one (ps_ret (pe_tup (pa_cons pe_str (pa_cons (pe_tupleOf (by rfl) B.tuple (pv 2)) pa_nil)))))), ?_⟩
    refine ⟨z0, fun L nL => ?_⟩
    have sL := same_upd (o := .lst []) nL
    have eL0 : (upd H L (.lst [])) L = some (.lst []) := upd_same
    generalize upd H L (.lst []) = H0 at sL eL0 ⊢
    refine ⟨.ref r, rfl, r, ns, ps, rfl, R.same sL, M, S, fun H1 c s1 nc hc => ?_⟩
    obtain ⟨ks, k1, k2, k3⟩ := hc
    have lks : ks.length = (partsOf ps ns.length).length := by rw [← k1, List.length_map]
    have lks8 : ks.length ≤ 8 := by rw [lks]; exact Nat.le_trans (parts_len _ _) M.few
    refine ⟨c, _, rfl, .inr (tupNew k2), ?_⟩
    rw [List.length_map]
    refine ⟨(ks.length : Int), rfl, by omega, by omega, ?_⟩
    rw [Int.toNat_natCast]
    refine for_range (lo := 0) (n := ks.length) (fun i σ H' => ∃ (ts : List Addr) (y3 y4 y5 : Option V), σ = [some (.ref r), some (.ref r'), some (.ref L), y3, y4, y5] ∧ Same H H' ∧ H' L = some (.lst (ts.map V.ref)) ∧ ts.length = i ∧ (∀ t ∈ ts, PairA H' t ns' ps') ∧ ∀ (k : Nat) (p : List Int), k < i → (partsOf ps ns.length)[k]? = some p → Ahead ns ps k ∨ ¬ NoPair ns ps p ns' ps')
      ⟨[], _, _, _, rfl, sL.trans s1, s1 _ _ eL0, rfl, fun _ z => (by cases z), fun k p z => by omega⟩ (fun i σ H2 hi h => ?_) (fun σ H2 h => ?_)
    · obtain ⟨ts, y3, y4, y5, rfl, s2, eL, lt, hts, done⟩ := h
      rw [show (0 : Int) + (i : Int) = (i : Int) by omega]
      obtain ⟨p, gp⟩ : ∃ p, (partsOf ps ns.length)[i]? = some p := ⟨_, List.getElem?_eq_getElem (by omega)⟩
      refine ⟨.ref r, rfl, .int (i : Int), rfl, r, i, p, ns, ps, rfl, R.same s2, M, S, gp, fun H3 x mx k' s3 hx gx gk' => ?_⟩
      have s03 := s2.trans s3
      have eL3 := s3 _ _ eL
      refine nx_step ?_
      dsimp only
      refine seq_mid (fun σ H' => ∃ v : V, σ = [some (.ref r), some (.ref r'), some (.ref L), some (.int (i : Int)), some (.int (k' : Int)), some v] ∧ Same H3 H' ∧ ((v = .non ∧ NoPair ns ps p ns' ps' ∧ ¬ Ahead ns ps i) ∨ ∃ a, v = .ref a ∧ PairA H' a ns' ps' ∧ (Ahead ns ps i ∨ ¬ NoPair ns ps p ns' ps'))) (fun σ H4 h => ?_) (fun tail => ?_)
      · obtain ⟨v, rfl, s4, hv⟩ := h
        have s04 := s03.trans s4
        refine ⟨v, rfl, rfl, _, rfl, ?_⟩
        rcases hv with ⟨rfl, no, na⟩ | ⟨a, rfl, hA, yes⟩
        · refine iteT ⟨.ref r, rfl, .int (i : Int), rfl, .ref r', rfl, r, i, ns, ps, p, r', ns', ps', rfl, ⟨R.same s04, M, S, gp⟩, R'.same s04, M', S', no, fun H5 b ds s5 hb hd => ⟨two, fun u nu => ?_⟩⟩
          have su := same_upd (o := .tup [.str (Str.ofString "none"), .ref b]) nu
          exact qn _ u b i p ds ((s04.trans s5).trans su) upd_same gp (hb.same su) no na hd
        · have eL4 := s4 _ _ eL3
          refine iteF ⟨.ref L, rfl, .inl ⟨rfl, _, lstNew eL4⟩, .ref a, rfl, L, _, _, rfl, rfl, eL4, by rw [List.length_map]; exact few1 (by omega), ts ++ [a], _, _, _, rfl, fun b o zz => ?_, by rw [upd_same, List.map_append]; rfl, by rw [List.length_append, lt]; rfl, fun t ht => ?_, fun k q hk gq => ?_⟩
          · rw [upd_ne (ne_of_none zz nL)]; exact s04 b o zz
          · have tp : PairA H4 t ns' ps' := by
              rcases List.mem_append.mp ht with z | z
              · exact (hts t z).same (s3.trans s4)
              · rw [List.mem_singleton.mp z]; exact hA
            obtain ⟨k2, x2, p2, e1, e2⟩ := tp
            exact ⟨k2, x2, p2, by rw [upd_ne (fun z => by rw [z, eL4] at e1; cases e1)]; exact e1, e2⟩
          · rcases Nat.lt_or_ge k i with z | z
            · exact done k q z gq
            · have ek : k = i := by omega
              rw [ek, gp] at gq
              cases gq
              rw [ek]; exact yes
      · refine ⟨.int (k' : Int), rfl, .int (i : Int), rfl, _, _, rfl, rfl, _, rfl, ?_⟩
        by_cases hlt : (k' : Int) < (i : Int)
        · rw [decide_eq_true hlt]
          obtain ⟨t, gt⟩ : ∃ t, ts[k']? = some t := ⟨_, List.getElem?_eq_getElem (by omega)⟩
          have hA := (hts t (List.mem_of_getElem? gt)).same s3
          refine iteT ⟨.ref r, rfl, .int (k' : Int), rfl, .ref r', rfl, .ref L, rfl, .int (k' : Int), rfl, L, _, _, .ref t, rfl, rfl, lstNew eL3, atI_nat (by rw [List.getElem?_map, gt]; rfl), r, k', ns, ps, _, r', ns', ps', t, rfl, ⟨R.same s03, M, S, gk'⟩, R'.same s03, M', S', hA, fun H4 b s4 hB => ?_⟩
          exact tail _ _ ⟨.ref b, rfl, s4, .inr ⟨b, rfl, hB, .inl ⟨p, x, mx, k', gp, hx, gx, gk', by omega⟩⟩⟩
        · rw [decide_eq_false hlt]
          refine iteF ⟨.ref r, rfl, .int (i : Int), rfl, .ref r', rfl, r, i, ns, ps, p, r', ns', ps', rfl, ⟨R.same s03, M, S, gp⟩, R'.same s03, M', S', fun H4 s4 no => ?_, fun H4 a s4 hA yes => ?_⟩
          · exact tail _ _ ⟨.non, rfl, s4, .inl ⟨rfl, no, fun z => hlt (by have := (ahead_iff M S gp hx gx gk').mp z; omega)⟩⟩
          · exact tail _ _ ⟨.ref a, rfl, s4, .inr ⟨a, rfl, hA, .inr yes⟩⟩
    · obtain ⟨ts, y3, y4, y5, rfl, s2, eL, lt, hts, done⟩ := h
      refine ⟨.ref L, rfl, .inl ⟨L, _, rfl, lstNew eL, fun c' nc' => ⟨two, fun u nu => ?_⟩⟩⟩
      have sc := same_upd (o := .tup (ts.map V.ref)) nc'
      have su := same_upd (o := .tup [.str (Str.ofString "plan"), .ref c']) nu
      exact qp _ u c' ((s2.trans sc).trans su) upd_same ⟨ts, su _ _ upd_same, by rw [lt, lks], fun t ht => (hts t ht).same (sc.trans su)⟩ fun k p gp => done k p (by have := (List.getElem?_eq_some_iff.mp gp).1; omega) gp
end
end K44
set_option maxHeartbeats 4000000
/-! f(k = v, ..): keywords alone -/
namespace RV
open PySem PySem.Spec PyProof.Rows L2
section
variable {X : Cx} {CX : CXT} {k : Nat} {f : Addr} {fd : FuncData} {ps ks : List Str} {sp : Sp} {E : XK} {x : Str} {p pos : Pos} {kws : List Keyword} {tk : TA} {g : List Value → List Value → List Value} {gV : List V → List V → List V}
theorem pe_callKw0 (F : FnOk X.prog X.w X.K X.mg X.base CX k f fd ps sp) (hr : Room k X.A) (hg : Gl X x) (hm : X.mg x = some (.ref f)) (hk : PySem.W.keepIn X.K (.ref f) = true) (hb : KBinds X.K fd ps ks g gV) (hx : Passes CX X E)
    (hkw : PK X kws tk) (hall : (backToKw pos (keywordEach kws X.env)).all (·.1.isSome) = true := by rfl) (hks : (backToKw pos (keywordEach kws X.env)).filterMap (·.1) = ks := by rfl)
    (hdb : (x == ("__debug__" : Str)) = false := by decide)
    (hpl : ((backTo pos (starEach [] X.env)).any (·.1) || (backToKw pos (keywordEach kws X.env)).any (·.1.isNone)) = false := by rfl) :
    PE X (.Call (.Name x p) [] kws pos) (tCallK sp gV E tNil tk) := by
  refine ⟨fun pins s σ H Q I h => ?_⟩
  refine wpAny_Call_Name_kw (ld_glob I hg hm ?_ hdb)
  refine PySem.W.callWith_KW0 (h₀ := X.base) I.ok.mod.kin hk hall ?_ hpl
  refine thn (hkw.run pos pins s σ H _ I h) fun ws s2 ⟨zs, H2, I2, rz, q2⟩ => ⟨I2.kIn, ?_⟩
  rw [hks]
  exact run_fnk F hr hb hx I2 .nil rz q2
end
/-- two keywords, the other way about -/
theorem kb_swap {K : PySem.W.Frag} {fd : FuncData} {a b : Str} (h0 : ∀ v w : Value, bindArgs fd ⟨[], [(b, w), (a, v)]⟩ = pure [(a, v), (b, w)]) (h1 : ∀ v w : Value, bindArgs fd ⟨[v], [(b, w)]⟩ = pure [(a, v), (b, w)]) (h2 : ∀ v w : Value, bindArgs fd ⟨[v, w], []⟩ = pure [(a, v), (b, w)]) : KBinds K fd [a, b] [b, a] (fun us ws => us ++ ws.reverse) (fun vs zs => vs ++ zs.reverse) := by
  refine ⟨fun s us ws _ hl => ?_, fun {vs us zs ws} r rz => r.append ?_⟩
  · have hl : us.length + ws.length = 2 := by simpa using hl
    match us, ws, hl with
    | [], [w, v], _ => exact .of_eq (h0 v w)
    | [v], [w], _ => exact .of_eq (h1 v w)
    | [v, w], [], _ => exact .of_eq (h2 v w)
    | [], [], z => exact absurd z (by simp)
    | [], [_], z => exact absurd z (by simp)
    | [], _ :: _ :: _ :: _, z => exact absurd z (by simp)
    | [_], [], z => exact absurd z (by simp)
    | [_], _ :: _ :: _, z => exact absurd z (by simp; omega)
    | [_, _], _ :: _, z => exact absurd z (by simp)
    | _ :: _ :: _ :: _, _, z => exact absurd z (by simp; omega)
  · clear r
    have : ∀ {zs : List V} {ws : List Value} {as : List V} {bs : List Value}, Vals zs ws → Vals as bs → Vals (zs.reverse ++ as) (ws.reverse ++ bs) := fun {zs ws as bs} hz => by
      induction hz generalizing as bs with
      | nil => exact fun h => h
      | cons r _ ih =>
        intro h
        rw [List.reverse_cons, List.reverse_cons, List.append_assoc, List.append_assoc]
        exact ih (.cons r h)
    have z := this rz .nil
    rwa [List.append_nil, List.append_nil] at z
end RV
set_option maxHeartbeats 4000000
namespace K44
open PySem PySem.Spec PyProof.Rows L2 RV
/-- there is a plan -/
def Pl (ns : List Int) (ps : List (List Int)) (ns' : List Int) (ps' : List (List Int)) : Prop := ∀ (k : Nat) (p : List Int), (partsOf ps ns.length)[k]? = some p → Ahead ns ps k ∨ ¬ NoPair ns ps p ns' ps'
theorem pl_self {ns : List Int} {ps : List (List Int)} (M : Mir ns) (S : Stp ns ps) : Pl ns ps ns ps := fun k p gp => .inr fun no => by
  have hp := List.mem_of_getElem? gp
  obtain ⟨⟨mo, far⟩, bad⟩ := no p hp
  have hP : ∀ q ∈ ps, Pr (ns.length : Int) q := fun q hq => S.pair q hq
  have kn := knot_of hP hp
  have rp : Rch ps (hd0 p) (hd0 p) := lot_some (n := ns.length) (by rw [part_lot hp kn.x_in]; exact kn.x_in)
  have pos : 0 < perN ps (hd0 p) := (per_ex hP M.few rp).pos rp
  refine bad mo far 0 (mem_upN.mpr ⟨by omega, by show (0 : Int) < ((perN ps (hd0 p) : Nat) : Int); omega⟩) ⟨fun n _ h => h, fun ow => ⟨ow, ?_, fun z hz n _ h => ?_⟩⟩
  · unfold ableS
    rw [show turnN ns ps p - turnN ns ps p - 2 * 0 = (0 : Int) by omega, Int.zero_emod]
    exact decide_eq_true rfl
  · have bd := ax_bd hp pos hz
    rw [show z + 2 * 0 = z by omega, Int.emod_eq_of_lt bd.1 bd.2]
    exact h
section
variable {P : Program} {w : World} {K : PySem.W.Frag} {mg : Str → Option Value} {base : Heap}
theorem kb_leads {f : Addr} {fd : FuncData} (F : Fun K "leads" "leads" sLeads f fd) : KBinds K fd ["rule", "other"] ["other", "rule"] (fun us ws => us ++ ws.reverse) (fun vs zs => vs ++ zs.reverse) := by
  obtain ⟨oc, od, kV, doc, pm, an, cdv, ct, osl, rfl, _, _⟩ := F.ex
  exact kb_swap (fun v w => by rfl) (fun v w => by rfl) (fun v w => by rfl)
theorem kb_as {f : Addr} {fd : FuncData} (F : Fun K "as_good" "as_good" sAsGood f fd) : KBinds K fd ["one", "other"] ["other", "one"] (fun us ws => us ++ ws.reverse) (fun vs zs => vs ++ zs.reverse) := by
  obtain ⟨oc, od, kV, doc, pm, an, cdv, ct, osl, rfl, _, _⟩ := F.ex
  exact kb_swap (fun v w => by rfl) (fun v w => by rfl) (fun v w => by rfl)
/-! ### leads -/
theorem scLe : FnScope ["rule", "other"] ["rule", "other"] (defScope sLeads) := ⟨rfl, rfl, rfl, by decide +kernel, rfl, by decide +kernel, by decide +kernel⟩
def spLe (K : PySem.W.Frag) (C : Addr) : Sp := fun vs H Q _ => ∃ (r : Addr) (ns : List Int) (ps : List (List Int)) (r' : Addr) (ns' : List Int) (ps' : List (List Int)), vs = [.ref r, .ref r'] ∧ RuleAt K C H r ns ps ∧ Mir ns ∧ Stp ns ps ∧ RuleAt K C H r' ns' ps' ∧ Mir ns' ∧ Stp ns' ps' ∧ ∀ (H' : Hp) (b : Bool), Same H H' → (b = true ↔ Pl ns ps ns' ps') → Q (.bl b) H'
theorem dec_S {a b : String} (h : Str.ofString a = Str.ofString b) : decide (V.str (Str.ofString a) = V.str (Str.ofString b)) = true := by rw [h]; exact decide_eq_true rfl
theorem dec_N {a b : Str} (h : a ≠ b) : decide (V.str a = V.str b) = false := decide_eq_false fun z => h (V.str.inj z)
theorem ok_le {f C fJ : Addr} {fd dJ : FuncData} (F : Fun K "leads" "leads" sLeads f fd) (DJ : DefAt K mg "judged" sJudged ["rule", "other"] fJ dJ) (GJ : FnOk P w K mg base CX0 13 fJ dJ ["rule", "other"] (spJ K C)) : FnOk P w K mg base CX0 14 f fd ["rule", "other"] (spLe K C) := by
  refine F.ok scLe (fun vs H Q E h => ?_) (fun cdv A outer s H vs Q E hr h => ?_)
  · obtain ⟨r, ns, ps, r', ns', ps', rfl, _⟩ := h
    rfl
  · obtain ⟨r, ns, ps, r', ns', ps', rfl, R, M, S, R', M', S', q⟩ := h
    refine ⟨_, pss_one (ps_ret (pe_cmpR op_eq (pe_ix ix_tup (pe_call GJ hr (by rfl) DJ.mg DJ.fn.kp DJ.bi .nil pass0 (pa_cons (pv 0) (pa_cons (pv 1) pa_nil))) pe_int (fun _ _ => rfl)) pe_str (nomark _))), ?_⟩
    refine ⟨.ref r, rfl, .ref r', rfl, r, ns, ps, r', ns', ps', rfl, R, M, S, R', M', S', fun H1 o c s1 eo _ pl => ?_, fun H1 o b k p ds s1 eo gk _ no na _ => ?_⟩
    · refine ⟨o, _, 0, .str _, rfl, rfl, tupNew eo, rfl, rfl, ?_⟩
      rw [dec_S rfl]
      exact q H1 true s1 (iff_of_true rfl pl)
    · refine ⟨o, _, 0, .str _, rfl, rfl, tupNew eo, rfl, rfl, ?_⟩
      rw [dec_N (by decide +kernel)]
      exact q H1 false s1 (iff_of_false (by decide) fun pl => (pl k p gk).elim na fun z => z no)
/-! ### as_good -/
theorem scAg : FnScope ["one", "other"] ["one", "other"] (defScope sAsGood) := ⟨rfl, rfl, rfl, by decide +kernel, rfl, by decide +kernel, by decide +kernel⟩
def spAg (K : PySem.W.Frag) (C : Addr) : Sp := fun vs H Q _ => ∃ (r : Addr) (ns : List Int) (ps : List (List Int)) (r' : Addr) (ns' : List Int) (ps' : List (List Int)), vs = [.ref r, .ref r'] ∧ RuleAt K C H r ns ps ∧ Mir ns ∧ Stp ns ps ∧ RuleAt K C H r' ns' ps' ∧ Mir ns' ∧ Stp ns' ps' ∧ ∀ (H' : Hp) (b : Bool), Same H H' → (b = true ↔ Pl ns ps ns' ps' ∧ Pl ns' ps' ns ps) → Q (.bl b) H'
theorem ok_ag {f C fL : Addr} {fd dL : FuncData} (F : Fun K "as_good" "as_good" sAsGood f fd) (DL : DefAt K mg "leads" sLeads ["rule", "other"] fL dL) (GL : FnOk P w K mg base CX0 14 fL dL ["rule", "other"] (spLe K C)) : FnOk P w K mg base CX0 15 f fd ["one", "other"] (spAg K C) := by
  refine F.ok scAg (fun vs H Q E h => ?_) (fun cdv A outer s H vs Q E hr h => ?_)
  · obtain ⟨r, ns, ps, r', ns', ps', rfl, _⟩ := h
    rfl
  · obtain ⟨r, ns, ps, r', ns', ps', rfl, R, M, S, R', M', S', q⟩ := h
    refine ⟨_, pss_one (ps_ret (pe_and (pe_call GL hr (by rfl) DL.mg DL.fn.kp DL.bi .nil pass0 (pa_cons (pv 0) (pa_cons (pv 1) pa_nil))) (pe_one (pe_call GL hr (by rfl) DL.mg DL.fn.kp DL.bi .nil pass0 (pa_cons (pv 1) (pa_cons (pv 0) pa_nil)))))), ?_⟩
    refine ⟨.ref r, rfl, .ref r', rfl, r, ns, ps, r', ns', ps', rfl, R, M, S, R', M', S', fun H1 b1 s1 h1 => ⟨b1, rfl, ?_⟩⟩
    cases b1 with
    | true =>
      refine iteT ⟨.ref r', rfl, .ref r, rfl, r', ns', ps', r, ns, ps, rfl, R'.same s1, M', S', R.same s1, M, S, fun H2 b2 s2 h2 => ?_⟩
      exact q H2 b2 (s1.trans s2) ⟨fun z => ⟨h1.mp rfl, h2.mp z⟩, fun z => h2.mpr z.2⟩
    | false =>
      refine iteF ?_
      exact q H1 false s1 ⟨fun z => (by cases z), fun z => h1.mpr z.1⟩
end
end K44
set_option maxHeartbeats 4000000
namespace K44
open PySem PySem.Spec PyProof.Rows L2 RV
theorem pow180n : ((10 : Int) ^ (60 : Int).toNat * (10 : Int) ^ (60 : Int).toNat * (10 : Int) ^ (60 : Int).toNat).natAbs < 2 ^ 600 := by decide +kernel
theorem pow240 : (0 : Int) < (10 : Int) ^ (60 : Int).toNat * (10 : Int) ^ (60 : Int).toNat * (10 : Int) ^ (60 : Int).toNat * (10 : Int) ^ (60 : Int).toNat := by decide +kernel
section
variable {P : Program} {w : World} {K : PySem.W.Frag} {mg : Str → Option Value} {base : Heap}
/-! ### _law_hand -/
theorem scHand : FnScope ["_law_script", "_law_k", "_law_cell", "_law_own"] ["_law_script", "_law_k"] (defScope sHand) := ⟨rfl, rfl, rfl, by decide +kernel, rfl, by decide +kernel, by decide +kernel⟩
theorem ok_hand {f : Addr} {fd : FuncData} (F : Fun K "_law_hand" "_law_hand" sHand f fd) (B : Bare mg) : FnOk P w K mg base CX0 1 f fd ["_law_script", "_law_k"] (spHand K) := by
  refine F.ok scHand (fun vs H Q E h => ?_) (fun cdv A outer s H vs Q E hr h => ?_)
  · obtain ⟨a, ns, k, rfl, _⟩ := h
    rfl
  · obtain ⟨a, ns, k, rfl, hS, hk, q⟩ := h
    refine ⟨_, pss_cons (ps_set (i := 2) scHand.nd rfl (Or.inl rfl) (pe_ifExp (pt_cmpR op_lt (pv 1) (pe_callB call_len_seq (by rfl) B.len PySem.boot_len (pa_cons (pv 0) pa_nil)) (nomark _)) (pe_ix ix_list (pv 0) (pv 1) (fun _ _ => rfl)) pe_int))
      (pss_cons (ps_set (i := 3) scHand.nd rfl (Or.inl rfl) (pe_op op_mul (pe_op op_mod (pe_callB call_abs (by rfl) B.abs (by decide +kernel) (pa_cons (pv 2) pa_nil)) (pe_op op_mulW (pe_op op_mulW (pe_op op_mulW (pe_op op_pow pe_int pe_int) (pe_op op_pow pe_int pe_int)) (pe_op op_pow pe_int pe_int)) (pe_op op_pow pe_int pe_int))) (pe_callTy call_int1 (by rfl) B.int boot_int (pa_cons (pe_cmpR op_ge (pe_callB call_abs (by rfl) B.abs (by decide +kernel) (pa_cons (pv 2) pa_nil)) (pe_op op_pow pe_int pe_int) (nomark _)) pa_nil))))
      (pss_one (ps_ret (pe_lst (pa_cons (pv 3) (pa_cons (pe_op op_add (pe_op op_add (pe_op op_mod (pv 2) pe_int) (pe_op op_mul pe_int (pv 1))) pe_int) (pa_cons pe_int pa_nil))))))), ?_⟩
    have go : ∀ (cell : Int), ∃ great : Int, great = ((if cell < 0 then -cell else cell) % ((10 : Int) ^ (60 : Int).toNat * (10 : Int) ^ (60 : Int).toNat * (10 : Int) ^ (60 : Int).toNat * (10 : Int) ^ (60 : Int).toNat)) := fun cell => ⟨_, rfl⟩
    refine ⟨.int (k : Int), rfl, .ref a, rfl, a, _, rfl, .inl hS, (k : Int), _, rfl, rfl, _, rfl, ite2 (fun hlt => ?_) (fun _ => ?_)⟩
    · have hkl : k < ns.length := by
        have z := of_decide_eq_true hlt
        rw [List.length_map] at z; omega
      refine ⟨.ref a, rfl, .int (k : Int), rfl, a, _, (k : Int), .int ns[k], rfl, rfl, hS, atI_nat (by rw [List.getElem?_map, List.getElem?_eq_getElem hkl]; rfl), ?_⟩
      generalize ns[k] = cell
      have own0 := Int.emod_nonneg (if cell < 0 then -cell else cell) (Int.ne_of_gt pow240)
      refine ⟨_, rfl, cell, rfl, 10, 60, rfl, rfl, ⟨by decide, by decide, by decide⟩, 10, 60, rfl, rfl, ⟨by decide, by decide, by decide⟩, _, _, rfl, rfl, wide_mul pow60 pow60 (by decide) (by decide) (by decide), 10, 60, rfl, rfl, ⟨by decide, by decide, by decide⟩, _, _, rfl, rfl, wide_mul pow120 pow60 (by decide) (by decide) (by decide), 10, 60, rfl, rfl, ⟨by decide, by decide, by decide⟩, _, _, rfl, rfl, wide_mul pow180n pow60 (by decide) (by decide) (by decide), _, _, rfl, rfl, pow240, _, rfl, cell, rfl, 10, 18, rfl, rfl, ⟨by decide, by decide, by decide⟩, _, _, rfl, rfl, .inr ⟨_, rfl, _, _, rfl, rfl, .inr ?_, ?_⟩⟩
      · exact flag01 _
      · refine ⟨_, rfl, _, rfl, cell, 2305843009213693951, rfl, rfl, (show (0 : Int) < 2305843009213693951 by decide), .int (k : Int), rfl, 1299709, (k : Int), rfl, rfl, .inl ⟨by decide, by decide⟩, _, _, rfl, rfl, _, 71, rfl, rfl, (by show 3 ≤ sizeLine; decide), fun p np => ?_⟩
        exact q _ p (same_upd np) np ⟨_, _, upd_same, mul_flag own0 _, by have := Int.emod_nonneg (cell : Int) (show (2305843009213693951 : Int) ≠ 0 by decide); omega, by have := Int.emod_lt_of_pos (cell : Int) (show (0 : Int) < 2305843009213693951 by decide); omega⟩
    · have own0 := Int.emod_nonneg (if (0 : Int) < 0 then -0 else 0) (Int.ne_of_gt pow240)
      refine ⟨_, rfl, 0, rfl, 10, 60, rfl, rfl, ⟨by decide, by decide, by decide⟩, 10, 60, rfl, rfl, ⟨by decide, by decide, by decide⟩, _, _, rfl, rfl, wide_mul pow60 pow60 (by decide) (by decide) (by decide), 10, 60, rfl, rfl, ⟨by decide, by decide, by decide⟩, _, _, rfl, rfl, wide_mul pow120 pow60 (by decide) (by decide) (by decide), 10, 60, rfl, rfl, ⟨by decide, by decide, by decide⟩, _, _, rfl, rfl, wide_mul pow180n pow60 (by decide) (by decide) (by decide), _, _, rfl, rfl, pow240, _, rfl, 0, rfl, 10, 18, rfl, rfl, ⟨by decide, by decide, by decide⟩, _, _, rfl, rfl, .inr ⟨_, rfl, _, _, rfl, rfl, .inr ?_, ?_⟩⟩
      · exact flag01 _
      · refine ⟨_, rfl, _, rfl, 0, 2305843009213693951, rfl, rfl, (show (0 : Int) < 2305843009213693951 by decide), .int (k : Int), rfl, 1299709, (k : Int), rfl, rfl, .inl ⟨by decide, by decide⟩, _, _, rfl, rfl, _, 71, rfl, rfl, (by show 3 ≤ sizeLine; decide), fun p np => ?_⟩
        exact q _ p (same_upd np) np ⟨_, _, upd_same, mul_flag own0 _, by have := Int.emod_nonneg (0 : Int) (show (2305843009213693951 : Int) ≠ 0 by decide); omega, by have := Int.emod_lt_of_pos (0 : Int) (show (0 : Int) < 2305843009213693951 by decide); omega⟩
/-! ### _law_take -/
theorem scDraw : FnScope ["_law_hand_here", "_law_many", "_law_digit", "_law_prime", "_law_drawn"] ["_law_hand_here", "_law_many"] (defScope sDraw) := ⟨rfl, rfl, rfl, by decide +kernel, rfl, by decide +kernel, by decide +kernel⟩
theorem primes3 (t : Int) (h : 0 ≤ t) : ∃ v : Int, atI [V.int 2305843009213693951, V.int 2305843009213693921, V.int 2305843009213693907] (t % 3) = some (.int v) ∧ 0 < v ∧ v < 2305843009213693952 := by
  have h4 : t % 3 = 0 ∨ t % 3 = 1 ∨ t % 3 = 2 := by omega
  rcases h4 with e | e | e <;> rw [e] <;> exact ⟨_, rfl, by decide, by decide⟩
theorem ok_draw {f : Addr} {fd : FuncData} (F : Fun K "_law_take" "_law_take" sDraw f fd) : FnOk P w K mg base CX0 1 f fd ["_law_hand_here", "_law_many"] spDraw := by
  refine F.ok scDraw (fun vs H Q E h => ?_) (fun cdv A outer s H vs Q E hr h => ?_)
  · obtain ⟨p, t, m, rfl, _⟩ := h
    rfl
  · obtain ⟨p, t, m, rfl, ⟨x, y, hp, hx, hy0, hy1⟩, ht, hm1, hm2, q⟩ := h
    refine ⟨_, pss_cons (ps_if (pt_cmpR op_gt (pe_ix ix_list (pv 0) pe_int (fun _ _ => rfl)) pe_int (nomark _))
        (pss_cons (ps_set (i := 2) scDraw.nd rfl (Or.inl rfl) (pe_op op_mod (pe_ix ix_list (pv 0) pe_int (fun _ _ => rfl)) (pv 1)))
        (pss_cons (ps_asg (pe_op op_fdivW (pe_ix ix_list (pv 0) pe_int (fun _ _ => rfl)) (pv 1)) (pg_sub (pv 0) pe_int set_list))
        (pss_one (ps_ret (pv 2))))) pss_nil)
      (pss_cons (ps_asg (pe_op op_add (pe_ix ix_list (pv 0) pe_int (fun _ _ => rfl)) pe_int) (pg_sub (pv 0) pe_int set_list))
      (pss_cons (ps_set (i := 3) scDraw.nd rfl (Or.inl rfl) (pe_ix ix_list (pe_lst (pa_cons pe_int (pa_cons pe_int (pa_cons pe_int pa_nil)))) (pe_op op_mod (pe_ix ix_list (pv 0) pe_int (fun _ _ => rfl)) pe_int) (fun _ _ => rfl)))
      (pss_cons (ps_set (i := 4) scDraw.nd rfl (Or.inl rfl) (pe_op op_mod (pe_op op_pow (pe_op op_add (pe_ix ix_list (pv 0) pe_int (fun _ _ => rfl)) (pe_op op_mul pe_int (pe_ix ix_list (pv 0) pe_int (fun _ _ => rfl)))) pe_int) (pv 3)))
      (pss_cons (ps_set (i := 4) scDraw.nd rfl (Or.inl rfl) (pe_op op_mod (pe_op op_mul (pv 4) (pe_op op_add (pe_op op_mod (pv 4) pe_int) (pe_op op_mul pe_int (pe_ix ix_list (pv 0) pe_int (fun _ _ => rfl))))) (pv 3)))
      (pss_one (ps_ret (pe_op op_mod (pe_op op_add (pe_op op_fdiv (pv 4) pe_int) (pe_op op_mul (pe_op op_fdiv (pv 4) pe_int) pe_int)) (pv 1)))))))), ?_⟩
    refine ⟨.ref p, rfl, p, _, 0, .int x, rfl, rfl, lstNew hp, rfl, x, 0, rfl, rfl, _, rfl, ite2 (fun hx0 => ?_) (fun _ => ?_)⟩
    · refine ⟨.ref p, rfl, p, _, 0, .int x, rfl, rfl, lstNew hp, rfl, .int m, rfl, x, m, rfl, rfl, (show 0 < m by omega), ?_⟩
      refine ⟨.ref p, rfl, p, _, 0, .int x, rfl, rfl, lstNew hp, rfl, .int m, rfl, x, m, rfl, rfl, wide_div (b := 100) (by omega) (by omega) (by decide) (by decide), .ref p, rfl, p, _, 0, 0, rfl, rfl, hp, rfl, ?_⟩
      refine ⟨_, rfl, ?_⟩
      exact q (x % m) t _ (Int.emod_nonneg _ (by omega)) (Int.emod_lt_of_pos _ (by omega)) (by omega) ⟨x / m, y, upd_same, Int.ediv_nonneg hx (by omega), hy0, hy1⟩ fun c o e z => by rw [upd_ne z]; exact e
    · refine ⟨.ref p, rfl, p, _, 2, .int (t : Int), rfl, rfl, lstNew hp, rfl, (t : Int), 1, rfl, rfl, .ref p, rfl, p, _, 2, 2, rfl, rfl, hp, rfl, ?_⟩
      have hp1 : (upd H p (.lst [.int x, .int y, .int ((t : Int) + 1)])) p = some (.lst [.int x, .int y, .int ((t : Int) + 1)]) := upd_same
      have b1 : But p H (upd H p (.lst [.int x, .int y, .int ((t : Int) + 1)])) := fun c o e z => by rw [upd_ne z]; exact e
      obtain ⟨v, hv, v0, v1⟩ := primes3 ((t : Int) + 1) (by omega)
      refine ⟨(by show 3 ≤ sizeLine; decide), fun l nl => ?_⟩
      have s2 := same_upd (H := upd H p (.lst [.int x, .int y, .int ((t : Int) + 1)])) (o := .lst [.int 2305843009213693951, .int 2305843009213693921, .int 2305843009213693907]) nl
      have hp2 := s2 _ _ hp1
      refine ⟨.ref p, rfl, p, _, 2, .int ((t : Int) + 1), rfl, rfl, lstNew hp2, rfl, (t : Int) + 1, 3, rfl, rfl, (show (0 : Int) < 3 by decide), l, _, _, .int v, rfl, rfl, lstNew upd_same, hv, ?_⟩
      have tt : 0 ≤ ((t : Int) + 1) ∧ ((t : Int) + 1) ≤ 4001 := by omega
      refine ⟨.ref p, rfl, p, _, 1, .int y, rfl, rfl, lstNew hp2, rfl, .ref p, rfl, p, _, 2, .int ((t : Int) + 1), rfl, rfl, lstNew hp2, rfl, 6700417, _, rfl, rfl, .inl ⟨by decide, by decide⟩, y, _, rfl, rfl, _, 5, rfl, rfl, ⟨by decide, by decide, ?_⟩, .int v, rfl, _, v, rfl, rfl, v0, ?_⟩
      · show (y + 6700417 * ((t : Int) + 1)).natAbs < 2 ^ 64
        omega
      show gName 4 (V.int ((y + 6700417 * ((t : Int) + 1)) ^ (5 : Int).toNat % v)) _ _ _
      have z0 := Int.emod_nonneg ((y + 6700417 * ((t : Int) + 1)) ^ (5 : Int).toNat) (show v ≠ 0 by omega)
      have z1 := Int.emod_lt_of_pos ((y + 6700417 * ((t : Int) + 1)) ^ (5 : Int).toNat) v0
      generalize (y + 6700417 * ((t : Int) + 1)) ^ (5 : Int).toNat % v = dr at z0 z1 ⊢
      refine ⟨.int dr, rfl, .int dr, rfl, dr, 1000003, rfl, rfl, (show (0 : Int) < 1000003 by decide), .ref p, rfl, p, _, 2, .int ((t : Int) + 1), rfl, rfl, lstNew hp2, rfl, 13, _, rfl, rfl, .inl ⟨by decide, by decide⟩, _, _, rfl, rfl, dr, _, rfl, rfl, .inl ⟨by omega, by omega⟩, .int v, rfl, _, v, rfl, rfl, v0, ?_⟩
      refine ⟨_, rfl, _, 4099, rfl, rfl, ⟨by decide, by decide⟩, _, rfl, _, 1000033, rfl, rfl, ⟨by decide, by decide⟩, _, 5, rfl, rfl, .inr ⟨by decide, by decide⟩, _, _, rfl, rfl, .int m, rfl, _, m, rfl, rfl, (show 0 < m by omega), ?_⟩
      exact q _ (t + 1) _ (Int.emod_nonneg _ (by omega)) (Int.emod_lt_of_pos _ (by omega)) (Nat.le_refl _) ⟨x, y, hp2, hx, hy0, hy1⟩ (b1.trans (But.of s2))
/-! ### _law_of -/
theorem scOf : FnScope ["_law_hand_here", "_law_some"] ["_law_hand_here", "_law_some"] (defScope sOf) := ⟨rfl, rfl, rfl, by decide +kernel, rfl, by decide +kernel, by decide +kernel⟩
theorem ok_of {f fD : Addr} {fd fdD : FuncData} (F : Fun K "_law_of" "_law_of" sOf f fd) (DD : DefAt K mg "_law_take" sDraw ["_law_hand_here", "_law_many"] fD fdD) (B : Bare mg) : FnOk P w K mg base CX0 2 f fd ["_law_hand_here", "_law_some"] (spOf K) := by
  have GD : FnOk P w K mg base CX0 1 fD fdD ["_law_hand_here", "_law_many"] spDraw := ok_draw DD.fn
  refine F.ok scOf (fun vs H Q E h => ?_) (fun cdv A outer s H vs Q E hr h => ?_)
  · obtain ⟨p, a, t, xs, rfl, _⟩ := h
    rfl
  · obtain ⟨p, a, t, xs, rfl, hp, ht, hS, hne, h0, h1, q⟩ := h
    refine ⟨_, pss_one (ps_ret (pe_ix ix_list (pv 1) (pe_call GD hr (by rfl) DD.mg DD.fn.kp DD.bi .nil pass0 (pa_cons (pv 0) (pa_cons (pe_callB call_len_seq (by rfl) B.len PySem.boot_len (pa_cons (pv 1) pa_nil)) pa_nil))) (fun _ _ => rfl))), ?_⟩
    refine ⟨.ref a, rfl, .ref p, rfl, .ref a, rfl, a, xs, rfl, .inl hS, p, t, (xs.length : Int), rfl, hp, ht, by omega, by omega, fun r t1 H1 r0 r1 ht1 hp1 b1 => ?_⟩
    obtain ⟨v, hv⟩ : ∃ v, xs[r.toNat]? = some v := ⟨_, List.getElem?_eq_getElem (by omega)⟩
    refine ⟨a, xs, r, v, rfl, rfl, sqL_but b1 hne hS, ?_, q r.toNat v t1 H1 hv ht1 hp1 b1⟩
    rw [show r = ((r.toNat : Nat) : Int) by omega]
    exact atI_nat hv
end
end K44
set_option maxHeartbeats 4000000
namespace K44
open PySem PySem.Spec PyProof.Rows L2 RV
section
variable {P : Program} {w : World} {K : PySem.W.Frag} {mg : Str → Option Value} {base : Heap}
/-! ### _law_closed -/
theorem scClosed : FnScope ["_law_mirrors_here", "_law_pairs", "_law_found", "_law_one_r", "_law_other_r"] ["_law_mirrors_here", "_law_pairs"] (defScope sClosed) := ⟨rfl, rfl, rfl, by decide +kernel, rfl, by decide +kernel, by decide +kernel⟩
def spClo (K : PySem.W.Frag) : Sp := fun vs H Q _ => ∃ (u l : Addr) (ns : List Int) (qs : List (List Int)), vs = [.ref u, .ref l] ∧ SqL K H u (ns.map V.int) ∧ LotsH H l qs ∧ Mir ns ∧ (∀ q ∈ qs, Pr (ns.length : Int) q) ∧ qs.length ≤ 1000 ∧
  ∀ (H' : Hp) (R : Addr) (ps : List (List Int)), Same H H' → OwnH K H' R ns ps → Q (.ref R) H'
theorem ok_closed {f : Addr} {fd : FuncData} (F : Fun K "_law_closed" "_law_closed" sClosed f fd) (B : Bare mg) : FnOk P w K mg base CX0 1 f fd ["_law_mirrors_here", "_law_pairs"] (spClo K) := by
  refine F.ok scClosed (fun vs H Q E h => ?_) (fun cdv A outer s H vs Q E hr h => ?_)
  · obtain ⟨u, l, ns, qs, rfl, _⟩ := h
    rfl
  · obtain ⟨u, l, ns, qs, rfl, hU, hL, M, hpr, hlen, q⟩ := h
    have hu := hu_of hr
    have two : (2 : Nat) ≤ sizeLine := by decide
    refine ⟨_, pss_cons (ps_set (i := 2) scClosed.nd rfl (Or.inl rfl) pe_dnewT)
      (pss_cons (ps_for PassesOwn.never rfl (pi_list (pv 1)) (pg_tup rfl (pgs_cons (pg_name (i := 3) scClosed.nd rfl (Or.inl rfl)) (pgs_cons (pg_name (i := 4) scClosed.nd rfl (Or.inl rfl)) pgs_nil)))
        (pss_cons (ps_dput hu (pv 2) (pe_tup (pa_cons (pv 3) (pa_cons (pv 4) pa_nil))) pe_bl rfl)
        (pss_one (ps_dput hu (pv 2) (pe_tup (pa_cons (pe_ix ix_list (pv 0) (pv 4) (fun _ _ => rfl)) (pa_cons (pe_ix ix_list (pv 0) (pv 3) (fun _ _ => rfl)) pa_nil))) pe_bl rfl))))
      (pss_one (ps_ret (pe_tup (pa_cons (pe_tupleOf (by rfl) B.tuple (pv 0)) (pa_cons (pe_tupleOf (by rfl) B.tuple (pe_callB (cr_sortedDT rfl) (by rfl) B.sorted (by decide +kernel) (pa_cons (pv 2) pa_nil))) pa_nil)))))), ?_⟩
    intro d nd
    have sd := same_upd (o := .dT []) nd
    obtain ⟨ks, ek, hl, hks⟩ := hL
    have h8 := M.few
    have lks : ks.length = qs.length := by rw [← ek, List.length_map]
    refine ⟨.ref l, rfl, l, rfl, ⟨_, lstNew (sd _ _ hl)⟩, ?_⟩
    refine for_list (K := K) (a := l) (xs := ks.map fun p => V.ref p.1) (fun i σ H' => ∃ (kvs : List (List L2.Key × V)) (ps : List (List Int)) (y3 y4 : Option V), σ = [some (.ref u), some (.ref l), some (.ref d), y3, y4] ∧ Same H H' ∧ H' d = some (.dT kvs) ∧ kvs.map (·.1) = ps.map keyP ∧ Part ns ps)
      ⟨[], [], none, none, rfl, sd, upd_same, rfl, Part.nil ns⟩ (fun i σ H' _ h => ?_) (fun i x σ H' hx h => ?_) (fun σ H' h => ?_)
    · obtain ⟨_, _, _, _, _, s', _⟩ := h
      exact lstNew (s' _ _ hl)
    · obtain ⟨kvs, ps, y3, y4, rfl, s', ed, ek', P'⟩ := h
      obtain ⟨k, g, rfl⟩ := map_at hx
      have hk : k ∈ ks := List.mem_of_getElem? g
      obtain ⟨x, y, e, bx, by_⟩ := hpr k.2 (by rw [← ek]; exact List.mem_map_of_mem hk)
      have hkT : SqT K H' k.1 ([x, y].map V.int) := by rw [← e]; exact tupNew (s' _ _ (hks k hk))
      have hl64 := P'.len M
      have hkl : kvs.length ≤ 64 := by
        have z := congrArg List.length ek'
        rw [List.length_map, List.length_map] at z; omega
      refine ⟨k.1, _, rfl, hkT, rfl, _, _, rfl, _, _, rfl, rfl, ?_⟩
      refine ⟨.ref d, rfl, .int x, rfl, .int y, rfl, two, fun T2 nT2 => ?_⟩
      have sT2 := same_upd (o := .tup [.int x, .int y]) nT2
      have eT2 : (upd H' T2 (.tup [.int x, .int y])) T2 = some (.tup ((keyP [x, y]).map kV)) := upd_same
      refine ⟨d, _, rfl, DPut.t (sT2 _ _ ed) eT2 (few1 (by omega)), ?_⟩
      have ed2 : (upd (upd H' T2 (.tup [.int x, .int y])) d (.dT (putK kvs (keyP [x, y]) (.bl true)))) d = some (.dT (putK kvs (keyP [x, y]) (.bl true))) := upd_same
      have s2 : Same H (upd (upd H' T2 (.tup [.int x, .int y])) d (.dT (putK kvs (keyP [x, y]) (.bl true)))) := fun b o e => by rw [upd_ne (ne_of_none e nd)]; exact sT2 _ _ (s' b o e)
      have ek2 := put_keys (p := [x, y]) (v := .bl true) ek'
      have l2 : (putK kvs (keyP [x, y]) (.bl true)).length ≤ 65 := by
        have z := congrArg List.length ek2
        rw [List.length_map, List.length_map] at z
        have z2 : (addP ps [x, y]).length ≤ ps.length + 1 := by unfold addP; split <;> simp
        omega
      generalize upd (upd H' T2 (.tup [.int x, .int y])) d (.dT (putK kvs (keyP [x, y]) (.bl true))) = H2 at ed2 s2 ⊢
      generalize putK kvs (keyP [x, y]) (.bl true) = kvs2 at ed2 ek2 l2
      obtain ⟨mx, gx⟩ : ∃ m, ns[x.toNat]? = some m := ⟨_, List.getElem?_eq_getElem (by omega)⟩
      obtain ⟨my, gy⟩ : ∃ m, ns[y.toNat]? = some m := ⟨_, List.getElem?_eq_getElem (by omega)⟩
      have ax : atI (ns.map V.int) x = some (.int mx) := by
        have z : atI (ns.map V.int) ((x.toNat : Nat) : Int) = some (.int mx) := atI_nat (by rw [List.getElem?_map, gx]; rfl)
        rwa [Int.toNat_of_nonneg bx.1] at z
      have ay : atI (ns.map V.int) y = some (.int my) := by
        have z : atI (ns.map V.int) ((y.toNat : Nat) : Int) = some (.int my) := atI_nat (by rw [List.getElem?_map, gy]; rfl)
        rwa [Int.toNat_of_nonneg by_.1] at z
      refine ⟨.ref d, rfl, .ref u, rfl, .int y, rfl, u, _, _, _, rfl, rfl, s2.seq hU, ay, .ref u, rfl, .int x, rfl, u, _, _, _, rfl, rfl, s2.seq hU, ax, two, fun T3 nT3 => ?_⟩
      have sT3 := same_upd (o := .tup [.int my, .int mx]) nT3
      have eT3 : (upd H2 T3 (.tup [.int my, .int mx])) T3 = some (.tup ((keyP [my, mx]).map kV)) := upd_same
      refine ⟨d, _, rfl, DPut.t (sT3 _ _ ed2) eT3 (few1 (by omega)), ?_⟩
      refine ⟨_, addP (addP ps [x, y]) [my, mx], _, _, rfl, fun b o e => ?_, upd_same, put_keys ek2, Part.add M P' bx by_ gx gy⟩
      rw [upd_ne (ne_of_none e nd)]; exact sT3 _ _ (s2 b o e)
    · obtain ⟨kvs, ps, y3, y4, rfl, s', ed, ek', P'⟩ := h
      have hl64 := P'.len M
      have hkl : kvs.length ≤ 64 := by
        have z := congrArg List.length ek'
        rw [List.length_map, List.length_map] at z; omega
      refine ⟨.ref u, rfl, .inl ⟨u, _, rfl, s'.seq hU, fun e1 ne1 => ?_⟩⟩
      have s4 := same_upd (o := .tup (ns.map V.int)) ne1
      have ed4 := s4 _ _ ed
      have eu : (upd H' e1 (.tup (ns.map V.int))) e1 = some (.tup (ns.map V.int)) := upd_same
      generalize upd H' e1 (.tup (ns.map V.int)) = H4 at s4 ed4 eu ⊢
      refine ⟨.ref d, rfl, d, kvs, ps, rfl, .inl ed4, ek', fun z hz => ?_, by omega, fun L c nc pm pw tu => .inl ⟨c, _, rfl, lstNew upd_same, fun e ne => ⟨two, fun R nR => ?_⟩⟩⟩
      · obtain ⟨x, y, e, _⟩ := P'.pr z hz
        exact ⟨x, y, e⟩
      · have s3 := (same_upd (o := .lst (L.map fun a => V.ref a.1)) nc).trans (same_upd (o := .tup (L.map fun a => V.ref a.1)) ne)
        have sR := same_upd (o := .tup [.ref e1, .ref e]) nR
        refine q _ R (L.map (·.2)) (((s'.trans s4).trans s3).trans sR) ⟨e1, e, upd_same, tupNew ((s3.trans sR) _ _ eu), ?_, M, P'.stp M pm pw⟩
        exact TupsH.same ⟨L, rfl, upd_same, fun k hk => s3 _ _ (tu k hk)⟩ sR
end
end K44
set_option maxHeartbeats 4000000
namespace K44
open PySem PySem.Spec PyProof.Rows L2 RV
theorem mir1 : Mir [0] := ⟨by decide, by decide, fun i hi => by simp at hi; subst hi; decide, fun k m h => by
  match k, h with
  | 0, h => cases h; rfl
  | k + 1, h => simp at h⟩
theorem mir2 : Mir [0, 1] := ⟨by decide, by decide, fun i hi => by simp at hi; rcases hi with rfl | rfl <;> decide, fun k m h => by
  match k, h with
  | 0, h => cases h; rfl
  | 1, h => cases h; rfl
  | k + 2, h => simp at h⟩
theorem mir2s : Mir [1, 0] := ⟨by decide, by decide, fun i hi => by simp at hi; rcases hi with rfl | rfl <;> decide, fun k m h => by
  match k, h with
  | 0, h => cases h; rfl
  | 1, h => cases h; rfl
  | k + 2, h => simp at h⟩
section
variable {P : Program} {w : World} {K : PySem.W.Frag} {mg : Str → Option Value} {base : Heap}
/-! ### _law_mirrors -/
abbrev nDM : List Str := ["_law_hand_here", "_law_many", "_law_found", "_law_way", "_law_k"]
theorem scDM : FnScope nDM ["_law_hand_here", "_law_many"] (defScope sDMirrors) := ⟨rfl, rfl, rfl, by decide +kernel, rfl, by decide +kernel, by decide +kernel⟩
def spDM (K : PySem.W.Frag) : Sp := fun vs H Q _ => ∃ (p : Addr) (t m : Nat), vs = [.ref p, .int (m : Int)] ∧ PailAt H p t ∧ t ≤ 3000 ∧ (m = 1 ∨ m = 2) ∧
  ∀ (H' : Hp) (u : Addr) (t' : Nat) (ns : List Int), PailAt H' p t' → t' ≤ t + 2 → But p H H' → H' u = some (.lst (ns.map V.int)) → H u = none → Mir ns → ns.length = m → Q (.ref u) H'
theorem ok_dm {f fD : Addr} {fd fdD : FuncData} (F : Fun K "_law_mirrors" "_law_mirrors" sDMirrors f fd) (DD : DefAt K mg "_law_take" sDraw ["_law_hand_here", "_law_many"] fD fdD) (B : Bare mg) : FnOk P w K mg base CX0 2 f fd ["_law_hand_here", "_law_many"] (spDM K) := by
  have GD : FnOk P w K mg base CX0 1 fD fdD ["_law_hand_here", "_law_many"] spDraw := ok_draw DD.fn
  refine F.ok scDM (fun vs H Q E h => ?_) (fun cdv A outer s H vs Q E hr h => ?_)
  · obtain ⟨p, t, m, rfl, _⟩ := h
    rfl
  · obtain ⟨p, t, m, rfl, hp, ht, hm, q⟩ := h
    have two : (2 : Nat) ≤ sizeLine := by decide
    refine ⟨_, pss_cons (ps_par (i := 2) (j := 3) (by rfl) scDM.nd rfl rfl (by decide) rfl rfl (pa_cons (pe_listRg rfl (by rfl) B.list (prg_1 (by rfl) B.range (pv 1))) (pa_cons (pe_call GD hr (by rfl) DD.mg DD.fn.kp DD.bi .nil pass0 (pa_cons (pv 0) (pa_cons pe_int pa_nil))) pa_nil)) (by rfl))
      (pss_cons (ps_for PassesOwn.never rfl (pi_range3 (by rfl) B.range (pa_cons pe_int (pa_cons (pe_op op_sub (pv 1) pe_int) (pa_cons pe_int pa_nil)))) (pg_name (i := 4) scDM.nd rfl (Or.inl rfl))
        (pss_one (ps_if (PW.pt (pw_or (PW.pt (pw_and (pt_cmpR op_eq (pv 3) pe_int (nomark _)) (pw_and1 (pt_cmpR op_eq (pe_call GD hr (by rfl) DD.mg DD.fn.kp DD.bi .nil pass0 (pa_cons (pv 0) (pa_cons pe_int pa_nil))) pe_int (nomark _))))) (pw_or1 (pt_cmpR op_eq (pv 3) pe_int (nomark _)))))
          (pss_one (ps_asg (pe_tup (pa_cons (pe_op op_add (pv 4) pe_int) (pa_cons (pv 4) pa_nil))) (pg_tup rfl (pgs_cons (pg_sub (pv 2) (pv 4) set_list) (pgs_cons (pg_sub (pv 2) (pe_op op_add (pv 4) pe_int) set_list) pgs_nil))))) pss_nil)))
      (pss_one (ps_ret (pv 2)))), ?_⟩
    refine ⟨.int (m : Int), rfl, (m : Int), rfl, RgOk.of_le (by omega) (by omega) (by omega) (by omega), fun b nb => ?_⟩
    have sb := same_upd (o := .lst (rgV 0 (m : Int))) nb
    have hbp : b ≠ p := pail_ne hp nb
    have eb0 : (upd H b (.lst (rgV 0 (m : Int)))) b = some (.lst (rgV 0 (m : Int))) := upd_same
    have hp0 := pail_same hp sb
    generalize upd H b (.lst (rgV 0 (m : Int))) = H0 at sb eb0 hp0 ⊢
    refine ⟨.ref p, rfl, p, t, 3, rfl, hp0, by omega, by decide, by decide, fun wy t1 H1 w0 w1 ht1 hp1 b1 => ⟨_, _, rfl, ?_⟩⟩
    dsimp only
    have eb1 := b1 _ _ eb0 hbp
    have b01 : But p H H1 := (But.of sb).trans b1
    rcases hm with rfl | rfl
    · refine ⟨.int ((1 : Nat) : Int), rfl, _, _, rfl, rfl, 0, ((1 : Nat) : Int) - 1, 2, 0, rfl, ⟨by decide, by decide, by decide +kernel, by decide +kernel⟩, ?_⟩
      refine for_rangeC (lo := 0) (c := 2) (n := 0) (fun i σ H' => ∃ (y4 : Option V), σ = [some (.ref p), some (.int ((1 : Nat) : Int)), some (.ref b), some (.int wy), y4] ∧ H' = H1) ⟨_, rfl, rfl⟩ (fun i σ H' hi _ => absurd hi (Nat.not_lt_zero _)) (fun σ H' h => ?_)
      obtain ⟨y4, rfl, rfl⟩ := h
      exact ⟨.ref b, rfl, q _ b t1 [0] hp1 (by omega) b01 eb1 nb mir1 rfl⟩
    · refine ⟨.int ((2 : Nat) : Int), rfl, _, _, rfl, rfl, 0, ((2 : Nat) : Int) - 1, 2, 1, rfl, ⟨by decide, by decide, by decide +kernel, by decide +kernel⟩, ?_⟩
      refine for_rangeC (lo := 0) (c := 2) (n := 1) (fun i σ H' => ∃ (y4 : Option V) (t' : Nat) (ns : List Int), σ = [some (.ref p), some (.int ((2 : Nat) : Int)), some (.ref b), some (.int wy), y4] ∧ PailAt H' p t' ∧ t' ≤ t1 + i ∧ But p H H' ∧ H' b = some (.lst (ns.map V.int)) ∧ (ns = [0, 1] ∨ ns = [1, 0])  ∧ (i = 0 → ns = [0, 1])) ⟨_, t1, [0, 1], rfl, hp1, by omega, b01, eb1, .inl rfl, fun _ => rfl⟩ (fun i σ H2 hi h => ?_) (fun σ H2 h => ?_)
      · obtain ⟨y4, t2, ns, rfl, hp2, ht2, b2, eb2, hns, hn0⟩ := h
        have i0 : i = 0 := by omega
        subst i0
        obtain rfl := hn0 rfl
        rw [show (0 + ((0 : Nat) : Int) * 2) = (0 : Int) from rfl]
        have swap : ∀ (H3 : Hp) (t3 : Nat), PailAt H3 p t3 → t3 ≤ t1 + 1 → But p H H3 → H3 b = some (.lst [.int 0, .int 1]) → ∀ T, H3 T = none → ∃ (y4 : Option V) (t' : Nat) (ns : List Int), [some (V.ref p), some (V.int ((2 : Nat) : Int)), some (V.ref b), some (V.int wy), some (V.int 0)] = [some (.ref p), some (.int ((2 : Nat) : Int)), some (.ref b), some (.int wy), y4] ∧ PailAt (upd (upd (upd H3 T (.tup [.int (0 + 1), .int 0])) b (.lst [.int 1, .int 1])) b (.lst [.int 1, .int 0])) p t' ∧ t' ≤ t1 + 1 ∧ But p H (upd (upd (upd H3 T (.tup [.int (0 + 1), .int 0])) b (.lst [.int 1, .int 1])) b (.lst [.int 1, .int 0])) ∧ (upd (upd (upd H3 T (.tup [.int (0 + 1), .int 0])) b (.lst [.int 1, .int 1])) b (.lst [.int 1, .int 0])) b = some (.lst (ns.map V.int)) ∧ (ns = [0, 1] ∨ ns = [1, 0]) ∧ (1 = 0 → ns = [0, 1]) := fun H3 t3 h3 l3 b3 e3 T nT => by
          have sT := same_upd (o := .tup [.int (0 + 1), .int 0]) nT
          refine ⟨_, t3, [1, 0], rfl, pail_set (pail_set (pail_same h3 sT) hbp) hbp, l3, fun k o e z => ?_, upd_same, .inr rfl, fun z => (by cases z)⟩
          rw [upd_ne (ne_of_none e nb), upd_ne (ne_of_none e nb)]; exact sT _ _ (b3 k o e z)
        have body : ∀ (H3 : Hp) (t3 : Nat), PailAt H3 p t3 → t3 ≤ t1 + 1 → But p H H3 → H3 b = some (.lst [.int 0, .int 1]) → _ := fun H3 t3 h3 l3 b3 e3 => swap H3 t3 h3 l3 b3 e3
        refine ⟨.int wy, rfl, rfl, _, rfl, ite2 (fun _ => ?_) (fun _ => ?_)⟩
        · refine ⟨.ref p, rfl, p, t2, 2, rfl, hp2, by omega, by decide, by decide, fun r t3 H3 r0 r1 ht3 hp3 b3 => ⟨rfl, _, rfl, ite2 (fun _ => iteT ?_) (fun _ => ?_)⟩⟩
          · have z := body H3 t3 hp3 (by omega) (b2.trans b3) (b3 _ _ eb2 hbp)
            refine ⟨.int 0, rfl, 0, 1, rfl, rfl, .int 0, rfl, two, fun T nT => ?_⟩
            have eb4 := (same_upd (o := .tup [.int (0 + 1), .int 0]) nT) _ _ (b3 _ _ eb2 hbp)
            refine ⟨T, _, rfl, tupNew upd_same, rfl, _, _, rfl, .ref b, rfl, .int 0, rfl, b, _, 0, 0, rfl, rfl, eb4, rfl, ?_⟩
            refine ⟨_, _, rfl, .ref b, rfl, .int 0, rfl, 0, 1, rfl, rfl, b, _, 1, 1, rfl, rfl, upd_same, rfl, rfl, ?_⟩
            exact z T nT
          · refine ⟨.int wy, rfl, rfl, _, rfl, ite2 (fun _ => ?_) (fun _ => ?_)⟩
            · have z := body H3 t3 hp3 (by omega) (b2.trans b3) (b3 _ _ eb2 hbp)
              refine ⟨.int 0, rfl, 0, 1, rfl, rfl, .int 0, rfl, two, fun T nT => ?_⟩
              have eb4 := (same_upd (o := .tup [.int (0 + 1), .int 0]) nT) _ _ (b3 _ _ eb2 hbp)
              refine ⟨T, _, rfl, tupNew upd_same, rfl, _, _, rfl, .ref b, rfl, .int 0, rfl, b, _, 0, 0, rfl, rfl, eb4, rfl, ?_⟩
              refine ⟨_, _, rfl, .ref b, rfl, .int 0, rfl, 0, 1, rfl, rfl, b, _, 1, 1, rfl, rfl, upd_same, rfl, rfl, ?_⟩
              exact z T nT
            · exact ⟨_, t3, [0, 1], rfl, hp3, by omega, b2.trans b3, b3 _ _ eb2 hbp, .inl rfl, fun _ => rfl⟩
        · refine iteF ?_
          refine ⟨.int wy, rfl, rfl, _, rfl, ite2 (fun _ => ?_) (fun _ => ?_)⟩
          · have z := body H2 t2 hp2 (by omega) b2 eb2
            refine ⟨.int 0, rfl, 0, 1, rfl, rfl, .int 0, rfl, two, fun T nT => ?_⟩
            have eb4 := (same_upd (o := .tup [.int (0 + 1), .int 0]) nT) _ _ eb2
            refine ⟨T, _, rfl, tupNew upd_same, rfl, _, _, rfl, .ref b, rfl, .int 0, rfl, b, _, 0, 0, rfl, rfl, eb4, rfl, ?_⟩
            refine ⟨_, _, rfl, .ref b, rfl, .int 0, rfl, 0, 1, rfl, rfl, b, _, 1, 1, rfl, rfl, upd_same, rfl, rfl, ?_⟩
            exact z T nT
          · exact ⟨_, t2, [0, 1], rfl, hp2, by omega, b2, eb2, .inl rfl, fun _ => rfl⟩
      · obtain ⟨y4, t2, ns, rfl, hp2, ht2, b2, eb2, hns, _⟩ := h
        rcases hns with rfl | rfl
        · exact ⟨.ref b, rfl, q _ b t2 [0, 1] hp2 (by omega) b2 eb2 nb mir2 rfl⟩
        · exact ⟨.ref b, rfl, q _ b t2 [1, 0] hp2 (by omega) b2 eb2 nb mir2s rfl⟩
end
end K44
set_option maxHeartbeats 4000000
namespace K44
open PySem PySem.Spec PyProof.Rows L2 RV
section
variable {P : Program} {w : World} {K : PySem.W.Frag} {mg : Str → Option Value} {base : Heap}
/-! ### _law_rule -/
abbrev nRu : List Str := ["_law_hand_here", "_law_least", "_law_most", "_law_many", "_law_mirrors_here", "_law_share", "_law_pairs", "_law_one_r", "_law_other_r", "_law_k"]
theorem scRu : FnScope nRu ["_law_hand_here", "_law_least", "_law_most"] (defScope sRule) := ⟨rfl, rfl, rfl, by decide +kernel, rfl, by decide +kernel, by decide +kernel⟩
def spRu (K : PySem.W.Frag) : Sp := fun vs H Q _ => ∃ (p : Addr) (t : Nat), vs = [.ref p, .int 1, .int 2] ∧ PailAt H p t ∧ t ≤ 2500 ∧
  ∀ (H' : Hp) (R : Addr) (t' : Nat) (ns : List Int) (ps : List (List Int)), PailAt H' p t' → t' ≤ t + 20 → But p H H' → OwnH K H' R ns ps → Q (.ref R) H'
theorem ok_ru {f fM fC fD : Addr} {fd dM dC fdD : FuncData} (F : Fun K "_law_rule" "_law_rule" sRule f fd) (DM : DefAt K mg "_law_mirrors" sDMirrors ["_law_hand_here", "_law_many"] fM dM) (DC : DefAt K mg "_law_closed" sClosed ["_law_mirrors_here", "_law_pairs"] fC dC) (DD : DefAt K mg "_law_take" sDraw ["_law_hand_here", "_law_many"] fD fdD) (B : Bare mg) : FnOk P w K mg base CX0 3 f fd ["_law_hand_here", "_law_least", "_law_most"] (spRu K) := by
  have GD : FnOk P w K mg base CX0 1 fD fdD ["_law_hand_here", "_law_many"] spDraw := ok_draw DD.fn
  have GM : FnOk P w K mg base CX0 2 fM dM ["_law_hand_here", "_law_many"] (spDM K) := ok_dm DM.fn DD B
  have GC : FnOk P w K mg base CX0 1 fC dC ["_law_mirrors_here", "_law_pairs"] (spClo K) := ok_closed DC.fn B
  refine F.ok scRu (fun vs H Q E h => ?_) (fun cdv A outer s H vs Q E hr h => ?_)
  · obtain ⟨p, t, rfl, _⟩ := h
    rfl
  · obtain ⟨p, t, rfl, hp, ht, q⟩ := h
    have r1 := hr.mono (show 1 ≤ 2 by decide)
    have two : (2 : Nat) ≤ sizeLine := by decide
    have three : (3 : Nat) ≤ sizeLine := by decide
    refine ⟨_, pss_cons (ps_set (i := 3) scRu.nd rfl (Or.inr rfl) (pe_op op_add (pv 1) (pe_call GD r1 (by rfl) DD.mg DD.fn.kp DD.bi .nil pass0 (pa_cons (pv 0) (pa_cons (pe_op op_add (pe_op op_sub (pv 2) (pv 1)) pe_int) pa_nil)))))
      (pss_cons (ps_par3 (i := 4) (j := 5) (l := 6) (by rfl) scRu.nd rfl rfl rfl (by decide) (by decide) (by decide) rfl rfl rfl (pa_cons (pe_call GM hr (by rfl) DM.mg DM.fn.kp DM.bi .nil pass0 (pa_cons (pv 0) (pa_cons (pv 3) pa_nil))) (pa_cons (pe_op op_add pe_int (pe_call GD r1 (by rfl) DD.mg DD.fn.kp DD.bi .nil pass0 (pa_cons (pv 0) (pa_cons pe_int pa_nil)))) (pa_cons (pe_lst pa_nil) pa_nil))) (by rfl))
      (pss_cons (ps_if (pt_cmpR op_eq (pe_call GD r1 (by rfl) DD.mg DD.fn.kp DD.bi .nil pass0 (pa_cons (pv 0) (pa_cons pe_int pa_nil))) pe_int (nomark _))
        (pss_one (ps_setLc (i := 6) (own := [("_law_k", 9)]) (g := gName 9) (tt := tYes) rfl scRu.nd rfl rfl (by rfl) (pi_range1 (by rfl) B.range (pa_cons (pv 3) pa_nil)) (blkOk_by (N := nRu) (sc := defScope sRule) (by decide +kernel)) (fun _ _ _ _ _ => pg_name (i := 9) scRu.nd rfl (Or.inl rfl)) (fun _ _ _ _ _ => pts_nil)
          (fun _ _ _ _ _ => pe_tup (pa_cons (pv 9) (pa_cons (pe_op op_mod (pe_op op_add (pv 9) pe_int) (pv 3)) pa_nil))))) pss_nil)
      (pss_cons (ps_for PassesOwn.never rfl (pi_range1 (by rfl) B.range (pa_cons (pv 3) pa_nil)) (pg_name (i := 7) scRu.nd rfl (Or.inl rfl))
        (pss_one (ps_for PassesOwn.never rfl (pi_range1 (by rfl) B.range (pa_cons (pv 3) pa_nil)) (pg_name (i := 8) scRu.nd rfl (Or.inl rfl))
          (pss_one (ps_if (pt_cmpR op_lt (pe_call GD r1 (by rfl) DD.mg DD.fn.kp DD.bi .nil pass0 (pa_cons (pv 0) (pa_cons pe_int pa_nil))) (pv 5) (nomark _))
            (pss_one (ps_expr (pe_bm PySem.F.plainAttrs_list PySem.F.slot_list_append PySem.F.type_list_append mt_append (pv 6) (pa_cons (pe_tup (pa_cons (pv 7) (pa_cons (pv 8) pa_nil))) pa_nil)))) pss_nil)))))
      (pss_one (ps_ret (pe_call GC r1 (by rfl) DC.mg DC.fn.kp DC.bi .nil pass0 (pa_cons (pv 4) (pa_cons (pv 6) pa_nil)))))))), ?_⟩
    refine ⟨.int 1, rfl, .ref p, rfl, .int 2, rfl, .int 1, rfl, _, _, rfl, rfl, _, _, rfl, rfl, p, t, 2, rfl, hp, by omega, by decide, by decide, fun mm t1 H1 m0 m1 ht1 hp1 b1 => ⟨_, _, rfl, rfl, ?_⟩⟩
    obtain ⟨n, en⟩ : ∃ n : Nat, 1 + mm = (n : Int) := ⟨(1 + mm).toNat, by omega⟩
    show gName 3 (V.int (1 + mm)) _ _ _
    rw [en]
    have hn12 : n = 1 ∨ n = 2 := by omega
    refine ⟨.ref p, rfl, .int (n : Int), rfl, p, t1, n, rfl, hp1, by omega, hn12, fun H2 u t2 ns hp2 ht2 b2 eu nu M ln => ?_⟩
    have hup : u ≠ p := pail_ne hp1 nu
    refine ⟨.ref p, rfl, p, t2, 4, rfl, hp2, by omega, by decide, by decide, fun sh t3 H3 sh0 sh1 ht3 hp3 b3 => ⟨_, _, rfl, rfl, Nat.zero_le _, fun L nL => ⟨_, _, _, rfl, ?_⟩⟩⟩
    dsimp only
    have eu3 := b3 _ _ eu hup
    have sL := same_upd (o := .lst []) nL
    have eL : (upd H3 L (.lst [])) L = some (.lst []) := upd_same
    have eu4 := sL _ _ eu3
    have hp4 := pail_same hp3 sL
    have b04 : But p H _ := ((b1.trans b2).trans b3).trans (But.of sL)
    have hLu : L ≠ u := (ne_of_none eu3 nL).symm
    have nLH : H L = none := but_free ((b1.trans b2).trans b3) hp3 nL
    have hLp : L ≠ p := pail_ne hp3 nL
    have nuH : H u = none := but_free b1 hp1 nu
    generalize upd H3 L (.lst []) = H4 at eL eu4 hp4 b04 ⊢
    refine seq_mid (fun σ H' => ∃ (L' : Addr) (t' : Nat) (y9 : Option V), σ = [some (.ref p), some (.int 1), some (.int 2), some (.int (n : Int)), some (.ref u), some (.int (1 + sh)), some (.ref L'), none, none, y9] ∧ But p H H' ∧ H' u = some (.lst (ns.map V.int)) ∧ PailAt H' p t' ∧ t' ≤ t + 6 ∧ PairsH (n : Int) H' L' 2 ∧ L' ≠ p ∧ L' ≠ u ∧ H L' = none) (fun σ H' h => ?_) (fun tail => ?_)
    · obtain ⟨L', t5, y9, rfl, b5, eu5, hp5, ht5, hL5, hLp', hLu', nL'⟩ := h
      refine ⟨.int (n : Int), rfl, (n : Int), rfl, by omega, by omega, ?_⟩
      rw [Int.toNat_natCast]
      refine for_range (lo := 0) (n := n) (fun i σ H' => ∃ (y7 y8 : Option V) (t' : Nat), σ = [some (.ref p), some (.int 1), some (.int 2), some (.int (n : Int)), some (.ref u), some (.int (1 + sh)), some (.ref L'), y7, y8, y9] ∧ But p H H' ∧ H' u = some (.lst (ns.map V.int)) ∧ PailAt H' p t' ∧ t' ≤ t5 + 2 * i ∧ PairsH (n : Int) H' L' (2 + 2 * i))
        ⟨_, _, t5, rfl, b5, eu5, hp5, by omega, hL5⟩ (fun i σ H6 hi h => ?_) (fun σ H6 h => ?_)
      · obtain ⟨y7, y8, t6, rfl, b6, eu6, hp6, ht6, hL6⟩ := h
        rw [show (0 : Int) + (i : Int) = (i : Int) by omega]
        refine ⟨.int (n : Int), rfl, (n : Int), rfl, by omega, by omega, ?_⟩
        rw [Int.toNat_natCast]
        refine for_range (lo := 0) (n := n) (fun j σ H' => ∃ (y8 : Option V) (t' : Nat), σ = [some (.ref p), some (.int 1), some (.int 2), some (.int (n : Int)), some (.ref u), some (.int (1 + sh)), some (.ref L'), some (.int (i : Int)), y8, y9] ∧ But p H H' ∧ H' u = some (.lst (ns.map V.int)) ∧ PailAt H' p t' ∧ t' ≤ t5 + 2 * i + j ∧ PairsH (n : Int) H' L' (2 + 2 * i + j))
          ⟨_, t6, rfl, b6, eu6, hp6, by omega, hL6⟩ (fun j σ H7 hj h => ?_) (fun σ H7 h => ?_)
        · obtain ⟨y8, t7, rfl, b7, eu7, hp7, ht7, hL7⟩ := h
          rw [show (0 : Int) + (j : Int) = (j : Int) by omega]
          refine ⟨.ref p, rfl, p, t7, 8, rfl, hp7, by omega, by decide, by decide, fun r t8 H8 r0 r1 ht8 hp8 b8 => ⟨.int (1 + sh), rfl, _, _, rfl, rfl, _, rfl, ite2 (fun _ => ?_) (fun _ => ?_)⟩⟩
          · have hL8 := hL7.but hp7 b8 hLp'
            obtain ⟨vs, eL8, hvl⟩ := hL8.lst
            refine ⟨.ref L', rfl, .inl ⟨rfl, _, lstNew eL8⟩, .int (i : Int), rfl, .int (j : Int), rfl, two, fun T nT => ?_⟩
            have sT := same_upd (o := .tup [.int (i : Int), .int (j : Int)]) nT
            refine ⟨L', _, _, rfl, rfl, sT _ _ eL8, few1 (by omega), _, t8, rfl, fun k o e z => ?_, ?_, pail_set (pail_same hp8 sT) hLp', by omega, hL8.add eL8 nT (by omega) (by omega)⟩
            · rw [upd_ne (ne_of_none e nL')]; exact sT _ _ ((b7.trans b8) k o e z)
            · rw [upd_ne hLu'.symm]; exact sT _ _ (b8 _ _ eu7 hup)
          · exact ⟨_, t8, rfl, b7.trans b8, b8 _ _ eu7 hup, hp8, by omega, (hL7.but hp7 b8 hLp').le (by omega)⟩
        · obtain ⟨y8, t7, rfl, b7, eu7, hp7, ht7, hL7⟩ := h
          exact ⟨_, _, t7, rfl, b7, eu7, hp7, by omega, hL7.le (by omega)⟩
      · obtain ⟨y7, y8, t6, rfl, b6, eu6, hp6, ht6, hL6⟩ := h
        obtain ⟨qs, hq, hpr, hql⟩ := hL6
        refine ⟨.ref u, rfl, .ref L', rfl, u, L', ns, qs, rfl, lstNew eu6, hq, M, fun z hz => by rw [ln]; exact hpr z hz, by omega, fun H7 R ps s7 O => ?_⟩
        exact q H7 R t6 ns ps (pail_same hp6 s7) (by omega) (b6.trans (But.of s7)) O
    · refine ⟨.ref p, rfl, p, t3, 2, rfl, hp4, by omega, by decide, by decide, fun r t5 H5 r0 r1 ht5 hp5 b5 => ⟨rfl, _, rfl, ite2 (fun _ => ?_) (fun _ => ?_)⟩⟩
      · refine ⟨.int (n : Int), rfl, (n : Int), rfl, by omega, by omega, fun D nD => ?_⟩
        have eu5 := b5 _ _ eu4 hup
        have hDu : D ≠ u := (ne_of_none eu5 nD).symm
        have hDp : D ≠ p := pail_ne hp5 nD
        have nDH : H D = none := but_free (b04.trans b5) hp5 nD
        have sD := same_upd (o := .lst []) nD
        rw [Int.toNat_natCast]
        refine lc_range (lo := 0) (n := n) (fun i H' => But p H H' ∧ PailAt H' p t5 ∧ H' u = some (.lst (ns.map V.int)) ∧ PairsH (n : Int) H' D i)
          ⟨(b04.trans b5).trans (But.of sD), pail_same hp5 sD, sD _ _ eu5, PairsH.nil upd_same⟩ (fun i H7 hi h => ?_) fun H7 h => ?_
        · obtain ⟨b7, hp7, eu7, hD7⟩ := h
          rw [show (0 : Int) + (i : Int) = (i : Int) by omega]
          obtain ⟨vs, eD7, hvl⟩ := hD7.lst
          refine ⟨by simp [wipe, List.set_set], tt_yes ⟨.int (i : Int), rfl, .int (i : Int), rfl, _, _, rfl, rfl, .int (n : Int), rfl, _, _, rfl, rfl, (show (0 : Int) < n by omega), two, fun T nT => ?_⟩⟩
          have sT := same_upd (o := .tup [.int (i : Int), .int (((i : Int) + 1) % (n : Int))]) nT
          refine ⟨_, sT _ _ eD7, few1 (by omega), fun k o e z => ?_, pail_set (pail_same hp7 sT) hDp, ?_, hD7.add eD7 nT (by omega) ⟨Int.emod_nonneg _ (by omega), Int.emod_lt_of_pos _ (by omega)⟩⟩
          · rw [upd_ne (ne_of_none e nDH)]; exact sT _ _ (b7 k o e z)
          · rw [upd_ne hDu.symm]; exact sT _ _ eu7
        · obtain ⟨b7, hp7, eu7, hD7⟩ := h
          exact tail _ _ ⟨D, t5, _, rfl, b7, eu7, hp7, by omega, hD7.le (by omega), hDp, hDu, nDH⟩
      · exact tail _ _ ⟨L, t5, _, rfl, b04.trans b5, b5 _ _ eu4 hup, hp5, by omega, (PairsH.nil (b5 _ _ eL hLp)).le (by omega), hLp, hLu, nLH⟩
end
end K44
set_option maxHeartbeats 4000000
namespace K44
open PySem PySem.Spec PyProof.Rows L2 RV
/-- a list of pairs, as it is written -/
def tPairs : List (Int × Int) → TA
  | [] => tNil
  | (a, b) :: r => tCons (tTup (tCons (tC (.int a)) (tCons (tC (.int b)) tNil))) (tPairs r)
def tInts : List Int → TA
  | [] => tNil
  | a :: r => tCons (tC (.int a)) (tInts r)
def prs (qs : List (Int × Int)) : List (List Int) := qs.map fun q => [q.1, q.2]
theorem two_le : (2 : Nat) ≤ sizeLine := by decide
theorem ints_ta {σ : L2.St} {H : Hp} : ∀ (xs : List Int) (Q : List V → Hp → Prop), Q (xs.map V.int) H → tInts xs σ H Q
  | [], Q, h => h
  | a :: r, Q, h => ints_ta r _ h
theorem pairs_ta {σ : L2.St} : ∀ (qs : List (Int × Int)) (H : Hp) (Q : List V → Hp → Prop), (∀ (H' : Hp) (ks : List (Addr × List Int)), Same H H' → ks.map (·.2) = prs qs → (∀ k ∈ ks, H' k.1 = some (.tup (k.2.map V.int))) → Q (ks.map fun k => V.ref k.1) H') → tPairs qs σ H Q
  | [], H, Q, h => h H [] (Same.refl H) rfl (fun _ z => nomatch z)
  | (a, b) :: r, H, Q, h => ⟨two_le, fun T nT => pairs_ta r _ _ fun H' ks s e hk => by
    have sT := same_upd (o := .tup [.int a, .int b]) nT
    refine h H' ((T, [a, b]) :: ks) (sT.trans s) (by show [a, b] :: ks.map (·.2) = [a, b] :: prs r; rw [e]) fun k m => ?_
    rcases List.mem_cons.mp m with rfl | m
    · exact s _ _ upd_same
    · exact hk k m⟩
/-- a list of pairs, new -/
theorem plist_te {σ : L2.St} {H : Hp} {Q : VK} (qs : List (Int × Int)) (hl : qs.length ≤ 100) (h : ∀ (H' : Hp) (l : Addr), Same H H' → H l = none → LotsH H' l (prs qs) → Q (.ref l) H') : tLst (tPairs qs) σ H Q := by
  refine pairs_ta qs H _ fun H1 ks s e hk => ⟨?_, fun l nl => ?_⟩
  · have z := congrArg List.length e
    rw [List.length_map] at z
    unfold prs at z
    rw [List.length_map] at z
    rw [List.length_map]
    exact Nat.le_of_lt (few1 (by omega))
  · exact h _ l (s.trans (same_upd nl)) (s.free nl) ⟨ks, e, upd_same, fun k m => (same_upd nl) _ _ (hk k m)⟩
/-- mirrors and pairs, in a tuple -/
def EntryAt (H : Hp) (S t : Addr) (e : List Int × List (List Int)) : Prop := ∃ m l : Addr, H t = some (.tup [.ref m, .ref l]) ∧ H m = some (.lst (e.1.map V.int)) ∧ LotsH H l e.2 ∧ m ≠ S ∧ l ≠ S
theorem EntryAt.same {H H' : Hp} {S t : Addr} {e : List Int × List (List Int)} (h : EntryAt H S t e) (s : Same H H') : EntryAt H' S t e := by
  obtain ⟨m, l, h1, h2, h3, h4, h5⟩ := h
  exact ⟨m, l, s _ _ h1, s _ _ h2, h3.same s, h4, h5⟩
theorem EntryAt.set {H : Hp} {S t : Addr} {e : List Int × List (List Int)} {vs : List V} {o : HO} (hS : H S = some (.lst vs)) (h : EntryAt H S t e) : EntryAt (upd H S o) S t e := by
  obtain ⟨m, l, h1, h2, ⟨ks, k1, k2, k3⟩, h4, h5⟩ := h
  exact ⟨m, l, by rw [upd_ne (fun z => by rw [z, hS] at h1; cases h1)]; exact h1, by rw [upd_ne h4]; exact h2, ⟨ks, k1, by rw [upd_ne h5]; exact k2, fun k hk => by rw [upd_ne (fun z => by have w := k3 k hk; rw [z, hS] at w; cases w)]; exact k3 k hk⟩, h4, h5⟩
/-- a list of such tuples -/
def SomeH (H : Hp) (S : Addr) (es : List (List Int × List (List Int))) : Prop := ∃ ts : List Addr, H S = some (.lst (ts.map V.ref)) ∧ ts.length = es.length ∧ ∀ (j : Nat) (t : Addr) (e : List Int × List (List Int)), ts[j]? = some t → es[j]? = some e → EntryAt H S t e
theorem SomeH.same {H H' : Hp} {S : Addr} {es : List (List Int × List (List Int))} (h : SomeH H S es) (s : Same H H') : SomeH H' S es := by
  obtain ⟨ts, h1, h2, h3⟩ := h
  exact ⟨ts, s _ _ h1, h2, fun j t e a b => (h3 j t e a b).same s⟩
theorem SomeH.free {H : Hp} {S a : Addr} {es : List (List Int × List (List Int))} (h : SomeH H S es) (n : H a = none) : a ≠ S := by
  obtain ⟨ts, h1, _⟩ := h
  exact (ne_of_none h1 n).symm
theorem SomeH.add {H : Hp} {S t : Addr} {es : List (List Int × List (List Int))} {e : List Int × List (List Int)} (h : SomeH H S es) (he : EntryAt H S t e) (l : es.length ≤ 100) : ∃ vs, H S = some (.lst vs) ∧ vs.length < sizeLine ∧ SomeH (upd H S (.lst (vs ++ [.ref t]))) S (es ++ [e]) := by
  obtain ⟨ts, h1, h2, h3⟩ := h
  refine ⟨_, h1, by rw [List.length_map]; exact few1 (by omega), ts ++ [t], by rw [upd_same, List.map_append]; rfl, by rw [List.length_append, List.length_append, h2]; rfl, fun j t' e' a b => ?_⟩
  rcases Nat.lt_or_ge j ts.length with z | z
  · rw [List.getElem?_append_left z] at a
    rw [List.getElem?_append_left (by omega)] at b
    exact (h3 j t' e' a b).set h1
  · rw [List.getElem?_append_right z] at a
    rw [List.getElem?_append_right (by omega)] at b
    have ej : j - ts.length = 0 := by
      have := (List.getElem?_eq_some_iff.mp a).1
      simp at this; omega
    rw [ej] at a
    rw [← h2, ej] at b
    cases a
    cases b
    exact he.set h1
/-- such a tuple, as it is written -/
def tEntry (ms : List Int) (qs : List (Int × Int)) : TE := tTup (tCons (tLst (tInts ms)) (tCons (tLst (tPairs qs)) tNil))
theorem entry_te {σ : L2.St} {H : Hp} {Q : VK} (ms : List Int) (qs : List (Int × Int)) (hm : ms.length ≤ 100) (hl : qs.length ≤ 100) (h : ∀ (H' : Hp) (t : Addr), Same H H' → H t = none → (∀ S, H S ≠ none ∨ H' S = none → EntryAt H' S t (ms, prs qs)) → Q (.ref t) H') : tEntry ms qs σ H Q := by
  refine ints_ta ms _ ⟨by rw [List.length_map]; exact Nat.le_of_lt (few1 (by omega)), fun m nm => plist_te qs hl fun H2 l s2 nl hL => ⟨two_le, fun t nt => ?_⟩⟩
  have sm := same_upd (o := .lst (ms.map V.int)) nm
  have st := same_upd (o := .tup [.ref m, .ref l]) nt
  have em := s2 _ _ (upd_same : (upd H m (.lst (ms.map V.int))) m = some _)
  refine h _ t ((sm.trans s2).trans st) (sm.free (s2.free nt)) fun S hS => ⟨m, l, upd_same, st _ _ em, hL.same st, ?_, ?_⟩
  · intro z
    subst z
    rcases hS with w | w
    · exact w nm
    · rw [st _ _ em] at w; cases w
  · intro z
    subst z
    rcases hS with w | w
    · exact w (sm.free nl)
    · obtain ⟨ks, _, k2, _⟩ := hL
      rw [st _ _ k2] at w; cases w
end K44
set_option maxHeartbeats 4000000
namespace K44
open PySem PySem.Spec PyProof.Rows L2 RV
theorem seq_asg {te : TE} {g : TG} {t2 : TS} {D : Ends} {σ : L2.St} {H : Hp} (h : te σ H fun x H1 => g x σ H1 fun σ2 H2 => t2 D σ2 H2) : tSeq (tAsg te g) t2 D σ H := h
theorem seq_drop {te : TE} {t2 : TS} {D : Ends} {σ : L2.St} {H : Hp} (h : te σ H fun _ H1 => t2 D σ H1) : tSeq (tDrop te) t2 D σ H := h
theorem cons_te {te : TE} {tr : TA} {σ : L2.St} {H : Hp} {Q : List V → Hp → Prop} (h : te σ H fun x H1 => tr σ H1 fun xs H2 => Q (x :: xs) H2) : tCons te tr σ H Q := h
theorem lst_te {ta : TA} {σ : L2.St} {H : Hp} {Q : VK} (h : ta σ H fun xs H1 => xs.length ≤ sizeLine ∧ ∀ p, H1 p = none → Q (.ref p) (upd H1 p (.lst xs))) : tLst ta σ H Q := h
theorem three_le : (3 : Nat) ≤ sizeLine := by decide
theorem four_le : (4 : Nat) ≤ sizeLine := by decide
def mirOkB (ns : List Int) : Bool := decide (0 < ns.length) && decide (ns.length ≤ 8) && (ns.all fun i => decide (0 ≤ i) && decide (i < (ns.length : Int))) && ((List.range ns.length).all fun k => decide (ns[(ns.getD k 0).toNat]? = some (k : Int)))
theorem mir_of {ns : List Int} (h : mirOkB ns = true) : Mir ns := by
  unfold mirOkB at h
  simp only [Bool.and_eq_true, decide_eq_true_iff, List.all_eq_true] at h
  obtain ⟨⟨⟨h1, h2⟩, h3⟩, h4⟩ := h
  refine ⟨h1, h2, fun i hi => h3 i hi, fun k m hk => ?_⟩
  have z := h4 k (List.mem_range.mpr (List.getElem?_eq_some_iff.mp hk).1)
  rw [List.getD_eq_getElem?_getD, hk] at z
  exact z
def prOkB (n : Nat) (qs : List (Int × Int)) : Bool := qs.all fun q => decide (0 ≤ q.1) && decide (q.1 < (n : Int)) && decide (0 ≤ q.2) && decide (q.2 < (n : Int))
theorem pr_of {n : Nat} {qs : List (Int × Int)} (h : prOkB n qs = true) : ∀ q ∈ prs qs, Pr (n : Int) q := fun q hq => by
  obtain ⟨⟨a, b⟩, hm, rfl⟩ := List.mem_map.mp hq
  unfold prOkB at h
  have z := List.all_eq_true.mp h _ hm
  simp only [Bool.and_eq_true, decide_eq_true_iff] at z
  obtain ⟨⟨⟨z1, z2⟩, z3⟩, z4⟩ := z
  exact ⟨a, b, rfl, ⟨z1, z2⟩, ⟨z3, z4⟩⟩
def told : List (List Int × List (List Int)) := [([0], prs [(0, 0)]), ([0, 1], prs [(0, 1), (1, 0)]), ([0, 1, 2], prs [(0, 1), (0, 2), (1, 2)]), ([0, 1, 2, 3], prs [(0, 1), (0, 2), (1, 2), (0, 3), (1, 3), (2, 3)]), ([1, 0], prs [(0, 0), (0, 1), (1, 0)]), ([1, 0], prs [(0, 0), (1, 0)]), ([0, 1, 3, 2], prs [(0, 1), (0, 2), (2, 3)]), ([3, 4, 5, 0, 1, 2], prs [(0, 1), (1, 0), (1, 2), (2, 0)]), ([0, 1, 2, 3, 4], prs [(0, 1), (1, 2), (2, 3), (3, 4), (4, 0)]), ([2, 3, 0, 1], prs [(0, 1), (1, 0)]), ([4, 5, 6, 7, 0, 1, 2, 3], prs [(0, 1), (1, 2), (2, 3), (3, 0)])]
section
variable {P : Program} {w : World} {K : PySem.W.Frag} {mg : Str → Option Value} {base : Heap}
/-! ### _law_told_rule -/
abbrev nTo : List Str := ["_law_number", "_law_unlike", "_law_some", "_law_mirrors_here", "_law_pairs"]
theorem scTo : FnScope nTo ["_law_number"] (defScope sTold) := ⟨rfl, rfl, rfl, by decide +kernel, rfl, by decide +kernel, by decide +kernel⟩
def spTo (K : PySem.W.Frag) : Sp := fun vs H Q _ => ∃ j : Nat, vs = [.int (j : Int)] ∧ (j = 0 ∨ j = 1 ∨ j = 2 ∨ j = 4 ∨ j = 5) ∧ ∀ (H' : Hp) (R : Addr) (ns : List Int) (ps : List (List Int)), Same H H' → OwnH K H' R ns ps → Q (.ref R) H'
theorem ok_to {f fC : Addr} {fd dC : FuncData} (F : Fun K "_law_told_rule" "_law_told_rule" sTold f fd) (DC : DefAt K mg "_law_closed" sClosed ["_law_mirrors_here", "_law_pairs"] fC dC) (B : Bare mg) : FnOk P w K mg base CX0 2 f fd ["_law_number"] (spTo K) := by
  have GC : FnOk P w K mg base CX0 1 fC dC ["_law_mirrors_here", "_law_pairs"] (spClo K) := ok_closed DC.fn B
  refine F.ok scTo (fun vs H Q E h => ?_) (fun cdv A outer s H vs Q E hr h => ?_)
  · obtain ⟨j, rfl, _⟩ := h
    rfl
  · obtain ⟨j, rfl, hj, q⟩ := h
    refine ⟨_, pss_cons (ps_set (i := 1) scTo.nd rfl (Or.inl rfl) (pe_lst (pa_cons (pe_tup (pa_cons pe_int (pa_cons pe_int pa_nil))) (pa_cons (pe_tup (pa_cons pe_int (pa_cons pe_int pa_nil))) (pa_cons (pe_tup (pa_cons pe_int (pa_cons pe_int pa_nil))) pa_nil)))))
      (pss_cons (ps_set (i := 2) scTo.nd rfl (Or.inl rfl) (pe_lst (pa_cons (pe_tup (pa_cons (pe_lst (pa_cons pe_int pa_nil)) (pa_cons (pe_lst (pa_cons (pe_tup (pa_cons pe_int (pa_cons pe_int pa_nil))) pa_nil)) pa_nil))) (pa_cons (pe_tup (pa_cons (pe_lst (pa_cons pe_int (pa_cons pe_int pa_nil))) (pa_cons (pe_lst (pa_cons (pe_tup (pa_cons pe_int (pa_cons pe_int pa_nil))) (pa_cons (pe_tup (pa_cons pe_int (pa_cons pe_int pa_nil))) pa_nil))) pa_nil))) (pa_cons (pe_tup (pa_cons (pe_lst (pa_cons pe_int (pa_cons pe_int (pa_cons pe_int pa_nil)))) (pa_cons (pv 1) pa_nil))) pa_nil)))))
      (pss_cons (ps_expr (pe_bm PySem.F.plainAttrs_list PySem.F.slot_list_append PySem.F.type_list_append mt_append (pv 2) (pa_cons (pe_tup (pa_cons (pe_lst (pa_cons pe_int (pa_cons pe_int (pa_cons pe_int (pa_cons pe_int pa_nil))))) (pa_cons (pe_op op_cat (pv 1) (pe_lst (pa_cons (pe_tup (pa_cons pe_int (pa_cons pe_int pa_nil))) (pa_cons (pe_tup (pa_cons pe_int (pa_cons pe_int pa_nil))) (pa_cons (pe_tup (pa_cons pe_int (pa_cons pe_int pa_nil))) pa_nil))))) pa_nil))) pa_nil)))
      (pss_cons (ps_expr (pe_bm PySem.F.plainAttrs_list PySem.F.slot_list_append PySem.F.type_list_append mt_append (pv 2) (pa_cons (pe_tup (pa_cons (pe_lst (pa_cons pe_int (pa_cons pe_int pa_nil))) (pa_cons (pe_lst (pa_cons (pe_tup (pa_cons pe_int (pa_cons pe_int pa_nil))) (pa_cons (pe_tup (pa_cons pe_int (pa_cons pe_int pa_nil))) (pa_cons (pe_tup (pa_cons pe_int (pa_cons pe_int pa_nil))) pa_nil)))) pa_nil))) pa_nil)))
      (pss_cons (ps_expr (pe_bm PySem.F.plainAttrs_list PySem.F.slot_list_append PySem.F.type_list_append mt_append (pv 2) (pa_cons (pe_tup (pa_cons (pe_lst (pa_cons pe_int (pa_cons pe_int pa_nil))) (pa_cons (pe_lst (pa_cons (pe_tup (pa_cons pe_int (pa_cons pe_int pa_nil))) (pa_cons (pe_tup (pa_cons pe_int (pa_cons pe_int pa_nil))) pa_nil))) pa_nil))) pa_nil)))
      (pss_cons (ps_expr (pe_bm PySem.F.plainAttrs_list PySem.F.slot_list_append PySem.F.type_list_append mt_append (pv 2) (pa_cons (pe_tup (pa_cons (pe_lst (pa_cons pe_int (pa_cons pe_int (pa_cons pe_int (pa_cons pe_int pa_nil))))) (pa_cons (pe_lst (pa_cons (pe_tup (pa_cons pe_int (pa_cons pe_int pa_nil))) (pa_cons (pe_tup (pa_cons pe_int (pa_cons pe_int pa_nil))) (pa_cons (pe_tup (pa_cons pe_int (pa_cons pe_int pa_nil))) pa_nil)))) pa_nil))) pa_nil)))
      (pss_cons (ps_expr (pe_bm PySem.F.plainAttrs_list PySem.F.slot_list_append PySem.F.type_list_append mt_append (pv 2) (pa_cons (pe_tup (pa_cons (pe_lst (pa_cons pe_int (pa_cons pe_int (pa_cons pe_int (pa_cons pe_int (pa_cons pe_int (pa_cons pe_int pa_nil))))))) (pa_cons (pe_lst (pa_cons (pe_tup (pa_cons pe_int (pa_cons pe_int pa_nil))) (pa_cons (pe_tup (pa_cons pe_int (pa_cons pe_int pa_nil))) (pa_cons (pe_tup (pa_cons pe_int (pa_cons pe_int pa_nil))) (pa_cons (pe_tup (pa_cons pe_int (pa_cons pe_int pa_nil))) pa_nil))))) pa_nil))) pa_nil)))
      (pss_cons (ps_expr (pe_bm PySem.F.plainAttrs_list PySem.F.slot_list_append PySem.F.type_list_append mt_append (pv 2) (pa_cons (pe_tup (pa_cons (pe_lst (pa_cons pe_int (pa_cons pe_int (pa_cons pe_int (pa_cons pe_int (pa_cons pe_int pa_nil)))))) (pa_cons (pe_lst (pa_cons (pe_tup (pa_cons pe_int (pa_cons pe_int pa_nil))) (pa_cons (pe_tup (pa_cons pe_int (pa_cons pe_int pa_nil))) (pa_cons (pe_tup (pa_cons pe_int (pa_cons pe_int pa_nil))) (pa_cons (pe_tup (pa_cons pe_int (pa_cons pe_int pa_nil))) (pa_cons (pe_tup (pa_cons pe_int (pa_cons pe_int pa_nil))) pa_nil)))))) pa_nil))) pa_nil)))
      (pss_cons (ps_expr (pe_bm PySem.F.plainAttrs_list PySem.F.slot_list_append PySem.F.type_list_append mt_append (pv 2) (pa_cons (pe_tup (pa_cons (pe_lst (pa_cons pe_int (pa_cons pe_int (pa_cons pe_int (pa_cons pe_int pa_nil))))) (pa_cons (pe_lst (pa_cons (pe_tup (pa_cons pe_int (pa_cons pe_int pa_nil))) (pa_cons (pe_tup (pa_cons pe_int (pa_cons pe_int pa_nil))) pa_nil))) pa_nil))) pa_nil)))
      (pss_cons (ps_expr (pe_bm PySem.F.plainAttrs_list PySem.F.slot_list_append PySem.F.type_list_append mt_append (pv 2) (pa_cons (pe_tup (pa_cons (pe_lst (pa_cons pe_int (pa_cons pe_int (pa_cons pe_int (pa_cons pe_int (pa_cons pe_int (pa_cons pe_int (pa_cons pe_int (pa_cons pe_int pa_nil))))))))) (pa_cons (pe_lst (pa_cons (pe_tup (pa_cons pe_int (pa_cons pe_int pa_nil))) (pa_cons (pe_tup (pa_cons pe_int (pa_cons pe_int pa_nil))) (pa_cons (pe_tup (pa_cons pe_int (pa_cons pe_int pa_nil))) (pa_cons (pe_tup (pa_cons pe_int (pa_cons pe_int pa_nil))) pa_nil))))) pa_nil))) pa_nil)))
      (pss_cons (ps_asg (pe_ix ix_list (pv 2) (pe_op op_mod (pv 0) (pe_callB call_len_seq (by rfl) B.len PySem.boot_len (pa_cons (pv 2) pa_nil))) (fun _ _ => rfl)) (pg_tup rfl (pgs_cons (pg_name (i := 3) scTo.nd rfl (Or.inl rfl)) (pgs_cons (pg_name (i := 4) scTo.nd rfl (Or.inl rfl)) pgs_nil))))
      (pss_one (ps_ret (pe_call GC hr (by rfl) DC.mg DC.fn.kp DC.bi .nil pass0 (pa_cons (pv 3) (pa_cons (pv 4) pa_nil))))))))))))))), ?_⟩
    refine seq_asg (plist_te [(0, 1), (0, 2), (1, 2)] (by decide) fun H1 U s1 nU hU => ?_)
    refine seq_asg (lst_te (cons_te (entry_te [0] [(0, 0)] (by decide) (by decide) fun H2 t0 s2 n2 he0 => ?_)))
    refine cons_te (entry_te [0, 1] [(0, 1), (1, 0)] (by decide) (by decide) fun H3 t1 s3 n3 he1 => ?_)
    refine ⟨by decide, fun m2 nm2 => ⟨.ref U, rfl, two_le, fun t2 nt2 => ⟨three_le, fun S nS => ?_⟩⟩⟩
    have sm := same_upd (o := .lst [.int 0, .int 1, .int 2]) nm2
    have st := same_upd (o := .tup [.ref m2, .ref U]) nt2
    have sS := same_upd (o := .lst [.ref t0, .ref t1, .ref t2]) nS
    have s23 := (sm.trans st).trans sS
    have em := sS _ _ (st _ _ (upd_same : (upd H3 m2 (.lst [.int 0, .int 1, .int 2])) m2 = some _))
    have et := sS _ _ (upd_same : (upd (upd H3 m2 (.lst [.int 0, .int 1, .int 2])) t2 (.tup [.ref m2, .ref U])) t2 = some _)
    have eS : (upd (upd (upd H3 m2 (.lst [.int 0, .int 1, .int 2])) t2 (.tup [.ref m2, .ref U])) S (.lst [.ref t0, .ref t1, .ref t2])) S = some (.lst [.ref t0, .ref t1, .ref t2]) := upd_same
    have nm2S : m2 ≠ S := by
      intro z
      subst z
      rw [st _ _ (upd_same : (upd H3 m2 (.lst [.int 0, .int 1, .int 2])) m2 = some _)] at nS; cases nS
    have nS3 := (sm.trans st).free nS
    have nS2 := s3.free nS3
    have nS1 := s2.free nS2
    have nSH : H S = none := s1.free nS1
    have hU3 := hU.same (s2.trans s3)
    have nUS : U ≠ S := by
      intro z
      subst z
      obtain ⟨ks, _, k2, _⟩ := hU3
      rw [k2] at nS3; cases nS3
    have hS0 : SomeH (upd (upd (upd H3 m2 (.lst [.int 0, .int 1, .int 2])) t2 (.tup [.ref m2, .ref U])) S (.lst [.ref t0, .ref t1, .ref t2])) S [([0], prs [(0, 0)]), ([0, 1], prs [(0, 1), (1, 0)]), ([0, 1, 2], prs [(0, 1), (0, 2), (1, 2)])] := by
      refine ⟨[t0, t1, t2], eS, rfl, fun j t e a b => ?_⟩
      match j, a, b with
      | 0, a, b => cases a; cases b; exact (he0 S (.inr nS2)).same (s3.trans s23)
      | 1, a, b => cases a; cases b; exact (he1 S (.inr nS3)).same s23
      | 2, a, b => cases a; cases b; exact ⟨m2, U, et, em, (hU3.same s23), nm2S, nUS⟩
      | j + 3, a, b => cases a
    have sB0 : Same H _ := ((s1.trans s2).trans s3).trans s23
    have hUB := hU3.same s23
    generalize upd (upd (upd H3 m2 (.lst [.int 0, .int 1, .int 2])) t2 (.tup [.ref m2, .ref U])) S (.lst [.ref t0, .ref t1, .ref t2]) = B0 at hS0 sB0 hUB ⊢
    clear he0 he1 n2 n3 sm st sS s23 em et eS hU hU3
    have keep : ∀ (H' : Hp) (vs : List V), Same H H' → Same H (upd H' S (.lst vs)) := fun H' vs s b o e => by rw [upd_ne (ne_of_none e nSH)]; exact s b o e
    obtain ⟨ts0, eS0, _⟩ := id hS0
    refine seq_drop ⟨.ref S, rfl, .inl ⟨rfl, _, lstNew eS0⟩, cons_te ⟨four_le, fun m3 nm3 => ⟨.ref U, rfl, ?_⟩⟩⟩
    refine plist_te [(0, 3), (1, 3), (2, 3)] (by decide) fun C1 l3 c1 nl3 hl3 => ?_
    have sm3 := same_upd (o := .lst [.int 0, .int 1, .int 2, .int 3]) nm3
    have em3 := c1 _ _ (upd_same : (upd B0 m3 (.lst [.int 0, .int 1, .int 2, .int 3])) m3 = some _)
    obtain ⟨ks1, k11, k12, k13⟩ := (hUB.same sm3).same c1
    obtain ⟨ks2, k21, k22, k23⟩ := hl3
    have lk1 : ks1.length = 3 := by have z := congrArg List.length k11; rw [List.length_map] at z; exact z
    have lk2 : ks2.length = 3 := by have z := congrArg List.length k21; rw [List.length_map] at z; exact z
    refine ⟨U, l3, _, _, rfl, rfl, k12, k22, by rw [List.length_map, List.length_map, lk1, lk2]; exact Nat.le_of_lt (few1 (by decide)), fun a3 na3 => ⟨two_le, fun t3 nt3 => ?_⟩⟩
    have sa3 := same_upd (o := .lst (ks1.map (fun p => V.ref p.1) ++ ks2.map fun p => V.ref p.1)) na3
    have st3 := same_upd (o := .tup [.ref m3, .ref a3]) nt3
    have ea3 := st3 _ _ (upd_same : (upd C1 a3 (.lst (ks1.map (fun p => V.ref p.1) ++ ks2.map fun p => V.ref p.1))) a3 = some _)
    have et3 : (upd (upd C1 a3 (.lst (ks1.map (fun p => V.ref p.1) ++ ks2.map fun p => V.ref p.1))) t3 (.tup [.ref m3, .ref a3])) t3 = some (.tup [.ref m3, .ref a3]) := upd_same
    have s3' := sa3.trans st3
    have sC := (sm3.trans c1).trans s3'
    have he3 : EntryAt (upd (upd C1 a3 (.lst (ks1.map (fun p => V.ref p.1) ++ ks2.map fun p => V.ref p.1))) t3 (.tup [.ref m3, .ref a3])) S t3 ([0, 1, 2, 3], prs [(0, 1), (0, 2), (1, 2), (0, 3), (1, 3), (2, 3)]) := by
      refine ⟨m3, a3, et3, s3' _ _ em3, ⟨ks1 ++ ks2, by rw [List.map_append, k11, k21]; rfl, by rw [List.map_append]; exact ea3, fun k hk => ?_⟩, hS0.free nm3, ((hS0.same sm3).same c1).free na3⟩
      rcases List.mem_append.mp hk with z | z
      · exact s3' _ _ (k13 k z)
      · exact s3' _ _ (k23 k z)
    obtain ⟨vs3, ev3, lv3, hS1⟩ := (hS0.same sC).add he3 (by decide)
    refine ⟨S, _, _, rfl, rfl, ev3, lv3, ?_⟩
    have sB1 := keep _ (vs3 ++ [.ref t3]) (sB0.trans sC)
    generalize upd (upd (upd C1 a3 (.lst (ks1.map (fun p => V.ref p.1) ++ ks2.map fun p => V.ref p.1))) t3 (.tup [.ref m3, .ref a3])) S (.lst (vs3 ++ [.ref t3])) = B1 at hS1 sB1 ⊢
    clear he3 ev3 lv3 et3 ea3 s3' sC sa3 st3 em3 sm3 k11 k12 k13 k21 k22 k23 lk1 lk2 nt3 na3 c1 nm3 nl3 hUB
    obtain ⟨us1, eS1, _⟩ := id hS1
    refine seq_drop ⟨.ref S, rfl, .inl ⟨rfl, _, lstNew eS1⟩, cons_te (entry_te [1, 0] [(0, 0), (0, 1), (1, 0)] (by decide) (by decide) fun D1 d1 r1 nd1 he1 => ?_)⟩
    obtain ⟨ws1, ew1, lw1, hS2⟩ := (hS1.same r1).add (he1 S (.inl (fun z => by rw [eS1] at z; cases z))) (by decide)
    refine ⟨S, _, _, rfl, rfl, ew1, lw1, ?_⟩
    have sB2 := keep _ (ws1 ++ [.ref d1]) (sB1.trans r1)
    generalize upd D1 S (.lst (ws1 ++ [.ref d1])) = B2 at hS2 sB2 ⊢
    clear he1 ew1 lw1 r1 nd1 eS1 hS1 sB1
    obtain ⟨us2, eS2, _⟩ := id hS2
    refine seq_drop ⟨.ref S, rfl, .inl ⟨rfl, _, lstNew eS2⟩, cons_te (entry_te [1, 0] [(0, 0), (1, 0)] (by decide) (by decide) fun D2 d2 r2 nd2 he2 => ?_)⟩
    obtain ⟨ws2, ew2, lw2, hS3⟩ := (hS2.same r2).add (he2 S (.inl (fun z => by rw [eS2] at z; cases z))) (by decide)
    refine ⟨S, _, _, rfl, rfl, ew2, lw2, ?_⟩
    have sB3 := keep _ (ws2 ++ [.ref d2]) (sB2.trans r2)
    generalize upd D2 S (.lst (ws2 ++ [.ref d2])) = B3 at hS3 sB3 ⊢
    clear he2 ew2 lw2 r2 nd2 eS2 hS2 sB2
    obtain ⟨us3, eS3, _⟩ := id hS3
    refine seq_drop ⟨.ref S, rfl, .inl ⟨rfl, _, lstNew eS3⟩, cons_te (entry_te [0, 1, 3, 2] [(0, 1), (0, 2), (2, 3)] (by decide) (by decide) fun D3 d3 r3 nd3 he3 => ?_)⟩
    obtain ⟨ws3, ew3, lw3, hS4⟩ := (hS3.same r3).add (he3 S (.inl (fun z => by rw [eS3] at z; cases z))) (by decide)
    refine ⟨S, _, _, rfl, rfl, ew3, lw3, ?_⟩
    have sB4 := keep _ (ws3 ++ [.ref d3]) (sB3.trans r3)
    generalize upd D3 S (.lst (ws3 ++ [.ref d3])) = B4 at hS4 sB4 ⊢
    clear he3 ew3 lw3 r3 nd3 eS3 hS3 sB3
    obtain ⟨us4, eS4, _⟩ := id hS4
    refine seq_drop ⟨.ref S, rfl, .inl ⟨rfl, _, lstNew eS4⟩, cons_te (entry_te [3, 4, 5, 0, 1, 2] [(0, 1), (1, 0), (1, 2), (2, 0)] (by decide) (by decide) fun D4 d4 r4 nd4 he4 => ?_)⟩
    obtain ⟨ws4, ew4, lw4, hS5⟩ := (hS4.same r4).add (he4 S (.inl (fun z => by rw [eS4] at z; cases z))) (by decide)
    refine ⟨S, _, _, rfl, rfl, ew4, lw4, ?_⟩
    have sB5 := keep _ (ws4 ++ [.ref d4]) (sB4.trans r4)
    generalize upd D4 S (.lst (ws4 ++ [.ref d4])) = B5 at hS5 sB5 ⊢
    clear he4 ew4 lw4 r4 nd4 eS4 hS4 sB4
    obtain ⟨us5, eS5, _⟩ := id hS5
    refine seq_drop ⟨.ref S, rfl, .inl ⟨rfl, _, lstNew eS5⟩, cons_te (entry_te [0, 1, 2, 3, 4] [(0, 1), (1, 2), (2, 3), (3, 4), (4, 0)] (by decide) (by decide) fun D5 d5 r5 nd5 he5 => ?_)⟩
    obtain ⟨ws5, ew5, lw5, hS6⟩ := (hS5.same r5).add (he5 S (.inl (fun z => by rw [eS5] at z; cases z))) (by decide)
    refine ⟨S, _, _, rfl, rfl, ew5, lw5, ?_⟩
    have sB6 := keep _ (ws5 ++ [.ref d5]) (sB5.trans r5)
    generalize upd D5 S (.lst (ws5 ++ [.ref d5])) = B6 at hS6 sB6 ⊢
    clear he5 ew5 lw5 r5 nd5 eS5 hS5 sB5
    obtain ⟨us6, eS6, _⟩ := id hS6
    refine seq_drop ⟨.ref S, rfl, .inl ⟨rfl, _, lstNew eS6⟩, cons_te (entry_te [2, 3, 0, 1] [(0, 1), (1, 0)] (by decide) (by decide) fun D6 d6 r6 nd6 he6 => ?_)⟩
    obtain ⟨ws6, ew6, lw6, hS7⟩ := (hS6.same r6).add (he6 S (.inl (fun z => by rw [eS6] at z; cases z))) (by decide)
    refine ⟨S, _, _, rfl, rfl, ew6, lw6, ?_⟩
    have sB7 := keep _ (ws6 ++ [.ref d6]) (sB6.trans r6)
    generalize upd D6 S (.lst (ws6 ++ [.ref d6])) = B7 at hS7 sB7 ⊢
    clear he6 ew6 lw6 r6 nd6 eS6 hS6 sB6
    obtain ⟨us7, eS7, _⟩ := id hS7
    refine seq_drop ⟨.ref S, rfl, .inl ⟨rfl, _, lstNew eS7⟩, cons_te (entry_te [4, 5, 6, 7, 0, 1, 2, 3] [(0, 1), (1, 2), (2, 3), (3, 0)] (by decide) (by decide) fun D7 d7 r7 nd7 he7 => ?_)⟩
    obtain ⟨ws7, ew7, lw7, hS8⟩ := (hS7.same r7).add (he7 S (.inl (fun z => by rw [eS7] at z; cases z))) (by decide)
    refine ⟨S, _, _, rfl, rfl, ew7, lw7, ?_⟩
    have sB8 := keep _ (ws7 ++ [.ref d7]) (sB7.trans r7)
    generalize upd D7 S (.lst (ws7 ++ [.ref d7])) = B8 at hS8 sB8 ⊢
    clear he7 ew7 lw7 r7 nd7 eS7 hS7 sB7
    obtain ⟨ts, eS, lts, hts⟩ := hS8
    have l11 : ts.length = 11 := lts
    obtain ⟨t, gt⟩ : ∃ t, ts[j]? = some t := ⟨_, List.getElem?_eq_getElem (by omega)⟩
    refine ⟨.ref S, rfl, .int (j : Int), rfl, .ref S, rfl, S, _, rfl, .inl (lstNew eS), _, _, rfl, rfl, by rw [List.length_map]; show (0 : Int) < ((ts.length : Nat) : Int); omega, S, _, _, .ref t, rfl, rfl, lstNew eS, ?_, ?_⟩
    · rw [List.length_map, l11]
      show atI _ ((j : Int) % ((11 : Nat) : Int)) = _
      rw [show (j : Int) % ((11 : Nat) : Int) = (j : Int) by omega]
      exact atI_nat (by rw [List.getElem?_map, gt]; rfl)
    have fin : ∀ (ms : List Int) (qs : List (Int × Int)), EntryAt B8 S t (ms, prs qs) → mirOkB ms = true → prOkB ms.length qs = true → qs.length ≤ 100 → ∃ m l : Addr, B8 t = some (.tup [.ref m, .ref l]) ∧ spClo K [.ref m, .ref l] B8 Q E := fun ms qs he hm hp hl => by
      obtain ⟨m, l, h1, h2, h3, _⟩ := he
      refine ⟨m, l, h1, m, l, ms, prs qs, rfl, lstNew h2, h3, mir_of hm, pr_of hp, by unfold prs; rw [List.length_map]; omega, fun H' R ps s O => q H' R ms ps (sB8.trans s) O⟩
    have end_ : ∃ m l : Addr, B8 t = some (.tup [.ref m, .ref l]) ∧ spClo K [.ref m, .ref l] B8 Q E := by
      rcases hj with rfl | rfl | rfl | rfl | rfl
      · exact fin [0] [(0, 0)] (hts _ t _ gt rfl) (by decide) (by decide) (by decide)
      · exact fin [0, 1] [(0, 1), (1, 0)] (hts _ t _ gt rfl) (by decide) (by decide) (by decide)
      · exact fin [0, 1, 2] [(0, 1), (0, 2), (1, 2)] (hts _ t _ gt rfl) (by decide) (by decide) (by decide)
      · exact fin [1, 0] [(0, 0), (0, 1), (1, 0)] (hts _ t _ gt rfl) (by decide) (by decide) (by decide)
      · exact fin [1, 0] [(0, 0), (1, 0)] (hts _ t _ gt rfl) (by decide) (by decide) (by decide)
    obtain ⟨m, l, et, hc⟩ := end_
    refine ⟨t, _, rfl, tupNew et, rfl, _, _, rfl, _, _, rfl, rfl, ?_⟩
    exact ⟨.ref m, rfl, .ref l, rfl, hc⟩
end
end K44
set_option maxHeartbeats 4000000
namespace K44
open PySem PySem.Spec PyProof.Rows L2 RV
def dd (b c : Bool) : PyData := .list [.bool b, .bool c]
theorem dd_ok (b c : Bool) : (dd b c).showable = true ∧ (dd b c).hasDict = false ∧ (dd b c).depth ≤ 64 ∧ (dd b c).shown.length ≤ sizeLine := by
  cases b <;> cases c <;> exact ⟨by decide +kernel, by decide +kernel, by decide +kernel, by decide +kernel⟩
theorem dd_dp {K : PySem.W.Frag} {H : Hp} {L : Addr} {b c : Bool} (e : H L = some (.lst [.bl b, .bl c])) : Dp K H (.ref L) (dd b c) := .lst (lstNew e) (.cons (.bl b) (.cons (.bl c) .nil))
def wd (b : Bool) : V := .str (if b = true then Str.ofString "plan" else Str.ofString "none")
theorem wd_dec (b : Bool) : decide (wd b = V.str (Str.ofString "plan")) = b := by
  cases b
  · exact dec_N (by decide +kernel)
  · exact dec_S rfl
theorem bsame {b c : Bool} {A : Prop} (h : b = true ↔ A) (h' : c = true ↔ A) : b = c := Bool.eq_iff_iff.mpr (h.trans h'.symm)
theorem j_use {K : PySem.W.Frag} {C : Addr} {H : Hp} {E : XK} {Q : VK} {r r' : Addr} {ns ns' : List Int} {ps ps' : List (List Int)} (R : RuleAt K C H r ns ps) (M : Mir ns) (S : Stp ns ps) (R' : RuleAt K C H r' ns' ps') (M' : Mir ns') (S' : Stp ns' ps')
    (h : ∀ (H' : Hp) (b : Bool) (o : Addr) (v : V), Same H H' → (b = true ↔ Pl ns ps ns' ps') → H' o = some (.tup [wd b, v]) → Q (.ref o) H') : spJ K C [.ref r, .ref r'] H Q E :=
  ⟨r, ns, ps, r', ns', ps', rfl, R, M, S, R', M', S', fun H1 o c s1 eo _ pl => h H1 true o _ s1 (iff_of_true rfl pl) eo, fun H1 o b k p ds s1 eo gk _ no na _ => h H1 false o _ s1 (iff_of_false (by decide) fun pl => (pl k p gk).elim na fun z => z no) eo⟩
theorem and_rd {te : TE} {σ : L2.St} {H : Hp} {Qc : VK} {b1 b2 : Bool} (hs : ∀ Q : VK, Q (.bl b2) H → te σ H Q) (h : Qc (.bl (b1 && b2)) H) : if b1 = true then te σ H Qc else Qc (.bl false) H := by
  cases b1
  · exact h
  · exact hs _ h
section
variable {P : Program} {w : World} {K : PySem.W.Frag} {mg : Str → Option Value} {base : Heap}
/-! ### law -/
abbrev nLaw : List Str := ["_law_script", "_law_k", "_law_hand_here", "_law_one_r", "_law_other_r", "_law_due", "_law_both_due"]
theorem scLaw : FnScope nLaw ["_law_script"] (defScope sLaw) := ⟨rfl, rfl, rfl, by decide +kernel, rfl, by decide +kernel, by decide +kernel⟩
def spLaw (K : PySem.W.Frag) : Sp := fun vs H Q _ => ∃ (a : Addr) (ns : List Int), vs = [.ref a] ∧ SqL K H a (ns.map V.int) ∧ ns.length ≤ 63 ∧ ∀ H', Q (.bl true) H'
theorem ok_law {f C fH fU fO fT fD fI fM fJ fL fA : Addr} {fd dH dU dO dT dD dI dM dJ dL dA : FuncData} (F : Fun K "law" "law" sLaw f fd) (T : Txt K mg C) (B : Bare mg)
    (DH : DefAt K mg "_law_hand" sHand ["_law_script", "_law_k"] fH dH) (DU : DefAt K mg "_law_rule" sRule ["_law_hand_here", "_law_least", "_law_most"] fU dU) (GU : FnOk P w K mg base CX0 3 fU dU ["_law_hand_here", "_law_least", "_law_most"] (spRu K))
    (DO : DefAt K mg "_law_of" sOf ["_law_hand_here", "_law_some"] fO dO) (DD : DefAt K mg "_law_take" sDraw ["_law_hand_here", "_law_many"] fD dD) (DT : DefAt K mg "_law_told_rule" sTold ["_law_number"] fT dT) (GT : FnOk P w K mg base CX0 2 fT dT ["_law_number"] (spTo K))
    (Mm : Mk K C fI) (bI : Binds K dI ["self", "mirrors", "steps"] []) (GI : FnOk P w K mg base CX0 6 fI dI ["self", "mirrors", "steps"] (spInit K C)) (DM : DefAt K mg "_law_made" sMade ["_law_rule_r"] fM dM)
    (DJ : DefAt K mg "judged" sJudged ["rule", "other"] fJ dJ) (GJ : FnOk P w K mg base CX0 13 fJ dJ ["rule", "other"] (spJ K C))
    (DL : DefAt K mg "leads" sLeads ["rule", "other"] fL dL) (GL : FnOk P w K mg base CX0 14 fL dL ["rule", "other"] (spLe K C))
    (DA : DefAt K mg "as_good" sAsGood ["one", "other"] fA dA) (GA : FnOk P w K mg base CX0 15 fA dA ["one", "other"] (spAg K C)) : FnG P w K mg base CX0 16 f fd ["_law_script"] (spLaw K) := by
  have GH : FnOk P w K mg base CX0 1 fH dH ["_law_script", "_law_k"] (spHand K) := ok_hand DH.fn B
  have GO : FnOk P w K mg base CX0 2 fO dO ["_law_hand_here", "_law_some"] (spOf K) := ok_of DO.fn DD B
  have GM : FnOk P w K mg base CX0 8 fM dM ["_law_rule_r"] (spMade K C) := ok_made DM.fn T Mm bI GI B
  refine okG F scLaw (fun vs H Q E h => ?_) (fun cdv A outer s H vs Q E gd hr h => ?_)
  · obtain ⟨a, ns, rfl, _⟩ := h
    rfl
  · obtain ⟨a, cs, rfl, hS, hlen, q⟩ := h
    have r1 := hr.mono (show 1 ≤ 15 by decide)
    have r2 := hr.mono (show 2 ≤ 15 by decide)
    have r3 := hr.mono (show 3 ≤ 15 by decide)
    have r8 := hr.mono (show 8 ≤ 15 by decide)
    have r13 := hr.mono (show 13 ≤ 15 by decide)
    have r14 := hr.mono (show 14 ≤ 15 by decide)
    have hu := un65 hr
    have five : (5 : Nat) ≤ sizeLine := by decide
    have one_le : (1 : Nat) ≤ sizeLine := by decide
    refine ⟨_, pss_cons (ps_for PassesOwn.never rfl (pi_range1 (by rfl) B.range (pa_cons (pe_callB (call_max2 rfl) (by rfl) B.max (by decide +kernel) (pa_cons pe_int (pa_cons (pe_callB (call_min2 rfl) (by rfl) B.min (by decide +kernel) (pa_cons pe_int (pa_cons (pe_callB call_len_seq (by rfl) B.len PySem.boot_len (pa_cons (pv 0) pa_nil)) pa_nil))) pa_nil))) pa_nil)) (pg_name (i := 1) scLaw.nd rfl (Or.inl rfl))
        (pss_cons (ps_set (i := 2) scLaw.nd rfl (Or.inl rfl) (pe_call GH r1 (by rfl) DH.mg DH.fn.kp DH.bi .nil pass0 (pa_cons (pv 0) (pa_cons (pv 1) pa_nil))))
        (pss_cons (ps_set (i := 3) scLaw.nd rfl (Or.inl rfl) (pe_call GM r8 (by rfl) DM.mg DM.fn.kp DM.bi .nil pass0 (pa_cons (pe_call GU r3 (by rfl) DU.mg DU.fn.kp DU.bi .nil pass0 (pa_cons (pv 2) (pa_cons pe_int (pa_cons pe_int pa_nil)))) pa_nil)))
        (pss_cons (ps_set (i := 4) scLaw.nd rfl (Or.inl rfl) (pe_call GM r8 (by rfl) DM.mg DM.fn.kp DM.bi .nil pass0 (pa_cons (pe_call GT r2 (by rfl) DT.mg DT.fn.kp DT.bi .nil pass0 (pa_cons (pe_call GO r2 (by rfl) DO.mg DO.fn.kp DO.bi .nil pass0 (pa_cons (pv 2) (pa_cons (pe_lst (pa_cons pe_int (pa_cons pe_int (pa_cons pe_int (pa_cons pe_int (pa_cons pe_int pa_nil)))))) pa_nil))) pa_nil)) pa_nil)))
        (pss_cons (ps_set (i := 5) scLaw.nd rfl (Or.inl rfl) (pe_lst (pa_cons (pe_cmpR op_eq (pe_ix ix_tup (pe_call GJ r13 (by rfl) DJ.mg DJ.fn.kp DJ.bi .nil pass0 (pa_cons (pv 3) (pa_cons (pv 4) pa_nil))) pe_int (fun _ _ => rfl)) pe_str (nomark _)) (pa_cons (pe_cmpR op_eq (pe_ix ix_tup (pe_call GJ r13 (by rfl) DJ.mg DJ.fn.kp DJ.bi .nil pass0 (pa_cons (pv 4) (pa_cons (pv 3) pa_nil))) pe_int (fun _ _ => rfl)) pe_str (nomark _)) pa_nil))))
        (pss_cons (ps_if (pt_cmpR op_ne (pe_callB (call_reprD gd hu) (by rfl) B.repr (by decide +kernel) (pa_cons (pe_lst (pa_cons (pe_call GL r14 (by rfl) DL.mg DL.fn.kp DL.bi .nil pass0 (pa_cons (pv 3) (pa_cons (pv 4) pa_nil))) (pa_cons (pe_callKw0 GL r14 (by rfl) DL.mg DL.fn.kp (kb_leads DL.fn) pass0 (pk_cons (pv 3) (pk_cons (pv 4) pk_nil))) pa_nil))) pa_nil)) (pe_callB (call_reprD gd hu) (by rfl) B.repr (by decide +kernel) (pa_cons (pv 5) pa_nil)) (nomark _)) (pss_one (ps_ret pe_bl)) pss_nil)
        (pss_cons (ps_set (i := 6) scLaw.nd rfl (Or.inl rfl) (pe_op op_rep (pe_lst (pa_cons (pe_and (pe_ix ix_list (pv 5) pe_int (fun _ _ => rfl)) (pe_one (pe_ix ix_list (pv 5) pe_int (fun _ _ => rfl)))) pa_nil)) pe_int))
        (pss_cons (ps_if (pt_cmpR op_ne (pe_callB (call_reprD gd hu) (by rfl) B.repr (by decide +kernel) (pa_cons (pe_lst (pa_cons (pe_call GA hr (by rfl) DA.mg DA.fn.kp DA.bi .nil pass0 (pa_cons (pv 3) (pa_cons (pv 4) pa_nil))) (pa_cons (pe_callKw0 GA hr (by rfl) DA.mg DA.fn.kp (kb_as DA.fn) pass0 (pk_cons (pv 3) (pk_cons (pv 4) pk_nil))) pa_nil))) pa_nil)) (pe_callB (call_reprD gd hu) (by rfl) B.repr (by decide +kernel) (pa_cons (pv 6) pa_nil)) (nomark _)) (pss_one (ps_ret pe_bl)) pss_nil)
        (pss_one (ps_if (PW.pt (pw_or (pt_cmpR op_isnot_bl (pe_call GL r14 (by rfl) DL.mg DL.fn.kp DL.bi .nil pass0 (pa_cons (pv 3) (pa_cons (pv 3) pa_nil))) pe_bl (nomark _)) (pw_or1 (pt_cmpR op_isnot_bl (pe_call GA hr (by rfl) DA.mg DA.fn.kp DA.bi .nil pass0 (pa_cons (pv 3) (pa_cons (pv 3) pa_nil))) pe_bl (nomark _))))) (pss_one (ps_ret pe_bl)) pss_nil))))))))))
      (pss_one (ps_ret pe_bl)), ?_⟩
    refine ⟨.ref a, rfl, a, _, rfl, .inl hS, 2, _, rfl, 1, _, rfl, ?_⟩
    have vb : ∀ n : Int, 0 ≤ n → n ≤ 63 → 1 ≤ (if (if n < 2 then n else 2) > 1 then (if n < 2 then n else 2) else 1) ∧ (if (if n < 2 then n else 2) > 1 then (if n < 2 then n else 2) else 1) ≤ 2 := fun n _ _ => by
      split <;> split <;> omega
    have vb1 := vb ((cs.map V.int).length : Int) (by omega) (by rw [List.length_map]; omega)
    generalize (if (if ((cs.map V.int).length : Int) < 2 then ((cs.map V.int).length : Int) else 2) > 1 then (if ((cs.map V.int).length : Int) < 2 then ((cs.map V.int).length : Int) else 2) else 1) = nk at vb1 ⊢
    refine ⟨nk, rfl, by omega, by omega, ?_⟩
    refine for_range (lo := 0) (n := nk.toNat) (fun i σ H' => ∃ (y1 y2 y3 y4 y5 y6 : Option V), σ = [some (.ref a), y1, y2, y3, y4, y5, y6] ∧ Same H H') ⟨none, none, none, none, none, none, rfl, Same.refl H⟩ (fun i σ H1 hi h => ?_) (fun σ H1 h => ?_)
    · obtain ⟨y1, y2, y3, y4, y5, y6, rfl, s1⟩ := h
      rw [show (0 + ((i : Nat) : Int)) = (i : Int) by omega]
      refine ⟨.ref a, rfl, .int (i : Int), rfl, a, cs, i, rfl, s1.seq hS, by omega, fun H2 p s2 np hp => ?_⟩
      have npH : H p = none := s1.free np
      refine ⟨.ref p, rfl, p, 0, rfl, hp, by omega, fun H3 R1 t3 ns ps hp3 ht3 b3 O1 => ?_⟩
      have s03 := same_but (s1.trans s2) npH b3
      refine ⟨R1, ns, ps, rfl, O1, fun H4 r s4 Rr => ?_⟩
      obtain ⟨_, _, _, _, _, M, S⟩ := O1
      have hp4 := pail_same hp3 s4
      refine ⟨.ref p, rfl, five, fun l nl => ?_⟩
      have sl := same_upd (o := .lst [.int 0, .int 1, .int 2, .int 4, .int 5]) nl
      have hp5 := pail_same hp4 sl
      have el : (upd H4 l (.lst [.int 0, .int 1, .int 2, .int 4, .int 5])) l = some (.lst [.int 0, .int 1, .int 2, .int 4, .int 5]) := upd_same
      have s05 := (s03.trans s4).trans sl
      have Rr5 := Rr.same sl
      generalize upd H4 l (.lst [.int 0, .int 1, .int 2, .int 4, .int 5]) = H5 at sl hp5 el s05 Rr5 ⊢
      refine ⟨p, l, t3, _, rfl, hp5, by omega, lstNew el, pail_ne hp4 nl, (by decide : 0 < [V.int 0, V.int 1, V.int 2, V.int 4, V.int 5].length), by decide, fun j v t6 H6 gv ht6 hp6 b6 => ?_⟩
      obtain ⟨c, rfl, hc⟩ : ∃ c : Nat, v = .int (c : Int) ∧ (c = 0 ∨ c = 1 ∨ c = 2 ∨ c = 4 ∨ c = 5) := by
        match j, gv with
        | 0, gv => cases gv; exact ⟨0, rfl, by decide⟩
        | 1, gv => cases gv; exact ⟨1, rfl, by decide⟩
        | 2, gv => cases gv; exact ⟨2, rfl, by decide⟩
        | 3, gv => cases gv; exact ⟨4, rfl, by decide⟩
        | 4, gv => cases gv; exact ⟨5, rfl, by decide⟩
        | j + 5, gv => cases gv
      have s06 := same_but s05 npH b6
      have Rr6 := rule_pail Rr5 hp5 b6
      refine ⟨c, rfl, hc, fun H7 R2 ns' ps' s7 O2 => ⟨R2, ns', ps', rfl, O2, fun H8 r' s8 Rr' => ?_⟩⟩
      obtain ⟨_, _, _, _, _, M', S'⟩ := O2
      have Rr8 := Rr6.same (s7.trans s8)
      have s08 := (s06.trans s7).trans s8
      refine ⟨.ref r, rfl, .ref r', rfl, ?_⟩
      unfold tNil
      refine j_use (E := E0) Rr8 M S Rr' M' S' fun H9 b1 o1 v1 s9 h1 eo1 => ?_
      refine ⟨o1, _, 0, wd b1, rfl, rfl, tupNew eo1, atI_nat (j := 0) rfl, rfl, ?_⟩
      rw [wd_dec]
      refine ⟨.ref r', rfl, .ref r, rfl, ?_⟩
      dsimp only
      refine j_use (E := E0) (Rr'.same s9) M' S' (Rr8.same s9) M S fun H10 b2 o2 v2 s10 h2 eo2 => ?_
      refine ⟨o2, _, 0, wd b2, rfl, rfl, tupNew eo2, atI_nat (j := 0) rfl, rfl, ?_⟩
      rw [wd_dec]
      refine ⟨two_le, fun L nL => ?_⟩
      have sL := same_upd (o := .lst [.bl b1, .bl b2]) nL
      have eL : (upd H10 L (.lst [.bl b1, .bl b2])) L = some (.lst [.bl b1, .bl b2]) := upd_same
      generalize upd H10 L (.lst [.bl b1, .bl b2]) = H11 at sL eL ⊢
      have s811 := (s9.trans s10).trans sL
      have Ra := Rr8.same s811
      have Rb := Rr'.same s811
      have s011 := s08.trans s811
      clear eo1 eo2 nL nl el
      refine ⟨.ref r, rfl, .ref r', rfl, r, ns, ps, r', ns', ps', rfl, Ra, M, S, Rb, M', S', fun H12 b3 s12 h3 => ?_⟩
      refine ⟨.ref r, rfl, .ref r', rfl, r', ns', ps', r, ns, ps, rfl, Rb.same s12, M', S', Ra.same s12, M, S, fun H13 b4 s13 h4 => ⟨two_le, fun L2 nL2 => ?_⟩⟩
      obtain rfl := bsame h3 h1
      obtain rfl := bsame h4 h2
      have sL2 := same_upd (o := .lst [.bl b3, .bl b4]) nL2
      have s1114 := (s12.trans s13).trans sL2
      refine ⟨L2, dd b3 b4, rfl, dd_dp upd_same, (dd_ok b3 b4).1, (dd_ok b3 b4).2.1, (dd_ok b3 b4).2.2.1, (dd_ok b3 b4).2.2.2, ?_⟩
      generalize upd H13 L2 (.lst [.bl b3, .bl b4]) = H14 at sL2 s1114 ⊢
      have eL14 := s1114 _ _ eL
      refine ⟨.ref L, rfl, L, dd b3 b4, rfl, dd_dp eL14, (dd_ok b3 b4).1, (dd_ok b3 b4).2.1, (dd_ok b3 b4).2.2.1, (dd_ok b3 b4).2.2.2, rfl, _, rfl, ?_⟩
      rw [decide_eq_true rfl]
      refine iteF ⟨.ref L, rfl, L, _, 0, .bl b3, rfl, rfl, lstNew eL14, rfl, b3, rfl, and_rd (b2 := b4) (fun Q k => ⟨.ref L, rfl, L, _, 1, .bl b4, rfl, rfl, lstNew eL14, rfl, k⟩) ?_⟩
      refine ⟨one_le, fun L3 nL3 => ?_⟩
      have sL3 := same_upd (o := .lst [.bl (b3 && b4)]) nL3
      have eL3 : (upd H14 L3 (.lst [.bl (b3 && b4)])) L3 = some (.lst [.bl (b3 && b4)]) := upd_same
      generalize upd H14 L3 (.lst [.bl (b3 && b4)]) = H15 at sL3 eL3 ⊢
      refine ⟨L3, 2, _, rfl, rfl, eL3, by decide, by decide, two_le, fun L4 nL4 => ?_⟩
      generalize hH16 : upd H15 L4 _ = H16
      have sL4 : Same H15 H16 := by rw [← hH16]; exact same_upd nL4
      have eL4 : H16 L4 = some (.lst [.bl (b3 && b4), .bl (b3 && b4)]) := by rw [← hH16]; exact upd_same
      clear hH16 nL4 nL3 eL3 eL14 eL
      have s1116 := (s1114.trans sL3).trans sL4
      have Rc := Ra.same s1116
      have Rd := Rb.same s1116
      have hc2 : (b3 && b4) = true ↔ Pl ns ps ns' ps' ∧ Pl ns' ps' ns ps := by rw [Bool.and_eq_true, h1, h2]
      generalize (b3 && b4) = bc at hc2 eL4 ⊢
      refine ⟨.ref r, rfl, .ref r', rfl, r, ns, ps, r', ns', ps', rfl, Rc, M, S, Rd, M', S', fun H17 b5 s17 h5 => ?_⟩
      refine ⟨.ref r, rfl, .ref r', rfl, r', ns', ps', r, ns, ps, rfl, Rd.same s17, M', S', Rc.same s17, M, S, fun H18 b6 s18 h6 => ⟨two_le, fun L5 nL5 => ?_⟩⟩
      obtain rfl := bsame h5 hc2
      obtain rfl := bsame h6 (hc2.trans and_comm)
      have sL5 := same_upd (o := .lst [.bl b6, .bl b6]) nL5
      have s1619 := (s17.trans s18).trans sL5
      refine ⟨L5, dd b6 b6, rfl, dd_dp upd_same, (dd_ok b6 b6).1, (dd_ok b6 b6).2.1, (dd_ok b6 b6).2.2.1, (dd_ok b6 b6).2.2.2, ?_⟩
      generalize upd H18 L5 (.lst [.bl b6, .bl b6]) = H19 at sL5 s1619 ⊢
      have eL6 := s1619 _ _ eL4
      refine ⟨.ref L4, rfl, L4, dd b6 b6, rfl, dd_dp eL6, (dd_ok b6 b6).1, (dd_ok b6 b6).2.1, (dd_ok b6 b6).2.2.1, (dd_ok b6 b6).2.2.2, rfl, _, rfl, ?_⟩
      rw [decide_eq_true rfl]
      have Re := Rc.same s1619
      refine iteF ⟨.ref r, rfl, .ref r, rfl, r, ns, ps, r, ns, ps, rfl, Re, M, S, Re, M, S, fun H20 b7 s20 h7 => ?_⟩
      obtain rfl := h7.mpr (pl_self M S)
      refine ⟨true, true, rfl, rfl, _, rfl, iteF (A := True) ?_⟩
      refine ⟨.ref r, rfl, .ref r, rfl, r, ns, ps, r, ns, ps, rfl, Re.same s20, M, S, Re.same s20, M, S, fun H21 b8 s21 h8 => ?_⟩
      obtain rfl := h8.mpr ⟨pl_self M S, pl_self M S⟩
      refine ⟨true, true, rfl, rfl, _, rfl, iteF ?_⟩
      exact ⟨_, _, _, _, _, _, rfl, (s011.trans s1116).trans (s1619.trans (s20.trans s21))⟩
    · exact q H1
end
end K44
set_option maxHeartbeats 4000000
namespace K44
open PySem PySem.Spec PyProof.Rows L2 RV
theorem def_mk {K : PySem.W.Frag} {h : Heap} {mg : Str → Option Value} {x : Str} {st : Stmt} {ps : List Str} {f : Addr} {oc : Value} {od an : Option Addr} {sl : Array (Option Value)} {kV dc pm cd ct : Value} (X : K.In h) (G : h.Ns mainGlobals mg)
    (a : PySem.W.nsIn K mainGlobals x = some (some (.ref f))) (l : K.lookup f = some ⟨oc, od, .func (PySem.W.fnOf x x (defArgs st) (defBody st) (defScope st) .none kV dc pm an cd ct), sl⟩) (c : PySem.W.codeIn K cd x = true) (k : PySem.W.keepIn K (.ref f) = true)
    (hb : ∀ (kV doc pm : Value) (an : Option Addr) (cdv ct : Value) (us : List Value), us.length = ps.length → bindArgs (PySem.W.fnOf x x (defArgs st) (defBody st) (defScope st) .none kV doc pm an cdv ct) ⟨us, []⟩ = pure (ps.zip us)) :
    DefAt K mg x st ps f (PySem.W.fnOf x x (defArgs st) (defBody st) (defScope st) .none kV dc pm an cd ct) :=
  let F := fun_mk (st := st) l c k
  ⟨F, F.binds hb, PySem.W.mg_of X G a⟩
theorem all_mk {l : PySem.W.OpenLaw} {w : World} {K : PySem.W.Frag} {h : Heap} {mg : Str → Option Value} {fa C f1 f2 f3 f4 f5 f6 f7 f8 f9 f10 f11 f12 f13 f14 f15 f16 f17 f18 f19 f20 f21 f22 f23 f24 f25 f26 f27 f28 f29 f30 f31 f32 f33 f34 f35 f36 f37 f38 f39 f40 f41 f42 f43 f44 f45 f46 f47 f48 f49 f50 f51 f52 f53 f54 f55 f56 f57 f58 f59 f60 f61 f62 f63 f64 f65 f66 f67 f68 f69 : Addr} {tk : Tok} (X : K.In h) (G : h.Ns mainGlobals mg) (hfa : mg "law" = some (.ref fa))
    {od1 an1 od2 an2 od3 an3 od4 an4 od5 an5 od6 an6 od7 an7 od8 an8 od9 an9 od10 an10 od11 an11 od12 an12 od13 an13 od14 an14 od15 an15 od16 an16 od17 an17 od18 an18 od19 an19 od20 an20 od21 an21 od22 an22 od23 an23 od24 an24 od25 an25 od26 an26 od27 an27 od28 an28 od29 an29 od30 an30 od31 an31 od32 an32 od33 an33 od34 an34 od35 an35 od36 an36 od37 an37 od38 an38 od39 an39 od40 an40 od41 an41 od42 an42 od43 an43 od44 an44 od45 an45 od46 an46 od47 an47 od48 an48 od49 an49 od50 an50 od51 an51 od52 an52 od53 an53 od54 an54 od55 an55 od56 an56 od57 an57 od58 an58 od59 an59 od60 an60 od61 an61 od62 an62 od63 an63 od64 an64 od65 an65 od66 an66 od67 an67 od68 an68 od69 an69 : Option Addr} {sl1 sl2 sl3 sl4 sl5 sl6 sl7 sl8 sl9 sl10 sl11 sl12 sl13 sl14 sl15 sl16 sl17 sl18 sl19 sl20 sl21 sl22 sl23 sl24 sl25 sl26 sl27 sl28 sl29 sl30 sl31 sl32 sl33 sl34 sl35 sl36 sl37 sl38 sl39 sl40 sl41 sl42 sl43 sl44 sl45 sl46 sl47 sl48 sl49 sl50 sl51 sl52 sl53 sl54 sl55 sl56 sl57 sl58 sl59 sl60 sl61 sl62 sl63 sl64 sl65 sl66 sl67 sl68 sl69 : Array (Option Value)}
    {oc1 kV1 dc1 pm1 cd1 ct1 oc2 kV2 dc2 pm2 cd2 ct2 oc3 kV3 dc3 pm3 cd3 ct3 oc4 kV4 dc4 pm4 cd4 ct4 oc5 kV5 dc5 pm5 cd5 ct5 oc6 kV6 dc6 pm6 cd6 ct6 oc7 kV7 dc7 pm7 cd7 ct7 oc8 kV8 dc8 pm8 cd8 ct8 oc9 kV9 dc9 pm9 cd9 ct9 oc10 kV10 dc10 pm10 cd10 ct10 oc11 kV11 dc11 pm11 cd11 ct11 oc12 kV12 dc12 pm12 cd12 ct12 oc13 kV13 dc13 pm13 cd13 ct13 oc14 kV14 dc14 pm14 cd14 ct14 oc15 kV15 dc15 pm15 cd15 ct15 oc16 kV16 dc16 pm16 cd16 ct16 oc17 kV17 dc17 pm17 cd17 ct17 oc18 kV18 dc18 pm18 cd18 ct18 oc19 kV19 dc19 pm19 cd19 ct19 oc20 kV20 dc20 pm20 cd20 ct20 oc21 kV21 dc21 pm21 cd21 ct21 oc22 kV22 dc22 pm22 cd22 ct22 oc23 kV23 dc23 pm23 cd23 ct23 oc24 kV24 dc24 pm24 cd24 ct24 oc25 kV25 dc25 pm25 cd25 ct25 oc26 kV26 dc26 pm26 cd26 ct26 oc27 kV27 dc27 pm27 cd27 ct27 oc28 kV28 dc28 pm28 cd28 ct28 oc29 kV29 dc29 pm29 cd29 ct29 oc30 kV30 dc30 pm30 cd30 ct30 oc31 kV31 dc31 pm31 cd31 ct31 oc32 kV32 dc32 pm32 cd32 ct32 oc33 kV33 dc33 pm33 cd33 ct33 oc34 kV34 dc34 pm34 cd34 ct34 oc35 kV35 dc35 pm35 cd35 ct35 oc36 kV36 dc36 pm36 cd36 ct36 oc37 kV37 dc37 pm37 cd37 ct37 oc38 kV38 dc38 pm38 cd38 ct38 oc39 kV39 dc39 pm39 cd39 ct39 oc40 kV40 dc40 pm40 cd40 ct40 oc41 kV41 dc41 pm41 cd41 ct41 oc42 kV42 dc42 pm42 cd42 ct42 oc43 kV43 dc43 pm43 cd43 ct43 oc44 kV44 dc44 pm44 cd44 ct44 oc45 kV45 dc45 pm45 cd45 ct45 oc46 kV46 dc46 pm46 cd46 ct46 oc47 kV47 dc47 pm47 cd47 ct47 oc48 kV48 dc48 pm48 cd48 ct48 oc49 kV49 dc49 pm49 cd49 ct49 oc50 kV50 dc50 pm50 cd50 ct50 oc51 kV51 dc51 pm51 cd51 ct51 oc52 kV52 dc52 pm52 cd52 ct52 oc53 kV53 dc53 pm53 cd53 ct53 oc54 kV54 dc54 pm54 cd54 ct54 oc55 kV55 dc55 pm55 cd55 ct55 oc56 kV56 dc56 pm56 cd56 ct56 oc57 kV57 dc57 pm57 cd57 ct57 oc58 kV58 dc58 pm58 cd58 ct58 oc59 kV59 dc59 pm59 cd59 ct59 oc60 kV60 dc60 pm60 cd60 ct60 oc61 kV61 dc61 pm61 cd61 ct61 oc62 kV62 dc62 pm62 cd62 ct62 oc63 kV63 dc63 pm63 cd63 ct63 oc64 kV64 dc64 pm64 cd64 ct64 oc65 kV65 dc65 pm65 cd65 ct65 oc66 kV66 dc66 pm66 cd66 ct66 oc67 kV67 dc67 pm67 cd67 ct67 oc68 kV68 dc68 pm68 cd68 ct68 oc69 kV69 dc69 pm69 cd69 ct69 : Value}
    (a1 : PySem.W.nsIn K mainGlobals "is_whole" = some (some (.ref f1)))
    (l1 : K.lookup f1 = some ⟨oc1, od1, .func (PySem.W.fnOf "is_whole" "is_whole" (defArgs sWhole) (defBody sWhole) (defScope sWhole) .none kV1 dc1 pm1 an1 cd1 ct1), sl1⟩)
    (c1 : PySem.W.codeIn K cd1 "is_whole" = true)
    (k1 : PySem.W.keepIn K (.ref f1) = true)
    (a2 : PySem.W.nsIn K mainGlobals "is_below" = some (some (.ref f2)))
    (l2 : K.lookup f2 = some ⟨oc2, od2, .func (PySem.W.fnOf "is_below" "is_below" (defArgs sMark) (defBody sMark) (defScope sMark) .none kV2 dc2 pm2 an2 cd2 ct2), sl2⟩)
    (c2 : PySem.W.codeIn K cd2 "is_below" = true)
    (k2 : PySem.W.keepIn K (.ref f2) = true)
    (a3 : PySem.W.nsIn K mainGlobals "are_marks" = some (some (.ref f3)))
    (l3 : K.lookup f3 = some ⟨oc3, od3, .func (PySem.W.fnOf "are_marks" "are_marks" (defArgs sMarks) (defBody sMarks) (defScope sMarks) .none kV3 dc3 pm3 an3 cd3 ct3), sl3⟩)
    (c3 : PySem.W.codeIn K cd3 "are_marks" = true)
    (k3 : PySem.W.keepIn K (.ref f3) = true)
    (a4 : PySem.W.nsIn K mainGlobals "are_mirrors" = some (some (.ref f4)))
    (l4 : K.lookup f4 = some ⟨oc4, od4, .func (PySem.W.fnOf "are_mirrors" "are_mirrors" (defArgs sMirrors) (defBody sMirrors) (defScope sMirrors) .none kV4 dc4 pm4 an4 cd4 ct4), sl4⟩)
    (c4 : PySem.W.codeIn K cd4 "are_mirrors" = true)
    (k4 : PySem.W.keepIn K (.ref f4) = true)
    (a5 : PySem.W.nsIn K mainGlobals "are_steps" = some (some (.ref f5)))
    (l5 : K.lookup f5 = some ⟨oc5, od5, .func (PySem.W.fnOf "are_steps" "are_steps" (defArgs sSteps) (defBody sSteps) (defScope sSteps) .none kV5 dc5 pm5 an5 cd5 ct5), sl5⟩)
    (c5 : PySem.W.codeIn K cd5 "are_steps" = true)
    (k5 : PySem.W.keepIn K (.ref f5) = true)
    (a6 : PySem.W.nsIn K mainGlobals "is_step" = some (some (.ref f6)))
    (l6 : K.lookup f6 = some ⟨oc6, od6, .func (PySem.W.fnOf "is_step" "is_step" (defArgs sStep) (defBody sStep) (defScope sStep) .none kV6 dc6 pm6 an6 cd6 ct6), sl6⟩)
    (c6 : PySem.W.codeIn K cd6 "is_step" = true)
    (k6 : PySem.W.keepIn K (.ref f6) = true)
    (a7 : PySem.W.nsIn K mainGlobals "is_rising" = some (some (.ref f7)))
    (l7 : K.lookup f7 = some ⟨oc7, od7, .func (PySem.W.fnOf "is_rising" "is_rising" (defArgs sRising) (defBody sRising) (defScope sRising) .none kV7 dc7 pm7 an7 cd7 ct7), sl7⟩)
    (c7 : PySem.W.codeIn K cd7 "is_rising" = true)
    (k7 : PySem.W.keepIn K (.ref f7) = true)
    (a8 : PySem.W.nsIn K mainGlobals "marks_behind" = some (some (.ref f8)))
    (l8 : K.lookup f8 = some ⟨oc8, od8, .func (PySem.W.fnOf "marks_behind" "marks_behind" (defArgs sBehind) (defBody sBehind) (defScope sBehind) .none kV8 dc8 pm8 an8 cd8 ct8), sl8⟩)
    (c8 : PySem.W.codeIn K cd8 "marks_behind" = true)
    (k8 : PySem.W.keepIn K (.ref f8) = true)
    (a9 : PySem.W.nsIn K mainGlobals "led_to" = some (some (.ref f9)))
    (l9 : K.lookup f9 = some ⟨oc9, od9, .func (PySem.W.fnOf "led_to" "led_to" (defArgs sLed) (defBody sLed) (defScope sLed) .none kV9 dc9 pm9 an9 cd9 ct9), sl9⟩)
    (c9 : PySem.W.codeIn K cd9 "led_to" = true)
    (k9 : PySem.W.keepIn K (.ref f9) = true)
    (a10 : PySem.W.nsIn K mainGlobals "parts" = some (some (.ref f10)))
    (l10 : K.lookup f10 = some ⟨oc10, od10, .func (PySem.W.fnOf "parts" "parts" (defArgs sParts) (defBody sParts) (defScope sParts) .none kV10 dc10 pm10 an10 cd10 ct10), sl10⟩)
    (c10 : PySem.W.codeIn K cd10 "parts" = true)
    (k10 : PySem.W.keepIn K (.ref f10) = true)
    (a11 : PySem.W.nsIn K mainGlobals "part_of" = some (some (.ref f11)))
    (l11 : K.lookup f11 = some ⟨oc11, od11, .func (PySem.W.fnOf "part_of" "part_of" (defArgs sPartOf) (defBody sPartOf) (defScope sPartOf) .none kV11 dc11 pm11 an11 cd11 ct11), sl11⟩)
    (c11 : PySem.W.codeIn K cd11 "part_of" = true)
    (k11 : PySem.W.keepIn K (.ref f11) = true)
    (a12 : PySem.W.nsIn K mainGlobals "mirror_part" = some (some (.ref f12)))
    (l12 : K.lookup f12 = some ⟨oc12, od12, .func (PySem.W.fnOf "mirror_part" "mirror_part" (defArgs sMirrorPart) (defBody sMirrorPart) (defScope sMirrorPart) .none kV12 dc12 pm12 an12 cd12 ct12), sl12⟩)
    (c12 : PySem.W.codeIn K cd12 "mirror_part" = true)
    (k12 : PySem.W.keepIn K (.ref f12) = true)
    (a13 : PySem.W.nsIn K mainGlobals "is_own_mirror" = some (some (.ref f13)))
    (l13 : K.lookup f13 = some ⟨oc13, od13, .func (PySem.W.fnOf "is_own_mirror" "is_own_mirror" (defArgs sIsOwn) (defBody sIsOwn) (defScope sIsOwn) .none kV13 dc13 pm13 an13 cd13 ct13), sl13⟩)
    (c13 : PySem.W.codeIn K cd13 "is_own_mirror" = true)
    (k13 : PySem.W.keepIn K (.ref f13) = true)
    (a14 : PySem.W.nsIn K mainGlobals "steps_off" = some (some (.ref f14)))
    (l14 : K.lookup f14 = some ⟨oc14, od14, .func (PySem.W.fnOf "steps_off" "steps_off" (defArgs sOff) (defBody sOff) (defScope sOff) .none kV14 dc14 pm14 an14 cd14 ct14), sl14⟩)
    (c14 : PySem.W.codeIn K cd14 "steps_off" = true)
    (k14 : PySem.W.keepIn K (.ref f14) = true)
    (a15 : PySem.W.nsIn K mainGlobals "common_measure" = some (some (.ref f15)))
    (l15 : K.lookup f15 = some ⟨oc15, od15, .func (PySem.W.fnOf "common_measure" "common_measure" (defArgs sMeasure) (defBody sMeasure) (defScope sMeasure) .none kV15 dc15 pm15 an15 cd15 ct15), sl15⟩)
    (c15 : PySem.W.codeIn K cd15 "common_measure" = true)
    (k15 : PySem.W.keepIn K (.ref f15) = true)
    (a16 : PySem.W.nsIn K mainGlobals "period" = some (some (.ref f16)))
    (l16 : K.lookup f16 = some ⟨oc16, od16, .func (PySem.W.fnOf "period" "period" (defArgs sPeriod) (defBody sPeriod) (defScope sPeriod) .none kV16 dc16 pm16 an16 cd16 ct16), sl16⟩)
    (c16 : PySem.W.codeIn K cd16 "period" = true)
    (k16 : PySem.W.keepIn K (.ref f16) = true)
    (a17 : PySem.W.nsIn K mainGlobals "classes" = some (some (.ref f17)))
    (l17 : K.lookup f17 = some ⟨oc17, od17, .func (PySem.W.fnOf "classes" "classes" (defArgs sClasses) (defBody sClasses) (defScope sClasses) .none kV17 dc17 pm17 an17 cd17 ct17), sl17⟩)
    (c17 : PySem.W.codeIn K cd17 "classes" = true)
    (k17 : PySem.W.keepIn K (.ref f17) = true)
    (a18 : PySem.W.nsIn K mainGlobals "class_of" = some (some (.ref f18)))
    (l18 : K.lookup f18 = some ⟨oc18, od18, .func (PySem.W.fnOf "class_of" "class_of" (defArgs sClassOf) (defBody sClassOf) (defScope sClassOf) .none kV18 dc18 pm18 an18 cd18 ct18), sl18⟩)
    (c18 : PySem.W.codeIn K cd18 "class_of" = true)
    (k18 : PySem.W.keepIn K (.ref f18) = true)
    (a19 : PySem.W.nsIn K mainGlobals "turning" = some (some (.ref f19)))
    (l19 : K.lookup f19 = some ⟨oc19, od19, .func (PySem.W.fnOf "turning" "turning" (defArgs sTurning) (defBody sTurning) (defScope sTurning) .none kV19 dc19 pm19 an19 cd19 ct19), sl19⟩)
    (c19 : PySem.W.codeIn K cd19 "turning" = true)
    (k19 : PySem.W.keepIn K (.ref f19) = true)
    (a20 : PySem.W.nsIn K mainGlobals "is_at_axis" = some (some (.ref f20)))
    (l20 : K.lookup f20 = some ⟨oc20, od20, .func (PySem.W.fnOf "is_at_axis" "is_at_axis" (defArgs sIsAt) (defBody sIsAt) (defScope sIsAt) .none kV20 dc20 pm20 an20 cd20 ct20), sl20⟩)
    (c20 : PySem.W.codeIn K cd20 "is_at_axis" = true)
    (k20 : PySem.W.keepIn K (.ref f20) = true)
    (a21 : PySem.W.nsIn K mainGlobals "axis_classes" = some (some (.ref f21)))
    (l21 : K.lookup f21 = some ⟨oc21, od21, .func (PySem.W.fnOf "axis_classes" "axis_classes" (defArgs sAxisC) (defBody sAxisC) (defScope sAxisC) .none kV21 dc21 pm21 an21 cd21 ct21), sl21⟩)
    (c21 : PySem.W.codeIn K cd21 "axis_classes" = true)
    (k21 : PySem.W.keepIn K (.ref f21) = true)
    (a22 : PySem.W.nsIn K mainGlobals "ends_at_once" = some (some (.ref f22)))
    (l22 : K.lookup f22 = some ⟨oc22, od22, .func (PySem.W.fnOf "ends_at_once" "ends_at_once" (defArgs sAtOnce) (defBody sAtOnce) (defScope sAtOnce) .none kV22 dc22 pm22 an22 cd22 ct22), sl22⟩)
    (c22 : PySem.W.codeIn K cd22 "ends_at_once" = true)
    (k22 : PySem.W.keepIn K (.ref f22) = true)
    (a23 : PySem.W.nsIn K mainGlobals "ends_of_steps" = some (some (.ref f23)))
    (l23 : K.lookup f23 = some ⟨oc23, od23, .func (PySem.W.fnOf "ends_of_steps" "ends_of_steps" (defArgs sOfSteps) (defBody sOfSteps) (defScope sOfSteps) .none kV23 dc23 pm23 an23 cd23 ct23), sl23⟩)
    (c23 : PySem.W.codeIn K cd23 "ends_of_steps" = true)
    (k23 : PySem.W.keepIn K (.ref f23) = true)
    (a24 : PySem.W.nsIn K mainGlobals "ends_behind" = some (some (.ref f24)))
    (l24 : K.lookup f24 = some ⟨oc24, od24, .func (PySem.W.fnOf "ends_behind" "ends_behind" (defArgs sEndsBehind) (defBody sEndsBehind) (defScope sEndsBehind) .none kV24 dc24 pm24 an24 cd24 ct24), sl24⟩)
    (c24 : PySem.W.codeIn K cd24 "ends_behind" = true)
    (k24 : PySem.W.keepIn K (.ref f24) = true)
    (a25 : PySem.W.nsIn K mainGlobals "ends_of_walks" = some (some (.ref f25)))
    (l25 : K.lookup f25 = some ⟨oc25, od25, .func (PySem.W.fnOf "ends_of_walks" "ends_of_walks" (defArgs sOfWalks) (defBody sOfWalks) (defScope sOfWalks) .none kV25 dc25 pm25 an25 cd25 ct25), sl25⟩)
    (c25 : PySem.W.codeIn K cd25 "ends_of_walks" = true)
    (k25 : PySem.W.keepIn K (.ref f25) = true)
    (a26 : PySem.W.nsIn K mainGlobals "beginnings" = some (some (.ref f26)))
    (l26 : K.lookup f26 = some ⟨oc26, od26, .func (PySem.W.fnOf "beginnings" "beginnings" (defArgs sBegin) (defBody sBegin) (defScope sBegin) .none kV26 dc26 pm26 an26 cd26 ct26), sl26⟩)
    (c26 : PySem.W.codeIn K cd26 "beginnings" = true)
    (k26 : PySem.W.keepIn K (.ref f26) = true)
    (a27 : PySem.W.nsIn K mainGlobals "leads_into" = some (some (.ref f27)))
    (l27 : K.lookup f27 = some ⟨oc27, od27, .func (PySem.W.fnOf "leads_into" "leads_into" (defArgs sLeadsInto) (defBody sLeadsInto) (defScope sLeadsInto) .none kV27 dc27 pm27 an27 cd27 ct27), sl27⟩)
    (c27 : PySem.W.codeIn K cd27 "leads_into" = true)
    (k27 : PySem.W.keepIn K (.ref f27) = true)
    (a28 : PySem.W.nsIn K mainGlobals "least_between" = some (some (.ref f28)))
    (l28 : K.lookup f28 = some ⟨oc28, od28, .func (PySem.W.fnOf "least_between" "least_between" (defArgs sBetween) (defBody sBetween) (defScope sBetween) .none kV28 dc28 pm28 an28 cd28 ct28), sl28⟩)
    (c28 : PySem.W.codeIn K cd28 "least_between" = true)
    (k28 : PySem.W.keepIn K (.ref f28) = true)
    (a29 : PySem.W.nsIn K mainGlobals "least_walk" = some (some (.ref f29)))
    (l29 : K.lookup f29 = some ⟨oc29, od29, .func (PySem.W.fnOf "least_walk" "least_walk" (defArgs sLeastW) (defBody sLeastW) (defScope sLeastW) .none kV29 dc29 pm29 an29 cd29 ct29), sl29⟩)
    (c29 : PySem.W.codeIn K cd29 "least_walk" = true)
    (k29 : PySem.W.keepIn K (.ref f29) = true)
    (a30 : PySem.W.nsIn K mainGlobals "half_starts" = some (some (.ref f30)))
    (l30 : K.lookup f30 = some ⟨oc30, od30, .func (PySem.W.fnOf "half_starts" "half_starts" (defArgs sHalfS) (defBody sHalfS) (defScope sHalfS) .none kV30 dc30 pm30 an30 cd30 ct30), sl30⟩)
    (c30 : PySem.W.codeIn K cd30 "half_starts" = true)
    (k30 : PySem.W.keepIn K (.ref f30) = true)
    (a31 : PySem.W.nsIn K mainGlobals "half_ends" = some (some (.ref f31)))
    (l31 : K.lookup f31 = some ⟨oc31, od31, .func (PySem.W.fnOf "half_ends" "half_ends" (defArgs sHalfE) (defBody sHalfE) (defScope sHalfE) .none kV31 dc31 pm31 an31 cd31 ct31), sl31⟩)
    (c31 : PySem.W.codeIn K cd31 "half_ends" = true)
    (k31 : PySem.W.keepIn K (.ref f31) = true)
    (a32 : PySem.W.nsIn K mainGlobals "half_steps" = some (some (.ref f32)))
    (l32 : K.lookup f32 = some ⟨oc32, od32, .func (PySem.W.fnOf "half_steps" "half_steps" (defArgs sHalfN) (defBody sHalfN) (defScope sHalfN) .none kV32 dc32 pm32 an32 cd32 ct32), sl32⟩)
    (c32 : PySem.W.codeIn K cd32 "half_steps" = true)
    (k32 : PySem.W.keepIn K (.ref f32) = true)
    (a33 : PySem.W.nsIn K mainGlobals "least_half" = some (some (.ref f33)))
    (l33 : K.lookup f33 = some ⟨oc33, od33, .func (PySem.W.fnOf "least_half" "least_half" (defArgs sLeastH) (defBody sLeastH) (defScope sLeastH) .none kV33 dc33 pm33 an33 cd33 ct33), sl33⟩)
    (c33 : PySem.W.codeIn K cd33 "least_half" = true)
    (k33 : PySem.W.keepIn K (.ref f33) = true)
    (a34 : PySem.W.nsIn K mainGlobals "half_axis" = some (some (.ref f34)))
    (l34 : K.lookup f34 = some ⟨oc34, od34, .func (PySem.W.fnOf "half_axis" "half_axis" (defArgs sHalfAx) (defBody sHalfAx) (defScope sHalfAx) .none kV34 dc34 pm34 an34 cd34 ct34), sl34⟩)
    (c34 : PySem.W.codeIn K cd34 "half_axis" = true)
    (k34 : PySem.W.keepIn K (.ref f34) = true)
    (a35 : PySem.W.nsIn K mainGlobals "unfolded" = some (some (.ref f35)))
    (l35 : K.lookup f35 = some ⟨oc35, od35, .func (PySem.W.fnOf "unfolded" "unfolded" (defArgs sUnf) (defBody sUnf) (defScope sUnf) .none kV35 dc35 pm35 an35 cd35 ct35), sl35⟩)
    (c35 : PySem.W.codeIn K cd35 "unfolded" = true)
    (k35 : PySem.W.keepIn K (.ref f35) = true)
    (a36 : PySem.W.nsIn K mainGlobals "mirror_sizes" = some (some (.ref f36)))
    (l36 : K.lookup f36 = some ⟨oc36, od36, .func (PySem.W.fnOf "mirror_sizes" "mirror_sizes" (defArgs sMSizes) (defBody sMSizes) (defScope sMSizes) .none kV36 dc36 pm36 an36 cd36 ct36), sl36⟩)
    (c36 : PySem.W.codeIn K cd36 "mirror_sizes" = true)
    (k36 : PySem.W.keepIn K (.ref f36) = true)
    (a37 : PySem.W.nsIn K mainGlobals "come_back" = some (some (.ref f37)))
    (l37 : K.lookup f37 = some ⟨oc37, od37, .func (PySem.W.fnOf "come_back" "come_back" (defArgs sComeBack) (defBody sComeBack) (defScope sComeBack) .none kV37 dc37 pm37 an37 cd37 ct37), sl37⟩)
    (c37 : PySem.W.codeIn K cd37 "come_back" = true)
    (k37 : PySem.W.keepIn K (.ref f37) = true)
    (a38 : PySem.W.nsIn K mainGlobals "sizes" = some (some (.ref f38)))
    (l38 : K.lookup f38 = some ⟨oc38, od38, .func (PySem.W.fnOf "sizes" "sizes" (defArgs sSizes) (defBody sSizes) (defScope sSizes) .none kV38 dc38 pm38 an38 cd38 ct38), sl38⟩)
    (c38 : PySem.W.codeIn K cd38 "sizes" = true)
    (k38 : PySem.W.keepIn K (.ref f38) = true)
    (a39 : PySem.W.nsIn K mainGlobals "least_ring" = some (some (.ref f39)))
    (l39 : K.lookup f39 = some ⟨oc39, od39, .func (PySem.W.fnOf "least_ring" "least_ring" (defArgs sLeastR) (defBody sLeastR) (defScope sLeastR) .none kV39 dc39 pm39 an39 cd39 ct39), sl39⟩)
    (c39 : PySem.W.codeIn K cd39 "least_ring" = true)
    (k39 : PySem.W.keepIn K (.ref f39) = true)
    (a40 : PySem.W.nsIn K mainGlobals "span" = some (some (.ref f40)))
    (l40 : K.lookup f40 = some ⟨oc40, od40, .func (PySem.W.fnOf "span" "span" (defArgs sSpan) (defBody sSpan) (defScope sSpan) .none kV40 dc40 pm40 an40 cd40 ct40), sl40⟩)
    (c40 : PySem.W.codeIn K cd40 "span" = true)
    (k40 : PySem.W.keepIn K (.ref f40) = true)
    (a41 : PySem.W.nsIn K mainGlobals "lead_everywhere" = some (some (.ref f41)))
    (l41 : K.lookup f41 = some ⟨oc41, od41, .func (PySem.W.fnOf "lead_everywhere" "lead_everywhere" (defArgs sLead) (defBody sLead) (defScope sLead) .none kV41 dc41 pm41 an41 cd41 ct41), sl41⟩)
    (c41 : PySem.W.codeIn K cd41 "lead_everywhere" = true)
    (k41 : PySem.W.keepIn K (.ref f41) = true)
    (a42 : PySem.W.nsIn K mainGlobals "far_enough" = some (some (.ref f42)))
    (l42 : K.lookup f42 = some ⟨oc42, od42, .func (PySem.W.fnOf "far_enough" "far_enough" (defArgs sFarE) (defBody sFarE) (defScope sFarE) .none kV42 dc42 pm42 an42 cd42 ct42), sl42⟩)
    (c42 : PySem.W.codeIn K cd42 "far_enough" = true)
    (k42 : PySem.W.keepIn K (.ref f42) = true)
    (a43 : PySem.W.nsIn K mainGlobals "lacking_size" = some (some (.ref f43)))
    (l43 : K.lookup f43 = some ⟨oc43, od43, .func (PySem.W.fnOf "lacking_size" "lacking_size" (defArgs sLackS) (defBody sLackS) (defScope sLackS) .none kV43 dc43 pm43 an43 cd43 ct43), sl43⟩)
    (c43 : PySem.W.codeIn K cd43 "lacking_size" = true)
    (k43 : PySem.W.keepIn K (.ref f43) = true)
    (a44 : PySem.W.nsIn K mainGlobals "turning_shifts" = some (some (.ref f44)))
    (l44 : K.lookup f44 = some ⟨oc44, od44, .func (PySem.W.fnOf "turning_shifts" "turning_shifts" (defArgs sTShifts) (defBody sTShifts) (defScope sTShifts) .none kV44 dc44 pm44 an44 cd44 ct44), sl44⟩)
    (c44 : PySem.W.codeIn K cd44 "turning_shifts" = true)
    (k44 : PySem.W.keepIn K (.ref f44) = true)
    (a45 : PySem.W.nsIn K mainGlobals "lacking_mirror" = some (some (.ref f45)))
    (l45 : K.lookup f45 = some ⟨oc45, od45, .func (PySem.W.fnOf "lacking_mirror" "lacking_mirror" (defArgs sLackM) (defBody sLackM) (defScope sLackM) .none kV45 dc45 pm45 an45 cd45 ct45), sl45⟩)
    (c45 : PySem.W.codeIn K cd45 "lacking_mirror" = true)
    (k45 : PySem.W.keepIn K (.ref f45) = true)
    (a46 : PySem.W.nsIn K mainGlobals "shifted_axis" = some (some (.ref f46)))
    (l46 : K.lookup f46 = some ⟨oc46, od46, .func (PySem.W.fnOf "shifted_axis" "shifted_axis" (defArgs sShAxis) (defBody sShAxis) (defScope sShAxis) .none kV46 dc46 pm46 an46 cd46 ct46), sl46⟩)
    (c46 : PySem.W.codeIn K cd46 "shifted_axis" = true)
    (k46 : PySem.W.keepIn K (.ref f46) = true)
    (a47 : PySem.W.nsIn K mainGlobals "good_shifts" = some (some (.ref f47)))
    (l47 : K.lookup f47 = some ⟨oc47, od47, .func (PySem.W.fnOf "good_shifts" "good_shifts" (defArgs sGoodSh) (defBody sGoodSh) (defScope sGoodSh) .none kV47 dc47 pm47 an47 cd47 ct47), sl47⟩)
    (c47 : PySem.W.codeIn K cd47 "good_shifts" = true)
    (k47 : PySem.W.keepIn K (.ref f47) = true)
    (a48 : PySem.W.nsIn K mainGlobals "mirror_pair" = some (some (.ref f48)))
    (l48 : K.lookup f48 = some ⟨oc48, od48, .func (PySem.W.fnOf "mirror_pair" "mirror_pair" (defArgs sMPair) (defBody sMPair) (defScope sMPair) .none kV48 dc48 pm48 an48 cd48 ct48), sl48⟩)
    (c48 : PySem.W.codeIn K cd48 "mirror_pair" = true)
    (k48 : PySem.W.keepIn K (.ref f48) = true)
    (a49 : PySem.W.nsIn K mainGlobals "judged" = some (some (.ref f49)))
    (l49 : K.lookup f49 = some ⟨oc49, od49, .func (PySem.W.fnOf "judged" "judged" (defArgs sJudged) (defBody sJudged) (defScope sJudged) .none kV49 dc49 pm49 an49 cd49 ct49), sl49⟩)
    (c49 : PySem.W.codeIn K cd49 "judged" = true)
    (k49 : PySem.W.keepIn K (.ref f49) = true)
    (a50 : PySem.W.nsIn K mainGlobals "first_pair" = some (some (.ref f50)))
    (l50 : K.lookup f50 = some ⟨oc50, od50, .func (PySem.W.fnOf "first_pair" "first_pair" (defArgs sFirstP) (defBody sFirstP) (defScope sFirstP) .none kV50 dc50 pm50 an50 cd50 ct50), sl50⟩)
    (c50 : PySem.W.codeIn K cd50 "first_pair" = true)
    (k50 : PySem.W.keepIn K (.ref f50) = true)
    (a51 : PySem.W.nsIn K mainGlobals "paper_of" = some (some (.ref f51)))
    (l51 : K.lookup f51 = some ⟨oc51, od51, .func (PySem.W.fnOf "paper_of" "paper_of" (defArgs sPaperOf) (defBody sPaperOf) (defScope sPaperOf) .none kV51 dc51 pm51 an51 cd51 ct51), sl51⟩)
    (c51 : PySem.W.codeIn K cd51 "paper_of" = true)
    (k51 : PySem.W.keepIn K (.ref f51) = true)
    (a52 : PySem.W.nsIn K mainGlobals "reason_of" = some (some (.ref f52)))
    (l52 : K.lookup f52 = some ⟨oc52, od52, .func (PySem.W.fnOf "reason_of" "reason_of" (defArgs sReasonOf) (defBody sReasonOf) (defScope sReasonOf) .none kV52 dc52 pm52 an52 cd52 ct52), sl52⟩)
    (c52 : PySem.W.codeIn K cd52 "reason_of" = true)
    (k52 : PySem.W.keepIn K (.ref f52) = true)
    (a53 : PySem.W.nsIn K mainGlobals "way_to_mirror" = some (some (.ref f53)))
    (l53 : K.lookup f53 = some ⟨oc53, od53, .func (PySem.W.fnOf "way_to_mirror" "way_to_mirror" (defArgs sWayTo) (defBody sWayTo) (defScope sWayTo) .none kV53 dc53 pm53 an53 cd53 ct53), sl53⟩)
    (c53 : PySem.W.codeIn K cd53 "way_to_mirror" = true)
    (k53 : PySem.W.keepIn K (.ref f53) = true)
    (a54 : PySem.W.nsIn K mainGlobals "mirror_ring" = some (some (.ref f54)))
    (l54 : K.lookup f54 = some ⟨oc54, od54, .func (PySem.W.fnOf "mirror_ring" "mirror_ring" (defArgs sMRing) (defBody sMRing) (defScope sMRing) .none kV54 dc54 pm54 an54 cd54 ct54), sl54⟩)
    (c54 : PySem.W.codeIn K cd54 "mirror_ring" = true)
    (k54 : PySem.W.keepIn K (.ref f54) = true)
    (a55 : PySem.W.nsIn K mainGlobals "leads" = some (some (.ref f55)))
    (l55 : K.lookup f55 = some ⟨oc55, od55, .func (PySem.W.fnOf "leads" "leads" (defArgs sLeads) (defBody sLeads) (defScope sLeads) .none kV55 dc55 pm55 an55 cd55 ct55), sl55⟩)
    (c55 : PySem.W.codeIn K cd55 "leads" = true)
    (k55 : PySem.W.keepIn K (.ref f55) = true)
    (a56 : PySem.W.nsIn K mainGlobals "as_good" = some (some (.ref f56)))
    (l56 : K.lookup f56 = some ⟨oc56, od56, .func (PySem.W.fnOf "as_good" "as_good" (defArgs sAsGood) (defBody sAsGood) (defScope sAsGood) .none kV56 dc56 pm56 an56 cd56 ct56), sl56⟩)
    (c56 : PySem.W.codeIn K cd56 "as_good" = true)
    (k56 : PySem.W.keepIn K (.ref f56) = true)
    (a57 : PySem.W.nsIn K mainGlobals "_law_hand" = some (some (.ref f57)))
    (l57 : K.lookup f57 = some ⟨oc57, od57, .func (PySem.W.fnOf "_law_hand" "_law_hand" (defArgs sHand) (defBody sHand) (defScope sHand) .none kV57 dc57 pm57 an57 cd57 ct57), sl57⟩)
    (c57 : PySem.W.codeIn K cd57 "_law_hand" = true)
    (k57 : PySem.W.keepIn K (.ref f57) = true)
    (a58 : PySem.W.nsIn K mainGlobals "_law_take" = some (some (.ref f58)))
    (l58 : K.lookup f58 = some ⟨oc58, od58, .func (PySem.W.fnOf "_law_take" "_law_take" (defArgs sDraw) (defBody sDraw) (defScope sDraw) .none kV58 dc58 pm58 an58 cd58 ct58), sl58⟩)
    (c58 : PySem.W.codeIn K cd58 "_law_take" = true)
    (k58 : PySem.W.keepIn K (.ref f58) = true)
    (a59 : PySem.W.nsIn K mainGlobals "_law_of" = some (some (.ref f59)))
    (l59 : K.lookup f59 = some ⟨oc59, od59, .func (PySem.W.fnOf "_law_of" "_law_of" (defArgs sOf) (defBody sOf) (defScope sOf) .none kV59 dc59 pm59 an59 cd59 ct59), sl59⟩)
    (c59 : PySem.W.codeIn K cd59 "_law_of" = true)
    (k59 : PySem.W.keepIn K (.ref f59) = true)
    (a60 : PySem.W.nsIn K mainGlobals "_law_closed" = some (some (.ref f60)))
    (l60 : K.lookup f60 = some ⟨oc60, od60, .func (PySem.W.fnOf "_law_closed" "_law_closed" (defArgs sClosed) (defBody sClosed) (defScope sClosed) .none kV60 dc60 pm60 an60 cd60 ct60), sl60⟩)
    (c60 : PySem.W.codeIn K cd60 "_law_closed" = true)
    (k60 : PySem.W.keepIn K (.ref f60) = true)
    (a61 : PySem.W.nsIn K mainGlobals "_law_mirrors" = some (some (.ref f61)))
    (l61 : K.lookup f61 = some ⟨oc61, od61, .func (PySem.W.fnOf "_law_mirrors" "_law_mirrors" (defArgs sDMirrors) (defBody sDMirrors) (defScope sDMirrors) .none kV61 dc61 pm61 an61 cd61 ct61), sl61⟩)
    (c61 : PySem.W.codeIn K cd61 "_law_mirrors" = true)
    (k61 : PySem.W.keepIn K (.ref f61) = true)
    (a62 : PySem.W.nsIn K mainGlobals "_law_rule" = some (some (.ref f62)))
    (l62 : K.lookup f62 = some ⟨oc62, od62, .func (PySem.W.fnOf "_law_rule" "_law_rule" (defArgs sRule) (defBody sRule) (defScope sRule) .none kV62 dc62 pm62 an62 cd62 ct62), sl62⟩)
    (c62 : PySem.W.codeIn K cd62 "_law_rule" = true)
    (k62 : PySem.W.keepIn K (.ref f62) = true)
    (a63 : PySem.W.nsIn K mainGlobals "_law_told_rule" = some (some (.ref f63)))
    (l63 : K.lookup f63 = some ⟨oc63, od63, .func (PySem.W.fnOf "_law_told_rule" "_law_told_rule" (defArgs sTold) (defBody sTold) (defScope sTold) .none kV63 dc63 pm63 an63 cd63 ct63), sl63⟩)
    (c63 : PySem.W.codeIn K cd63 "_law_told_rule" = true)
    (k63 : PySem.W.keepIn K (.ref f63) = true)
    (a64 : PySem.W.nsIn K mainGlobals "_law_made" = some (some (.ref f64)))
    (l64 : K.lookup f64 = some ⟨oc64, od64, .func (PySem.W.fnOf "_law_made" "_law_made" (defArgs sMade) (defBody sMade) (defScope sMade) .none kV64 dc64 pm64 an64 cd64 ct64), sl64⟩)
    (c64 : PySem.W.codeIn K cd64 "_law_made" = true)
    (k64 : PySem.W.keepIn K (.ref f64) = true)
    (a65 : PySem.W.nsIn K mainGlobals "law" = some (some (.ref f65)))
    (l65 : K.lookup f65 = some ⟨oc65, od65, .func (PySem.W.fnOf "law" "law" (defArgs sLaw) (defBody sLaw) (defScope sLaw) .none kV65 dc65 pm65 an65 cd65 ct65), sl65⟩)
    (c65 : PySem.W.codeIn K cd65 "law" = true)
    (k65 : PySem.W.keepIn K (.ref f65) = true)
    (aC : PySem.W.nsIn K mainGlobals "Rule" = some (some (.ref C)))
    (a66 : PySem.W.findIn K (.ref C) "__init__" = some (some (.ref f66)))
    (i66 : PySem.W.isFn K (.ref f66) = true)
    (l66 : K.lookup f66 = some ⟨oc66, od66, .func (PySem.W.fnOf "__init__" "Rule.__init__" (defArgs sInit) (defBody sInit) (defScope sInit) .none kV66 dc66 pm66 an66 cd66 ct66), sl66⟩)
    (c66 : PySem.W.codeIn K cd66 "Rule.__init__" = true)
    (k66 : PySem.W.keepIn K (.ref f66) = true)
    (a67 : PySem.W.findIn K (.ref C) "marks" = some (some (.ref f67)))
    (i67 : PySem.W.isFn K (.ref f67) = true)
    (l67 : K.lookup f67 = some ⟨oc67, od67, .func (PySem.W.fnOf "marks" "Rule.marks" (defArgs sMarksM) (defBody sMarksM) (defScope sMarksM) .none kV67 dc67 pm67 an67 cd67 ct67), sl67⟩)
    (c67 : PySem.W.codeIn K cd67 "Rule.marks" = true)
    (k67 : PySem.W.keepIn K (.ref f67) = true)
    (a68 : PySem.W.findIn K (.ref C) "mirror" = some (some (.ref f68)))
    (i68 : PySem.W.isFn K (.ref f68) = true)
    (l68 : K.lookup f68 = some ⟨oc68, od68, .func (PySem.W.fnOf "mirror" "Rule.mirror" (defArgs sMirrorM) (defBody sMirrorM) (defScope sMirrorM) .none kV68 dc68 pm68 an68 cd68 ct68), sl68⟩)
    (c68 : PySem.W.codeIn K cd68 "Rule.mirror" = true)
    (k68 : PySem.W.keepIn K (.ref f68) = true)
    (a69 : PySem.W.findIn K (.ref C) "behind" = some (some (.ref f69)))
    (i69 : PySem.W.isFn K (.ref f69) = true)
    (l69 : K.lookup f69 = some ⟨oc69, od69, .func (PySem.W.fnOf "behind" "Rule.behind" (defArgs sBehindM) (defBody sBehindM) (defScope sBehindM) .none kV69 dc69 pm69 an69 cd69 ct69), sl69⟩)
    (c69 : PySem.W.codeIn K cd69 "Rule.behind" = true)
    (k69 : PySem.W.keepIn K (.ref f69) = true)
    (pg : PySem.W.plainGet K C Str.empty = true)
    (hd : PySem.W.hasDictIn K C = true)
    (po : PySem.W.plainOver K C = true)
    (sa : PySem.W.findIn K (.ref C) "__setattr__" = some (some (.builtin "object.__setattr__")))
    (mk : PySem.W.makesIn K C = true)
    (kc : PySem.W.keepIn K (.ref C) = true)
    (nM : PySem.W.findIn K (.ref C) "mirrors" = some none)
    (nS : PySem.W.findIn K (.ref C) "steps" = some none)
    (nF : PySem.W.findIn K (.ref C) "followers" = some none)
    (t1 : PySem.W.findIn K (.ref C) "__class__" = some (some (.builtin "object.__class__")))
    (t2 : PySem.W.specialIn K (.builtin "object.__class__") "__get__" = some (some (.builtin "getset_descriptor.__get__")))
    (t3 : PySem.W.takesIn K (.builtin "object.__class__") = some true)
    (t4 : PySem.W.mroIn K C (.type "object") = some true)
    (mM : PySem.W.nsIn K mainGlobals "MOST_MARKS" = some (some (.int 8 tk)))
    (z0 : PySem.W.nsIn K mainGlobals "len" = some none)
    (z1 : PySem.W.nsIn K mainGlobals "isinstance" = some none)
    (z2 : PySem.W.nsIn K mainGlobals "int" = some none)
    (z3 : PySem.W.nsIn K mainGlobals "bool" = some none)
    (z4 : PySem.W.nsIn K mainGlobals "tuple" = some none)
    (z5 : PySem.W.nsIn K mainGlobals "all" = some none)
    (z6 : PySem.W.nsIn K mainGlobals "enumerate" = some none)
    (z7 : PySem.W.nsIn K mainGlobals "zip" = some none)
    (z8 : PySem.W.nsIn K mainGlobals "range" = some none)
    (z9 : PySem.W.nsIn K mainGlobals "list" = some none)
    (z10 : PySem.W.nsIn K mainGlobals "set" = some none)
    (z11 : PySem.W.nsIn K mainGlobals "sorted" = some none)
    (z12 : PySem.W.nsIn K mainGlobals "abs" = some none)
    (z13 : PySem.W.nsIn K mainGlobals "max" = some none)
    (z14 : PySem.W.nsIn K mainGlobals "min" = some none)
    (z15 : PySem.W.nsIn K mainGlobals "repr" = some none)
    (z16 : PySem.W.nsIn K mainGlobals "dict" = some none)
    (z17 : PySem.W.nsIn K mainGlobals "any" = some none)
    (z18 : PySem.W.nsIn K mainGlobals "str" = some none) :
    ∃ fd : FuncData, (∀ (s : Shared) (v : Value), BindsTo s fd ⟨[v], []⟩ [("_law_script", v)]) ∧ ∀ base : Heap, K.In base → base.Ns mainGlobals mg → FnG l.prog w K mg base CX0 16 fa fd ["_law_script"] (spLaw K) := by
  have e := hfa.symm.trans (PySem.W.mg_of X G a65)
  cases e
  have B : Bare mg := ⟨PySem.W.mg_none_of X G z0, PySem.W.mg_none_of X G z1, PySem.W.mg_none_of X G z2, PySem.W.mg_none_of X G z3, PySem.W.mg_none_of X G z4, PySem.W.mg_none_of X G z5, PySem.W.mg_none_of X G z6, PySem.W.mg_none_of X G z7, PySem.W.mg_none_of X G z8, PySem.W.mg_none_of X G z9, PySem.W.mg_none_of X G z10, PySem.W.mg_none_of X G z11, PySem.W.mg_none_of X G z12, PySem.W.mg_none_of X G z13, PySem.W.mg_none_of X G z14, PySem.W.mg_none_of X G z15, PySem.W.mg_none_of X G z16, PySem.W.mg_none_of X G z17, PySem.W.mg_none_of X G z18⟩
  have D1 := def_mk (st := sWhole) (ps := ["thing"]) X G a1 l1 c1 k1 fun _ _ _ _ _ _ us hl => match us, hl with | [_], _ => rfl
  have D2 := def_mk (st := sMark) (ps := ["thing", "many"]) X G a2 l2 c2 k2 fun _ _ _ _ _ _ us hl => match us, hl with | [_, _], _ => rfl
  have D3 := def_mk (st := sMarks) (ps := ["thing", "many"]) X G a3 l3 c3 k3 fun _ _ _ _ _ _ us hl => match us, hl with | [_, _], _ => rfl
  have D4 := def_mk (st := sMirrors) (ps := ["thing"]) X G a4 l4 c4 k4 fun _ _ _ _ _ _ us hl => match us, hl with | [_], _ => rfl
  have D5 := def_mk (st := sSteps) (ps := ["mirrors", "thing"]) X G a5 l5 c5 k5 fun _ _ _ _ _ _ us hl => match us, hl with | [_, _], _ => rfl
  have D6 := def_mk (st := sStep) (ps := ["thing", "many"]) X G a6 l6 c6 k6 fun _ _ _ _ _ _ us hl => match us, hl with | [_, _], _ => rfl
  have D7 := def_mk (st := sRising) (ps := ["pairs"]) X G a7 l7 c7 k7 fun _ _ _ _ _ _ us hl => match us, hl with | [_], _ => rfl
  have D8 := def_mk (st := sBehind) (ps := ["steps", "mark"]) X G a8 l8 c8 k8 fun _ _ _ _ _ _ us hl => match us, hl with | [_, _], _ => rfl
  have D9 := def_mk (st := sLed) (ps := ["rule", "mark"]) X G a9 l9 c9 k9 fun _ _ _ _ _ _ us hl => match us, hl with | [_, _], _ => rfl
  have D10 := def_mk (st := sParts) (ps := ["rule"]) X G a10 l10 c10 k10 fun _ _ _ _ _ _ us hl => match us, hl with | [_], _ => rfl
  have D11 := def_mk (st := sPartOf) (ps := ["rule", "mark"]) X G a11 l11 c11 k11 fun _ _ _ _ _ _ us hl => match us, hl with | [_, _], _ => rfl
  have D12 := def_mk (st := sMirrorPart) (ps := ["rule", "part"]) X G a12 l12 c12 k12 fun _ _ _ _ _ _ us hl => match us, hl with | [_, _], _ => rfl
  have D13 := def_mk (st := sIsOwn) (ps := ["rule", "part"]) X G a13 l13 c13 k13 fun _ _ _ _ _ _ us hl => match us, hl with | [_, _], _ => rfl
  have D14 := def_mk (st := sOff) (ps := ["rule", "marks"]) X G a14 l14 c14 k14 fun _ _ _ _ _ _ us hl => match us, hl with | [_, _], _ => rfl
  have D15 := def_mk (st := sMeasure) (ps := ["one", "other"]) X G a15 l15 c15 k15 fun _ _ _ _ _ _ us hl => match us, hl with | [_, _], _ => rfl
  have D16 := def_mk (st := sPeriod) (ps := ["rule", "part"]) X G a16 l16 c16 k16 fun _ _ _ _ _ _ us hl => match us, hl with | [_, _], _ => rfl
  have D17 := def_mk (st := sClasses) (ps := ["rule", "part"]) X G a17 l17 c17 k17 fun _ _ _ _ _ _ us hl => match us, hl with | [_, _], _ => rfl
  have D18 := def_mk (st := sClassOf) (ps := ["rule", "mark"]) X G a18 l18 c18 k18 fun _ _ _ _ _ _ us hl => match us, hl with | [_, _], _ => rfl
  have D19 := def_mk (st := sTurning) (ps := ["rule", "part"]) X G a19 l19 c19 k19 fun _ _ _ _ _ _ us hl => match us, hl with | [_, _], _ => rfl
  have D20 := def_mk (st := sIsAt) (ps := ["rule", "mark", "gap"]) X G a20 l20 c20 k20 fun _ _ _ _ _ _ us hl => match us, hl with | [_, _, _], _ => rfl
  have D21 := def_mk (st := sAxisC) (ps := ["rule", "part"]) X G a21 l21 c21 k21 fun _ _ _ _ _ _ us hl => match us, hl with | [_, _], _ => rfl
  have D22 := def_mk (st := sAtOnce) (ps := ["rule"]) X G a22 l22 c22 k22 fun _ _ _ _ _ _ us hl => match us, hl with | [_], _ => rfl
  have D23 := def_mk (st := sOfSteps) (ps := ["rule"]) X G a23 l23 c23 k23 fun _ _ _ _ _ _ us hl => match us, hl with | [_], _ => rfl
  have D24 := def_mk (st := sEndsBehind) (ps := ["first", "second"]) X G a24 l24 c24 k24 fun _ _ _ _ _ _ us hl => match us, hl with | [_, _], _ => rfl
  have D25 := def_mk (st := sOfWalks) (ps := ["rule", "n"]) X G a25 l25 c25 k25 fun _ _ _ _ _ _ us hl => match us, hl with | [_, _], _ => rfl
  have D26 := def_mk (st := sBegin) (ps := ["rule", "ends", "n"]) X G a26 l26 c26 k26 fun _ _ _ _ _ _ us hl => match us, hl with | [_, _, _], _ => rfl
  have D27 := def_mk (st := sLeadsInto) (ps := ["rule", "mark", "marks"]) X G a27 l27 c27 k27 fun _ _ _ _ _ _ us hl => match us, hl with | [_, _, _], _ => rfl
  have D28 := def_mk (st := sBetween) (ps := ["rule", "starts", "ends", "n"]) X G a28 l28 c28 k28 fun _ _ _ _ _ _ us hl => match us, hl with | [_, _, _, _], _ => rfl
  have D29 := def_mk (st := sLeastW) (ps := ["rule", "one", "other", "n"]) X G a29 l29 c29 k29 fun _ _ _ _ _ _ us hl => match us, hl with | [_, _, _, _], _ => rfl
  have D30 := def_mk (st := sHalfS) (ps := ["rule", "part", "first"]) X G a30 l30 c30 k30 fun _ _ _ _ _ _ us hl => match us, hl with | [_, _, _], _ => rfl
  have D31 := def_mk (st := sHalfE) (ps := ["rule", "first", "n"]) X G a31 l31 c31 k31 fun _ _ _ _ _ _ us hl => match us, hl with | [_, _, _], _ => rfl
  have D32 := def_mk (st := sHalfN) (ps := ["first", "n"]) X G a32 l32 c32 k32 fun _ _ _ _ _ _ us hl => match us, hl with | [_, _], _ => rfl
  have D33 := def_mk (st := sLeastH) (ps := ["rule", "part", "first", "n"]) X G a33 l33 c33 k33 fun _ _ _ _ _ _ us hl => match us, hl with | [_, _, _, _], _ => rfl
  have D34 := def_mk (st := sHalfAx) (ps := ["first", "n"]) X G a34 l34 c34 k34 fun _ _ _ _ _ _ us hl => match us, hl with | [_, _], _ => rfl
  have D35 := def_mk (st := sUnf) (ps := ["rule", "half", "first", "n"]) X G a35 l35 c35 k35 fun _ _ _ _ _ _ us hl => match us, hl with | [_, _, _, _], _ => rfl
  have D36 := def_mk (st := sMSizes) (ps := ["rule", "part", "first", "most"]) X G a36 l36 c36 k36 fun _ _ _ _ _ _ us hl => match us, hl with | [_, _, _, _], _ => rfl
  have D37 := def_mk (st := sComeBack) (ps := ["ends", "marks"]) X G a37 l37 c37 k37 fun _ _ _ _ _ _ us hl => match us, hl with | [_, _], _ => rfl
  have D38 := def_mk (st := sSizes) (ps := ["rule", "part", "most"]) X G a38 l38 c38 k38 fun _ _ _ _ _ _ us hl => match us, hl with | [_, _, _], _ => rfl
  have D39 := def_mk (st := sLeastR) (ps := ["rule", "part", "n"]) X G a39 l39 c39 k39 fun _ _ _ _ _ _ us hl => match us, hl with | [_, _, _], _ => rfl
  have D40 := def_mk (st := sSpan) (ps := ["rule", "part"]) X G a40 l40 c40 k40 fun _ _ _ _ _ _ us hl => match us, hl with | [_, _], _ => rfl
  have D41 := def_mk (st := sLead) (ps := ["ends", "known", "its_period", "n"]) X G a41 l41 c41 k41 fun _ _ _ _ _ _ us hl => match us, hl with | [_, _, _, _], _ => rfl
  have D42 := def_mk (st := sFarE) (ps := ["rule", "part", "other", "its"]) X G a42 l42 c42 k42 fun _ _ _ _ _ _ us hl => match us, hl with | [_, _, _, _], _ => rfl
  have D43 := def_mk (st := sLackS) (ps := ["rule", "part", "other", "its"]) X G a43 l43 c43 k43 fun _ _ _ _ _ _ us hl => match us, hl with | [_, _, _, _], _ => rfl
  have D44 := def_mk (st := sTShifts) (ps := ["rule", "part", "other", "its"]) X G a44 l44 c44 k44 fun _ _ _ _ _ _ us hl => match us, hl with | [_, _, _, _], _ => rfl
  have D45 := def_mk (st := sLackM) (ps := ["rule", "part", "other", "its", "shift"]) X G a45 l45 c45 k45 fun _ _ _ _ _ _ us hl => match us, hl with | [_, _, _, _, _], _ => rfl
  have D46 := def_mk (st := sShAxis) (ps := ["first", "shift", "its_period"]) X G a46 l46 c46 k46 fun _ _ _ _ _ _ us hl => match us, hl with | [_, _, _], _ => rfl
  have D47 := def_mk (st := sGoodSh) (ps := ["rule", "part", "other", "its"]) X G a47 l47 c47 k47 fun _ _ _ _ _ _ us hl => match us, hl with | [_, _, _, _], _ => rfl
  have D48 := def_mk (st := sMPair) (ps := ["rule", "part", "other", "pair"]) X G a48 l48 c48 k48 fun _ _ _ _ _ _ us hl => match us, hl with | [_, _, _, _], _ => rfl
  have D49 := def_mk (st := sJudged) (ps := ["rule", "other"]) X G a49 l49 c49 k49 fun _ _ _ _ _ _ us hl => match us, hl with | [_, _], _ => rfl
  have D50 := def_mk (st := sFirstP) (ps := ["rule", "part", "other"]) X G a50 l50 c50 k50 fun _ _ _ _ _ _ us hl => match us, hl with | [_, _, _], _ => rfl
  have D51 := def_mk (st := sPaperOf) (ps := ["rule", "part", "other"]) X G a51 l51 c51 k51 fun _ _ _ _ _ _ us hl => match us, hl with | [_, _, _], _ => rfl
  have D52 := def_mk (st := sReasonOf) (ps := ["rule", "part", "other", "its"]) X G a52 l52 c52 k52 fun _ _ _ _ _ _ us hl => match us, hl with | [_, _, _, _], _ => rfl
  have D53 := def_mk (st := sWayTo) (ps := ["rule", "mark"]) X G a53 l53 c53 k53 fun _ _ _ _ _ _ us hl => match us, hl with | [_, _], _ => rfl
  have D54 := def_mk (st := sMRing) (ps := ["rule", "part", "other", "its", "shift"]) X G a54 l54 c54 k54 fun _ _ _ _ _ _ us hl => match us, hl with | [_, _, _, _, _], _ => rfl
  have D55 := def_mk (st := sLeads) (ps := ["rule", "other"]) X G a55 l55 c55 k55 fun _ _ _ _ _ _ us hl => match us, hl with | [_, _], _ => rfl
  have D56 := def_mk (st := sAsGood) (ps := ["one", "other"]) X G a56 l56 c56 k56 fun _ _ _ _ _ _ us hl => match us, hl with | [_, _], _ => rfl
  have D57 := def_mk (st := sHand) (ps := ["_law_script", "_law_k"]) X G a57 l57 c57 k57 fun _ _ _ _ _ _ us hl => match us, hl with | [_, _], _ => rfl
  have D58 := def_mk (st := sDraw) (ps := ["_law_hand_here", "_law_many"]) X G a58 l58 c58 k58 fun _ _ _ _ _ _ us hl => match us, hl with | [_, _], _ => rfl
  have D59 := def_mk (st := sOf) (ps := ["_law_hand_here", "_law_some"]) X G a59 l59 c59 k59 fun _ _ _ _ _ _ us hl => match us, hl with | [_, _], _ => rfl
  have D60 := def_mk (st := sClosed) (ps := ["_law_mirrors_here", "_law_pairs"]) X G a60 l60 c60 k60 fun _ _ _ _ _ _ us hl => match us, hl with | [_, _], _ => rfl
  have D61 := def_mk (st := sDMirrors) (ps := ["_law_hand_here", "_law_many"]) X G a61 l61 c61 k61 fun _ _ _ _ _ _ us hl => match us, hl with | [_, _], _ => rfl
  have D62 := def_mk (st := sRule) (ps := ["_law_hand_here", "_law_least", "_law_most"]) X G a62 l62 c62 k62 fun _ _ _ _ _ _ us hl => match us, hl with | [_, _, _], _ => rfl
  have D63 := def_mk (st := sTold) (ps := ["_law_number"]) X G a63 l63 c63 k63 fun _ _ _ _ _ _ us hl => match us, hl with | [_], _ => rfl
  have D64 := def_mk (st := sMade) (ps := ["_law_rule_r"]) X G a64 l64 c64 k64 fun _ _ _ _ _ _ us hl => match us, hl with | [_], _ => rfl
  have F65 := fun_mk (st := sLaw) l65 c65 k65
  have F66 := fun_mk (st := sInit) l66 c66 k66
  have b66 := F66.binds (ps := ["self", "mirrors", "steps"]) fun _ _ _ _ _ _ us hl => match us, hl with | [_, _, _], _ => rfl
  have F67 := fun_mk (st := sMarksM) l67 c67 k67
  have b67 := F67.binds (ps := ["self"]) fun _ _ _ _ _ _ us hl => match us, hl with | [_], _ => rfl
  have F68 := fun_mk (st := sMirrorM) l68 c68 k68
  have b68 := F68.binds (ps := ["self", "mark"]) fun _ _ _ _ _ _ us hl => match us, hl with | [_, _], _ => rfl
  have F69 := fun_mk (st := sBehindM) l69 c69 k69
  have b69 := F69.binds (ps := ["self", "mark"]) fun _ _ _ _ _ _ us hl => match us, hl with | [_, _], _ => rfl
  have T : Txt K mg C := ⟨⟨pg, hd, po, sa⟩, nM, nS, nF, PySem.W.mg_of X G aC, t1, t2, t3, t4, kit_self⟩
  have mm := PySem.W.mg_of X G mM
  refine ⟨PySem.W.fnOf "law" "law" (defArgs sLaw) (defBody sLaw) (defScope sLaw) .none kV65 dc65 pm65 an65 cd65 ct65, fun s v => .of_eq rfl, fun base _ _ => ?_⟩
  have G3 : FnOk l.prog w K mg base CX0 3 f3 _ ["thing", "many"] (spMarks K) := ok_marks D3.fn D2 D1 B
  have G4 : FnOk l.prog w K mg base CX0 4 f4 _ ["thing"] (spMirrors K) := ok_mirrors D4.fn D3 G3 B mm
  have G6 : FnOk l.prog w K mg base CX0 4 f6 _ ["thing", "many"] (spStep K) := ok_step D6.fn D3 G3 B
  have G5 : FnOk l.prog w K mg base CX0 5 f5 _ ["mirrors", "thing"] (spSteps K) := ok_steps D5.fn D6 G6 D7 B
  have GI : FnOk l.prog w K mg base CX0 6 f66 _ ["self", "mirrors", "steps"] (spInit K C) := ok_init F66 T D4 G4 D5 G5 D8 B
  have GL : FnOk l.prog w K mg base CX0 2 f9 _ ["rule", "mark"] (spLed K C) := ok_led D9.fn T B F69 b69 ⟨a69, i69, k69⟩
  have GP : FnOk l.prog w K mg base CX0 3 f10 _ ["rule"] (spParts K C) := ok_parts D10.fn T B D9 GL F67 b67 ⟨a67, i67, k67⟩
  have GQ : FnOk l.prog w K mg base CX0 4 f11 _ ["rule", "mark"] (spPartOf K C) := ok_partOf D11.fn B D10 GP
  have GMP : FnOk l.prog w K mg base CX0 5 f12 _ ["rule", "part"] (spMirrorPart K C) := ok_mirrorPart D12.fn T D10 GP D11 GQ F68 b68 ⟨a68, i68, k68⟩
  have GIO : FnOk l.prog w K mg base CX0 6 f13 _ ["rule", "part"] (spIsOwn K C) := ok_isOwn D13.fn D12 GMP
  have GOF : FnOk l.prog w K mg base CX0 2 f14 _ ["rule", "marks"] (spOff K C) := ok_off D14.fn T B F69 b69 ⟨a69, i69, k69⟩
  have GPE : FnOk l.prog w K mg base CX0 4 f16 _ ["rule", "part"] (spPeriod K C) := ok_period D16.fn T B D10 GP D14 GOF D15
  have GCL : FnOk l.prog w K mg base CX0 5 f17 _ ["rule", "part"] (spClasses K C) := ok_classes D17.fn B D10 GP D14 GOF D16 GPE
  have GAT : FnOk l.prog w K mg base CX0 2 f20 _ ["rule", "mark", "gap"] (spIsAt K C) := ok_isAt D20.fn T F69 b69 ⟨a69, i69, k69⟩ F68 b68 ⟨a68, i68, k68⟩
  have GO : FnOk l.prog w K mg base CX0 2 f22 _ ["rule"] (spTab K C 0) := ok_once D22.fn T B F67 b67 ⟨a67, i67, k67⟩
  have GS : FnOk l.prog w K mg base CX0 2 f23 _ ["rule"] (spTab K C 1) := ok_ofst D23.fn T B F69 b69 ⟨a69, i69, k69⟩ F67 b67 ⟨a67, i67, k67⟩
  have GE : FnOk l.prog w K mg base CX0 3 f25 _ ["rule", "n"] (spOW K C) := ok_ow D25.fn D22 GO D23 GS D24 B
  have GWK : FnOk l.prog w K mg base CX0 5 f29 _ ["rule", "one", "other", "n"] (spLeastW K C) := ok_leastW D29.fn T B F69 b69 ⟨a69, i69, k69⟩ F67 b67 ⟨a67, i67, k67⟩ D27 D26 D28
  have GBW : FnOk l.prog w K mg base CX0 4 f28 _ ["rule", "starts", "ends", "n"] (spBetweenL K C) := ok_betweenL D28.fn T B F69 b69 ⟨a69, i69, k69⟩ F67 b67 ⟨a67, i67, k67⟩ D27 D26
  have GLR : FnOk l.prog w K mg base CX0 6 f39 _ ["rule", "part", "n"] (spLR K C) := ok_lr D39.fn B D10 GP D25 GE D37 D29 GWK
  have GHS : FnOk l.prog w K mg base CX0 7 f30 _ ["rule", "part", "first"] (spHS K C) := ok_hs D30.fn T B D13 GIO D10 GP D17 GCL D20 GAT F68 b68 ⟨a68, i68, k68⟩
  have GHE : FnOk l.prog w K mg base CX0 3 f31 _ ["rule", "first", "n"] (spHE K C) := ok_he D31.fn T B D20 GAT F67 b67 ⟨a67, i67, k67⟩
  have GLH : FnOk l.prog w K mg base CX0 8 f33 _ ["rule", "part", "first", "n"] (spLH K C) := ok_lh D33.fn D30 GHS D31 GHE D32 D28 GBW
  have GUN : FnOk l.prog w K mg base CX0 2 f35 _ ["rule", "half", "first", "n"] (spUn K C) := ok_un D35.fn T B D34 F68 b68 ⟨a68, i68, k68⟩
  have GCO : FnOk l.prog w K mg base CX0 6 f18 _ ["rule", "mark"] (spClassOf K C) := ok_classOf D18.fn D10 GP D11 GQ D17 GCL
  have GTU : FnOk l.prog w K mg base CX0 7 f19 _ ["rule", "part"] (spTurning K C) := ok_turning D19.fn T D10 GP D18 GCO D16 GPE F68 b68 ⟨a68, i68, k68⟩
  have GAX : FnOk l.prog w K mg base CX0 7 f21 _ ["rule", "part"] (spAx K C) := ok_ax D21.fn B D13 GIO D10 GP D17 GCL D20 GAT
  have GMZ : FnOk l.prog w K mg base CX0 8 f36 _ ["rule", "part", "first", "most"] (spMZ K C) := ok_mz D36.fn T B D30 GHS D31 GHE D32 F69 b69 ⟨a69, i69, k69⟩
  have GZ : FnOk l.prog w K mg base CX0 4 f38 _ ["rule", "part", "most"] (spSz K C) := ok_sz D38.fn B D10 GP D22 GO D23 GS D24 D37
  have GSP : FnOk l.prog w K mg base CX0 6 f40 _ ["rule", "part"] (spSpan K C) := ok_span D40.fn B D16 GPE D10 GP D17 GCL D23 GS D24 D41
  have GFE : FnOk l.prog w K mg base CX0 7 f42 _ ["rule", "part", "other", "its"] (spFE K C) := ok_fe D42.fn B D40 GSP D16 GPE
  have GLK : FnOk l.prog w K mg base CX0 8 f43 _ ["rule", "part", "other", "its"] (spLk K C) := ok_lk D43.fn B D42 GFE D38 GZ
  have GTS : FnOk l.prog w K mg base CX0 8 f44 _ ["rule", "part", "other", "its"] (spTSh K C) := ok_tsh D44.fn B D19 GTU D16 GPE
  have GLM : FnOk l.prog w K mg base CX0 9 f45 _ ["rule", "part", "other", "its", "shift"] (spLM K C) := ok_lm D45.fn B D42 GFE D21 GAX D36 GMZ D46 D16 GPE
  have GGS : FnOk l.prog w K mg base CX0 10 f47 _ ["rule", "part", "other", "its"] (spGS K C) := ok_gs D47.fn B D43 GLK D13 GIO D16 GPE D44 GTS D45 GLM
  have GWM : FnOk l.prog w K mg base CX0 6 f53 _ ["rule", "mark"] (spWM K C) := ok_wm D53.fn T D29 GWK F68 b68 ⟨a68, i68, k68⟩
  have GMR : FnOk l.prog w K mg base CX0 10 f54 _ ["rule", "part", "other", "its", "shift"] (spMR K C) := ok_mr D54.fn D45 GLM D33 GLH D35 GUN D34
  have GRO : FnOk l.prog w K mg base CX0 11 f52 _ ["rule", "part", "other", "its"] (spRO K C) := ok_ro D52.fn B D43 GLK D39 GLR D13 GIO D44 GTS D53 GWM D10 GP D54 GMR
  have GMQ : FnOk l.prog w K mg base CX0 8 f48 _ ["rule", "part", "other", "pair"] (spMP K C) := ok_mp D48.fn D19 GTU D12 GMP D16 GPE
  have GFP : FnOk l.prog w K mg base CX0 11 f50 _ ["rule", "part", "other"] (spFP K C) := ok_fp D50.fn B D10 GP D47 GGS
  have GPO : FnOk l.prog w K mg base CX0 12 f51 _ ["rule", "part", "other"] (spPO K C) := ok_po D51.fn B D10 GP D52 GRO
  have GJ : FnOk l.prog w K mg base CX0 13 f49 _ ["rule", "other"] (spJ K C) := ok_j D49.fn B D10 GP D12 GMP D48 GMQ D50 GFP D51 GPO
  have GLE : FnOk l.prog w K mg base CX0 14 f55 _ ["rule", "other"] (spLe K C) := ok_le D55.fn D49 GJ
  have GAG : FnOk l.prog w K mg base CX0 15 f56 _ ["one", "other"] (spAg K C) := ok_ag D56.fn D55 GLE
  have GU : FnOk l.prog w K mg base CX0 3 f62 _ ["_law_hand_here", "_law_least", "_law_most"] (spRu K) := ok_ru D62.fn D61 D60 D58 B
  have GTO : FnOk l.prog w K mg base CX0 2 f63 _ ["_law_number"] (spTo K) := ok_to D63.fn D60 B
  exact ok_law F65 T B D57 D62 GU D59 D58 D63 GTO ⟨mk, a66, i66, kc⟩ b66 GI D64 D49 GJ D55 GLE D56 GAG
end K44
open PySem PySem.W PyProof.Rows
set_option maxRecDepth 100000 in
set_option maxHeartbeats 0 in
theorem PySem.Challenge.cw_ringvouch_k44_who_leads_to_whom_holds : PySem.Challenge.rw_ringvouch_k44_who_leads_to_whom.Holds := by
  w_on; o_law; k_head; (case hw => w_witness2)
  k_fill
  refine RV.walk_G (l := PySem.Challenge.rw_ringvouch_k44_who_leads_to_whom) (n := 63) (k := 16) (x := "_law_script") (sp := fun w => K44.spLaw _) rfl (by decide) rfl ⟨rfl, by decide, by decide⟩ (fun w h Y => PySem.W.kIn_of Y) ?F (fun _ _ a ns hl _ hS => ⟨a, ns, rfl, hS, hl, fun _ => rfl⟩)
  case F =>
    intro w mg fa h KX G hmg
    refine' K44.all_mk KX G hmg ?a1 ?l1 ?c1 ?k1 ?a2 ?l2 ?c2 ?k2 ?a3 ?l3 ?c3 ?k3 ?a4 ?l4 ?c4 ?k4 ?a5 ?l5 ?c5 ?k5 ?a6 ?l6 ?c6 ?k6 ?a7 ?l7 ?c7 ?k7 ?a8 ?l8 ?c8 ?k8 ?a9 ?l9 ?c9 ?k9 ?a10 ?l10 ?c10 ?k10 ?a11 ?l11 ?c11 ?k11 ?a12 ?l12 ?c12 ?k12 ?a13 ?l13 ?c13 ?k13 ?a14 ?l14 ?c14 ?k14 ?a15 ?l15 ?c15 ?k15 ?a16 ?l16 ?c16 ?k16 ?a17 ?l17 ?c17 ?k17 ?a18 ?l18 ?c18 ?k18 ?a19 ?l19 ?c19 ?k19 ?a20 ?l20 ?c20 ?k20 ?a21 ?l21 ?c21 ?k21 ?a22 ?l22 ?c22 ?k22 ?a23 ?l23 ?c23 ?k23 ?a24 ?l24 ?c24 ?k24 ?a25 ?l25 ?c25 ?k25 ?a26 ?l26 ?c26 ?k26 ?a27 ?l27 ?c27 ?k27 ?a28 ?l28 ?c28 ?k28 ?a29 ?l29 ?c29 ?k29 ?a30 ?l30 ?c30 ?k30 ?a31 ?l31 ?c31 ?k31 ?a32 ?l32 ?c32 ?k32 ?a33 ?l33 ?c33 ?k33 ?a34 ?l34 ?c34 ?k34 ?a35 ?l35 ?c35 ?k35 ?a36 ?l36 ?c36 ?k36 ?a37 ?l37 ?c37 ?k37 ?a38 ?l38 ?c38 ?k38 ?a39 ?l39 ?c39 ?k39 ?a40 ?l40 ?c40 ?k40 ?a41 ?l41 ?c41 ?k41 ?a42 ?l42 ?c42 ?k42 ?a43 ?l43 ?c43 ?k43 ?a44 ?l44 ?c44 ?k44 ?a45 ?l45 ?c45 ?k45 ?a46 ?l46 ?c46 ?k46 ?a47 ?l47 ?c47 ?k47 ?a48 ?l48 ?c48 ?k48 ?a49 ?l49 ?c49 ?k49 ?a50 ?l50 ?c50 ?k50 ?a51 ?l51 ?c51 ?k51 ?a52 ?l52 ?c52 ?k52 ?a53 ?l53 ?c53 ?k53 ?a54 ?l54 ?c54 ?k54 ?a55 ?l55 ?c55 ?k55 ?a56 ?l56 ?c56 ?k56 ?a57 ?l57 ?c57 ?k57 ?a58 ?l58 ?c58 ?k58 ?a59 ?l59 ?c59 ?k59 ?a60 ?l60 ?c60 ?k60 ?a61 ?l61 ?c61 ?k61 ?a62 ?l62 ?c62 ?k62 ?a63 ?l63 ?c63 ?k63 ?a64 ?l64 ?c64 ?k64 ?a65 ?l65 ?c65 ?k65 ?aC ?a66 ?i66 ?l66 ?c66 ?k66 ?a67 ?i67 ?l67 ?c67 ?k67 ?a68 ?i68 ?l68 ?c68 ?k68 ?a69 ?i69 ?l69 ?c69 ?k69 ?pg ?hd ?po ?sa ?mk ?kc ?nM ?nS ?nF ?t1 ?t2 ?t3 ?t4 ?mM ?z0 ?z1 ?z2 ?z3 ?z4 ?z5 ?z6 ?z7 ?z8 ?z9 ?z10 ?z11 ?z12 ?z13 ?z14 ?z15 ?z16 ?z17 ?z18
    (case a1 => k_is)
    (case l1 => k_is)
    (case c1 => k_is)
    (case k1 => k_is)
    (case a2 => k_is)
    (case l2 => k_is)
    (case c2 => k_is)
    (case k2 => k_is)
    (case a3 => k_is)
    (case l3 => k_is)
    (case c3 => k_is)
    (case k3 => k_is)
    (case a4 => k_is)
    (case l4 => k_is)
    (case c4 => k_is)
    (case k4 => k_is)
    (case a5 => k_is)
    (case l5 => k_is)
    (case c5 => k_is)
    (case k5 => k_is)
    (case a6 => k_is)
    (case l6 => k_is)
    (case c6 => k_is)
    (case k6 => k_is)
    (case a7 => k_is)
    (case l7 => k_is)
    (case c7 => k_is)
    (case k7 => k_is)
    (case a8 => k_is)
    (case l8 => k_is)
    (case c8 => k_is)
    (case k8 => k_is)
    (case a9 => k_is)
    (case l9 => k_is)
    (case c9 => k_is)
    (case k9 => k_is)
    (case a10 => k_is)
    (case l10 => k_is)
    (case c10 => k_is)
    (case k10 => k_is)
    (case a11 => k_is)
    (case l11 => k_is)
    (case c11 => k_is)
    (case k11 => k_is)
    (case a12 => k_is)
    (case l12 => k_is)
    (case c12 => k_is)
    (case k12 => k_is)
    (case a13 => k_is)
    (case l13 => k_is)
    (case c13 => k_is)
    (case k13 => k_is)
    (case a14 => k_is)
    (case l14 => k_is)
    (case c14 => k_is)
    (case k14 => k_is)
    (case a15 => k_is)
    (case l15 => k_is)
    (case c15 => k_is)
    (case k15 => k_is)
    (case a16 => k_is)
    (case l16 => k_is)
    (case c16 => k_is)
    (case k16 => k_is)
    (case a17 => k_is)
    (case l17 => k_is)
    (case c17 => k_is)
    (case k17 => k_is)
    (case a18 => k_is)
    (case l18 => k_is)
    (case c18 => k_is)
    (case k18 => k_is)
    (case a19 => k_is)
    (case l19 => k_is)
    (case c19 => k_is)
    (case k19 => k_is)
    (case a20 => k_is)
    (case l20 => k_is)
    (case c20 => k_is)
    (case k20 => k_is)
    (case a21 => k_is)
    (case l21 => k_is)
    (case c21 => k_is)
    (case k21 => k_is)
    (case a22 => k_is)
    (case l22 => k_is)
    (case c22 => k_is)
    (case k22 => k_is)
    (case a23 => k_is)
    (case l23 => k_is)
    (case c23 => k_is)
    (case k23 => k_is)
    (case a24 => k_is)
    (case l24 => k_is)
    (case c24 => k_is)
    (case k24 => k_is)
    (case a25 => k_is)
    (case l25 => k_is)
    (case c25 => k_is)
    (case k25 => k_is)
    (case a26 => k_is)
    (case l26 => k_is)
    (case c26 => k_is)
    (case k26 => k_is)
    (case a27 => k_is)
    (case l27 => k_is)
    (case c27 => k_is)
    (case k27 => k_is)
    (case a28 => k_is)
    (case l28 => k_is)
    (case c28 => k_is)
    (case k28 => k_is)
    (case a29 => k_is)
    (case l29 => k_is)
    (case c29 => k_is)
    (case k29 => k_is)
    (case a30 => k_is)
    (case l30 => k_is)
    (case c30 => k_is)
    (case k30 => k_is)
    (case a31 => k_is)
    (case l31 => k_is)
    (case c31 => k_is)
    (case k31 => k_is)
    (case a32 => k_is)
    (case l32 => k_is)
    (case c32 => k_is)
    (case k32 => k_is)
    (case a33 => k_is)
    (case l33 => k_is)
    (case c33 => k_is)
    (case k33 => k_is)
    (case a34 => k_is)
    (case l34 => k_is)
    (case c34 => k_is)
    (case k34 => k_is)
    (case a35 => k_is)
    (case l35 => k_is)
    (case c35 => k_is)
    (case k35 => k_is)
    (case a36 => k_is)
    (case l36 => k_is)
    (case c36 => k_is)
    (case k36 => k_is)
    (case a37 => k_is)
    (case l37 => k_is)
    (case c37 => k_is)
    (case k37 => k_is)
    (case a38 => k_is)
    (case l38 => k_is)
    (case c38 => k_is)
    (case k38 => k_is)
    (case a39 => k_is)
    (case l39 => k_is)
    (case c39 => k_is)
    (case k39 => k_is)
    (case a40 => k_is)
    (case l40 => k_is)
    (case c40 => k_is)
    (case k40 => k_is)
    (case a41 => k_is)
    (case l41 => k_is)
    (case c41 => k_is)
    (case k41 => k_is)
    (case a42 => k_is)
    (case l42 => k_is)
    (case c42 => k_is)
    (case k42 => k_is)
    (case a43 => k_is)
    (case l43 => k_is)
    (case c43 => k_is)
    (case k43 => k_is)
    (case a44 => k_is)
    (case l44 => k_is)
    (case c44 => k_is)
    (case k44 => k_is)
    (case a45 => k_is)
    (case l45 => k_is)
    (case c45 => k_is)
    (case k45 => k_is)
    (case a46 => k_is)
    (case l46 => k_is)
    (case c46 => k_is)
    (case k46 => k_is)
    (case a47 => k_is)
    (case l47 => k_is)
    (case c47 => k_is)
    (case k47 => k_is)
    (case a48 => k_is)
    (case l48 => k_is)
    (case c48 => k_is)
    (case k48 => k_is)
    (case a49 => k_is)
    (case l49 => k_is)
    (case c49 => k_is)
    (case k49 => k_is)
    (case a50 => k_is)
    (case l50 => k_is)
    (case c50 => k_is)
    (case k50 => k_is)
    (case a51 => k_is)
    (case l51 => k_is)
    (case c51 => k_is)
    (case k51 => k_is)
    (case a52 => k_is)
    (case l52 => k_is)
    (case c52 => k_is)
    (case k52 => k_is)
    (case a53 => k_is)
    (case l53 => k_is)
    (case c53 => k_is)
    (case k53 => k_is)
    (case a54 => k_is)
    (case l54 => k_is)
    (case c54 => k_is)
    (case k54 => k_is)
    (case a55 => k_is)
    (case l55 => k_is)
    (case c55 => k_is)
    (case k55 => k_is)
    (case a56 => k_is)
    (case l56 => k_is)
    (case c56 => k_is)
    (case k56 => k_is)
    (case a57 => k_is)
    (case l57 => k_is)
    (case c57 => k_is)
    (case k57 => k_is)
    (case a58 => k_is)
    (case l58 => k_is)
    (case c58 => k_is)
    (case k58 => k_is)
    (case a59 => k_is)
    (case l59 => k_is)
    (case c59 => k_is)
    (case k59 => k_is)
    (case a60 => k_is)
    (case l60 => k_is)
    (case c60 => k_is)
    (case k60 => k_is)
    (case a61 => k_is)
    (case l61 => k_is)
    (case c61 => k_is)
    (case k61 => k_is)
    (case a62 => k_is)
    (case l62 => k_is)
    (case c62 => k_is)
    (case k62 => k_is)
    (case a63 => k_is)
    (case l63 => k_is)
    (case c63 => k_is)
    (case k63 => k_is)
    (case a64 => k_is)
    (case l64 => k_is)
    (case c64 => k_is)
    (case k64 => k_is)
    (case a65 => k_is)
    (case l65 => k_is)
    (case c65 => k_is)
    (case k65 => k_is)
    (case aC => k_is)
    (case a66 => k_is)
    (case i66 => k_is)
    (case l66 => k_is)
    (case c66 => k_is)
    (case k66 => k_is)
    (case a67 => k_is)
    (case i67 => k_is)
    (case l67 => k_is)
    (case c67 => k_is)
    (case k67 => k_is)
    (case a68 => k_is)
    (case i68 => k_is)
    (case l68 => k_is)
    (case c68 => k_is)
    (case k68 => k_is)
    (case a69 => k_is)
    (case i69 => k_is)
    (case l69 => k_is)
    (case c69 => k_is)
    (case k69 => k_is)
    (case pg => k_is)
    (case hd => k_is)
    (case po => k_is)
    (case sa => k_is)
    (case mk => k_is)
    (case kc => k_is)
    (case nM => k_is)
    (case nS => k_is)
    (case nF => k_is)
    (case t1 => k_is)
    (case t2 => k_is)
    (case t3 => k_is)
    (case t4 => k_is)
    (case mM => k_is)
    (case z0 => k_is)
    (case z1 => k_is)
    (case z2 => k_is)
    (case z3 => k_is)
    (case z4 => k_is)
    (case z5 => k_is)
    (case z6 => k_is)
    (case z7 => k_is)
    (case z8 => k_is)
    (case z9 => k_is)
    (case z10 => k_is)
    (case z11 => k_is)
    (case z12 => k_is)
    (case z13 => k_is)
    (case z14 => k_is)
    (case z15 => k_is)
    (case z16 => k_is)
    (case z17 => k_is)
    (case z18 => k_is)
