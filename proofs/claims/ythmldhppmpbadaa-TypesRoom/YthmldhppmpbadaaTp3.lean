/-
  What a good table is by the document's own words: just what GoodP says.
-/
import Derived.Test.YthmldhppmpbadaaTp2
import Derived.Test.YthmldhppmpbadaaTg19
import Derived.Test.YthmldhppmpbadaaTq1
namespace Go.Proofs.Ythmldhppmpbadaa.Ty
open Go.RowKit hiding Hid
open Go.Proofs.Ythmldhppmpbadaa.Tx Go.Proofs.Ythmldhppmpbadaa.Lx Go.Proofs.Ythmldhppmpbadaa.Tr
set_option linter.unusedVariables false
set_option linter.unusedSimpArgs false

def TwoP (T : List Tt) (i k : Nat) : Prop := ∀ x y, T[i]? = some x → T[k]? = some y → x.fm = 9 → y.fm = 9 → y.md = x.md → y.ds = x.ds → x.ds = -1
structure RgP (T : List Tt) : Prop where
  lo : 7 ≤ T.length
  hi : T.length ≤ 256
  bas : ∀ (i : Nat) x, i < 7 → T[i]? = some x → basicB i x = true
  oth : ∀ (i : Nat) x, 7 ≤ i → T[i]? = some x → nmOk x ∧ ptOk T i x
  rank : ∃ r, RankR T r
  two : ∀ i k, 7 ≤ i → 7 ≤ k → k < i → TwoP T i k
def FmOk (T : List Tt) : Prop := ∀ (i : Nat) x, T[i]? = some x → 0 ≤ x.fm ∧ x.fm ≤ 11
theorem holds_elem {T : List Tt} (h : FmOk T) (a : Int) : holdsA T a = elemF (fmA T a) := by
  unfold holdsA
  cases hi : inT T.length a with
  | false => rw [fmA_out hi]; rfl
  | true =>
    have hi' := hi
    unfold inT at hi'
    simp only [Bool.and_eq_true, decide_eq_true_eq] at hi'
    obtain ⟨q, rfl⟩ := Int.eq_ofNat_of_zero_le hi'.1
    obtain ⟨x, hx⟩ : ∃ x, T[q]? = some x := ⟨T[q]'(by have := hi'.2; omega), List.getElem?_eq_getElem _⟩
    rw [fmA_at hx]
    obtain ⟨h1, h2⟩ := h q x hx
    generalize x.fm = f at h1 h2 ⊢
    have : f = 0 ∨ f = 1 ∨ f = 2 ∨ f = 3 ∨ f = 4 ∨ f = 5 ∨ f = 6 ∨ f = 7 ∨ f = 8 ∨ f = 9 ∨ f = 10 ∨ f = 11 := by omega
    rcases this with rfl | rfl | rfl | rfl | rfl | rfl | rfl | rfl | rfl | rfl | rfl | rfl <;> rfl
theorem in_form {T : List Tt} {a f : Int} (hf : f ≠ -1) : (inT T.length a && fmA T a == f) = (fmA T a == f) := by
  cases hi : inT T.length a with
  | true => rfl
  | false => rw [fmA_out hi]; simp; omega
theorem open_elem {T : List Tt} (h : FmOk T) (a : Int) : (holdsA T a || (inT T.length a && fmA T a == 8)) = openF (fmA T a) := by
  rw [holds_elem h, in_form (by decide)]
  unfold openF
  rw [Bool.or_comm]
theorem res_elem {T : List Tt} (h : FmOk T) (a : Int) : resR T a = resA T a := by
  unfold resR resA
  rw [holds_elem h]
  cases e : (a == 0) with
  | true => rfl
  | false =>
    simp only [Bool.false_or]
    unfold elemF plainF
    generalize fmA T a = f
    by_cases h7 : f = 7
    · subst h7; rfl
    by_cases h9 : f = 9
    · subst h9; rfl
    have h7' : (f == 7) = false := by simpa using h7
    have h9' : (f == 9) = false := by simpa using h9
    have h7n : (f != 7) = true := by simpa using h7
    have h9n : (f != 9) = true := by simpa using h9
    rw [h7', h9', h7n, h9n]
    simp
theorem fd_elem {T : List Tt} (h : FmOk T) (f : Fl) : fdB T f = flB T f := by unfold fdB flB; rw [holds_elem h]
theorem word_nil : wordB [] = false := rfl
/- The names. -/
theorem nm_ok {x : Tt} : nmOk x ↔ namesB x = true ∧ (if x.fm = 9 then -1 ≤ x.ds ∧ x.ds ≤ 63 else x.ds = 0) := by
  unfold nmOk namesB
  by_cases h9 : x.fm = 9
  · simp only [h9, if_true]
    by_cases hn : x.nm = []
    · simp only [hn, if_true, true_or, true_and]
      constructor
      · rintro ⟨h1, h2, h3⟩; exact ⟨h2, h3⟩
      · rintro ⟨h2, h3⟩; exact ⟨(fun e => by rw [e] at h2; cases h2), h2, h3⟩
    · simp only [hn, if_false, false_or, Bool.and_eq_true]
      constructor
      · rintro ⟨h1, h2, h3, h4⟩; exact ⟨⟨h2, h3⟩, h4⟩
      · rintro ⟨⟨h2, h3⟩, h4⟩; exact ⟨(fun e => by rw [e] at h2; cases h2), h2, h3, h4⟩
  · simp only [h9, if_false]
    by_cases hn : x.nm = []
    · simp only [hn, if_true, and_true, ne_eq, not_true, false_and, and_false, or_false, beq_iff_eq]
      exact And.comm
    · simp only [hn, if_false, and_false, false_or, ne_eq, not_false_iff, true_and, Bool.and_eq_true]
      constructor
      · rintro ⟨h1, h2, h3, h4⟩; exact ⟨⟨h3, h4⟩, h1⟩
      · rintro ⟨⟨h3, h4⟩, h1⟩; exact ⟨h1, (fun e => by rw [e] at h3; cases h3), h3, h4⟩
/- The bases of a record, one behind the other. -/
def chL (T : List Tt) : Nat → Nat → List Int
  | 0, i => [(i : Int)]
  | n + 1, i => (i : Int) :: chL T n (baA T i)
theorem chL_cons (T : List Tt) (n i : Nat) : chL T n i = (i : Int) :: (chL T n i).tail := by cases n <;> rfl
theorem chL_len (T : List Tt) : ∀ n i, (chL T n i).length = n + 1
  | 0, i => rfl
  | n + 1, i => by simp [chL, chL_len T n]
def RecB (T : List Tt) : Prop := ∀ (i : Nat) x, T[i]? = some x → x.fm = 9 → x.ba ≠ 0 → fmA T x.ba = 9
theorem fm_at {T : List Tt} {a : Int} {f : Int} (h : fmA T a = f) (hf : f ≠ -1) : 0 ≤ a ∧ ∃ y, T[a.toNat]? = some y ∧ y.fm = f := by
  obtain ⟨h1, _, y, hy, e⟩ := fmA_in (T := T) (a := a) (by rw [h]; exact hf)
  exact ⟨h1, y, hy, by rw [e, h]⟩
theorem bs_lv {T : List Tt} (hb : RecB T) : ∀ (n i k : Nat) (l : List Int) (x : Tt), Lv T n i → T[i]? = some x → x.fm = 9 → l.length + n ≤ 6 → n < k → bsR T k l i = some (l ++ (chL T n i).tail)
  | 0, i, k, l, x, ⟨x', hx', h0⟩, hx, hf, hl, hk => by
    obtain ⟨k, rfl⟩ : ∃ j, k = j + 1 := ⟨k - 1, by omega⟩
    rw [bsR_z hx' h0]
    simp [chL]
  | n + 1, i, k, l, x, ⟨x', hx', h0, h1, hl2⟩, hx, hf, hl, hk => by
    obtain ⟨k, rfl⟩ : ∃ j, k = j + 1 := ⟨k - 1, by omega⟩
    rw [hx] at hx'
    cases hx'
    have h9 := hb i x hx hf h0
    obtain ⟨_, y, hy, hy9⟩ := fm_at h9 (by decide)
    rw [bsR_go hx h0 h9 (by omega), bs_lv hb n x.ba.toNat k _ y hl2 hy hy9 (by simp; omega) (by omega)]
    rw [show (chL T (n + 1) i).tail = chL T n (baA T i) from rfl, baA_at hx, chL_cons T n x.ba.toNat, List.append_assoc, Int.toNat_of_nonneg h1]
    rfl
theorem bs_back {T : List Tt} : ∀ (k i : Nat) (l r : List Int), bsR T k l i = some r → ∃ n, Lv T n i ∧ r = l ++ (chL T n i).tail
  | 0, i, l, r, h => by cases h
  | k + 1, i, l, r, h => by
    cases hx : T[i]? with
    | none => rw [bsR, hx] at h; cases h
    | some x =>
      by_cases h0 : x.ba = 0
      · rw [bsR_z hx h0] at h
        cases h
        exact ⟨0, ⟨x, hx, h0⟩, by simp [chL]⟩
      · by_cases h1 : fmA T x.ba = 9 ∧ l.length ≤ 5
        · rw [bsR_go hx h0 h1.1 h1.2] at h
          obtain ⟨n, hn, e⟩ := bs_back k _ _ _ h
          have hp := (fm_at h1.1 (by decide)).1
          refine ⟨n + 1, ⟨x, hx, h0, hp, hn⟩, ?_⟩
          rw [e, show (chL T (n + 1) i).tail = chL T n (baA T i) from rfl, baA_at hx, chL_cons T n x.ba.toNat, List.append_assoc, Int.toNat_of_nonneg hp]
          rfl
        · rw [bsR_no hx h0 h1] at h
          cases h
theorem bs_base {T : List Tt} {i : Nat} {x : Tt} {r : List Int} (hx : T[i]? = some x) (h : basesR T i = some r) : baseA T x.ba = true := by
  unfold baseA
  by_cases h0 : x.ba = 0
  · rw [h0]; rfl
  · by_cases h1 : fmA T x.ba = 9 ∧ [(i : Int)].length ≤ 5
    · rw [h1.1]; simp
    · unfold basesR at h
      rw [bsR_no hx h0 h1] at h
      cases h
theorem fds_nat {T : List Tt} {i : Nat} {x : Tt} (h : T[i]? = some x) : fdsA T (i : Int) = x.fl := by unfold fdsA; rw [Int.toNat_natCast, h]
theorem nms_ch {T : List Tt} : ∀ {n i : Nat}, Lv T n i → (chL T n i).flatMap (fun a => (fdsA T a).map Fl.n) = nmsL T n i
  | 0, i, ⟨x, hx, _⟩ => by
    rw [chL, nmsL, nmA_at hx]
    simp [fds_nat hx]
  | n + 1, i, ⟨x, hx, _, _, hl⟩ => by
    rw [chL, nmsL, nmA_at hx, List.flatMap_cons, fds_nat hx, baA_at hx, nms_ch hl]
theorem ch_rec {T : List Tt} (hb : RecB T) : ∀ {n i : Nat} {x : Tt}, Lv T n i → T[i]? = some x → x.fm = 9 → ∀ a ∈ chL T n i, ∃ (j : Nat) (y : Tt), a = (j : Int) ∧ T[j]? = some y ∧ y.fm = 9
  | 0, i, x, h, hx, hf, a, ha => by
    rw [chL, List.mem_singleton] at ha
    exact ⟨i, x, ha, hx, hf⟩
  | n + 1, i, x, ⟨x', hx', h0, h1, hl⟩, hx, hf, a, ha => by
    rw [hx] at hx'
    cases hx'
    rw [chL, List.mem_cons] at ha
    rcases ha with rfl | ha
    · exact ⟨i, x, rfl, hx, hf⟩
    · obtain ⟨_, y, hy, hy9⟩ := fm_at (hb i x hx hf h0) (by decide)
      rw [baA_at hx] at ha
      exact ch_rec hb hl hy hy9 a ha
/- Ranks by either way. -/
theorem rank_r {T : List Tt} {r : Nat → Nat} (h : RankOf T r) : RankR T r := fun i x hx j hj => h i x hx j (by
  unfold partsR at hj
  unfold partsI
  by_cases f : x.fm = 7 ∨ x.fm = 8
  · rw [if_pos f] at hj ⊢; exact hj
  · rw [if_neg f] at hj ⊢
    by_cases f9 : x.fm = 9
    · rw [if_pos f9] at hj ⊢
      rcases List.mem_append.1 hj with hj | hj
      · by_cases h0 : x.ba = 0
        · rw [if_pos h0] at hj; cases hj
        · rw [if_neg h0] at hj; exact List.mem_append.2 (.inr hj)
      · exact List.mem_append.2 (.inl hj)
    · rw [if_neg f9] at hj; cases hj)
theorem rank_i {T : List Tt} {r : Nat → Nat} (h0 : ∀ x, T[0]? = some x → x.fm = 0) (h : RankR T r) : RankOf T (fun i => if i = 0 then 0 else r i + 1) := fun i x hx j hj => by
  have hi : i ≠ 0 := fun e => by
    subst e
    have := h0 x hx
    unfold partsI at hj
    rw [if_neg (by omega), if_neg (by omega)] at hj
    cases hj
  simp only [hi, if_false]
  by_cases hj0 : j.toNat = 0
  · rw [if_pos hj0]; omega
  · rw [if_neg hj0]
    have := h i x hx j (by
      unfold partsI at hj
      unfold partsR
      by_cases f : x.fm = 7 ∨ x.fm = 8
      · rw [if_pos f] at hj ⊢; exact hj
      · rw [if_neg f] at hj ⊢
        by_cases f9 : x.fm = 9
        · rw [if_pos f9] at hj ⊢
          rcases List.mem_append.1 hj with hj | hj
          · exact List.mem_append.2 (.inr hj)
          · rw [List.mem_singleton] at hj
            subst hj
            have : x.ba ≠ 0 := fun e => hj0 (by rw [e]; rfl)
            rw [if_neg this]
            exact List.mem_append.2 (.inl (.head _))
        · rw [if_neg f9] at hj; cases hj)
    omega
theorem pt_fm {T : List Tt} {i : Nat} {x : Tt} (h : ptOk T i x) : x.fm = 7 ∨ x.fm = 8 ∨ x.fm = 9 ∨ x.fm = 10 ∨ x.fm = 11 := by
  by_cases h7 : x.fm = 7; · exact .inl h7
  by_cases h8 : x.fm = 8; · exact .inr (.inl h8)
  by_cases h9 : x.fm = 9; · exact .inr (.inr (.inl h9))
  by_cases h10 : x.fm = 10; · exact .inr (.inr (.inr (.inl h10)))
  by_cases h11 : x.fm = 11; · exact .inr (.inr (.inr (.inr h11)))
  unfold ptOk at h
  rw [if_neg h7, if_neg h8, if_neg h9, if_neg h10, if_neg h11] at h
  exact h.elim
theorem basic_fm {i : Nat} {x : Tt} (h : basicB i x = true) : x.fm = i := by
  unfold basicB at h
  simp only [Bool.and_eq_true, beq_iff_eq] at h
  exact h.1
theorem fmOk_of {T : List Tt} (hb : ∀ (i : Nat) x, i < 7 → T[i]? = some x → basicB i x = true) (ho : ∀ (i : Nat) x, 7 ≤ i → T[i]? = some x → 7 ≤ x.fm ∧ x.fm ≤ 11) : FmOk T := fun i x hx => by
  by_cases hi : i < 7
  · have := basic_fm (hb i x hi hx); omega
  · have := ho i x (by omega) hx; omega
theorem GoodP.fmOk {T : List Tt} (g : GoodP T) : FmOk T := fmOk_of g.loc.bas (fun i x hi hx => by
  have := parts_fm (g.loc.oth i x hi hx).2; omega)
theorem RgP.fmOk {T : List Tt} (g : RgP T) : FmOk T := fmOk_of g.bas (fun i x hi hx => by
  have := pt_fm (g.oth i x hi hx).2; omega)
theorem all_eq {α : Type} {f g : α → Bool} {l : List α} (h : ∀ a, f a = g a) : l.all f = l.all g := by
  rw [show f = g from funext h]
theorem GoodP.recB {T : List Tt} (g : GoodP T) : RecB T := fun i x hx hf h0 => by
  have hi := g.loc.far hx (by omega)
  have := (parts_9 (g.loc.oth i x hi hx).2 hf).1
  unfold baseA at this
  simp only [Bool.or_eq_true, beq_iff_eq] at this
  exact this.resolve_left h0
theorem GoodP.rg {T : List Tt} (g : GoodP T) : RgP T := by
  have hF := g.fmOk
  refine ⟨g.loc.lo, g.loc.hi, g.loc.bas, fun i x hi hx => ?_, ?_, fun i k hi hk hki x y hx hy hf hg hm hd => ?_⟩
  · obtain ⟨hn, hp⟩ := g.loc.oth i x hi hx
    rw [nm_ok]
    unfold ptOk
    rcases parts_fm hp with f | f | f | f | f
    · obtain ⟨a, b, c, d⟩ := parts_7 hp f
      unfold bareB at d
      simp only [Bool.and_eq_true, beq_iff_eq] at d
      rw [if_neg (by omega), if_pos f]
      refine ⟨⟨hn, by omega⟩, ?_⟩
      unfold pt7
      rw [holds_elem hF]
      simp only [Bool.and_eq_true, beq_iff_eq, decide_eq_true_eq]
      and_intros <;> first | omega | assumption
    · obtain ⟨c, d⟩ := parts_8 hp f
      unfold bareB at d
      simp only [Bool.and_eq_true, beq_iff_eq] at d
      rw [if_neg (by omega), if_neg (by omega), if_pos f]
      refine ⟨⟨hn, by omega⟩, ?_⟩
      unfold pt8
      rw [open_elem hF]
      simp only [Bool.and_eq_true, beq_iff_eq]
      and_intros <;> first | omega | assumption
    · obtain ⟨a, b, c, d, e⟩ := parts_9 hp f
      unfold bareB at e
      simp only [Bool.and_eq_true, beq_iff_eq] at e
      rw [if_pos f, if_neg (by omega), if_neg (by omega), if_pos f]
      refine ⟨⟨hn, by omega⟩, ?_⟩
      unfold pt9
      obtain ⟨_, n, hn4, hl, hnd⟩ := g.rcd i x hx f
      refine ⟨by omega, by omega, by omega, by omega, ?_⟩
      have hb := bs_lv g.recB n i 8 [(i : Int)] x hl hx f (by simp; omega) (by omega)
      have hb' : basesR T i = some (chL T n i) := by
        unfold basesR
        rw [hb, chL_cons T n i]
        rfl
      unfold flsB at b
      simp only [Bool.and_eq_true, decide_eq_true_eq] at b
      refine ⟨_, hb', by rw [chL_len]; omega, b.1, fun a ha => ?_, by rw [nms_ch hl]; exact hnd⟩
      obtain ⟨j, y, rfl, hy, hy9⟩ := ch_rec g.recB hl hx f a ha
      have hj := g.loc.far hy (by omega)
      have := (parts_9 (g.loc.oth j y hj hy).2 hy9).2.1
      unfold flsB at this
      simp only [Bool.and_eq_true, decide_eq_true_eq] at this
      rw [fds_nat hy]
      exact ⟨this.1, by rw [all_eq (fd_elem hF)]; exact this.2⟩
    · obtain ⟨c, d⟩ := parts_10 hp f
      unfold bareB at d
      simp only [Bool.and_eq_true, beq_iff_eq] at d
      rw [if_neg (by omega), if_neg (by omega), if_neg (by omega), if_neg (by omega), if_pos f]
      refine ⟨⟨hn, by omega⟩, ?_⟩
      unfold pt10
      rw [in_form (by decide)]
      simp only [Bool.and_eq_true, beq_iff_eq]
      and_intros <;> first | omega | assumption
    · obtain ⟨c, c2, d⟩ := parts_11 hp f
      unfold bareB at d
      simp only [Bool.and_eq_true, beq_iff_eq] at d
      unfold pmsB at c
      simp only [Bool.and_eq_true, decide_eq_true_eq] at c
      rw [if_neg (by omega), if_neg (by omega), if_neg (by omega), if_neg (by omega), if_neg (by omega), if_pos f]
      refine ⟨⟨hn, by omega⟩, ?_⟩
      unfold pt11 prB
      rw [res_elem hF, all_eq (g := pmB T) (fun p => by unfold pmR pmB; rw [open_elem hF])]
      simp only [Bool.and_eq_true, beq_iff_eq, decide_eq_true_eq]
      refine ⟨by omega, by omega, by omega, by omega, c.2, c.1, c2⟩
  · obtain ⟨r, hr⟩ := g.rank
    exact ⟨r, rank_r hr⟩
  · exact (g.rcd i x hx hf).1 k y hki hy hg hm hd
structure RgL (T : List Tt) : Prop where
  lo : 7 ≤ T.length
  hi : T.length ≤ 256
  bas : ∀ (i : Nat) x, i < 7 → T[i]? = some x → basicB i x = true
  oth : ∀ (i : Nat) x, 7 ≤ i → T[i]? = some x → nmOk x ∧ ptOk T i x
theorem RgL.fmOk {T : List Tt} (g : RgL T) : FmOk T := fmOk_of g.bas (fun i x hi hx => by
  have := pt_fm (g.oth i x hi hx).2; omega)
theorem RgL.far {T : List Tt} (g : RgL T) : ∀ (i : Nat) x, T[i]? = some x → x.fm = 9 → 7 ≤ i := fun i x hx hf => by
  apply Nat.le_of_not_lt
  intro hi
  have := basic_fm (g.bas i x hi hx)
  omega
theorem RgL.pt9 {T : List Tt} (g : RgL T) : ∀ (i : Nat) x, T[i]? = some x → x.fm = 9 → pt9 T i x := fun i x hx hf => by
  have := (g.oth i x (g.far i x hx hf) hx).2
  unfold ptOk at this
  rwa [if_neg (by omega), if_neg (by omega), if_pos hf] at this
theorem RgL.loc {T : List Tt} (g : RgL T) : Loc T := by
  have hF := g.fmOk
  have h9 := g.pt9
  refine ⟨g.lo, g.hi, g.bas, fun i x hi hx => ?_⟩
  · obtain ⟨hn, hp⟩ := g.oth i x hi hx
    rw [nm_ok] at hn
    obtain ⟨hn, hd⟩ := hn
    refine ⟨hn, ?_⟩
    unfold partsB
    rcases pt_fm hp with f | f | f | f | f
    · unfold ptOk at hp
      rw [if_pos f] at hp ⊢
      rw [if_neg (by omega)] at hd
      unfold pt7 at hp
      rw [holds_elem hF] at hp
      unfold bareB
      simp only [Bool.and_eq_true, beq_iff_eq, decide_eq_true_eq] at hp ⊢
      obtain ⟨g1, g2, g3, g4, g5, g6, g7⟩ := hp
      refine ⟨⟨g5, g6, g7⟩, ?_⟩
      and_intros <;> first | trivial | rfl | omega
    · unfold ptOk at hp
      rw [if_neg (by omega), if_pos f] at hp ⊢
      rw [if_neg (by omega)] at hd
      unfold pt8 at hp
      rw [open_elem hF] at hp
      unfold bareB
      simp only [Bool.and_eq_true, beq_iff_eq, decide_eq_true_eq] at hp ⊢
      obtain ⟨g1, g2, g3, g4, g5, g6⟩ := hp
      refine ⟨g6, ?_⟩
      and_intros <;> first | trivial | rfl | omega
    · obtain ⟨a, b, c, d, l, hl, h5, h64, hr, hnd⟩ := h9 i x hx f
      rw [if_neg (by omega), if_neg (by omega), if_pos f]
      rw [if_pos f] at hd
      have him : (i : Int) ∈ l := by
        obtain ⟨n, _, e⟩ := bs_back _ _ _ _ hl
        rw [e]
        exact .head _
      have hri := (hr _ him).2
      rw [fds_nat hx, all_eq (fd_elem hF)] at hri
      unfold bareB flsB
      simp only [Bool.and_eq_true, beq_iff_eq, decide_eq_true_eq]
      refine ⟨⟨bs_base hx hl, ⟨h64, hri⟩, by omega, by omega⟩, ?_⟩
      and_intros <;> first | trivial | rfl | omega
    · unfold ptOk at hp
      rw [if_neg (by omega), if_neg (by omega), if_neg (by omega), if_pos f] at hp ⊢
      rw [if_neg (by omega)] at hd
      unfold pt10 at hp
      rw [in_form (by decide)] at hp
      unfold bareB
      simp only [Bool.and_eq_true, beq_iff_eq, decide_eq_true_eq] at hp ⊢
      obtain ⟨g1, g2, g3, g4, g5, g6⟩ := hp
      refine ⟨g6, ?_⟩
      and_intros <;> first | trivial | rfl | omega
    · unfold ptOk at hp
      rw [if_neg (by omega), if_neg (by omega), if_neg (by omega), if_neg (by omega), if_pos f] at hp ⊢
      rw [if_neg (by omega)] at hd
      unfold pt11 prB at hp
      rw [res_elem hF, all_eq (g := pmB T) (fun p => by unfold pmR pmB; rw [open_elem hF])] at hp
      unfold bareB pmsB
      simp only [Bool.and_eq_true, beq_iff_eq, decide_eq_true_eq] at hp ⊢
      obtain ⟨g1, g2, g3, g4, g5, g6, g7⟩ := hp
      refine ⟨⟨⟨g6, g5⟩, g7⟩, ?_⟩
      and_intros <;> first | trivial | rfl | omega
theorem RgP.l {T : List Tt} (g : RgP T) : RgL T := ⟨g.lo, g.hi, g.bas, g.oth⟩
theorem RgP.good {T : List Tt} (g : RgP T) : GoodP T := by
  have hbas := g.l.far
  have h9 := g.l.pt9
  refine ⟨g.l.loc, ?_, fun i x hx hf => ?_⟩
  · obtain ⟨r, hr⟩ := g.rank
    refine ⟨_, rank_i (fun x hx => ?_) hr⟩
    have := basic_fm (g.bas 0 x (by decide) hx)
    omega
  · have hi := hbas i x hx hf
    refine ⟨fun k y hk hy hy9 hm hd => g.two i k hi (hbas k y hy hy9) hk x y hx hy hf hy9 hm hd, ?_⟩
    obtain ⟨a, b, c, d, l, hl, h5, h64, hr, hnd⟩ := h9 i x hx hf
    obtain ⟨n, hn, e⟩ := bs_back _ _ _ _ hl
    have e' : l = chL T n i := by rw [e, chL_cons T n i]; rfl
    have := chL_len T n i
    rw [e'] at h5 hnd
    exact ⟨n, by omega, hn, by rw [nms_ch hn] at hnd; exact hnd⟩
theorem rg_iff {T : List Tt} : RgP T ↔ GoodP T := ⟨RgP.good, GoodP.rg⟩
/- What 'round' asks for. -/
theorem Loc.inR {T : List Tt} (h : Loc T) : InR T := fun i x hx j hj => h.inP i x hx j (by
  unfold partsR at hj
  unfold partsI
  by_cases f : x.fm = 7 ∨ x.fm = 8
  · rw [if_pos f] at hj ⊢; exact hj
  · rw [if_neg f] at hj ⊢
    by_cases f9 : x.fm = 9
    · rw [if_pos f9] at hj ⊢
      rcases List.mem_append.1 hj with hj | hj
      · by_cases h0 : x.ba = 0
        · rw [if_pos h0] at hj; cases hj
        · rw [if_neg h0] at hj; exact List.mem_append.2 (.inr hj)
      · exact List.mem_append.2 (.inl hj)
    · rw [if_neg f9] at hj; cases hj)
end Go.Proofs.Ythmldhppmpbadaa.Ty
