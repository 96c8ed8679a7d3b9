/-
  Types: a good table with types more behind it, purely: what stays true.
  Types' laws, purely: a good table with an array or an open array behind it, and what stays true of its own places.
  A row that is made and what is put behind it, as steps of a region whose order is fixed.
  Types' laws: a copied table with types more behind it, in memory; Same, Extends, Assign, Fits at places of it.
-/
import Derived.Test.YthmldhppmpbadaaTp3
import Derived.Test.YthmldhppmpbadaaY12
import Derived.Test.YthmldhppmpbadaaTg28
import Derived.Test.YthmldhppmpbadaaY1
import Derived.Test.YthmldhppmpbadaaY11
namespace Go.Proofs.Ythmldhppmpbadaa.Ty
open Go.RowKit hiding Hid
open Go.Proofs.Ythmldhppmpbadaa.Tx Go.Proofs.Ythmldhppmpbadaa.Lx Go.Proofs.Ythmldhppmpbadaa.Tr
set_option linter.unusedVariables false
set_option linter.unusedSimpArgs false

theorem at_app {T U : List Tt} {i : Nat} (h : i < T.length) : (T ++ U)[i]? = T[i]? := List.getElem?_append_left h
theorem at_app_of {T U : List Tt} {i : Nat} {x : Tt} (h : T[i]? = some x) : (T ++ U)[i]? = some x := by rw [at_app (List.getElem?_eq_some_iff.1 h).1, h]
theorem fm_app {T : List Tt} (U : List Tt) {a : Int} (h : fmA T a ≠ -1) : fmA (T ++ U) a = fmA T a := by
  obtain ⟨h0, h1, x, hx, e⟩ := fmA_in h
  obtain ⟨q, rfl⟩ := Int.eq_ofNat_of_zero_le h0
  rw [Int.toNat_natCast] at hx
  rw [fmA_at (at_app_of (U := U) hx), ← e]
theorem elem_app {T : List Tt} (U : List Tt) {a : Int} (h : elemF (fmA T a) = true) : elemF (fmA (T ++ U) a) = true := by
  rw [fm_app U (fun e => by rw [e] at h; revert h; decide)]; exact h
theorem open_app {T : List Tt} (U : List Tt) {a : Int} (h : openF (fmA T a) = true) : openF (fmA (T ++ U) a) = true := by
  rw [fm_app U (fun e => by rw [e] at h; revert h; decide)]; exact h
theorem parts_app {T : List Tt} (U : List Tt) {x : Tt} (h : partsB T x = true) : partsB (T ++ U) x = true := by
  unfold partsB
  rcases parts_fm h with f | f | f | f | f
  · obtain ⟨a, b, c, d⟩ := parts_7 h f
    rw [if_pos f]
    simp only [Bool.and_eq_true, decide_eq_true_eq]
    exact ⟨⟨a, b, elem_app U c⟩, d⟩
  · obtain ⟨c, d⟩ := parts_8 h f
    rw [if_neg (by omega), if_pos f]
    simp only [Bool.and_eq_true]
    exact ⟨open_app U c, d⟩
  · obtain ⟨a, b, c, d, e⟩ := parts_9 h f
    rw [if_neg (by omega), if_neg (by omega), if_pos f]
    simp only [Bool.and_eq_true, decide_eq_true_eq]
    refine ⟨⟨?_, ?_, c, d⟩, e⟩
    · unfold baseA at a ⊢
      simp only [Bool.or_eq_true, beq_iff_eq] at a ⊢
      rcases a with a | a
      · exact .inl a
      · exact .inr (by rw [fm_app U (by rw [a]; decide)]; exact a)
    · unfold flsB at b ⊢
      simp only [Bool.and_eq_true, decide_eq_true_eq] at b ⊢
      refine ⟨b.1, List.all_eq_true.2 (fun g hg => ?_)⟩
      have := List.all_eq_true.1 b.2 g hg
      unfold flB at this ⊢
      simp only [Bool.and_eq_true] at this ⊢
      exact ⟨this.1, elem_app U this.2⟩
  · obtain ⟨c, d⟩ := parts_10 h f
    rw [if_neg (by omega), if_neg (by omega), if_neg (by omega), if_pos f]
    simp only [Bool.and_eq_true, beq_iff_eq]
    exact ⟨by rw [fm_app U (by rw [c]; decide)]; exact c, d⟩
  · obtain ⟨c, c2, d⟩ := parts_11 h f
    rw [if_neg (by omega), if_neg (by omega), if_neg (by omega), if_neg (by omega), if_pos f]
    simp only [Bool.and_eq_true]
    refine ⟨⟨?_, ?_⟩, d⟩
    · unfold pmsB at c ⊢
      simp only [Bool.and_eq_true, decide_eq_true_eq] at c ⊢
      exact ⟨c.1, List.all_eq_true.2 (fun g hg => open_app U (List.all_eq_true.1 c.2 g hg))⟩
    · unfold resA at c2 ⊢
      simp only [Bool.or_eq_true] at c2 ⊢
      rcases c2 with h | h
      · exact .inl h
      · exact .inr (by rw [fm_app U (fun e => by rw [e] at h; revert h; decide)]; exact h)
theorem lv_app {T : List Tt} (U : List Tt) : ∀ {n i : Nat}, Lv T n i → Lv (T ++ U) n i
  | 0, i, ⟨x, hx, h⟩ => ⟨x, at_app_of hx, h⟩
  | n + 1, i, ⟨x, hx, h, h0, hl⟩ => ⟨x, at_app_of hx, h, h0, lv_app U hl⟩
theorem nms_app {T : List Tt} (U : List Tt) : ∀ {n i : Nat}, Lv T n i → nmsL (T ++ U) n i = nmsL T n i
  | 0, i, ⟨x, hx, h⟩ => by rw [nmsL, nmsL, nmA_at hx, nmA_at (at_app_of hx)]
  | n + 1, i, ⟨x, hx, h, h0, hl⟩ => by rw [nmsL, nmsL, nmA_at hx, nmA_at (at_app_of hx), baA_at hx, baA_at (at_app_of hx), nms_app U hl]
end Go.Proofs.Ythmldhppmpbadaa.Ty
namespace Go.Proofs.Ythmldhppmpbadaa.Ty
open Go.RowKit hiding Hid
open Go.Proofs.Ythmldhppmpbadaa.Tx Go.Proofs.Ythmldhppmpbadaa.Lx Go.Proofs.Ythmldhppmpbadaa.Tr
set_option linter.unusedVariables false
set_option linter.unusedSimpArgs false

theorem plc_nat {T : List Tt} {a : Int} (h : plc T a) : ∃ i : Nat, a = i ∧ i < T.length := ⟨a.toNat, by have := h.1; omega, by have := h.1; have := h.2; omega⟩
theorem fmA_app {T : List Tt} (U : List Tt) {a : Int} (h : plc T a) : fmA (T ++ U) a = fmA T a := by
  obtain ⟨i, rfl, hi⟩ := plc_nat h
  rw [fmA_at (at_app_of (U := U) (List.getElem?_eq_getElem hi)), fmA_at (List.getElem?_eq_getElem hi)]
theorem elA_app {T : List Tt} (U : List Tt) {a : Int} (h : plc T a) : elA (T ++ U) a = elA T a := by
  obtain ⟨i, rfl, hi⟩ := plc_nat h
  rw [elA_at (at_app_of (U := U) (List.getElem?_eq_getElem hi)), elA_at (List.getElem?_eq_getElem hi)]
theorem bsA_app {T : List Tt} (U : List Tt) {a : Int} (h : plc T a) : bsA (T ++ U) a = bsA T a := by
  obtain ⟨i, rfl, hi⟩ := plc_nat h
  rw [bsA_at (at_app_of (U := U) (List.getElem?_eq_getElem hi)), bsA_at (List.getElem?_eq_getElem hi)]
theorem plc_app {T : List Tt} (U : List Tt) {a : Int} (h : plc T a) : plc (T ++ U) a := ⟨h.1, by rw [List.length_append]; have := h.2; omega⟩
theorem alA_app {T : List Tt} (U : List Tt) {a b : Int} (ha : plc T a) (hb : plc T b) : alA (T ++ U) a b = alA T a b := by
  obtain ⟨i, rfl, hi⟩ := plc_nat ha
  obtain ⟨j, rfl, hj⟩ := plc_nat hb
  rw [alA_at (at_app_of (U := U) (List.getElem?_eq_getElem hi)) (at_app_of (U := U) (List.getElem?_eq_getElem hj)), alA_at (List.getElem?_eq_getElem hi) (List.getElem?_eq_getElem hj)]
theorem alA_plc {T : List Tt} (G : GoodP T) {a b : Int} (ha : plc T a) (hb : plc T b) {l : List (Int × Int)} (h : alA T a b = some l) : ∀ c ∈ l, plc T c.1 ∧ plc T c.2 := by
  obtain ⟨i, rfl, hi⟩ := plc_nat ha
  obtain ⟨j, rfl, hj⟩ := plc_nat hb
  rw [alA_at (List.getElem?_eq_getElem hi) (List.getElem?_eq_getElem hj)] at h
  exact alF_plc G (List.getElem?_eq_getElem hi) (List.getElem?_eq_getElem hj) h
theorem same_app {T : List Tt} (G : GoodP T) (U : List Tt) {a b : Int} (ha : plc T a) (hb : plc T b) : SameP (T ++ U) a b ↔ SameP T a b := by
  constructor
  · rintro ⟨R, h1, h2⟩
    refine ⟨fun p => R p ∧ plc T p.1 ∧ plc T p.2, fun p ⟨hp, p1, p2⟩ hn => ?_, h2, mmP_plc ha hb⟩
    obtain ⟨l, e, hc⟩ := h1 p hp hn
    rw [alA_app U p1 p2] at e
    exact ⟨l, e, fun c hm => ⟨hc c hm, mmP_plc (alA_plc G p1 p2 e c hm).1 (alA_plc G p1 p2 e c hm).2⟩⟩
  · rintro ⟨R, h1, h2⟩
    refine ⟨fun p => R p ∧ plc T p.1 ∧ plc T p.2, fun p ⟨hp, p1, p2⟩ hn => ?_, h2, mmP_plc ha hb⟩
    obtain ⟨l, e, hc⟩ := h1 p hp hn
    exact ⟨l, by rw [alA_app U p1 p2]; exact e, fun c hm => ⟨hc c hm, mmP_plc (alA_plc G p1 p2 e c hm).1 (alA_plc G p1 p2 e c hm).2⟩⟩
theorem bs_all {T : List Tt} (G : GoodP T) {a : Int} (h : plc T a) : plc T (bsA T a) := by
  obtain ⟨i, rfl, hi⟩ := plc_nat h
  by_cases h9 : fmA T (i : Int) = 9
  · obtain ⟨q, hq, hl⟩ := bs_plc G h9
    rw [hq]
    exact plc_at hl
  · have hx := List.getElem?_eq_getElem hi
    rw [bsA_at hx, base_zero G hx (by rw [fmA_at hx] at h9; exact h9)]
    exact plc_zero G
theorem el_all {T : List Tt} (G : GoodP T) {a : Int} (h : plc T a) : plc T (elA T a) := by
  obtain ⟨i, rfl, hi⟩ := plc_nat h
  obtain ⟨q, hq, hl⟩ := el_plc G hi
  rw [hq]
  exact plc_at hl
theorem itb_app {T : List Tt} (G : GoodP T) (U : List Tt) : ∀ (k : Nat) {a : Int}, plc T a → itb (T ++ U) k a = itb T k a
  | 0, a, h => rfl
  | k + 1, a, h => by
    show itb (T ++ U) k (bsA (T ++ U) a) = itb T k (bsA T a)
    rw [bsA_app U h]
    exact itb_app G U k (bs_all G h)
theorem exr_app {T : List Tt} (G : GoodP T) (U : List Tt) {a b : Int} (ha : plc T a) (hb : plc T b) : ExR (T ++ U) a b ↔ ExR T a b := by
  unfold ExR
  rw [fmA_app U ha, fmA_app U hb]
  exact and_congr_right fun _ => and_congr_right fun _ => exists_congr fun k => by rw [itb_app G U k ha]
theorem exa_app {T : List Tt} (G : GoodP T) (U : List Tt) {a b : Int} (ha : plc T a) (hb : plc T b) : ExA (T ++ U) a b ↔ ExA T a b := by
  unfold ExA
  rw [fmA_app U ha, fmA_app U hb, elA_app U ha, elA_app U hb, exr_app G U ha hb, exr_app G U (el_all G ha) (el_all G hb)]
theorem oth_app {T : List Tt} (G : GoodP T) (U : List Tt) {a b : Int} (ha : plc T a) (hb : plc T b) : OthA (T ++ U) a b ↔ OthA T a b := by
  unfold OthA
  rw [fmA_app U ha, fmA_app U hb, elA_app U ha, elA_app U hb, same_app G U (el_all G ha) (el_all G hb)]
theorem asg_app {T : List Tt} (G : GoodP T) (U : List Tt) {a b : Int} (ha : plc T a) (hb : plc T b) : AsgA (T ++ U) a b ↔ AsgA T a b := by
  unfold AsgA
  rw [fmA_app U hb, same_app G U ha hb, exa_app G U ha hb, oth_app G U ha hb]
theorem fitn_app {T : List Tt} (G : GoodP T) (U : List Tt) : ∀ (n : Nat) {a b : Int}, plc T a → plc T b → (FitN (T ++ U) n a b ↔ FitN T n a b)
  | 0, a, b, ha, hb => Iff.rfl
  | n + 1, a, b, ha, hb => by
    rw [FitN, FitN, fmA_app U ha, fmA_app U hb, elA_app U ha, elA_app U hb, same_app G U (el_all G ha) (el_all G hb), fitn_app G U n (el_all G ha) (el_all G hb)]
theorem fito_app {T : List Tt} (G : GoodP T) (U : List Tt) {a b : Int} (ha : plc T a) (hb : plc T b) : FitO (T ++ U) a b ↔ FitO T a b := exists_congr fun n => fitn_app G U n ha hb
theorem fita_app {T : List Tt} (G : GoodP T) (U : List Tt) {a b : Int} (v : Bool) (ha : plc T a) (hb : plc T b) : FitA (T ++ U) a v b ↔ FitA T a v b := by
  unfold FitA FitV FitW
  rw [fmA_app U ha, fmA_app U hb, elA_app U hb, same_app G U ha hb, exa_app G U ha hb, fito_app G U ha hb, asg_app G U ha hb]
/- A type more. -/
def aX (L e : Int) : Tt := ⟨7, [], [], L, e, 0, [], [], 0, 0⟩
def oX (e : Int) : Tt := ⟨8, [], [], 0, e, 0, [], [], 0, 0⟩
theorem snoc_k (T : List Tt) (x : Tt) : (T ++ [x])[T.length]? = some x := by simp
theorem snoc_at {T : List Tt} {x y : Tt} {i : Nat} (h : (T ++ [x])[i]? = some y) : (i < T.length ∧ T[i]? = some y) ∨ (i = T.length ∧ y = x) := by
  have hi := (List.getElem?_eq_some_iff.1 h).1
  rw [List.length_append, List.length_singleton] at hi
  by_cases h1 : i < T.length
  · rw [at_app h1] at h
    exact .inl ⟨h1, h⟩
  · have h2 : i = T.length := by omega
    subst h2
    rw [snoc_k] at h
    cases h
    exact .inr ⟨rfl, rfl⟩
theorem good_snoc {T : List Tt} (g : GoodP T) (hT : T.length ≤ 255) {x : Tt} (hn : namesB x = true) (hp : partsB T x = true) (h9 : x.fm ≠ 9) (hi : partsI x = [x.el]) (he : plc T x.el) : GoodP (T ++ [x]) := by
  have h7 := g.loc.lo
  obtain ⟨r, hr⟩ := g.rank
  have hin := g.loc.inP
  obtain ⟨e0, e1⟩ := he
  refine ⟨⟨by simp; omega, by simp; omega, fun i y hi hx => ?_, fun i y hi hx => ?_⟩, ⟨fun i => if i < T.length then r i else r x.el.toNat + 1, fun i y hx j hj => ?_⟩, fun i y hx hf => ?_⟩
  · rcases snoc_at hx with ⟨_, h⟩ | ⟨h, _⟩
    · exact g.loc.bas i y hi h
    · omega
  · rcases snoc_at hx with ⟨_, h⟩ | ⟨h, rfl⟩
    · exact ⟨(g.loc.oth i y hi h).1, parts_app _ (g.loc.oth i y hi h).2⟩
    · exact ⟨hn, parts_app _ hp⟩
  · rcases snoc_at hx with ⟨hi, h⟩ | ⟨h, rfl⟩
    · have h1 := hin i y h j hj
      have h2 : j.toNat < T.length := by omega
      simp only [hi, h2, if_true]
      exact hr i y h j hj
    · rw [hi, List.mem_singleton] at hj
      subst hj h
      have h2 : y.el.toNat < T.length := by omega
      simp only [h2, if_true, Nat.lt_irrefl, if_false]
      omega
  · rcases snoc_at hx with ⟨hi, h⟩ | ⟨h, rfl⟩
    · obtain ⟨h1, n, hn, hl, hd⟩ := g.rcd i y h hf
      refine ⟨fun k z hk hz hz9 hm hds => ?_, n, hn, lv_app _ hl, by rw [nms_app _ hl]; exact hd⟩
      rcases snoc_at hz with ⟨_, h'⟩ | ⟨h', _⟩
      · exact h1 k z hk h' hz9 hm hds
      · omega
    · exact absurd hf h9
theorem good_arr {T : List Tt} (g : GoodP T) (hT : T.length ≤ 255) {L e : Int} (L0 : 1 ≤ L) (L1 : L ≤ 4096) (he : elemF (fmA T e) = true) : GoodP (T ++ [aX L e]) := by
  refine good_snoc g hT rfl ?_ (show ¬ (7 : Int) = 9 by decide) rfl (elemF_in he)
  have f7 : (aX L e).fm = 7 := rfl
  unfold partsB
  rw [if_pos f7]
  simp only [Bool.and_eq_true, decide_eq_true_eq]
  exact ⟨⟨L0, L1, he⟩, rfl⟩
theorem good_opn {T : List Tt} (g : GoodP T) (hT : T.length ≤ 255) {e : Int} (he : openF (fmA T e) = true) : GoodP (T ++ [oX e]) := by
  refine good_snoc g hT rfl ?_ (show ¬ (8 : Int) = 9 by decide) rfl (openF_in he)
  have f8 : (oX e).fm = 8 := rfl
  unfold partsB
  rw [if_neg (by omega), if_pos f8]
  simp only [Bool.and_eq_true]
  exact ⟨he, rfl⟩
theorem form_one {T : List Tt} (G : GoodP T) {i : Nat} (h : i < 7) : fmA T (i : Int) = i := by
  have h7 := G.loc.lo
  have hx := List.getElem?_eq_getElem (l := T) (i := i) (by omega)
  rw [fmA_at hx]
  exact (G.loc.form h hx).1
/- TypesRoom's table. -/
def roomT (T : List Tt) : List Tt := T ++ [aX 2 1, oX 3]
theorem room_len (T : List Tt) : (roomT T).length = T.length + 2 := by simp [roomT]
theorem good_room {T : List Tt} (g : GoodP T) (hT : T.length ≤ 250) : GoodP (roomT T) := by
  have h1 : GoodP (T ++ [aX 2 1]) := good_arr g (by omega) (by decide) (by decide) (by rw [show (1 : Int) = ((1 : Nat) : Int) from rfl, form_one g (by decide)]; rfl)
  have h2 := good_opn h1 (by simp; omega) (e := 3) (by rw [show (3 : Int) = ((3 : Nat) : Int) from rfl, form_one h1 (by decide)]; rfl)
  rw [List.append_assoc] at h2
  exact h2
/- TypesOpen's. -/
def opnT (T : List Tt) (L e : Int) : List Tt := T ++ [aX L e, oX e, oX (T.length + 1)]
theorem opn_len (T : List Tt) (L e : Int) : (opnT T L e).length = T.length + 3 := by simp [opnT]
theorem opn_0 (T : List Tt) (L e : Int) : (opnT T L e)[T.length]? = some (aX L e) := by simp [opnT]
theorem opn_1 (T : List Tt) (L e : Int) : (opnT T L e)[T.length + 1]? = some (oX e) := by simp [opnT]
theorem good_opnT {T : List Tt} (g : GoodP T) (hT : T.length ≤ 250) {L e : Int} (L0 : 1 ≤ L) (L1 : L ≤ 4096) (he : elemF (fmA T e) = true) : GoodP (opnT T L e) := by
  have h1 : GoodP (T ++ [aX L e]) := good_arr g (by omega) L0 L1 he
  have h2 := good_opn h1 (by simp; omega) (e := e) (by
    have := elem_app [aX L e] he
    unfold openF
    rw [Bool.or_eq_true]
    exact .inr this)
  rw [List.append_assoc] at h2
  have h3 := good_opn h2 (by simp; omega) (e := (T.length : Int) + 1) (by
    rw [show (T.length : Int) + 1 = ((T.length + 1 : Nat) : Int) by omega, fmA_at (show (T ++ ([aX L e] ++ [oX e]))[T.length + 1]? = some (oX e) by simp)]
    rfl)
  rw [List.append_assoc] at h3
  exact h3
theorem opn_fits {T : List Tt} {L e : Int} : FitO (opnT T L e) (T.length : Int) ((T.length : Int) + 1) := by
  rw [FitO.iff, show (T.length : Int) + 1 = ((T.length + 1 : Nat) : Int) by omega, fmA_at (opn_0 T L e), fmA_at (opn_1 T L e), elA_at (opn_0 T L e), elA_at (opn_1 T L e)]
  exact ⟨rfl, .inl rfl, .inl (SameP.refl _ _)⟩
theorem opn_var {T : List Tt} {L e : Int} : FitA (opnT T L e) (T.length : Int) true ((T.length : Int) + 1) := by
  refine .inl ⟨rfl, ?_, .inr (.inr opn_fits)⟩
  rw [fmA_at (opn_0 T L e), show (aX L e).fm = 7 from rfl]
  exact ⟨by decide, by decide, by decide⟩
theorem opn_fm1 (T : List Tt) (L e : Int) : fmA (opnT T L e) ((T.length : Int) + 1) = 8 := by
  rw [show (T.length : Int) + 1 = ((T.length + 1 : Nat) : Int) by omega, fmA_at (opn_1 T L e)]
  rfl
theorem opn_el1 (T : List Tt) (L e : Int) : elA (opnT T L e) ((T.length : Int) + 1) = e := by
  rw [show (T.length : Int) + 1 = ((T.length + 1 : Nat) : Int) by omega, elA_at (opn_1 T L e)]
  rfl
theorem opn_val {T : List Tt} {L e : Int} : FitA (opnT T L e) (T.length : Int) false ((T.length : Int) + 1) := .inr ⟨rfl, .inl ⟨opn_fm1 T L e, .inl opn_fits⟩⟩
theorem opn_nas {T : List Tt} {L e : Int} : ¬ AsgA (opnT T L e) (T.length : Int) ((T.length : Int) + 1) := fun h => by
  have := h.1
  rw [opn_fm1] at this
  cases this
theorem opn_asg {T : List Tt} {L e : Int} : AsgA (opnT T L e) ((T.length : Int) + 1) (T.length : Int) := by
  refine ⟨by rw [fmA_at (opn_0 T L e)]; rfl, .inr (.inr (.inr (.inr ⟨opn_fm1 T L e, by rw [fmA_at (opn_0 T L e)]; rfl, ?_⟩)))⟩
  rw [opn_el1, elA_at (opn_0 T L e)]
  exact SameP.refl _ _
/- What it takes by VAR it takes as a value. -/
theorem same_opn {T : List Tt} {i k : Nat} {e : Int} (hk : T[k]? = some (oX e)) (hi : i < T.length) (h : SameP T (i : Int) (k : Int)) : fmA T (i : Int) = 8 ∧ SameP T (elA T (i : Int)) (elA T (k : Int)) := by
  have hx := List.getElem?_eq_getElem hi
  by_cases hn : (i : Int) = k
  · rw [hn, fmA_at hk]
    exact ⟨rfl, SameP.refl _ _⟩
  · obtain ⟨l, hl, hs⟩ := h.step hn
    have key : ∀ x y : Tt, (x = oX e ∨ y = oX e) → alF x y = some l → x.fm = 8 ∧ y.fm = 8 ∧ l = [(x.el, y.el)] := by
      intro x y hxy ha
      have f8 : (oX e).fm = 8 := rfl
      have n8 : (oX e).nm = [] := rfl
      unfold alF at ha
      rw [if_neg (by rintro ⟨a, b⟩; rcases hxy with rfl | rfl <;> omega)] at ha
      have hns : ¬ (x.nm ≠ [] ∨ y.nm ≠ []) := by
        intro hc
        rw [if_pos hc] at ha
        split at ha
        · rename_i hh
          obtain ⟨_, h2, _⟩ := hh
          rcases hxy with rfl | rfl <;> simp_all
        · cases ha
      rw [if_neg hns] at ha
      split at ha
      · cases ha
      · rename_i hh
        have hf : x.fm = y.fm := Classical.byContradiction fun c => hh (.inl c)
        have h8 : x.fm = 8 := by rcases hxy with rfl | rfl <;> omega
        rw [if_pos (.inr (.inl h8))] at ha
        cases ha
        exact ⟨h8, by omega, rfl⟩
    rcases mmP_or (i : Int) (k : Int) with e1 | e1
    · rw [e1] at hl
      dsimp only at hl
      rw [alA_at hx hk] at hl
      obtain ⟨h1, h2, h3⟩ := key _ _ (.inr rfl) hl
      rw [fmA_at hx, elA_at hx, elA_at hk]
      exact ⟨h1, hs (T[i].el, (oX e).el) (by rw [h3]; exact .head _)⟩
    · rw [e1] at hl
      dsimp only at hl
      rw [alA_at hk hx] at hl
      obtain ⟨h1, h2, h3⟩ := key _ _ (.inl rfl) hl
      rw [fmA_at hx, elA_at hx, elA_at hk]
      exact ⟨h2, (hs ((oX e).el, T[i].el) (by rw [h3]; exact .head _)).symm⟩
theorem opn_take {T : List Tt} {L e : Int} {i : Nat} (hi : i < T.length + 3) (h : FitA (opnT T L e) (i : Int) true ((T.length : Int) + 1)) : FitA (opnT T L e) (i : Int) false ((T.length : Int) + 1) := by
  rcases h with ⟨_, hv⟩ | ⟨hc, _⟩
  case inr => cases hc
  refine .inr ⟨rfl, .inl ⟨opn_fm1 T L e, .inl ?_⟩⟩
  obtain ⟨_, h | h | h⟩ := hv
  · rw [show (T.length : Int) + 1 = ((T.length + 1 : Nat) : Int) by omega] at h
    obtain ⟨h1, h2⟩ := same_opn (opn_1 T L e) (by rw [opn_len]; exact hi) h
    rw [show ((T.length + 1 : Nat) : Int) = (T.length : Int) + 1 by omega] at h2
    exact FitO.iff.2 ⟨opn_fm1 T L e, .inr h1, .inl h2⟩
  · have := h.2.1
    rw [opn_fm1] at this
    cases this
  · exact h
/- A text fits where the element is a character. -/
theorem opn_six {T : List Tt} (g : GoodP T) (hT : T.length ≤ 250) {L e : Int} (G : GoodP (opnT T L e)) (he : plc T e) : (FitA (opnT T L e) 6 false ((T.length : Int) + 1) ↔ fmA T e = 3) ∧ ¬ FitA (opnT T L e) 6 true ((T.length : Int) + 1) := by
  have h6 : fmA (opnT T L e) 6 = 6 := form_one G (i := 6) (by decide)
  have h3 : fmA T e = 3 ↔ e = 3 := by
    obtain ⟨i, rfl, hi⟩ := plc_nat he
    constructor
    · intro h
      by_cases h7 : i < 7
      · rw [form_one g h7] at h
        exact h
      · have hx := List.getElem?_eq_getElem hi
        rw [fmA_at hx] at h
        have := parts_fm (g.loc.oth i _ (by omega) hx).2
        omega
    · intro h
      have : i = 3 := by omega
      subst this
      exact form_one g (by decide)
  refine ⟨⟨fun h => ?_, fun h => ?_⟩, fun h => ?_⟩
  · rcases h with ⟨hc, _⟩ | ⟨_, h⟩
    · cases hc
    · rcases h with ⟨_, h | h⟩ | ⟨h, _⟩
      · have := h.form.2
        rw [h6] at this
        rcases this with c | c <;> cases c
      · have := h.2
        rw [opn_el1] at this
        exact h3.2 this
      · exact absurd (opn_fm1 T L e) h
  · exact .inr ⟨rfl, .inl ⟨opn_fm1 T L e, .inr ⟨h6, by rw [opn_el1]; exact h3.1 h⟩⟩⟩
  · rcases h with ⟨_, hv⟩ | ⟨hc, _⟩
    · exact hv.1.2.2 h6
    · cases hc
end Go.Proofs.Ythmldhppmpbadaa.Ty
namespace Go.Proofs.Ythmldhppmpbadaa.Ty
open Go.RowKit hiding Hid
open Go.Proofs.Ythmldhppmpbadaa.Tx Go.Proofs.Ythmldhppmpbadaa.Lx Go.Proofs.Ythmldhppmpbadaa.Tr
set_option linter.unusedVariables false
set_option linter.unusedSimpArgs false
set_option maxRecDepth 100000

section
variable {P : Program} {ops : Array Oper} {rest : List Oper} {o : Oper} {a : Act} {w w0 : World} {A : Nat → Prop} {X : Option Nat} {L : List Lc} {Rs : List Rw} {Ts : List (List Dt × List Value)} {Q : Exit → Act → World → Prop}
theorem wl_b0 (hgd : o.guard = none) (T e : TypeId) (k : Nat) (ho : o.op = .buildSlice T 0 #[]) (hu : P.underlying T = some (.slice e)) (hie : (P.info? e).isSome = true) (H : Cx w0 A X L Rs Ts w)
    (h : ∀ b w', Cx w0 A X L (⟨.slice (some ⟨b, 0, none⟩) 0 0, e, k, 0, []⟩ :: Rs) Ts w' → wpList P ops Q rest (a.put o.dst (.slice (some ⟨b, 0, none⟩) 0 0)) w') : wpList P ops Q (o :: rest) a w :=
  wpList_plain hgd fun K' hK' => op_b0 T e k ho hu hie H (fun b w' _ _ hc => hK' _ _ (h b w' hc))
theorem wl_apc (hgd : o.guard = none) (s x : Operand) {T : TypeId} (ho : o.op = .call { callee := .builtin .append, args := #[s, x], argTypes := #[T, T] }) {e : TypeId} {k by_ : Nat} (hT : P.underlying T = some (.slice e)) (hi : (P.info? e).map (fun i => (i.zero.map (·.cells.size), i.size, i.bytes)) = some (some k, k, by_)) (hk : 0 < k) (hb : by_ ≤ 100000)
    {v : Value} {n m : Nat} {xs us : List Value} {oo : Option Addr} {c : Nat} (hs : a.eval s = v) (hx : a.eval x = .slice oo m c) (H : Cx w0 A X L (⟨v, e, k, n, xs⟩ :: Rs) Ts w) (hsrc : Cls w oo us) (hlen : us.length = m * k) (hnil : oo = none → m = 0 ∧ c = 0) (h1 : us.all (·.oneCell') = true) (hn : n + m ≤ 900000)
    (h : ∀ d cp w', Cx w0 A X L (⟨.slice d (n + m) cp, e, k, n + m, xs ++ us⟩ :: Rs) Ts w' → wpList P ops Q rest (a.put o.dst (.slice d (n + m) cp)) w') : wpList P ops Q (o :: rest) a w :=
  wpList_plain hgd fun K' hK' => op_apc s x ho hT hi hk hb hs hx H hsrc hlen hnil h1 hn (fun d cp w' _ hc => hK' _ _ (h d cp w' hc))
end
end Go.Proofs.Ythmldhppmpbadaa.Ty
namespace Go.Proofs.Ythmldhppmpbadaa.Ty
open Go.RowKit hiding Hid
open Go.Maps Go.Proofs.Ythmldhppmpbadaa.Tx Go.Proofs.Ythmldhppmpbadaa.Lx Go.Proofs.Ythmldhppmpbadaa.Tr Go.Proofs.Ythmldhppmpbadaa.Mp
set_option linter.unusedVariables false
set_option linter.unusedSimpArgs false
set_option maxRecDepth 100000

theorem loc_cls {w0 W : World} {A : Nat → Prop} {X : Option Nat} {L : List Lc} {Rs : List Rw} {Ts : List (List Dt × List Value)} {b : Nat} {cs : List Value} {t : TypeId} (H : Cx w0 A X L Rs Ts W) (hm : ⟨b, cs, t⟩ ∈ L) : Cls W (some ⟨b, 0, none⟩) cs := fun j u hu => by
  have hadd : (⟨b, 0, none⟩ : Addr).add j = ⟨b, j, none⟩ := by unfold Addr.add; split <;> simp_all
  refine ⟨_, rfl, ?_⟩
  rw [hadd]
  exact cf H hm j u hu
/- A row from a call, with what it is made of. -/
theorem Cx.row_u {w0 w w' : World} {G : Prop} {e : TypeId} {k n : Nat} {v : Value} {xs : List Value} {ds : List Dt} (H : Cx w0 (fun _ => False) none [] [] [] w) (hg : w.grownBy w' none) (hr : w'.ownsRow w.heap.size e k v n xs) (hv : isV w' (fun b => w.heap.size ≤ b ∧ v.ownBlock ≠ some b) ds xs) (h : Cx w0 (fun _ => False) none [] [⟨v, e, k, n, xs⟩] [(ds, xs)] w' → G) : G := by
  refine H.row0 hg hr (fun hc => h (hc.add (isV.kept (Fr.here (fun b hb _ => ⟨.inr (Nat.le_trans H.grown.size hb.1), by simp, fun r hr => ?_⟩)) _ _ hv)))
  rw [List.mem_singleton] at hr
  subst hr
  exact hb.2
theorem copy_V {w : World} {o : Option Addr} {l : List La} {T : List Tt} (cp : Nat) (hT : l.map La.x = T) (H : TabR w o l) (hf : Few l) : Calls Try.prog 26 #[.slice o T.length cp] w (CoO w T) := by
  subst hT
  obtain ⟨h1, h2, h3⟩ := hf.small H
  have hle := hf.le
  rw [show ((l.map La.x).length) = l.length by rw [List.length_map]]
  exact copy_go cp h1 h2 h3 (by omega)
/- A table that can be copied. -/
def CpyR (w : World) (o : Option Addr) (T : List Tt) : Prop := T.length ≤ 300000 ∧ ∃ l : List La, l.map La.x = T ∧ TabL w o l ∧ (∀ a ∈ l, Nl a) ∧ (∀ a ∈ l, a.x.fl.length ≤ 900000 ∧ a.x.pm.length ≤ 900000)
theorem CpyR.tab {w : World} {o : Option Addr} {T : List Tt} (h : CpyR w o T) : Tab w o T := by
  obtain ⟨h0, l, h1, h2, h3, h4⟩ := h
  exact ⟨by omega, l, h1, h2⟩
theorem CpyR.kept {w w' : World} {o : Option Addr} {T : List Tt} (h : CpyR w o T) (hg : w.grownBy w' none) : CpyR w' o T := by
  obtain ⟨h0, l, h1, h2, h3, h4⟩ := h
  exact ⟨h0, l, h1, ⟨h2.row.kept hg, fun a ha => (h2.parts a ha).kept hg⟩, h3, h4⟩
theorem copy_C {w : World} {o : Option Addr} {T : List Tt} (cp : Nat) (h : CpyR w o T) : Calls Try.prog 26 #[.slice o T.length cp] w (CpT w T) := by
  obtain ⟨h0, l, rfl, h2, h3, h4⟩ := h
  rw [show ((l.map La.x).length) = l.length by rw [List.length_map]]
  rw [List.length_map] at h0
  refine (copy_go cp h2 h3 h4 h0).mono fun e w' ⟨oi, ci, xs, he, hg, hr, hv⟩ => ?_
  obtain ⟨ht, hc⟩ := CoO.tab (by rw [List.length_map]; omega) (fun x hx => by
    obtain ⟨a, ha, rfl⟩ := List.mem_map.1 hx
    exact (h2.parts a ha).sm) hr hv
  exact ⟨oi, ci, he, hg, ht, hc⟩
def CpN (w : World) (T : List Tt) (n : Nat) (e : Ending) (w' : World) : Prop := ∃ oi ci, e = .returned (.slice oi n ci) ∧ w.grownBy w' none ∧ Tab w' oi T ∧ n ≤ ci
theorem copy_N {w : World} {o : Option Addr} {T : List Tt} {n : Nat} (hn : T.length = n) (cp : Nat) (h : CpyR w o T) : Calls Try.prog 26 #[.slice o n cp] w (CpN w T n) := by
  subst hn
  exact copy_C cp h
/- Types without lists, as cells. -/
def lB (x : Tt) : La := ⟨x, none, 0, none, 0⟩
theorem tab_more {w W : World} {T E : List Tt} {d : Option Addr} {n cp : Nat} {Ls : List Lc} {xs cs : List Value} (hT : T.length ≤ 300) (hE0 : E.length ≤ 300) (hs : ∀ x ∈ T, Sm x) (hb : ∀ x ∈ T, x.fl.length ≤ 900000 ∧ x.pm.length ≤ 900000) (hE : ∀ x ∈ E, x.fl = [] ∧ x.pm = [] ∧ x.md = [] ∧ x.nm = []) (H : Cx w (fun _ => False) none Ls [⟨.slice d n cp, 48, 10, n, xs ++ cs⟩] [(T.flatMap tyD, xs)] W) (hn : n = (T ++ E).length) (hcs : cs = E.flatMap (fun x => laC (lB x))) : CpyR W d (T ++ E) ∧ n ≤ cp := by
  obtain ⟨l, e1, e2, e3⟩ := tree_tab T xs (H.tr _ (.head _)) hs
  obtain ⟨o9, c9, e9, h9, hc9⟩ := row_clsK (H.row _ (.head _))
  cases e9
  subst hcs
  refine ⟨⟨by rw [List.length_append]; omega, l ++ E.map lB, ?_, ⟨?_, fun a ha => ?_⟩, fun a ha => ?_, fun a ha => ?_⟩, h9⟩
  · rw [List.map_append, e1, List.map_map]
    congr 1
    have : (La.x ∘ lB) = id := rfl
    rw [this, List.map_id]
  · rw [List.flatMap_append, ← e2, List.flatMap_map]
    exact hc9
  · rcases List.mem_append.1 ha with ha | ha
    · exact (e3 a ha).1
    · obtain ⟨x, hx, rfl⟩ := List.mem_map.1 ha
      obtain ⟨h1, h2, h3, h4⟩ := hE x hx
      exact ⟨fun j u hu => by simp [lB, h1] at hu, fun j u hu => by simp [lB, h2] at hu, ⟨by show x.md.length ≤ _; rw [h3]; exact Nat.zero_le _, by show x.nm.length ≤ _; rw [h4]; exact Nat.zero_le _, by show x.fl.length ≤ _; rw [h1]; exact Nat.zero_le _, by show x.pm.length ≤ _; rw [h2]; exact Nat.zero_le _, fun f hf => by rw [show (lB x).x.fl = [] from h1] at hf; cases hf⟩⟩
  · rcases List.mem_append.1 ha with ha | ha
    · exact (e3 a ha).2
    · obtain ⟨x, hx, rfl⟩ := List.mem_map.1 ha
      obtain ⟨h1, h2, h3, h4⟩ := hE x hx
      constructor <;> simp [lB, h1, h2]
  · rcases List.mem_append.1 ha with ha | ha
    · exact hb a.x (by rw [← e1]; exact List.mem_map_of_mem ha)
    · obtain ⟨x, hx, rfl⟩ := List.mem_map.1 ha
      obtain ⟨h1, h2, h3, h4⟩ := hE x hx
      exact ⟨by show x.fl.length ≤ _; rw [h1]; exact Nat.zero_le _, by show x.pm.length ≤ _; rw [h2]; exact Nat.zero_le _⟩
theorem few_T {w : World} {o : Option Addr} {l : List La} {T : List Tt} (hT : l.map La.x = T) (H : TabR w o l) (hf : Few l) : (∀ x ∈ T, Sm x) ∧ (∀ x ∈ T, x.fl.length ≤ 900000 ∧ x.pm.length ≤ 900000) := by
  subst hT
  obtain ⟨h1, h2, h3⟩ := hf.small H
  exact ⟨fun x hx => by
    obtain ⟨a, ha, rfl⟩ := List.mem_map.1 hx
    exact (h1.parts a ha).sm, fun x hx => by
    obtain ⟨a, ha, rfl⟩ := List.mem_map.1 hx
    exact h3 a ha⟩
theorem fit_v {w : World} {o : Option Addr} {T : List Tt} {cp : Nat} (H : Tab w o T) (hcp : T.length ≤ cp) (G : GoodP T) {i j : Nat} (hi : i < T.length) (hj : j < T.length) {s v : Bool} (hs : s = true ↔ FitA T i v j) : Calls Try.prog 31 #[.slice o T.length cp, .int .i64 i, .agg #[.bool v, .int .i64 j]] w (SzO w (.bool s)) :=
  (pfits_at cp H hcp i v j).mono fun e w' h => bq_v (snd_2 G hi hj) hs h
theorem bq_no {P : Prop} {w w' : World} {e : Ending} (hn : ¬ P) (h : BQ P w e w') : SzO w (.bool false) e w' := by
  obtain ⟨r, h1, h2, h3⟩ := h
  obtain rfl : r = false := by cases r <;> simp_all
  exact ⟨h1, h2⟩
theorem snd_no {T : List Tt} {a b : Int} (h : ¬ (inT T.length a = true ∧ inT T.length b = true)) : ¬ Snd T [a, b] := fun hs => h ⟨hs.1 a (by simp), hs.1 b (by simp)⟩
theorem same_no {w : World} {o : Option Addr} {T : List Tt} {cp : Nat} (H : Tab w o T) (hcp : T.length ≤ cp) {a b : Int} (hn : ¬ Snd T [a, b]) : Calls Try.prog 27 #[.slice o T.length cp, .int .i64 a, .int .i64 b] w (SzO w (.bool false)) :=
  (psame_at cp H hcp a b).mono fun e w' h => bq_no (fun c => hn c.1) h
theorem exts_no {w : World} {o : Option Addr} {T : List Tt} {cp : Nat} (H : Tab w o T) (hcp : T.length ≤ cp) {a b : Int} (hn : ¬ Snd T [a, b]) : Calls Try.prog 28 #[.slice o T.length cp, .int .i64 a, .int .i64 b] w (SzO w (.bool false)) :=
  (pext_at cp H hcp a b).mono fun e w' h => bq_no (fun c => hn c.1) h
theorem asg_out {w : World} {o : Option Addr} {T : List Tt} {cp : Nat} (H : Tab w o T) (hcp : T.length ≤ cp) {a b : Int} (hn : ¬ Snd T [a, b]) : Calls Try.prog 29 #[.slice o T.length cp, .int .i64 a, .int .i64 b] w (SzO w (.bool false)) :=
  (pasg_at cp H hcp a b).mono fun e w' h => bq_no (fun c => hn c.1) h
theorem good_v {w : World} {o : Option Addr} {T : List Tt} (cp : Nat) (H : Tab w o T) (hcp : T.length ≤ cp) (G : GoodP T) : Calls Try.prog 30 #[.slice o T.length cp] w (SzO w (.bool true)) :=
  (good_at cp H hcp).mono fun e w' ⟨d, he, hg, hd⟩ => by
    obtain rfl : d = true := hd.2 G
    exact ⟨he, hg⟩
end Go.Proofs.Ythmldhppmpbadaa.Ty
