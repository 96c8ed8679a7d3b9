/-
  The document's own tables (package spinetref13): Good, a basic type falls, another falls.
-/
import Derived.Test.YthmldhppmpbadaaTg24
namespace Go.Proofs.Ythmldhppmpbadaa.Ty
open Go.RowKit hiding Hid
open Go.Maps Go.Proofs.Ythmldhppmpbadaa.Tx Go.Proofs.Ythmldhppmpbadaa.Lx Go.Proofs.Ythmldhppmpbadaa.Tr Go.Proofs.Ythmldhppmpbadaa.Mp
set_option linter.unusedVariables false
set_option linter.unusedSimpArgs false
set_option maxRecDepth 100000

set_option maxHeartbeats 8000000 in
theorem rgood_bas {w : World} {ad : Addr} {T : List Tt} (cp : Nat) (H : Tab w (some ad) T) (h7 : 7 ≤ T.length) (h256 : T.length ≤ 256) (hb : ¬ UpTo T 7) : Calls Try.prog 24 #[.slice (some ad) T.length cp] w (GdO w T) := by
  have HT := hide H
  have HC := hide (Cx.start w (fun _ => False))
  have j7 : ¬ (T.length : Int) < 7 := by omega
  have j8 : ¬ (256 : Int) < T.length := by omega
  have k0 : (T.length : Int) ≤ 1000000 := by omega
  have HBn := hide hb
  clear H h7 h256 hb
  go_enter Try.func24, Try.ntmps24
  go_wp2_with (go_at_call 49; refine (rbasic_at _).mono ?_; rintro e w1 ⟨ob, cb, rfl, h7, hg, hb⟩; have HB := hide hb; have HG := hide hg; replace HT := hide (HT.out.kept hg); replace HC := hide (Cx.start w1 (fun _ => False)); clear h7 hg hb)
  go_loopw [4] (fun iv W => ∃ i : Nat, i ≤ 7 ∧ iv = .int .i64 i ∧ Hid (UpTo T i) ∧ Hid (Cx w1 (fun _ => False) none [] [] [] W)) (fun iv _ => 7 - (intOf iv).toNat)
  case atStart => exact ⟨0, by omega, rfl, hide (fun i x h => by omega), HC⟩
  case round =>
    clear HC
    obtain ⟨i, hi, rfl, HU, HC⟩ := hrel
    by_cases hlt : i < 7
    · have r1 : (i : Int) < 7 := by omega
      have r2 : (i : Int) < T.length := by omega
      obtain ⟨x, hx⟩ : ∃ x, T[i]? = some x := ⟨T[i], List.getElem?_eq_getElem (by omega)⟩
      obtain ⟨ad1, la, e0, e1, hc1, hp1⟩ := HT.out.at hx
      cases e0
      obtain ⟨ad2, la2, rfl, e2, hc2, hp2⟩ := HB.out.at (bas_at hlt)
      obtain ⟨B, hB⟩ : ∃ B, ad.add (i * 10) = B := ⟨_, rfl⟩
      obtain ⟨B2, hB2⟩ : ∃ B, ad2.add (i * 10) = B := ⟨_, rfl⟩
      rw [hB] at hc1
      rw [hB2] at hc2
      have HE1 := hide (fun W (hW : w1.grownBy W none) j u (hu : (laC la)[j]? = some u) => hW.cell (hc1 j u hu) (by simp))
      have HE2 := hide (fun W (hW : w1.grownBy W none) j u (hu : (laC la2)[j]? = some u) => hW.cell (hc2 j u hu) (by simp))
      have HP1 := hide hp1
      have HP2 := hide hp2
      have HX := hide e2
      obtain ⟨q, hq⟩ : ∃ q, basicB i la.x = q := ⟨_, rfl⟩
      have HQ := hide hq
      have HXx := hide hx
      have HEx := hide e1
      have HLt := hide hlt
      clear hx e1 e2 hc1 hc2 hp1 hp2 hq
      cases q with
      | false =>
        go_wp2
        ((replace HC := hide (HC.out.g (d1_g _)); have HC0 := HC; refine wp_region_inO (fun W => World.grownBy _ W none) 99 [0, 1, 2, 3, 4, 5, 6, 7, 9] [0, 1, 2, 3, 4, 5, 6, 7, 8, 9] (by kernel_rfl) (by kernel_rfl) (by kernel_rfl) (by kernel_rfl) (fun _ _ d _ _ h => by cases d <;> exact h) (gr_ref _ _) ?_; have HS := hide (gr_of HC.out none)); (refine inO_read (v := ?_) rfl rfl (Or.inl ⟨by rfl, ?_⟩) ?_; rotate_left 1; (focus (intro W hSW; clear hSW; go_simp; (try (with_reducible rfl)))); (try simp only [Act.put, List.getElem_toArray, List.getElem_cons_zero, List.getElem_cons_succ, List.setIfInBounds_toArray, List.set_cons_zero, List.set_cons_succ])); (refine inO_read (v := ?_) rfl rfl (Or.inl ⟨by rfl, ?_⟩) ?_; rotate_left 1; (focus (intro W hSW; clear hSW; go_simp; (try (with_reducible rfl)))); (try simp only [Act.put, List.getElem_toArray, List.getElem_cons_zero, List.getElem_cons_succ, List.setIfInBounds_toArray, List.set_cons_zero, List.set_cons_succ])); (refine inO_read (v := ?_) rfl rfl (Or.inl ⟨by rfl, ?_⟩) ?_; rotate_left 1; (focus (intro W hSW; clear hSW; go_simp; (try (with_reducible rfl)))); (try simp only [Act.put, List.getElem_toArray, List.getElem_cons_zero, List.getElem_cons_succ, List.setIfInBounds_toArray, List.set_cons_zero, List.set_cons_succ])); (refine inO_read rfl rfl (yl_load rfl rfl rfl (fun W hW => run_load_s tyT B (laC la) rfl (HE1.out W (gr_then HC0.out.grown hW)))) ?_; (try simp only [Act.put, List.getElem_toArray, List.getElem_cons_zero, List.getElem_cons_succ, List.setIfInBounds_toArray, List.set_cons_zero, List.set_cons_succ])); (refine inO_read (v := ?_) rfl rfl (Or.inl ⟨by rfl, ?_⟩) ?_; rotate_left 1; (focus (intro W hSW; clear hSW; go_simp; (try (with_reducible rfl)))); (try simp only [Act.put, List.getElem_toArray, List.getElem_cons_zero, List.getElem_cons_succ, List.setIfInBounds_toArray, List.set_cons_zero, List.set_cons_succ])); (refine inO_read (v := ?_) rfl rfl (Or.inl ⟨by rfl, ?_⟩) ?_; rotate_left 1; (focus (intro W hSW; clear hSW; go_simp; (try (with_reducible rfl)))); (try simp only [Act.put, List.getElem_toArray, List.getElem_cons_zero, List.getElem_cons_succ, List.setIfInBounds_toArray, List.set_cons_zero, List.set_cons_succ])); (refine inO_read (v := ?_) rfl rfl (Or.inl ⟨by rfl, ?_⟩) ?_; rotate_left 1; (focus (intro W hSW; clear hSW; go_simp; (try (with_reducible rfl)))); (try simp only [Act.put, List.getElem_toArray, List.getElem_cons_zero, List.getElem_cons_succ, List.setIfInBounds_toArray, List.set_cons_zero, List.set_cons_succ])); (refine inO_read rfl rfl (yl_load rfl rfl rfl (fun W hW => run_load_s tyT B2 (laC la2) rfl (HE2.out W (gr_then HC0.out.grown hW)))) ?_; (try simp only [Act.put, List.getElem_toArray, List.getElem_cons_zero, List.getElem_cons_succ, List.setIfInBounds_toArray, List.set_cons_zero, List.set_cons_succ])); (refine inO_act rfl rfl rfl (fun K' hK => ?_)); go_simp; refine (alike_b (HP1.out.kept HC.out.grown) (HP2.out.kept HC.out.grown) HX.out).mono ?_; rw [HQ.out]; rintro e w2 ⟨rfl, hg⟩; (replace HC := hide (HC.out.g hg); refine hK _ _ (.inr (gr_then0 HS.out hg)) ?_; replace HS := hide (gr_then0 HS.out hg); clear hK K' hg; (try simp only [Act.put, List.getElem_toArray, List.getElem_cons_zero, List.getElem_cons_succ, List.setIfInBounds_toArray, List.set_cons_zero, List.set_cons_succ])); (refine inO_read (v := ?_) rfl rfl (Or.inl ⟨by rfl, ?_⟩) ?_; rotate_left 1; (focus (intro W hSW; clear hSW; go_simp; (try (with_reducible rfl)))); (try simp only [Act.put, List.getElem_toArray, List.getElem_cons_zero, List.getElem_cons_succ, List.setIfInBounds_toArray, List.set_cons_zero, List.set_cons_succ])); (refine inO_end ?_); clear HC0 HS)
        go_wp2
        go_ret
        exact ⟨false, rfl, gr_then HG.out HC.out.grown, gd_no (rg_bas HLt.out HXx.out (by rw [← HEx.out]; exact HQ.out))⟩
      | true =>
        go_wp2
        ((replace HC := hide (HC.out.g (d1_g _)); have HC0 := HC; refine wp_region_inO (fun W => World.grownBy _ W none) 99 [0, 1, 2, 3, 4, 5, 6, 7, 9] [0, 1, 2, 3, 4, 5, 6, 7, 8, 9] (by kernel_rfl) (by kernel_rfl) (by kernel_rfl) (by kernel_rfl) (fun _ _ d _ _ h => by cases d <;> exact h) (gr_ref _ _) ?_; have HS := hide (gr_of HC.out none)); (refine inO_read (v := ?_) rfl rfl (Or.inl ⟨by rfl, ?_⟩) ?_; rotate_left 1; (focus (intro W hSW; clear hSW; go_simp; (try (with_reducible rfl)))); (try simp only [Act.put, List.getElem_toArray, List.getElem_cons_zero, List.getElem_cons_succ, List.setIfInBounds_toArray, List.set_cons_zero, List.set_cons_succ])); (refine inO_read (v := ?_) rfl rfl (Or.inl ⟨by rfl, ?_⟩) ?_; rotate_left 1; (focus (intro W hSW; clear hSW; go_simp; (try (with_reducible rfl)))); (try simp only [Act.put, List.getElem_toArray, List.getElem_cons_zero, List.getElem_cons_succ, List.setIfInBounds_toArray, List.set_cons_zero, List.set_cons_succ])); (refine inO_read (v := ?_) rfl rfl (Or.inl ⟨by rfl, ?_⟩) ?_; rotate_left 1; (focus (intro W hSW; clear hSW; go_simp; (try (with_reducible rfl)))); (try simp only [Act.put, List.getElem_toArray, List.getElem_cons_zero, List.getElem_cons_succ, List.setIfInBounds_toArray, List.set_cons_zero, List.set_cons_succ])); (refine inO_read rfl rfl (yl_load rfl rfl rfl (fun W hW => run_load_s tyT B (laC la) rfl (HE1.out W (gr_then HC0.out.grown hW)))) ?_; (try simp only [Act.put, List.getElem_toArray, List.getElem_cons_zero, List.getElem_cons_succ, List.setIfInBounds_toArray, List.set_cons_zero, List.set_cons_succ])); (refine inO_read (v := ?_) rfl rfl (Or.inl ⟨by rfl, ?_⟩) ?_; rotate_left 1; (focus (intro W hSW; clear hSW; go_simp; (try (with_reducible rfl)))); (try simp only [Act.put, List.getElem_toArray, List.getElem_cons_zero, List.getElem_cons_succ, List.setIfInBounds_toArray, List.set_cons_zero, List.set_cons_succ])); (refine inO_read (v := ?_) rfl rfl (Or.inl ⟨by rfl, ?_⟩) ?_; rotate_left 1; (focus (intro W hSW; clear hSW; go_simp; (try (with_reducible rfl)))); (try simp only [Act.put, List.getElem_toArray, List.getElem_cons_zero, List.getElem_cons_succ, List.setIfInBounds_toArray, List.set_cons_zero, List.set_cons_succ])); (refine inO_read (v := ?_) rfl rfl (Or.inl ⟨by rfl, ?_⟩) ?_; rotate_left 1; (focus (intro W hSW; clear hSW; go_simp; (try (with_reducible rfl)))); (try simp only [Act.put, List.getElem_toArray, List.getElem_cons_zero, List.getElem_cons_succ, List.setIfInBounds_toArray, List.set_cons_zero, List.set_cons_succ])); (refine inO_read rfl rfl (yl_load rfl rfl rfl (fun W hW => run_load_s tyT B2 (laC la2) rfl (HE2.out W (gr_then HC0.out.grown hW)))) ?_; (try simp only [Act.put, List.getElem_toArray, List.getElem_cons_zero, List.getElem_cons_succ, List.setIfInBounds_toArray, List.set_cons_zero, List.set_cons_succ])); (refine inO_act rfl rfl rfl (fun K' hK => ?_)); go_simp; refine (alike_b (HP1.out.kept HC.out.grown) (HP2.out.kept HC.out.grown) HX.out).mono ?_; rw [HQ.out]; rintro e w2 ⟨rfl, hg⟩; (replace HC := hide (HC.out.g hg); refine hK _ _ (.inr (gr_then0 HS.out hg)) ?_; replace HS := hide (gr_then0 HS.out hg); clear hK K' hg; (try simp only [Act.put, List.getElem_toArray, List.getElem_cons_zero, List.getElem_cons_succ, List.setIfInBounds_toArray, List.set_cons_zero, List.set_cons_succ])); (refine inO_read (v := ?_) rfl rfl (Or.inl ⟨by rfl, ?_⟩) ?_; rotate_left 1; (focus (intro W hSW; clear hSW; go_simp; (try (with_reducible rfl)))); (try simp only [Act.put, List.getElem_toArray, List.getElem_cons_zero, List.getElem_cons_succ, List.setIfInBounds_toArray, List.set_cons_zero, List.set_cons_succ])); (refine inO_end ?_); clear HC0 HS)
        go_wp2
        refine ⟨⟨i + 1, by omega, by go_num, hide (fun j y hj hy => ?_), HC⟩, by simp [intOf]; omega⟩
        by_cases e : j = i
        · subst e; rw [HXx.out] at hy; cases hy; rw [← HEx.out]; exact HQ.out
        · exact HU.out j y (by omega) hy
    · obtain rfl : i = 7 := by omega
      exact (HBn.out HU.out).elim
set_option maxHeartbeats 8000000 in
theorem rgood_oth {w : World} {ad : Addr} {T : List Tt} (cp : Nat) (H : Tab w (some ad) T) (h7 : 7 ≤ T.length) (h256 : T.length ≤ 256) (hb : UpTo T 7) (ho : ¬ Upto2 T T.length) : Calls Try.prog 24 #[.slice (some ad) T.length cp] w (GdO w T) := by
  have HT := hide H
  have HC := hide (Cx.start w (fun _ => False))
  have j7 : ¬ (T.length : Int) < 7 := by omega
  have j8 : ¬ (256 : Int) < T.length := by omega
  have k0 : (T.length : Int) ≤ 1000000 := by omega
  have HBas := hide hb
  have HOn := hide ho
  clear H h7 h256 hb ho
  go_enter Try.func24, Try.ntmps24
  go_wp2_with (go_at_call 49; refine (rbasic_at _).mono ?_; rintro e w1 ⟨ob, cb, rfl, h7, hg, hb⟩; have HB := hide hb; have HG := hide hg; replace HT := hide (HT.out.kept hg); replace HC := hide (Cx.start w1 (fun _ => False)); clear h7 hg hb)
  go_loopw [4] (fun iv W => ∃ i : Nat, i ≤ 7 ∧ iv = .int .i64 i ∧ Hid (UpTo T i) ∧ Hid (Cx w1 (fun _ => False) none [] [] [] W)) (fun iv _ => 7 - (intOf iv).toNat)
  case atStart => exact ⟨0, by omega, rfl, hide (fun i x h => by omega), HC⟩
  case round =>
    clear HC
    obtain ⟨i, hi, rfl, HU, HC⟩ := hrel
    by_cases hlt : i < 7
    · have r1 : (i : Int) < 7 := by omega
      have r2 : (i : Int) < T.length := by omega
      obtain ⟨x, hx⟩ : ∃ x, T[i]? = some x := ⟨T[i], List.getElem?_eq_getElem (by omega)⟩
      obtain ⟨ad1, la, e0, e1, hc1, hp1⟩ := HT.out.at hx
      cases e0
      obtain ⟨ad2, la2, rfl, e2, hc2, hp2⟩ := HB.out.at (bas_at hlt)
      obtain ⟨B, hB⟩ : ∃ B, ad.add (i * 10) = B := ⟨_, rfl⟩
      obtain ⟨B2, hB2⟩ : ∃ B, ad2.add (i * 10) = B := ⟨_, rfl⟩
      rw [hB] at hc1
      rw [hB2] at hc2
      have HE1 := hide (fun W (hW : w1.grownBy W none) j u (hu : (laC la)[j]? = some u) => hW.cell (hc1 j u hu) (by simp))
      have HE2 := hide (fun W (hW : w1.grownBy W none) j u (hu : (laC la2)[j]? = some u) => hW.cell (hc2 j u hu) (by simp))
      have HP1 := hide hp1
      have HP2 := hide hp2
      have HX := hide e2
      obtain ⟨q, hq⟩ : ∃ q, basicB i la.x = q := ⟨_, rfl⟩
      have HQ := hide hq
      have HXx := hide hx
      have HEx := hide e1
      have HLt := hide hlt
      clear hx e1 e2 hc1 hc2 hp1 hp2 hq
      have hq2 := HBas.out i x HLt.out HXx.out
      rw [← HEx.out, HQ.out] at hq2
      subst hq2
      · go_wp2
        ((replace HC := hide (HC.out.g (d1_g _)); have HC0 := HC; refine wp_region_inO (fun W => World.grownBy _ W none) 99 [0, 1, 2, 3, 4, 5, 6, 7, 9] [0, 1, 2, 3, 4, 5, 6, 7, 8, 9] (by kernel_rfl) (by kernel_rfl) (by kernel_rfl) (by kernel_rfl) (fun _ _ d _ _ h => by cases d <;> exact h) (gr_ref _ _) ?_; have HS := hide (gr_of HC.out none)); (refine inO_read (v := ?_) rfl rfl (Or.inl ⟨by rfl, ?_⟩) ?_; rotate_left 1; (focus (intro W hSW; clear hSW; go_simp; (try (with_reducible rfl)))); (try simp only [Act.put, List.getElem_toArray, List.getElem_cons_zero, List.getElem_cons_succ, List.setIfInBounds_toArray, List.set_cons_zero, List.set_cons_succ])); (refine inO_read (v := ?_) rfl rfl (Or.inl ⟨by rfl, ?_⟩) ?_; rotate_left 1; (focus (intro W hSW; clear hSW; go_simp; (try (with_reducible rfl)))); (try simp only [Act.put, List.getElem_toArray, List.getElem_cons_zero, List.getElem_cons_succ, List.setIfInBounds_toArray, List.set_cons_zero, List.set_cons_succ])); (refine inO_read (v := ?_) rfl rfl (Or.inl ⟨by rfl, ?_⟩) ?_; rotate_left 1; (focus (intro W hSW; clear hSW; go_simp; (try (with_reducible rfl)))); (try simp only [Act.put, List.getElem_toArray, List.getElem_cons_zero, List.getElem_cons_succ, List.setIfInBounds_toArray, List.set_cons_zero, List.set_cons_succ])); (refine inO_read rfl rfl (yl_load rfl rfl rfl (fun W hW => run_load_s tyT B (laC la) rfl (HE1.out W (gr_then HC0.out.grown hW)))) ?_; (try simp only [Act.put, List.getElem_toArray, List.getElem_cons_zero, List.getElem_cons_succ, List.setIfInBounds_toArray, List.set_cons_zero, List.set_cons_succ])); (refine inO_read (v := ?_) rfl rfl (Or.inl ⟨by rfl, ?_⟩) ?_; rotate_left 1; (focus (intro W hSW; clear hSW; go_simp; (try (with_reducible rfl)))); (try simp only [Act.put, List.getElem_toArray, List.getElem_cons_zero, List.getElem_cons_succ, List.setIfInBounds_toArray, List.set_cons_zero, List.set_cons_succ])); (refine inO_read (v := ?_) rfl rfl (Or.inl ⟨by rfl, ?_⟩) ?_; rotate_left 1; (focus (intro W hSW; clear hSW; go_simp; (try (with_reducible rfl)))); (try simp only [Act.put, List.getElem_toArray, List.getElem_cons_zero, List.getElem_cons_succ, List.setIfInBounds_toArray, List.set_cons_zero, List.set_cons_succ])); (refine inO_read (v := ?_) rfl rfl (Or.inl ⟨by rfl, ?_⟩) ?_; rotate_left 1; (focus (intro W hSW; clear hSW; go_simp; (try (with_reducible rfl)))); (try simp only [Act.put, List.getElem_toArray, List.getElem_cons_zero, List.getElem_cons_succ, List.setIfInBounds_toArray, List.set_cons_zero, List.set_cons_succ])); (refine inO_read rfl rfl (yl_load rfl rfl rfl (fun W hW => run_load_s tyT B2 (laC la2) rfl (HE2.out W (gr_then HC0.out.grown hW)))) ?_; (try simp only [Act.put, List.getElem_toArray, List.getElem_cons_zero, List.getElem_cons_succ, List.setIfInBounds_toArray, List.set_cons_zero, List.set_cons_succ])); (refine inO_act rfl rfl rfl (fun K' hK => ?_)); go_simp; refine (alike_b (HP1.out.kept HC.out.grown) (HP2.out.kept HC.out.grown) HX.out).mono ?_; rw [HQ.out]; rintro e w2 ⟨rfl, hg⟩; (replace HC := hide (HC.out.g hg); refine hK _ _ (.inr (gr_then0 HS.out hg)) ?_; replace HS := hide (gr_then0 HS.out hg); clear hK K' hg; (try simp only [Act.put, List.getElem_toArray, List.getElem_cons_zero, List.getElem_cons_succ, List.setIfInBounds_toArray, List.set_cons_zero, List.set_cons_succ])); (refine inO_read (v := ?_) rfl rfl (Or.inl ⟨by rfl, ?_⟩) ?_; rotate_left 1; (focus (intro W hSW; clear hSW; go_simp; (try (with_reducible rfl)))); (try simp only [Act.put, List.getElem_toArray, List.getElem_cons_zero, List.getElem_cons_succ, List.setIfInBounds_toArray, List.set_cons_zero, List.set_cons_succ])); (refine inO_end ?_); clear HC0 HS)
        go_wp2
        refine ⟨⟨i + 1, by omega, by go_num, hide (fun j y hj hy => ?_), HC⟩, by simp [intOf]; omega⟩
        by_cases e : j = i
        · subst e; rw [HXx.out] at hy; cases hy; rw [← HEx.out]; exact HQ.out
        · exact HU.out j y (by omega) hy
    · have HI7 := hide (show i = 7 by omega)
      have q7 : ¬ (i : Int) < 7 := by omega
      replace HU := hide (show UpTo T 7 by have := HU.out; rwa [HI7.out] at this)
      clear hlt hi
      go_wp2
      go_loopw [5] (fun iv W => ∃ m : Nat, 7 ≤ m ∧ m ≤ T.length ∧ iv = .int .i64 m ∧ Hid (Upto2 T m) ∧ Hid (Cx w1 (fun _ => False) none [] [] [] W)) (fun iv _ => T.length - (intOf iv).toNat)
      case atStart => exact ⟨7, by omega, by omega, rfl, hide (fun i x h h' => by omega), HC⟩
      case round =>
        clear HC
        obtain ⟨m, hm7, hm, rfl, HU2, HC⟩ := hrel
        by_cases hlt : m < T.length
        · have r2 : (m : Int) < T.length := by omega
          obtain ⟨x, hx⟩ : ∃ x, T[m]? = some x := ⟨T[m], List.getElem?_eq_getElem (by omega)⟩
          have HX := hide hx
          have HLt := hide hm7
          clear hx
          go_wp2_with (go_at_call 51; refine (one_at (cp := cp) (HT.out.kept HC.out.grown) HX.out).mono ?_; rintro e w2 ⟨d, rfl, hg, hd⟩; replace HC := hide (HC.out.g hg); clear hg; cases d <;> (first | (have HD := hide (hd.1 rfl); clear hd) | (have HD := hide (fun h => (by cases hd.2 h : False)); clear hd)))
          · go_ret
            exact ⟨false, rfl, gr_then HG.out HC.out.grown, gd_no (rg_oth HLt.out HX.out HD.out)⟩
          · refine ⟨⟨m + 1, by omega, by omega, by go_num, hide (fun j y hj1 hj hy => ?_), HC⟩, by simp [intOf]; omega⟩
            by_cases e : j = m
            · subst e; rw [HX.out] at hy; cases hy; exact HD.out
            · exact HU2.out j y hj1 (by omega) hy
        · have HMl := hide (show m = T.length by omega)
          have qm : ¬ (m : Int) < T.length := by omega
          replace HU2 := hide (show Upto2 T T.length by have := HU2.out; rwa [HMl.out] at this)
          exact (HOn.out HU2.out).elim
end Go.Proofs.Ythmldhppmpbadaa.Ty
