/-
  The document's own tokens (package spinetref09): Dec (of spinetref06).
-/
import Derived.Test.YthnkkcamfcmhmaaGreatDoorLr10
import Derived.Laws.IdiomStrings
import Derived.Laws.BytesString
import Derived.Laws.DeepStrings4
import Derived.Deep.RegionWith
import Derived.RegionTactic
import Derived.Deep.RegionHeld3
import Derived.Outline
namespace Go.Proofs.YthnkkcamfcmhmaaGreatDoor.Lx
open Go.RowKit Go.Proofs.YthnkkcamfcmhmaaGreatDoor.Tx
set_option linter.unusedVariables false
set_option linter.unusedSimpArgs false
set_option maxRecDepth 100000

theorem conv1 (n : Nat) (hn : n < 256) (W : World) (X cap : Nat) (h : W.cell? ⟨X, 0, none⟩ = some (.int .u8 (n : Int))) :
    (convert 38 9 (.slice (some ⟨X, 0, none⟩) 1 cap)).run Tryz.prog W = .ok (.string (bs [UInt8.ofNat n])) W := by
  have := run_convert_bytes_back (P := Tryz.prog) W 38 9 5 ⟨X, 0, none⟩ cap [UInt8.ofNat n] Tryz.underlying38 Tryz.underlying5 Tryz.underlying9 (fun j hj => by
    have : j = 0 := by simpa using hj
    subst this
    simp only [Addr.add_lit, List.getElem_cons_zero]
    rw [h]
    congr 2
    simp
    omega)
  exact this
set_option maxHeartbeats 1000000 in
theorem dec_lo (n : Nat) (h : n < 10) (w : World) : Calls Tryz.prog 30 #[.int .i64 n] w fun e w' => e = .returned (.string (bs (decN n))) ∧ w.grownBy w' none := by
  have i1 : ¬ (n : Int) < 0 := by omega
  have i2 : (n : Int) < 10 := by omega
  have hw : IntKind.u8.wrap (48 + (n : Int)) = ((48 + n : Nat) : Int) := by
    show (48 + (n : Int)) % 256 = _
    omega
  have hc : ∀ (W : World) (X cap : Nat), W.cell? ⟨X, 0, none⟩ = some (.int .u8 (48 + (n : Int))) → (convert 38 9 (.slice (some ⟨X, 0, none⟩) 1 cap)).run Tryz.prog W = .ok (.string (bs [dg n])) W := conv1 (48 + n) (by omega)
  have HD := hide (decN_lo h)
  clear h
  go_enter Tryz.func30, Tryz.ntmps30
  go_wp2
  go_ret
  exact ⟨by rw [HD.out]; rfl, World.grownBy_alloc _ _ _⟩
theorem drew_g (w : World) : w.grownBy w.drew none := ⟨rfl, rfl, rfl, Nat.le_refl _, fun _ _ _ => rfl⟩
theorem gcell {w w' : World} (h : w.grownBy w' none) : ∀ b o, b < w.heap.size → w'.cell? ⟨b, o, none⟩ = w.cell? ⟨b, o, none⟩ := fun b o hb => by
  have := h.block b hb (by simp)
  simp [World.cell?, this]
set_option maxHeartbeats 4000000 in
theorem dec_nat (k : Nat) : k ≤ 10 → ∀ (n : Nat), n < 10 ^ (k + 1) → ∀ w : World, Calls Tryz.prog 30 #[.int .i64 n] w fun e w' => e = .returned (.string (bs (decN n))) ∧ w.grownBy w' none := by
  induction k with
  | zero => intro _ n h w; exact dec_lo n (by simpa using h) w
  | succ k ih =>
    intro hk n h w
    by_cases h1 : n < 10
    · exact dec_lo n h1 w
    have hlt : n < 1000000000000 := Nat.lt_of_lt_of_le h (Nat.le_trans (Nat.pow_le_pow_right (by decide) (show k + 1 + 1 ≤ 12 by omega)) (by decide))
    have IH := hide (ih (by omega) (n / 10) (by rw [Nat.pow_succ] at h; omega))
    have HD := hide (decN_hi h1 hlt)
    have i1 : ¬ (n : Int) < 0 := by omega
    have i2 : ¬ (n : Int) < 10 := by omega
    have i3 : (n : Int) < 1000000000000 := by omega
    obtain ⟨q, hq⟩ : ∃ q, n / 10 = q := ⟨_, rfl⟩
    obtain ⟨r, hr⟩ : ∃ r, n % 10 = r := ⟨_, rfl⟩
    have r1 : r < 10 := by omega
    have e1 : (n : Int) / 10 = (q : Int) := by omega
    have q0 : (0 : Int) ≤ (q : Int) := by omega
    have q1 : (q : Int) < 1000000000000 := by omega
    have r0 : (0 : Int) ≤ (r : Int) := by omega
    have hwq : IntKind.i64.wrap (q : Int) = (q : Int) := IntWalk.i64_in _ ⟨by omega, by omega⟩
    have hwr : IntKind.i64.wrap (48 + (r : Int)) = 48 + (r : Int) := IntWalk.i64_in _ ⟨by omega, by omega⟩
    have hwr0 : IntKind.i64.wrap (r : Int) = (r : Int) := IntWalk.i64_in _ ⟨by omega, by omega⟩
    have t1 : (n : Int).tdiv 10 = (q : Int) := by rw [Int.tdiv_eq_ediv_of_nonneg (by omega)]; exact e1
    have t2 : (n : Int).tmod 10 = (r : Int) := by rw [Int.tmod_eq_emod_of_nonneg (by omega)]; omega
    have r2 : (r : Int) < 10 := by omega
    have hw : IntKind.u8.wrap (48 + (r : Int)) = ((48 + r : Nat) : Int) := by
      show (48 + (r : Int)) % 256 = _
      omega
    have hc : ∀ (W : World) (X cap : Nat), W.cell? ⟨X, 0, none⟩ = some (.int .u8 (48 + (r : Int))) → (convert 38 9 (.slice (some ⟨X, 0, none⟩) 1 cap)).run Tryz.prog W = .ok (.string (bs [dg r])) W := conv1 (48 + r) (by omega)
    rw [hq] at IH HD
    rw [hr] at HD
    have hadd : ∀ W : World, (Op.stringOp .add (bs (decN q)) (bs [dg r])).run Tryz.prog W = .ok (.string (bs (decN n))) W := fun W => by
      have hl : (decN q).length ≤ 12 := decN_len q
      rw [run_string_add_sum W _ _ (by rw [bs_size, bs_size]; simp; omega), bs_append, HD.out]
    clear ih h h1 hlt hk hq hr
    go_enter Tryz.func30, Tryz.ntmps30
    go_wp2
    go_region_with ((go_at_call 30; refine (IH.out _).mono ?_; rintro e w1 ⟨rfl, hg⟩; have hgc := gcell hg; have hgs := hg.size; have HG := hide hg; clear hg))
    all_goals go_wp2
    all_goals go_ret
    all_goals
      refine ⟨rfl, ?_⟩
      first
        | exact grown_trans (drew_g _) (grown_trans HG.out (World.grownBy_alloc _ _ _))
        | exact grown_trans (grown_trans (World.grownBy_alloc _ _ _) (drew_g _)) HG.out
        | exact grown_trans (grown_trans (drew_g _) (World.grownBy_alloc _ _ _)) HG.out
theorem dec_pos (n : Int) (h0 : 0 ≤ n) (h1 : n < 100000000000) (w : World) : Calls Tryz.prog 30 #[.int .i64 n] w fun e w' => e = .returned (.string (bs (decI n))) ∧ w.grownBy w' none := by
  obtain ⟨k, rfl⟩ := Int.eq_ofNat_of_zero_le h0
  rw [decI, if_neg (by omega)]
  exact dec_nat 10 (by decide) k (by show k < 100000000000; omega) w
end Go.Proofs.YthnkkcamfcmhmaaGreatDoor.Lx
