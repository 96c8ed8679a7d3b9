/-
  Package consts: the small functions of two values that its maps name; how two values lie to each other.
-/
import Derived.Test.YtgdpcdpkaaefbaaCn2
import Derived.BigQuiet
import Derived.Deep.QuietTactic
namespace Go.Proofs.Ytgdpcdpkaaefbaa.Cn
open Go.RowKit hiding Hid
open Go.Maps Go.Proofs.Ytgdpcdpkaaefbaa.Tx Go.Proofs.Ytgdpcdpkaaefbaa.Lx Go.Proofs.Ytgdpcdpkaaefbaa.Mp Go.Proofs.Ytgdpcdpkaaefbaa.Tr Go.Proofs.Ytgdpcdpkaaefbaa.Bits
set_option linter.unusedVariables false
set_option linter.unusedSimpArgs false
set_option maxRecDepth 100000

theorem gal {w v : World} (h : w.grownBy v none) (b : Obj) : w.grownBy (v.alloc b) none := grown_then h (World.grownBy_alloc _ _ none) (fun _ e => by cases e)
set_option maxHeartbeats 1600000 in
theorem not_at (a b : Vl) (w : World) : Calls Try.prog 59 #[vV a, vV b] w (Told w (.bool (a.n == 0))) := by
  unfold vV
  go_enter Try.func59, Try.ntmps59
  go_wp2
  go_ret
  exact ⟨rfl, (fun (w : World) b c => gal (gal (gr_ref w none) b) c) _ _ _⟩
set_option maxHeartbeats 1600000 in
theorem odd_at (a b : Vl) (w : World) : Calls Try.prog 79 #[vV a, vV b] w (Told w (.bool (a.n.tmod 2 != 0))) := by
  unfold vV
  obtain ⟨R, hR⟩ : ∃ R, a.n.tmod 2 = R := ⟨_, rfl⟩
  rw [hR]
  go_enter Try.func79, Try.ntmps79
  go_wp2
  go_ret
  exact ⟨rfl, (fun (w : World) b c => gal (gal (gr_ref w none) b) c) _ _ _⟩
set_option maxHeartbeats 1600000 in
theorem and_at (a b : Vl) (w : World) : Calls Try.prog 72 #[vV a, vV b] w (Told w (.bool ((a.n == 1) && (b.n == 1)))) := by
  unfold vV
  cases h : (a.n == 1) with
  | true =>
    go_enter Try.func72, Try.ntmps72
    go_wp2
    go_ret
    exact ⟨rfl, (fun (w : World) b c => gal (gal (gr_ref w none) b) c) _ _ _⟩
  | false =>
    go_enter Try.func72, Try.ntmps72
    go_wp2
    go_ret
    exact ⟨rfl, (fun (w : World) b c => gal (gal (gr_ref w none) b) c) _ _ _⟩
set_option maxHeartbeats 1600000 in
theorem or_at (a b : Vl) (w : World) : Calls Try.prog 73 #[vV a, vV b] w (Told w (.bool ((a.n == 1) || (b.n == 1)))) := by
  unfold vV
  cases h : (a.n == 1) with
  | true =>
    go_enter Try.func73, Try.ntmps73
    go_wp2
    go_ret
    exact ⟨rfl, (fun (w : World) b c => gal (gal (gr_ref w none) b) c) _ _ _⟩
  | false =>
    go_enter Try.func73, Try.ntmps73
    go_wp2
    go_ret
    exact ⟨rfl, (fun (w : World) b c => gal (gal (gr_ref w none) b) c) _ _ _⟩
theorem bs_toList (l : List UInt8) : (bs l).toList = l := by rw [ByteArray.toList_eq]; simp [bs]
def eqB (a b : Vl) : Bool := (a.f == b.f) && ((a.n == b.n) && (a.t == b.t))
theorem eqB_t {a b : Vl} (h1 : a.f = b.f) (h2 : a.n = b.n) (h3 : (bs a.t).toList = (bs b.t).toList) : eqB a b = true := by rw [bs_toList, bs_toList] at h3; simp [eqB, h1, h2, h3]
theorem eqB_f {a b : Vl} (h : ¬ (a.f = b.f ∧ a.n = b.n ∧ (bs a.t).toList = (bs b.t).toList)) : eqB a b = false := by rw [bs_toList, bs_toList] at h; simp only [eqB, Bool.and_eq_false_iff, beq_eq_false_iff_ne]; by_cases h1 : a.f = b.f <;> by_cases h2 : a.n = b.n <;> simp_all
set_option maxHeartbeats 1600000 in
theorem eq_at (a b : Vl) (w : World) : Calls Try.prog 100 #[vV a, vV b] w (Told w (.bool (eqB a b))) := by
  unfold vV
  go_enter Try.func100, Try.ntmps100
  go_wp2
  all_goals (go_ret; refine ⟨?_, (fun (w : World) b c => gal (gal (gr_ref w none) b) c) _ _ _⟩; first | (rw [eqB_t (by assumption) (by assumption) (by assumption)]; rfl) | (rw [eqB_f (by simp_all)]; rfl))
set_option maxHeartbeats 1600000 in
theorem ne_at (a b : Vl) (w : World) : Calls Try.prog 101 #[vV a, vV b] w (Told w (.bool (!eqB a b))) := by
  unfold vV
  go_enter Try.func101, Try.ntmps101
  go_wp2
  all_goals (go_ret; refine ⟨?_, (fun (w : World) b c => gal (gal (gr_ref w none) b) c) _ _ _⟩; first | (rw [eqB_t (by assumption) (by assumption) (by assumption)]; rfl) | (rw [eqB_f (by simp_all)]; rfl))
def cmI (a b : Int) : Int := if a < b then -1 else if b < a then 1 else 0
theorem nan_at (a : Int) (w : World) : Calls Try.prog 115 #[.int .i64 a] w fun e w' => e = .returned (.bool false) ∧ w' = w := by
  go_enter Try.func115, Try.ntmps115
  go_wp2
  go_ret
  exact ⟨by simp, rfl⟩
theorem cmpi_at (a b : Int) (w : World) : Calls Try.prog 113 #[.int .i64 a, .int .i64 b] w fun e w' => e = .returned (.int .i64 (cmI a b)) ∧ w' = w := by
  unfold cmI
  by_cases h1 : a < b
  · rw [if_pos h1]
    go_enter Try.func113, Try.ntmps113
    go_wp2_with (go_at_call 115; refine (nan_at _ _).mono ?_; rintro e w2 ⟨rfl, rfl⟩)
    go_ret
    exact ⟨rfl, rfl⟩
  · rw [if_neg h1]
    by_cases h2 : b < a
    · have h3 : a > b := h2
      rw [if_pos h2]
      go_enter Try.func113, Try.ntmps113
      go_wp2_with (go_at_call 115; refine (nan_at _ _).mono ?_; rintro e w2 ⟨rfl, rfl⟩)
      go_ret
      exact ⟨rfl, rfl⟩
    · have h3 : ¬ a > b := h2
      rw [if_neg h2]
      go_enter Try.func113, Try.ntmps113
      go_wp2_with (go_at_call 115; refine (nan_at _ _).mono ?_; rintro e w2 ⟨rfl, rfl⟩)
      go_ret
      exact ⟨rfl, rfl⟩
theorem cmps_at (s t : List UInt8) (w : World) : Calls Try.prog 114 #[.string (bs s), .string (bs t)] w fun e w' => e = .returned (.int .i64 (Lib.compareBytes s t)) ∧ w' = w := by
  have hrun : ∀ W : World, (callFunc 117 #[.string (bs s), .string (bs t)]).run Try.prog W = .ok (.value (.int .i64 (Lib.compareBytes s t))) W := by
    intro W
    rw [run_callFunc_extern Try.func117 (by kernel_rfl) (by kernel_rfl) (by kernel_rfl) (e := Extern.BytealgCompare.compare) (by kernel_rfl), Lib.run_compareString]
    simp [bs, Result.andThen]
  go_enter Try.func114, Try.ntmps114
  go_wp2
  go_ret
  exact ⟨rfl, rfl⟩
/- The first of two that is not 0. -/
def orI (x y : Int) : Int := if x = 0 then y else x
theorem orI_0 {x : Int} (h : x = 0) (y : Int) : orI x y = y := if_pos h
theorem orI_n {x : Int} (h : ¬ x = 0) (y : Int) : orI x y = x := if_neg h
theorem or2_at (b : Nat) (x y : Int) (w : World) (h0 : w.cell? ⟨b, 0, none⟩ = some (.int .i64 x)) (h1 : w.cell? ⟨b, 1, none⟩ = some (.int .i64 y)) : Calls Try.prog 112 #[.slice (some ⟨b, 0, none⟩) 2 2] w fun e w' => e = .returned (.int .i64 (orI x y)) ∧ w' = w := by
  go_enter Try.func112, Try.ntmps112
  go_wp2
  go_loop [8] (fun iv => ∃ i : Nat, i ≤ 2 ∧ iv = .int .i64 i ∧ Hid (1 ≤ i → x = 0) ∧ Hid (2 ≤ i → y = 0)) (fun iv => 2 - (intOf iv).toNat)
  case atStart => exact ⟨0, Nat.zero_le _, rfl, hide (fun h => by omega), hide (fun h => by omega)⟩
  case round =>
    obtain ⟨i, hi, rfl, H1, H2⟩ := hrel
    match i, hi with
    | 0, _ =>
      by_cases hx : x = 0
      · have hb : (x != 0) = false := by simp [hx]
        go_wp2
        exact ⟨⟨1, by omega, by go_num, hide (fun _ => hx), hide (fun h => by omega)⟩, by simp [intOf]⟩
      · have hb : (x != 0) = true := by simp [hx]
        go_wp2
        go_ret
        exact ⟨by rw [orI_n hx]; rfl, rfl⟩
    | 1, _ =>
      have HX := hide (H1.out (by omega))
      by_cases hy : y = 0
      · have hb : (y != 0) = false := by simp [hy]
        go_wp2
        exact ⟨⟨2, by omega, by go_num, hide (fun _ => HX.out), hide (fun _ => hy)⟩, by simp [intOf]⟩
      · have hb : (y != 0) = true := by simp [hy]
        go_wp2
        go_ret
        exact ⟨by rw [orI_0 HX.out]; rfl, rfl⟩
    | 2, _ =>
      have HX := hide (H1.out (by omega))
      have HY := hide (H2.out (by omega))
      go_wp2
      go_ret
      exact ⟨by rw [orI_0 HX.out, HY.out]; rfl, rfl⟩
end Go.Proofs.Ytgdpcdpkaaefbaa.Cn
