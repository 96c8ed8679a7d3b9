/-
  The document's own layer 3 (package spinetref03): its operations.
-/
import Derived.Test.YtjneaphlghfbhaaGreatDoorAlu5
namespace Go.Proofs.YtjneaphlghfbhaaGreatDoor.Alu
open Go.RowKit Go.Proofs.YtjneaphlghfbhaaGreatDoor.Bits Go.Proofs.YtjneaphlghfbhaaGreatDoor.Gw
set_option linter.unusedVariables false

def told (r h : Int) (C V : Bool) : Value := .agg #[.int .u32 r, .int .u32 h, .bool (decide (wrap32 r < 0)), .bool (r == 0), .bool C, .bool V, .bool true]
def toldR (r h : Int) (C V : Bool) : Value := .agg #[.int .u32 r, .int .u32 h, .bool (decide (2147483648 ≤ r)), .bool (r == 0), .bool C, .bool V, .bool true]
def none7 : Value := .agg #[.int .u32 0, .int .u32 0, .bool false, .bool false, .bool false, .bool false, .bool false]
theorem told_is (r h : Int) (C V : Bool) (r0 : 0 ≤ r) (r1 : r < 4294967296) : toldR r h C V = told r h C V := by
  have e : decide (2147483648 ≤ r) = decide (wrap32 r < 0) := by rw [decide_eq_decide]; unfold wrap32; omega
  unfold told toldR; rw [e]

set_option maxHeartbeats 2000000 in
set_option maxRecDepth 100000 in
theorem rdo_mov (u : Bool) (b n g : Int) (N Z C V : Bool) (w : World) (b0 : 0 ≤ b) (b1 : b < 4294967296) (n0 : 0 ≤ n) (n1 : n < 4294967296) :
    Calls Tryz.prog 64 #[.int .i64 0, .bool u, .int .u32 b, .int .u32 n, .int .u32 g, fl N Z C V] w fun e w' => e = .returned (toldR (if u = true then g else n) g C V) ∧ G w w' := by
  unfold fl
  cases u
  · go_enter Tryz.func64, Tryz.ntmps64
    go_wp2_with (go_at_call 93; refine (rsigned_any _ _ (by assumption) (by assumption)).mono ?_; rintro e w' ⟨rfl, rfl⟩)
    refine bodyPost_ret (v := toldR n g C V) (by simp [results, Tryz.results64, go_sem, toldR]) rfl ⟨rfl, (by with_reducible repeat' (first | exact G.refl _ | apply G.drew | apply G.drewN | apply G.alloc | apply G.gr))⟩
  · go_enter Tryz.func64, Tryz.ntmps64
    go_wp2_with (go_at_call 93; refine (rsigned_any _ _ (by assumption) (by assumption)).mono ?_; rintro e w' ⟨rfl, rfl⟩)
    refine bodyPost_ret (v := toldR g g C V) (by simp [results, Tryz.results64, go_sem, toldR]) rfl ⟨rfl, (by with_reducible repeat' (first | exact G.refl _ | apply G.drew | apply G.drewN | apply G.alloc | apply G.gr))⟩

set_option maxHeartbeats 2000000 in
set_option maxRecDepth 100000 in
theorem rdo_1 (b n g : Int) (N Z C V : Bool) (w : World) (b0 : 0 ≤ b) (b1 : b < 4294967296) (n0 : 0 ≤ n) (n1 : n < 4294967296) :
    Calls Tryz.prog 64 #[.int .i64 1, .bool false, .int .u32 b, .int .u32 n, .int .u32 g, fl N Z C V] w fun e w' => e = .returned (toldR (lslI b n) g C V) ∧ G w w' := by
  unfold fl
  have M := fun w => rlsl_any b n w b0 b1 n0 n1
  generalize lslI b n = r at M ⊢
  go_enter Tryz.func64, Tryz.ntmps64
  go_wp2_with (first | (go_at_call 93; refine (rsigned_any _ _ (by assumption) (by assumption)).mono ?_; rintro e w' ⟨rfl, rfl⟩) | (go_at_call 94; refine (M _).mono ?_; rintro e w' ⟨rfl, rfl⟩))
  refine bodyPost_ret (v := toldR r g C V) (by simp [results, Tryz.results64, go_sem, toldR]) rfl ⟨rfl, (by with_reducible repeat' (first | exact G.refl _ | apply G.drew | apply G.drewN | apply G.alloc | apply G.gr))⟩

set_option maxHeartbeats 2000000 in
set_option maxRecDepth 100000 in
theorem rdo_2 (b n g : Int) (N Z C V : Bool) (w : World) (b0 : 0 ≤ b) (b1 : b < 4294967296) (n0 : 0 ≤ n) (n1 : n < 4294967296) :
    Calls Tryz.prog 64 #[.int .i64 2, .bool false, .int .u32 b, .int .u32 n, .int .u32 g, fl N Z C V] w fun e w' => e = .returned (toldR (asrI b n) g C V) ∧ G w w' := by
  unfold fl
  have M := fun w => rasr_any b n w b0 b1 n0 n1
  generalize asrI b n = r at M ⊢
  go_enter Tryz.func64, Tryz.ntmps64
  go_wp2_with (first | (go_at_call 93; refine (rsigned_any _ _ (by assumption) (by assumption)).mono ?_; rintro e w' ⟨rfl, rfl⟩) | (go_at_call 95; refine (M _).mono ?_; rintro e w' ⟨rfl, rfl⟩))
  refine bodyPost_ret (v := toldR r g C V) (by simp [results, Tryz.results64, go_sem, toldR]) rfl ⟨rfl, (by with_reducible repeat' (first | exact G.refl _ | apply G.drew | apply G.drewN | apply G.alloc | apply G.gr))⟩

set_option maxHeartbeats 2000000 in
set_option maxRecDepth 100000 in
theorem rdo_3 (b n g : Int) (N Z C V : Bool) (w : World) (b0 : 0 ≤ b) (b1 : b < 4294967296) (n0 : 0 ≤ n) (n1 : n < 4294967296) :
    Calls Tryz.prog 64 #[.int .i64 3, .bool false, .int .u32 b, .int .u32 n, .int .u32 g, fl N Z C V] w fun e w' => e = .returned (toldR (rorI b n) g C V) ∧ G w w' := by
  unfold fl
  have M := fun w => rror_any b n w b0 b1 n0 n1
  generalize rorI b n = r at M ⊢
  go_enter Tryz.func64, Tryz.ntmps64
  go_wp2_with (first | (go_at_call 93; refine (rsigned_any _ _ (by assumption) (by assumption)).mono ?_; rintro e w' ⟨rfl, rfl⟩) | (go_at_call 96; refine (M _).mono ?_; rintro e w' ⟨rfl, rfl⟩))
  refine bodyPost_ret (v := toldR r g C V) (by simp [results, Tryz.results64, go_sem, toldR]) rfl ⟨rfl, (by with_reducible repeat' (first | exact G.refl _ | apply G.drew | apply G.drewN | apply G.alloc | apply G.gr))⟩

set_option maxHeartbeats 2000000 in
set_option maxRecDepth 100000 in
theorem rdo_4 (b n g : Int) (N Z C V : Bool) (w : World) (b0 : 0 ≤ b) (b1 : b < 4294967296) (n0 : 0 ≤ n) (n1 : n < 4294967296) :
    Calls Tryz.prog 64 #[.int .i64 4, .bool false, .int .u32 b, .int .u32 n, .int .u32 g, fl N Z C V] w fun e w' => e = .returned (toldR (Go.bits .and .u32 b n) g C V) ∧ G w w' := by
  unfold fl
  go_enter Tryz.func64, Tryz.ntmps64
  go_wp2_with (go_at_call 93; refine (rsigned_any _ _ (by assumption) (by assumption)).mono ?_; rintro e w' ⟨rfl, rfl⟩)
  refine bodyPost_ret (v := toldR (Go.bits .and .u32 b n) g C V) (by simp [results, Tryz.results64, go_sem, toldR]) rfl ⟨rfl, (by with_reducible repeat' (first | exact G.refl _ | apply G.drew | apply G.drewN | apply G.alloc | apply G.gr))⟩

set_option maxHeartbeats 2000000 in
set_option maxRecDepth 100000 in
theorem rdo_5 (b n g : Int) (N Z C V : Bool) (w : World) (b0 : 0 ≤ b) (b1 : b < 4294967296) (n0 : 0 ≤ n) (n1 : n < 4294967296) :
    Calls Tryz.prog 64 #[.int .i64 5, .bool false, .int .u32 b, .int .u32 n, .int .u32 g, fl N Z C V] w fun e w' => e = .returned (toldR (Go.bits .andNot .u32 b n) g C V) ∧ G w w' := by
  unfold fl
  go_enter Tryz.func64, Tryz.ntmps64
  go_wp2_with (go_at_call 93; refine (rsigned_any _ _ (by assumption) (by assumption)).mono ?_; rintro e w' ⟨rfl, rfl⟩)
  refine bodyPost_ret (v := toldR (Go.bits .andNot .u32 b n) g C V) (by simp [results, Tryz.results64, go_sem, toldR]) rfl ⟨rfl, (by with_reducible repeat' (first | exact G.refl _ | apply G.drew | apply G.drewN | apply G.alloc | apply G.gr))⟩

set_option maxHeartbeats 2000000 in
set_option maxRecDepth 100000 in
theorem rdo_6 (b n g : Int) (N Z C V : Bool) (w : World) (b0 : 0 ≤ b) (b1 : b < 4294967296) (n0 : 0 ≤ n) (n1 : n < 4294967296) :
    Calls Tryz.prog 64 #[.int .i64 6, .bool false, .int .u32 b, .int .u32 n, .int .u32 g, fl N Z C V] w fun e w' => e = .returned (toldR (Go.bits .or .u32 b n) g C V) ∧ G w w' := by
  unfold fl
  go_enter Tryz.func64, Tryz.ntmps64
  go_wp2_with (go_at_call 93; refine (rsigned_any _ _ (by assumption) (by assumption)).mono ?_; rintro e w' ⟨rfl, rfl⟩)
  refine bodyPost_ret (v := toldR (Go.bits .or .u32 b n) g C V) (by simp [results, Tryz.results64, go_sem, toldR]) rfl ⟨rfl, (by with_reducible repeat' (first | exact G.refl _ | apply G.drew | apply G.drewN | apply G.alloc | apply G.gr))⟩

set_option maxHeartbeats 2000000 in
set_option maxRecDepth 100000 in
theorem rdo_7 (b n g : Int) (N Z C V : Bool) (w : World) (b0 : 0 ≤ b) (b1 : b < 4294967296) (n0 : 0 ≤ n) (n1 : n < 4294967296) :
    Calls Tryz.prog 64 #[.int .i64 7, .bool false, .int .u32 b, .int .u32 n, .int .u32 g, fl N Z C V] w fun e w' => e = .returned (toldR (Go.bits .xor .u32 b n) g C V) ∧ G w w' := by
  unfold fl
  go_enter Tryz.func64, Tryz.ntmps64
  go_wp2_with (go_at_call 93; refine (rsigned_any _ _ (by assumption) (by assumption)).mono ?_; rintro e w' ⟨rfl, rfl⟩)
  refine bodyPost_ret (v := toldR (Go.bits .xor .u32 b n) g C V) (by simp [results, Tryz.results64, go_sem, toldR]) rfl ⟨rfl, (by with_reducible repeat' (first | exact G.refl _ | apply G.drew | apply G.drewN | apply G.alloc | apply G.gr))⟩

set_option maxHeartbeats 2000000 in
set_option maxRecDepth 100000 in
theorem rdo_add (u : Bool) (b n g : Int) (N Z C V : Bool) (w : World) (b0 : 0 ≤ b) (b1 : b < 4294967296) (n0 : 0 ≤ n) (n1 : n < 4294967296) :
    Calls Tryz.prog 64 #[.int .i64 8, .bool u, .int .u32 b, .int .u32 n, .int .u32 g, fl N Z C V] w fun e w' => e = .returned (toldR ((b + n + cI u C) % 4294967296) g (addC b n (cI u C)) (addV b n (cI u C))) ∧ G w w' := by
  have K := rcarry_any u N Z C V
  unfold fl at K ⊢
  obtain ⟨c0, c1⟩ := cI_bd u C
  obtain ⟨c, hc⟩ : ∃ c, cI u C = c := ⟨_, rfl⟩
  rw [hc] at c0 c1 K ⊢
  unfold addC addV
  obtain ⟨sb0, sb1⟩ := wrap32_lt b
  obtain ⟨sn0, sn1⟩ := wrap32_lt n
  obtain ⟨B, hB⟩ : ∃ B, wrap32 b = B := ⟨_, rfl⟩
  obtain ⟨M, hM⟩ : ∃ M, wrap32 n = M := ⟨_, rfl⟩
  rw [hB] at sb0 sb1 ⊢
  rw [hM] at sn0 sn1 ⊢
  clear hc
  cases u
  · go_enter Tryz.func64, Tryz.ntmps64
    go_wp2_with (first | (go_at_call 93; refine (rsigned_any _ _ (by assumption) (by assumption)).mono ?_; rintro e w' ⟨rfl, rfl⟩) | (go_at_call 30; refine (rword_any _ _).mono ?_; rintro e w' ⟨rfl, rfl⟩) | (go_at_call 43; refine (rfits_any _ _ _).mono ?_; rintro e w' ⟨rfl, rfl⟩) | (go_at_call 97; refine (K _).mono ?_; rintro e w' ⟨rfl, rfl⟩))
    refine bodyPost_ret (v := toldR ((b + n + c) % 4294967296) g (decide (4294967296 ≤ b + n + c)) (!fitsB (B + M + c) 32)) (by simp [results, Tryz.results64, go_sem, toldR]) rfl ⟨rfl, (by with_reducible repeat' (first | exact G.refl _ | apply G.drew | apply G.drewN | apply G.alloc | apply G.gr))⟩
  · go_enter Tryz.func64, Tryz.ntmps64
    go_wp2_with (first | (go_at_call 93; refine (rsigned_any _ _ (by assumption) (by assumption)).mono ?_; rintro e w' ⟨rfl, rfl⟩) | (go_at_call 30; refine (rword_any _ _).mono ?_; rintro e w' ⟨rfl, rfl⟩) | (go_at_call 43; refine (rfits_any _ _ _).mono ?_; rintro e w' ⟨rfl, rfl⟩) | (go_at_call 97; refine (K _).mono ?_; rintro e w' ⟨rfl, rfl⟩))
    refine bodyPost_ret (v := toldR ((b + n + c) % 4294967296) g (decide (4294967296 ≤ b + n + c)) (!fitsB (B + M + c) 32)) (by simp [results, Tryz.results64, go_sem, toldR]) rfl ⟨rfl, (by with_reducible repeat' (first | exact G.refl _ | apply G.drew | apply G.drewN | apply G.alloc | apply G.gr))⟩

set_option maxHeartbeats 2000000 in
set_option maxRecDepth 100000 in
theorem rdo_sub (u : Bool) (b n g : Int) (N Z C V : Bool) (w : World) (b0 : 0 ≤ b) (b1 : b < 4294967296) (n0 : 0 ≤ n) (n1 : n < 4294967296) :
    Calls Tryz.prog 64 #[.int .i64 9, .bool u, .int .u32 b, .int .u32 n, .int .u32 g, fl N Z C V] w fun e w' => e = .returned (toldR ((b - n - cI u C) % 4294967296) g (subC b n (cI u C)) (subV b n (cI u C))) ∧ G w w' := by
  have K := rcarry_any u N Z C V
  unfold fl at K ⊢
  obtain ⟨c0, c1⟩ := cI_bd u C
  obtain ⟨c, hc⟩ : ∃ c, cI u C = c := ⟨_, rfl⟩
  rw [hc] at c0 c1 K ⊢
  unfold subC subV
  obtain ⟨sb0, sb1⟩ := wrap32_lt b
  obtain ⟨sn0, sn1⟩ := wrap32_lt n
  obtain ⟨B, hB⟩ : ∃ B, wrap32 b = B := ⟨_, rfl⟩
  obtain ⟨M, hM⟩ : ∃ M, wrap32 n = M := ⟨_, rfl⟩
  rw [hB] at sb0 sb1 ⊢
  rw [hM] at sn0 sn1 ⊢
  clear hc
  cases u
  · go_enter Tryz.func64, Tryz.ntmps64
    go_wp2_with (first | (go_at_call 93; refine (rsigned_any _ _ (by assumption) (by assumption)).mono ?_; rintro e w' ⟨rfl, rfl⟩) | (go_at_call 30; refine (rword_any _ _).mono ?_; rintro e w' ⟨rfl, rfl⟩) | (go_at_call 43; refine (rfits_any _ _ _).mono ?_; rintro e w' ⟨rfl, rfl⟩) | (go_at_call 97; refine (K _).mono ?_; rintro e w' ⟨rfl, rfl⟩))
    refine bodyPost_ret (v := toldR ((b - n - c) % 4294967296) g (decide (b - n - c < 0)) (!fitsB (B - M - c) 32)) (by simp [results, Tryz.results64, go_sem, toldR]) rfl ⟨rfl, (by with_reducible repeat' (first | exact G.refl _ | apply G.drew | apply G.drewN | apply G.alloc | apply G.gr))⟩
  · go_enter Tryz.func64, Tryz.ntmps64
    go_wp2_with (first | (go_at_call 93; refine (rsigned_any _ _ (by assumption) (by assumption)).mono ?_; rintro e w' ⟨rfl, rfl⟩) | (go_at_call 30; refine (rword_any _ _).mono ?_; rintro e w' ⟨rfl, rfl⟩) | (go_at_call 43; refine (rfits_any _ _ _).mono ?_; rintro e w' ⟨rfl, rfl⟩) | (go_at_call 97; refine (K _).mono ?_; rintro e w' ⟨rfl, rfl⟩))
    refine bodyPost_ret (v := toldR ((b - n - c) % 4294967296) g (decide (b - n - c < 0)) (!fitsB (B - M - c) 32)) (by simp [results, Tryz.results64, go_sem, toldR]) rfl ⟨rfl, (by with_reducible repeat' (first | exact G.refl _ | apply G.drew | apply G.drewN | apply G.alloc | apply G.gr))⟩

set_option maxHeartbeats 2000000 in
set_option maxRecDepth 100000 in
theorem rdo_mulu (b n g : Int) (N Z C V : Bool) (w : World) (b0 : 0 ≤ b) (b1 : b < 4294967296) (n0 : 0 ≤ n) (n1 : n < 4294967296) :
    Calls Tryz.prog 64 #[.int .i64 10, .bool true, .int .u32 b, .int .u32 n, .int .u32 g, fl N Z C V] w fun e w' => e = .returned (toldR (b * n % 4294967296) (b * n / 4294967296 % 4294967296) C V) ∧ G w w' := by
  unfold fl
  obtain ⟨p0, p1⟩ := mul_bd b n b0 b1 n0 n1
  obtain ⟨P, hP⟩ : ∃ P, b * n = P := ⟨_, rfl⟩
  rw [hP] at p0 p1 ⊢
  have e : P / 4294967296 % 4294967296 = P / 4294967296 := by omega
  rw [e]
  clear e
  go_enter Tryz.func64, Tryz.ntmps64
  go_wp2_with (go_at_call 93; refine (rsigned_any _ _ (by assumption) (by assumption)).mono ?_; rintro e w' ⟨rfl, rfl⟩)
  refine bodyPost_ret (v := toldR (P % 4294967296) (P / 4294967296) C V) (by simp [results, Tryz.results64, go_sem, toldR]) rfl ⟨rfl, (by with_reducible repeat' (first | exact G.refl _ | apply G.drew | apply G.drewN | apply G.alloc | apply G.gr))⟩

set_option maxHeartbeats 2000000 in
set_option maxRecDepth 100000 in
theorem rdo_muls (b n g : Int) (N Z C V : Bool) (w : World) (b0 : 0 ≤ b) (b1 : b < 4294967296) (n0 : 0 ≤ n) (n1 : n < 4294967296) :
    Calls Tryz.prog 64 #[.int .i64 10, .bool false, .int .u32 b, .int .u32 n, .int .u32 g, fl N Z C V] w fun e w' => e = .returned (toldR (wrap32 b * wrap32 n % 4294967296) (wrap32 b * wrap32 n / 4294967296 % 4294967296) C V) ∧ G w w' := by
  unfold fl
  obtain ⟨sb0, sb1⟩ := wrap32_lt b
  obtain ⟨sn0, sn1⟩ := wrap32_lt n
  obtain ⟨B, hB⟩ : ∃ B, wrap32 b = B := ⟨_, rfl⟩
  obtain ⟨M, hM⟩ : ∃ M, wrap32 n = M := ⟨_, rfl⟩
  rw [hB] at sb0 sb1
  rw [hM] at sn0 sn1
  obtain ⟨r0, r1⟩ := smul_bd B M sb0 sb1 sn0 sn1
  rw [hB, hM]
  obtain ⟨P, hP⟩ : ∃ P, B * M = P := ⟨_, rfl⟩
  rw [hP] at r0 r1 ⊢
  have F := fun w => floor_any P 4294967296 w r0 r1 (by decide) (by decide)
  obtain ⟨Q, hQ⟩ : ∃ Q, P / 4294967296 = Q := ⟨_, rfl⟩
  rw [hQ] at F ⊢
  go_enter Tryz.func64, Tryz.ntmps64
  go_wp2_with (first | (go_at_call 93; refine (rsigned_any _ _ (by assumption) (by assumption)).mono ?_; rintro e w' ⟨rfl, rfl⟩) | (go_at_call 30; refine (rword_any _ _).mono ?_; rintro e w' ⟨rfl, rfl⟩) | (go_at_call 98; refine (F _).mono ?_; rintro e w' ⟨rfl, rfl⟩))
  refine bodyPost_ret (v := toldR (P % 4294967296) (Q % 4294967296) C V) (by simp [results, Tryz.results64, go_sem, toldR]) rfl ⟨rfl, (by with_reducible repeat' (first | exact G.refl _ | apply G.drew | apply G.drewN | apply G.alloc | apply G.gr))⟩

set_option maxHeartbeats 2000000 in
set_option maxRecDepth 100000 in
theorem rdo_div (b n g : Int) (N Z C V : Bool) (w : World) (b0 : 0 ≤ b) (b1 : b < 4294967296) (n0 : 0 ≤ n) (n1 : n < 4294967296) :
    Calls Tryz.prog 64 #[.int .i64 11, .bool false, .int .u32 b, .int .u32 n, .int .u32 g, fl N Z C V] w fun e w' => e = .returned (toldR (divQ b n) (divR b n) C V) ∧ G w w' := by
  unfold fl divQ divR
  obtain ⟨sb0, sb1⟩ := wrap32_lt b
  obtain ⟨sn0, sn1⟩ := wrap32_lt n
  obtain ⟨B, hB⟩ : ∃ B, wrap32 b = B := ⟨_, rfl⟩
  obtain ⟨M, hM⟩ : ∃ M, wrap32 n = M := ⟨_, rfl⟩
  rw [hB] at sb0 sb1 ⊢
  rw [hM] at sn0 sn1 ⊢
  by_cases hm : M ≤ 0
  · rw [if_pos hm, if_pos hm]
    go_enter Tryz.func64, Tryz.ntmps64
    go_wp2_with (go_at_call 93; refine (rsigned_any _ _ (by assumption) (by assumption)).mono ?_; rintro e w' ⟨rfl, rfl⟩)
    refine bodyPost_ret (v := toldR 0 b C V) (by simp [results, Tryz.results64, go_sem, toldR]) rfl ⟨rfl, (by with_reducible repeat' (first | exact G.refl _ | apply G.drew | apply G.drewN | apply G.alloc | apply G.gr))⟩
  · rw [if_neg hm, if_neg hm]
    have m0 : 0 < M := by omega
    have F := fun w => floor_any B M w (by omega) (by omega) m0 (by omega)
    obtain ⟨q1, q2, q3, q4⟩ := quo_facts B M sb0 sb1 m0 sn1
    obtain ⟨q5, q6⟩ := rem_word B M m0 sn1
    have qe : B - B / M * M = B % M := by have := Int.mul_ediv_add_emod B M; rw [Int.mul_comm] at this; omega
    obtain ⟨Q, hQ⟩ : ∃ Q, B / M = Q := ⟨_, rfl⟩
    rw [hQ] at F q1 q2 q3 q4 qe ⊢
    obtain ⟨P, hP⟩ : ∃ P, Q * M = P := ⟨_, rfl⟩
    rw [hP] at q3 q4 qe
    obtain ⟨R, hR⟩ : ∃ R, B % M = R := ⟨_, rfl⟩
    rw [hR] at q5 q6 qe ⊢
    have e : toldR (Q % 4294967296) R C V = toldR (Q % 4294967296) (R % 4294967296) C V := by rw [show R % 4294967296 = R by omega]
    rw [e]
    clear hm e
    go_enter Tryz.func64, Tryz.ntmps64
    go_wp2_with (first | (go_at_call 93; refine (rsigned_any _ _ (by assumption) (by assumption)).mono ?_; rintro e w' ⟨rfl, rfl⟩) | (go_at_call 30; refine (rword_any _ _).mono ?_; rintro e w' ⟨rfl, rfl⟩) | (go_at_call 98; refine (F _).mono ?_; rintro e w' ⟨rfl, rfl⟩))
    refine bodyPost_ret (v := toldR (Q % 4294967296) (R % 4294967296) C V) (by simp [results, Tryz.results64, go_sem, toldR]) rfl ⟨rfl, (by with_reducible repeat' (first | exact G.refl _ | apply G.drew | apply G.drewN | apply G.alloc | apply G.gr))⟩

set_option maxHeartbeats 2000000 in
set_option maxRecDepth 100000 in
theorem rdo_low (op : Int) (u : Bool) (b n g : Int) (N Z C V : Bool) (w : World) (b0 : 0 ≤ b) (b1 : b < 4294967296) (n0 : 0 ≤ n) (n1 : n < 4294967296) (o : op < 0) :
    Calls Tryz.prog 64 #[.int .i64 op, .bool u, .int .u32 b, .int .u32 n, .int .u32 g, fl N Z C V] w fun e w' => e = .returned none7 ∧ G w w' := by
  unfold fl
  go_enter Tryz.func64, Tryz.ntmps64
  go_wp2_with (go_at_call 93; refine (rsigned_any _ _ (by assumption) (by assumption)).mono ?_; rintro e w' ⟨rfl, rfl⟩)
  refine bodyPost_ret (v := none7) (by simp [results, Tryz.results64, go_sem, none7]) rfl ⟨rfl, (by with_reducible repeat' (first | exact G.refl _ | apply G.drew | apply G.drewN | apply G.alloc | apply G.gr))⟩

set_option maxHeartbeats 2000000 in
set_option maxRecDepth 100000 in
theorem rdo_high (op : Int) (u : Bool) (b n g : Int) (N Z C V : Bool) (w : World) (b0 : 0 ≤ b) (b1 : b < 4294967296) (n0 : 0 ≤ n) (n1 : n < 4294967296) (o : 11 < op) :
    Calls Tryz.prog 64 #[.int .i64 op, .bool u, .int .u32 b, .int .u32 n, .int .u32 g, fl N Z C V] w fun e w' => e = .returned none7 ∧ G w w' := by
  unfold fl
  go_enter Tryz.func64, Tryz.ntmps64
  go_wp2_with (go_at_call 93; refine (rsigned_any _ _ (by assumption) (by assumption)).mono ?_; rintro e w' ⟨rfl, rfl⟩)
  refine bodyPost_ret (v := none7) (by simp [results, Tryz.results64, go_sem, none7]) rfl ⟨rfl, (by with_reducible repeat' (first | exact G.refl _ | apply G.drew | apply G.drewN | apply G.alloc | apply G.gr))⟩

set_option maxHeartbeats 2000000 in
set_option maxRecDepth 100000 in
theorem rdo_not (op : Int) (b n g : Int) (N Z C V : Bool) (w : World) (b0 : 0 ≤ b) (b1 : b < 4294967296) (n0 : 0 ≤ n) (n1 : n < 4294967296) (o0 : 1 ≤ op) (o1 : op ≤ 7) :
    Calls Tryz.prog 64 #[.int .i64 op, .bool true, .int .u32 b, .int .u32 n, .int .u32 g, fl N Z C V] w fun e w' => e = .returned none7 ∧ G w w' := by
  unfold fl
  have f0 : (op != 0) = true := by rw [bne_iff_ne]; omega
  have f8 : (op != 8) = true := by rw [bne_iff_ne]; omega
  have f9 : (op != 9) = true := by rw [bne_iff_ne]; omega
  have f10 : (op != 10) = true := by rw [bne_iff_ne]; omega
  go_enter Tryz.func64, Tryz.ntmps64
  go_wp2_with (go_at_call 93; refine (rsigned_any _ _ (by assumption) (by assumption)).mono ?_; rintro e w' ⟨rfl, rfl⟩)
  refine bodyPost_ret (v := none7) (by simp [results, Tryz.results64, go_sem, none7]) rfl ⟨rfl, (by with_reducible repeat' (first | exact G.refl _ | apply G.drew | apply G.drewN | apply G.alloc | apply G.gr))⟩

set_option maxHeartbeats 2000000 in
set_option maxRecDepth 100000 in
theorem rdo_not11 (b n g : Int) (N Z C V : Bool) (w : World) (b0 : 0 ≤ b) (b1 : b < 4294967296) (n0 : 0 ≤ n) (n1 : n < 4294967296) :
    Calls Tryz.prog 64 #[.int .i64 11, .bool true, .int .u32 b, .int .u32 n, .int .u32 g, fl N Z C V] w fun e w' => e = .returned none7 ∧ G w w' := by
  unfold fl
  go_enter Tryz.func64, Tryz.ntmps64
  go_wp2_with (go_at_call 93; refine (rsigned_any _ _ (by assumption) (by assumption)).mono ?_; rintro e w' ⟨rfl, rfl⟩)
  refine bodyPost_ret (v := none7) (by simp [results, Tryz.results64, go_sem, none7]) rfl ⟨rfl, (by with_reducible repeat' (first | exact G.refl _ | apply G.drew | apply G.drewN | apply G.alloc | apply G.gr))⟩
end Go.Proofs.YtjneaphlghfbhaaGreatDoor.Alu
