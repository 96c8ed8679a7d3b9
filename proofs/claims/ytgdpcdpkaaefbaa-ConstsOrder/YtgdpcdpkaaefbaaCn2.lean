/-
  Package consts: the small functions that its maps name.
-/
import Derived.Test.YtgdpcdpkaaefbaaCn1
import Derived.Laws.Cover1
namespace Go.Proofs.Ytgdpcdpkaaefbaa.Cn
open Go.RowKit hiding Hid
open Go.Maps Go.Proofs.Ytgdpcdpkaaefbaa.Tx Go.Proofs.Ytgdpcdpkaaefbaa.Lx Go.Proofs.Ytgdpcdpkaaefbaa.Mp Go.Proofs.Ytgdpcdpkaaefbaa.Tr Go.Proofs.Ytgdpcdpkaaefbaa.Bits
set_option linter.unusedVariables false
set_option linter.unusedSimpArgs false
set_option maxRecDepth 100000

def fnV (f : FuncId) : Value := .func (.func f) #[] #[]
def Cbv (F : FuncId) (ar : Array Value) : Prop := ∀ W : World, (callFunc F ar).run Try.prog W = .ok (.enter F ar) W

theorem pos_at (a b : Int) (a0 : -4294967296 ≤ a) (a1 : a < 4294967296) (b0 : -4294967296 ≤ b) (b1 : b < 4294967296) (w : World) : Calls Try.prog 54 #[.int .i64 a, .int .i64 b] w (Told w (.int .i64 (a))) := by
  go_enter Try.func54, Try.ntmps54
  go_wp2
  go_ret
  exact ⟨rfl, gr_ref _ _⟩

theorem neg_at (a b : Int) (a0 : -4294967296 ≤ a) (a1 : a < 4294967296) (b0 : -4294967296 ≤ b) (b1 : b < 4294967296) (w : World) : Calls Try.prog 55 #[.int .i64 a, .int .i64 b] w (Told w (.int .i64 (-a))) := by
  go_enter Try.func55, Try.ntmps55
  go_wp2
  go_ret
  exact ⟨rfl, gr_ref _ _⟩

theorem add_at (a b : Int) (a0 : -4294967296 ≤ a) (a1 : a < 4294967296) (b0 : -4294967296 ≤ b) (b1 : b < 4294967296) (w : World) : Calls Try.prog 62 #[.int .i64 a, .int .i64 b] w (Told w (.int .i64 (a + b))) := by
  go_enter Try.func62, Try.ntmps62
  go_wp2
  go_ret
  exact ⟨rfl, gr_ref _ _⟩

theorem sub_at (a b : Int) (a0 : -4294967296 ≤ a) (a1 : a < 4294967296) (b0 : -4294967296 ≤ b) (b1 : b < 4294967296) (w : World) : Calls Try.prog 63 #[.int .i64 a, .int .i64 b] w (Told w (.int .i64 (a - b))) := by
  go_enter Try.func63, Try.ntmps63
  go_wp2
  go_ret
  exact ⟨rfl, gr_ref _ _⟩

theorem mul_at (a b : Int) {P : Int} (h : a * b = P) (p0 : -9223372036854775808 ≤ P) (p1 : P < 9223372036854775808) (a0 : -4294967296 ≤ a) (a1 : a < 4294967296) (b0 : -4294967296 ≤ b) (b1 : b < 4294967296) (w : World) : Calls Try.prog 64 #[.int .i64 a, .int .i64 b] w (Told w (.int .i64 (P))) := by
  go_enter Try.func64, Try.ntmps64
  go_wp2
  go_ret
  exact ⟨rfl, gr_ref _ _⟩

theorem abs_at (a b : Int) (a0 : -4294967296 ≤ a) (a1 : a < 4294967296) (b0 : -4294967296 ≤ b) (b1 : b < 4294967296) (w : World) : Calls Try.prog 78 #[.int .i64 a, .int .i64 b] w (Told w (.int .i64 (if 0 ≤ a then a else -a))) := by
  by_cases h : 0 ≤ a
  · have h' : ¬ (-a > a) := by omega
    rw [if_pos h]
    go_enter Try.func78, Try.ntmps78
    go_wp2
    go_ret
    exact ⟨by simp [h'], gr_ref _ _⟩
  · have h' : -a > a := by omega
    rw [if_neg h]
    go_enter Try.func78, Try.ntmps78
    go_wp2
    go_ret
    exact ⟨by simp [h'], gr_ref _ _⟩

theorem cpl_at (a b : Int) (a0 : 0 ≤ a) (a1 : a < 4294967296) (b0 : 0 ≤ b) (b1 : b < 4294967296) (w : World) : Calls Try.prog 57 #[.int .u32 a, .int .u32 b] w (Told w (.int .u32 (Go.bits .xor .u32 IntKind.u32.max a))) := by
  go_enter Try.func57, Try.ntmps57
  go_wp2
  go_ret
  exact ⟨rfl, gr_ref _ _⟩

theorem sor_at (a b : Int) (a0 : 0 ≤ a) (a1 : a < 4294967296) (b0 : 0 ≤ b) (b1 : b < 4294967296) (w : World) : Calls Try.prog 68 #[.int .u32 a, .int .u32 b] w (Told w (.int .u32 (Go.bits .or .u32 a b))) := by
  go_enter Try.func68, Try.ntmps68
  go_wp2
  go_ret
  exact ⟨rfl, gr_ref _ _⟩

theorem sdf_at (a b : Int) (a0 : 0 ≤ a) (a1 : a < 4294967296) (b0 : 0 ≤ b) (b1 : b < 4294967296) (w : World) : Calls Try.prog 69 #[.int .u32 a, .int .u32 b] w (Told w (.int .u32 (Go.bits .andNot .u32 a b))) := by
  go_enter Try.func69, Try.ntmps69
  go_wp2
  go_ret
  exact ⟨rfl, gr_ref _ _⟩

theorem san_at (a b : Int) (a0 : 0 ≤ a) (a1 : a < 4294967296) (b0 : 0 ≤ b) (b1 : b < 4294967296) (w : World) : Calls Try.prog 70 #[.int .u32 a, .int .u32 b] w (Told w (.int .u32 (Go.bits .and .u32 a b))) := by
  go_enter Try.func70, Try.ntmps70
  go_wp2
  go_ret
  exact ⟨rfl, gr_ref _ _⟩

theorem sxo_at (a b : Int) (a0 : 0 ≤ a) (a1 : a < 4294967296) (b0 : 0 ≤ b) (b1 : b < 4294967296) (w : World) : Calls Try.prog 71 #[.int .u32 a, .int .u32 b] w (Told w (.int .u32 (Go.bits .xor .u32 a b))) := by
  go_enter Try.func71, Try.ntmps71
  go_wp2
  go_ret
  exact ⟨rfl, gr_ref _ _⟩

theorem wi1_at (a b : Int) (a0 : 0 ≤ a) (a1 : a < 4294967296) (b0 : 0 ≤ b) (b1 : b < 4294967296) (w : World) : Calls Try.prog 84 #[.int .u32 a, .int .u32 b] w (Told w (.int .u32 (a))) := by
  go_enter Try.func84, Try.ntmps84
  go_wp2
  go_ret
  exact ⟨rfl, gr_ref _ _⟩

theorem wi2_at (a b : Int) (a0 : 0 ≤ a) (a1 : a < 4294967296) (b0 : 0 ≤ b) (b1 : b < 4294967296) (w : World) : Calls Try.prog 85 #[.int .u32 a, .int .u32 b] w (Told w (.int .u32 (a))) := by
  go_enter Try.func85, Try.ntmps85
  go_wp2
  go_ret
  exact ⟨rfl, gr_ref _ _⟩

theorem wi3_at (a b : Int) (a0 : 0 ≤ a) (a1 : a < 4294967296) (b0 : 0 ≤ b) (b1 : b < 4294967296) (w : World) : Calls Try.prog 86 #[.int .u32 a, .int .u32 b] w (Told w (.int .u32 (a))) := by
  go_enter Try.func86, Try.ntmps86
  go_wp2
  go_ret
  exact ⟨rfl, gr_ref _ _⟩

end Go.Proofs.Ytgdpcdpkaaefbaa.Cn
