/-
  Package asm: kinds of instructions and their names.
-/
import Derived.Test.YtjeogojgabfbiaaGreatDoorTab
import Derived.Test.YtjeogojgabfbiaaGreatDoorMp1
import Derived.Test.YtjeogojgabfbiaaGreatDoorAsm1
namespace Go.Proofs.YtjeogojgabfbiaaGreatDoor.Asm
open Go.RowKit Go.Maps Go.Proofs.YtjeogojgabfbiaaGreatDoor.Bits Go.Proofs.YtjeogojgabfbiaaGreatDoor.Gw Go.Proofs.YtjeogojgabfbiaaGreatDoor.Risc Go.Proofs.YtjeogojgabfbiaaGreatDoor.Tx Go.Proofs.YtjeogojgabfbiaaGreatDoor.Mp
set_option linter.unusedVariables false
set_option linter.unusedSimpArgs false
set_option maxRecDepth 100000

abbrev kd (f op : Int) (u v : Bool) : Value := .agg #[.int .i64 f, .int .i64 op, .bool u, .bool v]
abbrev spv (s : ByteArray) (r : Bool) : Value := .agg #[.string s, .bool r]
def rgK4 (f : Int) (u : Bool) : Bool := (f == 0) || ((f == 3) && !u)
abbrev kbox (f op : Int) (u v : Bool) : Obj := .cells #[.int .i64 f, .int .i64 op, .bool u, .bool v] 83
abbrev sbox (s : ByteArray) (r : Bool) : Obj := .cells #[.string s, .bool r] 81
theorem ends_any (f op : Int) (u v : Bool) (w : World) : Calls Tryz.prog 76 #[kd f op u v] w fun e w' => e = .returned (.bool (rgK4 f u)) ∧ w' = w.alloc (kbox f op u v) := by
  cases h0 : (f == 0) <;> cases h3 : (f == 3) <;> cases u
  all_goals
    go_enter Tryz.func76, Tryz.ntmps76
    go_wp2
    go_ret
    exact ⟨by simp [rgK4, h0, h3], rfl⟩
theorem spelt_any (f op : Int) (u v : Bool) (s : ByteArray) (w : World) : Calls Tryz.prog 45 #[kd f op u v, .string s] w fun e w' => e = .returned (spv s (rgK4 f u)) ∧ w' = ((w.alloc (kbox f op u v)).alloc (sbox s (rgK4 f u))).alloc (kbox f op u v) := by
  go_enter Tryz.func45, Tryz.ntmps45
  go_wp2_with (go_at_call 76; refine (ends_any _ _ _ _ _).mono ?_; rintro e w1 ⟨rfl, rfl⟩)
  exact bodyPost_ret (v := spv s (rgK4 f u)) (by simp [results, Tryz.results45, go_sem]) rfl ⟨rfl, rfl⟩
theorem lit_bs (l : List UInt8) : (⟨l.toArray⟩ : ByteArray) = bs l := rfl
theorem memn_any (u v : Bool) (w : World) : Calls Tryz.prog 73 #[.bool u, .bool v] w fun e w' => e = .returned (.string (bs (memN u v))) ∧ w' = w := by
  cases u <;> cases v
  all_goals
    go_enter Tryz.func73, Tryz.ntmps73
    go_wp2
    go_ret
    exact ⟨rfl, rfl⟩
theorem mark_any (u v : Bool) (w : World) : Calls Tryz.prog 74 #[.bool u, .bool v] w fun e w' => e = .returned (.string (bs (mkU u ++ mkV v))) ∧ w' = w := by
  cases u <;> cases v
  all_goals
    go_enter Tryz.func74, Tryz.ntmps74
    go_wp2
    go_ret
    exact ⟨rfl, rfl⟩
def jmpN (v : Bool) : List UInt8 := if v = true then [66, 76, 46] else [66, 46]
theorem jump_any (v : Bool) (w : World) : Calls Tryz.prog 75 #[.bool v] w fun e w' => e = .returned (.string (bs (jmpN v))) ∧ w' = w := by
  cases v
  all_goals
    go_enter Tryz.func75, Tryz.ntmps75
    go_wp2
    go_ret
    exact ⟨rfl, rfl⟩
theorem kindof_any (f : Int) (u v : Bool) (a b c op im : Int) (w : World) : Calls Tryz.prog 42 #[ins f u v a b c op im] w fun e w' => e = .returned (kd f (if f = 3 then a else op) u v) ∧ w.grownBy w' none := by
  cases h3 : (f == 3)
  · have h : ¬ f = 3 := by simpa using h3
    rw [if_neg h]
    go_enter Tryz.func42, Tryz.ntmps42
    go_wp2
    exact bodyPost_ret (v := kd f op u v) (by simp [results, Tryz.results42, go_sem]) rfl ⟨rfl, grown_trans (grown_trans (World.grownBy_alloc _ _ _) (World.grownBy_alloc _ _ _)) (World.grownBy_alloc _ _ _)⟩
  · have h : f = 3 := by simpa using h3
    rw [if_pos h]
    clear h
    go_enter Tryz.func42, Tryz.ntmps42
    go_wp2
    exact bodyPost_ret (v := kd f a u v) (by simp [results, Tryz.results42, go_sem]) rfl ⟨rfl, grown_trans (grown_trans (World.grownBy_alloc _ _ _) (World.grownBy_alloc _ _ _)) (World.grownBy_alloc _ _ _)⟩
end Go.Proofs.YtjeogojgabfbiaaGreatDoor.Asm
