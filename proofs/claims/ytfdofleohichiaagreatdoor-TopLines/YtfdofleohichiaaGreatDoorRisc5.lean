/-
  Package risc: what operates answers.
-/
import Derived.Test.YtfdofleohichiaaGreatDoorRisc4
namespace Go.Proofs.YtfdofleohichiaaGreatDoor.Risc
open Go.RowKit Go.Proofs.YtfdofleohichiaaGreatDoor.Bits Go.Proofs.YtfdofleohichiaaGreatDoor.Gw

def markB (op : Int) (u v : Bool) : Bool := decide (op ≤ 11) && ((!u && !v) || decide (0 ≤ idxI op u v))
def operB (f : Int) (u v : Bool) (op : Int) : Bool := if f = 0 then markB op u v else if f = 1 then markB op u false else true

theorem mark_facts (w : World) (o : Obj) (op : Int) (u v : Bool) :
    (∀ p : By, (gr ((w.alloc o).alloc (.cells #[.int .i64 op, .bool u, .bool v] 159)) p).cell? ⟨w.heap.size + 1, 0, none⟩ = some (.int .i64 op)) ∧
    (∀ p : By, (gr ((w.alloc o).alloc (.cells #[.int .i64 op, .bool u, .bool v] 159)) p).cell? ⟨w.heap.size + 1, 1, none⟩ = some (.bool u)) ∧
    (∀ p : By, (gr ((w.alloc o).alloc (.cells #[.int .i64 op, .bool u, .bool v] 159)) p).cell? ⟨w.heap.size + 1, 2, none⟩ = some (.bool v)) := by
  have e : (w.alloc o).heap.size = w.heap.size + 1 := by show (w.heap.push _).size = _; simp
  rw [← e]
  exact ⟨alloc_cells 0 rfl, alloc_cells 1 rfl, alloc_cells 2 rfl⟩

set_option maxHeartbeats 1000000 in
theorem oper_reg (u v : Bool) (a b c op im : Int) (w : World) (L : Laid w) :
    Calls Tryz.prog 67 #[ins 0 u v a b c op im] w fun e w' => e = .returned (.bool (markB op u v)) ∧ ∃ p : By, w' = gr w p := by
  have LW : ∀ p : By, Laid (gr ((w.alloc (.cells #[.int .i64 0, .bool u, .bool v, .int .i64 a, .int .i64 b, .int .i64 c, .int .i64 op, .int .i64 im] 72)).alloc (.cells #[.int .i64 op, .bool u, .bool v] 159)) p) := fun p => L.g ((((G.refl w).alloc _ _).alloc _ _).gr p)
  obtain ⟨k0, k1, k2⟩ := mark_facts w (.cells #[.int .i64 0, .bool u, .bool v, .int .i64 a, .int .i64 b, .int .i64 c, .int .i64 op, .int .i64 im] 72) op u v
  by_cases h : op ≤ 11
  · cases u
    · cases v
      · (go_enter Tryz.func67, Tryz.ntmps67; go_wp2; refine region_gr0 (by kernel_rfl) (by kernel_rfl) ?_; (repeat (go_big_quiet_step ((go_at_call 108; exact calls_gr (contains_any _ _ _ _ (LW _)))))); refine wpQuiet_nil ?_; rintro _ ⟨pq, rfl⟩; go_wp2; go_ret)
        exact ⟨ret_bool (by simp [markB, h]), (((G.refl w).alloc _ _).alloc _ _).gr _⟩
      · (go_enter Tryz.func67, Tryz.ntmps67; go_wp2; refine region_gr0 (by kernel_rfl) (by kernel_rfl) ?_; (repeat (go_big_quiet_step ((go_at_call 108; exact calls_gr (contains_any _ _ _ _ (LW _)))))); refine wpQuiet_nil ?_; rintro _ ⟨pq, rfl⟩; go_wp2; go_ret)
        exact ⟨ret_bool (by simp [markB, h]), (((G.refl w).alloc _ _).alloc _ _).gr _⟩
    · (go_enter Tryz.func67, Tryz.ntmps67; go_wp2; refine region_gr0 (by kernel_rfl) (by kernel_rfl) ?_; (repeat (go_big_quiet_step ((go_at_call 108; exact calls_gr (contains_any _ _ _ _ (LW _)))))); refine wpQuiet_nil ?_; rintro _ ⟨pq, rfl⟩; go_wp2; go_ret)
      exact ⟨ret_bool (by simp [markB, h]), (((G.refl w).alloc _ _).alloc _ _).gr _⟩
  · have hd : decide (op ≤ 11) = false := decide_eq_false h
    (go_enter Tryz.func67, Tryz.ntmps67; go_wp2; refine region_gr0 (by kernel_rfl) (by kernel_rfl) ?_; (repeat (go_big_quiet_step ((go_at_call 108; exact calls_gr (contains_any _ _ _ _ (LW _)))))); refine wpQuiet_nil ?_; rintro _ ⟨pq, rfl⟩; go_wp2; go_ret)
    exact ⟨ret_bool (by unfold markB; rw [hd]; rfl), (((G.refl w).alloc _ _).alloc _ _).gr _⟩
set_option maxHeartbeats 1000000 in
theorem oper_im (u v : Bool) (a b c op im : Int) (w : World) (L : Laid w) :
    Calls Tryz.prog 67 #[ins 1 u v a b c op im] w fun e w' => e = .returned (.bool (markB op u false)) ∧ ∃ p : By, w' = gr w p := by
  have LW : ∀ p : By, Laid (gr ((w.alloc (.cells #[.int .i64 1, .bool u, .bool v, .int .i64 a, .int .i64 b, .int .i64 c, .int .i64 op, .int .i64 im] 72)).alloc (.cells #[.int .i64 op, .bool u, .bool false] 159)) p) := fun p => L.g ((((G.refl w).alloc _ _).alloc _ _).gr p)
  obtain ⟨k0, k1, k2⟩ := mark_facts w (.cells #[.int .i64 1, .bool u, .bool v, .int .i64 a, .int .i64 b, .int .i64 c, .int .i64 op, .int .i64 im] 72) op u false
  by_cases h : op ≤ 11
  · cases u
    · (go_enter Tryz.func67, Tryz.ntmps67; go_wp2; refine region_gr0 (by kernel_rfl) (by kernel_rfl) ?_; (repeat (go_big_quiet_step ((go_at_call 108; exact calls_gr (contains_any _ _ _ _ (LW _)))))); refine wpQuiet_nil ?_; rintro _ ⟨pq, rfl⟩; go_wp2; go_ret)
      exact ⟨ret_bool (by simp [markB, h]), (((G.refl w).alloc _ _).alloc _ _).gr _⟩
    · (go_enter Tryz.func67, Tryz.ntmps67; go_wp2; refine region_gr0 (by kernel_rfl) (by kernel_rfl) ?_; (repeat (go_big_quiet_step ((go_at_call 108; exact calls_gr (contains_any _ _ _ _ (LW _)))))); refine wpQuiet_nil ?_; rintro _ ⟨pq, rfl⟩; go_wp2; go_ret)
      exact ⟨ret_bool (by simp [markB, h]), (((G.refl w).alloc _ _).alloc _ _).gr _⟩
  · have hd : decide (op ≤ 11) = false := decide_eq_false h
    (go_enter Tryz.func67, Tryz.ntmps67; go_wp2; refine region_gr0 (by kernel_rfl) (by kernel_rfl) ?_; (repeat (go_big_quiet_step ((go_at_call 108; exact calls_gr (contains_any _ _ _ _ (LW _)))))); refine wpQuiet_nil ?_; rintro _ ⟨pq, rfl⟩; go_wp2; go_ret)
    exact ⟨ret_bool (by unfold markB; rw [hd]; rfl), (((G.refl w).alloc _ _).alloc _ _).gr _⟩
theorem oper_any (f : Int) (u v : Bool) (a b c op im : Int) (w : World) (L : Laid w) :
    Calls Tryz.prog 67 #[ins f u v a b c op im] w fun e w' => e = .returned (.bool (operB f u v op)) ∧ ∃ p : By, w' = gr w p := by
  by_cases h0 : f = 0
  · subst h0; exact oper_reg u v a b c op im w L
  by_cases h1 : f = 1
  · subst h1; exact oper_im u v a b c op im w L
  have e0 : (f != 0) = true := by simp [h0]
  have e1 : (f != 1) = true := by simp [h1]
  have E : Hid (true = operB f u v op) := by show true = operB f u v op; simp [operB, h0, h1]
  go_enter Tryz.func67, Tryz.ntmps67
  go_wp2
  go_ret
  exact ⟨ret_bool E.out, (G.refl w).alloc _ _⟩
end Go.Proofs.YtfdofleohichiaaGreatDoor.Risc
