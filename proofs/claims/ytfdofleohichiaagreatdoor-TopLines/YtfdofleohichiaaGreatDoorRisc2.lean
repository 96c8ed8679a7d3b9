/-
  Package risc: what pack answers, for every instruction.
-/
import Derived.Test.YtfdofleohichiaaGreatDoorRisc1
namespace Go.Proofs.YtfdofleohichiaaGreatDoor.Risc
open Go.RowKit Go.Proofs.YtfdofleohichiaaGreatDoor.Bits Go.Proofs.YtfdofleohichiaaGreatDoor.Gw

abbrev ins (f : Int) (u v : Bool) (a b c op im : Int) : Value := .agg #[.int .i64 f, .bool u, .bool v, .int .i64 a, .int .i64 b, .int .i64 c, .int .i64 op, .int .i64 im]
def headI (f : Int) (u v : Bool) (a : Int) : Int := putI (putI (putI (putI 0 30 2 (f % 4294967296)) 29 1 (bI u % 4294967296)) 28 1 (bI v % 4294967296)) 24 4 (a % 4294967296)
def packI (f : Int) (u v : Bool) (a b c op im : Int) : Int :=
  if f = 0 then putI (putI (putI (headI f u v a) 20 4 (b % 4294967296)) 16 4 (op % 4294967296)) 0 4 (c % 4294967296)
  else if f = 1 then putI (putI (putI (headI f u v a) 20 4 (b % 4294967296)) 16 4 (op % 4294967296)) 0 16 (im % 4294967296)
  else if f = 2 then putI (putI (headI f u v a) 20 4 (b % 4294967296)) 0 20 (im % 4294967296)
  else if u = true then putI (headI f u v a) 0 24 (im % 4294967296)
  else putI (headI f u v a) 0 4 (c % 4294967296)

theorem alloc_cells {w : World} {cs : Array Value} {t : TypeId} (i : Nat) {v : Value} (h : cs[i]? = some v) : ∀ p : By, (gr (w.alloc (.cells cs t)) p).cell? ⟨w.heap.size, i, none⟩ = some v := by
  intro p
  rw [gr_cell _ _ _ (by show w.heap.size < (w.heap.push _).size; simp)]
  show World.cell? { w with heap := w.heap.push (.cells cs t) } _ = _
  simp [World.cell?, h]

theorem box_facts (f : Int) (u v : Bool) (a b c op im : Int) (w : World) :
    (∀ p : By, (gr (w.alloc (.cells #[.int .i64 f, .bool u, .bool v, .int .i64 a, .int .i64 b, .int .i64 c, .int .i64 op, .int .i64 im] 72)) p).cell? ⟨w.heap.size, 0, none⟩ = some (.int .i64 f)) ∧
    (∀ p : By, (gr (w.alloc (.cells #[.int .i64 f, .bool u, .bool v, .int .i64 a, .int .i64 b, .int .i64 c, .int .i64 op, .int .i64 im] 72)) p).cell? ⟨w.heap.size, 1, none⟩ = some (.bool u)) ∧
    (∀ p : By, (gr (w.alloc (.cells #[.int .i64 f, .bool u, .bool v, .int .i64 a, .int .i64 b, .int .i64 c, .int .i64 op, .int .i64 im] 72)) p).cell? ⟨w.heap.size, 2, none⟩ = some (.bool v)) ∧
    (∀ p : By, (gr (w.alloc (.cells #[.int .i64 f, .bool u, .bool v, .int .i64 a, .int .i64 b, .int .i64 c, .int .i64 op, .int .i64 im] 72)) p).cell? ⟨w.heap.size, 3, none⟩ = some (.int .i64 a)) ∧
    (∀ p : By, (gr (w.alloc (.cells #[.int .i64 f, .bool u, .bool v, .int .i64 a, .int .i64 b, .int .i64 c, .int .i64 op, .int .i64 im] 72)) p).cell? ⟨w.heap.size, 4, none⟩ = some (.int .i64 b)) ∧
    (∀ p : By, (gr (w.alloc (.cells #[.int .i64 f, .bool u, .bool v, .int .i64 a, .int .i64 b, .int .i64 c, .int .i64 op, .int .i64 im] 72)) p).cell? ⟨w.heap.size, 5, none⟩ = some (.int .i64 c)) ∧
    (∀ p : By, (gr (w.alloc (.cells #[.int .i64 f, .bool u, .bool v, .int .i64 a, .int .i64 b, .int .i64 c, .int .i64 op, .int .i64 im] 72)) p).cell? ⟨w.heap.size, 6, none⟩ = some (.int .i64 op)) ∧
    (∀ p : By, (gr (w.alloc (.cells #[.int .i64 f, .bool u, .bool v, .int .i64 a, .int .i64 b, .int .i64 c, .int .i64 op, .int .i64 im] 72)) p).cell? ⟨w.heap.size, 7, none⟩ = some (.int .i64 im)) :=
  ⟨alloc_cells 0 rfl, alloc_cells 1 rfl, alloc_cells 2 rfl, alloc_cells 3 rfl, alloc_cells 4 rfl, alloc_cells 5 rfl, alloc_cells 6 rfl, alloc_cells 7 rfl⟩

set_option maxHeartbeats 1000000 in
theorem pack_reg (u : Bool) (v : Bool) (a b c op im : Int) (w : World) (L : Laid w) :
    Calls Tryz.prog 66 #[ins 0 u v a b c op im] w fun e w' => e = .returned (.int .u32 (packI 0 u v a b c op im)) ∧ ∃ p : By, w' = gr w p := by
  have LW := L.g ((G.refl w).alloc #[.int .i64 0, .bool u, .bool v, .int .i64 a, .int .i64 b, .int .i64 c, .int .i64 op, .int .i64 im] 72)
  have sW := LW.size
  obtain ⟨x1, x2, x3⟩ := LW.form
  obtain ⟨u1, u2, u3⟩ := LW.u.all (by omega)
  obtain ⟨v1, v2, v3⟩ := LW.v.all (by omega)
  obtain ⟨a1, a2, a3⟩ := LW.a.all (by omega)
  obtain ⟨b1, b2, b3⟩ := LW.b.all (by omega)
  obtain ⟨o1, o2, o3⟩ := LW.op.all (by omega)
  obtain ⟨c1, c2, c3⟩ := LW.c.all (by omega)
  obtain ⟨k0, k1, k2, k3, k4, k5, k6, k7⟩ := box_facts (0) u v a b c op im w
  clear LW sW
  go_enter Tryz.func66, Tryz.ntmps66
  go_wp2_with (go_at_call 106; refine (fputU _ _ _ _ _ _ U32.zero (by decide)).mono ?_; rintro e w' ⟨rfl, p, rfl⟩)
  (refine region_gr (by kernel_rfl) (by kernel_rfl) ?_; (repeat (go_big_quiet_step (first | (go_at_call 106; exact calls_gr (fputU _ _ _ _ _ _ (by repeat' (first | exact U32.zero | apply U32.put)) (by decide))) | (go_at_call 107; exact calls_same (number_any _ _))))); refine wpQuiet_nil ?_; rintro _ ⟨pq, rfl⟩)
  go_wp2_with fail
  (refine region_gr (by kernel_rfl) (by kernel_rfl) ?_; (repeat (go_big_quiet_step (first | (go_at_call 106; exact calls_gr (fputU _ _ _ _ _ _ (by repeat' (first | exact U32.zero | apply U32.put)) (by decide))) | (go_at_call 107; exact calls_same (number_any _ _))))); refine wpQuiet_nil ?_; rintro _ ⟨pq, rfl⟩)
  go_wp2_with (go_at_call 106; refine (calls_gr (fputU _ _ _ _ _ _ (by repeat' (first | exact U32.zero | apply U32.put)) (by decide))).mono ?_; rintro e w' ⟨rfl, p, rfl⟩)
  (refine region_gr (by kernel_rfl) (by kernel_rfl) ?_; (repeat (go_big_quiet_step (first | (go_at_call 106; exact calls_gr (fputU _ _ _ _ _ _ (by repeat' (first | exact U32.zero | apply U32.put)) (by decide))) | (go_at_call 107; exact calls_same (number_any _ _))))); refine wpQuiet_nil ?_; rintro _ ⟨pq, rfl⟩)
  go_wp2_with fail
  go_ret
  exact ⟨ret_int (by simp [packI, headI]), ((G.refl _).alloc _ _).gr _⟩

set_option maxHeartbeats 1000000 in
theorem pack_im (u : Bool) (v : Bool) (a b c op im : Int) (w : World) (L : Laid w) :
    Calls Tryz.prog 66 #[ins 1 u v a b c op im] w fun e w' => e = .returned (.int .u32 (packI 1 u v a b c op im)) ∧ ∃ p : By, w' = gr w p := by
  have LW := L.g ((G.refl w).alloc #[.int .i64 1, .bool u, .bool v, .int .i64 a, .int .i64 b, .int .i64 c, .int .i64 op, .int .i64 im] 72)
  have sW := LW.size
  obtain ⟨x1, x2, x3⟩ := LW.form
  obtain ⟨u1, u2, u3⟩ := LW.u.all (by omega)
  obtain ⟨v1, v2, v3⟩ := LW.v.all (by omega)
  obtain ⟨a1, a2, a3⟩ := LW.a.all (by omega)
  obtain ⟨b1, b2, b3⟩ := LW.b.all (by omega)
  obtain ⟨o1, o2, o3⟩ := LW.op.all (by omega)
  obtain ⟨i1, i2, i3⟩ := LW.im.all (by omega)
  obtain ⟨k0, k1, k2, k3, k4, k5, k6, k7⟩ := box_facts (1) u v a b c op im w
  clear LW sW
  go_enter Tryz.func66, Tryz.ntmps66
  go_wp2_with (go_at_call 106; refine (fputU _ _ _ _ _ _ U32.zero (by decide)).mono ?_; rintro e w' ⟨rfl, p, rfl⟩)
  (refine region_gr (by kernel_rfl) (by kernel_rfl) ?_; (repeat (go_big_quiet_step (first | (go_at_call 106; exact calls_gr (fputU _ _ _ _ _ _ (by repeat' (first | exact U32.zero | apply U32.put)) (by decide))) | (go_at_call 107; exact calls_same (number_any _ _))))); refine wpQuiet_nil ?_; rintro _ ⟨pq, rfl⟩)
  go_wp2_with fail
  (refine region_gr (by kernel_rfl) (by kernel_rfl) ?_; (repeat (go_big_quiet_step (first | (go_at_call 106; exact calls_gr (fputU _ _ _ _ _ _ (by repeat' (first | exact U32.zero | apply U32.put)) (by decide))) | (go_at_call 107; exact calls_same (number_any _ _))))); refine wpQuiet_nil ?_; rintro _ ⟨pq, rfl⟩)
  go_wp2_with (go_at_call 106; refine (calls_gr (fputU _ _ _ _ _ _ (by repeat' (first | exact U32.zero | apply U32.put)) (by decide))).mono ?_; rintro e w' ⟨rfl, p, rfl⟩)
  (refine region_gr (by kernel_rfl) (by kernel_rfl) ?_; (repeat (go_big_quiet_step (first | (go_at_call 106; exact calls_gr (fputU _ _ _ _ _ _ (by repeat' (first | exact U32.zero | apply U32.put)) (by decide))) | (go_at_call 107; exact calls_same (number_any _ _))))); refine wpQuiet_nil ?_; rintro _ ⟨pq, rfl⟩)
  go_wp2_with fail
  go_ret
  exact ⟨ret_int (by simp [packI, headI]), ((G.refl _).alloc _ _).gr _⟩

set_option maxHeartbeats 1000000 in
theorem pack_mem (u : Bool) (v : Bool) (a b c op im : Int) (w : World) (L : Laid w) :
    Calls Tryz.prog 66 #[ins 2 u v a b c op im] w fun e w' => e = .returned (.int .u32 (packI 2 u v a b c op im)) ∧ ∃ p : By, w' = gr w p := by
  have LW := L.g ((G.refl w).alloc #[.int .i64 2, .bool u, .bool v, .int .i64 a, .int .i64 b, .int .i64 c, .int .i64 op, .int .i64 im] 72)
  have sW := LW.size
  obtain ⟨x1, x2, x3⟩ := LW.form
  obtain ⟨u1, u2, u3⟩ := LW.u.all (by omega)
  obtain ⟨v1, v2, v3⟩ := LW.v.all (by omega)
  obtain ⟨a1, a2, a3⟩ := LW.a.all (by omega)
  obtain ⟨b1, b2, b3⟩ := LW.b.all (by omega)
  obtain ⟨m1, m2, m3⟩ := LW.mem.all (by omega)
  obtain ⟨k0, k1, k2, k3, k4, k5, k6, k7⟩ := box_facts (2) u v a b c op im w
  clear LW sW
  go_enter Tryz.func66, Tryz.ntmps66
  go_wp2_with (go_at_call 106; refine (fputU _ _ _ _ _ _ U32.zero (by decide)).mono ?_; rintro e w' ⟨rfl, p, rfl⟩)
  (refine region_gr (by kernel_rfl) (by kernel_rfl) ?_; (repeat (go_big_quiet_step (first | (go_at_call 106; exact calls_gr (fputU _ _ _ _ _ _ (by repeat' (first | exact U32.zero | apply U32.put)) (by decide))) | (go_at_call 107; exact calls_same (number_any _ _))))); refine wpQuiet_nil ?_; rintro _ ⟨pq, rfl⟩)
  go_wp2_with fail
  (refine region_gr (by kernel_rfl) (by kernel_rfl) ?_; (repeat (go_big_quiet_step (first | (go_at_call 106; exact calls_gr (fputU _ _ _ _ _ _ (by repeat' (first | exact U32.zero | apply U32.put)) (by decide))) | (go_at_call 107; exact calls_same (number_any _ _))))); refine wpQuiet_nil ?_; rintro _ ⟨pq, rfl⟩)
  go_wp2_with (go_at_call 106; refine (calls_gr (fputU _ _ _ _ _ _ (by repeat' (first | exact U32.zero | apply U32.put)) (by decide))).mono ?_; rintro e w' ⟨rfl, p, rfl⟩)
  (refine region_gr (by kernel_rfl) (by kernel_rfl) ?_; (repeat (go_big_quiet_step (first | (go_at_call 106; exact calls_gr (fputU _ _ _ _ _ _ (by repeat' (first | exact U32.zero | apply U32.put)) (by decide))) | (go_at_call 107; exact calls_same (number_any _ _))))); refine wpQuiet_nil ?_; rintro _ ⟨pq, rfl⟩)
  go_wp2_with fail
  go_ret
  exact ⟨ret_int (by simp [packI, headI]), ((G.refl _).alloc _ _).gr _⟩

set_option maxHeartbeats 1000000 in
theorem pack_jump (f : Int) (v : Bool) (a b c op im : Int) (w : World) (L : Laid w) (h0 : (f == 0) = false) (h1 : (f == 1) = false) (h2 : (f == 2) = false) :
    Calls Tryz.prog 66 #[ins f true v a b c op im] w fun e w' => e = .returned (.int .u32 (packI f true v a b c op im)) ∧ ∃ p : By, w' = gr w p := by
  have LW := L.g ((G.refl w).alloc #[.int .i64 f, .bool true, .bool v, .int .i64 a, .int .i64 b, .int .i64 c, .int .i64 op, .int .i64 im] 72)
  have sW := LW.size
  obtain ⟨x1, x2, x3⟩ := LW.form
  obtain ⟨u1, u2, u3⟩ := LW.u.all (by omega)
  obtain ⟨v1, v2, v3⟩ := LW.v.all (by omega)
  obtain ⟨a1, a2, a3⟩ := LW.a.all (by omega)
  obtain ⟨j1, j2, j3⟩ := LW.jump.all (by omega)
  obtain ⟨k0, k1, k2, k3, k4, k5, k6, k7⟩ := box_facts (f) true v a b c op im w
  clear LW sW
  go_enter Tryz.func66, Tryz.ntmps66
  go_wp2_with (go_at_call 106; refine (fputU _ _ _ _ _ _ U32.zero (by decide)).mono ?_; rintro e w' ⟨rfl, p, rfl⟩)
  (refine region_gr (by kernel_rfl) (by kernel_rfl) ?_; (repeat (go_big_quiet_step (first | (go_at_call 106; exact calls_gr (fputU _ _ _ _ _ _ (by repeat' (first | exact U32.zero | apply U32.put)) (by decide))) | (go_at_call 107; exact calls_same (number_any _ _))))); refine wpQuiet_nil ?_; rintro _ ⟨pq, rfl⟩)
  go_wp2_with fail
  (refine region_gr (by kernel_rfl) (by kernel_rfl) ?_; (repeat (go_big_quiet_step (first | (go_at_call 106; exact calls_gr (fputU _ _ _ _ _ _ (by repeat' (first | exact U32.zero | apply U32.put)) (by decide))) | (go_at_call 107; exact calls_same (number_any _ _))))); refine wpQuiet_nil ?_; rintro _ ⟨pq, rfl⟩)
  go_wp2_with (go_at_call 106; refine (calls_gr (fputU _ _ _ _ _ _ (by repeat' (first | exact U32.zero | apply U32.put)) (by decide))).mono ?_; rintro e w' ⟨rfl, p, rfl⟩)
  go_ret
  exact ⟨ret_int (by simp at h0 h1 h2; simp [packI, headI, h0, h1, h2]), ((G.refl _).alloc _ _).gr _⟩

set_option maxHeartbeats 1000000 in
theorem pack_reg3 (f : Int) (v : Bool) (a b c op im : Int) (w : World) (L : Laid w) (h0 : (f == 0) = false) (h1 : (f == 1) = false) (h2 : (f == 2) = false) :
    Calls Tryz.prog 66 #[ins f false v a b c op im] w fun e w' => e = .returned (.int .u32 (packI f false v a b c op im)) ∧ ∃ p : By, w' = gr w p := by
  have LW := L.g ((G.refl w).alloc #[.int .i64 f, .bool false, .bool v, .int .i64 a, .int .i64 b, .int .i64 c, .int .i64 op, .int .i64 im] 72)
  have sW := LW.size
  obtain ⟨x1, x2, x3⟩ := LW.form
  obtain ⟨u1, u2, u3⟩ := LW.u.all (by omega)
  obtain ⟨v1, v2, v3⟩ := LW.v.all (by omega)
  obtain ⟨a1, a2, a3⟩ := LW.a.all (by omega)
  obtain ⟨c1, c2, c3⟩ := LW.c.all (by omega)
  obtain ⟨k0, k1, k2, k3, k4, k5, k6, k7⟩ := box_facts (f) false v a b c op im w
  clear LW sW
  go_enter Tryz.func66, Tryz.ntmps66
  go_wp2_with (go_at_call 106; refine (fputU _ _ _ _ _ _ U32.zero (by decide)).mono ?_; rintro e w' ⟨rfl, p, rfl⟩)
  (refine region_gr (by kernel_rfl) (by kernel_rfl) ?_; (repeat (go_big_quiet_step (first | (go_at_call 106; exact calls_gr (fputU _ _ _ _ _ _ (by repeat' (first | exact U32.zero | apply U32.put)) (by decide))) | (go_at_call 107; exact calls_same (number_any _ _))))); refine wpQuiet_nil ?_; rintro _ ⟨pq, rfl⟩)
  go_wp2_with fail
  (refine region_gr (by kernel_rfl) (by kernel_rfl) ?_; (repeat (go_big_quiet_step (first | (go_at_call 106; exact calls_gr (fputU _ _ _ _ _ _ (by repeat' (first | exact U32.zero | apply U32.put)) (by decide))) | (go_at_call 107; exact calls_same (number_any _ _))))); refine wpQuiet_nil ?_; rintro _ ⟨pq, rfl⟩)
  go_wp2_with (go_at_call 106; refine (calls_gr (fputU _ _ _ _ _ _ (by repeat' (first | exact U32.zero | apply U32.put)) (by decide))).mono ?_; rintro e w' ⟨rfl, p, rfl⟩)
  go_ret
  exact ⟨ret_int (by simp at h0 h1 h2; simp [packI, headI, h0, h1, h2]), ((G.refl _).alloc _ _).gr _⟩

theorem pack_any (f : Int) (u v : Bool) (a b c op im : Int) (w : World) (L : Laid w) :
    Calls Tryz.prog 66 #[ins f u v a b c op im] w fun e w' => e = .returned (.int .u32 (packI f u v a b c op im)) ∧ ∃ p : By, w' = gr w p := by
  by_cases h0 : f = 0
  · subst h0; exact pack_reg u v a b c op im w L
  by_cases h1 : f = 1
  · subst h1; exact pack_im u v a b c op im w L
  by_cases h2 : f = 2
  · subst h2; exact pack_mem u v a b c op im w L
  cases u
  · exact pack_reg3 f v a b c op im w L (by simp [h0]) (by simp [h1]) (by simp [h2])
  · exact pack_jump f v a b c op im w L (by simp [h0]) (by simp [h1]) (by simp [h2])
end Go.Proofs.YtfdofleohichiaaGreatDoor.Risc
