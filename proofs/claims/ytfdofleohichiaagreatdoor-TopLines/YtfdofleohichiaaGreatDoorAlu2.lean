/-
  Package alu's Do: what it answers, for every operation, words and flags.
-/
import Derived.Test.YtfdofleohichiaaGreatDoorAlu1
import Derived.Deep.Cut
namespace Go.Proofs.YtfdofleohichiaaGreatDoor.Alu
open Go.RowKit Go.Proofs.YtfdofleohichiaaGreatDoor.Bits Go.Proofs.YtfdofleohichiaaGreatDoor.Gw

def tell (r h : Int) (C V : Bool) : Value := .tuple #[.int .u32 r, .int .u32 h, fl (decide (wrap32 r < 0)) (r == 0) C V, .bool true]
def none4 : Value := .tuple #[.int .u32 0, .int .u32 0, fl false false false false, .bool false]

set_option maxHeartbeats 1000000 in
theorem do_mov (u : Bool) (b n h : Int) (N Z C V : Bool) (w : World) :
    Calls Tryz.prog 80 #[.int .i64 0, .bool u, .int .u32 b, .int .u32 n, .int .u32 h, fl N Z C V] w fun e w' => e = .returned (tell (if u = true then h else n) h C V) ∧ G w w' := by
  unfold fl
  have M : ∀ w : World, Calls Tryz.prog 124 #[.bool u, .int .u32 n, .int .u32 h] w fun e w' => e = .returned (.int .u32 (if u = true then h else n)) ∧ w' = w := fun w => moved_any u n h w
  obtain ⟨r, hr⟩ : ∃ r, (if u = true then h else n) = r := ⟨_, rfl⟩
  rw [hr] at M ⊢
  have Y : ∀ w : World, Calls Tryz.prog 123 #[.int .i64 0] w fun e w' => e = .returned (.bool true) ∧ w' = w := fun w => mayU_any 0 w
  clear hr
  cases u
  · go_enter Tryz.func80, Tryz.ntmps80
    go_wp2_with fail
    go_region
    go_wp2_with (first | (go_at_call 124; refine (M _).mono ?_; rintro e w' ⟨rfl, rfl⟩) | (go_at_call 130; refine (sgn_any _ _).mono ?_; rintro e w' ⟨rfl, rfl⟩))
    go_region
    go_wp2
    refine bodyPost_ret (v := tell r h C V) (by simp [results, Tryz.results80, go_sem, tell, fl]) rfl ⟨rfl, (by with_reducible repeat' (first | exact G.refl _ | apply G.drew | apply G.drewN | apply G.alloc | apply G.gr))⟩
  · go_enter Tryz.func80, Tryz.ntmps80
    go_wp2_with (go_at_call 123; refine (Y _).mono ?_; rintro e w' ⟨rfl, rfl⟩)
    go_region
    go_wp2_with (first | (go_at_call 124; refine (M _).mono ?_; rintro e w' ⟨rfl, rfl⟩) | (go_at_call 130; refine (sgn_any _ _).mono ?_; rintro e w' ⟨rfl, rfl⟩))
    go_region
    go_wp2
    refine bodyPost_ret (v := tell r h C V) (by simp [results, Tryz.results80, go_sem, tell, fl]) rfl ⟨rfl, (by with_reducible repeat' (first | exact G.refl _ | apply G.drew | apply G.drewN | apply G.alloc | apply G.gr))⟩

set_option maxHeartbeats 1000000 in
theorem do_add (u : Bool) (b n h : Int) (N Z C V : Bool) (w : World) (b0 : 0 ≤ b) (b1 : b < 4294967296) (n0 : 0 ≤ n) (n1 : n < 4294967296) :
    Calls Tryz.prog 80 #[.int .i64 8, .bool u, .int .u32 b, .int .u32 n, .int .u32 h, fl N Z C V] w fun e w' => e = .returned (tell ((b + n + cI u C) % 4294967296) h (addC b n (cI u C)) (addV b n (cI u C))) ∧ G w w' := by
  have K := carry_any u N Z C V
  unfold fl at K ⊢
  obtain ⟨c0, c1⟩ := cI_bd u C
  obtain ⟨c, hc⟩ : ∃ c, cI u C = c := ⟨_, rfl⟩
  rw [hc] at c0 c1 K ⊢
  have M : ∀ w : World, Calls Tryz.prog 125 #[.int .i64 8, .int .u32 b, .int .u32 n, .int .i64 c] w fun e w' => e = .returned (.tuple #[.int .u32 ((b + n + c) % 4294967296), .bool (addC b n c), .bool (addV b n c)]) ∧ w' = w := fun w => sum_add b n c w b0 b1 n0 n1 c0 c1
  obtain ⟨r, hr⟩ : ∃ r, (b + n + c) % 4294967296 = r := ⟨_, rfl⟩
  rw [hr] at M ⊢
  generalize addC b n c = oc at M ⊢
  generalize addV b n c = ov at M ⊢
  have Y : ∀ w : World, Calls Tryz.prog 123 #[.int .i64 8] w fun e w' => e = .returned (.bool true) ∧ w' = w := fun w => mayU_any 8 w
  clear hr hc b0 b1 n0 n1 c0 c1
  cases u
  · go_enter Tryz.func80, Tryz.ntmps80
    go_wp2_with fail
    go_region
    go_wp2_with (first | (go_at_call 126; refine (K _).mono ?_; rintro e w' ⟨rfl, rfl⟩) | (go_at_call 125; refine (M _).mono ?_; rintro e w' ⟨rfl, rfl⟩) | (go_at_call 130; refine (sgn_any _ _).mono ?_; rintro e w' ⟨rfl, rfl⟩))
    go_region
    go_wp2
    refine bodyPost_ret (v := tell r h oc ov) (by simp [results, Tryz.results80, go_sem, tell, fl]) rfl ⟨rfl, (by with_reducible repeat' (first | exact G.refl _ | apply G.drew | apply G.drewN | apply G.alloc | apply G.gr))⟩
  · go_enter Tryz.func80, Tryz.ntmps80
    go_wp2_with (go_at_call 123; refine (Y _).mono ?_; rintro e w' ⟨rfl, rfl⟩)
    go_region
    go_wp2_with (first | (go_at_call 126; refine (K _).mono ?_; rintro e w' ⟨rfl, rfl⟩) | (go_at_call 125; refine (M _).mono ?_; rintro e w' ⟨rfl, rfl⟩) | (go_at_call 130; refine (sgn_any _ _).mono ?_; rintro e w' ⟨rfl, rfl⟩))
    go_region
    go_wp2
    refine bodyPost_ret (v := tell r h oc ov) (by simp [results, Tryz.results80, go_sem, tell, fl]) rfl ⟨rfl, (by with_reducible repeat' (first | exact G.refl _ | apply G.drew | apply G.drewN | apply G.alloc | apply G.gr))⟩

set_option maxHeartbeats 1000000 in
theorem do_sub (u : Bool) (b n h : Int) (N Z C V : Bool) (w : World) (b0 : 0 ≤ b) (b1 : b < 4294967296) (n0 : 0 ≤ n) (n1 : n < 4294967296) :
    Calls Tryz.prog 80 #[.int .i64 9, .bool u, .int .u32 b, .int .u32 n, .int .u32 h, fl N Z C V] w fun e w' => e = .returned (tell ((b - n - cI u C) % 4294967296) h (subC b n (cI u C)) (subV b n (cI u C))) ∧ G w w' := by
  have K := carry_any u N Z C V
  unfold fl at K ⊢
  obtain ⟨c0, c1⟩ := cI_bd u C
  obtain ⟨c, hc⟩ : ∃ c, cI u C = c := ⟨_, rfl⟩
  rw [hc] at c0 c1 K ⊢
  have M : ∀ w : World, Calls Tryz.prog 125 #[.int .i64 9, .int .u32 b, .int .u32 n, .int .i64 c] w fun e w' => e = .returned (.tuple #[.int .u32 ((b - n - c) % 4294967296), .bool (subC b n c), .bool (subV b n c)]) ∧ w' = w := fun w => sum_sub b n c w b0 b1 n0 n1 c0 c1
  obtain ⟨r, hr⟩ : ∃ r, (b - n - c) % 4294967296 = r := ⟨_, rfl⟩
  rw [hr] at M ⊢
  generalize subC b n c = oc at M ⊢
  generalize subV b n c = ov at M ⊢
  have Y : ∀ w : World, Calls Tryz.prog 123 #[.int .i64 9] w fun e w' => e = .returned (.bool true) ∧ w' = w := fun w => mayU_any 9 w
  clear hr hc b0 b1 n0 n1 c0 c1
  cases u
  · go_enter Tryz.func80, Tryz.ntmps80
    go_wp2_with fail
    go_region
    go_wp2_with (first | (go_at_call 126; refine (K _).mono ?_; rintro e w' ⟨rfl, rfl⟩) | (go_at_call 125; refine (M _).mono ?_; rintro e w' ⟨rfl, rfl⟩) | (go_at_call 130; refine (sgn_any _ _).mono ?_; rintro e w' ⟨rfl, rfl⟩))
    go_region
    go_wp2
    refine bodyPost_ret (v := tell r h oc ov) (by simp [results, Tryz.results80, go_sem, tell, fl]) rfl ⟨rfl, (by with_reducible repeat' (first | exact G.refl _ | apply G.drew | apply G.drewN | apply G.alloc | apply G.gr))⟩
  · go_enter Tryz.func80, Tryz.ntmps80
    go_wp2_with (go_at_call 123; refine (Y _).mono ?_; rintro e w' ⟨rfl, rfl⟩)
    go_region
    go_wp2_with (first | (go_at_call 126; refine (K _).mono ?_; rintro e w' ⟨rfl, rfl⟩) | (go_at_call 125; refine (M _).mono ?_; rintro e w' ⟨rfl, rfl⟩) | (go_at_call 130; refine (sgn_any _ _).mono ?_; rintro e w' ⟨rfl, rfl⟩))
    go_region
    go_wp2
    refine bodyPost_ret (v := tell r h oc ov) (by simp [results, Tryz.results80, go_sem, tell, fl]) rfl ⟨rfl, (by with_reducible repeat' (first | exact G.refl _ | apply G.drew | apply G.drewN | apply G.alloc | apply G.gr))⟩

set_option maxHeartbeats 1000000 in
theorem do_mul (u : Bool) (b n h : Int) (N Z C V : Bool) (w : World) (b0 : 0 ≤ b) (b1 : b < 4294967296) (n0 : 0 ≤ n) (n1 : n < 4294967296) :
    Calls Tryz.prog 80 #[.int .i64 10, .bool u, .int .u32 b, .int .u32 n, .int .u32 h, fl N Z C V] w fun e w' => e = .returned (tell (mulP u b n % 4294967296) (mulP u b n / 4294967296 % 4294967296) C V) ∧ G w w' := by
  unfold fl
  have M : ∀ w : World, Calls Tryz.prog 127 #[.bool u, .int .u32 b, .int .u32 n] w fun e w' => e = .returned (.tuple #[.int .u32 (mulP u b n % 4294967296), .int .u32 (mulP u b n / 4294967296 % 4294967296)]) ∧ w' = w := fun w => prod_any u b n w b0 b1 n0 n1
  generalize mulP u b n % 4294967296 = r at M ⊢
  generalize mulP u b n / 4294967296 % 4294967296 = g at M ⊢
  have Y : ∀ w : World, Calls Tryz.prog 123 #[.int .i64 10] w fun e w' => e = .returned (.bool true) ∧ w' = w := fun w => mayU_any 10 w
  clear b0 b1 n0 n1
  cases u
  · go_enter Tryz.func80, Tryz.ntmps80
    go_wp2_with fail
    go_region
    go_wp2_with (first | (go_at_call 127; refine (M _).mono ?_; rintro e w' ⟨rfl, rfl⟩) | (go_at_call 130; refine (sgn_any _ _).mono ?_; rintro e w' ⟨rfl, rfl⟩))
    go_region
    go_wp2
    refine bodyPost_ret (v := tell r g C V) (by simp [results, Tryz.results80, go_sem, tell, fl]) rfl ⟨rfl, (by with_reducible repeat' (first | exact G.refl _ | apply G.drew | apply G.drewN | apply G.alloc | apply G.gr))⟩
  · go_enter Tryz.func80, Tryz.ntmps80
    go_wp2_with (go_at_call 123; refine (Y _).mono ?_; rintro e w' ⟨rfl, rfl⟩)
    go_region
    go_wp2_with (first | (go_at_call 127; refine (M _).mono ?_; rintro e w' ⟨rfl, rfl⟩) | (go_at_call 130; refine (sgn_any _ _).mono ?_; rintro e w' ⟨rfl, rfl⟩))
    go_region
    go_wp2
    refine bodyPost_ret (v := tell r g C V) (by simp [results, Tryz.results80, go_sem, tell, fl]) rfl ⟨rfl, (by with_reducible repeat' (first | exact G.refl _ | apply G.drew | apply G.drewN | apply G.alloc | apply G.gr))⟩

set_option maxHeartbeats 1000000 in
theorem do_div (b n h : Int) (N Z C V : Bool) (w : World) :
    Calls Tryz.prog 80 #[.int .i64 11, .bool false, .int .u32 b, .int .u32 n, .int .u32 h, fl N Z C V] w fun e w' => e = .returned (tell (divQ b n) (divR b n) C V) ∧ G w w' := by
  unfold fl
  by_cases hm : wrap32 n ≤ 0
  · have M := fun w => quot_no b n w hm
    generalize divQ b n = r at M ⊢
    generalize divR b n = g at M ⊢
    clear hm
    go_enter Tryz.func80, Tryz.ntmps80
    go_wp2_with fail
    go_region
    go_wp2_with (first | (go_at_call 128; refine (M _).mono ?_; rintro e w' ⟨rfl, rfl⟩) | (go_at_call 130; refine (sgn_any _ _).mono ?_; rintro e w' ⟨rfl, rfl⟩))
    go_region
    go_wp2
    refine bodyPost_ret (v := tell r g C V) (by simp [results, Tryz.results80, go_sem, tell, fl]) rfl ⟨rfl, (by with_reducible repeat' (first | exact G.refl _ | apply G.drew | apply G.drewN | apply G.alloc | apply G.gr))⟩
  · have M := fun w => quot_yes b n w (by omega)
    generalize divQ b n = r at M ⊢
    generalize divR b n = g at M ⊢
    clear hm
    go_enter Tryz.func80, Tryz.ntmps80
    go_wp2_with fail
    go_region
    go_wp2_with (first | (go_at_call 128; refine (M _).mono ?_; rintro e w' ⟨rfl, rfl⟩) | (go_at_call 130; refine (sgn_any _ _).mono ?_; rintro e w' ⟨rfl, rfl⟩))
    go_region
    go_wp2
    refine bodyPost_ret (v := tell r g C V) (by simp [results, Tryz.results80, go_sem, tell, fl]) rfl ⟨rfl, (by with_reducible repeat' (first | exact G.refl _ | apply G.drew | apply G.drewN | apply G.alloc | apply G.gr))⟩

set_option maxHeartbeats 1000000 in
theorem do_bit (op b n h : Int) (N Z C V : Bool) (w : World) (b0 : 0 ≤ b) (b1 : b < 4294967296) (n0 : 0 ≤ n) (n1 : n < 4294967296) (o1 : 1 ≤ op) (o7 : op ≤ 7) :
    Calls Tryz.prog 80 #[.int .i64 op, .bool false, .int .u32 b, .int .u32 n, .int .u32 h, fl N Z C V] w fun e w' => e = .returned (tell (bitI op b n) h C V) ∧ G w w' := by
  unfold fl
  have M := fun w => bitwise_any op b n w b0 b1 n0 n1
  generalize bitI op b n = r at M ⊢
  clear b0 b1 n0 n1
  go_enter Tryz.func80, Tryz.ntmps80
  go_wp2_with fail
  go_region
  go_wp2_with (first | (go_at_call 129; refine (M _).mono ?_; rintro e w' ⟨rfl, rfl⟩) | (go_at_call 130; refine (sgn_any _ _).mono ?_; rintro e w' ⟨rfl, rfl⟩))
  go_region
  go_wp2
  refine bodyPost_ret (v := tell r h C V) (by simp [results, Tryz.results80, go_sem, tell, fl]) rfl ⟨rfl, (by with_reducible repeat' (first | exact G.refl _ | apply G.drew | apply G.drewN | apply G.alloc | apply G.gr))⟩

set_option maxHeartbeats 1000000 in
theorem do_low (op : Int) (u : Bool) (b n h : Int) (N Z C V : Bool) (w : World) (o0 : op < 0) :
    Calls Tryz.prog 80 #[.int .i64 op, .bool u, .int .u32 b, .int .u32 n, .int .u32 h, fl N Z C V] w fun e w' => e = .returned none4 ∧ G w w' := by
  unfold fl
  go_enter Tryz.func80, Tryz.ntmps80
  go_wp2
  refine bodyPost_ret (v := none4) (by simp [results, Tryz.results80, go_sem, none4, fl]) rfl ⟨rfl, (by with_reducible repeat' (first | exact G.refl _ | apply G.drew | apply G.drewN | apply G.alloc | apply G.gr))⟩
set_option maxHeartbeats 1000000 in
theorem do_high (op : Int) (u : Bool) (b n h : Int) (N Z C V : Bool) (w : World) (o0 : 11 < op) :
    Calls Tryz.prog 80 #[.int .i64 op, .bool u, .int .u32 b, .int .u32 n, .int .u32 h, fl N Z C V] w fun e w' => e = .returned none4 ∧ G w w' := by
  unfold fl
  go_enter Tryz.func80, Tryz.ntmps80
  go_wp2
  refine bodyPost_ret (v := none4) (by simp [results, Tryz.results80, go_sem, none4, fl]) rfl ⟨rfl, (by with_reducible repeat' (first | exact G.refl _ | apply G.drew | apply G.drewN | apply G.alloc | apply G.gr))⟩
set_option maxHeartbeats 1000000 in
theorem do_not (op : Int) (b n h : Int) (N Z C V : Bool) (w : World) (o0 : 0 ≤ op) (o1 : op ≤ 11) (m : mayB op = false) :
    Calls Tryz.prog 80 #[.int .i64 op, .bool true, .int .u32 b, .int .u32 n, .int .u32 h, fl N Z C V] w fun e w' => e = .returned none4 ∧ G w w' := by
  unfold fl
  have Y := mayU_any op
  rw [m] at Y
  clear m
  go_enter Tryz.func80, Tryz.ntmps80
  go_wp2_with (go_at_call 123; refine (Y _).mono ?_; rintro e w' ⟨rfl, rfl⟩)
  refine bodyPost_ret (v := none4) (by simp [results, Tryz.results80, go_sem, none4, fl]) rfl ⟨rfl, (by with_reducible repeat' (first | exact G.refl _ | apply G.drew | apply G.drewN | apply G.alloc | apply G.gr))⟩

/- All of it as one. -/
def okB (op : Int) (u : Bool) : Bool := decide (0 ≤ op ∧ op ≤ 11) && (!u || mayB op)
def rI (op : Int) (u : Bool) (b n h : Int) (C : Bool) : Int :=
  if op = 0 then (if u = true then h else n) else if op = 8 then (b + n + cI u C) % 4294967296 else if op = 9 then (b - n - cI u C) % 4294967296
  else if op = 10 then mulP u b n % 4294967296 else if op = 11 then divQ b n else bitI op b n
def hI (op : Int) (u : Bool) (b n h : Int) : Int := if op = 10 then mulP u b n / 4294967296 % 4294967296 else if op = 11 then divR b n else h
def cB (op : Int) (u : Bool) (b n : Int) (C : Bool) : Bool := if op = 8 then addC b n (cI u C) else if op = 9 then subC b n (cI u C) else C
def vB (op : Int) (u : Bool) (b n : Int) (C V : Bool) : Bool := if op = 8 then addV b n (cI u C) else if op = 9 then subV b n (cI u C) else V
def doV (op : Int) (u : Bool) (b n h : Int) (C V : Bool) : Value :=
  if okB op u = true then tell (rI op u b n h C) (hI op u b n h) (cB op u b n C) (vB op u b n C V) else none4

theorem do_any (op : Int) (u : Bool) (b n h : Int) (N Z C V : Bool) (w : World) (b0 : 0 ≤ b) (b1 : b < 4294967296) (n0 : 0 ≤ n) (n1 : n < 4294967296) :
    Calls Tryz.prog 80 #[.int .i64 op, .bool u, .int .u32 b, .int .u32 n, .int .u32 h, fl N Z C V] w fun e w' => e = .returned (doV op u b n h C V) ∧ ∃ p : By, w' = gr w p := by
  by_cases l : op < 0
  · have e : doV op u b n h C V = none4 := by unfold doV; rw [if_neg]; simp [okB]; omega
    rw [e]; exact do_low op u b n h N Z C V w l
  by_cases t : 11 < op
  · have e : doV op u b n h C V = none4 := by unfold doV; rw [if_neg]; simp [okB]; omega
    rw [e]; exact do_high op u b n h N Z C V w t
  by_cases m : u = true ∧ mayB op = false
  · obtain ⟨rfl, m⟩ := m
    have e : doV op true b n h C V = none4 := by unfold doV; rw [if_neg]; simp [okB, m]
    rw [e]; exact do_not op b n h N Z C V w (by omega) (by omega) m
  have o : okB op u = true := by
    have d : decide (0 ≤ op ∧ op ≤ 11) = true := by simp; omega
    unfold okB; rw [d]
    cases u <;> cases hm : mayB op <;> simp_all
  unfold doV
  rw [if_pos o]
  by_cases h0 : op = 0
  · subst h0; exact do_mov u b n h N Z C V w
  by_cases h8 : op = 8
  · subst h8; exact do_add u b n h N Z C V w b0 b1 n0 n1
  by_cases h9 : op = 9
  · subst h9; exact do_sub u b n h N Z C V w b0 b1 n0 n1
  by_cases h10 : op = 10
  · subst h10; exact do_mul u b n h N Z C V w b0 b1 n0 n1
  have hu : u = false := by
    cases u
    · rfl
    · exfalso; apply m; refine ⟨rfl, ?_⟩; simp [mayB, h0, h8, h9, h10]
  subst hu
  by_cases h11 : op = 11
  · subst h11; exact do_div b n h N Z C V w
  have e1 : rI op false b n h C = bitI op b n := by simp [rI, h0, h8, h9, h10, h11]
  have e2 : hI op false b n h = h := by simp [hI, h10, h11]
  have e3 : cB op false b n C = C := by simp [cB, h8, h9]
  have e4 : vB op false b n C V = V := by simp [vB, h8, h9]
  rw [e1, e2, e3, e4]
  exact do_bit op b n h N Z C V w b0 b1 n0 n1 (by omega) (by omega)
end Go.Proofs.YtfdofleohichiaaGreatDoor.Alu
