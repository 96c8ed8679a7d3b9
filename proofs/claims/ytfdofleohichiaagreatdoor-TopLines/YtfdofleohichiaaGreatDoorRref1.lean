/-
  The document's own layer 2 (package spinetref02): which values are instructions.
-/
import Derived.Test.YtfdofleohichiaaGreatDoorRdefs
import Derived.Test.YtfdofleohichiaaGreatDoorRef
import Derived.Deep.Cut
namespace Go.Proofs.YtfdofleohichiaaGreatDoor.Risc
open Go.RowKit Go.Proofs.YtfdofleohichiaaGreatDoor.Bits Go.Proofs.YtfdofleohichiaaGreatDoor.Gw

theorem in_any (n a b : Int) (w : World) :
    Calls Tryz.prog 86 #[.int .i64 n, .int .i64 a, .int .i64 b] w fun e w' => e = .returned (.bool (inB n a b)) ∧ w' = w := by
  by_cases h1 : a ≤ n
  · have E : Hid (decide (n ≤ b) = inB n a b) := by show decide (n ≤ b) = inB n a b; simp [inB, h1]
    go_enter Tryz.func86, Tryz.ntmps86
    go_wp2
    go_ret
    exact ⟨ret_bool E.out, rfl⟩
  · have E : Hid (false = inB n a b) := by show false = inB n a b; simp [inB, h1]
    go_enter Tryz.func86, Tryz.ntmps86
    go_wp2
    go_ret
    exact ⟨ret_bool E.out, rfl⟩
theorem bit_any (b : Bool) (w : World) :
    Calls Tryz.prog 51 #[.bool b] w fun e w' => e = .returned (.int .u32 (bI b)) ∧ w' = w := by
  cases b
  · go_enter Tryz.func51, Tryz.ntmps51
    go_wp2
    go_ret
    exact ⟨rfl, rfl⟩
  · go_enter Tryz.func51, Tryz.ntmps51
    go_wp2
    go_ret
    exact ⟨rfl, rfl⟩
set_option maxHeartbeats 2000000 in
set_option maxRecDepth 100000 in
theorem rgood_any (f : Int) (u v : Bool) (a b c op im : Int) (w : World) :
    Calls Tryz.prog 49 #[ins f u v a b c op im] w fun e w' => e = .returned (.bool (goodR f u v a b c op im)) ∧ w' = w.alloc (.cells #[.int .i64 f, .bool u, .bool v, .int .i64 a, .int .i64 b, .int .i64 c, .int .i64 op, .int .i64 im] 72) := by
  have K := rfl (a := goodR f u v a b c op im)
  unfold goodR at K
  revert K
  generalize hq1 : inB a 0 15 = q1
  generalize hq2 : inB b 0 15 = q2
  generalize hq3 : inB c 0 15 = q3
  generalize hq4 : inB op 0 11 = q4
  intro K
  cases q1
  · have E : Hid (false = goodR f u v a b c op im) := by show false = goodR f u v a b c op im; simp [goodR, hq1]
    clear K hq2 hq3 hq4
    go_enter Tryz.func49, Tryz.ntmps49
    go_wp2_with (go_at_call 86; refine (in_any _ _ _ _).mono ?_; rintro e w' ⟨rfl, rfl⟩)
    go_ret
    exact ⟨ret_bool E.out, rfl⟩
  cases q2
  · have E : Hid (false = goodR f u v a b c op im) := by show false = goodR f u v a b c op im; simp [goodR, hq2]
    clear K hq3 hq4
    go_enter Tryz.func49, Tryz.ntmps49
    go_wp2_with (go_at_call 86; refine (in_any _ _ _ _).mono ?_; rintro e w' ⟨rfl, rfl⟩)
    go_ret
    exact ⟨ret_bool E.out, rfl⟩
  cases q3
  · have E : Hid (false = goodR f u v a b c op im) := by show false = goodR f u v a b c op im; simp [goodR, hq3]
    clear K hq4
    go_enter Tryz.func49, Tryz.ntmps49
    go_wp2_with (go_at_call 86; refine (in_any _ _ _ _).mono ?_; rintro e w' ⟨rfl, rfl⟩)
    go_ret
    exact ⟨ret_bool E.out, rfl⟩
  cases q4
  · have E : Hid (false = goodR f u v a b c op im) := by show false = goodR f u v a b c op im; simp [goodR, hq4]
    clear K
    go_enter Tryz.func49, Tryz.ntmps49
    go_wp2_with (go_at_call 86; refine (in_any _ _ _ _).mono ?_; rintro e w' ⟨rfl, rfl⟩)
    go_ret
    exact ⟨ret_bool E.out, rfl⟩
  have E : Hid (goodR f u v a b c op im = (if f = 0 then uokB u op && (!v || (decide (op = 0) && u)) && decide (im = 0)
     else if f = 1 then uokB u op && decide (c = 0) && inB im 0 65535
     else if f = 2 then decide (c = 0) && decide (op = 0) && fitsB im 20
     else if f = 3 then decide (b = 0) && decide (op = 0) && (if u = true then decide (c = 0) && fitsB im 24 else decide (im = 0))
     else false)) := by
    show goodR f u v a b c op im = _
    unfold goodR; rw [hq1, hq2, hq3, hq4]; rfl
  clear K
  go_enter Tryz.func49, Tryz.ntmps49
  go_upto_region 3 with (go_at_call 86; refine (in_any _ _ _ _).mono ?_; rintro e w' ⟨rfl, rfl⟩)
  go_cut [3] from 4 (fun s3 wc => s3 = .bool (uokB u op) ∧ wc = w.alloc (.cells #[.int .i64 f, .bool u, .bool v, .int .i64 a, .int .i64 b, .int .i64 c, .int .i64 op, .int .i64 im] 72))
  case first =>
    clear hq1 hq2 hq3 hq4 E
    cases u
    · go_wp2
      go_meet
      exact ⟨rfl, rfl⟩
    · cases e0 : (op == 0)
      · cases e8 : (op == 8)
        · cases e9 : (op == 9)
          · skip
            go_wp2
            go_meet
            exact ⟨by simp at e0 e8 e9; simp [uokB, e0, e8, e9]; rfl, rfl⟩
          · skip
            go_wp2
            go_meet
            exact ⟨by simp at e9; simp [uokB, e9], rfl⟩
        · skip
          go_wp2
          go_meet
          exact ⟨by simp at e8; simp [uokB, e8], rfl⟩
      · skip
        go_wp2
        go_meet
        exact ⟨by simp at e0; simp [uokB, e0], rfl⟩
  case rest =>
    obtain ⟨rfl, rfl⟩ := hcut
    clear hq1 hq2 hq3 hq4
    revert E
    generalize uokB u op = k
    intro E
    by_cases h0 : f = 0
    · have E' := E.out
      rw [if_pos h0] at E'
      have EE : Hid _ := E'
      clear E E'
      subst h0
      go_wp2_with fail
      all_goals go_ret
      all_goals exact ⟨ret_bool (by rw [EE.out, Bool.eq_iff_iff]; simp [*]), by simp [*]⟩
    by_cases h1 : f = 1
    · have E' := E.out
      rw [if_neg h0, if_pos h1] at E'
      have EE : Hid _ := E'
      clear E E'
      subst h1
      clear h0
      go_wp2_with (go_at_call 86; refine (in_any _ _ _ _).mono ?_; rintro e w' ⟨rfl, rfl⟩)
      all_goals go_ret
      all_goals exact ⟨ret_bool (by rw [EE.out, Bool.eq_iff_iff]; simp [*]), by simp [*]⟩
    by_cases h2 : f = 2
    · have E' := E.out
      rw [if_neg h0, if_neg h1, if_pos h2] at E'
      have EE : Hid _ := E'
      clear E E'
      subst h2
      clear h0 h1
      go_wp2_with (go_at_call 87; refine (rfits_any _ _ _).mono ?_; rintro e w' ⟨rfl, rfl⟩)
      all_goals go_ret
      all_goals exact ⟨ret_bool (by rw [EE.out, Bool.eq_iff_iff]; simp [*]), by simp [*]⟩
    by_cases h3 : f = 3
    · have E' := E.out
      rw [if_neg h0, if_neg h1, if_neg h2, if_pos h3] at E'
      have EE : Hid _ := E'
      clear E E'
      subst h3
      clear h0 h1 h2
      go_wp2_with (go_at_call 87; refine (rfits_any _ _ _).mono ?_; rintro e w' ⟨rfl, rfl⟩)
      all_goals go_ret
      all_goals exact ⟨ret_bool (by rw [EE.out, Bool.eq_iff_iff]; simp [*]), by simp [*]⟩
    have E' := E.out
    rw [if_neg h0, if_neg h1, if_neg h2, if_neg h3] at E'
    have EE : Hid _ := E'
    clear E E'
    have e0 : (f == 0) = false := by simp [h0]
    have e1 : (f == 1) = false := by simp [h1]
    have e2 : (f == 2) = false := by simp [h2]
    have e3 : (f == 3) = false := by simp [h3]
    go_wp2
    go_ret
    exact ⟨ret_bool EE.out.symm, rfl⟩
end Go.Proofs.YtfdofleohichiaaGreatDoor.Risc
