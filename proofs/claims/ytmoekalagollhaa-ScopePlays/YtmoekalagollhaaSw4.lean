/-
  Scope's laws: ScopeFull, walked.
-/
import Derived.Test.YtmoekalagollhaaSw3
namespace Go.Proofs.Ytmoekalagollhaa.So
open Go.RowKit hiding Hid
open Go.Proofs.Ytmoekalagollhaa.Tx Go.Proofs.Ytmoekalagollhaa.Lx Go.Proofs.Ytmoekalagollhaa.Tr Go.Proofs.Ytmoekalagollhaa.Ty
set_option linter.unusedVariables false
set_option linter.unusedSimpArgs false
set_option maxRecDepth 100000

def fsL : Lv1 := [([102, 105, 114, 115, 116], -1)]
theorem fs_dec : decE [] [102, 105, 114, 115, 116] = 0 ∧ decL [] [102, 105, 114, 115, 116] (-1) = fsL := ⟨by decide, by unfold decL; rw [show decE [] [102, 105, 114, 115, 116] = 0 by decide]; rfl⟩
theorem fs_gd : GdL fsL := by have := decL_gd gd_nil [102, 105, 114, 115, 116] (-1); rw [fs_dec.2] at this; exact this
theorem fs_len : ∀ p ∈ fsL, p.1.length ≠ 4 := by intro p hp; rw [fsL, List.mem_singleton] at hp; subst hp; decide
theorem fnd_app (a b : Lv1) (s : Nm) : fnd (a ++ b) s = match fnd a s with
    | some v => some v
    | none => fnd b s := by
  induction a with
  | nil => rfl
  | cons p a ih =>
    rw [List.cons_append, fnd, fnd]
    by_cases e : p.1 = s
    · rw [if_pos e, if_pos e]
    · rw [if_neg e, if_neg e, ih]
theorem mdL_fst (i : Nat) : fnd (mdL fsL i) [102, 105, 114, 115, 116] = some (-1) := by
  induction i with
  | zero => rfl
  | succ i ih =>
    rw [mdL]
    split
    · rw [fnd_app, ih]
    · exact ih
theorem mdL_not (i : Nat) : fnd (mdL [] i) [102, 105, 114, 115, 116] = none := fnd_none.2 (fun p hp e => by
  rcases mdL_mem hp with h | ⟨j, _, h2⟩
  · cases h
  · have := congrArg List.length (h2.symm.trans e)
    rw [mdN_len] at this
    cases this)
/- What the loop begins with: without another level, with one. -/
def fB : Bool → Lv1
  | false => fsL
  | true => []
def fR : Bool → Sx
  | false => []
  | true => [fsL]
theorem fB_gd (o : Bool) : GdL (fB o) := by cases o; exact fs_gd; exact gd_nil
theorem fB_ne (o : Bool) : ∀ p ∈ fB o, p.1.length ≠ 4 := by cases o; exact fs_len; intro p hp; cases hp
theorem fB_le (o : Bool) : (fB o).length ≤ 1 := by cases o <;> decide
theorem fR_gd (o : Bool) : Gd (fR o) := by cases o; (intro l hl; cases hl); (intro l hl; rw [fR, List.mem_singleton] at hl; subst hl; exact fs_gd)
theorem fR_le (o : Bool) : (fR o).length ≤ 1 := by cases o <;> decide
theorem f_fnd (o : Bool) (i : Nat) : fndS (mdL (fB o) i :: fR o) [102, 105, 114, 115, 116] = some (-1, 0) := by
  cases o
  · rw [fndS, show fB false = fsL from rfl, mdL_fst]; rfl
  · rw [fndS, show fB true = [] from rfl, mdL_not]; rfl
set_option maxHeartbeats 16000000 in
theorem full_walk (w : World) (a : Int) (ha : (Lit.int .u16 a).wf = true) (op : Bool) : Calls Try.prog 11 #[.int .u16 a, .bool op] w (okW w) := by
  have hb : 0 ≤ a ∧ a ≤ 65535 := by simpa [Lit.wf, IntKind.min, IntKind.max, IntKind.signed, IntKind.bits] using ha
  obtain ⟨n, rfl⟩ := Int.eq_ofNat_of_zero_le hb.1
  obtain ⟨k, hk⟩ : ∃ k, n % 300 = k := ⟨_, rfl⟩
  have hk1 : (n : Int).tmod 300 = (k : Int) := by rw [← hk]; simp [Int.tmod_eq_emod]
  have hk2 : k < 300 := by omega
  have n1 : (n : Int) ≤ 65535 := hb.2
  have n0 : (0 : Int) ≤ n := by omega
  have k1 : (k : Int) < 300 := by omega
  have k0 : (0 : Int) ≤ k := by omega
  have HC := hide (Cf.of (Cx.start w (fun _ => False)))
  have HM0 := hide (fun W => show Calls Try.prog 33 #[.int .i64 0] W fun e w' => e = .returned (.string (bs (mdN 0))) ∧ W.grownBy w' none from made_at 0 (by decide) W)
  clear ha hb hk
  have M1 : Hid True := hide trivial
  have fin : ∀ (o : Bool) (i : Nat), i < 300 → (∃ B, (fB o).length = B ∧ B ≤ 1) := fun o i _ => ⟨_, rfl, fB_le o⟩
  clear fin
  have rnd : ∀ (o : Bool) (i : Nat), i < 300 → Gd (mdL (fB o) i :: fR o) ∧ (fR o).length < 64 ∧ (mdL (fB o) i :: fR o).length ≤ 64 ∧ (mdL (fB o) i).length ≤ 256 ∧ (mdL (fB o) i).length = min 256 ((fB o).length + i) := fun o i hi => by
    have h1 := mdL_gd (fB_gd o) (fB_ne o) (i := i) (by omega)
    have h2 := fR_le o
    refine ⟨gd_cons.2 ⟨h1, fR_gd o⟩, by omega, by simp; omega, h1.le, mdL_len (fB_gd o).le i⟩
  have RND := hide rnd
  clear rnd
  cases op
  · have HB := hide (fB_le false)
    have HBl := hide (show (fB false).length = 1 from rfl)
    go_enter Try.func11, Try.ntmps11
    go_wp2_with (first | (go_at_call 25; refine (new_at HC.out).mono ?_; rintro e w1 ⟨b, mb, rfl, h⟩; have HP := hide h; clear h; clear HC) | (go_at_call 31; clear M1; refine (declare_at HP.out gd0 (by decide) [102, 105, 114, 115, 116] (by decide) (-1)).mono ?_; rw [fs_dec.1, fs_dec.2]; rintro e w2 ⟨rfl, h⟩; replace HP := hide h; clear h))
    have HP1 := hide (show PS w b mb (mdL (fB false) 0 :: fR false) [] [] [] _ from HP.out)
    clear HP
    (go_loopw [7, 8] (fun hv iv W => ∃ i : Nat, i ≤ k ∧ hv = .int .i64 ((min 256 ((fB false).length + i) : Nat) : Int) ∧ iv = .int .i64 i ∧ Hid (PS w b mb (mdL (fB false) i :: fR false) [] [] [] W)) (fun hv iv _ => k - (intOf iv).toNat))
    case atStart => exact ⟨0, Nat.zero_le _, rfl, rfl, HP1⟩
    case round =>
      clear HP1
      obtain ⟨i, hi, rfl, rfl, HP⟩ := hrel
      by_cases hlt : i < k
      · have q1 : (i : Int) < k := by omega
        have HI3 := hide (show i < 300 by omega)
        obtain ⟨h1, h2, h3, h4, h5⟩ := RND.out false i HI3.out
        have HGd := hide h1
        have HLd := hide h2
        have HLs := hide (show (mdN i).length ≤ 5000 by rw [mdN_len]; decide)
        have hde := mdL_dec (fB_gd false).le (fB_ne false) HI3.out
        clear h1 h2 h3 h4 h5
        by_cases h6 : (fB false).length + i < 256
        · rw [if_pos h6] at hde
          have HDe := hide hde
          obtain ⟨m, hm⟩ : ∃ m, min 256 ((fB false).length + i) = m := ⟨_, rfl⟩
          rw [hm]
          have q3 : (m : Int) < 256 := by omega
          have HMm := hide (show m + 1 = min 256 ((fB false).length + (i + 1)) by omega)
          clear hde h6 hm
          go_wp2_with (first | (go_at_call 33; refine (made_at i HI3.out _).mono ?_; rintro e w4 ⟨rfl, hg⟩; replace HP := hide (HP.out.grow hg); clear hg) | (go_at_call 31; refine (declare_at HP.out HGd.out HLd.out (mdN i) HLs.out (i : Int)).mono ?_; rw [HDe.out.1, HDe.out.2]; rintro e w2 ⟨rfl, h⟩; replace HP := hide h; clear h))
          exact ⟨⟨i + 1, by omega, by rw [← HMm.out]; go_num, by go_num, HP⟩, by simp [intOf]; omega⟩
        · rw [if_neg h6] at hde
          have HDe := hide hde
          obtain ⟨m, hm⟩ : ∃ m, min 256 ((fB false).length + i) = m := ⟨_, rfl⟩
          rw [hm]
          have q3 : ¬ (m : Int) < 256 := by omega
          have HMm := hide (show m = min 256 ((fB false).length + (i + 1)) by omega)
          clear hde h6 hm
          go_wp2_with (first | (go_at_call 33; refine (made_at i HI3.out _).mono ?_; rintro e w4 ⟨rfl, hg⟩; replace HP := hide (HP.out.grow hg); clear hg) | (go_at_call 31; refine (declare_at HP.out HGd.out HLd.out (mdN i) HLs.out (i : Int)).mono ?_; rw [HDe.out.1, HDe.out.2]; rintro e w2 ⟨rfl, h⟩; replace HP := hide h; clear h))
          exact ⟨⟨i + 1, by omega, by rw [← HMm.out], by go_num, HP⟩, by simp [intOf]; omega⟩
      · obtain rfl : i = k := by omega
        obtain ⟨h1, h2, h3, h4, h5⟩ := RND.out false i hk2
        have HGd := hide h1
        have HLd := hide h2
        have HLm := hide h3
        have HLh := hide h4
        obtain ⟨m, hm⟩ : ∃ m, min 256 ((fB false).length + i) = m := ⟨_, rfl⟩
        rw [hm] at h5 ⊢
        have HHl := hide h5
        have HLs := hide (show (mdN 0).length ≤ 5000 by rw [mdN_len]; decide)
        by_cases h7 : i = 0
        · have q5 : ((i : Int) == 0) = true := by simpa using h7
          clear h1 h2 h3 h4 h5 hm h7
          go_wp2_with (first | (go_at_call 34; refine (find_at HP.out HGd.out HLm.out [102, 105, 114, 115, 116] (by decide)).mono ?_; rw [f_fnd]; rintro e w' ⟨rfl, hw⟩; replace hw := hw.symm; subst hw; unfold fndV) | (go_at_call 39; refine (here_at HP.out HLh.out HLd.out).mono ?_; rintro e w5 ⟨d9, c9, rfl, h⟩; rw [HHl.out] at h ⊢; replace HP := hide h; clear h) | (go_at_call 33; refine (HM0.out _).mono ?_; rintro e w4 ⟨rfl, hg⟩; replace HP := hide (HP.out.grow hg); clear hg) | (go_at_call 31; refine (declare_at HP.out HGd.out HLd.out (mdN 0) HLs.out 5).mono ?_; rw [HDt.out]; rintro e w2 ⟨rfl, h⟩; replace HP := hide h; clear h) | (go_at_call 41; refine (wakes_at _).mono ?_; rintro e w9 ⟨rfl, hg⟩; have HG9 := hide (gr_then HP.out.grown hg); clear hg))
          go_ret
          exact ⟨rfl, HG9.out⟩
        · have q5 : ((i : Int) == 0) = false := by simpa using h7
          by_cases h8 : m = 256
          · have q6 : ((m : Int) == 256) = true := by simp; omega
            clear h1 h2 h3 h4 h5 hm h7 h8
            go_wp2_with (first | (go_at_call 34; refine (find_at HP.out HGd.out HLm.out [102, 105, 114, 115, 116] (by decide)).mono ?_; rw [f_fnd]; rintro e w' ⟨rfl, hw⟩; replace hw := hw.symm; subst hw; unfold fndV) | (go_at_call 39; refine (here_at HP.out HLh.out HLd.out).mono ?_; rintro e w5 ⟨d9, c9, rfl, h⟩; rw [HHl.out] at h ⊢; replace HP := hide h; clear h) | (go_at_call 33; refine (HM0.out _).mono ?_; rintro e w4 ⟨rfl, hg⟩; replace HP := hide (HP.out.grow hg); clear hg) | (go_at_call 31; refine (declare_at HP.out HGd.out HLd.out (mdN 0) HLs.out 5).mono ?_; rw [HDt.out]; rintro e w2 ⟨rfl, h⟩; replace HP := hide h; clear h) | (go_at_call 41; refine (wakes_at _).mono ?_; rintro e w9 ⟨rfl, hg⟩; have HG9 := hide (gr_then HP.out.grown hg); clear hg))
            go_ret
            exact ⟨rfl, HG9.out⟩
          · have q6 : ((m : Int) == 256) = false := by simp; omega
            have HDt := hide (mdL_twice (l := fB false) (i := i) (by omega) (by have := HB.out; omega) 5 (by omega))
            clear h1 h2 h3 h4 h5 hm h7 h8
            go_wp2_with (first | (go_at_call 34; refine (find_at HP.out HGd.out HLm.out [102, 105, 114, 115, 116] (by decide)).mono ?_; rw [f_fnd]; rintro e w' ⟨rfl, hw⟩; replace hw := hw.symm; subst hw; unfold fndV) | (go_at_call 39; refine (here_at HP.out HLh.out HLd.out).mono ?_; rintro e w5 ⟨d9, c9, rfl, h⟩; rw [HHl.out] at h ⊢; replace HP := hide h; clear h) | (go_at_call 33; refine (HM0.out _).mono ?_; rintro e w4 ⟨rfl, hg⟩; replace HP := hide (HP.out.grow hg); clear hg) | (go_at_call 31; refine (declare_at HP.out HGd.out HLd.out (mdN 0) HLs.out 5).mono ?_; rw [HDt.out]; rintro e w2 ⟨rfl, h⟩; replace HP := hide h; clear h) | (go_at_call 41; refine (wakes_at _).mono ?_; rintro e w9 ⟨rfl, hg⟩; have HG9 := hide (gr_then HP.out.grown hg); clear hg))
            go_ret
            exact ⟨rfl, HG9.out⟩
  · have HB := hide (fB_le true)
    have HBl := hide (show (fB true).length = 0 from rfl)
    go_enter Try.func11, Try.ntmps11
    go_wp2_with (first | (go_at_call 25; refine (new_at HC.out).mono ?_; rintro e w1 ⟨b, mb, rfl, h⟩; have HP := hide h; clear h; clear HC) | (go_at_call 31; clear M1; refine (declare_at HP.out gd0 (by decide) [102, 105, 114, 115, 116] (by decide) (-1)).mono ?_; rw [fs_dec.1, fs_dec.2]; rintro e w2 ⟨rfl, h⟩; replace HP := hide h; clear h) | (go_at_call 27; refine (open_at HP.out (by decide)).mono ?_; rintro e w3 ⟨rfl, h⟩; replace HP := hide (show PS w b mb [[], fsL] [] [] [] w3 from h); clear h))
    have HP1 := hide (show PS w b mb (mdL (fB true) 0 :: fR true) [] [] [] _ from HP.out)
    clear HP
    (go_loopw [7, 8] (fun hv iv W => ∃ i : Nat, i ≤ k ∧ hv = .int .i64 ((min 256 ((fB true).length + i) : Nat) : Int) ∧ iv = .int .i64 i ∧ Hid (PS w b mb (mdL (fB true) i :: fR true) [] [] [] W)) (fun hv iv _ => k - (intOf iv).toNat))
    case atStart => exact ⟨0, Nat.zero_le _, rfl, rfl, HP1⟩
    case round =>
      clear HP1
      obtain ⟨i, hi, rfl, rfl, HP⟩ := hrel
      by_cases hlt : i < k
      · have q1 : (i : Int) < k := by omega
        have HI3 := hide (show i < 300 by omega)
        obtain ⟨h1, h2, h3, h4, h5⟩ := RND.out true i HI3.out
        have HGd := hide h1
        have HLd := hide h2
        have HLs := hide (show (mdN i).length ≤ 5000 by rw [mdN_len]; decide)
        have hde := mdL_dec (fB_gd true).le (fB_ne true) HI3.out
        clear h1 h2 h3 h4 h5
        by_cases h6 : (fB true).length + i < 256
        · rw [if_pos h6] at hde
          have HDe := hide hde
          obtain ⟨m, hm⟩ : ∃ m, min 256 ((fB true).length + i) = m := ⟨_, rfl⟩
          rw [hm]
          have q3 : (m : Int) < 256 := by omega
          have HMm := hide (show m + 1 = min 256 ((fB true).length + (i + 1)) by omega)
          clear hde h6 hm
          go_wp2_with (first | (go_at_call 33; refine (made_at i HI3.out _).mono ?_; rintro e w4 ⟨rfl, hg⟩; replace HP := hide (HP.out.grow hg); clear hg) | (go_at_call 31; refine (declare_at HP.out HGd.out HLd.out (mdN i) HLs.out (i : Int)).mono ?_; rw [HDe.out.1, HDe.out.2]; rintro e w2 ⟨rfl, h⟩; replace HP := hide h; clear h))
          exact ⟨⟨i + 1, by omega, by rw [← HMm.out]; go_num, by go_num, HP⟩, by simp [intOf]; omega⟩
        · rw [if_neg h6] at hde
          have HDe := hide hde
          obtain ⟨m, hm⟩ : ∃ m, min 256 ((fB true).length + i) = m := ⟨_, rfl⟩
          rw [hm]
          have q3 : ¬ (m : Int) < 256 := by omega
          have HMm := hide (show m = min 256 ((fB true).length + (i + 1)) by omega)
          clear hde h6 hm
          go_wp2_with (first | (go_at_call 33; refine (made_at i HI3.out _).mono ?_; rintro e w4 ⟨rfl, hg⟩; replace HP := hide (HP.out.grow hg); clear hg) | (go_at_call 31; refine (declare_at HP.out HGd.out HLd.out (mdN i) HLs.out (i : Int)).mono ?_; rw [HDe.out.1, HDe.out.2]; rintro e w2 ⟨rfl, h⟩; replace HP := hide h; clear h))
          exact ⟨⟨i + 1, by omega, by rw [← HMm.out], by go_num, HP⟩, by simp [intOf]; omega⟩
      · obtain rfl : i = k := by omega
        obtain ⟨h1, h2, h3, h4, h5⟩ := RND.out true i hk2
        have HGd := hide h1
        have HLd := hide h2
        have HLm := hide h3
        have HLh := hide h4
        obtain ⟨m, hm⟩ : ∃ m, min 256 ((fB true).length + i) = m := ⟨_, rfl⟩
        rw [hm] at h5 ⊢
        have HHl := hide h5
        have HLs := hide (show (mdN 0).length ≤ 5000 by rw [mdN_len]; decide)
        by_cases h7 : i = 0
        · have q5 : ((i : Int) == 0) = true := by simpa using h7
          clear h1 h2 h3 h4 h5 hm h7
          go_wp2_with (first | (go_at_call 34; refine (find_at HP.out HGd.out HLm.out [102, 105, 114, 115, 116] (by decide)).mono ?_; rw [f_fnd]; rintro e w' ⟨rfl, hw⟩; replace hw := hw.symm; subst hw; unfold fndV) | (go_at_call 39; refine (here_at HP.out HLh.out HLd.out).mono ?_; rintro e w5 ⟨d9, c9, rfl, h⟩; rw [HHl.out] at h ⊢; replace HP := hide h; clear h) | (go_at_call 33; refine (HM0.out _).mono ?_; rintro e w4 ⟨rfl, hg⟩; replace HP := hide (HP.out.grow hg); clear hg) | (go_at_call 31; refine (declare_at HP.out HGd.out HLd.out (mdN 0) HLs.out 5).mono ?_; rw [HDt.out]; rintro e w2 ⟨rfl, h⟩; replace HP := hide h; clear h) | (go_at_call 41; refine (wakes_at _).mono ?_; rintro e w9 ⟨rfl, hg⟩; have HG9 := hide (gr_then HP.out.grown hg); clear hg))
          go_ret
          exact ⟨rfl, HG9.out⟩
        · have q5 : ((i : Int) == 0) = false := by simpa using h7
          by_cases h8 : m = 256
          · have q6 : ((m : Int) == 256) = true := by simp; omega
            clear h1 h2 h3 h4 h5 hm h7 h8
            go_wp2_with (first | (go_at_call 34; refine (find_at HP.out HGd.out HLm.out [102, 105, 114, 115, 116] (by decide)).mono ?_; rw [f_fnd]; rintro e w' ⟨rfl, hw⟩; replace hw := hw.symm; subst hw; unfold fndV) | (go_at_call 39; refine (here_at HP.out HLh.out HLd.out).mono ?_; rintro e w5 ⟨d9, c9, rfl, h⟩; rw [HHl.out] at h ⊢; replace HP := hide h; clear h) | (go_at_call 33; refine (HM0.out _).mono ?_; rintro e w4 ⟨rfl, hg⟩; replace HP := hide (HP.out.grow hg); clear hg) | (go_at_call 31; refine (declare_at HP.out HGd.out HLd.out (mdN 0) HLs.out 5).mono ?_; rw [HDt.out]; rintro e w2 ⟨rfl, h⟩; replace HP := hide h; clear h) | (go_at_call 41; refine (wakes_at _).mono ?_; rintro e w9 ⟨rfl, hg⟩; have HG9 := hide (gr_then HP.out.grown hg); clear hg))
            go_ret
            exact ⟨rfl, HG9.out⟩
          · have q6 : ((m : Int) == 256) = false := by simp; omega
            have HDt := hide (mdL_twice (l := fB true) (i := i) (by omega) (by have := HB.out; omega) 5 (by omega))
            clear h1 h2 h3 h4 h5 hm h7 h8
            go_wp2_with (first | (go_at_call 34; refine (find_at HP.out HGd.out HLm.out [102, 105, 114, 115, 116] (by decide)).mono ?_; rw [f_fnd]; rintro e w' ⟨rfl, hw⟩; replace hw := hw.symm; subst hw; unfold fndV) | (go_at_call 39; refine (here_at HP.out HLh.out HLd.out).mono ?_; rintro e w5 ⟨d9, c9, rfl, h⟩; rw [HHl.out] at h ⊢; replace HP := hide h; clear h) | (go_at_call 33; refine (HM0.out _).mono ?_; rintro e w4 ⟨rfl, hg⟩; replace HP := hide (HP.out.grow hg); clear hg) | (go_at_call 31; refine (declare_at HP.out HGd.out HLd.out (mdN 0) HLs.out 5).mono ?_; rw [HDt.out]; rintro e w2 ⟨rfl, h⟩; replace HP := hide h; clear h) | (go_at_call 41; refine (wakes_at _).mono ?_; rintro e w9 ⟨rfl, hg⟩; have HG9 := hide (gr_then HP.out.grown hg); clear hg))
            go_ret
            exact ⟨rfl, HG9.out⟩
end Go.Proofs.Ytmoekalagollhaa.So
