/-
  Scope's laws: ScopeNone, ScopeDeep, walked.
-/
import Derived.Test.YtmoekalagollhaaSw2
namespace Go.Proofs.Ytmoekalagollhaa.So
open Go.RowKit hiding Hid
open Go.Proofs.Ytmoekalagollhaa.Tx Go.Proofs.Ytmoekalagollhaa.Lx Go.Proofs.Ytmoekalagollhaa.Tr Go.Proofs.Ytmoekalagollhaa.Ty
set_option linter.unusedVariables false
set_option linter.unusedSimpArgs false
set_option maxRecDepth 100000

def okW (w : World) (e : Ending) (w' : World) : Prop := e = .returned (.bool true) ∧ w.grownBy w' none
set_option maxHeartbeats 4000000 in
theorem none_walk (w : World) (s v : Value) : Calls Try.prog 9 #[s, v] w (okW w) := by
  go_enter Try.func9, Try.ntmps9
  go_wp2_with (first | (go_at_call 34; refine (find_nil _ _).mono ?_; rintro e w' ⟨rfl, hw⟩; replace hw := hw.symm; subst hw; unfold fndV) | (go_at_call 27; refine (open_nil _).mono ?_; rintro e w' ⟨rfl, hw⟩; replace hw := hw.symm; subst hw) | (go_at_call 29; refine (close_nil _).mono ?_; rintro e w' ⟨rfl, hw⟩; replace hw := hw.symm; subst hw) | (go_at_call 31; refine (declare_nil _ _ _).mono ?_; rintro e w' ⟨rfl, hw⟩; replace hw := hw.symm; subst hw) | (go_at_call 39; refine (here_nil _).mono ?_; rintro e w' ⟨rfl, hw⟩; replace hw := hw.symm; subst hw) | (go_at_call 36; refine (depth_nil _).mono ?_; rintro e w' ⟨rfl, hw⟩; replace hw := hw.symm; subst hw) | (go_at_call 41; refine (wakes_at _).mono ?_; rintro e w9 ⟨rfl, hg⟩; have HG9 := hide (gr_then (gr_ref w none) hg); clear hg))
  go_ret
  exact ⟨rfl, HG9.out⟩
def dM (i : Nat) : Sx := if i ≤ 63 then [] :: deep i else deep 64
theorem PS.grown {w0 w : World} {b mb : Nat} {M : Sx} {L : List Lc} {Rs : List Rw} {Fs : List Fk} (H : PS w0 b mb M L Rs Fs w) : w0.grownBy w none := by
  obtain ⟨d, c, VM, _, h⟩ := H
  exact h.cx.grown
set_option maxHeartbeats 8000000 in
theorem deep_walk (w : World) (a : Int) (ha : (Lit.int .u8 a).wf = true) : Calls Try.prog 10 #[.int .u8 a] w (okW w) := by
  have hb : 0 ≤ a ∧ a ≤ 255 := by simpa [Lit.wf, IntKind.min, IntKind.max, IntKind.signed, IntKind.bits] using ha
  obtain ⟨n, rfl⟩ := Int.eq_ofNat_of_zero_le hb.1
  obtain ⟨k, hk⟩ : ∃ k, n % 70 = k := ⟨_, rfl⟩
  have hk1 : (n : Int).tmod 70 = (k : Int) := by rw [← hk]; simp [Int.tmod_eq_emod]
  have hk2 : k < 70 := by omega
  have n1 : (n : Int) ≤ 255 := hb.2
  have n0 : (0 : Int) ≤ n := by omega
  have k1 : (k : Int) < 70 := by omega
  have HC := hide (Cf.of (Cx.start w (fun _ => False)))
  clear ha hb hk
  go_enter Try.func10, Try.ntmps10
  go_wp2_with (go_at_call 25; refine (new_at HC.out).mono ?_; rintro e w1 ⟨b, mb, rfl, h⟩; have HP := hide (show PS w b mb (dM 0) [] [] [] w1 from h); clear h; clear HC)
  go_loopw [5] (fun iv W => ∃ i : Nat, i ≤ k ∧ i ≤ 64 ∧ iv = .int .i64 i ∧ Hid (PS w b mb (dM i) [] [] [] W)) (fun iv _ => k - (intOf iv).toNat)
  case atStart => exact ⟨0, Nat.zero_le _, by omega, rfl, HP⟩
  case round =>
    clear HP
    obtain ⟨i, hi, hi64, rfl, HP⟩ := hrel
    by_cases hlt : i < k
    · have q1 : (i : Int) < k := by omega
      by_cases h62 : i ≤ 62
      · have q2 : (i : Int) < 63 := by omega
        rw [show dM i = [] :: deep i by unfold dM; rw [if_pos (by omega)]] at HP
        have HGd := hide (show Gd ([] :: deep i) from gd_cons.2 ⟨gd_nil, deep_gd i⟩)
        have HLd := hide (show (deep i).length < 64 by rw [deep_len]; omega)
        have HDe := hide (show decE [] [120] = 0 ∧ decL [] [120] (i : Int) :: deep i = deep (i + 1) from ⟨by decide, by rw [(dx0 (i : Int)).2]; rfl⟩)
        have hln : (deep (i + 1)).length = i + 1 := deep_len _
        have HLo := hide (show (deep (i + 1)).length ≤ 64 by omega)
        have HOe := hide (show (if (deep (i + 1)).length = 64 then (4 : Int) else 0) = 0 ∧ (if (deep (i + 1)).length = 64 then deep (i + 1) else [] :: deep (i + 1)) = [] :: deep (i + 1) from ⟨by rw [if_neg (by omega)], by rw [if_neg (by omega)]⟩)
        have HGm := hide (show Gd ([] :: deep (i + 1)) from gd_cons.2 ⟨gd_nil, deep_gd _⟩)
        have HLm := hide (show ([] :: deep (i + 1) : Sx).length ≤ 64 by rw [List.length_cons]; omega)
        have HFv := hide (fnd_deep0 i)
        unfold xN at HFv
        have HI := hide h62
        clear h62 hln
        go_wp2_with (first | (go_at_call 31; refine (declare_at HP.out HGd.out HLd.out [120] (by decide) (i : Int)).mono ?_; rw [HDe.out.1, HDe.out.2]; rintro e w2 ⟨rfl, h⟩; replace HP := hide h; clear h) | (go_at_call 27; refine (open_at HP.out HLo.out).mono ?_; rw [HOe.out.1, HOe.out.2]; rintro e w3 ⟨rfl, h⟩; replace HP := hide h; clear h) | (go_at_call 34; refine (find_at HP.out HGm.out HLm.out [120] (by decide)).mono ?_; rw [HFv.out]; rintro e w' ⟨rfl, hw⟩; replace hw := hw.symm; subst hw; unfold fndV))
        refine ⟨⟨i + 1, by omega, by have := HI.out; omega, by go_num, hide ?_⟩, by simp [intOf]; omega⟩
        rw [show dM (i + 1) = [] :: deep (i + 1) by unfold dM; rw [if_pos (by have := HI.out; omega)]]
        exact HP.out
      · by_cases h63 : i = 63
        · have q2 : ¬ (i : Int) < 63 := by omega
          rw [show dM i = [] :: deep i by unfold dM; rw [if_pos (by omega)]] at HP
          have HGd := hide (show Gd ([] :: deep i) from gd_cons.2 ⟨gd_nil, deep_gd i⟩)
          have HLd := hide (show (deep i).length < 64 by rw [deep_len]; omega)
          have HDe := hide (show decE [] [120] = 0 ∧ decL [] [120] (i : Int) :: deep i = deep (i + 1) from ⟨by decide, by rw [(dx0 (i : Int)).2]; rfl⟩)
          have hln : (deep (i + 1)).length = i + 1 := deep_len _
          have HLo := hide (show (deep (i + 1)).length ≤ 64 by omega)
          have HOe := hide (show (if (deep (i + 1)).length = 64 then (4 : Int) else 0) = 4 ∧ (if (deep (i + 1)).length = 64 then deep (i + 1) else [] :: deep (i + 1)) = deep (i + 1) from ⟨by rw [if_pos (by omega)], by rw [if_pos (by omega)]⟩)
          have HGm := hide (deep_gd (i + 1))
          have HLm := HLo
          have HFv := hide (fnd_deep i)
          unfold xN at HFv
          have HI := hide h63
          clear h62 h63 hln
          go_wp2_with (first | (go_at_call 31; refine (declare_at HP.out HGd.out HLd.out [120] (by decide) (i : Int)).mono ?_; rw [HDe.out.1, HDe.out.2]; rintro e w2 ⟨rfl, h⟩; replace HP := hide h; clear h) | (go_at_call 27; refine (open_at HP.out HLo.out).mono ?_; rw [HOe.out.1, HOe.out.2]; rintro e w3 ⟨rfl, h⟩; replace HP := hide h; clear h) | (go_at_call 34; refine (find_at HP.out HGm.out HLm.out [120] (by decide)).mono ?_; rw [HFv.out]; rintro e w' ⟨rfl, hw⟩; replace hw := hw.symm; subst hw; unfold fndV))
          refine ⟨⟨i + 1, by omega, by have := HI.out; omega, by go_num, hide ?_⟩, by simp [intOf]; omega⟩
          rw [show dM (i + 1) = deep (i + 1) by unfold dM; rw [if_neg (by have := HI.out; omega), HI.out]]
          exact HP.out
        · have h64 : i = 64 := by omega
          have q2 : (64 : Int) ≤ i := by omega
          rw [show dM i = [([120], 63)] :: deep 63 by unfold dM; rw [if_neg (by omega)]; rfl] at HP
          have HGd := hide (show Gd ([([120], 63)] :: deep 63) from gd_cons.2 ⟨gd1 63, deep_gd 63⟩)
          have HLd := hide (show (deep 63).length < 64 by rw [deep_len]; omega)
          have HDe := hide (show decE [([120], 63)] [120] = 151 ∧ decL [([120], 63)] [120] (i : Int) = [([120], 63)] from dexT 63 (i : Int))
          have HLm := hide (show ([([120], 63)] :: deep 63 : Sx).length ≤ 64 by rw [List.length_cons, deep_len]; omega)
          have HDn := hide (show (([([120], 63)] :: deep 63 : Sx).length : Int) - 1 = 63 by rw [List.length_cons, deep_len]; rfl)
          clear h62 h63 h64
          go_wp2_with (first | (go_at_call 31; refine (declare_at HP.out HGd.out HLd.out [120] (by decide) (i : Int)).mono ?_; rw [HDe.out.1, HDe.out.2]; rintro e w2 ⟨rfl, h⟩; replace HP := hide h; clear h) | (go_at_call 36; refine (depth_at HP.out HLm.out).mono ?_; rw [HDn.out]; rintro e w' ⟨rfl, hw⟩; replace hw := hw.symm; subst hw) | (go_at_call 41; refine (wakes_at _).mono ?_; rintro e w9 ⟨rfl, hg⟩; have HG9 := hide (gr_then HP.out.grown hg); clear hg))
          go_ret
          exact ⟨rfl, HG9.out⟩
    · obtain rfl : i = k := by omega
      have HLm := hide (show (dM i).length ≤ 64 by unfold dM; split <;> simp [deep_len] <;> omega)
      have HDn := hide (show ((dM i).length : Int) - 1 = ((min i 63 : Nat) : Int) by unfold dM; split <;> simp [deep_len] <;> omega)
      obtain ⟨mm, hmm⟩ : ∃ m, min i 63 = m := ⟨_, rfl⟩
      rw [hmm] at HDn
      by_cases h63 : i ≤ 63
      · have q2 : (i : Int) ≤ 63 := by omega
        obtain rfl : mm = i := by omega
        clear h63 hmm
        go_wp2_with (first | (go_at_call 36; refine (depth_at HP.out HLm.out).mono ?_; rw [HDn.out]; rintro e w' ⟨rfl, hw⟩; replace hw := hw.symm; subst hw) | (go_at_call 41; refine (wakes_at _).mono ?_; rintro e w9 ⟨rfl, hg⟩; have HG9 := hide (gr_then HP.out.grown hg); clear hg))
        go_ret
        exact ⟨rfl, HG9.out⟩
      · have q2 : (63 : Int) ≤ i := by omega
        have hmm2 : (mm : Int) = 63 := by omega
        rw [hmm2] at HDn
        clear h63 hmm hmm2
        go_wp2_with (first | (go_at_call 36; refine (depth_at HP.out HLm.out).mono ?_; rw [HDn.out]; rintro e w' ⟨rfl, hw⟩; replace hw := hw.symm; subst hw) | (go_at_call 41; refine (wakes_at _).mono ?_; rintro e w9 ⟨rfl, hg⟩; have HG9 := hide (gr_then HP.out.grown hg); clear hg))
        all_goals go_ret
        all_goals exact ⟨rfl, HG9.out⟩
end Go.Proofs.Ytmoekalagollhaa.So
