/-
  For every number, the law StoreFull answers true: there is room for just so many files, and a file that is there may always be put anew; no conditions.
-/
import Derived.Test.YtaekljpijnkjoaaDoorCards
import Derived.Test.YtaekljpijnkjoaaDoorTie
import Derived.Test.YtaekljpijnkjoaaDoorStarg
import Derived.Test.YtaekljpijnkjoaaDoorStlaid
import Derived.WalkKit
import Derived.ProofKit
import Derived.Below
import Derived.SevenTiedAt
import Derived.Test.YtaekljpijnkjoaaDoorSn5
namespace Go.Proofs.YtaekljpijnkjoaaDoor.storeFull
open Go.ChangeShapes Go.WideShapes Go.ChangeAt Go.RowKit Go.ChangeMaps Go.Proofs.YtaekljpijnkjoaaDoor.St Go.Proofs.YtaekljpijnkjoaaDoor.Tx
set_option linter.unusedVariables false
set_option linter.unusedSimpArgs false
set_option maxRecDepth 100000

def tY : List UInt8 := [121]
theorem few {l : List Pr} (h : l.length ≤ 64) : l.length < maxLen := by unfold maxLen; omega
set_option maxHeartbeats 4000000 in

theorem walk (w : World) (a0 : Int) (w0 : (Lit.int .u8 a0).wf = true) :
    Calls Tryd.prog 5 #[.int .u8 a0] w fun e w' => e = .returned (.bool true) ∧ w.grownBy w' none := by
  obtain ⟨x0, x1⟩ := bounds_u8 w0
  obtain ⟨k, hk⟩ : ∃ k : Nat, a0 % 70 = k := ⟨(a0 % 70).toNat, by omega⟩
  have hk1 : k < 70 := by omega
  have hk2 : (k : Int) < 70 := by omega
  have b2' : (⟨#[120]⟩ : ByteArray) = bs tX := rfl
  have b3' : (⟨#[121]⟩ : ByteArray) = bs tY := rfl
  obtain ⟨b, hb⟩ : ∃ b, w.heap.size = b := ⟨_, rfl⟩
  go_enter Tryd.func5, Tryd.ntmps5
  go_wp2_with (go_at_call 7; refine (new_any _).mono ?_; rintro e w1 ⟨rfl, hs, hg⟩; generalize w.heap.size + 1 = h at hs ⊢; have H1 := hide hs; have G1 := hide hg; clear hs hg)
  rw [hb] at H1
  simp only [hk]
  go_loopw [5] (fun iv W => ∃ i : Nat, i ≤ k ∧ iv = .int .i64 i ∧ Hid (Sto W h b (fl (min i 64))) ∧ Hid (w.grownBy W none)) (fun iv _ => k - (intOf iv).toNat)
  case atStart => exact ⟨0, by omega, rfl, H1.out, G1.out⟩
  case round =>
    obtain ⟨i, hi, rfl, hS, hG⟩ := hrel
    clear H1 G1
    by_cases hik : i < k
    · by_cases h64 : i < 64
      · have HE : Hid (errP (nmI i) tX (fl (min i 64)) = 0 ∧ putS (nmI i) tX (fl (min i 64)) = fl (min (i + 1) 64)) := hide (by rw [show min i 64 = i by omega, show min (i + 1) 64 = i + 1 by omega]; exact fl_put h64)
        go_wp2_with (first | (go_at_call 20; refine (name_i i (by omega) _).mono ?_; rintro e w2 ⟨rfl, hg⟩; have H2 := hide (hS.out.kept hg (by simp) (by simp)); have G2 := hide (grown_trans hG.out hg); clear hg) | (go_at_call 8; refine (St.put_at H2.out (nmI i) tX (nmI_max i) (by decide) (few (by rw [fl_len]; omega))).mono ?_; rw [HE.out.1, HE.out.2]; rintro e w3 ⟨rfl, hg, hs⟩; have H3 := hide hs; have G3 := hide (grown_own G2.out (Nat.le_of_eq hb) hg); clear hs hg H2 G2))
        go_roundw
        case rel => exact ⟨i + 1, by omega, by go_num, H3, G3⟩
        case measure => simp [intOf]; omega
      · have HE : Hid (errP (nmI i) tX (fl (min i 64)) = 3 ∧ putS (nmI i) tX (fl (min i 64)) = fl (min (i + 1) 64)) := hide (by rw [show min i 64 = 64 by omega, show min (i + 1) 64 = 64 by omega]; exact fl_full (by omega) (by omega))
        go_wp2_with (first | (go_at_call 20; refine (name_i i (by omega) _).mono ?_; rintro e w2 ⟨rfl, hg⟩; have H2 := hide (hS.out.kept hg (by simp) (by simp)); have G2 := hide (grown_trans hG.out hg); clear hg) | (go_at_call 8; refine (St.put_at H2.out (nmI i) tX (nmI_max i) (by decide) (few (by rw [fl_len]; omega))).mono ?_; rw [HE.out.1, HE.out.2]; rintro e w3 ⟨rfl, hg, hs⟩; have H3 := hide hs; have G3 := hide (grown_own G2.out (Nat.le_of_eq hb) hg); clear hs hg H2 G2))
        go_roundw
        case rel => exact ⟨i + 1, by omega, by go_num, H3, G3⟩
        case measure => simp [intOf]; omega
    · obtain rfl : i = k := by omega
      have i0 : (0 : Int) ≤ (i : Int) := by omega
      clear hk x0 x1 w0 hi hik
      by_cases hk0 : i = 0
      · subst hk0
        go_wp2_with (first | (go_at_call 18; refine (names_at hS.out (by simp [fl])).mono ?_; rintro e w9 ⟨v, ns, rfl, hg, _, ho⟩; obtain ⟨na, nc, hv⟩ := own_len ho; rw [hv]; have G9 := hide (grown_trans hG.out hg); clear hg ho hv) | (go_at_call 19; refine (wakes_any _).mono ?_; rintro e v4 ⟨rfl, hg⟩; have GW := hide hg; clear hg))
        go_ret
        exact ⟨rfl, grown_trans G9.out GW.out⟩
      · have HE : Hid (errP (nmI 0) tY (fl (min i 64)) = 0 ∧ (putS (nmI 0) tY (fl (min i 64))).length = min i 64) := hide (fl_again (by omega) (by omega) hS.out.files.nd tY (by decide))
        by_cases h64 : i ≤ 64
        · have h64' : (i : Int) ≤ 64 := by omega
          have hm : min (i : Int) 64 = i := by omega
          have hne : ((i : Int) == 0) = false := by simp; omega
          rw [show min i 64 = i by omega] at hS HE
          have HK := hide hk0
          clear hk0
          go_wp2_with (first | (go_at_call 20; refine (name_i 0 (by omega) _).mono ?_; rintro e w2 ⟨rfl, hg⟩; have H2 := hide (hS.out.kept hg (by simp) (by simp)); have G2 := hide (grown_trans hG.out hg); clear hg hS hG) | (go_at_call 8; refine (St.put_at H2.out (nmI 0) tY (nmI_max 0) (by decide) (few (by rw [fl_len]; omega))).mono ?_; rw [HE.out.1]; rintro e w3 ⟨rfl, hg, hs⟩; have H3 := hide hs; have G3 := hide (grown_own G2.out (Nat.le_of_eq hb) hg); clear hs hg H2 G2) | (go_at_call 18; refine (names_at H3.out (by rw [HE.out.2]; omega)).mono ?_; rw [HE.out.2]; rintro e w9 ⟨v, ns, rfl, hg, _, ho⟩; obtain ⟨na, nc, hv⟩ := own_len ho; rw [hv]; have G9 := hide (grown_trans G3.out hg); clear hg ho hv H3 G3) | (go_at_call 19; refine (wakes_any _).mono ?_; rintro e v4 ⟨rfl, hg⟩; have GW := hide hg; clear hg))
          go_ret
          exact ⟨rfl, grown_trans G9.out GW.out⟩
        · have h64' : (64 : Int) < (i : Int) := by omega
          have hm : min (i : Int) 64 = 64 := by omega
          have hne : ((i : Int) == 0) = false := by simp; omega
          rw [show min i 64 = 64 by omega] at hS HE
          have HK := hide hk0
          clear hk0
          go_wp2_with (first | (go_at_call 20; refine (name_i 0 (by omega) _).mono ?_; rintro e w2 ⟨rfl, hg⟩; have H2 := hide (hS.out.kept hg (by simp) (by simp)); have G2 := hide (grown_trans hG.out hg); clear hg hS hG) | (go_at_call 8; refine (St.put_at H2.out (nmI 0) tY (nmI_max 0) (by decide) (few (by rw [fl_len]; omega))).mono ?_; rw [HE.out.1]; rintro e w3 ⟨rfl, hg, hs⟩; have H3 := hide hs; have G3 := hide (grown_own G2.out (Nat.le_of_eq hb) hg); clear hs hg H2 G2) | (go_at_call 18; refine (names_at H3.out (by rw [HE.out.2]; omega)).mono ?_; rw [HE.out.2]; rintro e w9 ⟨v, ns, rfl, hg, _, ho⟩; obtain ⟨na, nc, hv⟩ := own_len ho; rw [hv]; have G9 := hide (grown_trans G3.out hg); clear hg ho hv H3 G3) | (go_at_call 19; refine (wakes_any _).mono ?_; rintro e v4 ⟨rfl, hg⟩; have GW := hide hg; clear hg))
          go_ret
          exact ⟨rfl, grown_trans G9.out GW.out⟩

set_option maxRecDepth 100000 in
theorem lifted (os : Os) (started : os.Started) (H : Type) (enc : TypeId × Value → H) :
    ReturnsInHanded {} Tryd.checked os 5 .any (fun w args => (Rows.storeFullSpec.pre enc Tryd.prog Tryd.f5 [] false w args ∧ laidMetH Tryd.prog laidL w) ∧ sizedMet enc Tryd.prog Tryd.f5 (OpenSpec.ofChange Rows.storeFullSpec) false w args)
      (Rows.storeFullSpec.post enc Tryd.prog Tryd.f5 false true false false) := by
  refine handed_and_shaped (C := Tryd.checked) (X := fun w _ => laidMetH Tryd.prog laidL w) (fun _ _ _ hh h => h.of_heap hh) own started (by kernel_rfl) Tryd.func5
    (ChangeSpec.witness_shaped (enc := enc) (C := Tryd.checked) (os := os) (X := fun w _ => laidMetH Tryd.prog laidL w) false (World.laidAll Tryd.prog os laidL) #[.int .u8 0] 8 (World.laidAll_os _ _ _) (sshape os) (by kernel_rfl) (by kernel_rfl) (by kernel_rfl) (smet os _)) ?_
  intro W base args ds gs before hval0 hW hL hsh
  have hval : ∀ (j : Nat) t v, Tryd.f5.params[j]? = some t → args[j]? = some v → Value.okWide Tryd.prog W .any base t v := hval0
  have hW' := hW
  obtain ⟨p, q, hA0, hV, rfl, hfz, hnd⟩ := hW
  have hA : DataW.TrodAll enc Tryd.prog W 0 (fun _ => true) true Tryd.f5.params.toList args.toList ds p := hA0
  rw [Tryd.params5] at hA hval
  obtain ⟨v0, vs0, d0, ds0, p0, q0, hargs, rfl, rfl, h0, r0⟩ := trodAll_cons hA
  obtain ⟨rfl, rfl, rfl⟩ := trodAll_nil r0
  obtain rfl : args = #[v0] := by cases args; simp_all
  obtain ⟨rfl, rfl⟩ := trodVars_none hV
  have k0 := h0
  have lt0 : ∀ x ∈ p0, x.block < W.heap.size := by obtain ⟨m, hm⟩ := k0; exact DataW.trod_lt m _ _ _ hm
  obtain ⟨a0, rfl, _, _, w0⟩ := open_int Tryd.underlying5 (hval 0 5 v0 rfl rfl) h0
  clear hA0 hval0
  refine (walk W a0 w0).mono fun e W' ⟨he, hg⟩ => ?_
  subst he
  have bel : Below W.heap.size W W' := ⟨hg.os, hg.tape, hg.output, hg.size, fun k hk => hg.block k hk (by simp)⟩
  exact ⟨_, rfl, _, _, _, [], _, [], hW', trodAll_mk1 (shut_bool Tryd.underlying4 _), (trodAll_cons_mk (Below.trod laidOut (by kernel_rfl) (of_decide_eq_true (by kernel_rfl)) k0 bel lt0) trodAll_mk0), rfl, bel.frame _, fun h => by cases h⟩

theorem over : Rows.StoreFullSaid :=
  OpenClaim.holds_of_wide 5 Tryd.f5 rfl rfl rfl rfl rfl rfl rfl ⟨rfl, rfl, rfl, rfl, rfl⟩ rfl rfl rfl rfl rfl (by kernel_rfl) Tryd.func5 (by kernel_rfl)
    (of_decide_eq_true (by kernel_rfl)) (by unfold Func.isWrapper; first | (rw [if_pos (by decide +kernel)]; kernel_rfl) | (rw [if_neg (by decide +kernel)]; exact ⟨rfl, rfl⟩))
    (fun os started H enc _ => lifted os started H enc)

theorem proved : Rows.StoreFullCardSaid :=
  Claim7.holds_tied_plain_at .later [] [.data, .pinned] true (true, "f34cf41fdc5622416673053c98f882e136cdaf09cb127f09f3aaf0ad4432a0d5") false
    over (fun _ h => by cases h) (by kernel_rfl) (fun _ h => by cases h) storeFull_row_tie rfl ⟨rfl, rfl⟩ (by kernel_rfl) rfl
    (fun g gn hf hfn => by
      obtain rfl : g = 5 := Option.some.inj (hf.symm.trans (by kernel_rfl))
      obtain rfl : gn = Tryd.f5 := (Option.some.inj (Tryd.func5.symm.trans hfn)).symm
      exact ⟨by kernel_rfl, fun j t ht => by
        rw [Tryd.params5] at ht
        have hm : t ∈ [5] := by simpa using Array.mem_of_getElem? ht
        have hall : ([5].all fun k => !Tryd.prog.wantsStandIn k) = true := by kernel_rfl
        exact (show Tryd.prog.wantsStandIn t = false by simpa using List.all_eq_true.1 hall t hm)⟩)
    (by kernel_rfl)
end Go.Proofs.YtaekljpijnkjoaaDoor.storeFull

namespace Go.Proofs.YtaekljpijnkjoaaDoor
theorem storeFull_holds : Rows.StoreFullCardSaid := storeFull.proved
#print axioms storeFull_holds
end Go.Proofs.YtaekljpijnkjoaaDoor
