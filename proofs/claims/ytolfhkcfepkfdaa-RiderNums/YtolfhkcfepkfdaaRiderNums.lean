/-
  For every number, the law RiderNums answers true: a compact number has just as many bytes as its size asks, and each but its last one has its highest bit set; no conditions.
-/
import Derived.Test.YtolfhkcfepkfdaaRows
import Derived.Test.YtolfhkcfepkfdaaRiarg
import Derived.WalkKit
import Derived.ProofKit
import Derived.Below
import Derived.Test.YtolfhkcfepkfdaaRwk
import Derived.Laws.Concat
namespace Go.Proofs.Ytolfhkcfepkfdaa.riderNums
open Go.ChangeShapes Go.WideShapes Go.ChangeAt Go.RowKit Go.ChangeMaps Go.Proofs.Ytolfhkcfepkfdaa.Ri Go.Proofs.Ytolfhkcfepkfdaa.Tx
set_option linter.unusedVariables false
set_option linter.unusedSimpArgs false
set_option maxRecDepth 100000

/- How many bytes. -/
def qK (k : Nat) : Int := 64 * 128 ^ (k - 1)
theorem len_more : ∀ (j : Nat) (n : Int) (k : Nat), 1 ≤ k → k ≤ j → (k < (numF j n).length ↔ (n < -qK k ∨ qK k ≤ n))
  | 0, _, k, h1, h2 => by omega
  | j + 1, n, k, h1, h2 => by
    rw [numF]
    by_cases hd : -64 ≤ n ∧ n ≤ 63
    · rw [if_pos hd]
      have hq : 64 ≤ qK k := by
        unfold qK
        have : (1 : Int) ≤ 128 ^ (k - 1) := Int.pow_pos (by decide)
        omega
      constructor
      · intro h; simp at h; omega
      · intro h; omega
    · rw [if_neg hd]
      by_cases hk : k = 1
      · subst hk
        have hq : qK 1 = 64 := rfl
        rw [hq]
        constructor
        · intro _; omega
        · intro _
          have : 0 < (numF j (n / 128)).length := by
            cases j with
            | zero => simp [numF]
            | succ j => rw [numF]; split <;> simp
          simp
          omega
      · have ih := len_more j (n / 128) (k - 1) (by omega) (by omega)
        have hq : qK k = 128 * qK (k - 1) := by
          unfold qK
          rw [show k - 1 = (k - 1 - 1) + 1 by omega, Int.pow_succ, Nat.add_sub_cancel]
          generalize (128 : Int) ^ (k - 1 - 1) = m
          omega
        rw [hq]
        generalize qK (k - 1) = Q at ih ⊢
        rw [List.length_cons]
        constructor
        · intro h
          have := ih.1 (by omega)
          omega
        · intro h
          have := ih.2 (by omega)
          omega
theorem qK_is (k : Nat) (h1 : 1 ≤ k) (h4 : k ≤ 4) : (2 : Int) ^ (7 * k - 1) = qK k ∧ 64 ≤ qK k ∧ qK k ≤ 134217728 := by
  rcases (by omega : k = 1 ∨ k = 2 ∨ k = 3 ∨ k = 4) with rfl | rfl | rfl | rfl <;> decide
theorem shp_bit : ∀ (l : List UInt8), Shp l → ∀ i (h : i < l.length), (128 ≤ l[i].toNat ↔ i + 1 < l.length)
  | [], h, _, _ => h.elim
  | [c], h, i, hi => by
    have hi0 : i = 0 := by simp at hi; omega
    subst hi0
    simp only [Shp] at h
    simp
    omega
  | c :: d :: r, h, i, hi => by
    cases i with
    | zero => simp; exact h.1
    | succ i =>
      have := shp_bit (d :: r) h.2 i (by simpa using hi)
      simp only [List.getElem_cons_succ, List.length_cons] at this ⊢
      omega
theorem scan_tail (l : List UInt8) : Scan (l ++ [128]) l.length [128] none :=
  ⟨by decide, by decide, fun i h => by
    have : i = 0 := by simp at h; omega
    subst this
    simp, by simp, .inr (.inl rfl)⟩
theorem numR_tail : numR [128] none = none := rfl
/- A reader of the law's own, since w began. -/
structure Rw (w W : World) (q : Nat) (s : List UInt8) (p : Nat) (bad : Bool) : Prop where
  rd : Pb W q s p bad
  gr : w.grownBy W none
  lq : w.heap.size ≤ q
theorem Rw.next {w W W' : World} {q p p' : Nat} {s : List UInt8} {bad bad' : Bool} (r : Rw w W q s p bad) (h : Pb W' q s p' bad') (hg : W.grownBy W' (some q)) : Rw w W' q s p' bad' := ⟨h, grown_own r.gr r.lq hg, r.lq⟩
set_option maxHeartbeats 2000000 in

theorem walk (w : World) (a0 : Int) (w0 : (Lit.int .i64 a0).wf = true) :
    Calls Try.prog 8 #[.int .i64 a0] w fun e w' => e = .returned (.bool true) ∧ w.grownBy w' none := by
  have b0' : (⟨#[]⟩ : ByteArray) = bs [] := rfl
  have hemp : (bs []).toList.isEmpty = true := by rw [bs_emp]; rfl
  cases hf : Bits.fitsB a0 32
  · have HF := hide hf
    have hout : a0 < -2147483648 ∨ (¬ a0 < -2147483648 ∧ 2147483648 ≤ a0) := by
      have := mt fits_in.2 (by rw [hf]; simp)
      omega
    clear hf w0
    rcases hout with h0 | ⟨h0, h1⟩
    · go_enter Try.func8, Try.ntmps8
      go_wp2_with (first
        | (go_at_call 9; refine (write_new _).mono ?_; rintro e w1 ⟨rfl, h1, h2⟩; have H1 := hide h1; have G1 := hide h2; clear h1 h2)
        | (go_at_call 17; refine (pwnum_no H1.out a0 HF.out).mono ?_; rintro e w2 ⟨rfl, v2, h1, h2⟩; have H2 := hide h1; have G2 := hide (own_g G1.out (Nat.le_refl _) H1.out.old h2); clear h1 h2)
        | (go_at_call 12; refine (pbytes_bad H2.out).mono ?_; rintro e w' ⟨rfl, hw⟩; replace hw := hw.symm; subst hw)
        | (go_at_call 10; refine (wakes_any _).mono ?_; rintro e w9 ⟨rfl, hg⟩; have G9 := hide (grown_trans G2.out hg); clear hg))
      go_ret
      exact ⟨rfl, G9.out⟩
    · go_enter Try.func8, Try.ntmps8
      go_wp2_with (first
        | (go_at_call 9; refine (write_new _).mono ?_; rintro e w1 ⟨rfl, h1, h2⟩; have H1 := hide h1; have G1 := hide h2; clear h1 h2)
        | (go_at_call 17; refine (pwnum_no H1.out a0 HF.out).mono ?_; rintro e w2 ⟨rfl, v2, h1, h2⟩; have H2 := hide h1; have G2 := hide (own_g G1.out (Nat.le_refl _) H1.out.old h2); clear h1 h2)
        | (go_at_call 12; refine (pbytes_bad H2.out).mono ?_; rintro e w' ⟨rfl, hw⟩; replace hw := hw.symm; subst hw)
        | (go_at_call 10; refine (wakes_any _).mono ?_; rintro e w9 ⟨rfl, hg⟩; have G9 := hide (grown_trans G2.out hg); clear hg))
      go_ret
      exact ⟨rfl, G9.out⟩
  · have hb := fits_in.1 hf
    have HF := hide hf
    obtain ⟨hb0, hb1⟩ := hb
    have hL0 := numF_len 4 a0
    have HLen := hide (fun k h1 h2 => len_more 4 a0 k h1 h2)
    obtain ⟨l, hl⟩ : ∃ l, numL a0 = l := ⟨_, rfl⟩
    have hsh : Shp l := by rw [← hl]; exact (numF_shp 4 a0 (in4 hf)).1
    obtain ⟨d, c, hsc, hsn, hsd⟩ := scan_num (s := l ++ [128]) (p := 0) (n := a0) (t := [128]) hf (by rw [hl]; rfl)
    rw [hl] at hsd
    rw [show numF 4 a0 = l from hl] at hL0 HLen
    have HL := hide hl
    have HSc := hide hsc
    have HSn := hide hsn
    have HSd := hide hsd
    have HSh := hide hsh
    have hl1 : 1 ≤ l.length := by omega
    have HM := hide (show (l ++ [128]).length ≤ 1000000 by simp; omega)
    have hsz := bs_size l
    have b8' : (⟨#[128]⟩ : ByteArray) = bs [128] := rfl
    have hcat := bs_append l [128]
    have hs8 := bs_size [128]
    clear hf hl w0 hsc hsn hsd hsh
    go_enter Try.func8, Try.ntmps8
    go_wp2_with (first
      | (go_at_call 9; refine (write_new _).mono ?_; rintro e w1 ⟨rfl, h1, h2⟩; have H1 := hide h1; have G1 := hide h2; clear h1 h2)
      | (go_at_call 17; refine (pwnum_yes H1.out (by simp) G1.out.size a0 HF.out).mono ?_; rw [HL.out]; rintro e w2 ⟨rfl, v2, h1, h2⟩; have H2 := hide (show Ww w2 _ _ v2 l false from h1); have G2 := hide (own_g G1.out (Nat.le_refl _) H1.out.old h2); clear h1 h2)
      | (go_at_call 12; refine (pbytes_ok H2.out (by omega)).mono ?_; rintro e w' ⟨rfl, hw⟩; replace hw := hw.symm; subst hw))
    go_loop [6] (fun v => ∃ k : Nat, 1 ≤ k ∧ k ≤ l.length ∧ v = .int .i64 k) (fun v => 5 - (intOf v).toNat)
    case atStart => exact ⟨1, by omega, hl1, rfl⟩
    case round =>
      obtain ⟨k, hk1, hkl, rfl⟩ := hrel
      by_cases h5 : k = 5
      · subst h5
        have HL5 := hide (show l.length = 5 by omega)
        have hq5 : ((l.length : Int) == 5) = true := by rw [HL5.out]; rfl
        clear hkl
        go_wp2
        go_loop [7] (fun v => ∃ i : Nat, i ≤ l.length ∧ v = .int .i64 i) (fun v => l.length - (intOf v).toNat)
        case atStart => exact ⟨0, Nat.zero_le _, rfl⟩
        case round =>
          obtain ⟨i, hi, rfl⟩ := hrel
          by_cases hil : i < l.length
          · have j1 : (i : Int) < l.length := by omega
            have hb : ∀ h, (bs l)[i]'h = l[i] := fun h => rfl
            have hbit := shp_bit l HSh.out i hil
            obtain ⟨X, hX⟩ : ∃ X : Int, (l[i].toNat : Int) = X := ⟨_, rfl⟩
            by_cases hin : i + 1 < l.length
            · have j2 : (i : Int) + 1 < l.length := by omega
              have j3 : 128 ≤ X := (by have := hbit.2 hin; omega)
              clear hbit
              go_wp2
              all_goals first | exact ⟨⟨i + 1, by omega, by go_num⟩, by simp [intOf]; omega⟩ | (exfalso; have hh : (!decide ((128 : Int) ≤ (l[i].toNat : Int))) = true := (by assumption); have j4 : (128 : Int) ≤ (l[i].toNat : Int) := (by omega); rw [decide_eq_true j4] at hh; cases hh) | (exfalso; omega)
            · have j2 : ¬ (i : Int) + 1 < l.length := by omega
              have j3 : ¬ 128 ≤ X := (by have := fun h => hin (hbit.1 h); omega)
              clear hbit
              go_wp2
              all_goals first | exact ⟨⟨i + 1, by omega, by go_num⟩, by simp [intOf]; omega⟩ | (exfalso; have hh : (!decide ((128 : Int) ≤ (l[i].toNat : Int))) = true := (by assumption); have j4 : (128 : Int) ≤ (l[i].toNat : Int) := (by omega); rw [decide_eq_true j4] at hh; cases hh) | (exfalso; omega)
          · have j1 : ¬ (i : Int) < l.length := by omega
            have hz : ((0 : Int) == 0) = true := rfl
            have hq1 : ((l.length : Int) == l.length) = true := by simp
            have hq2 : (a0 == a0) = true := by simp
            go_wp2_with (first | (go_at_call 14; refine (read_new _ (l ++ [128]) HM.out).mono ?_; rintro e w3 ⟨rfl, h1, h2⟩; have H3 := hide (show Rw w w3 w2.heap.size (l ++ [128]) 0 false from ⟨h1, grown_trans G2.out h2, G2.out.size⟩); generalize w2.heap.size = Q3 at H3 ⊢; clear h1 h2) | (go_at_call 21; refine (pnum_run H4.out.rd (scan_tail l)).mono ?_; rw [numR_tail]; rintro e w5 ⟨rfl, h1, h2⟩; have H5 := hide (H4.out.next h1 h2); clear h1 h2) | (go_at_call 21; refine (pnum_run H3.out.rd HSc.out).mono ?_; rw [HSn.out, HSd.out]; rintro e w4 ⟨rfl, h1, h2⟩; have H4 := hide (H3.out.next h1 h2); rw [Nat.zero_add] at H4; clear h1 h2) | (go_at_call 26; refine (pat_at H5.out.rd).mono ?_; rintro e w' ⟨rfl, hw⟩; replace hw := hw.symm; subst hw) | (go_at_call 26; refine (pat_at H4.out.rd).mono ?_; rintro e w' ⟨rfl, hw⟩; replace hw := hw.symm; subst hw) | (go_at_call 25; refine (pbad_at H5.out.rd).mono ?_; rintro e w' ⟨rfl, hw⟩; replace hw := hw.symm; subst hw) | (go_at_call 10; refine (wakes_any _).mono ?_; rintro e w9 ⟨rfl, hg⟩; have G9 := hide (grown_trans H5.out.gr hg); clear hg))
            go_ret
            exact ⟨rfl, G9.out⟩
      · have i1 : (k : Int) < 5 := by omega
        have i0 : 1 ≤ (k : Int) := by omega
        obtain ⟨q0, q1, q2⟩ := qK_is k hk1 (by omega)
        have hiff := HLen.out k hk1 (by omega)
        obtain ⟨Q, hQ⟩ : ∃ Q, qK k = Q := ⟨_, rfl⟩
        rw [hQ] at q0 q1 q2 hiff
        have e1 : wrap64 (-2 ^ (7 * k - 1)) = -Q := by rw [q0]; unfold wrap64; omega
        have e2 : wrap64 (2 ^ (7 * k - 1)) = Q := by rw [q0]; unfold wrap64; omega
        clear hQ q0
        by_cases hlt : k < l.length
        · rcases (by have := hiff.1 hlt; omega : a0 < -Q ∨ (¬ a0 < -Q ∧ Q ≤ a0)) with t1 | ⟨t1, t2⟩
          · clear hiff
            go_wp2
            exact ⟨⟨k + 1, by omega, by omega, by go_num⟩, by simp [intOf]; omega⟩
          · clear hiff
            go_wp2
            exact ⟨⟨k + 1, by omega, by omega, by go_num⟩, by simp [intOf]; omega⟩
        · obtain rfl : k = l.length := by omega
          have t1 : ¬ a0 < -Q := fun h => hlt (hiff.2 (.inl h))
          have t2 : ¬ Q ≤ a0 := fun h => hlt (hiff.2 (.inr h))
          clear hiff
          go_wp2
          go_loop [7] (fun v => ∃ i : Nat, i ≤ l.length ∧ v = .int .i64 i) (fun v => l.length - (intOf v).toNat)
          case atStart => exact ⟨0, Nat.zero_le _, rfl⟩
          case round =>
            obtain ⟨i, hi, rfl⟩ := hrel
            by_cases hil : i < l.length
            · have j1 : (i : Int) < l.length := by omega
              have hb : ∀ h, (bs l)[i]'h = l[i] := fun h => rfl
              have hbit := shp_bit l HSh.out i hil
              obtain ⟨X, hX⟩ : ∃ X : Int, (l[i].toNat : Int) = X := ⟨_, rfl⟩
              by_cases hin : i + 1 < l.length
              · have j2 : (i : Int) + 1 < l.length := by omega
                have j3 : 128 ≤ X := (by have := hbit.2 hin; omega)
                clear hbit
                go_wp2
                all_goals first | exact ⟨⟨i + 1, by omega, by go_num⟩, by simp [intOf]; omega⟩ | (exfalso; have hh : (!decide ((128 : Int) ≤ (l[i].toNat : Int))) = true := (by assumption); have j4 : (128 : Int) ≤ (l[i].toNat : Int) := (by omega); rw [decide_eq_true j4] at hh; cases hh) | (exfalso; omega)
              · have j2 : ¬ (i : Int) + 1 < l.length := by omega
                have j3 : ¬ 128 ≤ X := (by have := fun h => hin (hbit.1 h); omega)
                clear hbit
                go_wp2
                all_goals first | exact ⟨⟨i + 1, by omega, by go_num⟩, by simp [intOf]; omega⟩ | (exfalso; have hh : (!decide ((128 : Int) ≤ (l[i].toNat : Int))) = true := (by assumption); have j4 : (128 : Int) ≤ (l[i].toNat : Int) := (by omega); rw [decide_eq_true j4] at hh; cases hh) | (exfalso; omega)
            · have j1 : ¬ (i : Int) < l.length := by omega
              have hz : ((0 : Int) == 0) = true := rfl
              have hq1 : ((l.length : Int) == l.length) = true := by simp
              have hq2 : (a0 == a0) = true := by simp
              go_wp2_with (first | (go_at_call 14; refine (read_new _ (l ++ [128]) HM.out).mono ?_; rintro e w3 ⟨rfl, h1, h2⟩; have H3 := hide (show Rw w w3 w2.heap.size (l ++ [128]) 0 false from ⟨h1, grown_trans G2.out h2, G2.out.size⟩); generalize w2.heap.size = Q3 at H3 ⊢; clear h1 h2) | (go_at_call 21; refine (pnum_run H4.out.rd (scan_tail l)).mono ?_; rw [numR_tail]; rintro e w5 ⟨rfl, h1, h2⟩; have H5 := hide (H4.out.next h1 h2); clear h1 h2) | (go_at_call 21; refine (pnum_run H3.out.rd HSc.out).mono ?_; rw [HSn.out, HSd.out]; rintro e w4 ⟨rfl, h1, h2⟩; have H4 := hide (H3.out.next h1 h2); rw [Nat.zero_add] at H4; clear h1 h2) | (go_at_call 26; refine (pat_at H5.out.rd).mono ?_; rintro e w' ⟨rfl, hw⟩; replace hw := hw.symm; subst hw) | (go_at_call 26; refine (pat_at H4.out.rd).mono ?_; rintro e w' ⟨rfl, hw⟩; replace hw := hw.symm; subst hw) | (go_at_call 25; refine (pbad_at H5.out.rd).mono ?_; rintro e w' ⟨rfl, hw⟩; replace hw := hw.symm; subst hw) | (go_at_call 10; refine (wakes_any _).mono ?_; rintro e w9 ⟨rfl, hg⟩; have G9 := hide (grown_trans H5.out.gr hg); clear hg))
              go_ret
              exact ⟨rfl, G9.out⟩

set_option maxRecDepth 100000 in
theorem lifted (os : Os) (started : os.Started) (H : Type) (enc : TypeId × Value → H) :
    ReturnsInHanded {} Try.checked os 8 .any (Rows.riderNumsSpec.pre6 enc Try.prog Try.f8 Rows.riderNumsRow.domain false) (Rows.riderNumsSpec.post enc Try.prog Try.f8 false true false false) := by
  refine returnsInHanded_of_change (C := Try.checked) own started (by kernel_rfl) Try.func8
    (ChangeSpec.witness6 (enc := enc) (C := Try.checked) false ⟨#[], #[.int .i64 0], []⟩ 8 (by kernel_rfl) (by kernel_rfl) (by kernel_rfl) (by kernel_rfl)) ?_
  intro W base args ds gs before hval0 hW hcnd _
  have hval : ∀ (j : Nat) t v, Try.f8.params[j]? = some t → args[j]? = some v → Value.okWide Try.prog W .any base t v := hval0
  have hW' := hW
  obtain ⟨p, q, hA0, hV, rfl, hfz, hnd⟩ := hW
  have hA : DataW.TrodAll enc Try.prog W 0 (fun _ => true) true Try.f8.params.toList args.toList ds p := hA0
  rw [Try.params8] at hA hval
  obtain ⟨v0, vs0, d0, ds0, p0, q0, hargs, rfl, rfl, h0, r0⟩ := trodAll_cons hA
  obtain ⟨rfl, rfl, rfl⟩ := trodAll_nil r0
  obtain rfl : args = #[v0] := by cases args; simp_all
  obtain ⟨rfl, rfl⟩ := trodVars_none hV
  have k0 := h0
  have lt0 : ∀ x ∈ p0, x.block < W.heap.size := by obtain ⟨m, hm⟩ := k0; exact DataW.trod_lt m _ _ _ hm
  obtain ⟨a0, rfl, _, _, w0⟩ := open_int Try.underlying3 (hval 0 3 v0 rfl rfl) h0
  clear hA0 hval0
  refine (walk W a0 w0).mono fun e W' ⟨he, hg⟩ => ?_
  subst he
  have bel : Below W.heap.size W W' := ⟨hg.os, hg.tape, hg.output, hg.size, fun k hk => hg.block k hk (by simp)⟩
  exact ⟨_, rfl, _, _, _, [], _, [], hW', trodAll_mk1 (shut_bool Try.underlying4 _), (trodAll_cons_mk (Below.trod laidOut (by kernel_rfl) (of_decide_eq_true (by kernel_rfl)) k0 bel lt0) trodAll_mk0), rfl, bel.frame _, fun h => by cases h⟩

theorem proved : Rows.RiderNumsSaid :=
  OpenClaim.holds_of_wide 8 Try.f8 rfl rfl rfl rfl rfl rfl rfl ⟨rfl, rfl, rfl, rfl, rfl⟩ rfl rfl rfl rfl rfl (by kernel_rfl) Try.func8 (by kernel_rfl)
    (of_decide_eq_true (by kernel_rfl)) (by unfold Func.isWrapper; first | (rw [if_pos (by decide +kernel)]; kernel_rfl) | (rw [if_neg (by decide +kernel)]; exact ⟨rfl, rfl⟩))
    (fun os started H enc _ => lifted os started H enc)
end Go.Proofs.Ytolfhkcfepkfdaa.riderNums

namespace Go.Proofs.Ytolfhkcfepkfdaa
theorem riderNums_holds : Rows.RiderNumsSaid := riderNums.proved
#print axioms riderNums_holds
end Go.Proofs.Ytolfhkcfepkfdaa
