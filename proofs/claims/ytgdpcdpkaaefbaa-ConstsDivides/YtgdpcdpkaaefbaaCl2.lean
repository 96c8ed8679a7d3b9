/-
  ConstsDivides, walked.
-/
import Derived.Test.YtgdpcdpkaaefbaaCl1
namespace Go.Proofs.Ytgdpcdpkaaefbaa.Cn
open Go.RowKit hiding Hid
open Go.Maps Go.Proofs.Ytgdpcdpkaaefbaa.Tx Go.Proofs.Ytgdpcdpkaaefbaa.Lx Go.Proofs.Ytgdpcdpkaaefbaa.Mp Go.Proofs.Ytgdpcdpkaaefbaa.Bits Go.Proofs.Ytgdpcdpkaaefbaa.Tr Go.Proofs.Ytgdpcdpkaaefbaa.Bm
set_option linter.unusedVariables false
set_option linter.unusedSimpArgs false
set_option maxRecDepth 100000

theorem cell11 {w0 w : World} {A : Nat → Prop} {X : Option Nat} {L : List Lc} {Rs : List Rw} {Ts : List (List Dt × List Value)} {b c : Nat} {u0 u1 u2 v0 v1 v2 : Value} {t t' : TypeId} (H : Cx w0 A X (⟨b, [u0, u1, u2], t⟩ :: ⟨c, [v0, v1, v2], t'⟩ :: L) Rs Ts w) : w.cell? ⟨b, 1, none⟩ = some u1 ∧ w.cell? ⟨c, 1, none⟩ = some v1 := ⟨cell_of_row _ _ _ _ _ _ (H.loc _ (.head _)), cell_of_row _ _ _ _ _ _ (H.loc _ (.tail _ (.head _)))⟩
theorem good_i {n : Int} : goodV ⟨1, n, []⟩ = inR n := by
  rw [goodV_n (v := ⟨1, n, []⟩) (by dsimp only; decide)]
  rfl
theorem two_bad {s : List UInt8} {a b : Vl} (h : goodV a = false ∨ goodV b = false) : twoP s a b = (⟨0, 0, []⟩, 120) := if_neg (by rcases h with h | h <;> simp [h])
theorem two_ii {s : List UInt8} {n m : Int} {c : Cd} (hn : inR n = true) (hm : inR m = true) (h : decide (((1, 1, s), c) ∈ twosE) = true) : twoP s ⟨1, n, []⟩ ⟨1, m, []⟩ = ev c ⟨1, n, []⟩ ⟨1, m, []⟩ := by
  unfold twoP
  rw [if_pos ⟨by rw [good_i]; exact hn, by rw [good_i]; exact hm⟩]
  have e1 : besV ⟨1, n, []⟩ ⟨1, m, []⟩ = ⟨1, n, []⟩ := if_neg (by dsimp only; omega)
  have e2 : besV ⟨1, m, []⟩ ⟨1, n, []⟩ = ⟨1, m, []⟩ := if_neg (by dsimp only; omega)
  rw [e1, e2]
  unfold rk
  have hl : twosE.lookup (1, 1, s) = some c := by
    have hd : (twosE.map (·.1)).Nodup := twos_nd
    have hmm := of_decide_eq_true h
    clear h
    generalize twosE = E at *
    induction E with
    | nil => cases hmm
    | cons q L ih =>
      obtain ⟨y, u⟩ := q
      simp only [List.map_cons, List.nodup_cons] at hd
      rw [List.lookup_cons]
      rcases List.mem_cons.1 hmm with h | h
      · injection h with h1 h2
        subst h1
        subst h2
        simp
      · have : ((1, 1, s) == y) = false := by
          cases hb : ((1, 1, s) == y) with
          | false => rfl
          | true => exact absurd (List.mem_map.2 ⟨((1, 1, s), c), h, eq_of_beq hb⟩) hd.1
        rw [this]
        exact ih hd.2 h
  dsimp only
  rw [hl]
set_option maxHeartbeats 6400000 in
theorem divides_walk (a b : Int) (w : World) : Calls Try.prog 7 #[.int .i64 a, .int .i64 b] w (Told w (.bool true)) := by
  have HC := hide (Cx.start w (fun _ => False))
  by_cases a0 : a < -2147483648
  · have H1 := hide (two_as (s := [43]) (a := ⟨1, a, []⟩) (b := ⟨1, b, []⟩) (by decide) (by simp) (by simp) (two_bad (.inl (by rw [good_i]; simp [inR]; omega))))
    (go_enter Try.func7, Try.ntmps7; go_wp2_with (first | (go_at_call 23; refine (num_at _ _).mono ?_; rintro e w2 ⟨rfl, hg⟩; (replace HC := hide (HC.out.g hg); clear hg)) | (go_at_call 17; (refine (H1.out _).mono ?_; rintro e w2 ⟨rfl, hg⟩; (replace HC := hide (HC.out.g hg); clear hg))) | (go_at_call 11; refine (wakes_at _).mono ?_; rintro e w2 ⟨rfl, hg⟩; (replace HC := hide (HC.out.g hg); clear hg)) | (refine at_alloc 23 rfl ?_; refine wl_alloc rfl 23 rfl _ zV HC.out ?_; intro b w' hn hc; (replace HC := hide hc; clear hc)) | (refine at_store 23 rfl ?_; refine wl_store rfl 23 _ _ rfl rfl rfl tyV.sz rfl HC.out (by repeat (first | exact List.Mem.head _ | apply List.Mem.tail)) (by exact PutS.all _ _ rfl) (by repeat (first | exact Upd.here _ _ _ | apply Upd.there)) ?_; intro w' hc; (replace HC := hide hc; clear hc))); go_ret; exact ⟨rfl, HC.out.grown⟩)
  by_cases a1 : a ≥ 2147483648
  · have H1 := hide (two_as (s := [43]) (a := ⟨1, a, []⟩) (b := ⟨1, b, []⟩) (by decide) (by simp) (by simp) (two_bad (.inl (by rw [good_i]; simp [inR]; omega))))
    (go_enter Try.func7, Try.ntmps7; go_wp2_with (first | (go_at_call 23; refine (num_at _ _).mono ?_; rintro e w2 ⟨rfl, hg⟩; (replace HC := hide (HC.out.g hg); clear hg)) | (go_at_call 17; (refine (H1.out _).mono ?_; rintro e w2 ⟨rfl, hg⟩; (replace HC := hide (HC.out.g hg); clear hg))) | (go_at_call 11; refine (wakes_at _).mono ?_; rintro e w2 ⟨rfl, hg⟩; (replace HC := hide (HC.out.g hg); clear hg)) | (refine at_alloc 23 rfl ?_; refine wl_alloc rfl 23 rfl _ zV HC.out ?_; intro b w' hn hc; (replace HC := hide hc; clear hc)) | (refine at_store 23 rfl ?_; refine wl_store rfl 23 _ _ rfl rfl rfl tyV.sz rfl HC.out (by repeat (first | exact List.Mem.head _ | apply List.Mem.tail)) (by exact PutS.all _ _ rfl) (by repeat (first | exact Upd.here _ _ _ | apply Upd.there)) ?_; intro w' hc; (replace HC := hide hc; clear hc))); go_ret; exact ⟨rfl, HC.out.grown⟩)
  by_cases b0 : b < -2147483648
  · have H1 := hide (two_as (s := [43]) (a := ⟨1, a, []⟩) (b := ⟨1, b, []⟩) (by decide) (by simp) (by simp) (two_bad (.inr (by rw [good_i]; simp [inR]; omega))))
    (go_enter Try.func7, Try.ntmps7; go_wp2_with (first | (go_at_call 23; refine (num_at _ _).mono ?_; rintro e w2 ⟨rfl, hg⟩; (replace HC := hide (HC.out.g hg); clear hg)) | (go_at_call 17; (refine (H1.out _).mono ?_; rintro e w2 ⟨rfl, hg⟩; (replace HC := hide (HC.out.g hg); clear hg))) | (go_at_call 11; refine (wakes_at _).mono ?_; rintro e w2 ⟨rfl, hg⟩; (replace HC := hide (HC.out.g hg); clear hg)) | (refine at_alloc 23 rfl ?_; refine wl_alloc rfl 23 rfl _ zV HC.out ?_; intro b w' hn hc; (replace HC := hide hc; clear hc)) | (refine at_store 23 rfl ?_; refine wl_store rfl 23 _ _ rfl rfl rfl tyV.sz rfl HC.out (by repeat (first | exact List.Mem.head _ | apply List.Mem.tail)) (by exact PutS.all _ _ rfl) (by repeat (first | exact Upd.here _ _ _ | apply Upd.there)) ?_; intro w' hc; (replace HC := hide hc; clear hc))); go_ret; exact ⟨rfl, HC.out.grown⟩)
  by_cases b1 : b ≥ 2147483648
  · have H1 := hide (two_as (s := [43]) (a := ⟨1, a, []⟩) (b := ⟨1, b, []⟩) (by decide) (by simp) (by simp) (two_bad (.inr (by rw [good_i]; simp [inR]; omega))))
    (go_enter Try.func7, Try.ntmps7; go_wp2_with (first | (go_at_call 23; refine (num_at _ _).mono ?_; rintro e w2 ⟨rfl, hg⟩; (replace HC := hide (HC.out.g hg); clear hg)) | (go_at_call 17; (refine (H1.out _).mono ?_; rintro e w2 ⟨rfl, hg⟩; (replace HC := hide (HC.out.g hg); clear hg))) | (go_at_call 11; refine (wakes_at _).mono ?_; rintro e w2 ⟨rfl, hg⟩; (replace HC := hide (HC.out.g hg); clear hg)) | (refine at_alloc 23 rfl ?_; refine wl_alloc rfl 23 rfl _ zV HC.out ?_; intro b w' hn hc; (replace HC := hide hc; clear hc)) | (refine at_store 23 rfl ?_; refine wl_store rfl 23 _ _ rfl rfl rfl tyV.sz rfl HC.out (by repeat (first | exact List.Mem.head _ | apply List.Mem.tail)) (by exact PutS.all _ _ rfl) (by repeat (first | exact Upd.here _ _ _ | apply Upd.there)) ?_; intro w' hc; (replace HC := hide hc; clear hc))); go_ret; exact ⟨rfl, HC.out.grown⟩)
  have ia : inR a = true := by simp [inR]; omega
  have ib : inR b = true := by simp [inR]; omega
  have M1 := True.intro
  have hq := two_ii (s := [68, 73, 86]) (c := .quo) ia ib (by kernel_rfl)
  have hm := two_ii (s := [77, 79, 68]) (c := .rem) ia ib (by kernel_rfl)
  by_cases hb : b ≤ 0
  · have H1 := hide (two_as (by decide) (by simp) (by simp) (hq.trans (show divR b (a / b) = (⟨0, 0, []⟩, 121) from if_pos hb)))
    have H2 := hide (two_as (by decide) (by simp) (by simp) (hm.trans (show divR b (a % b) = (⟨0, 0, []⟩, 121) from if_pos hb)))
    clear hq hm ia ib
    dsimp only at H1 H2
    go_enter Try.func7, Try.ntmps7
    go_wp2_with (first | (go_at_call 23; refine (num_at _ _).mono ?_; rintro e w2 ⟨rfl, hg⟩; (replace HC := hide (HC.out.g hg); clear hg)) | (clear M1; go_at_call 17; (refine (H1.out _).mono ?_; rintro e w2 ⟨rfl, hg⟩; (replace HC := hide (HC.out.g hg); clear hg))) | (go_at_call 17; (refine (H2.out _).mono ?_; rintro e w2 ⟨rfl, hg⟩; (replace HC := hide (HC.out.g hg); clear hg))) | (go_at_call 11; refine (wakes_at _).mono ?_; rintro e w2 ⟨rfl, hg⟩; (replace HC := hide (HC.out.g hg); clear hg)) | (refine at_alloc 23 rfl ?_; refine wl_alloc rfl 23 rfl _ zV HC.out ?_; intro b w' hn hc; (replace HC := hide hc; clear hc)) | (refine at_store 23 rfl ?_; refine wl_store rfl 23 _ _ rfl rfl rfl tyV.sz rfl HC.out (by repeat (first | exact List.Mem.head _ | apply List.Mem.tail)) (by exact PutS.all _ _ rfl) (by repeat (first | exact Upd.here _ _ _ | apply Upd.there)) ?_; intro w' hc; (replace HC := hide hc; clear hc)))
    go_ret
    exact ⟨rfl, HC.out.grown⟩
  · have q1 := Int.mul_ediv_add_emod a b
    have q2 := Int.emod_nonneg a (show b ≠ 0 by omega)
    have q3 := Int.emod_lt_of_pos a (show 0 < b by omega)
    have q4 : -2147483648 ≤ a / b ∧ a / b < 2147483648 := by
      constructor
      · by_cases hn : 0 ≤ a / b
        · omega
        · rcases Int.lt_or_le (a / b) (-2147483648) with h | h
          · exfalso
            by_cases hb1 : b = 1
            · subst hb1; omega
            · have := Int.mul_le_mul_of_nonpos_right (c := a / b) (show 2 ≤ b by omega) (by omega)
              omega
          · exact h
      · by_cases hn : a / b ≤ 0
        · omega
        · have := Int.mul_le_mul_of_nonneg_right (c := a / b) (show 1 ≤ b by omega) (by omega)
          omega
    obtain ⟨Q, hQ⟩ : ∃ Q, a / b = Q := ⟨_, rfl⟩
    obtain ⟨R, hR⟩ : ∃ R, a % b = R := ⟨_, rfl⟩
    rw [hQ] at q1 q4
    rw [hR] at q1 q2 q3
    have H1 := hide (two_as (by decide) (by simp) (by simp) (hq.trans (show divR b (a / b) = (⟨1, Q, []⟩, 0) by rw [hQ]; exact (if_neg hb).trans (intR_yes (by simp [inR]; omega)))))
    have H2 := hide (two_as (by decide) (by simp) (by simp) (hm.trans (show divR b (a % b) = (⟨1, R, []⟩, 0) by rw [hR]; exact (if_neg hb).trans (intR_yes (by simp [inR]; omega)))))
    obtain ⟨P, hP⟩ : ∃ P, Q * b = P := ⟨_, rfl⟩
    rw [Int.mul_comm, hP] at q1
    have e1 : (P + R == a) = true := by simp; omega
    have e2 : decide (0 ≤ R) = true := by simp; omega
    have e3 : R ≥ 0 := q2
    have p0 : -9223372036854775808 ≤ P ∧ P < 9223372036854775808 := by omega
    obtain ⟨p0, p1⟩ := p0
    obtain ⟨q5, q6⟩ := q4
    clear hq hm ia ib hQ hR
    dsimp only at H1 H2
    go_enter Try.func7, Try.ntmps7
    go_wp2_with (first | (go_at_call 23; refine (num_at _ _).mono ?_; rintro e w2 ⟨rfl, hg⟩; (replace HC := hide (HC.out.g hg); clear hg)) | (clear M1; go_at_call 17; (refine (H1.out _).mono ?_; rintro e w2 ⟨rfl, hg⟩; (replace HC := hide (HC.out.g hg); clear hg))) | (go_at_call 17; (refine (H2.out _).mono ?_; rintro e w2 ⟨rfl, hg⟩; (replace HC := hide (HC.out.g hg); clear hg))) | (go_at_call 11; refine (wakes_at _).mono ?_; rintro e w2 ⟨rfl, hg⟩; (replace HC := hide (HC.out.g hg); clear hg)) | (refine at_alloc 23 rfl ?_; refine wl_alloc rfl 23 rfl _ zV HC.out ?_; intro b w' hn hc; (replace HC := hide hc; clear hc)) | ((refine at_store 23 rfl ?_; refine wl_store rfl 23 _ _ rfl rfl rfl tyV.sz rfl HC.out (by repeat (first | exact List.Mem.head _ | apply List.Mem.tail)) (by exact PutS.all _ _ rfl) (by repeat (first | exact Upd.here _ _ _ | apply Upd.there)) ?_; intro w' hc; (replace HC := hide hc; clear hc)); (try (obtain ⟨r0, r1⟩ := cell11 HC.out))))
    go_ret
    exact ⟨rfl, HC.out.grown⟩
end Go.Proofs.Ytgdpcdpkaaefbaa.Cn
