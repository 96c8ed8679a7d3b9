/-
  The document's own tables (package spinetref13): two types held against one another, two that are equal.
-/
import Derived.Test.YthmldhppmpbadaaTg17
namespace Go.Proofs.Ythmldhppmpbadaa.Ty
open Go.RowKit hiding Hid
open Go.Maps Go.Proofs.Ythmldhppmpbadaa.Tx Go.Proofs.Ythmldhppmpbadaa.Lx Go.Proofs.Ythmldhppmpbadaa.Tr Go.Proofs.Ythmldhppmpbadaa.Mp
set_option linter.unusedVariables false
set_option linter.unusedSimpArgs false
set_option maxRecDepth 100000

theorem drewN_g (w : World) (n : Nat) : w.grownBy (w.drewN n) none := ⟨rfl, rfl, rfl, Nat.le_refl _, fun _ _ _ => rfl⟩
theorem three_c {w : World} {A : Addr} {f : Fl} (h : ∀ j u, (flC f)[j]? = some u → w.cell? (A.add j) = some u) : w.cell? A = some (.string (bs f.n)) ∧ w.cell? ⟨A.block, A.off + 1, none⟩ = some (.bool f.x) ∧ w.cell? ⟨A.block, A.off + 2, none⟩ = some (.int .i64 f.t) := by
  have h0 := h 0 _ rfl
  have h1 := h 1 _ rfl
  have h2 := h 2 _ rfl
  rw [Addr.add_zero'] at h0
  rw [Addr.add_succ'] at h1 h2
  simp only [Nat.zero_add, Nat.reduceAdd] at h1 h2
  exact ⟨h0, h1, h2⟩
theorem two_c {w : World} {A : Addr} {f : Pm} (h : ∀ j u, (pmC f)[j]? = some u → w.cell? (A.add j) = some u) : w.cell? A = some (.bool f.v) ∧ w.cell? ⟨A.block, A.off + 1, none⟩ = some (.int .i64 f.t) := by
  have h0 := h 0 _ rfl
  have h1 := h 1 _ rfl
  rw [Addr.add_zero'] at h0
  rw [Addr.add_succ'] at h1
  simp only [Nat.zero_add, Nat.reduceAdd] at h1
  exact ⟨h0, h1⟩
set_option maxHeartbeats 8000000 in
theorem alike_e {w : World} {a b : La} (ha : Lp w a) (hb : Lp w b) (he : a.x = b.x) : Calls Try.prog 50 #[.agg (laC a).toArray, .agg (laC b).toArray] w fun e w' => e = .returned (.bool true) ∧ w.grownBy w' none := by
  obtain ⟨⟨fm, md, nm, ln, el, ba, fl, pr, rs, ds⟩, fo, fc, po, pc⟩ := a
  obtain ⟨y, fo2, fc2, po2, pc2⟩ := b
  dsimp only at he
  subst he
  have HF1 := hide ha.fl
  have HF2 := hide hb.fl
  have HP1 := hide ha.pm
  have HP2 := hide hb.pm
  have q1 := ha.sm.fl
  have q2 := ha.sm.pm
  dsimp only at HF1 HF2 HP1 HP2 q1 q2
  have HC := hide (Cx.start w (fun _ => False))
  have k1 : (fl.length : Int) ≤ 1000000 := by omega
  have k2 : (pr.length : Int) ≤ 1000000 := by omega
  clear ha hb q1 q2
  unfold laC
  dsimp only
  (go_enter Try.func50, Try.ntmps50; have M1 := True.intro; go_upto_region 1 with (first | (clear M1; (refine at_box 48 rfl ?_; refine wl_box rfl 48 _ rfl _ rfl HC.out ?_; intro b1 w' hn hc; (replace HC := hide hc; clear hc))) | ((refine at_box 48 rfl ?_; refine wl_box rfl 48 _ rfl _ rfl HC.out ?_; intro b2 w' hn hc; (replace HC := hide hc; clear hc)); (obtain ⟨c0, c1, c2, c3, c4, c5, c6, c7, c8, c9⟩ := ten_f HC.out; obtain ⟨e0, e1, e2, e3, e4, e5, e6, e7, e8, e9⟩ := ten_f HC.out.drop))))
  go_wp2
  go_loopw [5] (fun iv W => ∃ k : Nat, k ≤ fl.length ∧ iv = .int .i64 k ∧ Hid (Cx w (fun _ => False) none [⟨b2, [.int .i64 fm, .string (bs md), .string (bs nm), .int .i64 ln, .int .i64 el, .int .i64 ba, .slice fo2 fl.length fc2, .slice po2 pr.length pc2, .int .i64 rs, .int .i64 ds], 48⟩, ⟨b1, [.int .i64 fm, .string (bs md), .string (bs nm), .int .i64 ln, .int .i64 el, .int .i64 ba, .slice fo fl.length fc, .slice po pr.length pc, .int .i64 rs, .int .i64 ds], 48⟩] [] [] W)) (fun iv _ => fl.length - (intOf iv).toNat)
  case atStart => exact ⟨0, by omega, rfl, HC⟩
  case round =>
    (clear HC; clear c0 c1 c2 c3 c4 c5 c6 c7 c8 c9 e0 e1 e2 e3 e4 e5 e6 e7 e8 e9)
    obtain ⟨k, hk, rfl, HC⟩ := hrel
    (obtain ⟨c0, c1, c2, c3, c4, c5, c6, c7, c8, c9⟩ := ten_f HC.out; obtain ⟨e0, e1, e2, e3, e4, e5, e6, e7, e8, e9⟩ := ten_f HC.out.drop)
    by_cases hlt : k < fl.length
    · have r1 : (k : Int) < fl.length := by omega
      obtain ⟨x, hx⟩ : ∃ p, fl[k]? = some p := ⟨fl[k], List.getElem?_eq_getElem hlt⟩
      obtain ⟨p1, rfl, hel⟩ := HF1.out.el flC_len (by decide) hx
      obtain ⟨p2, rfl, hel2⟩ := HF2.out.el flC_len (by decide) hx
      obtain ⟨A1, hA1⟩ : ∃ B, p1.add (k * 3) = B := ⟨_, rfl⟩
      obtain ⟨A2, hA2⟩ : ∃ B, p2.add (k * 3) = B := ⟨_, rfl⟩
      rw [hA1] at hel
      rw [hA2] at hel2
      obtain ⟨g0, g1, g2⟩ := three_c (fun j u hu => HC.out.grown.cell (hel j u hu) (by simp))
      obtain ⟨l0, l1, l2⟩ := three_c (fun j u hu => HC.out.grown.cell (hel2 j u hu) (by simp))
      have bl1 := block_lt_of_cell g0
      have bl2 := block_lt_of_cell l0
      clear hel hel2 hx
      go_wp2
      go_quiet (fail)
      go_wp2
      exact ⟨⟨k + 1, by omega, by go_num, hide (HC.out.g (drewN_g _ nq))⟩, by simp [intOf]; omega⟩
    · obtain rfl : k = fl.length := by omega
      go_wp2
      go_loopw [6] (fun iv W => ∃ k : Nat, k ≤ pr.length ∧ iv = .int .i64 k ∧ Hid (Cx w (fun _ => False) none [⟨b2, [.int .i64 fm, .string (bs md), .string (bs nm), .int .i64 ln, .int .i64 el, .int .i64 ba, .slice fo2 fl.length fc2, .slice po2 pr.length pc2, .int .i64 rs, .int .i64 ds], 48⟩, ⟨b1, [.int .i64 fm, .string (bs md), .string (bs nm), .int .i64 ln, .int .i64 el, .int .i64 ba, .slice fo fl.length fc, .slice po pr.length pc, .int .i64 rs, .int .i64 ds], 48⟩] [] [] W)) (fun iv _ => pr.length - (intOf iv).toNat)
      case atStart => exact ⟨0, by omega, rfl, HC⟩
      case round =>
        (clear HC; clear c0 c1 c2 c3 c4 c5 c6 c7 c8 c9 e0 e1 e2 e3 e4 e5 e6 e7 e8 e9)
        obtain ⟨k, hk, rfl, HC⟩ := hrel
        (obtain ⟨c0, c1, c2, c3, c4, c5, c6, c7, c8, c9⟩ := ten_f HC.out; obtain ⟨e0, e1, e2, e3, e4, e5, e6, e7, e8, e9⟩ := ten_f HC.out.drop)
        by_cases hlt : k < pr.length
        · have r1 : (k : Int) < pr.length := by omega
          obtain ⟨x, hx⟩ : ∃ p, pr[k]? = some p := ⟨pr[k], List.getElem?_eq_getElem hlt⟩
          obtain ⟨p1, rfl, hel⟩ := HP1.out.el pmC_len (by decide) hx
          obtain ⟨p2, rfl, hel2⟩ := HP2.out.el pmC_len (by decide) hx
          obtain ⟨A1, hA1⟩ : ∃ B, p1.add (k * 2) = B := ⟨_, rfl⟩
          obtain ⟨A2, hA2⟩ : ∃ B, p2.add (k * 2) = B := ⟨_, rfl⟩
          rw [hA1] at hel
          rw [hA2] at hel2
          obtain ⟨g0, g1⟩ := two_c (fun j u hu => HC.out.grown.cell (hel j u hu) (by simp))
          obtain ⟨l0, l1⟩ := two_c (fun j u hu => HC.out.grown.cell (hel2 j u hu) (by simp))
          have bl1 := block_lt_of_cell g0
          have bl2 := block_lt_of_cell l0
          clear hel hel2 hx
          go_wp2
          go_quiet (fail)
          go_wp2
          exact ⟨⟨k + 1, by omega, by go_num, hide (HC.out.g (drewN_g _ nq))⟩, by simp [intOf]; omega⟩
        · obtain rfl : k = pr.length := by omega
          go_wp2
          go_ret
          exact ⟨rfl, HC.out.grown⟩
end Go.Proofs.Ythmldhppmpbadaa.Ty
