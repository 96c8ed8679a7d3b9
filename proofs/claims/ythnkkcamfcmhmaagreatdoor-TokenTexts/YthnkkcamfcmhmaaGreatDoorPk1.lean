/-
  Package token: its tables in memory; run, comment.
-/
import Derived.Test.YthnkkcamfcmhmaaGreatDoorLx11
import Derived.Test.YthnkkcamfcmhmaaGreatDoorMp1
import Derived.Test.YthnkkcamfcmhmaaGreatDoorLr11
namespace Go.Proofs.YthnkkcamfcmhmaaGreatDoor.Lx
open Go.RowKit Go.Maps Go.Proofs.YthnkkcamfcmhmaaGreatDoor.Tx Go.Proofs.YthnkkcamfcmhmaaGreatDoor.Mp
set_option linter.unusedVariables false
set_option linter.unusedSimpArgs false
set_option maxRecDepth 100000

def keyPs : List (Value × Value) := keys.map fun k => (.string (bs k), .int .i64 2)
/- Block tb holds the classes of bytes and the map of keywords. -/
structure Tb (w : World) (tb : Nat) : Prop where
  cell : ∀ j, j < 256 → w.cell? ⟨tb, j, none⟩ = some (.int .u8 (cls j : Int))
  keys : ∃ mb, w.cell? ⟨tb, 256, none⟩ = some (.map (some mb)) ∧ MapL Tryz.prog 9 w mb keyPs
  blk : ∃ R fr, w.heap[tb]? = some (.cells R 63 fr)
theorem Tb.lt {w : World} {tb : Nat} (T : Tb w tb) : tb < w.heap.size := by
  obtain ⟨mb, h, _⟩ := T.keys
  exact block_lt_of_cell h
theorem Tb.kept {w w' : World} {tb : Nat} (T : Tb w tb) (hg : w.grownBy w' none) : Tb w' tb := by
  have hl := T.lt
  obtain ⟨mb, h, hm⟩ := T.keys
  obtain ⟨R, fr, hR⟩ := T.blk
  exact ⟨fun j hj => (gcell hg _ _ hl).trans (T.cell j hj), ⟨mb, (gcell hg _ _ hl).trans h, hm.kept hg (by simp)⟩, R, fr, (hg.block _ hl (by simp)).trans hR⟩
theorem run_len {p : UInt8 → Bool} {s : List UInt8} {n : Nat} (hn : n ≤ s.length) (h1 : (s.take n).all p = true) (h2 : ∀ c, s[n]? = some c → p c = false) : (s.takeWhile p).length = n := by
  rw [tw_is p s n hn (fun i hi c hc => List.all_eq_true.1 h1 c (by
    have : (s.take n)[i]? = some c := by rw [List.getElem?_take, if_pos hi]; exact hc
    exact List.mem_of_getElem? this)) h2, List.length_take]
  omega
theorem drewN_g (w : World) (d : Nat) : w.grownBy (w.drewN d) none := ⟨rfl, rfl, rfl, Nat.le_refl _, fun _ _ _ => rfl⟩
theorem keep_d {W : World} {k : Nat} {o : Obj} (n : Nat) (h : W.heap[k]? = some o) : (W.drewN n).heap[k]? = some o := h
theorem dr_g {w W : World} (n : Nat) (h : w.grownBy W none) : w.grownBy (W.drewN n) none := grown_trans h (drewN_g _ _)
theorem g_refl (w : World) : w.grownBy w none := ⟨rfl, rfl, rfl, Nat.le_refl _, fun _ _ _ => rfl⟩
set_option maxHeartbeats 2000000 in
theorem run_any (s : List UInt8) (of : Int) (p : UInt8 → Bool) (hp : ∀ c : UInt8, (bits .and .u8 (cls c.toNat : Int) of != 0) = p c) (w : World) (tb : Nat) (T : Tb w tb) (hs : s.length ≤ 1000000) :
    Calls Tryz.prog 32 #[.pointer (some ⟨tb, 0, none⟩), .string (bs s), .int .u8 of] w fun e w' => e = .returned (.int .i64 ((s.takeWhile p).length : Nat)) ∧ w.grownBy w' none := by
  have hsz := bs_size s
  have HT := hide T
  have HP := hide hp
  clear T hp
  go_enter Tryz.func32, Tryz.ntmps32
  go_wp2
  go_loopw [7] (fun nv W => ∃ n : Nat, n ≤ s.length ∧ nv = .int .i64 n ∧ Hid ((s.take n).all p = true) ∧ Hid (w.grownBy W none)) (fun nv _ => s.length - (intOf nv).toNat)
  case atStart => exact ⟨0, Nat.zero_le _, rfl, hide rfl, hide (g_refl _)⟩
  case round =>
    obtain ⟨n, hn, rfl, HA, HG⟩ := hrel
    by_cases hlt : n < s.length
    · have j1 : (n : Int) < s.length := by omega
      obtain ⟨c, hc⟩ : ∃ c, s[n] = c := ⟨_, rfl⟩
      have hb : ∀ h, (bs s)[n]'h = c := fun h => hc
      have HC := hide (show s[n]? = some c by rw [List.getElem?_eq_getElem hlt, hc])
      have hcell := (HT.out.kept HG.out).cell c.toNat c.toNat_lt
      have hv := c.toNat_lt
      obtain ⟨C, hC⟩ : ∃ C : Int, (cls c.toNat : Int) = C := ⟨_, rfl⟩
      have hq := HP.out c
      rw [hC] at hcell hq
      obtain ⟨D, hD⟩ : ∃ D : Int, bits .and .u8 C of = D := ⟨_, rfl⟩
      rw [hD] at hq
      cases hpc : p c
      · rw [hpc] at hq
        have HL := hide (run_len hn HA.out (fun d hd => by rw [HC.out] at hd; cases hd; exact hpc))
        clear hc hC hpc
        go_wp2
        go_quiet (fail)
        go_wp2
        go_ret
        refine ⟨?_, grown_trans HG.out (drewN_g _ _)⟩
        rw [HL.out]
        rfl
      · rw [hpc] at hq
        have HN := hide (all_on HC.out HA.out hpc)
        clear hc hC hpc
        go_wp2
        go_quiet (fail)
        go_wp2
        go_roundw
        case rel => exact ⟨n + 1, by omega, by go_num, HN, hide (grown_trans HG.out (drewN_g _ _))⟩
        case measure => simp [intOf]; omega
    · have j1 : ¬ (n : Int) < s.length := by omega
      obtain rfl : n = s.length := by omega
      have HL := hide (run_len (Nat.le_refl _) HA.out (fun d hd => by rw [List.getElem?_eq_none (Nat.le_refl _)] at hd; cases hd))
      go_wp2
      go_quiet (fail)
      go_wp2
      go_ret
      refine ⟨?_, grown_trans HG.out (drewN_g _ _)⟩
      rw [HL.out]
      rfl
theorem and_is (of : Int) (p : UInt8 → Bool) (h : ∀ j : Fin 256, (bits .and .u8 (cls j.1 : Int) of != 0) = p (UInt8.ofNat j.1)) (c : UInt8) : (bits .and .u8 (cls c.toNat : Int) of != 0) = p c := by
  have := h ⟨c.toNat, c.toNat_lt⟩
  simpa using this
theorem and_bl (c : UInt8) : (bits .and .u8 (cls c.toNat : Int) 1 != 0) = blkN c := and_is 1 blkN (fun j => (cls_all j).2.1) c
theorem and_le (c : UInt8) : (bits .and .u8 (cls c.toNat : Int) 2 != 0) = letN c := and_is 2 letN (fun j => (cls_all j).2.2.1) c
theorem and_di (c : UInt8) : (bits .and .u8 (cls c.toNat : Int) 4 != 0) = digN c := and_is 4 digN (fun j => (cls_all j).2.2.2.1) c
theorem and_ld (c : UInt8) : (bits .and .u8 (cls c.toNat : Int) 6 != 0) = ldN c := and_is 6 ldN (fun j => (cls_all j).2.2.2.2.1) c
theorem and_hx (c : UInt8) : (bits .and .u8 (cls c.toNat : Int) 8 != 0) = hexN c := and_is 8 hexN (fun j => (cls_all j).2.2.2.2.2.1) c
theorem and_st (c : UInt8) : (bits .and .u8 (cls c.toNat : Int) 16 != 0) = strN c := and_is 16 strN (fun j => (cls_all j).2.2.2.2.2.2) c
/- The comment at a text's beginning. -/
def cmZ (o : Option Nat) : Int := match o with | some k => (k : Int) | none => 0
set_option maxHeartbeats 2000000 in
theorem pcomment_at (s : List UInt8) (w : World) (hs : s.length ≤ 1000000) (hc : cmB s = true) :
    Calls Tryz.prog 34 #[.string (bs s)] w fun e w' => e = .returned (.int .i64 (cmZ (cmt 0 s))) ∧ w' = w := by
  have hsz := bs_size s
  have b1 : (⟨#[40, 42]⟩ : ByteArray) = bs [40, 42] := rfl
  have b2 : (⟨#[42, 41]⟩ : ByteArray) = bs [42, 41] := rfl
  have HC := hide hc
  clear hc
  go_enter Tryz.func34, Tryz.ntmps34
  go_wp2
  go_loop [3, 4] (fun dv av => ∃ (q d : Nat), q ≤ s.length ∧ av = .int .i64 q ∧ dv = .int .i64 d ∧ d ≤ q ∧ Hid ((q = 0 ∧ d = 0) ∨ 1 ≤ d) ∧ Hid (cmt 0 s = (cmt d (s.drop q)).map (· + q))) (fun _ av => s.length - (intOf av).toNat)
  case atStart => exact ⟨0, 0, Nat.zero_le _, rfl, rfl, Nat.zero_le _, hide (.inl ⟨rfl, rfl⟩), hide (by simp)⟩
  case round =>
    obtain ⟨q, d, hq, rfl, rfl, hdq, HD, HE⟩ := hrel
    by_cases hlt : q + 1 < s.length
    · obtain ⟨a, b, r, e0, e1, e2⟩ := two_at hlt
      have hx : (bs s).extract q (q + 2) = bs [a, b] := by rw [bs_ext, show q + 2 - q = 2 by omega, e0]; rfl
      have j1 : (q : Int) + 1 < s.length := by omega
      have j2 : (q : Int) + 2 ≤ s.length := by omega
      have j3 : (q : Int) ≤ (q : Int) + 2 := by omega
      have j4 : ((q : Int) + 2).toNat = q + 2 := by omega
      have q1 := bs_eqB [a, b] [40, 42]
      have q2 := bs_eqB [a, b] [42, 41]
      have HE0 := hide e0
      have HE1 := hide e1
      have HE2 := hide e2
      clear e0 e1 e2
      by_cases h1 : a = 40 ∧ b = 42
      · rw [h1.1, h1.2] at q1 q2 hx HE0
        have t1 : (([40, 42] : List UInt8) == [40, 42]) = true := rfl
        rw [t1] at q1
        have hd2 : ((d : Int) + 1 == 0) = false := by simp; omega
        clear h1 t1
        go_wp2
        refine ⟨⟨q + 2, d + 1, by omega, by go_num, by go_num, by omega, hide (.inr (by omega)), hide ?_⟩, by simp [intOf]; omega⟩
        rw [HE.out, cmt_in HE0.out, HE2.out, map_map2, show 2 + q = q + 2 by omega]
      · have t1 : (([a, b] : List UInt8) == [40, 42]) = false := by simp; exact fun e f => h1 ⟨e, f⟩
        rw [t1] at q1
        have hd1 : 1 ≤ d := by
          rcases HD.out with ⟨e1, e2⟩ | h
          · exfalso
            have h2 := HC.out
            have h3 := HE0.out
            rw [e1, List.drop_zero] at h3
            rw [h3] at h2
            simp [cmB] at h2
            exact h1 h2
          · exact h
        by_cases h2 : a = 42 ∧ b = 41
        · rw [h2.1, h2.2] at q1 q2 hx HE0
          have t2 : (([42, 41] : List UInt8) == [42, 41]) = true := rfl
          rw [t2] at q2
          clear h1 h2 t1 t2
          by_cases hd : d = 1
          · subst hd
            go_wp2
            go_ret
            refine ⟨?_, rfl⟩
            rw [HE.out, cmt_end HE0.out]
            show Ending.returned (Value.int .i64 ((q : Int) + 1 + 1)) = .returned (.int .i64 ((2 + q : Nat) : Int))
            rw [show ((2 + q : Nat) : Int) = (q : Int) + 1 + 1 by omega]
          · have hd2 : ((d : Int) - 1 == 0) = false := by simp; omega
            have hd3 : ((d : Int) == 1) = false := by simp; omega
            go_wp2
            refine ⟨⟨q + 2, d - 1, by omega, by go_num, by go_num, by omega, hide (.inr (by omega)), hide ?_⟩, by simp [intOf]; omega⟩
            rw [HE.out, cmt_out hd HE0.out, HE2.out, map_map2, show 2 + q = q + 2 by omega]
        · have t2 : (([a, b] : List UInt8) == [42, 41]) = false := by simp; exact fun e f => h2 ⟨e, f⟩
          rw [t2] at q2
          have HO := hide (cmt_on (d := d) (r := r) h1 h2)
          have hd2 : ((d : Int) == 0) = false := by simp; omega
          clear h1 h2 t1 t2
          go_wp2
          refine ⟨⟨q + 1, d, by omega, by go_num, rfl, by omega, hide (.inr hd1), hide ?_⟩, by simp [intOf]; omega⟩
          rw [HE.out, HE0.out, HO.out, HE1.out, map_map2, show 1 + q = q + 1 by omega]
    · have j1 : ¬ (q : Int) + 1 < s.length := by omega
      go_wp2
      go_ret
      refine ⟨?_, rfl⟩
      rw [HE.out, cmt_short (by rw [List.length_drop]; omega)]
      rfl
end Go.Proofs.YthnkkcamfcmhmaaGreatDoor.Lx
