/-
  The walk of TopLines.
-/
import Derived.Test.YtfdofleohichiaaGreatDoorBk
import Derived.Test.YtfdofleohichiaaGreatDoorCwkt
import Derived.Test.YtfdofleohichiaaGreatDoorCsep
namespace Go.Proofs.YtfdofleohichiaaGreatDoor.Top
open Go.RowKit Go.Maps Go.Proofs.YtfdofleohichiaaGreatDoor.Bits Go.Proofs.YtfdofleohichiaaGreatDoor.Gw Go.Proofs.YtfdofleohichiaaGreatDoor.Risc Go.Proofs.YtfdofleohichiaaGreatDoor.Alu Go.Proofs.YtfdofleohichiaaGreatDoor.Mem Go.Proofs.YtfdofleohichiaaGreatDoor.Cpu Go.Proofs.YtfdofleohichiaaGreatDoor.Tx Go.Proofs.YtfdofleohichiaaGreatDoor.Mp
open Go.Proofs.YtfdofleohichiaaGreatDoor.Asm (AH Sr Wl linesT clines_any words_lines kwords_any empty_new below_gg)
set_option linter.unusedVariables false
set_option maxRecDepth 100000

theorem same_out (e t n d : Int) (z : ByteArray) (w : World) :
    Calls Tryz.prog 10 #[.agg #[.int .i64 e, .int .i64 t, .string z, .int .i64 n, .int .i64 d], .agg #[.int .i64 e, .int .i64 t, .string z, .int .i64 n, .int .i64 d]] w fun r w' => r = .returned (.bool true) ∧ w.grownBy w' none := by
  go_enter Tryz.func10, Tryz.ntmps10
  go_wp2
  go_ret
  exact ⟨rfl, grown_g (((G.refl w).alloc _ _).alloc _ _) none⟩
theorem sr_src {w : World} {ao : Option Addr} {xs : List Int} (S : Sr w ao xs) : Src w ao xs := by
  refine ⟨fun h => ?_, fun ad h j u hu => ?_⟩
  · cases xs with
    | nil => rfl
    | cons x xs =>
      obtain ⟨a, e, _⟩ := S.at_ 0 x rfl
      rw [h] at e; cases e
  · rw [List.getElem?_map] at hu
    cases hx : xs[j]? with
    | none => rw [hx] at hu; cases hu
    | some x =>
      rw [hx] at hu
      cases hu
      obtain ⟨a, e, hc⟩ := S.at_ j x hx
      rw [h] at e
      cases e
      exact hc
theorem sr_rng {w : World} {ao : Option Addr} {xs : List Int} (S : Sr w ao xs) : inR xs := fun x hx => S.rng x hx
theorem oc_box (w : World) (e t : Int) (z : ByteArray) (n d : Int) : w.grownBy (w.alloc (.cells #[.int .i64 e, .int .i64 t, .string z, .int .i64 n, .int .i64 d] 33)) none := World.grownBy_alloc _ _ _
set_option maxHeartbeats 4000000 in
theorem lines_walk (w : World) (A : AH w) (o0 : Option Addr) (n0 c0 : Nat) (x0 : List Int) (W0 : Wl w o0 n0 c0 x0) (inp : ByteArray) (z1 : inp.size ≤ maxLen) (fl : Int) :
    Calls Tryz.prog 3 #[.slice o0 n0 c0, .string inp, .int .i64 fl] w fun e w' => e = .returned (.bool true) ∧ w.grownBy w' none := by
  have HA := hd A
  have hmx := W0.max
  unfold maxLen at hmx z1
  have HW := hd W0
  clear A W0
  by_cases hn : 2000 < n0
  · go_enter Tryz.func3, Tryz.ntmps3
    go_wp2_with fail
    (refine (wakes_any _ HA.out.al.risc).mono ?_; rintro e w3 ⟨rfl, hg3⟩; go_wp2_with fail; go_ret; exact ⟨rfl, hg3⟩)
  · by_cases hi : 4000 < inp.size
    · go_enter Tryz.func3, Tryz.ntmps3
      go_wp2_with fail
      (refine (wakes_any _ HA.out.al.risc).mono ?_; rintro e w3 ⟨rfl, hg3⟩; go_wp2_with fail; go_ret; exact ⟨rfl, hg3⟩)
    · by_cases hf1 : fl < 0
      · go_enter Tryz.func3, Tryz.ntmps3
        go_wp2_with fail
        (refine (wakes_any _ HA.out.al.risc).mono ?_; rintro e w3 ⟨rfl, hg3⟩; go_wp2_with fail; go_ret; exact ⟨rfl, hg3⟩)
      · by_cases hf2 : 20000 < fl
        · go_enter Tryz.func3, Tryz.ntmps3
          go_wp2_with fail
          (refine (wakes_any _ HA.out.al.risc).mono ?_; rintro e w3 ⟨rfl, hg3⟩; go_wp2_with fail; go_ret; exact ⟨rfl, hg3⟩)
        · obtain ⟨k, rfl⟩ := Int.eq_ofNat_of_zero_le (show 0 ≤ fl by omega)
          have HE := hd (HW.out.g (World.grownBy_alloc w (.cells #[] 44) none))
          go_enter Tryz.func3, Tryz.ntmps3
          go_wp2_with (at_builtin; refine Asm.wpList_append_src rfl _ _ rfl w.heap.size rfl (empty_new _ _) o0 n0 c0 rfl x0 HE.out (by omega) w.heap.size (Nat.le_refl _) ?_)
          intro ao' c' w1 S1 hb1
          have hl0 := HW.out.len
          have HG1 := hd (below_gg (World.grownBy_alloc w (.cells #[] 44) none) hb1)
          have HR := hd HW.out.src.rng
          subst hl0
          have HS1 := hd S1
          clear S1 hb1
          go_wp2_with fail
          refine (clines_any c' (by omega) w1 (HA.out.g HG1.out) HS1.out).mono ?_
          rintro e w2 ⟨rfl, hg2⟩
          go_wp2_with fail
          refine (words_lines x0 HR.out (by omega) w2 (HA.out.g (grown_trans HG1.out hg2))).mono ?_
          rintro e w3 ⟨hg3, a3, c3, rfl, S3⟩
          have HG3 := hd (grown_trans (grown_trans HG1.out hg2) hg3)
          have HS3 := hd S3
          have HE3 := hd (HW.out.g (grown_trans HG3.out (World.grownBy_alloc w3 (.cells #[] 44) none)))
          clear S3 hg2 hg3 HG1 HS1 HE
          go_wp2_with (at_builtin; refine Asm.wpList_append_src rfl _ _ rfl w3.heap.size rfl (empty_new _ _) o0 x0.length c0 rfl x0 HE3.out (by omega) w3.heap.size (Nat.le_refl _) ?_)
          intro ao4 c4 w4 S4 hb4
          have HGa := hd (below_gg (World.grownBy_alloc w3 (.cells #[] 44) none) hb4)
          have HG4 := hd (grown_trans HG3.out HGa.out)
          have HN1 := hd (cnew_ok (cp := c4) (inp := inp) (start := 0) (HA.out.g HG4.out).al.risc (sr_src S4) (sr_rng S4) rfl (by omega) (by omega) (by decide) (by omega))
          have HS4 := hd (HS3.out.g HGa.out)
          clear S4 hb4 HE3 HS3 HGa
          go_wp2_with (go_at_call 7; refine HN1.out.mono ?_; rintro e w5 ⟨a1, h1, b1, rfl, hm, hg, ha, hh, hb'⟩; have HM1 := hd hm; have HR1 := hd (And.intro ha (And.intro hh hb')); have HG5 := hd (grown_trans HG4.out hg); have HZ4 := hd HG4.out.size; have HS5 := hd (HS4.out.g hg); clear HN1 HS4 hm hg ha hh hb')
          refine (cnew_ok (cp := c3) (inp := inp) (start := 0) (HA.out.g HG5.out).al.risc (sr_src HS5.out) (sr_rng HS5.out) rfl (by omega) (by omega) (by decide) (by omega)).mono ?_
          rintro e w6 ⟨a2, h2, b2, rfl, hm, hg, ha, hh, hb'⟩
          have HT : Hid (Two w w6 inp a1 h1 b1 (.slice none 0 0) (Ms.init x0 0) a2 h2 b2 (.slice none 0 0) (Ms.init x0 0)) := by
            obtain ⟨r1, r2, r3⟩ := HR1.out
            have z2 := HG5.out.size
            have z3 := HZ4.out
            have l1 := HM1.out.ffp_lt
            exact hd ⟨HM1.out.grown hg, hm, sep_new (fun k hk => l1 k hk) (ffp_nil (by omega) (by omega) (by omega)), grown_trans HG5.out hg, ffp_nil (by omega) (by omega) (by omega), ffp_nil (by omega) (by omega) (by omega)⟩
          have HS6 := hd (HS5.out.g hg)
          have HG6 := hd (grown_trans HG5.out hg)
          clear hm hg ha hh hb' HM1 HR1 HZ4 HS5 HG5 HG4 HG3
          go_wp2_with fail
          refine (kwords_any c3 c0 HS6.out (HW.out.src.g HG6.out) (by omega)).mono ?_
          rintro e w7 ⟨rfl, hg7⟩
          replace HT := hd (HT.out.by hg7)
          clear HS6 HG6 hg7
          obtain ⟨S, hS⟩ : ∃ S, it inp k (Ms.init x0 0) = S := ⟨_, rfl⟩
          obtain ⟨N, hN⟩ : ∃ N, ct inp k (Ms.init x0 0) = N := ⟨_, rfl⟩
          have HSS := hd (And.intro hS hN)
          clear hS hN
          go_wp2_with fail
          refine (run_at HT.out.m k k rfl (by omega) HSS.out.1 HSS.out.2).mono ?_
          rintro e w8 ⟨o1, rfl, hm, hc, hn'⟩
          have HT1 := hd (HT.out.run1 hm hc hn')
          clear hm hc hn' HT
          go_wp2_with fail
          have HX := hd (oc_new w8 S.en S.tr (strO S.out) N S.rd)
          replace HT1 := hd (HT1.out.by (oc_box w8 S.en S.tr (strO S.out) N S.rd))
          generalize (w8.alloc (Obj.cells #[Value.int IntKind.i64 S.en, Value.int IntKind.i64 S.tr, Value.string (strO S.out), Value.int IntKind.i64 ↑N, Value.int IntKind.i64 ↑S.rd] 33)) = V8 at HX HT1 ⊢
          generalize w8.heap.size = X1 at HX ⊢
          refine (run_at HT1.out.n k k rfl (by omega) HSS.out.1 HSS.out.2).mono ?_
          rintro e w9 ⟨o2, rfl, hm, hc, hn'⟩
          have HT2 := hd (HT1.out.run2 hm hc hn')
          have HX2 := hd (HX.out.chg hc (HX.out.fp HT1.out.n))
          clear hm hc hn' HT1 HX
          obtain ⟨x0', x1', x2', x3', x4'⟩ := HX2.out.c
          have xl := HX2.out.lt
          clear HX2
          go_wp2_with (first
            | (go_at_call 10; refine (same_out _ _ _ _ _ _).mono ?_; rintro e w10 ⟨rfl, hg⟩; have HG10 := hd (grown_trans (World.grownBy_alloc _ _ none) hg); clear hg)
            | (go_at_call 4; refine (wakes_any _ (HT2.out.m.grown HG10.out).laid).mono ?_; rintro e w11 ⟨rfl, hg⟩; have HWK := hd hg; clear hg))
          go_ret
          exact ⟨rfl, grown_trans (grown_trans HT2.out.g HG10.out) HWK.out⟩
end Go.Proofs.YtfdofleohichiaaGreatDoor.Top
