/-
  The walk of TopWords.
-/
import Derived.Test.YtfdofleohichiaaDoorCwkt
import Derived.Test.YtfdofleohichiaaDoorCargs
import Derived.Test.YtfdofleohichiaaDoorMapp
import Derived.Test.YtfdofleohichiaaDoorTw1
import Derived.Test.YtfdofleohichiaaDoorCsep
namespace Go.Proofs.YtfdofleohichiaaDoor.Cpu
open Go.RowKit Go.Proofs.YtfdofleohichiaaDoor.Bits Go.Proofs.YtfdofleohichiaaDoor.Gw Go.Proofs.YtfdofleohichiaaDoor.Risc Go.Proofs.YtfdofleohichiaaDoor.Alu Go.Proofs.YtfdofleohichiaaDoor.Mem
set_option linter.unusedVariables false
set_option maxRecDepth 100000

set_option maxHeartbeats 4000000 in
theorem words_walk (w : World) (L : Laid w) (o0 : Option Addr) (n0 c0 : Nat) (x0 : List Int) (W0 : Wl w o0 n0 c0 x0) (inp : ByteArray) (z1 : inp.size ≤ maxLen) (fl : Int) :
    Calls Tryd.prog 3 #[.slice o0 n0 c0, .string inp, .int .i64 fl] w fun e w' => e = .returned (.bool true) ∧ w.grownBy w' none := by
  have HL := hd L
  have hmx := W0.max
  unfold maxLen at hmx z1
  have HW := hd W0
  clear L W0
  by_cases hn : 2000 < n0
  · go_enter Tryd.func3, Tryd.ntmps3
    go_wp2_with fail
    (refine (wakes_any _ HL.out).mono ?_; rintro e w3 ⟨rfl, hg3⟩; go_wp2_with fail; go_ret; exact ⟨rfl, hg3⟩)
  · by_cases hi : 4000 < inp.size
    · go_enter Tryd.func3, Tryd.ntmps3
      go_wp2_with fail
      (refine (wakes_any _ HL.out).mono ?_; rintro e w3 ⟨rfl, hg3⟩; go_wp2_with fail; go_ret; exact ⟨rfl, hg3⟩)
    · by_cases hf1 : fl < 1
      · go_enter Tryd.func3, Tryd.ntmps3
        go_wp2_with fail
        (refine (wakes_any _ HL.out).mono ?_; rintro e w3 ⟨rfl, hg3⟩; go_wp2_with fail; go_ret; exact ⟨rfl, hg3⟩)
      · by_cases hf2 : 20000 < fl
        · go_enter Tryd.func3, Tryd.ntmps3
          go_wp2_with fail
          (refine (wakes_any _ HL.out).mono ?_; rintro e w3 ⟨rfl, hg3⟩; go_wp2_with fail; go_ret; exact ⟨rfl, hg3⟩)
        · obtain ⟨k, rfl⟩ := Int.eq_ofNat_of_zero_le (show 0 ≤ fl by omega)
          have hg0 := World.grownBy_alloc w (.cells #[] 32) none
          have HS := hd (HW.out.src.kept hg0)
          have hbw : Below w.heap.size w (w.alloc (.cells #[] 32)) := ⟨hg0.os, hg0.tape, hg0.output, hg0.size, fun j hj => hg0.block j hj (by simp)⟩
          have HBW := hd hbw
          clear hg0 hbw
          go_enter Tryd.func3, Tryd.ntmps3
          go_wp2_with (at_builtin; refine wpList_append_src (w0 := w) rfl _ _ rfl w.heap.size rfl (heap_alloc_new _ _) o0 n0 c0 rfl x0 HS.out HW.out.rng HW.out.len HW.out.none (by omega) w.heap.size (Nat.le_refl _) HBW.out ?_)
          intro b c' w1 hb hA hbel
          have HA := hd hA
          have HB1 := hd hbel
          have HG1 := hd (grown_below hbel)
          clear hA hbel
          have HN := hd (cnew_ok (cp := c') (inp := inp) (start := 0) (laid_chg HL.out (F := []) (Chg.still HG1.out) (by simp)) HA.out.src HW.out.rng HW.out.len (by omega) (by omega) (by decide) (by omega))
          go_wp2_with (first
            | (go_at_call 5; refine HN.out.mono ?_; rintro e w2 ⟨a, mb, bb, rfl, hm, hg, ha, hh, hb'⟩; have HM := hd hm; have HG2 := hd (And.intro hg (And.intro ha hb')); clear hm hg ha hh hb'))
          obtain ⟨S, hS⟩ : ∃ S, it inp k (Ms.init x0 0) = S := ⟨_, rfl⟩
          obtain ⟨N, hN⟩ : ∃ N, ct inp k (Ms.init x0 0) = N := ⟨_, rfl⟩
          have hN1 : 1 ≤ N := by
            rw [← hN]
            obtain ⟨j, rfl⟩ : ∃ j, k = j + 1 := ⟨k - 1, by omega⟩
            exact ct_pos inp j _ rfl
          have hN2 : N ≤ k := by rw [← hN]; exact ct_le inp k _
          have HOP := hd (at_op inp k (Ms.init x0 0) rfl)
          rw [hS] at HOP
          have HSS := hd hS
          have HNN := hd hN
          clear hS hN
          refine (run_at HM.out k k rfl (by omega) HSS.out HNN.out).mono ?_
          rintro e w3 ⟨o1, rfl, hm3, hc3, hn3⟩
          have HM3 := hd hm3
          have HC3 := hd (And.intro hc3 hn3)
          clear hm3 hc3 hn3
          have HF3 : Hid (w.grownBy w3 none) := by
            obtain ⟨hg2, ha, hb'⟩ := HG2.out
            have s1 := HG1.out.size
            have s2 := hg2.size
            exact hd (far (grown_trans HG1.out hg2) HC3.out.1 (fp_ge (by omega) (by omega) (fun k hk => (nil_own hk).elim)))
          have HFP : Hid (∀ j ∈ fp a bb o1, w.heap.size ≤ j) := by
            obtain ⟨hg2, ha, hb'⟩ := HG2.out
            have s1 := HG1.out.size
            have s2 := hg2.size
            exact hd (fp_ge (by omega) (by omega) (fun k hk => by rcases HC3.out.2 k hk with e | e; exact (nil_own e).elim; omega))
          clear HG1 HG2 HB1 HA HN HW HM HBW HS
          have kN : (1 : Int) ≤ (N : Int) := by omega
          have kM : (N : Int) ≤ (k : Int) := by omega
          have k20 : (k : Int) ≤ 20000 := by omega
          by_cases h4 : S.en = 4
          · rw [h4]
            go_wp2_with fail
            have HX := hd (oc_new w3 4 S.tr (strO S.out) N S.rd)
            have HG4 := hd (World.grownBy_alloc w3 (Obj.cells #[Value.int IntKind.i64 4, Value.int IntKind.i64 S.tr, Value.string (strO S.out), Value.int IntKind.i64 ↑N, Value.int IntKind.i64 ↑S.rd] 29) none)
            have HM4 := hd (HM3.out.grown HG4.out)
            generalize w3.alloc (Obj.cells #[Value.int IntKind.i64 4, Value.int IntKind.i64 S.tr, Value.string (strO S.out), Value.int IntKind.i64 ↑N, Value.int IntKind.i64 ↑S.rd] 29) = W4 at HM4 HX HG4 ⊢
            generalize w3.heap.size = X at HX ⊢
            have p0 := HM4.out.ok.pc0
            have p1 := HM4.out.ok.pc1
            refine (mem_any HM4.out).mono ?_
            rintro e w5 ⟨rfl, rfl⟩
            go_wp2_with fail
            refine (pc_any HM4.out).mono ?_
            rintro e w6 ⟨rfl, rfl⟩
            go_wp2_with fail
            obtain ⟨hp, hdd⟩ := HOP.out h4
            have CL := word_at HM4.out hp _ (G.refl _)
            rw [Int.mul_comm] at CL
            have hV := rng_at HM4.out.ok.xr S.pc.toNat
            generalize at0 S.xs S.pc.toNat = V at CL hdd hV
            refine CL.mono ?_
            rintro e w7 ⟨rfl, rfl⟩
            have DC := decode_any V w7 HM4.out.laid hV.1 hV.2
            rw [if_neg (by rw [hdd]; decide)] at DC
            have HDC := hd DC
            clear CL DC
            go_wp2_with fail
            refine HDC.out.mono ?_
            rintro e w8 ⟨rfl, hg8⟩
            have HG8 := hd (grown_g hg8 none)
            have HM8 := hd (HM4.out.grown HG8.out)
            obtain ⟨y0, _, _, y3, _⟩ := (HX.out.by HG8.out).c
            have xl := World.block_lt_of_cell? _ _ y0
            clear hg8
            go_wp2_with (go_at_call 4; refine (wakes_any _ (HM8.out.grown (World.grownBy_alloc _ _ none)).laid).mono ?_; rintro e w9 ⟨rfl, hgk⟩; have HWK := hd hgk; clear hgk)
            go_ret
            exact ⟨rfl, grown_trans (grown_trans (grown_trans (grown_trans HF3.out HG4.out) HG8.out) (World.grownBy_alloc _ _ none)) HWK.out⟩
          · by_cases h3 : S.en = 3
            · obtain ⟨T, hT⟩ : ∃ T, it inp 1 S = T := ⟨_, rfl⟩
              obtain ⟨N2, hN2'⟩ : ∃ N2, ct inp 1 S = N2 := ⟨_, rfl⟩
              have HT := hd (And.intro hT hN2')
              obtain ⟨st1, st2, st3⟩ := step_cases inp S h3
              rw [← it_one inp S h3, hT] at st1 st2 st3
              have HST := hd (And.intro st1 (And.intro st2 st3))
              clear hT hN2' st1 st2 st3
              rw [h3]
              go_wp2_with fail
              have HX := hd (oc_new w3 3 S.tr (strO S.out) N S.rd)
              have HG4 := hd (World.grownBy_alloc w3 (Obj.cells #[Value.int IntKind.i64 3, Value.int IntKind.i64 S.tr, Value.string (strO S.out), Value.int IntKind.i64 ↑N, Value.int IntKind.i64 ↑S.rd] 29) none)
              have HM4 := hd (HM3.out.grown HG4.out)
              generalize w3.alloc (Obj.cells #[Value.int IntKind.i64 3, Value.int IntKind.i64 S.tr, Value.string (strO S.out), Value.int IntKind.i64 ↑N, Value.int IntKind.i64 ↑S.rd] 29) = W4 at HM4 HX HG4 ⊢
              generalize w3.heap.size = X at HX ⊢
              have p0 := HM4.out.ok.pc0
              have p1 := HM4.out.ok.pc1
              refine (mem_any HM4.out).mono ?_
              rintro e w5 ⟨rfl, rfl⟩
              go_wp2_with fail
              refine (pc_any HM4.out).mono ?_
              rintro e w6 ⟨rfl, rfl⟩
              go_wp2_with fail
              by_cases hp : S.pc < S.xs.length
              · have CL := word_at HM4.out hp _ (G.refl _)
                rw [Int.mul_comm] at CL
                have hV := rng_at HM4.out.ok.xr S.pc.toNat
                have HTB := hd (HST.out.2.1 hp)
                have HTG := hd (HST.out.2.2 hp)
                generalize at0 S.xs S.pc.toNat = V at CL hV HTB HTG
                refine CL.mono ?_
                rintro e w7 ⟨rfl, rfl⟩
                clear CL
                cases hdd : decB V with
                | false =>
                  have HTE := hd (HTB.out hdd)
                  (have DC := decode_any V w7 HM4.out.laid hV.1 hV.2; rw [if_neg (by rw [hdd]; decide)] at DC; have HDC := hd DC; clear DC)
                  go_wp2_with fail
                  (refine HDC.out.mono ?_; rintro e w8 ⟨rfl, hg8⟩; have HG8 := hd (grown_g hg8 none); have HM8 := hd (HM4.out.grown HG8.out); obtain ⟨y0, _, _, y3, _⟩ := (HX.out.by HG8.out).c; have xl := World.block_lt_of_cell? _ _ y0; clear hg8 HDC)
                  go_wp2_with (first
                    | (go_at_call 6; refine (run_at (HM8.out.grown (World.grownBy_alloc _ _ none)) 1 1 rfl (by decide) HT.out.1 HT.out.2).mono ?_; rw [HTE.out]; rintro e w10 ⟨o2, rfl, hm10, hc10, hn10⟩; have HM10 := hd hm10; have HC10 := hd hc10; clear hm10 hc10 hn10)
                    | (go_at_call 4; refine (wakes_any _ (HM10.out.grown (World.grownBy_alloc _ _ none)).laid).mono ?_; rintro e w9 ⟨rfl, hgk⟩; have HWK := hd hgk; clear hgk))
                  (go_ret; exact ⟨rfl, grown_trans (grown_trans (far (grown_trans (grown_trans (grown_trans HF3.out HG4.out) HG8.out) (World.grownBy_alloc _ _ none)) HC10.out HFP.out) (World.grownBy_alloc _ _ none)) HWK.out⟩)
                | true =>
                  have hne : (T.en != 4) = true := by simpa using HTG.out hdd
                  (have DC := decode_any V w7 HM4.out.laid hV.1 hV.2; rw [if_pos hdd] at DC; have HDC := hd DC; clear DC)
                  go_wp2_with fail
                  (refine HDC.out.mono ?_; rintro e w8 ⟨rfl, hg8⟩; have HG8 := hd (grown_g hg8 none); have HM8 := hd (HM4.out.grown HG8.out); obtain ⟨y0, _, _, y3, _⟩ := (HX.out.by HG8.out).c; have xl := World.block_lt_of_cell? _ _ y0; clear hg8 HDC)
                  generalize hEN : T.en = EN at hne
                  have HEN := hd hEN
                  clear hEN
                  go_wp2_with (first
                    | ((go_at_call 6; refine (run_at (HM8.out.grown (World.grownBy_alloc _ _ none)) 1 1 rfl (by decide) HT.out.1 HT.out.2).mono ?_; rintro e w10 ⟨o2, rfl, hm10, hc10, hn10⟩; have HM10 := hd hm10; have HC10 := hd hc10; clear hm10 hc10 hn10); rw [HEN.out])
                    | (go_at_call 4; refine (wakes_any _ (HM10.out.grown (World.grownBy_alloc _ _ none)).laid).mono ?_; rintro e w9 ⟨rfl, hgk⟩; have HWK := hd hgk; clear hgk))
                  (go_ret; exact ⟨rfl, grown_trans (grown_trans (far (grown_trans (grown_trans (grown_trans HF3.out HG4.out) HG8.out) (World.grownBy_alloc _ _ none)) HC10.out HFP.out) (World.grownBy_alloc _ _ none)) HWK.out⟩)
              · have CL := load_ob HM4.out.ob (4 * S.pc) (by omega) (by omega)
                rw [Int.mul_comm, show ldI S.xs (S.pc * 4) = 0 by unfold ldI; rw [(at_pc (xs := S.xs) p0 p1).1, decide_eq_false hp]; rfl, (at_pc (xs := S.xs) p0 p1).1, decide_eq_false hp, Int.mul_comm] at CL
                refine CL.mono ?_
                rintro e w7 ⟨rfl, rfl⟩
                clear CL
                have hV : (0 : Int) ≤ 0 ∧ (0 : Int) < 4294967296 := by decide
                have hdd : decB 0 = true := by decide +kernel
                have HTE := hd (HST.out.1 (by omega))
                (have DC := decode_any 0 w7 HM4.out.laid hV.1 hV.2; rw [if_pos hdd] at DC; have HDC := hd DC; clear DC)
                go_wp2_with fail
                (refine HDC.out.mono ?_; rintro e w8 ⟨rfl, hg8⟩; have HG8 := hd (grown_g hg8 none); have HM8 := hd (HM4.out.grown HG8.out); obtain ⟨y0, _, _, y3, _⟩ := (HX.out.by HG8.out).c; have xl := World.block_lt_of_cell? _ _ y0; clear hg8 HDC)
                go_wp2_with (first
                  | (go_at_call 6; refine (run_at (HM8.out.grown (World.grownBy_alloc _ _ none)) 1 1 rfl (by decide) HT.out.1 HT.out.2).mono ?_; rw [HTE.out]; rintro e w10 ⟨o2, rfl, hm10, hc10, hn10⟩; have HM10 := hd hm10; have HC10 := hd hc10; clear hm10 hc10 hn10)
                  | (go_at_call 4; refine (wakes_any _ (HM10.out.grown (World.grownBy_alloc _ _ none)).laid).mono ?_; rintro e w9 ⟨rfl, hgk⟩; have HWK := hd hgk; clear hgk))
                (go_ret; exact ⟨rfl, grown_trans (grown_trans (far (grown_trans (grown_trans (grown_trans HF3.out HG4.out) HG8.out) (World.grownBy_alloc _ _ none)) HC10.out HFP.out) (World.grownBy_alloc _ _ none)) HWK.out⟩)
            · have e4 : (S.en != 4) = true := by simpa using h4
              have e3 : (S.en != 3) = true := by simpa using h3
              generalize S.en = EN at e4 e3 ⊢
              go_wp2_with (go_at_call 4; refine (wakes_any _ (HM3.out.grown (World.grownBy_alloc _ _ none)).laid).mono ?_; rintro e w9 ⟨rfl, hgk⟩; have HWK := hd hgk; clear hgk)
              go_ret
              exact ⟨rfl, grown_trans (grown_trans HF3.out (World.grownBy_alloc _ _ none)) HWK.out⟩
end Go.Proofs.YtfdofleohichiaaDoor.Cpu
