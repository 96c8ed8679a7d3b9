/-
  The walk of CpuPieces, where both machines are made.
-/
import Derived.Test.YtjneaphlghfbhaaDoorWpcs
namespace Go.Proofs.YtjneaphlghfbhaaDoor.Cpu
open Go.RowKit Go.Proofs.YtjneaphlghfbhaaDoor.Bits Go.Proofs.YtjneaphlghfbhaaDoor.Gw Go.Proofs.YtjneaphlghfbhaaDoor.Risc Go.Proofs.YtjneaphlghfbhaaDoor.Alu Go.Proofs.YtjneaphlghfbhaaDoor.Mem
set_option linter.unusedVariables false

theorem oc_box (w : World) (e t : Int) (z : ByteArray) (n d : Int) : w.grownBy (w.alloc (.cells #[.int .i64 e, .int .i64 t, .string z, .int .i64 n, .int .i64 d] 31)) none := World.grownBy_alloc _ _ _
set_option maxHeartbeats 4000000 in
set_option maxRecDepth 100000 in
theorem pieces_good (w : World) (L : Laid w) (o0 : Option Addr) (n0 c0 : Nat) (x0 : List Int) (W0 : Wl w o0 n0 c0 x0) (inp : ByteArray) (A B : Nat) (hi : inp.size ≤ 4000) (hA : A ≤ 20000) (hB : B ≤ 20000) (hn : n0 ≤ 3000) :
    Calls Tryd.prog 3 #[.slice o0 n0 c0, .string inp, .agg #[.int .i64 A, .int .i64 B]] w fun e w' => e = .returned (.bool true) ∧ w.grownBy w' none := by
  have HL := hd L
  have HW := hd W0
  have hlg : lgB n0 = false := by simp [lgB]; omega
  have HLG := hd hlg
  have j1 : ¬ (4000 : Int) < (inp.size : Int) := by omega
  have j2 : ¬ (A : Int) < 0 := by omega
  have j3 : ¬ (B : Int) < 0 := by omega
  have j4 : ¬ (20000 : Int) < (A : Int) := by omega
  have j5 : ¬ (20000 : Int) < (B : Int) := by omega
  have HI : Hid (inp.size ≤ 4096) := hd (by omega)
  have HN : Hid (n0 ≤ 65536) := hd (by omega)
  have hn' : n0 ≤ 3000 := hn
  obtain ⟨S1, hS1⟩ : ∃ S1, it inp A (Ms.init x0 0) = S1 := ⟨_, rfl⟩
  obtain ⟨S2, hS2⟩ : ∃ S2, it inp B S1 = S2 := ⟨_, rfl⟩
  obtain ⟨N1, hN1⟩ : ∃ N1, ct inp A (Ms.init x0 0) = N1 := ⟨_, rfl⟩
  obtain ⟨N2, hN2⟩ : ∃ N2, ct inp B S1 = N2 := ⟨_, rfl⟩
  have hS3 : it inp (A + B) (Ms.init x0 0) = S2 := by rw [(it_add inp A B _).1, hS1, hS2]
  have hN3 : ct inp (A + B) (Ms.init x0 0) = N1 + N2 := by rw [(it_add inp A B _).2, hS1, hN1, hN2]
  have HS1 := hd (And.intro hS1 hN1)
  have HS2 := hd (And.intro hS2 hN2)
  have HS3 := hd (And.intro hS3 hN3)
  have b1 : N1 ≤ A := by rw [← hN1]; exact ct_le _ _ _
  have b2 : N2 ≤ B := by rw [← hN2]; exact ct_le _ _ _
  clear L W0 hS1 hS2 hS3 hN1 hN2 hN3 hi hn hlg
  go_enter Tryd.func3, Tryd.ntmps3
  go_wp2
  go_quiet (fail)
  go_upto_region 4 with (go_at_call 7; refine (large_any _ _ _ _ (by omega)).mono ?_; rw [HLG.out]; rintro e w' ⟨rfl, rfl⟩)
  have HG0 := hd (grown_drewN (World.grownBy_alloc w (Obj.cells #[Value.int IntKind.i64 ↑A, Value.int IntKind.i64 ↑B] 23) none) nq)
  have HSr := hd (HW.out.src.kept HG0.out)
  generalize (w.alloc (Obj.cells #[Value.int IntKind.i64 ↑A, Value.int IntKind.i64 ↑B] 23)).drewN nq = V0 at HG0 HSr ⊢
  go_upto_region 5 with (first
    | (at_builtin; refine wpList_append_src (w0 := V0) rfl (.tmp 48) (.tmp 49) rfl (V0).heap.size rfl (heap_alloc_new _ _) _ _ _ rfl x0 (HSr.out.kept (World.grownBy_alloc _ _ _)) HW.out.rng HW.out.len HW.out.none (by omega) (V0).heap.size (Nat.le_refl _) ((Below.refl _ _).alloc (Nat.le_refl _) _) ?_; intro bb cc w1 hbb ha hw; have HA := hd ha; have HGa := hd (grown_below hw); clear ha hw hbb)
    | (go_at_call 9; refine (cnew_ok (laid_chg HL.out (F := []) (Chg.still (grown_trans HG0.out HGa.out)) (by simp)) HA.out.src HW.out.rng HW.out.len HN.out HI.out (by decide) (by omega)).mono ?_; rintro e w2 ⟨a1, h1, b1', rfl, hm, hg, ha, hh, hb'⟩; have HM1 := hd hm; have HR1 := hd (And.intro ha (And.intro hh hb')); have HG1 := hd (grown_trans (grown_trans HG0.out HGa.out) hg); have HZ1 := hd (Nat.le_trans (grown_trans HG0.out HGa.out).size (Nat.le_refl _)); clear hm hg ha hh hb'))
  replace HSr := hd (HW.out.src.kept HG1.out)
  clear HA HGa HG0
  go_upto_region 6 with (first
    | (at_builtin; refine wpList_append_src (w0 := w2) rfl (.tmp 56) (.tmp 57) rfl (w2).heap.size rfl (heap_alloc_new _ _) _ _ _ rfl x0 (HSr.out.kept (World.grownBy_alloc _ _ _)) HW.out.rng HW.out.len HW.out.none (by omega) (w2).heap.size (Nat.le_refl _) ((Below.refl _ _).alloc (Nat.le_refl _) _) ?_; intro bb cc w3 hbb ha hw; have HA := hd ha; have HGa := hd (grown_below hw); clear ha hw hbb)
    | (go_at_call 9; refine (cnew_ok (laid_chg HL.out (F := []) (Chg.still (grown_trans HG1.out HGa.out)) (by simp)) HA.out.src HW.out.rng HW.out.len HN.out HI.out (by decide) (by omega)).mono ?_; rintro e w4 ⟨a2, h2, b2', rfl, hm, hg, ha, hh, hb'⟩; have HM2 := hd hm; have HR2 := hd (And.intro ha (And.intro hh hb')); have HG2 := hd (grown_trans HGa.out hg); clear hm hg ha hh hb'))
  have HT : Hid (Two w w4 inp a1 h1 b1' (.slice none 0 0) (Ms.init x0 0) a2 h2 b2' (.slice none 0 0) (Ms.init x0 0)) := by
    obtain ⟨r1, r2, r3⟩ := HR1.out
    obtain ⟨r4, r5, r6⟩ := HR2.out
    have z1 := HGa.out.size
    have z2 := HG1.out.size
    have z3 := HZ1.out
    have l1 := HM1.out.ffp_lt
    exact hd ⟨HM1.out.grown HG2.out, HM2.out, sep_new (fun k hk => l1 k hk) (ffp_nil (by omega) (by omega) (by omega)), grown_trans HG1.out HG2.out, ffp_nil (by omega) (by omega) (by omega), ffp_nil (by omega) (by omega) (by omega)⟩
  clear HM1 HM2 HR1 HR2 HZ1 HG1 HG2 HGa HA HSr
  have ab : (((A + B : Nat)) : Int) = (A : Int) + (B : Int) := by omega
  have AB := hd ab
  clear ab
  go_upto_region 9 with (go_at_call 10; refine (run_at HT.out.m A A rfl (by omega) HS1.out.1 HS1.out.2).mono ?_; rintro e w5 ⟨o1, rfl, hm, hc, hn⟩; have HT1 := hd (HT.out.run1 hm hc hn); clear hm hc hn)
  have HX := hd (oc_new w5 S1.en S1.tr (strO S1.out) N1 S1.rd)
  replace HT1 := hd (HT1.out.by (oc_box w5 S1.en S1.tr (strO S1.out) N1 S1.rd))
  generalize w5.alloc (Obj.cells #[Value.int IntKind.i64 S1.en, Value.int IntKind.i64 S1.tr, Value.string (strO S1.out), Value.int IntKind.i64 ↑N1, Value.int IntKind.i64 ↑S1.rd] 31) = V5 at HX HT1 ⊢
  generalize w5.heap.size = X1 at HX ⊢
  clear HT
  go_upto_region 10 with (go_at_call 10; refine (run_at HT1.out.m B B rfl (by omega) HS2.out.1 HS2.out.2).mono ?_; rintro e w6 ⟨o2, rfl, hm, hc, hn⟩; have HT2 := hd (HT1.out.run1 hm hc hn); have HX2 := hd (HX.out.chg hc (HX.out.fp HT1.out.m)); clear hm hc hn)
  have HY := hd (oc_new w6 S2.en S2.tr (strO S2.out) N2 S2.rd)
  replace HT2 := hd (HT2.out.by (oc_box w6 S2.en S2.tr (strO S2.out) N2 S2.rd))
  replace HX2 := hd (HX2.out.by (oc_box w6 S2.en S2.tr (strO S2.out) N2 S2.rd))
  generalize w6.alloc (Obj.cells #[Value.int IntKind.i64 S2.en, Value.int IntKind.i64 S2.tr, Value.string (strO S2.out), Value.int IntKind.i64 ↑N2, Value.int IntKind.i64 ↑S2.rd] 31) = V6 at HX2 HY HT2 ⊢
  generalize w6.heap.size = X2 at HY ⊢
  clear HT1 HX
  go_upto_region 11 with (go_at_call 10; refine (run_at HT2.out.n (A + B) _ AB.out (by omega) HS3.out.1 HS3.out.2).mono ?_; rintro e w7 ⟨o3, rfl, hm, hc, hn⟩; have HT3 := hd (HT2.out.run2 hm hc hn); have HX3 := hd (HX2.out.chg hc (HX2.out.fp HT2.out.n)); have HY3 := hd (HY.out.chg hc (HY.out.fp HT2.out.n)); clear hm hc hn)
  have HZ := hd (oc_new w7 S2.en S2.tr (strO S2.out) ((N1 : Int) + (N2 : Int)) S2.rd)
  replace HT3 := hd (HT3.out.by (oc_box w7 S2.en S2.tr (strO S2.out) ((N1 : Int) + (N2 : Int)) S2.rd))
  replace HX3 := hd (HX3.out.by (oc_box w7 S2.en S2.tr (strO S2.out) ((N1 : Int) + (N2 : Int)) S2.rd))
  replace HY3 := hd (HY3.out.by (oc_box w7 S2.en S2.tr (strO S2.out) ((N1 : Int) + (N2 : Int)) S2.rd))
  generalize w7.alloc (Obj.cells #[Value.int IntKind.i64 S2.en, Value.int IntKind.i64 S2.tr, Value.string (strO S2.out), Value.int IntKind.i64 (↑N1 + ↑N2), Value.int IntKind.i64 ↑S2.rd] 31) = V7 at HX3 HY3 HZ HT3 ⊢
  generalize w7.heap.size = X3 at HZ ⊢
  obtain ⟨x0', x1', x2', x3', x4'⟩ := HX3.out.c
  obtain ⟨y0, y1, y2, y3, y4⟩ := HY3.out.c
  obtain ⟨z0, z1, z2, z3, z4⟩ := HZ.out.c
  clear HX2 HY HT2
  obtain ⟨t, ht⟩ := it_lo inp B S1
  rw [HS2.out.1] at ht
  have hol := HT3.out.m.ok.out1
  have BG : ∀ W, Calls Tryd.prog 12 #[.string (strO S2.out), .string (strO S1.out)] W fun e w' => e = .returned (.bool true) ∧ w' = W := fun W => by
    have := begins_any S1.out t W (by rw [← ht]; omega)
    rwa [← ht] at this
  have PM : ∀ W, W = V7 → Calls Tryd.prog 11 #[ptr a1] W fun e w' => e = .returned (.int .i64 S2.pc) ∧ w' = W := fun W e => by subst e; exact pc_any HT3.out.m
  have PN : ∀ W, W = V7 → Calls Tryd.prog 11 #[ptr a2] W fun e w' => e = .returned (.int .i64 S2.pc) ∧ w' = W := fun W e => by subst e; exact pc_any HT3.out.n
  have HEND : Hid (S1.en = 3 ∨ (S1.en ≠ 3 ∧ S2.en = S1.en ∧ strO S2.out = strO S1.out ∧ N2 = 0)) := hd (by
    by_cases e : S1.en = 3
    · exact .inl e
    · have := it_end inp B S1 e
      rw [HS2.out.1, HS2.out.2] at this
      exact .inr ⟨e, by rw [this.1], by rw [this.1], this.2⟩)
  have LV : Hid (Laid V7) := hd HT3.out.m.laid
  have HGF := hd HT3.out.g
  clear ht hol
  generalize hz1 : strO S1.out = Z1 at *
  generalize hz2 : strO S2.out = Z2 at *
  generalize he1 : S1.en = E1 at *
  generalize he2 : S2.en = E2 at *
  generalize ht2 : S2.tr = T2 at *
  clear hz1 hz2 he1 he2 ht2 HX3 HY3 HZ HT3 HS1 HS2 HS3
  have n1 : (0 : Int) ≤ (N1 : Int) := by omega
  have n2 : (N1 : Int) ≤ 20000 := by omega
  have n3 : (0 : Int) ≤ (N2 : Int) := by omega
  have n4 : (N2 : Int) ≤ 20000 := by omega
  have n5 : (N1 : Int) ≤ (A : Int) := by omega
  rcases HEND.out with rfl | ⟨hne, rfl, rfl, rfl⟩
  · go_wp2_with (first
      | (go_at_call 11; with_reducible refine Calls.mono (PM _ rfl) ?_; rintro e w' ⟨rfl, rfl⟩)
      | (go_at_call 11; with_reducible refine Calls.mono (PN _ rfl) ?_; rintro e w' ⟨rfl, rfl⟩)
      | (go_at_call 12; refine (BG _).mono ?_; rintro e w' ⟨rfl, rfl⟩)
      | (go_at_call 8; refine (wakes_any _ LV.out).mono ?_; rintro e w8 ⟨rfl, hg⟩; have HWK := hd hg; clear hg))
    go_ret
    exact ⟨rfl, grown_trans HGF.out HWK.out⟩
  · have e3 : (E2 == 3) = false := by simpa using hne
    go_wp2_with (first
      | (go_at_call 11; with_reducible refine Calls.mono (PM _ rfl) ?_; rintro e w' ⟨rfl, rfl⟩)
      | (go_at_call 11; with_reducible refine Calls.mono (PN _ rfl) ?_; rintro e w' ⟨rfl, rfl⟩)
      | (go_at_call 12; refine (BG _).mono ?_; rintro e w' ⟨rfl, rfl⟩)
      | (go_at_call 8; refine (wakes_any _ LV.out).mono ?_; rintro e w8 ⟨rfl, hg⟩; have HWK := hd hg; clear hg))
    go_ret
    exact ⟨rfl, grown_trans HGF.out HWK.out⟩
end Go.Proofs.YtjneaphlghfbhaaDoor.Cpu
