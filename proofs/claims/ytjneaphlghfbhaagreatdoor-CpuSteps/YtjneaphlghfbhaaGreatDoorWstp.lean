/-
  The walk of CpuSteps.
-/
import Derived.Test.YtjneaphlghfbhaaGreatDoorQst
import Derived.Test.YtjneaphlghfbhaaGreatDoorCargs
namespace Go.Proofs.YtjneaphlghfbhaaGreatDoor.Qpu
open Go.RowKit Go.Proofs.YtjneaphlghfbhaaGreatDoor.Bits Go.Proofs.YtjneaphlghfbhaaGreatDoor.Gw Go.Proofs.YtjneaphlghfbhaaGreatDoor.Risc Go.Proofs.YtjneaphlghfbhaaGreatDoor.Alu Go.Proofs.YtjneaphlghfbhaaGreatDoor.Mem Go.Proofs.YtjneaphlghfbhaaGreatDoor.Cpu
set_option linter.unusedVariables false
set_option maxRecDepth 100000

theorem ocb2 (w : World) (e t : Int) (z : ByteArray) (n d : Int) : w.grownBy (w.alloc (.cells #[.int .i64 e, .int .i64 t, .string z, .int .i64 n, .int .i64 d] 37)) none := World.grownBy_alloc _ _ _
/- A word of some instruction, or 0: a word in any case. -/
theorem enc_word (f : Int) (u v : Bool) (a b c op im : Int) (w : World) :
    Calls Tryz.prog 14 #[ins f u v a b c op im] w fun e w' => ∃ x er : Int, e = .returned (.tuple #[wd x, .int .i64 er]) ∧ (0 ≤ x ∧ x < 4294967296) ∧ w.grownBy w' none := by
  refine (rencode_any f u v a b c op im w).mono ?_
  rintro e w' ⟨rfl, hg⟩
  by_cases h : goodR f u v a b c op im = true
  · rw [if_pos h]; exact ⟨_, _, rfl, pack_range _ _ _ _ _ _ _ _, grown_g hg none⟩
  · rw [if_neg h]; exact ⟨0, 20, rfl, by decide, grown_g hg none⟩
theorem enc_at {f : Int} {u v : Bool} {a b c op im : Int} {g : Bool} (h : goodR f u v a b c op im = g) (w : World) :
    Calls Tryz.prog 14 #[ins f u v a b c op im] w fun e w' => ∃ x : Int, e = .returned (.tuple #[wd x, .int .i64 (if g = true then 0 else 20)]) ∧ (0 ≤ x ∧ x < 4294967296) ∧ w.grownBy w' none := by
  refine (rencode_any f u v a b c op im w).mono ?_
  rintro e w' ⟨rfl, hg⟩
  rw [h]
  cases g
  · exact ⟨0, rfl, by decide, grown_g hg none⟩
  · exact ⟨_, rfl, pack_range _ _ _ _ _ _ _ _, grown_g hg none⟩
theorem cells_new (w : World) (l : List Value) (t : TypeId) : ∀ j u, l[j]? = some u → (w.alloc (.cells l.toArray t)).cell? ((⟨w.heap.size, 0, none⟩ : Addr).add j) = some u := by
  intro j u hj
  have := cell_of_row (w.alloc (.cells l.toArray t)) w.heap.size j l.toArray t (0, 0) (heap_alloc_new w _)
  rw [Addr.add_lit, Nat.zero_add, this]
  simpa using hj
section
variable {w V : World} {inp : ByteArray}
theorem both_new_ok {ao : Option Addr} {xs : List Int} {n c : Nat} (L : Laid V) (hs : Src V ao xs) (hr : inR xs) (hc : ao = none → c = 0) (hl : xs.length = n) (hn : n ≤ 65536) (hi : inp.size ≤ 4096) (hg : w.grownBy V none) :
    Calls Tryz.prog 7 #[.slice ao n c, .int .i64 0, .string inp] V fun r V1 => ∃ a1, r = .returned (.tuple #[ptr a1, .int .i64 0]) ∧ V.grownBy V1 none ∧
      (Calls Tryz.prog 8 #[.slice ao n c, .int .i64 0, .string inp] V1 fun r V2 => ∃ a2, r = .returned (.tuple #[ptr a2, .int .i64 0]) ∧ V1.grownBy V2 none ∧ Bo w V2 inp (ptr a1) (ptr a2)) := by
  refine (cnew_ok L hs hr hl hn hi (by omega) (by omega)).mono ?_
  rintro r V1 ⟨a1, h1, b1, he, hm, g1, ga, gh, gb⟩
  refine ⟨_, he, g1, (qnew_ok hm.laid.size (hs.kept g1) hr hc hl hn hi (by omega) (by omega)).mono ?_⟩
  rintro r V2 ⟨a2, h2, b2, he2, hq, g2, ga2, gh2, gb2⟩
  have hm2 := hm.grown g2
  have s1 := g1.size
  have s0 := hg.size
  refine ⟨_, he2, g2, grown_trans hg (grown_trans g1 g2), hm2.laid, .inr ⟨a1, h1, b1, _, a2, h2, b2, _, _, _, rfl, rfl, hm2, hq, ?_, grown_trans hg (grown_trans g1 g2), ffp_nil (by omega) (by omega) (by omega), ffp_nil (by omega) (by omega) (by omega)⟩⟩
  exact sep_new hm.ffp_lt (ffp_nil ga2 gh2 gb2)
theorem bo_same {a1 a2 : Nat} (h : Bo w V inp (ptr a1) (ptr a2)) : Calls Tryz.prog 13 #[ptr a1, ptr a2] V fun e w' => e = .returned (.bool true) ∧ V.grownBy w' none := by
  rcases h.2.2 with ⟨e, _⟩ | ⟨_, _, _, _, _, _, _, _, _, _, e1, e2, hp⟩
  · cases e
  · cases e1; cases e2; exact same_any hp.m hp.n
end
set_option maxHeartbeats 4000000 in
theorem steps_bad (w : World) (L : Laid w) (f : Int) (u v : Bool) (a b c op im : Int) (o1 : Option Addr) (n1 c1 : Nat) (inp : ByteArray) (hi : inp.size ≤ 9223372036854775807) (h : goodR f u v a b c op im = false ∨ 4000 < inp.size) :
    Calls Tryz.prog 4 #[ins f u v a b c op im, .slice o1 n1 c1, .string inp] w fun e w' => e = .returned (.bool true) ∧ w.grownBy w' none := by
  have HL := hd L
  have HG0 := hd (World.grownBy_alloc w (Obj.cells #[Value.int IntKind.i64 f, Value.bool u, Value.bool v, Value.int IntKind.i64 a, Value.int IntKind.i64 b, Value.int IntKind.i64 c, Value.int IntKind.i64 op, Value.int IntKind.i64 im] 46) none)
  obtain ⟨g, hg⟩ : ∃ g, goodR f u v a b c op im = g := ⟨_, rfl⟩
  have HE := hd (enc_at hg)
  rw [hg] at h
  clear L hg
  cases g
  · clear h
    go_enter Tryz.func4, Tryz.ntmps4
    go_wp2_with (first
      | (go_at_call 14; refine (HE.out _).mono ?_; rintro e w1 ⟨x, rfl, hx, hg⟩; have HG1 := hd (grown_trans HG0.out hg); clear hg)
      | (go_at_call 6; refine (wakes_any _ (laid_chg HL.out (F := []) (Chg.still HG1.out) (by simp))).mono ?_; rintro e w8 ⟨rfl, hg⟩; have HWK := hd hg; clear hg))
    go_ret
    exact ⟨rfl, grown_trans HG1.out HWK.out⟩
  · have i1 : (4000 : Int) < (inp.size : Int) := by simp at h; omega
    clear h
    go_enter Tryz.func4, Tryz.ntmps4
    go_wp2_with (first
      | (go_at_call 14; refine (HE.out _).mono ?_; rintro e w1 ⟨x, rfl, hx, hg⟩; have HG1 := hd (grown_trans HG0.out hg); clear hg)
      | (go_at_call 6; refine (wakes_any _ (laid_chg HL.out (F := []) (Chg.still HG1.out) (by simp))).mono ?_; rintro e w8 ⟨rfl, hg⟩; have HWK := hd hg; clear hg))
    go_ret
    exact ⟨rfl, grown_trans HG1.out HWK.out⟩
set_option maxHeartbeats 4000000 in
theorem steps_good (w : World) (L : Laid w) (f : Int) (u v : Bool) (a b c op im : Int) (o1 : Option Addr) (n1 c1 : Nat) (x1 : List Int) (W1 : Wl w o1 n1 c1 x1) (inp : ByteArray) (hi : inp.size ≤ 4000) (h : goodR f u v a b c op im = true) :
    Calls Tryz.prog 4 #[ins f u v a b c op im, .slice o1 n1 c1, .string inp] w fun e w' => e = .returned (.bool true) ∧ w.grownBy w' none := by
  obtain ⟨i0, hii, hz0, hz1, hz2⟩ := info_parts Tryz.info34
  have HL := hd L
  have HW := hd W1
  have HI := hd hi
  have HE := hd (enc_at h)
  have HG0 := hd (World.grownBy_alloc w (Obj.cells #[Value.int IntKind.i64 f, Value.bool u, Value.bool v, Value.int IntKind.i64 a, Value.int IntKind.i64 b, Value.int IntKind.i64 c, Value.int IntKind.i64 op, Value.int IntKind.i64 im] 46) none)
  have j1 : ¬ (4000 : Int) < (inp.size : Int) := by omega
  clear L W1 h hi
  go_enter Tryz.func4, Tryz.ntmps4
  go_upto_region 2 with (go_at_call 14; refine (HE.out _).mono ?_; rintro e V ⟨x, rfl, hx, hg⟩; have HG1 := hd (grown_trans HG0.out hg); have HX := hd hx; clear hg hx)
  clear HE HG0
  go_wp2
  obtain ⟨B, hB⟩ : ∃ B, V.heap.size = B := ⟨_, rfl⟩
  have HB := hd hB
  clear hB
  go_loopw [9, 10] (fun r j wr => ∃ q : Nat, q ≤ 14 ∧ j = .int .i64 q ∧ ∃ xs : List Int, inR xs ∧ wr.ownsRow B 47 1 r (2 * q) (xs.map wd) ∧ Below B V wr)
    (fun _ j _ => 14 - (intOf j).toNat)
  case atStart => exact ⟨0, Nat.zero_le _, rfl, [], inR_nil, World.ownsRow_nil _ _ _ _, Below.refl _ _⟩
  case round =>
    obtain ⟨q, hq, rfl, xs, hxs, hown, hbel⟩ := hrel
    have hbs : B ≤ wr.heap.size := by rw [← HB.out]; exact hbel.size
    by_cases hlt : q < 14
    · have HO := hd hown
      have HBL := hd hbel
      have HXS := hd hxs
      have HS := hd hbs
      have i2 : (q : Int) < 14 := by omega
      have i3 : (0 : Int) ≤ (q : Int) := by omega
      have HQ := hd hlt
      have hgr : w.grownBy wr none := grown_trans HG1.out (grown_below (by rw [HB.out]; exact hbel))
      clear hown hbel hxs hbs hlt hq
      by_cases hr : q < n1
      · obtain ⟨k, hk⟩ : ∃ k, x1[q]? = some k := ⟨x1[q]'(by rw [HW.out.len]; exact hr), List.getElem?_eq_getElem (by rw [HW.out.len]; exact hr)⟩
        obtain ⟨A, hA⟩ : ∃ A, o1 = some A := by
          cases o1 with
          | none => rw [HW.out.src.1 rfl] at hk; cases hk
          | some A => exact ⟨A, rfl⟩
        have hc : wr.cell? (A.add q) = some (.int .u32 k) := hgr.cell (HW.out.src.2 A hA q (wd k) (by simp [hk])) (by simp)
        obtain ⟨k0, k1⟩ := HW.out.rng k (List.mem_of_getElem? hk)
        have i4 : (q : Int) < (n1 : Int) := by omega
        subst hA
        clear hgr hk hr
        go_upto_region 12 with (go_at_call 14; refine (enc_word _ _ _ _ _ _ _ _ _).mono ?_; rintro e w1 ⟨y, ey, rfl, hy, hg⟩; have HG2 := hd hg; have HY := hd hy; clear hg hy)
        go_upto_region 13 with (go_at_call 14; refine (enc_word _ _ _ _ _ _ _ _ _).mono ?_; rintro e w2 ⟨z, ez, rfl, hz, hg⟩; have HG3 := hd hg; have HZ := hd hz; clear hg hz)
        have HGA := hd (grown_trans HG2.out HG3.out)
        have HO1 := hd ((own_still HO.out HGA.out).alloc (.cells #[wd y, wd z] 47))
        go_wp2_with (at_builtin; refine wpList_append_own _ rfl _ _ 22 rfl B 47 i0 (.int .u32 0) 1 4 Tryz.underlying22 hii hz0 hz1 hz2 rfl (by decide) _ _ _ rfl HO1.out ⟨w2.heap.size, 0, none⟩ 2 2 [wd y, wd z] rfl rfl (cells_new _ [wd y, wd z] _) ?c2 ?c3 ?c4 ?c5 ?_)
        case c2 => intro u hu; simp at hu; rcases hu with rfl | rfl <;> rfl
        case c3 => have := HQ.out; unfold maxLen; omega
        case c4 => have := HQ.out; omega
        case c5 => have := HGA.out.size; have := HS.out; simp; omega
        intro v' w3 hown' hgrow _
        have hnew : w3.ownsRow B 47 1 v' (2 * (q + 1)) ((xs ++ [y, z]).map wd) := by rw [List.map_append]; exact hown'
        have hlt' := HO1.out.lt
        have hb1 : Below B V w3 := ((HBL.out.grown HGA.out HS.out (fun g hg => by cases hg)).alloc (by have := HGA.out.size; have := HS.out; omega) _).grown hgrow (by have := HGA.out.size; have := HS.out; simp; omega) (fun g hg => (hlt' g hg).1)
        have hx2 : inR (xs ++ [y, z]) := fun e he => by
          rcases List.mem_append.1 he with he | he
          · exact HXS.out e he
          · simp at he; rcases he with rfl | rfl; exact HY.out; exact HZ.out
        clear hown' hgrow hlt' HBL HO HO1 HG2 HG3 HGA HXS HY HZ
        have hq1 := HQ.out
        go_wp2
        exact ⟨⟨q + 1, by omega, by go_num, _, hx2, hnew, hb1⟩, by simp [intOf]; omega⟩
      · have i4 : ¬ (q : Int) < (n1 : Int) := by omega
        clear hgr hr
        go_upto_region 12 with (go_at_call 14; refine (enc_word _ _ _ _ _ _ _ _ _).mono ?_; rintro e w1 ⟨y, ey, rfl, hy, hg⟩; have HG2 := hd hg; have HY := hd hy; clear hg hy)
        go_upto_region 13 with (go_at_call 14; refine (enc_word _ _ _ _ _ _ _ _ _).mono ?_; rintro e w2 ⟨z, ez, rfl, hz, hg⟩; have HG3 := hd hg; have HZ := hd hz; clear hg hz)
        have HGA := hd (grown_trans HG2.out HG3.out)
        have HO1 := hd ((own_still HO.out HGA.out).alloc (.cells #[wd y, wd z] 47))
        go_wp2_with (at_builtin; refine wpList_append_own _ rfl _ _ 22 rfl B 47 i0 (.int .u32 0) 1 4 Tryz.underlying22 hii hz0 hz1 hz2 rfl (by decide) _ _ _ rfl HO1.out ⟨w2.heap.size, 0, none⟩ 2 2 [wd y, wd z] rfl rfl (cells_new _ [wd y, wd z] _) ?c2 ?c3 ?c4 ?c5 ?_)
        case c2 => intro u hu; simp at hu; rcases hu with rfl | rfl <;> rfl
        case c3 => have := HQ.out; unfold maxLen; omega
        case c4 => have := HQ.out; omega
        case c5 => have := HGA.out.size; have := HS.out; simp; omega
        intro v' w3 hown' hgrow _
        have hnew : w3.ownsRow B 47 1 v' (2 * (q + 1)) ((xs ++ [y, z]).map wd) := by rw [List.map_append]; exact hown'
        have hlt' := HO1.out.lt
        have hb1 : Below B V w3 := ((HBL.out.grown HGA.out HS.out (fun g hg => by cases hg)).alloc (by have := HGA.out.size; have := HS.out; omega) _).grown hgrow (by have := HGA.out.size; have := HS.out; simp; omega) (fun g hg => (hlt' g hg).1)
        have hx2 : inR (xs ++ [y, z]) := fun e he => by
          rcases List.mem_append.1 he with he | he
          · exact HXS.out e he
          · simp at he; rcases he with rfl | rfl; exact HY.out; exact HZ.out
        clear hown' hgrow hlt' HBL HO HO1 HG2 HG3 HGA HXS HY HZ
        have hq1 := HQ.out
        go_wp2
        exact ⟨⟨q + 1, by omega, by go_num, _, hx2, hnew, hb1⟩, by simp [intOf]; omega⟩
    · obtain rfl : q = 14 := by omega
      have HO1 := hd (hown.alloc (.cells #[wd x, wd x, wd 0, wd 0, wd 7] 47))
      have HBL := hd hbel
      have HXS := hd hxs
      have HS := hd hbs
      clear hown hbel hxs hbs hlt hq
      go_upto_region 15 with (at_builtin; refine wpList_append_own _ rfl _ _ 22 rfl B 47 i0 (.int .u32 0) 1 4 Tryz.underlying22 hii hz0 hz1 hz2 rfl (by decide) _ _ _ rfl HO1.out ⟨wr.heap.size, 0, none⟩ 5 5 [wd x, wd x, wd 0, wd 0, wd 7] rfl rfl (cells_new _ [wd x, wd x, wd 0, wd 0, wd 7] _) ?c2 ?c3 ?c4 ?c5 ?_)
      case c2 => intro u hu; simp at hu; rcases hu with rfl | rfl | rfl <;> rfl
      case c3 => unfold maxLen; omega
      case c4 => omega
      case c5 => have := HS.out; simp; omega
      intro v' w3 hown' hgrow _
      have hnew : w3.ownsRow B 47 1 v' 33 ((xs ++ [x, x, 0, 0, 7]).map wd) := by rw [List.map_append]; exact hown'
      have hlt' := HO1.out.lt
      have hb1 : Below B V w3 := (HBL.out.alloc (by have := HS.out; omega) _).grown hgrow (by have := HS.out; simp; omega) (fun g hg => (hlt' g hg).1)
      have hx2 : inR (xs ++ [x, x, 0, 0, 7]) := fun e he => by
        rcases List.mem_append.1 he with he | he
        · exact HXS.out e he
        · simp at he; rcases he with rfl | rfl | rfl; exact HX.out; exact ⟨by decide, by decide⟩; exact ⟨by decide, by decide⟩
      have hl : (xs ++ [x, x, 0, 0, 7]).length = 33 := by have := hnew.1; simpa using this
      have hg3 : w.grownBy w3 none := grown_trans HG1.out (grown_below (by rw [HB.out]; exact hb1))
      obtain ⟨ao, cp, rfl, hs, hc⟩ := own_src hnew
      have HNEW := hd (both_new_ok (w := w) (inp := inp) (laid_chg HL.out (F := []) (Chg.still hg3) (by simp)) hs hx2 hc hl (by decide) (by have := HI.out; omega) hg3)
      clear hown' hgrow hnew hlt' hb1 hx2 hl hg3 hs hc HO1 HBL HXS HS HB
      go_upto_region 16 with (go_at_call 7; refine HNEW.out.mono ?_; rintro e w4 ⟨a1, rfl, hg, hq⟩; have HQ := hd hq; clear hg hq)
      go_upto_region 17 with (go_at_call 8; refine HQ.out.mono ?_; rintro e w5 ⟨a2, rfl, hg, hb⟩; have HB5 := hd hb; clear hg hb)
      clear HNEW HQ
      go_wp2
      go_loopw [20] (fun s20 wr => ∃ i : Nat, i ≤ 3 ∧ s20 = .int .i64 i ∧ Bo w wr inp (ptr a1) (ptr a2)) (fun s20 _ => 3 - (intOf s20).toNat)
      case atStart => exact ⟨0, by decide, rfl, HB5.out⟩
      case round =>
        obtain ⟨i, hi, rfl, hB⟩ := hrel
        have HBr := hd hB
        clear hB HB5
        by_cases hlt : i < 3
        · have i3 : (i : Int) < 3 := by omega
          by_cases h0 : i = 0
          · subst h0
            obtain ⟨e, t, z, n, dd, er2, hrun⟩ := both_run HBr.out 28
            have HRUN := hd hrun
            clear hrun
            go_upto_region 26 with (go_at_call 10; refine HRUN.out.mono ?_; rintro r V1 ⟨rfl, hq⟩; have HQ := hd hq; clear hq)
            have HX := hd (oc_new V1 e t z n dd)
            have HQ2 := hd (HQ.out _ (ocb2 V1 e t z n dd))
            generalize V1.alloc (Obj.cells #[Value.int IntKind.i64 e, Value.int IntKind.i64 t, Value.string z, Value.int IntKind.i64 n, Value.int IntKind.i64 dd] 37) = V2 at HX HQ2 ⊢
            generalize V1.heap.size = X1 at HX ⊢
            clear HQ HRUN
            go_upto_region 27 with (go_at_call 11; refine HQ2.out.mono ?_; rintro r V3 ⟨rfl, hb3, ho⟩; have HB3 := hd hb3; have HX3 := hd (ho _ _ _ _ _ _ HX.out); clear hb3 ho)
            have HY := hd (oc_new V3 e t z n dd)
            replace HX3 := hd (HX3.out.by (ocb2 V3 e t z n dd))
            have HB5 := hd (HB3.out.by (ocb2 V3 e t z n dd))
            generalize V3.alloc (Obj.cells #[Value.int IntKind.i64 e, Value.int IntKind.i64 t, Value.string z, Value.int IntKind.i64 n, Value.int IntKind.i64 dd] 37) = V5 at HY HX3 HB5 ⊢
            generalize V3.heap.size = X2 at HY ⊢
            obtain ⟨x0, x1, x2, x3, x4⟩ := HX3.out.c
            obtain ⟨y0, y1, y2, y3, y4⟩ := HY.out.c
            clear HX HQ2 HB3
            go_wp2_with (first
              | (go_at_call 12; refine (same_out _ _ _ _ _ _).mono ?_; rintro r V6 ⟨rfl, hg⟩; have HB6 := hd (HB5.out.by (grown_g hg none)); clear hg)
              | (go_at_call 13; refine (bo_same HB6.out).mono ?_; rintro r V7 ⟨rfl, hg⟩; have HB7 := hd (HB6.out.by hg); clear hg))
            exact ⟨⟨1, by omega, by go_num, HB7.out⟩, by simp [intOf]⟩
          · have i5 : (0 : Int) < (i : Int) := by omega
            obtain ⟨e, t, z, n, dd, er2, hrun⟩ := both_run HBr.out 1
            have HRUN := hd hrun
            clear hrun
            go_upto_region 26 with (go_at_call 10; refine HRUN.out.mono ?_; rintro r V1 ⟨rfl, hq⟩; have HQ := hd hq; clear hq)
            have HX := hd (oc_new V1 e t z n dd)
            have HQ2 := hd (HQ.out _ (ocb2 V1 e t z n dd))
            generalize V1.alloc (Obj.cells #[Value.int IntKind.i64 e, Value.int IntKind.i64 t, Value.string z, Value.int IntKind.i64 n, Value.int IntKind.i64 dd] 37) = V2 at HX HQ2 ⊢
            generalize V1.heap.size = X1 at HX ⊢
            clear HQ HRUN
            go_upto_region 27 with (go_at_call 11; refine HQ2.out.mono ?_; rintro r V3 ⟨rfl, hb3, ho⟩; have HB3 := hd hb3; have HX3 := hd (ho _ _ _ _ _ _ HX.out); clear hb3 ho)
            have HY := hd (oc_new V3 e t z n dd)
            replace HX3 := hd (HX3.out.by (ocb2 V3 e t z n dd))
            have HB5 := hd (HB3.out.by (ocb2 V3 e t z n dd))
            generalize V3.alloc (Obj.cells #[Value.int IntKind.i64 e, Value.int IntKind.i64 t, Value.string z, Value.int IntKind.i64 n, Value.int IntKind.i64 dd] 37) = V5 at HY HX3 HB5 ⊢
            generalize V3.heap.size = X2 at HY ⊢
            obtain ⟨x0, x1, x2, x3, x4⟩ := HX3.out.c
            obtain ⟨y0, y1, y2, y3, y4⟩ := HY.out.c
            clear HX HQ2 HB3
            go_wp2_with (first
              | (go_at_call 12; refine (same_out _ _ _ _ _ _).mono ?_; rintro r V6 ⟨rfl, hg⟩; have HB6 := hd (HB5.out.by (grown_g hg none)); clear hg)
              | (go_at_call 13; refine (bo_same HB6.out).mono ?_; rintro r V7 ⟨rfl, hg⟩; have HB7 := hd (HB6.out.by hg); clear hg))
            exact ⟨⟨i + 1, by omega, by go_num, HB7.out⟩, by simp [intOf]; omega⟩
        · have i3 : ¬ (i : Int) < 3 := by omega
          have HLV := hd HBr.out.2.1
          go_wp2_with (go_at_call 6; refine (wakes_any _ HLV.out).mono ?_; rintro e w8 ⟨rfl, hg⟩; have HWK := hd hg; clear hg)
          go_ret
          exact ⟨rfl, grown_trans HBr.out.1 HWK.out⟩
theorem steps_walk (w : World) (L : Laid w) (f : Int) (u v : Bool) (a b c op im : Int) (o1 : Option Addr) (n1 c1 : Nat) (x1 : List Int) (W1 : Wl w o1 n1 c1 x1) (inp : ByteArray) (hi : inp.size ≤ maxLen) :
    Calls Tryz.prog 4 #[ins f u v a b c op im, .slice o1 n1 c1, .string inp] w fun e w' => e = .returned (.bool true) ∧ w.grownBy w' none := by
  unfold maxLen at hi
  by_cases h : goodR f u v a b c op im = false ∨ 4000 < inp.size
  · exact steps_bad w L f u v a b c op im o1 n1 c1 inp (by omega) h
  · have h1 : goodR f u v a b c op im = true := by
      cases e : goodR f u v a b c op im
      · exact absurd (.inl e) h
      · rfl
    exact steps_good w L f u v a b c op im o1 n1 c1 x1 W1 inp (by omega) h1
end Go.Proofs.YtjneaphlghfbhaaGreatDoor.Qpu
