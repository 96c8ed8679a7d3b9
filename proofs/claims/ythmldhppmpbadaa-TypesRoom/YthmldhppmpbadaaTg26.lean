/-
  The document's own tables (package spinetref13): Good, each type by itself is good.
-/
import Derived.Test.YthmldhppmpbadaaTg24
import Derived.Test.YthmldhppmpbadaaTg25
import Derived.Test.YthmldhppmpbadaaY3
import Derived.Test.YthmldhppmpbadaaTg23
namespace Go.Proofs.Ythmldhppmpbadaa.Ty
open Go.RowKit hiding Hid
open Go.Maps Go.Proofs.Ythmldhppmpbadaa.Tx Go.Proofs.Ythmldhppmpbadaa.Lx Go.Proofs.Ythmldhppmpbadaa.Tr Go.Proofs.Ythmldhppmpbadaa.Mp
set_option linter.unusedVariables false
set_option linter.unusedSimpArgs false
set_option maxRecDepth 100000

theorem mkI : ∃ i z, Try.prog.info? 3 = some i ∧ i.zero = some z ∧ i.size = 1 ∧ i.bytes = 8 ∧ z.cells = #[.int .i64 0] := by
  refine ⟨_, _, rfl, rfl, rfl, rfl, ?_⟩
  kernel_rfl
theorem made_0 {z : Array Value} (h : z = #[.int .i64 0]) (n : Nat) : madeCells z (n * 1) = (stC (List.replicate n 0)).toArray := by
  subst h
  unfold madeCells stC
  apply Array.ext
  · simp
  · intro i h1 h2
    simp [Nat.mod_one]
def TwoUp (T : List Tt) (m : Nat) : Prop := ∀ i k, 7 ≤ i → i < m → 7 ≤ k → k < i → TwoP T i k
theorem two_no {T : List Tt} {m k : Nat} {x y : Tt} (hk : 7 ≤ k) (hkm : k < m) (hx : T[m]? = some x) (hy : T[k]? = some y) (h9 : x.fm = 9) (h9' : y.fm = 9) (hm : y.md = x.md) (hd : y.ds = x.ds) (h1 : x.ds ≠ -1) : ¬ GoodP T := fun g => h1 ((g.rcd m x hx h9).1 k y hkm hy h9' hm hd)
theorem nine_c {w : World} {A : Addr} {a : La} (h : ∀ j u, (laC a)[j]? = some u → w.cell? (A.add j) = some u) : w.cell? A = some (.int .i64 a.x.fm) ∧ w.cell? ⟨A.block, A.off + 1, none⟩ = some (.string (bs a.x.md)) ∧ w.cell? ⟨A.block, A.off + 9, none⟩ = some (.int .i64 a.x.ds) := by
  obtain ⟨c0, c1, _, _, _, _, _, _, _, c9⟩ := ten_of h
  exact ⟨c0, c1, c9⟩
set_option maxHeartbeats 16000000 in
theorem rgood_fin {w : World} {ad : Addr} {T : List Tt} (cp : Nat) (H : Tab w (some ad) T) (h7 : 7 ≤ T.length) (h256 : T.length ≤ 256) (hb : UpTo T 7) (ho : Upto2 T T.length) : Calls Try.prog 24 #[.slice (some ad) T.length cp] w (GdO w T) := by
  have HL := hide (⟨h7, h256, hb, fun i x h1 h2 => ho i x h1 (List.getElem?_eq_some_iff.1 h2).1 h2⟩ : RgL T)
  obtain ⟨ti, tz, t1, t2, t3, t4, t5⟩ := mkI
  have HM := hide (And.intro t1 (And.intro t2 (And.intro t3 (And.intro t4 t5))))
  clear t1 t2 t3 t4 t5
  have HE := hide (fun (W : World) (sb : Nat) => round_all (w0 := W) (o := some ad) (cp := cp) (sb := sb) HL.out.loc.inR h256 (fl_most HL.out) 256 (List.range 256) (by rw [List.length_range]; exact Nat.le_refl _))
  have p256 : (T.length : Int) ≤ 256 := by omega
  have HT := hide H
  have HC := hide (Cx.start w (fun _ => False))
  have j7 : ¬ (T.length : Int) < 7 := by omega
  have j8 : ¬ (256 : Int) < T.length := by omega
  have k0 : (T.length : Int) ≤ 1000000 := by omega
  have HBas := hide hb
  have HO := hide ho
  clear H h7 h256 hb ho
  go_enter Try.func24, Try.ntmps24
  go_wp2_with (go_at_call 49; refine (rbasic_at _).mono ?_; rintro e w1 ⟨ob, cb, rfl, h7, hg, hb⟩; have HB := hide hb; have HG := hide hg; replace HT := hide (HT.out.kept hg); replace HC := hide (Cx.start w1 (fun _ => False)); clear h7 hg hb)
  go_loopw [4] (fun iv W => ∃ i : Nat, i ≤ 7 ∧ iv = .int .i64 i ∧ Hid (UpTo T i) ∧ Hid (Cx w1 (fun _ => False) none [] [] [] W)) (fun iv _ => 7 - (intOf iv).toNat)
  case atStart => exact ⟨0, by omega, rfl, hide (fun i x h => by omega), HC⟩
  case round =>
    clear HC
    obtain ⟨i, hi, rfl, HU, HC⟩ := hrel
    by_cases hlt : i < 7
    · have r1 : (i : Int) < 7 := by omega
      have r2 : (i : Int) < T.length := by omega
      obtain ⟨x, hx⟩ : ∃ x, T[i]? = some x := ⟨T[i], List.getElem?_eq_getElem (by omega)⟩
      obtain ⟨ad1, la, e0, e1, hc1, hp1⟩ := HT.out.at hx
      cases e0
      obtain ⟨ad2, la2, rfl, e2, hc2, hp2⟩ := HB.out.at (bas_at hlt)
      obtain ⟨B, hB⟩ : ∃ B, ad.add (i * 10) = B := ⟨_, rfl⟩
      obtain ⟨B2, hB2⟩ : ∃ B, ad2.add (i * 10) = B := ⟨_, rfl⟩
      rw [hB] at hc1
      rw [hB2] at hc2
      have HE1 := hide (fun W (hW : w1.grownBy W none) j u (hu : (laC la)[j]? = some u) => hW.cell (hc1 j u hu) (by simp))
      have HE2 := hide (fun W (hW : w1.grownBy W none) j u (hu : (laC la2)[j]? = some u) => hW.cell (hc2 j u hu) (by simp))
      have HP1 := hide hp1
      have HP2 := hide hp2
      have HX := hide e2
      obtain ⟨q, hq⟩ : ∃ q, basicB i la.x = q := ⟨_, rfl⟩
      have HQ := hide hq
      have HXx := hide hx
      have HEx := hide e1
      have HLt := hide hlt
      clear hx e1 e2 hc1 hc2 hp1 hp2 hq
      have hq2 := HBas.out i x HLt.out HXx.out
      rw [← HEx.out, HQ.out] at hq2
      subst hq2
      · go_wp2
        ((replace HC := hide (HC.out.g (d1_g _)); have HC0 := HC; refine wp_region_inO (fun W => World.grownBy _ W none) 99 [0, 1, 2, 3, 4, 5, 6, 7, 9] [0, 1, 2, 3, 4, 5, 6, 7, 8, 9] (by kernel_rfl) (by kernel_rfl) (by kernel_rfl) (by kernel_rfl) (fun _ _ d _ _ h => by cases d <;> exact h) (gr_ref _ _) ?_; have HS := hide (gr_of HC.out none)); (refine inO_read (v := ?_) rfl rfl (Or.inl ⟨by rfl, ?_⟩) ?_; rotate_left 1; (focus (intro W hSW; clear hSW; go_simp; (try (with_reducible rfl)))); (try simp only [Act.put, List.getElem_toArray, List.getElem_cons_zero, List.getElem_cons_succ, List.setIfInBounds_toArray, List.set_cons_zero, List.set_cons_succ])); (refine inO_read (v := ?_) rfl rfl (Or.inl ⟨by rfl, ?_⟩) ?_; rotate_left 1; (focus (intro W hSW; clear hSW; go_simp; (try (with_reducible rfl)))); (try simp only [Act.put, List.getElem_toArray, List.getElem_cons_zero, List.getElem_cons_succ, List.setIfInBounds_toArray, List.set_cons_zero, List.set_cons_succ])); (refine inO_read (v := ?_) rfl rfl (Or.inl ⟨by rfl, ?_⟩) ?_; rotate_left 1; (focus (intro W hSW; clear hSW; go_simp; (try (with_reducible rfl)))); (try simp only [Act.put, List.getElem_toArray, List.getElem_cons_zero, List.getElem_cons_succ, List.setIfInBounds_toArray, List.set_cons_zero, List.set_cons_succ])); (refine inO_read rfl rfl (yl_load rfl rfl rfl (fun W hW => run_load_s tyT B (laC la) rfl (HE1.out W (gr_then HC0.out.grown hW)))) ?_; (try simp only [Act.put, List.getElem_toArray, List.getElem_cons_zero, List.getElem_cons_succ, List.setIfInBounds_toArray, List.set_cons_zero, List.set_cons_succ])); (refine inO_read (v := ?_) rfl rfl (Or.inl ⟨by rfl, ?_⟩) ?_; rotate_left 1; (focus (intro W hSW; clear hSW; go_simp; (try (with_reducible rfl)))); (try simp only [Act.put, List.getElem_toArray, List.getElem_cons_zero, List.getElem_cons_succ, List.setIfInBounds_toArray, List.set_cons_zero, List.set_cons_succ])); (refine inO_read (v := ?_) rfl rfl (Or.inl ⟨by rfl, ?_⟩) ?_; rotate_left 1; (focus (intro W hSW; clear hSW; go_simp; (try (with_reducible rfl)))); (try simp only [Act.put, List.getElem_toArray, List.getElem_cons_zero, List.getElem_cons_succ, List.setIfInBounds_toArray, List.set_cons_zero, List.set_cons_succ])); (refine inO_read (v := ?_) rfl rfl (Or.inl ⟨by rfl, ?_⟩) ?_; rotate_left 1; (focus (intro W hSW; clear hSW; go_simp; (try (with_reducible rfl)))); (try simp only [Act.put, List.getElem_toArray, List.getElem_cons_zero, List.getElem_cons_succ, List.setIfInBounds_toArray, List.set_cons_zero, List.set_cons_succ])); (refine inO_read rfl rfl (yl_load rfl rfl rfl (fun W hW => run_load_s tyT B2 (laC la2) rfl (HE2.out W (gr_then HC0.out.grown hW)))) ?_; (try simp only [Act.put, List.getElem_toArray, List.getElem_cons_zero, List.getElem_cons_succ, List.setIfInBounds_toArray, List.set_cons_zero, List.set_cons_succ])); (refine inO_act rfl rfl rfl (fun K' hK => ?_)); go_simp; refine (alike_b (HP1.out.kept HC.out.grown) (HP2.out.kept HC.out.grown) HX.out).mono ?_; rw [HQ.out]; rintro e w2 ⟨rfl, hg⟩; (replace HC := hide (HC.out.g hg); refine hK _ _ (.inr (gr_then0 HS.out hg)) ?_; replace HS := hide (gr_then0 HS.out hg); clear hK K' hg; (try simp only [Act.put, List.getElem_toArray, List.getElem_cons_zero, List.getElem_cons_succ, List.setIfInBounds_toArray, List.set_cons_zero, List.set_cons_succ])); (refine inO_read (v := ?_) rfl rfl (Or.inl ⟨by rfl, ?_⟩) ?_; rotate_left 1; (focus (intro W hSW; clear hSW; go_simp; (try (with_reducible rfl)))); (try simp only [Act.put, List.getElem_toArray, List.getElem_cons_zero, List.getElem_cons_succ, List.setIfInBounds_toArray, List.set_cons_zero, List.set_cons_succ])); (refine inO_end ?_); clear HC0 HS)
        go_wp2
        refine ⟨⟨i + 1, by omega, by go_num, hide (fun j y hj hy => ?_), HC⟩, by simp [intOf]; omega⟩
        by_cases e : j = i
        · subst e; rw [HXx.out] at hy; cases hy; rw [← HEx.out]; exact HQ.out
        · exact HU.out j y (by omega) hy
    · have HI7 := hide (show i = 7 by omega)
      have q7 : ¬ (i : Int) < 7 := by omega
      replace HU := hide (show UpTo T 7 by have := HU.out; rwa [HI7.out] at this)
      clear hlt hi
      go_wp2
      go_loopw [5] (fun iv W => ∃ m : Nat, 7 ≤ m ∧ m ≤ T.length ∧ iv = .int .i64 m ∧ Hid (Upto2 T m) ∧ Hid (Cx w1 (fun _ => False) none [] [] [] W)) (fun iv _ => T.length - (intOf iv).toNat)
      case atStart => exact ⟨7, by omega, by omega, rfl, hide (fun i x h h' => by omega), HC⟩
      case round =>
        clear HC
        obtain ⟨m, hm7, hm, rfl, HU2, HC⟩ := hrel
        by_cases hlt : m < T.length
        · have r2 : (m : Int) < T.length := by omega
          obtain ⟨x, hx⟩ : ∃ x, T[m]? = some x := ⟨T[m], List.getElem?_eq_getElem (by omega)⟩
          have HX := hide hx
          have HLt := hide hm7
          have r3 := hlt
          clear hx
          go_wp2_with (go_at_call 51; refine (one_at (cp := cp) (HT.out.kept HC.out.grown) HX.out).mono ?_; rintro e w2 ⟨d, rfl, hg, hd⟩; replace HC := hide (HC.out.g hg); clear hg; cases d <;> (first | (have HD := hide (hd.1 rfl); clear hd) | (have HD := hide (fun h => (by cases hd.2 h : False)); clear hd)))
          · exact (HD.out (HO.out m x HLt.out r3 HX.out)).elim
          · refine ⟨⟨m + 1, by omega, by omega, by go_num, hide (fun j y hj1 hj hy => ?_), HC⟩, by simp [intOf]; omega⟩
            by_cases e : j = m
            · subst e; rw [HX.out] at hy; cases hy; exact HD.out
            · exact HU2.out j y hj1 (by omega) hy
        · have HMl := hide (show m = T.length by omega)
          have qm : ¬ (m : Int) < T.length := by omega
          replace HU2 := hide (show Upto2 T T.length by have := HU2.out; rwa [HMl.out] at this)
          clear hlt hm hm7 HU2
          go_wp2_with (refine at_mks 69 rfl ?_; refine wl_mks rfl 69 _ _ rfl Try.underlying69 HM.out.1 HM.out.2.1 T.length rfl rfl (by rw [HM.out.2.2.2.1]; omega) (by rw [HM.out.2.2.1]; omega) (by omega) (stC (List.replicate T.length 0)) (by rw [HM.out.2.2.1]; exact made_0 HM.out.2.2.2.2 _) HC.out ?_; intro sb w' hn hc; (replace HC := hide hc; clear hc))
          go_loopw [7] (fun iv W => ∃ (m : Nat) (M : List Int), 7 ≤ m ∧ m ≤ T.length ∧ iv = .int .i64 m ∧ Hid (MkR T M m) ∧ Hid (TwoUp T m) ∧ Hid (Cx w1 (fun _ => False) none [⟨sb, stC M, 3⟩] [] [] W)) (fun iv _ => T.length - (intOf iv).toNat)
          case atStart => exact ⟨7, List.replicate T.length 0, by omega, by have := HL.out.lo; omega, rfl, hide ⟨⟨fun _ => 0, (fun i x hx e => by unfold mk at e; rw [List.getElem?_replicate] at e; split at e <;> cases e)⟩, fun i => .inl (by unfold mk; rw [List.getElem?_replicate]; split <;> rfl), (fun k e => by unfold mk at e; rw [List.getElem?_replicate] at e; split at e <;> cases e), (fun k h1 h2 => by omega), List.length_replicate⟩, hide (fun i k h1 h2 => by omega), HC⟩
          case round =>
            clear HC
            obtain ⟨m, M, hm7, hm, rfl, HA, HTw, HC⟩ := hrel
            by_cases hlt : m < T.length
            · have r2 : (m : Int) < T.length := by omega
              have HJ := hide hlt
              have HM7 := hide hm7
              go_wp2_with (go_at_call 52; refine (HE.out w1 sb M _ m ⟨HT.out, HC.out.grown, (HC.out.old _ (.head _)).resolve_right (by simp), HC.out.loc ⟨sb, stC M, 3⟩ (by repeat (first | exact List.Mem.head _ | apply List.Mem.tail)), HA.out.2.2.2.2⟩ HJ.out HA.out.2.1 HA.out.1 (cov_all M)).mono ?_; rintro e w2 ⟨c, M', rfl, hg, hs, hy, hn⟩; have HZ := hide hs; have HC1 := hide (own_call HC.out hg hs.blk); cases c <;> (first | (have HQ := hide (hy rfl); clear hy hn hg hs) | (have HN := hide (hn rfl); clear hy hn hg hs)))
              rotate_left 1
              · go_ret
                exact ⟨false, rfl, gr_then HG.out HC1.out.grown, gd_no (fun g => by obtain ⟨r, hr⟩ := g.rg.rank; exact HN.out r hr (fun k e => absurd e (HA.out.2.2.1 k)))⟩
              clear HC
              go_loopw [8] (fun kv W => ∃ k : Nat, 7 ≤ k ∧ k ≤ m ∧ kv = .int .i64 k ∧ Hid (∀ k', 7 ≤ k' → k' < k → TwoP T m k') ∧ Hid (Cx w1 (fun _ => False) none [⟨sb, stC M', 3⟩] [] [] W)) (fun kv _ => m - (intOf kv).toNat)
              case atStart => exact ⟨7, by omega, by omega, rfl, hide (fun k' h1 h2 => by omega), HC1⟩
              case round =>
                clear HC1
                obtain ⟨k, hk7, hk, rfl, HK, HC⟩ := hrel
                by_cases hkm : k < m
                · have r4 : (k : Int) < m := by omega
                  have r5 : (k : Int) < T.length := by omega
                  obtain ⟨x, hx⟩ : ∃ x, T[m]? = some x := ⟨T[m], List.getElem?_eq_getElem (by omega)⟩
                  obtain ⟨y, hy⟩ : ∃ y, T[k]? = some y := ⟨T[k], List.getElem?_eq_getElem (by omega)⟩
                  obtain ⟨ad1, la, e0, e1, hc1, hp1⟩ := HT.out.at hx
                  cases e0
                  obtain ⟨ad1, lb, e0, e2, hc2, hp2⟩ := HT.out.at hy
                  cases e0
                  obtain ⟨B, hB⟩ : ∃ B, ad.add (m * 10) = B := ⟨_, rfl⟩
                  obtain ⟨B2, hB2⟩ : ∃ B, ad.add (k * 10) = B := ⟨_, rfl⟩
                  rw [hB] at hc1
                  rw [hB2] at hc2
                  obtain ⟨c0, c1, c9⟩ := nine_c (fun j u hu => HC.out.grown.cell (hc1 j u hu) (by simp))
                  obtain ⟨d0, d1, d9⟩ := nine_c (fun j u hu => HC.out.grown.cell (hc2 j u hu) (by simp))
                  have bl1 := block_lt_of_cell c0
                  have bl2 := block_lt_of_cell d0
                  rw [e1] at c0 c1 c9
                  rw [e2] at d0 d1 d9
                  have HX := hide hx
                  have HY := hide hy
                  have HK7 := hide hk7
                  have HKm := hide hkm
                  have next : TwoP T m k → (∀ k', 7 ≤ k' → k' < k + 1 → TwoP T m k') := fun h k' h1 h2 => by
                    by_cases e : k' = k
                    · subst e; exact h
                    · exact HK.out k' h1 (by omega)
                  have HNx := hide next
                  have vac : ∀ x' y', T[m]? = some x' → T[k]? = some y' → x' = x ∧ y' = y := fun x' y' h1 h2 => by rw [hx] at h1; rw [hy] at h2; cases h1; cases h2; exact ⟨rfl, rfl⟩
                  have HVc := hide vac
                  clear hx hy e1 e2 hc1 hc2 hp1 hp2 next vac hk7 hm7
                  obtain ⟨f1, hf1⟩ : ∃ f, x.fm = f := ⟨_, rfl⟩
                  obtain ⟨f2, hf2⟩ : ∃ f, y.fm = f := ⟨_, rfl⟩
                  obtain ⟨s1, hs1⟩ : ∃ f, x.md = f := ⟨_, rfl⟩
                  obtain ⟨s2, hs2⟩ : ∃ f, y.md = f := ⟨_, rfl⟩
                  obtain ⟨g1, hg1⟩ : ∃ f, x.ds = f := ⟨_, rfl⟩
                  obtain ⟨g2, hg2⟩ : ∃ f, y.ds = f := ⟨_, rfl⟩
                  rw [hf1] at c0
                  rw [hs1] at c1
                  rw [hg1] at c9
                  rw [hf2] at d0
                  rw [hs2] at d1
                  rw [hg2] at d9
                  have HF := hide (And.intro hf1 (And.intro hf2 (And.intro hs1 (And.intro hs2 (And.intro hg1 hg2)))))
                  clear hf1 hf2 hs1 hs2 hg1 hg2
                  by_cases a1 : f1 = 9
                  case neg =>
                    have b1 : (f1 == 9) = false := by simpa using a1
                    have HV := hide (HNx.out (fun x' y' h1 h2 h3 => absurd (by obtain ⟨rfl, rfl⟩ := HVc.out x' y' h1 h2; rw [← HF.out.1]; exact h3) a1))
                    clear a1
                    (go_wp2; go_quiet (fail); go_wp2; exact ⟨⟨k + 1, by have := HK7.out; omega, by omega, by go_num, HV, hide (HC.out.g (drewN_g _ nq))⟩, by simp [intOf]; omega⟩)
                  by_cases a2 : f2 = 9
                  case neg =>
                    have b1 : (f1 == 9) = true := by simpa using a1
                    have b2 : (f2 == 9) = false := by simpa using a2
                    have HV := hide (HNx.out (fun x' y' h1 h2 _ h3 => absurd (by obtain ⟨rfl, rfl⟩ := HVc.out x' y' h1 h2; rw [← HF.out.2.1]; exact h3) a2))
                    clear a1 a2
                    (go_wp2; go_quiet (fail); go_wp2; exact ⟨⟨k + 1, by have := HK7.out; omega, by omega, by go_num, HV, hide (HC.out.g (drewN_g _ nq))⟩, by simp [intOf]; omega⟩)
                  by_cases a3 : s2 = s1
                  case neg =>
                    have b1 : (f1 == 9) = true := by simpa using a1
                    have b2 : (f2 == 9) = true := by simpa using a2
                    have b3 : ((bs s1).toList == (bs s2).toList) = false := by rw [bs_toList, bs_toList]; simpa using fun e => a3 e.symm
                    have HV := hide (HNx.out (fun x' y' h1 h2 _ _ h3 => absurd (by obtain ⟨rfl, rfl⟩ := HVc.out x' y' h1 h2; rw [← HF.out.2.2.1, ← HF.out.2.2.2.1]; exact h3) a3))
                    clear a1 a2 a3
                    (go_wp2; go_quiet (fail); go_wp2; exact ⟨⟨k + 1, by have := HK7.out; omega, by omega, by go_num, HV, hide (HC.out.g (drewN_g _ nq))⟩, by simp [intOf]; omega⟩)
                  by_cases a4 : g2 = g1
                  case neg =>
                    have b1 : (f1 == 9) = true := by simpa using a1
                    have b2 : (f2 == 9) = true := by simpa using a2
                    subst a3
                    have b4 : (g1 == g2) = false := by simpa using fun e => a4 e.symm
                    have HV := hide (HNx.out (fun x' y' h1 h2 _ _ _ h3 => absurd (by obtain ⟨rfl, rfl⟩ := HVc.out x' y' h1 h2; rw [← HF.out.2.2.2.2.1, ← HF.out.2.2.2.2.2]; exact h3) a4))
                    clear a1 a2 a4
                    (go_wp2; go_quiet (fail); go_wp2; exact ⟨⟨k + 1, by have := HK7.out; omega, by omega, by go_num, HV, hide (HC.out.g (drewN_g _ nq))⟩, by simp [intOf]; omega⟩)
                  by_cases a5 : g1 = -1
                  case pos =>
                    have b1 : (f1 == 9) = true := by simpa using a1
                    have b2 : (f2 == 9) = true := by simpa using a2
                    subst a3 a4
                    have b5 : (g2 != -1) = false := by simpa using a5
                    have HV := hide (HNx.out (fun x' y' h1 h2 _ _ _ _ => by obtain ⟨rfl, rfl⟩ := HVc.out x' y' h1 h2; rw [HF.out.2.2.2.2.1]; exact a5))
                    clear a1 a2 a5
                    (go_wp2; go_quiet (fail); go_wp2; exact ⟨⟨k + 1, by have := HK7.out; omega, by omega, by go_num, HV, hide (HC.out.g (drewN_g _ nq))⟩, by simp [intOf]; omega⟩)
                  have HV := hide (two_no HK7.out HKm.out HX.out HY.out (HF.out.1.trans a1) (HF.out.2.1.trans a2) (by rw [HF.out.2.2.1, HF.out.2.2.2.1]; exact a3) (by rw [HF.out.2.2.2.2.1, HF.out.2.2.2.2.2]; exact a4) (by rw [HF.out.2.2.2.2.1]; exact a5))
                  have b1 : (f1 == 9) = true := by simpa using a1
                  have b2 : (f2 == 9) = true := by simpa using a2
                  subst a3 a4
                  have b5 : (g2 != -1) = true := by simpa using a5
                  clear a1 a2 a5
                  go_wp2
                  go_quiet (fail)
                  go_wp2
                  go_ret
                  exact ⟨false, rfl, gr_then HG.out (gr_then HC.out.grown (drewN_g _ nq)), gd_no HV.out⟩
                · have HKe := hide (show k = m by omega)
                  have q8 : ¬ (k : Int) < m := by omega
                  clear hkm hk hk7 hm7
                  go_wp2
                  refine ⟨⟨m + 1, M', by have := HM7.out; omega, by omega, by go_num, hide ⟨HQ.out.1.dn, HQ.out.1.vm, fun k e => HA.out.2.2.1 k ((HQ.out.1.le.one k).2 e), fun k h1 h2 => ?_, HZ.out.len⟩, hide (fun i k' h1 h2 h3 h4 => ?_), HC⟩, by simp [intOf]; omega⟩
                  · by_cases e : k = m
                    · rw [e]; exact HQ.out.2
                    · exact HQ.out.1.le.two k (HA.out.2.2.2.1 k h1 (by omega))
                  · by_cases e : i = m
                    · subst e; exact HK.out k' h3 (by have := HKe.out; omega)
                    · exact HTw.out i k' h1 (by omega) h3 h4
            · have HMe := hide (show m = T.length by omega)
              have q9 : ¬ (m : Int) < T.length := by omega
              clear hlt hm hm7
              go_wp2
              go_ret
              have ha := HA.out
              have htw := HTw.out
              rw [HMe.out] at ha htw
              have rg : RgP T := ⟨HL.out.lo, HL.out.hi, HL.out.bas, HL.out.oth, mkR_rank ha HBas.out, fun i k h1 h2 h3 x y hx hy => htw i k h1 (List.getElem?_eq_some_iff.1 hx).1 h2 h3 x y hx hy⟩
              exact ⟨true, rfl, gr_then HG.out HC.out.grown, fun _ => rg.good, fun _ => rfl⟩
theorem rgood_at {w : World} {o : Option Addr} {T : List Tt} (cp : Nat) (H : Tab w o T) : Calls Try.prog 24 #[.slice o T.length cp] w (GdO w T) := by
  by_cases hf : 7 ≤ T.length ∧ T.length ≤ 256
  case neg => exact rgood_few cp H hf
  obtain ⟨x, hx⟩ : ∃ x, T[0]? = some x := ⟨T[0], List.getElem?_eq_getElem (by omega)⟩
  obtain ⟨ad, _, rfl, _⟩ := H.at hx
  by_cases hb : UpTo T 7
  case neg => exact rgood_bas cp H hf.1 hf.2 hb
  by_cases ho : Upto2 T T.length
  case neg => exact rgood_oth cp H hf.1 hf.2 hb ho
  exact rgood_fin cp H hf.1 hf.2 hb ho
end Go.Proofs.Ythmldhppmpbadaa.Ty
