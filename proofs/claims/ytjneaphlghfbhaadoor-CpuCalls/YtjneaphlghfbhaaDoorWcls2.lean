/-
  The walk of CpuCalls.
-/
import Derived.Test.YtjneaphlghfbhaaDoorWcls
import Derived.Test.YtjneaphlghfbhaaDoorWlds
namespace Go.Proofs.YtjneaphlghfbhaaDoor.Cpu
open Go.RowKit Go.Proofs.YtjneaphlghfbhaaDoor.Bits Go.Proofs.YtjneaphlghfbhaaDoor.Gw Go.Proofs.YtjneaphlghfbhaaDoor.Risc Go.Proofs.YtjneaphlghfbhaaDoor.Alu Go.Proofs.YtjneaphlghfbhaaDoor.Mem
set_option linter.unusedVariables false

set_option maxRecDepth 100000 in
theorem Tryd.infoI : (Tryd.prog.info? 44).map (fun i => (i.zero, i.size, i.bytes)) = some (some (.agg #[.int .i64 0, .bool false, .bool false, .int .i64 0, .int .i64 0, .int .i64 0, .int .i64 0, .int .i64 0]), 8, 56) := by kernel_rfl
theorem cells_new (w : World) (i : Ins) (t : TypeId) : ∀ j u, i.cells[j]? = some u → (w.alloc (.cells i.cells.toArray t)).cell? ((⟨w.heap.size, 0, none⟩ : Addr).add j) = some u := by
  intro j u hj
  rw [Addr.add_lit, Nat.zero_add, cell_blk (l := i.cells) (heap_alloc_new w _)]
  exact hj
theorem cells_one (i : Ins) : ∀ u ∈ i.cells, u.oneCell' = true := by
  intro u hu
  simp only [Ins.cells, List.mem_cons, List.mem_nil_iff, or_false] at hu
  rcases hu with rfl | rfl | rfl | rfl | rfl | rfl | rfl | rfl <;> rfl
theorem flat_snoc (is : List Ins) (i : Ins) : flat8 (is ++ [i]) = flat8 is ++ i.cells := by simp [flat8]
theorem hd_snoc (cond k q : Nat) : callHd cond k (q + 1) = callHd cond k q ++ [cIa] := by simp [callHd, List.replicate_succ']
theorem own_lies {w : World} {base n : Nat} {v : Value} {is : List Ins} (h : w.ownsRow base 44 8 v n (flat8 is)) (hn : 1 ≤ n) (hl : is.length = n) : ∃ X cap, v = .slice (some ⟨X, 0, none⟩) n cap ∧ Lies w X is := by
  rcases h.2 with ⟨_, h0⟩ | ⟨g, cap, cur, e, hb, hg, hc, hm, hs, ht⟩
  · omega
  · exact ⟨g, cap, e, cur, _, _, hg, by rw [hl]; exact ht⟩
set_option maxHeartbeats 4000000 in
set_option maxRecDepth 100000 in
theorem calls_yes (w : World) (L : Laid w) (n : Int) :
    Calls Tryd.prog 6 #[.int .i64 n, .bool true] w fun e w' => e = .returned (.bool true) ∧ w.grownBy w' none := by
  obtain ⟨i0, hi, hz0, hz1, hz2⟩ := info_parts Tryd.infoI
  have HL := hd L
  obtain ⟨Q, hQ⟩ : ∃ Q, IntKind.u64.wrap n = Q := ⟨_, rfl⟩
  have hQ0 := wrap_u64 n
  rw [hQ] at hQ0
  obtain ⟨q0, q1⟩ := hQ0
  obtain ⟨k, hk⟩ := Int.eq_ofNat_of_zero_le (Int.emod_nonneg Q (show (20 : Int) ≠ 0 by decide))
  have hk20 : k < 20 := by omega
  obtain ⟨S, hS, s1, s2, s3, s4⟩ := call_ran k hk20 true
  simp only [if_true] at hS s2 s3 s4
  have HS := hd hS
  have HGd := hd (call_good 7 k hk20 (.inl rfl))
  have HE := hd (And.intro s1 (And.intro s2 (And.intro s3 s4)))
  have kk : (k : Int) < 20 := by omega
  clear L hS s1 s2 s3 s4
  go_enter Tryd.func6, Tryd.ntmps6
  go_wp2
  have HO : Hid ((w.alloc (Obj.cells #[Value.int IntKind.i64 3, Value.bool true, Value.bool true, Value.int IntKind.i64 7, Value.int IntKind.i64 0, Value.int IntKind.i64 0, Value.int IntKind.i64 0, Value.int IntKind.i64 (↑k + 1), Value.int IntKind.i64 1, Value.bool false, Value.bool false, Value.int IntKind.i64 2, Value.int IntKind.i64 2, Value.int IntKind.i64 0, Value.int IntKind.i64 8, Value.int IntKind.i64 1] 44)).ownsRow w.heap.size 44 8 (.slice (some ⟨w.heap.size, 0, none⟩) 2 2) 2 (flat8 (callHd 7 k 0))) :=
    hd ⟨rfl, .inr ⟨w.heap.size, 2, _, rfl, Nat.le_refl _, heap_alloc_new w _, by decide, by decide, rfl, rfl⟩⟩
  have HBl : Hid (Below w.heap.size w (w.alloc (Obj.cells #[Value.int IntKind.i64 3, Value.bool true, Value.bool true, Value.int IntKind.i64 7, Value.int IntKind.i64 0, Value.int IntKind.i64 0, Value.int IntKind.i64 0, Value.int IntKind.i64 (↑k + 1), Value.int IntKind.i64 1, Value.bool false, Value.bool false, Value.int IntKind.i64 2, Value.int IntKind.i64 2, Value.int IntKind.i64 0, Value.int IntKind.i64 8, Value.int IntKind.i64 1] 44))) := hd ((Below.refl _ _).alloc (Nat.le_refl _) _)
  generalize w.alloc (Obj.cells #[Value.int IntKind.i64 3, Value.bool true, Value.bool true, Value.int IntKind.i64 7, Value.int IntKind.i64 0, Value.int IntKind.i64 0, Value.int IntKind.i64 0, Value.int IntKind.i64 (↑k + 1), Value.int IntKind.i64 1, Value.bool false, Value.bool false, Value.int IntKind.i64 2, Value.int IntKind.i64 2, Value.int IntKind.i64 0, Value.int IntKind.i64 8, Value.int IntKind.i64 1] 44) = W at HO HBl ⊢
  obtain ⟨B, hB⟩ : ∃ B, B = w.heap.size := ⟨_, rfl⟩
  rw [← hB] at HO HBl ⊢
  have HB := hd hB
  clear hB hQ hk q0 q1
  go_loopw [7, 8] (fun v j wr => ∃ q : Nat, q ≤ k ∧ j = .int .i64 q ∧ wr.ownsRow B 44 8 v (2 + q) (flat8 (callHd 7 k q)) ∧ Below B w wr)
    (fun _ j _ => k - (intOf j).toNat)
  case atStart => exact ⟨0, Nat.zero_le _, rfl, HO.out, HBl.out⟩
  case round =>
    obtain ⟨q, hq, rfl, hown, hbel⟩ := hrel
    have hbs : B ≤ wr.heap.size := by rw [HB.out]; exact hbel.size
    clear HO HBl
    by_cases hlt : q < k
    · have i2 : (q : Int) < (k : Int) := by omega
      have HO := hd (hown.alloc (.cells cIa.cells.toArray 44))
      have HBL := hd hbel
      clear hown hbel
      go_wp2_with (at_builtin; refine wpList_append_own _ rfl _ _ 45 rfl B 44 i0 _ 8 56 Tryd.underlying45 hi hz0 hz1 hz2 rfl (by decide) _ _ _ rfl HO.out ⟨wr.heap.size, 0, none⟩ 1 1 cIa.cells rfl rfl (cells_new _ _ _) (cells_one _) ?c3 ?c4 ?c5 ?_)
      case c3 => unfold maxLen; omega
      case c4 => omega
      case c5 => (try simp); omega
      intro v' w2 hown' hgrow _
      have hnew : w2.ownsRow B 44 8 v' (2 + (q + 1)) (flat8 (callHd 7 k (q + 1))) := by rw [hd_snoc, flat_snoc]; exact hown'
      have hlt' := HO.out.lt
      have hb1 : Below B w w2 := (HBL.out.alloc hbs _).grown hgrow (by simp; omega) (fun g hg => (hlt' g hg).1)
      clear hown' hgrow hlt' HBL HO
      go_wp2
      exact ⟨⟨q + 1, by omega, by go_num, hnew, hb1⟩, by simp [intOf]; omega⟩
    · obtain rfl : q = k := by omega
      have i2 : ¬ (q : Int) < (q : Int) := by omega
      have HO := hd (hown.alloc (.cells cIz.cells.toArray 44))
      have HBL := hd hbel
      clear hown hbel
      go_upto_region 11 with (at_builtin; refine wpList_append_own _ rfl _ _ 45 rfl B 44 i0 _ 8 56 Tryd.underlying45 hi hz0 hz1 hz2 rfl (by decide) _ _ _ rfl HO.out ⟨wr.heap.size, 0, none⟩ 1 1 cIz.cells rfl rfl (cells_new _ _ _) (cells_one _) ?c3 ?c4 ?c5 ?_)
      case c3 => unfold maxLen; omega
      case c4 => omega
      case c5 => (try simp); omega
      intro v' w2 hown' hgrow _
      rw [← flat_snoc] at hown'
      have hlt' := HO.out.lt
      have hb1 : Below B w w2 := (HBL.out.alloc hbs _).grown hgrow (by simp; omega) (fun g hg => (hlt' g hg).1)
      obtain ⟨X, cap, rfl, hX⟩ := own_lies hown' (by omega) (by simp [call_len])
      have HG2 := hd (grown_below (by rw [← HB.out]; exact hb1) : w.grownBy w2 none)
      have HP := played_any (cap := cap) (n := 2 + q + 1) (is := callIs 7 q) (laid_chg HL.out (F := []) (Chg.still HG2.out) (by simp)) hX (by simp [callIs, call_len]) (by omega) (by omega) HGd.out ⟨#[]⟩ (by decide) 2 2 rfl (by decide) HS.out rfl
      rw [HE.out.1] at HP
      have HPP := hd HP
      clear hown' hgrow hlt' HBL HO hX hb1 HP hbs hq hlt
      go_upto_region 12 with (go_at_call 15; refine HPP.out.mono ?_; rintro e w3 ⟨m, mh, mb, mo, rfl, hm, hg⟩; have HM := hd hm; have HG3 := hd (grown_trans HG2.out hg); clear hm hg)
      have HY := hd (oc_new w3 3 S.tr (strO S.out) (ct ⟨#[]⟩ 2 (Ms.init (codeL (callIs 7 q)) 0)) S.rd)
      replace HM := hd (HM.out.grown (World.grownBy_alloc w3 (Obj.cells #[Value.int IntKind.i64 3, Value.int IntKind.i64 S.tr, Value.string (strO S.out), Value.int IntKind.i64 ↑(ct ⟨#[]⟩ 2 (Ms.init (codeL (callIs 7 q)) 0)), Value.int IntKind.i64 ↑S.rd] 31) none))
      replace HG3 := hd (grown_trans HG3.out (World.grownBy_alloc w3 (Obj.cells #[Value.int IntKind.i64 3, Value.int IntKind.i64 S.tr, Value.string (strO S.out), Value.int IntKind.i64 ↑(ct ⟨#[]⟩ 2 (Ms.init (codeL (callIs 7 q)) 0)), Value.int IntKind.i64 ↑S.rd] 31) none))
      generalize w3.alloc (Obj.cells #[Value.int IntKind.i64 3, Value.int IntKind.i64 S.tr, Value.string (strO S.out), Value.int IntKind.i64 ↑(ct ⟨#[]⟩ 2 (Ms.init (codeL (callIs 7 q)) 0)), Value.int IntKind.i64 ↑S.rd] 31) = V at HY HM HG3 ⊢
      generalize w3.heap.size = Y at HY ⊢
      obtain ⟨y0, _⟩ := HY.out.c
      have RA : ∀ U, U = V → Calls Tryd.prog 13 #[ptr m, .int .i64 15] U fun e w' => e = .returned (wd 4) ∧ w' = U := fun U e => by
        subst e
        have := reg_any HM.out 15 (by decide)
        rwa [HE.out.2.2.1] at this
      have RB : ∀ U, U = V → Calls Tryd.prog 13 #[ptr m, .int .i64 2] U fun e w' => e = .returned (wd 0) ∧ w' = U := fun U e => by
        subst e
        have := reg_any HM.out 2 (by decide)
        rwa [HE.out.2.2.2] at this
      have PA : ∀ U, U = V → Calls Tryd.prog 11 #[ptr m] U fun e w' => e = .returned (.int .i64 1) ∧ w' = U := fun U e => by
        subst e
        have := pc_any HM.out
        rwa [HE.out.2.1] at this
      have LV := hd HM.out.laid
      clear HY HS i2
      go_wp2_with (first
        | (go_at_call 13; with_reducible refine Calls.mono (RA _ rfl) ?_; rintro e w' ⟨rfl, rfl⟩)
        | (go_at_call 13; with_reducible refine Calls.mono (RB _ rfl) ?_; rintro e w' ⟨rfl, rfl⟩)
        | (go_at_call 11; refine (PA _ rfl).mono ?_; rintro e w' ⟨rfl, rfl⟩)
        | (go_at_call 8; refine (wakes_any _ LV.out).mono ?_; rintro e w8 ⟨rfl, hg⟩; have HWK := hd hg; clear hg))
      go_ret
      exact ⟨rfl, grown_trans HG3.out HWK.out⟩
set_option maxHeartbeats 4000000 in
set_option maxRecDepth 100000 in
theorem calls_no (w : World) (L : Laid w) (n : Int) :
    Calls Tryd.prog 6 #[.int .i64 n, .bool false] w fun e w' => e = .returned (.bool true) ∧ w.grownBy w' none := by
  obtain ⟨i0, hi, hz0, hz1, hz2⟩ := info_parts Tryd.infoI
  have HL := hd L
  obtain ⟨Q, hQ⟩ : ∃ Q, IntKind.u64.wrap n = Q := ⟨_, rfl⟩
  have hQ0 := wrap_u64 n
  rw [hQ] at hQ0
  obtain ⟨q0, q1⟩ := hQ0
  obtain ⟨k, hk⟩ := Int.eq_ofNat_of_zero_le (Int.emod_nonneg Q (show (20 : Int) ≠ 0 by decide))
  have hk20 : k < 20 := by omega
  obtain ⟨S, hS, s1, s2, s3, s4⟩ := call_ran k hk20 false
  simp only [Bool.false_eq_true, if_false] at hS s2 s3 s4
  have HS := hd hS
  have HGd := hd (call_good 15 k hk20 (.inr rfl))
  have HE := hd (And.intro s1 (And.intro s2 (And.intro s3 s4)))
  have kk : (k : Int) < 20 := by omega
  clear L hS s1 s2 s3 s4
  go_enter Tryd.func6, Tryd.ntmps6
  go_wp2
  have HO : Hid ((w.alloc (Obj.cells #[Value.int IntKind.i64 3, Value.bool true, Value.bool true, Value.int IntKind.i64 15, Value.int IntKind.i64 0, Value.int IntKind.i64 0, Value.int IntKind.i64 0, Value.int IntKind.i64 (↑k + 1), Value.int IntKind.i64 1, Value.bool false, Value.bool false, Value.int IntKind.i64 2, Value.int IntKind.i64 2, Value.int IntKind.i64 0, Value.int IntKind.i64 8, Value.int IntKind.i64 1] 44)).ownsRow w.heap.size 44 8 (.slice (some ⟨w.heap.size, 0, none⟩) 2 2) 2 (flat8 (callHd 15 k 0))) :=
    hd ⟨rfl, .inr ⟨w.heap.size, 2, _, rfl, Nat.le_refl _, heap_alloc_new w _, by decide, by decide, rfl, rfl⟩⟩
  have HBl : Hid (Below w.heap.size w (w.alloc (Obj.cells #[Value.int IntKind.i64 3, Value.bool true, Value.bool true, Value.int IntKind.i64 15, Value.int IntKind.i64 0, Value.int IntKind.i64 0, Value.int IntKind.i64 0, Value.int IntKind.i64 (↑k + 1), Value.int IntKind.i64 1, Value.bool false, Value.bool false, Value.int IntKind.i64 2, Value.int IntKind.i64 2, Value.int IntKind.i64 0, Value.int IntKind.i64 8, Value.int IntKind.i64 1] 44))) := hd ((Below.refl _ _).alloc (Nat.le_refl _) _)
  generalize w.alloc (Obj.cells #[Value.int IntKind.i64 3, Value.bool true, Value.bool true, Value.int IntKind.i64 15, Value.int IntKind.i64 0, Value.int IntKind.i64 0, Value.int IntKind.i64 0, Value.int IntKind.i64 (↑k + 1), Value.int IntKind.i64 1, Value.bool false, Value.bool false, Value.int IntKind.i64 2, Value.int IntKind.i64 2, Value.int IntKind.i64 0, Value.int IntKind.i64 8, Value.int IntKind.i64 1] 44) = W at HO HBl ⊢
  obtain ⟨B, hB⟩ : ∃ B, B = w.heap.size := ⟨_, rfl⟩
  rw [← hB] at HO HBl ⊢
  have HB := hd hB
  clear hB hQ hk q0 q1
  go_loopw [7, 8] (fun v j wr => ∃ q : Nat, q ≤ k ∧ j = .int .i64 q ∧ wr.ownsRow B 44 8 v (2 + q) (flat8 (callHd 15 k q)) ∧ Below B w wr)
    (fun _ j _ => k - (intOf j).toNat)
  case atStart => exact ⟨0, Nat.zero_le _, rfl, HO.out, HBl.out⟩
  case round =>
    obtain ⟨q, hq, rfl, hown, hbel⟩ := hrel
    have hbs : B ≤ wr.heap.size := by rw [HB.out]; exact hbel.size
    clear HO HBl
    by_cases hlt : q < k
    · have i2 : (q : Int) < (k : Int) := by omega
      have HO := hd (hown.alloc (.cells cIa.cells.toArray 44))
      have HBL := hd hbel
      clear hown hbel
      go_wp2_with (at_builtin; refine wpList_append_own _ rfl _ _ 45 rfl B 44 i0 _ 8 56 Tryd.underlying45 hi hz0 hz1 hz2 rfl (by decide) _ _ _ rfl HO.out ⟨wr.heap.size, 0, none⟩ 1 1 cIa.cells rfl rfl (cells_new _ _ _) (cells_one _) ?c3 ?c4 ?c5 ?_)
      case c3 => unfold maxLen; omega
      case c4 => omega
      case c5 => (try simp); omega
      intro v' w2 hown' hgrow _
      have hnew : w2.ownsRow B 44 8 v' (2 + (q + 1)) (flat8 (callHd 15 k (q + 1))) := by rw [hd_snoc, flat_snoc]; exact hown'
      have hlt' := HO.out.lt
      have hb1 : Below B w w2 := (HBL.out.alloc hbs _).grown hgrow (by simp; omega) (fun g hg => (hlt' g hg).1)
      clear hown' hgrow hlt' HBL HO
      go_wp2
      exact ⟨⟨q + 1, by omega, by go_num, hnew, hb1⟩, by simp [intOf]; omega⟩
    · obtain rfl : q = k := by omega
      have i2 : ¬ (q : Int) < (q : Int) := by omega
      have HO := hd (hown.alloc (.cells cIz.cells.toArray 44))
      have HBL := hd hbel
      clear hown hbel
      go_upto_region 11 with (at_builtin; refine wpList_append_own _ rfl _ _ 45 rfl B 44 i0 _ 8 56 Tryd.underlying45 hi hz0 hz1 hz2 rfl (by decide) _ _ _ rfl HO.out ⟨wr.heap.size, 0, none⟩ 1 1 cIz.cells rfl rfl (cells_new _ _ _) (cells_one _) ?c3 ?c4 ?c5 ?_)
      case c3 => unfold maxLen; omega
      case c4 => omega
      case c5 => (try simp); omega
      intro v' w2 hown' hgrow _
      rw [← flat_snoc] at hown'
      have hlt' := HO.out.lt
      have hb1 : Below B w w2 := (HBL.out.alloc hbs _).grown hgrow (by simp; omega) (fun g hg => (hlt' g hg).1)
      obtain ⟨X, cap, rfl, hX⟩ := own_lies hown' (by omega) (by simp [call_len])
      have HG2 := hd (grown_below (by rw [← HB.out]; exact hb1) : w.grownBy w2 none)
      have HP := played_any (cap := cap) (n := 2 + q + 1) (is := callIs 15 q) (laid_chg HL.out (F := []) (Chg.still HG2.out) (by simp)) hX (by simp [callIs, call_len]) (by omega) (by omega) HGd.out ⟨#[]⟩ (by decide) 2 2 rfl (by decide) HS.out rfl
      rw [HE.out.1] at HP
      have HPP := hd HP
      clear hown' hgrow hlt' HBL HO hX hb1 HP hbs hq hlt
      go_upto_region 12 with (go_at_call 15; refine HPP.out.mono ?_; rintro e w3 ⟨m, mh, mb, mo, rfl, hm, hg⟩; have HM := hd hm; have HG3 := hd (grown_trans HG2.out hg); clear hm hg)
      have HY := hd (oc_new w3 3 S.tr (strO S.out) (ct ⟨#[]⟩ 2 (Ms.init (codeL (callIs 15 q)) 0)) S.rd)
      replace HM := hd (HM.out.grown (World.grownBy_alloc w3 (Obj.cells #[Value.int IntKind.i64 3, Value.int IntKind.i64 S.tr, Value.string (strO S.out), Value.int IntKind.i64 ↑(ct ⟨#[]⟩ 2 (Ms.init (codeL (callIs 15 q)) 0)), Value.int IntKind.i64 ↑S.rd] 31) none))
      replace HG3 := hd (grown_trans HG3.out (World.grownBy_alloc w3 (Obj.cells #[Value.int IntKind.i64 3, Value.int IntKind.i64 S.tr, Value.string (strO S.out), Value.int IntKind.i64 ↑(ct ⟨#[]⟩ 2 (Ms.init (codeL (callIs 15 q)) 0)), Value.int IntKind.i64 ↑S.rd] 31) none))
      generalize w3.alloc (Obj.cells #[Value.int IntKind.i64 3, Value.int IntKind.i64 S.tr, Value.string (strO S.out), Value.int IntKind.i64 ↑(ct ⟨#[]⟩ 2 (Ms.init (codeL (callIs 15 q)) 0)), Value.int IntKind.i64 ↑S.rd] 31) = V at HY HM HG3 ⊢
      generalize w3.heap.size = Y at HY ⊢
      obtain ⟨y0, _⟩ := HY.out.c
      have RA : ∀ U, U = V → Calls Tryd.prog 13 #[ptr m, .int .i64 15] U fun e w' => e = .returned (wd 0) ∧ w' = U := fun U e => by
        subst e
        have := reg_any HM.out 15 (by decide)
        rwa [HE.out.2.2.1] at this
      have RB : ∀ U, U = V → Calls Tryd.prog 13 #[ptr m, .int .i64 2] U fun e w' => e = .returned (wd 1) ∧ w' = U := fun U e => by
        subst e
        have := reg_any HM.out 2 (by decide)
        rwa [HE.out.2.2.2] at this
      have PA : ∀ U, U = V → Calls Tryd.prog 11 #[ptr m] U fun e w' => e = .returned (.int .i64 2) ∧ w' = U := fun U e => by
        subst e
        have := pc_any HM.out
        rwa [HE.out.2.1] at this
      have LV := hd HM.out.laid
      clear HY HS i2
      go_wp2_with (first
        | (go_at_call 13; with_reducible refine Calls.mono (RA _ rfl) ?_; rintro e w' ⟨rfl, rfl⟩)
        | (go_at_call 13; with_reducible refine Calls.mono (RB _ rfl) ?_; rintro e w' ⟨rfl, rfl⟩)
        | (go_at_call 11; refine (PA _ rfl).mono ?_; rintro e w' ⟨rfl, rfl⟩)
        | (go_at_call 8; refine (wakes_any _ LV.out).mono ?_; rintro e w8 ⟨rfl, hg⟩; have HWK := hd hg; clear hg))
      go_ret
      exact ⟨rfl, grown_trans HG3.out HWK.out⟩
theorem calls_walk (w : World) (L : Laid w) (n : Int) (h : Bool) :
    Calls Tryd.prog 6 #[.int .i64 n, .bool h] w fun e w' => e = .returned (.bool true) ∧ w.grownBy w' none := by
  cases h
  · exact calls_no w L n
  · exact calls_yes w L n
end Go.Proofs.YtjneaphlghfbhaaDoor.Cpu
