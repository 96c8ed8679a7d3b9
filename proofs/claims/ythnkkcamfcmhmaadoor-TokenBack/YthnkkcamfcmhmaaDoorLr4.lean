/-
  The document's own tokens (package spinetref09): one.
-/
import Derived.Test.YthnkkcamfcmhmaaDoorLr3
namespace Go.Proofs.YthnkkcamfcmhmaaDoor.Lx
open Go.RowKit Go.Proofs.YthnkkcamfcmhmaaDoor.Tx
set_option linter.unusedVariables false
set_option linter.unusedSimpArgs false
set_option maxRecDepth 100000

theorem alloc_g (w : World) (o : Obj) : w.grownBy (w.alloc o) none := ⟨rfl, rfl, rfl, by simp, fun i hi _ => heap_alloc_old _ _ hi⟩
theorem grown_trans {a b c : World} (h : a.grownBy b none) (hg : b.grownBy c none) : a.grownBy c none := h.andThen hg (fun j hj => by simp at hj)
theorem grown_own {a b c : World} {k : Nat} (h : a.grownBy b none) (hk : a.heap.size ≤ k) (hg : b.grownBy c (some k)) : a.grownBy c none :=
  h.andThen hg (fun j hj => .inl (by have := Option.some.inj hj; omega))
theorem set_g (w : World) (b k : Nat) (u : Value) : w.grownBy (w.setCell ⟨b, k, none⟩ u) (some b) :=
  ⟨rfl, rfl, rfl, by simp [World.setCell], fun j _ hj => Below.heap_setCell w ⟨b, k, none⟩ u j (fun e => hj (by simp [e]))⟩
theorem then_g {a b c : World} {k : Nat} (h : a.grownBy b (some k)) (hg : b.grownBy c (some k)) : a.grownBy c (some k) :=
  h.andThen hg (fun j hj => .inr hj)
theorem four_g (w : World) (b : Nat) (u0 u1 u2 u3 : Value) : w.grownBy ((((w.setCell ⟨b, 0, none⟩ u0).setCell ⟨b, 1, none⟩ u1).setCell ⟨b, 2, none⟩ u2).setCell ⟨b, 3, none⟩ u3) (some b) :=
  then_g (then_g (then_g (set_g _ _ _ _) (set_g _ _ _ _)) (set_g _ _ _ _)) (set_g _ _ _ _)
theorem keep_n {W W' : World} {k : Nat} {o : Obj} (h : W.heap[k]? = some o) (hg : W.grownBy W' none) : W'.heap[k]? = some o := (hg.block k (Array.getElem?_eq_some_iff.1 h).1 (by simp)).trans h
theorem free_at {W : World} {q k : Nat} {c : Array Value} {t : TypeId} (h : W.heap[q]? = some (.cells c t (0, 0))) : W.frozen? ⟨q, k, none⟩ = false := by simp [World.frozen?, h]
theorem four_at {W : World} {X : Nat} {a b c d : Value} {t : TypeId} (h : W.heap[X]? = some (.cells #[a, b, c, d] t (0, 0))) :
    W.cell? ⟨X, 0, none⟩ = some a ∧ W.cell? ⟨X, 1, none⟩ = some b ∧ W.cell? ⟨X, 2, none⟩ = some c ∧ W.cell? ⟨X, 3, none⟩ = some d := by
  refine ⟨?_, ?_, ?_, ?_⟩ <;> (rw [cell_of_row _ _ _ _ _ _ h]; rfl)
/- The result's own block, while it is empty. -/
def Zr (W : World) (R : Nat) : Prop := W.heap[R]? = some (.cells #[.int .i64 0, .string (bs []), .int .i64 0, .int .i64 0] 37 (0, 0))
theorem ld_tw {s : List UInt8} {p q : Nat} (P : UInt8 → Bool) (hpq : p ≤ q) (hq : q ≤ s.length) (h1 : ((s.drop p).take (q - p)).all P = true) (h2 : ∀ c, s[q]? = some c → P c = false) : (s.drop p).takeWhile P = (s.drop p).take (q - p) ∧ ((s.drop p).take (q - p)).length = q - p := by
  refine ⟨tw_is P (s.drop p) (q - p) (by simp; omega) (fun i hi c hc => ?_) (fun c hc => ?_), by simp; omega⟩
  · refine List.all_eq_true.1 h1 c ?_
    refine List.mem_of_getElem? (i := i) ?_
    rw [List.getElem?_take, if_pos hi]
    exact hc
  · rw [List.getElem?_drop, show p + (q - p) = q by omega] at hc
    exact h2 c hc
/- What oneT is, by the first byte. -/
theorem oneT_let {c : UInt8} {r : List UInt8} {a : Int} (h : letN c = true) : oneT (c :: r) a = if keyB ((c :: r).takeWhile ldN) = true then .ok (⟨2, (c :: r).takeWhile ldN, 0, a⟩, ((c :: r).takeWhile ldN).length) else if 24 < ((c :: r).takeWhile ldN).length then .error 2 else .ok (⟨1, (c :: r).takeWhile ldN, 0, a⟩, ((c :: r).takeWhile ldN).length) := by
  unfold oneT
  simp only [h, if_true]
theorem oneT_dig {c : UInt8} {r : List UInt8} {a : Int} (h : letN c = false) (h2 : digN c = true) : oneT (c :: r) a = numT (c :: r) a := by
  unfold oneT
  simp only [h, h2, if_true, Bool.false_eq_true, if_false]
theorem oneT_quo {r : List UInt8} {a : Int} : oneT (34 :: r) a = if (r.drop (r.takeWhile strN).length).head? ≠ some 34 then .error 90 else if 64 < (r.takeWhile strN).length then .error 2 else .ok (⟨5, r.takeWhile strN, 0, a⟩, (r.takeWhile strN).length + 2) := by
  unfold oneT
  have h1 : letN 34 = false := by decide
  have h2 : digN 34 = false := by decide
  simp only [h1, h2, Bool.false_eq_true, if_false, if_true]
theorem oneT_sign {c : UInt8} {r : List UInt8} {a : Int} (h : letN c = false) (h2 : digN c = false) (h3 : c ≠ 34) : oneT (c :: r) a = if 1 ≤ r.length ∧ signB ((c :: r).take 2) = true then .ok (⟨6, (c :: r).take 2, 0, a⟩, 2) else if signB [c] = true then .ok (⟨6, [c], 0, a⟩, 1) else .error 90 := by
  unfold oneT
  simp only [h, h2, h3, Bool.false_eq_true, if_false]
set_option maxHeartbeats 8000000 in
theorem one_let (s : List UInt8) (p : Nat) (w : World) (hs : s.length ≤ 1000000) (hp : p < s.length) (hl : letN s[p] = true) :
    Calls Tryd.prog 19 #[.string (bs s), .int .i64 p] w fun e w' => ∃ v, e = .returned v ∧ TkR p (oneT (s.drop p) p) v ∧ w.grownBy w' none := by
  have hsz := bs_size s
  have b0' : (⟨#[]⟩ : ByteArray) = bs [] := rfl
  have i0 : (p : Int) < s.length := by omega
  obtain ⟨c, hc⟩ : ∃ c, s[p] = c := ⟨_, rfl⟩
  have hb0 : ∀ h, (bs s)[p]'h = c := fun h => hc
  rw [hc] at hl
  have hdr : s.drop p = c :: s.drop (p + 1) := by rw [List.drop_eq_getElem_cons hp, hc]
  have hon := oneT_let (c := c) (r := s.drop (p + 1)) (a := p) hl
  rw [← hdr] at hon
  have HOn := hide hon
  have HLt := hide (show ltI (c.toNat : Int) = true from hl)
  clear hc hl hdr hon
  go_enter Tryd.func19, Tryd.ntmps19
  go_wp2_with (go_at_call 36; refine (letter_any _ _).mono ?_; rw [HLt.out]; rintro e w' ⟨rfl, hw⟩; replace hw := hw.symm; subst hw)
  go_loop [8] (fun qv => ∃ q : Nat, p ≤ q ∧ q ≤ s.length ∧ qv = .int .i64 q ∧ Hid (((s.drop p).take (q - p)).all ldN = true)) (fun qv => s.length - (intOf qv).toNat)
  case atStart => exact ⟨p, Nat.le_refl _, by omega, rfl, hide (by simp)⟩
  case round =>
    obtain ⟨q, hpq, hqs, rfl, HH⟩ := hrel
    clear hb0
    by_cases hlt : q < s.length
    · have j1 : (q : Int) < s.length := by omega
      obtain ⟨c2, hc2⟩ : ∃ c, s[q] = c := ⟨_, rfl⟩
      have hb : ∀ h, (bs s)[q]'h = c2 := fun h => hc2
      have HTk := hide (take_on hpq hlt)
      rw [hc2] at HTk
      have HSq := hide (show s[q]? = some c2 by rw [List.getElem?_eq_getElem hlt, hc2])
      cases hl2 : letN c2
      · have HL2 := hide (show ltI (c2.toNat : Int) = false from hl2)
        cases hd2 : digN c2
        · have HD2 := hide (show digI (c2.toNat : Int) = false from hd2)
          have HNx := hide (show ∀ d, s[q]? = some d → ldN d = false by intro d hd; rw [HSq.out] at hd; rw [← Option.some.inj hd]; simp [ldN, hl2, hd2])
          clear hl2 hd2 hc2
          obtain ⟨tx, htx⟩ : ∃ tx, (s.drop p).take (q - p) = tx := ⟨_, rfl⟩
          have htw := (ld_tw ldN hpq hqs HH.out HNx.out).1
          have hln := (ld_tw ldN hpq hqs HH.out HNx.out).2
          rw [htx] at htw hln
          have hx : (bs s).extract p q = bs tx := by rw [bs_ext, htx]
          have HO := hide (show oneT (s.drop p) p = if keyB tx = true then .ok (⟨2, tx, 0, p⟩, tx.length) else if 24 < tx.length then .error 2 else .ok (⟨1, tx, 0, p⟩, tx.length) by rw [HOn.out, htw])
          have HLn := hide hln
          have i1 : (p : Int) ≤ q := by omega
          have i2 : (q : Int) ≤ s.length := by omega
          obtain ⟨V, hV⟩ : ∃ V, (w.alloc (.cells #[.int .i64 0, .string (bs []), .int .i64 0, .int .i64 0] 37)).alloc (.cells #[.int .i64 1, .string (bs tx), .int .i64 0, .int .i64 p] 37) = V := ⟨_, rfl⟩
          have HT := hide (show V.heap[w.heap.size + 1]? = some (.cells #[.int .i64 1, .string (bs tx), .int .i64 0, .int .i64 p] 37 (0, 0)) by rw [← hV]; have := heap_alloc_new (w.alloc (.cells #[.int .i64 0, .string (bs []), .int .i64 0, .int .i64 0] 37)) (.cells #[.int .i64 1, .string (bs tx), .int .i64 0, .int .i64 p] 37); rwa [show (w.alloc (.cells #[.int .i64 0, .string (bs []), .int .i64 0, .int .i64 0] 37)).heap.size = w.heap.size + 1 by simp] at this)
          have HR := hide (show V.heap[w.heap.size]? = some (.cells #[.int .i64 0, .string (bs []), .int .i64 0, .int .i64 0] 37 (0, 0)) by rw [← hV, heap_alloc_old _ _ (by simp)]; exact heap_alloc_new _ _)
          have HV := hide (show w.grownBy V none by rw [← hV]; exact two_g _ _ _)
          obtain ⟨y0, y1, y2, y3⟩ := four_at HT.out
          clear htx htw hln
          cases hk : keyB tx
          · have HKy := hide hk
            clear hk
            by_cases h24 : (24 : Int) < (q : Int) - p
            · go_upto_region 6 with (first | (go_at_call 36; refine (letter_any _ _).mono ?_; rw [HL2.out]; rintro e w' ⟨rfl, hw⟩; replace hw := hw.symm; subst hw) | (go_at_call 37; refine (digit_any _ _).mono ?_; rw [HD2.out]; rintro e w' ⟨rfl, hw⟩; replace hw := hw.symm; subst hw))
              clear hb; go_wp2_with (go_at_call 38; refine (key_any tx _).mono ?_; rw [HKy.out]; rintro e wk ⟨rfl, hg⟩; have ZT := hide (keep_n HT.out hg); have ZR := hide (keep_n HR.out hg); have HG := hide (grown_trans HV.out hg); clear hg; obtain ⟨t0, t1, t2, t3⟩ := four_at ZT.out; obtain ⟨r0, r1, r2, r3⟩ := four_at ZR.out; have hfT := fun k => free_at (k := k) ZT.out; have hfR := fun k => free_at (k := k) ZR.out)
              refine bodyPost_ret (v := .tuple #[.agg #[.int .i64 1, .string (bs tx), .int .i64 0, .int .i64 p], .int .i64 0, .int .i64 2]) (by simp [results, Tryd.results19, go_sem, r0, r1, r2, r3, t0, t1, t2, t3]) rfl
                ⟨_, rfl, ?_, grown_own HG.out (Nat.le_refl _) (four_g _ _ _ _ _ _)⟩
              rw [HO.out, HKy.out, if_neg (by simp), if_pos (by have := HLn.out; omega)]
              exact tk_no
            · go_upto_region 6 with (first | (go_at_call 36; refine (letter_any _ _).mono ?_; rw [HL2.out]; rintro e w' ⟨rfl, hw⟩; replace hw := hw.symm; subst hw) | (go_at_call 37; refine (digit_any _ _).mono ?_; rw [HD2.out]; rintro e w' ⟨rfl, hw⟩; replace hw := hw.symm; subst hw))
              clear hb; go_wp2_with (go_at_call 38; refine (key_any tx _).mono ?_; rw [HKy.out]; rintro e wk ⟨rfl, hg⟩; have ZT := hide (keep_n HT.out hg); have ZR := hide (keep_n HR.out hg); have HG := hide (grown_trans HV.out hg); clear hg; obtain ⟨t0, t1, t2, t3⟩ := four_at ZT.out; obtain ⟨r0, r1, r2, r3⟩ := four_at ZR.out; have hfT := fun k => free_at (k := k) ZT.out; have hfR := fun k => free_at (k := k) ZR.out)
              refine bodyPost_ret (v := .tuple #[.agg #[.int .i64 1, .string (bs tx), .int .i64 0, .int .i64 p], .int .i64 q, .int .i64 0]) (by simp [results, Tryd.results19, go_sem, r0, r1, r2, r3, t0, t1, t2, t3]) rfl
                ⟨_, rfl, ?_, grown_own HG.out (Nat.le_refl _) (four_g _ _ _ _ _ _)⟩
              rw [HO.out, HKy.out, if_neg (by simp), if_neg (by have := HLn.out; omega)]
              exact tk_ok (by have := HLn.out; omega)
          · have HKy := hide hk
            clear hk
            go_upto_region 6 with (first | (go_at_call 36; refine (letter_any _ _).mono ?_; rw [HL2.out]; rintro e w' ⟨rfl, hw⟩; replace hw := hw.symm; subst hw) | (go_at_call 37; refine (digit_any _ _).mono ?_; rw [HD2.out]; rintro e w' ⟨rfl, hw⟩; replace hw := hw.symm; subst hw))
            clear hb; go_wp2_with (go_at_call 38; refine (key_any tx _).mono ?_; rw [HKy.out]; rintro e wk ⟨rfl, hg⟩; have ZT := hide (keep_n HT.out hg); have ZR := hide (keep_n HR.out hg); have HG := hide (grown_trans HV.out hg); clear hg; obtain ⟨t0, t1, t2, t3⟩ := four_at ZT.out; obtain ⟨r0, r1, r2, r3⟩ := four_at ZR.out; have hfT := fun k => free_at (k := k) ZT.out; have hfR := fun k => free_at (k := k) ZR.out)
            refine bodyPost_ret (v := .tuple #[.agg #[.int .i64 2, .string (bs tx), .int .i64 0, .int .i64 p], .int .i64 q, .int .i64 0]) (by simp [results, Tryd.results19, go_sem, r0, r1, r2, r3, t0, t1, t2, t3]) rfl
              ⟨_, rfl, ?_, grown_own (grown_own HG.out (Nat.le_succ _) (set_g _ _ _ _)) (Nat.le_refl _) (four_g _ _ _ _ _ _)⟩
            rw [HO.out, HKy.out, if_pos rfl]
            exact tk_ok (by have := HLn.out; omega)
        · have HD2 := hide (show digI (c2.toNat : Int) = true from hd2)
          have HLd := hide (show ldN c2 = true by simp [ldN, hd2])
          clear hl2 hd2 hc2
          go_wp2_with (first | (go_at_call 36; refine (letter_any _ _).mono ?_; rw [HL2.out]; rintro e w' ⟨rfl, hw⟩; replace hw := hw.symm; subst hw) | (go_at_call 37; refine (digit_any _ _).mono ?_; rw [HD2.out]; rintro e w' ⟨rfl, hw⟩; replace hw := hw.symm; subst hw))
          refine ⟨⟨q + 1, by omega, by omega, by go_num, hide ?_⟩, by simp [intOf]; omega⟩
          rw [HTk.out]; simp [HH.out, HLd.out]
      · have HL2 := hide (show ltI (c2.toNat : Int) = true from hl2)
        have HLd := hide (show ldN c2 = true by simp [ldN, hl2])
        clear hl2 hc2
        go_wp2_with (go_at_call 36; refine (letter_any _ _).mono ?_; rw [HL2.out]; rintro e w' ⟨rfl, hw⟩; replace hw := hw.symm; subst hw)
        refine ⟨⟨q + 1, by omega, by omega, by go_num, hide ?_⟩, by simp [intOf]; omega⟩
        rw [HTk.out]; simp [HH.out, HLd.out]
    · have j1 : ¬ (q : Int) < s.length := by omega
      have HNx := hide (show ∀ d, s[q]? = some d → ldN d = false by intro d hd; rw [List.getElem?_eq_none (by omega)] at hd; cases hd)
      obtain ⟨tx, htx⟩ : ∃ tx, (s.drop p).take (q - p) = tx := ⟨_, rfl⟩
      have htw := (ld_tw ldN hpq hqs HH.out HNx.out).1
      have hln := (ld_tw ldN hpq hqs HH.out HNx.out).2
      rw [htx] at htw hln
      have hx : (bs s).extract p q = bs tx := by rw [bs_ext, htx]
      have HO := hide (show oneT (s.drop p) p = if keyB tx = true then .ok (⟨2, tx, 0, p⟩, tx.length) else if 24 < tx.length then .error 2 else .ok (⟨1, tx, 0, p⟩, tx.length) by rw [HOn.out, htw])
      have HLn := hide hln
      have i1 : (p : Int) ≤ q := by omega
      have i2 : (q : Int) ≤ s.length := by omega
      obtain ⟨V, hV⟩ : ∃ V, (w.alloc (.cells #[.int .i64 0, .string (bs []), .int .i64 0, .int .i64 0] 37)).alloc (.cells #[.int .i64 1, .string (bs tx), .int .i64 0, .int .i64 p] 37) = V := ⟨_, rfl⟩
      have HT := hide (show V.heap[w.heap.size + 1]? = some (.cells #[.int .i64 1, .string (bs tx), .int .i64 0, .int .i64 p] 37 (0, 0)) by rw [← hV]; have := heap_alloc_new (w.alloc (.cells #[.int .i64 0, .string (bs []), .int .i64 0, .int .i64 0] 37)) (.cells #[.int .i64 1, .string (bs tx), .int .i64 0, .int .i64 p] 37); rwa [show (w.alloc (.cells #[.int .i64 0, .string (bs []), .int .i64 0, .int .i64 0] 37)).heap.size = w.heap.size + 1 by simp] at this)
      have HR := hide (show V.heap[w.heap.size]? = some (.cells #[.int .i64 0, .string (bs []), .int .i64 0, .int .i64 0] 37 (0, 0)) by rw [← hV, heap_alloc_old _ _ (by simp)]; exact heap_alloc_new _ _)
      have HV := hide (show w.grownBy V none by rw [← hV]; exact two_g _ _ _)
      obtain ⟨y0, y1, y2, y3⟩ := four_at HT.out
      clear htx htw hln
      cases hk : keyB tx
      · have HKy := hide hk
        clear hk
        by_cases h24 : (24 : Int) < (q : Int) - p
        · go_upto_region 6 with fail
          go_wp2_with (go_at_call 38; refine (key_any tx _).mono ?_; rw [HKy.out]; rintro e wk ⟨rfl, hg⟩; have ZT := hide (keep_n HT.out hg); have ZR := hide (keep_n HR.out hg); have HG := hide (grown_trans HV.out hg); clear hg; obtain ⟨t0, t1, t2, t3⟩ := four_at ZT.out; obtain ⟨r0, r1, r2, r3⟩ := four_at ZR.out; have hfT := fun k => free_at (k := k) ZT.out; have hfR := fun k => free_at (k := k) ZR.out)
          refine bodyPost_ret (v := .tuple #[.agg #[.int .i64 1, .string (bs tx), .int .i64 0, .int .i64 p], .int .i64 0, .int .i64 2]) (by simp [results, Tryd.results19, go_sem, r0, r1, r2, r3, t0, t1, t2, t3]) rfl
            ⟨_, rfl, ?_, grown_own HG.out (Nat.le_refl _) (four_g _ _ _ _ _ _)⟩
          rw [HO.out, HKy.out, if_neg (by simp), if_pos (by have := HLn.out; omega)]
          exact tk_no
        · go_upto_region 6 with fail
          go_wp2_with (go_at_call 38; refine (key_any tx _).mono ?_; rw [HKy.out]; rintro e wk ⟨rfl, hg⟩; have ZT := hide (keep_n HT.out hg); have ZR := hide (keep_n HR.out hg); have HG := hide (grown_trans HV.out hg); clear hg; obtain ⟨t0, t1, t2, t3⟩ := four_at ZT.out; obtain ⟨r0, r1, r2, r3⟩ := four_at ZR.out; have hfT := fun k => free_at (k := k) ZT.out; have hfR := fun k => free_at (k := k) ZR.out)
          refine bodyPost_ret (v := .tuple #[.agg #[.int .i64 1, .string (bs tx), .int .i64 0, .int .i64 p], .int .i64 q, .int .i64 0]) (by simp [results, Tryd.results19, go_sem, r0, r1, r2, r3, t0, t1, t2, t3]) rfl
            ⟨_, rfl, ?_, grown_own HG.out (Nat.le_refl _) (four_g _ _ _ _ _ _)⟩
          rw [HO.out, HKy.out, if_neg (by simp), if_neg (by have := HLn.out; omega)]
          exact tk_ok (by have := HLn.out; omega)
      · have HKy := hide hk
        clear hk
        go_upto_region 6 with fail
        go_wp2_with (go_at_call 38; refine (key_any tx _).mono ?_; rw [HKy.out]; rintro e wk ⟨rfl, hg⟩; have ZT := hide (keep_n HT.out hg); have ZR := hide (keep_n HR.out hg); have HG := hide (grown_trans HV.out hg); clear hg; obtain ⟨t0, t1, t2, t3⟩ := four_at ZT.out; obtain ⟨r0, r1, r2, r3⟩ := four_at ZR.out; have hfT := fun k => free_at (k := k) ZT.out; have hfR := fun k => free_at (k := k) ZR.out)
        refine bodyPost_ret (v := .tuple #[.agg #[.int .i64 2, .string (bs tx), .int .i64 0, .int .i64 p], .int .i64 q, .int .i64 0]) (by simp [results, Tryd.results19, go_sem, r0, r1, r2, r3, t0, t1, t2, t3]) rfl
          ⟨_, rfl, ?_, grown_own (grown_own HG.out (Nat.le_succ _) (set_g _ _ _ _)) (Nat.le_refl _) (four_g _ _ _ _ _ _)⟩
        rw [HO.out, HKy.out, if_pos rfl]
        exact tk_ok (by have := HLn.out; omega)
end Go.Proofs.YthnkkcamfcmhmaaDoor.Lx
