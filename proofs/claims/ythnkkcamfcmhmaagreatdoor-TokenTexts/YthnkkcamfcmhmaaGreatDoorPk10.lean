/-
  Package token: spelling, spell; which tokens are spelt so.
-/
import Derived.Test.YthnkkcamfcmhmaaGreatDoorPk9
import Derived.Test.YthnkkcamfcmhmaaGreatDoorPk4
import Derived.DeepKeys
namespace Go.Proofs.YthnkkcamfcmhmaaGreatDoor.Lx
open Go.RowKit Go.Proofs.YthnkkcamfcmhmaaGreatDoor.Tx
set_option linter.unusedVariables false
set_option linter.unusedSimpArgs false
set_option maxRecDepth 100000

theorem two_head {x : List UInt8} {c : UInt8} {r : List UInt8} (h : x = c :: r) : x.headD 0 = c := by rw [h]; rfl
theorem hx_head : ∀ (k n : Nat), (hxF (k + 1) n).all hexN = true
  | 0, n => by
    rw [hxF]
    split
    · rename_i h
      simp [(hd_is h).2.1]
    · simp [hxF, (hd_is (show n % 16 < 16 by omega)).2.1]
  | k + 1, n => by
    rw [hxF]
    split
    · rename_i h
      simp [(hd_is h).2.1]
    · rw [List.all_append, hx_head k]
      simp [(hd_is (show n % 16 < 16 by omega)).2.1]
theorem hex_65 {c : UInt8} (h : hexN c = true) : (65 ≤ c.toNat) ↔ letN c = true := by
  cases hl : letN c with
  | true => have := dv_let h hl; simp; omega
  | false => have := dv_dig h hl; simp; omega
/- A token that may be written is spelt as it stands. -/
theorem spS_good {t : Tk} (h : goodT t = true) : spS t = oneS t := by
  obtain ⟨k, t, n, a⟩ := t
  unfold spS oneS
  unfold goodT at h
  dsimp only at h ⊢
  by_cases h3 : k = 3
  · subst h3
    rw [if_neg (by decide), if_neg (by decide), if_pos rfl] at h
    simp only [Bool.and_eq_true, decide_eq_true_eq] at h
    rw [if_pos rfl, if_pos rfl, intS]
    by_cases hn : n < 0
    · rw [if_pos hn, if_pos hn]
      have e : n % 4294967296 = n + 4294967296 := by omega
      rw [e, hexS, if_neg (by omega), hxF_hxN (by omega), hexT, if_pos (Or.inl rfl)]
    · rw [if_neg hn, if_neg hn, Lib.itoa, if_neg hn, dig_dec 9 n.toNat (by show n.toNat < 10000000000; omega) (by decide)]
  rw [if_neg h3, if_neg h3]
  by_cases h4 : k = 4
  · subst h4
    rw [if_neg (by decide), if_neg (by decide), if_neg (by decide), if_pos rfl] at h
    simp only [Bool.and_eq_true, decide_eq_true_eq] at h
    rw [if_pos rfl, if_pos rfl, chrS, hexT]
    have e : hexS n = hxN n.toNat := by rw [hexS, if_neg (by omega), hxF_hxN (by omega)]
    rw [e]
    have hall := hx_head 15 n.toNat
    rw [hxF_hxN (by omega)] at hall
    cases hx : hxN n.toNat with
    | nil => exact absurd hx (hxN_pos _)
    | cons c r =>
      rw [hx] at hall
      simp only [List.all_cons, Bool.and_eq_true] at hall
      by_cases h65 : 65 ≤ c.toNat
      · rw [if_pos (show 65 ≤ ((c :: r).headD 0).toNat from h65), if_pos (Or.inr (show letN ((c :: r).headD 0) = true from (hex_65 hall.1).1 h65))]
      · rw [if_neg (show ¬ 65 ≤ ((c :: r).headD 0).toNat from h65), if_neg (show ¬ (false = true ∨ letN ((c :: r).headD 0) = true) from fun x => x.elim (fun y => by cases y) (fun y => h65 ((hex_65 hall.1).2 y)))]
  rw [if_neg h4, if_neg h4]
theorem goodT_pl (t : Tk) (a : Int) : goodT (pl t a) = goodT t := rfl
/- What spell answers: the spelling is cut to the very token just where it may be written. -/
theorem spell_err {x : Tk} {e : Int} (h : oneT (spS x) 0 = .error e) : goodT x = false := by
  cases hg : goodT x with
  | false => rfl
  | true => rw [spS_good hg, one_back hg] at h; cases h
theorem spell_ok {x y : Tk} {len : Nat} (h : oneT (spS x) 0 = .ok (y, len)) : goodT x = (x.k == y.k && (x.t == y.t && x.n == y.n)) := by
  cases hg : goodT x with
  | true =>
    rw [spS_good hg, one_back hg] at h
    cases h
    simp [pl]
  | false =>
    have hy := one_good h
    cases hb : (x.k == y.k && (x.t == y.t && x.n == y.n)) with
    | false => rfl
    | true =>
      simp only [Bool.and_eq_true, beq_iff_eq] at hb
      obtain ⟨e1, e2, e3⟩ := hb
      have : goodT x = goodT y := by unfold goodT; rw [e1, e2, e3]
      rw [this, hy] at hg
      cases hg
set_option maxHeartbeats 2000000 in
theorem spelling_at (x : Tk) (h0 : -9223372036854775808 ≤ x.n) (h1 : x.n ≤ 9223372036854775807) (hl : x.t.length ≤ 1000) (w : World) (A : Gt w) :
    Calls Tryz.prog 23 #[aggT x] w fun e w' => e = .returned (.string (bs (spS x))) ∧ w.grownBy w' none := by
  obtain ⟨k, t, n, a⟩ := x
  unfold aggT spS
  dsimp only at h0 h1 hl ⊢
  obtain ⟨V, hV⟩ : ∃ V, w.alloc (.cells #[.int .i64 k, .string (bs t), .int .i64 n, .int .i64 a] 32) = V := ⟨_, rfl⟩
  have HV := hide (show w.grownBy V none by rw [← hV]; exact alloc_g _ _)
  have HN := hide (show V.heap[w.heap.size]? = some (.cells #[.int .i64 k, .string (bs t), .int .i64 n, .int .i64 a] 32 (0, 0)) by rw [← hV]; exact heap_alloc_new _ _)
  obtain ⟨c0, c1, c2, c3⟩ := four_at HN.out
  by_cases h3 : k = 3
  · subst h3
    rw [if_pos rfl]
    have HI := hide (integer_at n h0 h1 V (A.g HV.out))
    clear A
    go_enter Tryz.func23, Tryz.ntmps23
    go_wp2_with (go_at_call 40; refine HI.out.mono ?_; rintro e w1 ⟨rfl, hg⟩; have HG := hide (grown_trans HV.out hg); clear hg)
    go_ret
    exact ⟨rfl, HG.out⟩
  rw [if_neg h3]
  have e3 : (k == 3) = false := by simpa using h3
  by_cases h4 : k = 4
  · subst h4
    rw [if_pos rfl]
    have HI := hide (char_at n h0 h1 V (A.g HV.out))
    clear A
    go_enter Tryz.func23, Tryz.ntmps23
    go_wp2_with (go_at_call 41; refine HI.out.mono ?_; rintro e w1 ⟨rfl, hg⟩; have HG := hide (grown_trans HV.out hg); clear hg)
    go_ret
    exact ⟨rfl, HG.out⟩
  rw [if_neg h4]
  have e4 : (k == 4) = false := by simpa using h4
  by_cases h5 : k = 5
  · subst h5
    rw [if_pos rfl]
    have b34 : (⟨#[34]⟩ : ByteArray) = bs [34] := rfl
    obtain ⟨y, hy⟩ : ∃ y, [34] ++ t = y := ⟨_, rfl⟩
    have ha1 := add_bs [34] t (by simp; omega)
    have ha2 := add_bs y [34] (by rw [← hy]; simp; omega)
    rw [hy] at ha1
    obtain ⟨z, hz⟩ : ∃ z, y ++ [34] = z := ⟨_, rfl⟩
    rw [hz] at ha2
    have HZ := hide (show 34 :: (t ++ [34]) = z by rw [← hz, ← hy]; rfl)
    clear A hy hz
    go_enter Tryz.func23, Tryz.ntmps23
    go_wp2
    go_ret
    exact ⟨by rw [HZ.out]; rfl, HV.out⟩
  rw [if_neg h5]
  have e5 : (k == 5) = false := by simpa using h5
  clear A h3 h4 h5
  go_enter Tryz.func23, Tryz.ntmps23
  go_wp2
  go_ret
  exact ⟨rfl, HV.out⟩
/- Two tokens held against each other. -/
theorem wf64 {n : Int} (h0 : -9223372036854775808 ≤ n) (h1 : n ≤ 9223372036854775807) : (Lit.int .i64 n).wf = true := by
  have e0 : IntKind.i64.min = -9223372036854775808 := by decide
  have e1 : IntKind.i64.max = 9223372036854775807 := by decide
  simp [Lit.wf, e0, e1]
  omega
theorem tk_lits (t : Tk) (h1 : (Lit.int .i64 t.k).wf = true) (h2 : (Lit.int .i64 t.n).wf = true) (h3 : (Lit.int .i64 t.a).wf = true) (hl : t.t.length ≤ maxLen) : Tryz.prog.keyLits 3 32 [.int .i64 t.k, .string (bs t.t), .int .i64 t.n, .int .i64 t.a] = some [.int .i64 t.k, .string t.t, .int .i64 t.n, .int .i64 t.a] := by
  have k0 : Tryz.prog.cellsOf 32 = 4 := by kernel_rfl
  have k1 : Tryz.prog.cellsOf 9 = 1 := by kernel_rfl
  have k3 : Tryz.prog.cellsOf 3 = 1 := by kernel_rfl
  have hz : (bs t.t).size ≤ maxLen := by rw [bs_size]; exact hl
  have hd : (bs t.t).data.toList = t.t := rfl
  simp [Program.keyLits, Tryz.underlying32, Tryz.underlying9, Tryz.underlying3, h1, h2, h3, hz, hd, k0, k1, k3]
theorem tk_eql (x y : Tk) (x1 : (Lit.int .i64 x.k).wf = true) (x2 : (Lit.int .i64 x.n).wf = true) (x3 : (Lit.int .i64 x.a).wf = true) (xl : x.t.length ≤ maxLen) (y1 : (Lit.int .i64 y.k).wf = true) (y2 : (Lit.int .i64 y.n).wf = true) (yl : y.t.length ≤ maxLen) (ha : y.a = x.a) (w : World) :
    (Op.equalIn 10000 32 (.agg #[.int .i64 y.k, .string (bs y.t), .int .i64 y.n, .int .i64 x.a]) (.agg #[.int .i64 x.k, .string (bs x.t), .int .i64 x.n, .int .i64 x.a])).run Tryz.prog w = .ok (x.k == y.k && (x.t == y.t && x.n == y.n)) w := by
  have ly := tk_lits y y1 y2 (by rw [ha]; exact x3) yl
  rw [ha] at ly
  obtain ⟨r, hr, hiff⟩ := run_equalIn_deep (P := Tryz.prog) 9997 3 32 (by kernel_rfl) w 3 3 (.agg #[.int .i64 y.k, .string (bs y.t), .int .i64 y.n, .int .i64 x.a]) (.agg #[.int .i64 x.k, .string (bs x.t), .int .i64 x.n, .int .i64 x.a]) _ _ (by simp [Value.formed, Tryz.underlying32]; kernel_rfl) (by simp [Value.formed, Tryz.underlying32]; kernel_rfl) ly (tk_lits x x1 x2 x3 xl)
  rw [hr]
  have : r = (x.k == y.k && (x.t == y.t && x.n == y.n)) := by
    rw [Bool.eq_iff_iff, hiff]
    simp only [List.cons.injEq, Lit.int.injEq, Lit.string.injEq, true_and, and_true, Bool.and_eq_true, beq_iff_eq]
    constructor
    · rintro ⟨e1, e2, e3⟩
      exact ⟨e1.symm, e2.symm, e3.symm⟩
    · rintro ⟨e1, e2, e3⟩
      exact ⟨e1.symm, e2.symm, e3.symm⟩
  rw [this]
theorem good_bd {t : Tk} (h : goodT t = true) : (-9223372036854775808 ≤ t.k ∧ t.k ≤ 9223372036854775807) ∧ (-9223372036854775808 ≤ t.n ∧ t.n ≤ 9223372036854775807) := by
  obtain ⟨k, t, n, a⟩ := t
  unfold goodT at h
  dsimp only at h ⊢
  split at h
  · rename_i e; subst e; simp only [Bool.and_eq_true, beq_iff_eq] at h; omega
  split at h
  · rename_i e; subst e; simp only [Bool.and_eq_true, beq_iff_eq] at h; omega
  split at h
  · rename_i e; subst e; simp only [Bool.and_eq_true, decide_eq_true_eq] at h; omega
  split at h
  · rename_i e; subst e; simp only [Bool.and_eq_true, decide_eq_true_eq] at h; omega
  split at h
  · rename_i e; subst e; simp only [Bool.and_eq_true, beq_iff_eq] at h; omega
  split at h
  · rename_i e; subst e; simp only [Bool.and_eq_true, beq_iff_eq] at h; omega
  · cases h
theorem good_tl {t : Tk} (h : goodT t = true) : t.t.length ≤ 100 := by
  obtain ⟨k, t, n, a⟩ := t
  have hs := oneS_len h
  unfold goodT at h
  unfold oneS at hs
  dsimp only at h hs ⊢
  split at h
  · rename_i e; subst e
    simp only [nameB, Bool.and_eq_true] at h
    have := wordB_len h.2.1; omega
  split at h
  · rename_i e; subst e
    simp only [Bool.and_eq_true] at h
    have := keys_len _ (has_mem h.2); omega
  split at h
  · simp only [Bool.and_eq_true, beq_iff_eq] at h; rw [h.1]; simp
  split at h
  · simp only [Bool.and_eq_true, beq_iff_eq] at h; rw [h.1]; simp
  split at h
  · simp only [strB, Bool.and_eq_true, decide_eq_true_eq] at h; omega
  split at h
  · simp only [Bool.and_eq_true] at h
    have := signs_len _ (has_mem h.2); omega
  · cases h
set_option maxHeartbeats 4000000 in
theorem spell_at (x : Tk) (hk : (Lit.int .i64 x.k).wf = true) (ha : (Lit.int .i64 x.a).wf = true) (h0 : -9223372036854775808 ≤ x.n) (h1 : x.n ≤ 9223372036854775807) (hl : x.t.length ≤ 1000) (w : World) (tb : Nat) (T : Tb w tb) (A : Gt w) :
    Calls Tryz.prog 11 #[.pointer (some ⟨tb, 0, none⟩), aggT x] w fun e w' => e = .returned (.tuple #[.string (bs (spS x)), .bool (goodT x)]) ∧ w.grownBy w' none := by
  have hsl := spS_len h0 h1 hl
  obtain ⟨V, hV⟩ : ∃ V, w.alloc (.cells #[.int .i64 x.k, .string (bs x.t), .int .i64 x.n, .int .i64 x.a] 32) = V := ⟨_, rfl⟩
  have HV := hide (show w.grownBy V none by rw [← hV]; exact alloc_g _ _)
  have HN := hide (show V.heap[w.heap.size]? = some (.cells #[.int .i64 x.k, .string (bs x.t), .int .i64 x.n, .int .i64 x.a] 32 (0, 0)) by rw [← hV]; exact heap_alloc_new _ _)
  obtain ⟨c0, c1, c2, c3⟩ := four_at HN.out
  have HS := hide (spelling_at x h0 h1 hl V (A.g HV.out))
  have HF := hide (fun W (h : w.grownBy W none) => first_at (spS x) W tb (T.kept h) (A.g h) (by omega))
  unfold aggT at HS ⊢
  cases ho : oneT (spS x) 0 with
  | error e0 =>
    have HGd := hide (spell_err ho)
    have hc : (e0 == 0) = false := by
      rcases oneT_is (t := spS x) (a := 0) with (h | h | h) | ⟨_, _, h, _⟩ <;> rw [ho] at h <;> cases h <;> decide
    rw [ho] at HF
    clear A T ho h0 h1 hl hsl hk ha
    go_enter Tryz.func11, Tryz.ntmps11
    go_wp2_with (first
      | (go_at_call 23; refine HS.out.mono ?_; rintro e w1 ⟨rfl, hg⟩; have G1 := hide (grown_trans HV.out hg); have N1 := hide (keep_n HN.out hg); clear hg)
      | (go_at_call 20; refine (HF.out _ G1.out).mono ?_; rintro e w2 ⟨v, rfl, ⟨tk, tx, tn, ta, rfl⟩, hg⟩; have G2 := hide (grown_trans G1.out hg); have N2 := hide (keep_n N1.out hg); clear hg; obtain ⟨d0, d1, d2, d3⟩ := four_at N2.out; have hlt2 := block_lt_of_cell d0))
    go_quiet (fail)
    go_wp2
    go_ret2
    exact ⟨by rw [HGd.out]; rfl, grown_trans G2.out (dr_g _ (alloc_g _ _))⟩
  | ok yl =>
    obtain ⟨y, len⟩ := yl
    have HGd := hide (spell_ok ho)
    have hyg := one_good ho
    have hyb := good_bd hyg
    have hyt := good_tl hyg
    have hq := fun W => tk_eql x (pl y x.a) hk (wf64 h0 h1) ha (by unfold maxLen; omega) (wf64 hyb.1.1 hyb.1.2) (wf64 hyb.2.1 hyb.2.2) (by show y.t.length ≤ maxLen; unfold maxLen; omega) rfl W
    simp only [pl] at hq
    rw [← HGd.out] at hq
    obtain ⟨G, hG⟩ : ∃ G, goodT x = G := ⟨_, rfl⟩
    rw [hG] at hq
    have HGe := hide hG
    rw [ho] at HF
    clear A T ho h0 h1 hl hsl hyg hyb hyt hk ha hG
    go_enter Tryz.func11, Tryz.ntmps11
    go_wp2_with (first
      | (go_at_call 23; refine HS.out.mono ?_; rintro e w1 ⟨rfl, hg⟩; have G1 := hide (grown_trans HV.out hg); have N1 := hide (keep_n HN.out hg); clear hg)
      | (go_at_call 20; refine (HF.out _ G1.out).mono ?_; rintro e w2 ⟨v, rfl, hv, hg⟩; replace hv := show v = _ from hv; subst hv; have G2 := hide (grown_trans G1.out hg); have N2 := hide (keep_n N1.out hg); clear hg; obtain ⟨d0, d1, d2, d3⟩ := four_at N2.out; obtain ⟨U, hU⟩ : ∃ U, w2.alloc (.cells #[.int .i64 y.k, .string (bs y.t), .int .i64 y.n, .int .i64 x.a] 32) = U := ⟨_, rfl⟩; have NU := hide (show U.heap[w.heap.size]? = some _ by rw [← hU]; exact keep_n N2.out (alloc_g _ _)); have MU := hide (show U.heap[w2.heap.size]? = some (.cells #[.int .i64 y.k, .string (bs y.t), .int .i64 y.n, .int .i64 x.a] 32 (0, 0)) by rw [← hU]; exact heap_alloc_new _ _); have GU := hide (show w.grownBy U none by rw [← hU]; exact grown_trans G2.out (alloc_g _ _)); have hlt2 := block_lt_of_cell d0))
    clear hU
    obtain ⟨u0, u1, u2, u3⟩ := four_at NU.out
    obtain ⟨v0, v1, v2, v3⟩ := four_at MU.out
    go_quiet (fail)
    go_wp2
    go_ret2
    exact ⟨by rw [HGe.out]; rfl, dr_g _ GU.out⟩
end Go.Proofs.YthnkkcamfcmhmaaGreatDoor.Lx
