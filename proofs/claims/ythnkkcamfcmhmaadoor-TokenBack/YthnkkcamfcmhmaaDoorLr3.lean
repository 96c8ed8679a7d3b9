/-
  The document's own tokens (package spinetref09): number.
-/
import Derived.Test.YthnkkcamfcmhmaaDoorLr2
namespace Go.Proofs.YthnkkcamfcmhmaaDoor.Lx
open Go.RowKit Go.Proofs.YthnkkcamfcmhmaaDoor.Tx
set_option linter.unusedVariables false
set_option linter.unusedSimpArgs false
set_option maxRecDepth 100000

/- What number and one tell: a token, how far, an error. -/
def TkR (p : Nat) (o : Except Int (Tk × Nat)) (v : Value) : Prop := match o with
  | .ok (t, len) => v = .tuple #[.agg #[.int .i64 t.k, .string (bs t.t), .int .i64 t.n, .int .i64 t.a], .int .i64 ((p : Int) + (len : Nat)), .int .i64 0]
  | .error e => ∃ k x n a, v = .tuple #[.agg #[.int .i64 k, .string (bs x), .int .i64 n, .int .i64 a], .int .i64 0, .int .i64 e]
theorem num_split {s : List UInt8} {p q : Nat} (hpq : p ≤ q) (hq : q ≤ s.length) (h1 : ((s.drop p).take (q - p)).all hexN = true) (h2 : ∀ c, s[q]? = some c → hexN c = false) : (s.drop p).takeWhile hexN = (s.drop p).take (q - p) ∧ ((s.drop p).take (q - p)).length = q - p ∧ (s.drop p).drop (q - p) = s.drop q := by
  have hl : ((s.drop p).take (q - p)).length = q - p := by simp; omega
  refine ⟨tw_is hexN (s.drop p) (q - p) (by simp; omega) (fun i hi c hc => ?_) (fun c hc => ?_), hl, by rw [List.drop_drop, show p + (q - p) = q by omega]⟩
  · refine List.all_eq_true.1 h1 c ?_
    refine List.mem_of_getElem? (i := i) ?_
    rw [List.getElem?_take, if_pos hi]
    exact hc
  · rw [List.getElem?_drop, show p + (q - p) = q by omega] at hc
    exact h2 c hc
theorem take_on {s : List UInt8} {p q : Nat} (hpq : p ≤ q) (h : q < s.length) : (s.drop p).take (q + 1 - p) = (s.drop p).take (q - p) ++ [s[q]] := by
  rw [show q + 1 - p = (q - p) + 1 by omega, List.take_succ_eq_append_getElem (by simp; omega), List.getElem_drop]
  congr 2
  congr 1
  omega
theorem take_in {s : List UInt8} {p i q : Nat} (h1 : p ≤ i) (h2 : i ≤ q) (hq : q ≤ s.length) : ∃ r, (s.drop p).take (q - p) = (s.drop p).take (i - p) ++ r := by
  refine ⟨((s.drop p).take (q - p)).drop (i - p), ?_⟩
  conv => lhs; rw [← List.take_append_drop (i - p) ((s.drop p).take (q - p))]
  rw [List.take_take, show min (i - p) (q - p) = i - p by omega]
theorem dv_let {c : UInt8} (h : hexN c = true) (hl : letN c = true) : 65 ≤ c.toNat ∧ c.toNat ≤ 70 ∧ dvN c = c.toNat - 65 + 10 := by
  refine ⟨?_, ?_, by unfold dvN; rw [if_pos hl]⟩
  · simp [hexN, hexI, digI, letN, ltI] at h hl; omega
  · simp [hexN, hexI, digI, letN, ltI] at h hl; omega
theorem dv_dig {c : UInt8} (h : hexN c = true) (hl : letN c = false) : 48 ≤ c.toNat ∧ c.toNat ≤ 57 ∧ dvN c = c.toNat - 48 := by
  refine ⟨?_, ?_, by unfold dvN; rw [if_neg (by simp [hl])]⟩
  · simp [hexN, hexI, digI, letN, ltI] at h hl; omega
  · simp [hexN, hexI, digI, letN, ltI] at h hl; omega
theorem dv_le {c : UInt8} (h : hexN c = true) : dvN c ≤ 15 := by
  cases hl : letN c
  · have := dv_dig h hl; omega
  · have := dv_let h hl; omega
theorem two_g (w : World) (a b : Obj) : w.grownBy ((w.alloc a).alloc b) none := ⟨rfl, rfl, rfl, by simp; omega, fun i hi _ => by rw [heap_alloc_old _ _ (by simp; omega), heap_alloc_old _ _ hi]⟩
theorem tk_ok {p len : Nat} {k n a x : Int} {t : List UInt8} (hx : x = (p : Int) + (len : Nat)) : TkR p (.ok (⟨k, t, n, a⟩, len)) (.tuple #[.agg #[.int .i64 k, .string (bs t), .int .i64 n, .int .i64 a], .int .i64 x, .int .i64 0]) := by rw [hx]; rfl
theorem tk_no {p : Nat} {k n a e : Int} {t : List UInt8} : TkR p (.error e) (.tuple #[.agg #[.int .i64 k, .string (bs t), .int .i64 n, .int .i64 a], .int .i64 0, .int .i64 e]) := ⟨k, t, n, a, rfl⟩
theorem numT_at {s : List UInt8} {p q : Nat} (a : Int) (hpq : p ≤ q) (hq : q ≤ s.length) (h1 : ((s.drop p).take (q - p)).all hexN = true) (h2 : ∀ c, s[q]? = some c → hexN c = false) :
    numT (s.drop p) a = if s[q]? = some 72 then numV 4294967296 (valB 16 ((s.drop p).take (q - p))) (q - p + 1) 3 a else if s[q]? = some 88 then numV 256 (valB 16 ((s.drop p).take (q - p))) (q - p + 1) 4 a
      else if ((s.drop p).take (q - p)).all digN = false then .error 90 else if s[q]? = some 46 ∧ s[q + 1]? ≠ some 46 then .error 90 else numV 2147483648 (valB 10 ((s.drop p).take (q - p))) (q - p) 3 a := by
  obtain ⟨e1, e2, e3⟩ := num_split hpq hq h1 h2
  unfold numT
  simp only []
  rw [e1, e2, e3, List.head?_drop, List.tail_drop, List.head?_drop]
set_option maxHeartbeats 8000000 in
theorem number_at (s : List UInt8) (p : Nat) (w : World) (hs : s.length ≤ 1000000) (hp : p ≤ s.length) :
    Calls Tryd.prog 39 #[.string (bs s), .int .i64 p] w fun e w' => ∃ v, e = .returned v ∧ TkR p (numT (s.drop p) p) v ∧ w.grownBy w' none := by
  have hsz := bs_size s
  have b0' : (⟨#[]⟩ : ByteArray) = bs [] := rfl
  go_enter Tryd.func39, Tryd.ntmps39
  go_wp2
  go_loop [7, 8] (fun qv dv => ∃ (q : Nat) (dec : Bool), p ≤ q ∧ q ≤ s.length ∧ qv = .int .i64 q ∧ dv = .bool dec ∧ Hid (((s.drop p).take (q - p)).all hexN = true) ∧ Hid (((s.drop p).take (q - p)).all digN = dec)) (fun qv _ => s.length - (intOf qv).toNat)
  case atStart => exact ⟨p, true, Nat.le_refl _, hp, rfl, rfl, hide (by simp), hide (by simp)⟩
  case round =>
    obtain ⟨q, dec, hpq, hqs, rfl, rfl, HH, HD⟩ := hrel
    by_cases hlt : q < s.length
    · have j1 : (q : Int) < s.length := by omega
      obtain ⟨c, hc⟩ : ∃ c, s[q] = c := ⟨_, rfl⟩
      have hb : ∀ h, (bs s)[q]'h = c := fun h => hc
      have HSq := hide (show s[q]? = some c by rw [List.getElem?_eq_getElem hlt, hc])
      have HTk := hide (take_on hpq hlt)
      rw [hc] at HTk
      obtain ⟨C, hC⟩ : ∃ C : Int, (c.toNat : Int) = C := ⟨_, rfl⟩
      cases hx : hexN c
      · have HX := hide (show hexI C = false by rw [← hC]; exact hx)
        have HNx := hide (show ∀ d, s[q]? = some d → hexN d = false by intro d hd; rw [HSq.out] at hd; rw [← Option.some.inj hd]; exact hx)
        have HCc := hide hC
        clear hx hc
        by_cases c72 : C = 72
        · as_aux_lemma =>
            have h72 : c = 72 := UInt8.toNat_inj.1 (by have := HCc.out; show c.toNat = 72; omega)
            have HNT := hide (show numT (s.drop p) p = numV 4294967296 (valB 16 ((s.drop p).take (q - p))) (q - p + 1) 3 p by rw [numT_at p hpq hqs HH.out HNx.out, if_pos (by rw [HSq.out, h72])])
            clear h72
            subst c72
            go_wp2_with (go_at_call 50; refine (hexa_any _ _).mono ?_; rw [HX.out]; rintro e w' ⟨rfl, hw⟩; replace hw := hw.symm; subst hw)
            go_wp2
            go_loop [13, 14] (fun nv iv => ∃ i : Nat, p ≤ i ∧ i ≤ q ∧ iv = .int .i64 i ∧ nv = .int .i64 (valB 16 ((s.drop p).take (i - p)) : Nat) ∧ Hid (valB 16 ((s.drop p).take (i - p)) < 68719476752)) (fun _ iv => q - (intOf iv).toNat)
            case atStart => exact ⟨p, Nat.le_refl _, hpq, rfl, by simp [valB], hide (by simp [valB])⟩
            case round =>
              obtain ⟨i, hpi, hiq, rfl, rfl, HB⟩ := hrel
              obtain ⟨v, hv⟩ : ∃ v, valB 16 ((s.drop p).take (i - p)) = v := ⟨_, rfl⟩
              have HV := hide hv
              rw [hv] at HB ⊢
              obtain ⟨Z, hZ⟩ : ∃ Z : Int, (v : Int) = Z := ⟨_, rfl⟩
              have vb : 0 ≤ Z ∧ Z < 68719476752 := by have := HB.out; omega
              have HZ := hide hZ
              rw [hZ]
              clear hv hZ
              by_cases hlim : Z < 4294967296
              · by_cases hin : i < q
                · have i1 : (i : Int) < q := by omega
                  have i2 : (i : Int) < s.length := by omega
                  have his : i < s.length := by omega
                  obtain ⟨c, hc⟩ : ∃ c, s[i] = c := ⟨_, rfl⟩
                  have hb : ∀ h, (bs s)[i]'h = c := fun h => hc
                  have hx : hexN c = true := List.all_eq_true.1 HH.out c (List.mem_of_getElem? (i := i - p) (by rw [List.getElem?_take, if_pos (by omega), List.getElem?_drop, show p + (i - p) = i by omega, List.getElem?_eq_getElem his, hc]))
                  have HN := hide (show valB 16 ((s.drop p).take (i + 1 - p)) = v * 16 + dvN c by rw [take_on hpi his, valB_snoc, HV.out, hc])
                  have hd15 := dv_le hx
                  cases hlc : letN c
                  · obtain ⟨g0, g1, g2⟩ := dv_dig hx hlc
                    have HLc := hide (show ltI (c.toNat : Int) = false from hlc)
                    obtain ⟨V, hV⟩ : ∃ V : Int, (c.toNat : Int) = V := ⟨_, rfl⟩
                    rw [hV] at HLc
                    have v0 : 48 ≤ V ∧ V ≤ 57 := by omega
                    have HDv := hide (show (dvN c : Int) = V - 48 by omega)
                    have H15 := hide hd15
                    clear hlc hx g0 g1 g2 hc hd15
                    go_wp2_with (go_at_call 36; refine (letter_any _ _).mono ?_; rw [HLc.out]; rintro e w' ⟨rfl, hw⟩; replace hw := hw.symm; subst hw)
                    refine ⟨⟨i + 1, by omega, by omega, by go_num, ?_, hide ?_⟩, by simp [intOf]; omega⟩
                    · rw [HN.out, Int.natCast_add, Int.natCast_mul, HDv.out, HZ.out]; go_num
                    · rw [HN.out]; have := H15.out; have := HZ.out; omega
                  · obtain ⟨g0, g1, g2⟩ := dv_let hx hlc
                    have HLc := hide (show ltI (c.toNat : Int) = true from hlc)
                    obtain ⟨V, hV⟩ : ∃ V : Int, (c.toNat : Int) = V := ⟨_, rfl⟩
                    rw [hV] at HLc
                    have v0 : 65 ≤ V ∧ V ≤ 70 := by omega
                    have HDv := hide (show (dvN c : Int) = V - 65 + 10 by omega)
                    have H15 := hide hd15
                    clear hlc hx g0 g1 g2 hc hd15
                    go_wp2_with (go_at_call 36; refine (letter_any _ _).mono ?_; rw [HLc.out]; rintro e w' ⟨rfl, hw⟩; replace hw := hw.symm; subst hw)
                    refine ⟨⟨i + 1, by omega, by omega, by go_num, ?_, hide ?_⟩, by simp [intOf]; omega⟩
                    · rw [HN.out, Int.natCast_add, Int.natCast_mul, HDv.out, HZ.out]; go_num
                    · rw [HN.out]; have := H15.out; have := HZ.out; omega
                · obtain rfl : q = i := by omega
                  by_cases k31 : (2147483648 : Int) ≤ Z
                  · go_wp2
                    refine bodyPost_ret (v := .tuple #[.agg #[.int .i64 3, .string (bs []), .int .i64 (Z - 4294967296), .int .i64 p], .int .i64 (q + 1), .int .i64 0]) (by simp [results, Tryd.results39, go_sem]) rfl ⟨_, rfl, ?_, two_g _ _ _⟩
                    have hz := HZ.out
                    rw [HNT.out, HV.out]
                    unfold numV
                    rw [if_neg (by omega), if_pos (by omega), hz]
                    exact tk_ok (by omega)
                  · go_wp2
                    refine bodyPost_ret (v := .tuple #[.agg #[.int .i64 3, .string (bs []), .int .i64 (Z), .int .i64 p], .int .i64 (q + 1), .int .i64 0]) (by simp [results, Tryd.results39, go_sem]) rfl ⟨_, rfl, ?_, two_g _ _ _⟩
                    have hz := HZ.out
                    rw [HNT.out, HV.out]
                    unfold numV
                    rw [if_neg (by omega), if_neg (by omega), hz]
                    exact tk_ok (by omega)
              · have HG := hide (show 4294967296 ≤ valB 16 ((s.drop p).take (q - p)) by obtain ⟨r, hr⟩ := take_in hpi hiq hqs; rw [hr]; have := valB_mono 16 (by decide) ((s.drop p).take (i - p)) r; rw [HV.out] at this; have := HZ.out; omega)
                rcases (by omega : i < q ∨ ¬ i < q) with hin | hin
                · have i1 : (i : Int) < q := by omega
                  go_wp2
                  refine bodyPost_ret (v := .tuple #[.agg #[.int .i64 3, .string (bs []), .int .i64 0, .int .i64 p], .int .i64 0, .int .i64 91]) (by simp [results, Tryd.results39, go_sem]) rfl ⟨_, rfl, ?_, two_g _ _ _⟩
                  rw [HNT.out]
                  unfold numV
                  rw [if_pos HG.out]
                  exact tk_no
                · have i1 : ¬ (i : Int) < q := by omega
                  go_wp2
                  refine bodyPost_ret (v := .tuple #[.agg #[.int .i64 3, .string (bs []), .int .i64 0, .int .i64 p], .int .i64 0, .int .i64 91]) (by simp [results, Tryd.results39, go_sem]) rfl ⟨_, rfl, ?_, two_g _ _ _⟩
                  rw [HNT.out]
                  unfold numV
                  rw [if_pos HG.out]
                  exact tk_no
        have m72 : ¬ s[q]? = some 72 := by rw [HSq.out]; intro e; apply c72; rw [← HCc.out, Option.some.inj e]; rfl
        have n72 : (C == 72) = false := by simpa using c72
        have M72 := hide m72
        clear m72
        by_cases c88 : C = 88
        · as_aux_lemma =>
            have h88 : c = 88 := UInt8.toNat_inj.1 (by have := HCc.out; show c.toNat = 88; omega)
            have HNT := hide (show numT (s.drop p) p = numV 256 (valB 16 ((s.drop p).take (q - p))) (q - p + 1) 4 p by rw [numT_at p hpq hqs HH.out HNx.out, if_neg M72.out, if_pos (by rw [HSq.out, h88])])
            clear h88
            subst c88
            go_wp2_with (go_at_call 50; refine (hexa_any _ _).mono ?_; rw [HX.out]; rintro e w' ⟨rfl, hw⟩; replace hw := hw.symm; subst hw)
            go_wp2
            go_loop [13, 14] (fun nv iv => ∃ i : Nat, p ≤ i ∧ i ≤ q ∧ iv = .int .i64 i ∧ nv = .int .i64 (valB 16 ((s.drop p).take (i - p)) : Nat) ∧ Hid (valB 16 ((s.drop p).take (i - p)) < 4112)) (fun _ iv => q - (intOf iv).toNat)
            case atStart => exact ⟨p, Nat.le_refl _, hpq, rfl, by simp [valB], hide (by simp [valB])⟩
            case round =>
              obtain ⟨i, hpi, hiq, rfl, rfl, HB⟩ := hrel
              obtain ⟨v, hv⟩ : ∃ v, valB 16 ((s.drop p).take (i - p)) = v := ⟨_, rfl⟩
              have HV := hide hv
              rw [hv] at HB ⊢
              obtain ⟨Z, hZ⟩ : ∃ Z : Int, (v : Int) = Z := ⟨_, rfl⟩
              have vb : 0 ≤ Z ∧ Z < 4112 := by have := HB.out; omega
              have HZ := hide hZ
              rw [hZ]
              clear hv hZ
              by_cases hlim : Z < 256
              · by_cases hin : i < q
                · have i1 : (i : Int) < q := by omega
                  have i2 : (i : Int) < s.length := by omega
                  have his : i < s.length := by omega
                  obtain ⟨c, hc⟩ : ∃ c, s[i] = c := ⟨_, rfl⟩
                  have hb : ∀ h, (bs s)[i]'h = c := fun h => hc
                  have hx : hexN c = true := List.all_eq_true.1 HH.out c (List.mem_of_getElem? (i := i - p) (by rw [List.getElem?_take, if_pos (by omega), List.getElem?_drop, show p + (i - p) = i by omega, List.getElem?_eq_getElem his, hc]))
                  have HN := hide (show valB 16 ((s.drop p).take (i + 1 - p)) = v * 16 + dvN c by rw [take_on hpi his, valB_snoc, HV.out, hc])
                  have hd15 := dv_le hx
                  cases hlc : letN c
                  · obtain ⟨g0, g1, g2⟩ := dv_dig hx hlc
                    have HLc := hide (show ltI (c.toNat : Int) = false from hlc)
                    obtain ⟨V, hV⟩ : ∃ V : Int, (c.toNat : Int) = V := ⟨_, rfl⟩
                    rw [hV] at HLc
                    have v0 : 48 ≤ V ∧ V ≤ 57 := by omega
                    have HDv := hide (show (dvN c : Int) = V - 48 by omega)
                    have H15 := hide hd15
                    clear hlc hx g0 g1 g2 hc hd15
                    go_wp2_with (go_at_call 36; refine (letter_any _ _).mono ?_; rw [HLc.out]; rintro e w' ⟨rfl, hw⟩; replace hw := hw.symm; subst hw)
                    refine ⟨⟨i + 1, by omega, by omega, by go_num, ?_, hide ?_⟩, by simp [intOf]; omega⟩
                    · rw [HN.out, Int.natCast_add, Int.natCast_mul, HDv.out, HZ.out]; go_num
                    · rw [HN.out]; have := H15.out; have := HZ.out; omega
                  · obtain ⟨g0, g1, g2⟩ := dv_let hx hlc
                    have HLc := hide (show ltI (c.toNat : Int) = true from hlc)
                    obtain ⟨V, hV⟩ : ∃ V : Int, (c.toNat : Int) = V := ⟨_, rfl⟩
                    rw [hV] at HLc
                    have v0 : 65 ≤ V ∧ V ≤ 70 := by omega
                    have HDv := hide (show (dvN c : Int) = V - 65 + 10 by omega)
                    have H15 := hide hd15
                    clear hlc hx g0 g1 g2 hc hd15
                    go_wp2_with (go_at_call 36; refine (letter_any _ _).mono ?_; rw [HLc.out]; rintro e w' ⟨rfl, hw⟩; replace hw := hw.symm; subst hw)
                    refine ⟨⟨i + 1, by omega, by omega, by go_num, ?_, hide ?_⟩, by simp [intOf]; omega⟩
                    · rw [HN.out, Int.natCast_add, Int.natCast_mul, HDv.out, HZ.out]; go_num
                    · rw [HN.out]; have := H15.out; have := HZ.out; omega
                · obtain rfl : q = i := by omega
                  have k1 : ¬ (2147483648 : Int) ≤ Z := by omega
                  go_wp2
                  refine bodyPost_ret (v := .tuple #[.agg #[.int .i64 4, .string (bs []), .int .i64 (Z), .int .i64 p], .int .i64 (q + 1), .int .i64 0]) (by simp [results, Tryd.results39, go_sem]) rfl ⟨_, rfl, ?_, two_g _ _ _⟩
                  have hz := HZ.out
                  rw [HNT.out, HV.out]
                  unfold numV
                  rw [if_neg (by omega), if_neg (by omega), hz]
                  exact tk_ok (by omega)
              · have HG := hide (show 256 ≤ valB 16 ((s.drop p).take (q - p)) by obtain ⟨r, hr⟩ := take_in hpi hiq hqs; rw [hr]; have := valB_mono 16 (by decide) ((s.drop p).take (i - p)) r; rw [HV.out] at this; have := HZ.out; omega)
                rcases (by omega : i < q ∨ ¬ i < q) with hin | hin
                · have i1 : (i : Int) < q := by omega
                  go_wp2
                  refine bodyPost_ret (v := .tuple #[.agg #[.int .i64 4, .string (bs []), .int .i64 0, .int .i64 p], .int .i64 0, .int .i64 91]) (by simp [results, Tryd.results39, go_sem]) rfl ⟨_, rfl, ?_, two_g _ _ _⟩
                  rw [HNT.out]
                  unfold numV
                  rw [if_pos HG.out]
                  exact tk_no
                · have i1 : ¬ (i : Int) < q := by omega
                  go_wp2
                  refine bodyPost_ret (v := .tuple #[.agg #[.int .i64 4, .string (bs []), .int .i64 0, .int .i64 p], .int .i64 0, .int .i64 91]) (by simp [results, Tryd.results39, go_sem]) rfl ⟨_, rfl, ?_, two_g _ _ _⟩
                  rw [HNT.out]
                  unfold numV
                  rw [if_pos HG.out]
                  exact tk_no
        have m88 : ¬ s[q]? = some 88 := by rw [HSq.out]; intro e; apply c88; rw [← HCc.out, Option.some.inj e]; rfl
        have n88 : (C == 88) = false := by simpa using c88
        have M88 := hide m88
        clear m88
        cases dec with
        | false =>
          as_aux_lemma =>
            have HNT := hide (show numT (s.drop p) p = .error 90 by rw [numT_at p hpq hqs HH.out HNx.out, if_neg M72.out, if_neg M88.out, if_pos HD.out])
            go_wp2_with (go_at_call 50; refine (hexa_any _ _).mono ?_; rw [HX.out]; rintro e w' ⟨rfl, hw⟩; replace hw := hw.symm; subst hw)
            refine bodyPost_ret (v := .tuple #[.agg #[.int .i64 3, .string (bs []), .int .i64 0, .int .i64 p], .int .i64 0, .int .i64 90]) (by simp [results, Tryd.results39, go_sem]) rfl ⟨_, rfl, ?_, two_g _ _ _⟩
            rw [HNT.out]
            exact tk_no
        | true =>
          have HDn := hide (show ¬ ((s.drop p).take (q - p)).all digN = false by rw [HD.out]; simp)
          by_cases c46 : C = 46
          · have h46 : s[q]? = some 46 := by rw [HSq.out]; congr 1; exact UInt8.toNat_inj.1 (by have := HCc.out; show c.toNat = 46; omega)
            have H46 := hide h46
            clear h46
            subst c46
            by_cases hl2 : q + 1 < s.length
            · have k1 : ((q : Int) + 1 == s.length) = false := by simp; omega
              have k2 : (q : Int) + 1 < s.length := by omega
              have k3 : (0 : Int) ≤ (q : Int) + 1 := by omega
              have k4 : ((q : Int) + 1).toNat = q + 1 := by omega
              obtain ⟨d, hd⟩ : ∃ d, s[q + 1] = d := ⟨_, rfl⟩
              have hb2 : ∀ h, (bs s)[q + 1]'h = d := fun h => hd
              have HSd := hide (show s[q + 1]? = some d by rw [List.getElem?_eq_getElem hl2, hd])
              obtain ⟨D, hD⟩ : ∃ D : Int, (d.toNat : Int) = D := ⟨_, rfl⟩
              have HDd := hide hD
              clear hd
              by_cases d46 : D = 46
              · as_aux_lemma =>
                  have e46 : d = 46 := UInt8.toNat_inj.1 (by have := HDd.out; show d.toNat = 46; omega)
                  have HNT := hide (show numT (s.drop p) p = numV 2147483648 (valB 10 ((s.drop p).take (q - p))) (q - p) 3 p by rw [numT_at p hpq hqs HH.out HNx.out, if_neg M72.out, if_neg M88.out, if_neg HDn.out, if_neg (fun h => h.2 (by rw [HSd.out, e46]))])
                  clear e46
                  subst d46
                  go_wp2_with (go_at_call 50; refine (hexa_any _ _).mono ?_; rw [HX.out]; rintro e w' ⟨rfl, hw⟩; replace hw := hw.symm; subst hw)
                  go_wp2
                  go_loop [13, 14] (fun nv iv => ∃ i : Nat, p ≤ i ∧ i ≤ q ∧ iv = .int .i64 i ∧ nv = .int .i64 (valB 10 ((s.drop p).take (i - p)) : Nat) ∧ Hid (valB 10 ((s.drop p).take (i - p)) < 21474836496)) (fun _ iv => q - (intOf iv).toNat)
                  case atStart => exact ⟨p, Nat.le_refl _, hpq, rfl, by simp [valB], hide (by simp [valB])⟩
                  case round =>
                    obtain ⟨i, hpi, hiq, rfl, rfl, HB⟩ := hrel
                    obtain ⟨v, hv⟩ : ∃ v, valB 10 ((s.drop p).take (i - p)) = v := ⟨_, rfl⟩
                    have HV := hide hv
                    rw [hv] at HB ⊢
                    obtain ⟨Z, hZ⟩ : ∃ Z : Int, (v : Int) = Z := ⟨_, rfl⟩
                    have vb : 0 ≤ Z ∧ Z < 21474836496 := by have := HB.out; omega
                    have HZ := hide hZ
                    rw [hZ]
                    clear hv hZ
                    by_cases hlim : Z < 2147483648
                    · by_cases hin : i < q
                      · have i1 : (i : Int) < q := by omega
                        have i2 : (i : Int) < s.length := by omega
                        have his : i < s.length := by omega
                        obtain ⟨c, hc⟩ : ∃ c, s[i] = c := ⟨_, rfl⟩
                        have hb : ∀ h, (bs s)[i]'h = c := fun h => hc
                        have hx : hexN c = true := List.all_eq_true.1 HH.out c (List.mem_of_getElem? (i := i - p) (by rw [List.getElem?_take, if_pos (by omega), List.getElem?_drop, show p + (i - p) = i by omega, List.getElem?_eq_getElem his, hc]))
                        have HN := hide (show valB 10 ((s.drop p).take (i + 1 - p)) = v * 10 + dvN c by rw [take_on hpi his, valB_snoc, HV.out, hc])
                        have hd15 := dv_le hx
                        cases hlc : letN c
                        · obtain ⟨g0, g1, g2⟩ := dv_dig hx hlc
                          have HLc := hide (show ltI (c.toNat : Int) = false from hlc)
                          obtain ⟨V, hV⟩ : ∃ V : Int, (c.toNat : Int) = V := ⟨_, rfl⟩
                          rw [hV] at HLc
                          have v0 : 48 ≤ V ∧ V ≤ 57 := by omega
                          have HDv := hide (show (dvN c : Int) = V - 48 by omega)
                          have H15 := hide hd15
                          clear hlc hx g0 g1 g2 hc hd15
                          go_wp2_with (go_at_call 36; refine (letter_any _ _).mono ?_; rw [HLc.out]; rintro e w' ⟨rfl, hw⟩; replace hw := hw.symm; subst hw)
                          refine ⟨⟨i + 1, by omega, by omega, by go_num, ?_, hide ?_⟩, by simp [intOf]; omega⟩
                          · rw [HN.out, Int.natCast_add, Int.natCast_mul, HDv.out, HZ.out]; go_num
                          · rw [HN.out]; have := H15.out; have := HZ.out; omega
                        · obtain ⟨g0, g1, g2⟩ := dv_let hx hlc
                          have HLc := hide (show ltI (c.toNat : Int) = true from hlc)
                          obtain ⟨V, hV⟩ : ∃ V : Int, (c.toNat : Int) = V := ⟨_, rfl⟩
                          rw [hV] at HLc
                          have v0 : 65 ≤ V ∧ V ≤ 70 := by omega
                          have HDv := hide (show (dvN c : Int) = V - 65 + 10 by omega)
                          have H15 := hide hd15
                          clear hlc hx g0 g1 g2 hc hd15
                          go_wp2_with (go_at_call 36; refine (letter_any _ _).mono ?_; rw [HLc.out]; rintro e w' ⟨rfl, hw⟩; replace hw := hw.symm; subst hw)
                          refine ⟨⟨i + 1, by omega, by omega, by go_num, ?_, hide ?_⟩, by simp [intOf]; omega⟩
                          · rw [HN.out, Int.natCast_add, Int.natCast_mul, HDv.out, HZ.out]; go_num
                          · rw [HN.out]; have := H15.out; have := HZ.out; omega
                      · obtain rfl : q = i := by omega
                        have k1 : ¬ (2147483648 : Int) ≤ Z := by omega
                        go_wp2
                        refine bodyPost_ret (v := .tuple #[.agg #[.int .i64 3, .string (bs []), .int .i64 (Z), .int .i64 p], .int .i64 (q), .int .i64 0]) (by simp [results, Tryd.results39, go_sem]) rfl ⟨_, rfl, ?_, two_g _ _ _⟩
                        have hz := HZ.out
                        rw [HNT.out, HV.out]
                        unfold numV
                        rw [if_neg (by omega), if_neg (by omega), hz]
                        exact tk_ok (by omega)
                    · have HG := hide (show 2147483648 ≤ valB 10 ((s.drop p).take (q - p)) by obtain ⟨r, hr⟩ := take_in hpi hiq hqs; rw [hr]; have := valB_mono 10 (by decide) ((s.drop p).take (i - p)) r; rw [HV.out] at this; have := HZ.out; omega)
                      rcases (by omega : i < q ∨ ¬ i < q) with hin | hin
                      · have i1 : (i : Int) < q := by omega
                        go_wp2
                        refine bodyPost_ret (v := .tuple #[.agg #[.int .i64 3, .string (bs []), .int .i64 0, .int .i64 p], .int .i64 0, .int .i64 91]) (by simp [results, Tryd.results39, go_sem]) rfl ⟨_, rfl, ?_, two_g _ _ _⟩
                        rw [HNT.out]
                        unfold numV
                        rw [if_pos HG.out]
                        exact tk_no
                      · have i1 : ¬ (i : Int) < q := by omega
                        go_wp2
                        refine bodyPost_ret (v := .tuple #[.agg #[.int .i64 3, .string (bs []), .int .i64 0, .int .i64 p], .int .i64 0, .int .i64 91]) (by simp [results, Tryd.results39, go_sem]) rfl ⟨_, rfl, ?_, two_g _ _ _⟩
                        rw [HNT.out]
                        unfold numV
                        rw [if_pos HG.out]
                        exact tk_no
              · as_aux_lemma =>
                  have HNT := hide (show numT (s.drop p) p = .error 90 by rw [numT_at p hpq hqs HH.out HNx.out, if_neg M72.out, if_neg M88.out, if_neg HDn.out, if_pos ⟨H46.out, by rw [HSd.out]; intro e; apply d46; rw [← HDd.out, Option.some.inj e]; rfl⟩])
                  have d46' : (D != 46) = true := by simpa using d46
                  go_wp2_with (go_at_call 50; refine (hexa_any _ _).mono ?_; rw [HX.out]; rintro e w' ⟨rfl, hw⟩; replace hw := hw.symm; subst hw)
                  refine bodyPost_ret (v := .tuple #[.agg #[.int .i64 3, .string (bs []), .int .i64 0, .int .i64 p], .int .i64 0, .int .i64 90]) (by simp [results, Tryd.results39, go_sem]) rfl ⟨_, rfl, ?_, two_g _ _ _⟩
                  rw [HNT.out]
                  exact tk_no
            · as_aux_lemma =>
                have k1 : ((q : Int) + 1 == s.length) = true := by simp; omega
                have HNT := hide (show numT (s.drop p) p = .error 90 by rw [numT_at p hpq hqs HH.out HNx.out, if_neg M72.out, if_neg M88.out, if_neg HDn.out, if_pos ⟨H46.out, by rw [List.getElem?_eq_none (by omega)]; simp⟩])
                go_wp2_with (go_at_call 50; refine (hexa_any _ _).mono ?_; rw [HX.out]; rintro e w' ⟨rfl, hw⟩; replace hw := hw.symm; subst hw)
                refine bodyPost_ret (v := .tuple #[.agg #[.int .i64 3, .string (bs []), .int .i64 0, .int .i64 p], .int .i64 0, .int .i64 90]) (by simp [results, Tryd.results39, go_sem]) rfl ⟨_, rfl, ?_, two_g _ _ _⟩
                rw [HNT.out]
                exact tk_no
          · as_aux_lemma =>
              have n46 : (C == 46) = false := by simpa using c46
              have HNT := hide (show numT (s.drop p) p = numV 2147483648 (valB 10 ((s.drop p).take (q - p))) (q - p) 3 p by rw [numT_at p hpq hqs HH.out HNx.out, if_neg M72.out, if_neg M88.out, if_neg HDn.out, if_neg (fun h => c46 (by have := h.1; rw [HSq.out] at this; rw [← HCc.out, Option.some.inj this]; rfl))])
              go_wp2_with (go_at_call 50; refine (hexa_any _ _).mono ?_; rw [HX.out]; rintro e w' ⟨rfl, hw⟩; replace hw := hw.symm; subst hw)
              go_wp2
              go_loop [13, 14] (fun nv iv => ∃ i : Nat, p ≤ i ∧ i ≤ q ∧ iv = .int .i64 i ∧ nv = .int .i64 (valB 10 ((s.drop p).take (i - p)) : Nat) ∧ Hid (valB 10 ((s.drop p).take (i - p)) < 21474836496)) (fun _ iv => q - (intOf iv).toNat)
              case atStart => exact ⟨p, Nat.le_refl _, hpq, rfl, by simp [valB], hide (by simp [valB])⟩
              case round =>
                obtain ⟨i, hpi, hiq, rfl, rfl, HB⟩ := hrel
                obtain ⟨v, hv⟩ : ∃ v, valB 10 ((s.drop p).take (i - p)) = v := ⟨_, rfl⟩
                have HV := hide hv
                rw [hv] at HB ⊢
                obtain ⟨Z, hZ⟩ : ∃ Z : Int, (v : Int) = Z := ⟨_, rfl⟩
                have vb : 0 ≤ Z ∧ Z < 21474836496 := by have := HB.out; omega
                have HZ := hide hZ
                rw [hZ]
                clear hv hZ
                by_cases hlim : Z < 2147483648
                · by_cases hin : i < q
                  · have i1 : (i : Int) < q := by omega
                    have i2 : (i : Int) < s.length := by omega
                    have his : i < s.length := by omega
                    obtain ⟨c, hc⟩ : ∃ c, s[i] = c := ⟨_, rfl⟩
                    have hb : ∀ h, (bs s)[i]'h = c := fun h => hc
                    have hx : hexN c = true := List.all_eq_true.1 HH.out c (List.mem_of_getElem? (i := i - p) (by rw [List.getElem?_take, if_pos (by omega), List.getElem?_drop, show p + (i - p) = i by omega, List.getElem?_eq_getElem his, hc]))
                    have HN := hide (show valB 10 ((s.drop p).take (i + 1 - p)) = v * 10 + dvN c by rw [take_on hpi his, valB_snoc, HV.out, hc])
                    have hd15 := dv_le hx
                    cases hlc : letN c
                    · obtain ⟨g0, g1, g2⟩ := dv_dig hx hlc
                      have HLc := hide (show ltI (c.toNat : Int) = false from hlc)
                      obtain ⟨V, hV⟩ : ∃ V : Int, (c.toNat : Int) = V := ⟨_, rfl⟩
                      rw [hV] at HLc
                      have v0 : 48 ≤ V ∧ V ≤ 57 := by omega
                      have HDv := hide (show (dvN c : Int) = V - 48 by omega)
                      have H15 := hide hd15
                      clear hlc hx g0 g1 g2 hc hd15
                      go_wp2_with (go_at_call 36; refine (letter_any _ _).mono ?_; rw [HLc.out]; rintro e w' ⟨rfl, hw⟩; replace hw := hw.symm; subst hw)
                      refine ⟨⟨i + 1, by omega, by omega, by go_num, ?_, hide ?_⟩, by simp [intOf]; omega⟩
                      · rw [HN.out, Int.natCast_add, Int.natCast_mul, HDv.out, HZ.out]; go_num
                      · rw [HN.out]; have := H15.out; have := HZ.out; omega
                    · obtain ⟨g0, g1, g2⟩ := dv_let hx hlc
                      have HLc := hide (show ltI (c.toNat : Int) = true from hlc)
                      obtain ⟨V, hV⟩ : ∃ V : Int, (c.toNat : Int) = V := ⟨_, rfl⟩
                      rw [hV] at HLc
                      have v0 : 65 ≤ V ∧ V ≤ 70 := by omega
                      have HDv := hide (show (dvN c : Int) = V - 65 + 10 by omega)
                      have H15 := hide hd15
                      clear hlc hx g0 g1 g2 hc hd15
                      go_wp2_with (go_at_call 36; refine (letter_any _ _).mono ?_; rw [HLc.out]; rintro e w' ⟨rfl, hw⟩; replace hw := hw.symm; subst hw)
                      refine ⟨⟨i + 1, by omega, by omega, by go_num, ?_, hide ?_⟩, by simp [intOf]; omega⟩
                      · rw [HN.out, Int.natCast_add, Int.natCast_mul, HDv.out, HZ.out]; go_num
                      · rw [HN.out]; have := H15.out; have := HZ.out; omega
                  · obtain rfl : q = i := by omega
                    have k1 : ¬ (2147483648 : Int) ≤ Z := by omega
                    go_wp2
                    refine bodyPost_ret (v := .tuple #[.agg #[.int .i64 3, .string (bs []), .int .i64 (Z), .int .i64 p], .int .i64 (q), .int .i64 0]) (by simp [results, Tryd.results39, go_sem]) rfl ⟨_, rfl, ?_, two_g _ _ _⟩
                    have hz := HZ.out
                    rw [HNT.out, HV.out]
                    unfold numV
                    rw [if_neg (by omega), if_neg (by omega), hz]
                    exact tk_ok (by omega)
                · have HG := hide (show 2147483648 ≤ valB 10 ((s.drop p).take (q - p)) by obtain ⟨r, hr⟩ := take_in hpi hiq hqs; rw [hr]; have := valB_mono 10 (by decide) ((s.drop p).take (i - p)) r; rw [HV.out] at this; have := HZ.out; omega)
                  rcases (by omega : i < q ∨ ¬ i < q) with hin | hin
                  · have i1 : (i : Int) < q := by omega
                    go_wp2
                    refine bodyPost_ret (v := .tuple #[.agg #[.int .i64 3, .string (bs []), .int .i64 0, .int .i64 p], .int .i64 0, .int .i64 91]) (by simp [results, Tryd.results39, go_sem]) rfl ⟨_, rfl, ?_, two_g _ _ _⟩
                    rw [HNT.out]
                    unfold numV
                    rw [if_pos HG.out]
                    exact tk_no
                  · have i1 : ¬ (i : Int) < q := by omega
                    go_wp2
                    refine bodyPost_ret (v := .tuple #[.agg #[.int .i64 3, .string (bs []), .int .i64 0, .int .i64 p], .int .i64 0, .int .i64 91]) (by simp [results, Tryd.results39, go_sem]) rfl ⟨_, rfl, ?_, two_g _ _ _⟩
                    rw [HNT.out]
                    unfold numV
                    rw [if_pos HG.out]
                    exact tk_no
      · have HX := hide (show hexI C = true by rw [← hC]; exact hx)
        have HXc := hide hx
        have HCc := hide hC
        obtain ⟨dc, hdc⟩ : ∃ dc, digN c = dc := ⟨_, rfl⟩
        have HDg := hide (show digI C = dc by rw [← hC]; exact hdc)
        have HDc := hide hdc
        clear hx hc hdc
        cases dec with
        | false =>
          go_wp2_with (first | (go_at_call 50; refine (hexa_any _ _).mono ?_; rw [HX.out]; rintro e w' ⟨rfl, hw⟩; replace hw := hw.symm; subst hw) | (go_at_call 37; refine (digit_any _ _).mono ?_; rw [HDg.out]; rintro e w' ⟨rfl, hw⟩; replace hw := hw.symm; subst hw))
          refine ⟨⟨q + 1, false, by omega, by omega, by go_num, rfl, hide ?_, hide ?_⟩, by simp [intOf]; omega⟩
          · rw [HTk.out]; simp [HH.out, HXc.out]
          · rw [HTk.out]; have := HD.out; simp only [List.all_append, this, Bool.false_and]
        | true =>
          go_wp2_with (first | (go_at_call 50; refine (hexa_any _ _).mono ?_; rw [HX.out]; rintro e w' ⟨rfl, hw⟩; replace hw := hw.symm; subst hw) | (go_at_call 37; refine (digit_any _ _).mono ?_; rw [HDg.out]; rintro e w' ⟨rfl, hw⟩; replace hw := hw.symm; subst hw))
          refine ⟨⟨q + 1, dc, by omega, by omega, by go_num, rfl, hide ?_, hide ?_⟩, by simp [intOf]; omega⟩
          · rw [HTk.out]; simp [HH.out, HXc.out]
          · rw [HTk.out]; have := HD.out; simp only [List.all_append, this, Bool.true_and, List.all_cons, List.all_nil, Bool.and_true, HDc.out]
    · have j1 : ¬ (q : Int) < s.length := by omega
      have HSn := hide (show s[q]? = none from List.getElem?_eq_none (by omega))
      have HNx := hide (show ∀ d, s[q]? = some d → hexN d = false by intro d hd; rw [HSn.out] at hd; cases hd)
      have M72 := hide (show ¬ s[q]? = some 72 by rw [HSn.out]; simp)
      have M88 := hide (show ¬ s[q]? = some 88 by rw [HSn.out]; simp)
      cases dec with
      | false =>
        as_aux_lemma =>
          have HNT := hide (show numT (s.drop p) p = .error 90 by rw [numT_at p hpq hqs HH.out HNx.out, if_neg M72.out, if_neg M88.out, if_pos HD.out])
          go_wp2
          refine bodyPost_ret (v := .tuple #[.agg #[.int .i64 3, .string (bs []), .int .i64 0, .int .i64 p], .int .i64 0, .int .i64 90]) (by simp [results, Tryd.results39, go_sem]) rfl ⟨_, rfl, ?_, two_g _ _ _⟩
          rw [HNT.out]
          exact tk_no
      | true =>
        as_aux_lemma =>
          have HDn := hide (show ¬ ((s.drop p).take (q - p)).all digN = false by rw [HD.out]; simp)
          have HNT := hide (show numT (s.drop p) p = numV 2147483648 (valB 10 ((s.drop p).take (q - p))) (q - p) 3 p by rw [numT_at p hpq hqs HH.out HNx.out, if_neg M72.out, if_neg M88.out, if_neg HDn.out, if_neg (fun h => by have := h.1; rw [HSn.out] at this; cases this)])
          go_wp2
          go_loop [13, 14] (fun nv iv => ∃ i : Nat, p ≤ i ∧ i ≤ q ∧ iv = .int .i64 i ∧ nv = .int .i64 (valB 10 ((s.drop p).take (i - p)) : Nat) ∧ Hid (valB 10 ((s.drop p).take (i - p)) < 21474836496)) (fun _ iv => q - (intOf iv).toNat)
          case atStart => exact ⟨p, Nat.le_refl _, hpq, rfl, by simp [valB], hide (by simp [valB])⟩
          case round =>
            obtain ⟨i, hpi, hiq, rfl, rfl, HB⟩ := hrel
            obtain ⟨v, hv⟩ : ∃ v, valB 10 ((s.drop p).take (i - p)) = v := ⟨_, rfl⟩
            have HV := hide hv
            rw [hv] at HB ⊢
            obtain ⟨Z, hZ⟩ : ∃ Z : Int, (v : Int) = Z := ⟨_, rfl⟩
            have vb : 0 ≤ Z ∧ Z < 21474836496 := by have := HB.out; omega
            have HZ := hide hZ
            rw [hZ]
            clear hv hZ
            by_cases hlim : Z < 2147483648
            · by_cases hin : i < q
              · have i1 : (i : Int) < q := by omega
                have i2 : (i : Int) < s.length := by omega
                have his : i < s.length := by omega
                obtain ⟨c, hc⟩ : ∃ c, s[i] = c := ⟨_, rfl⟩
                have hb : ∀ h, (bs s)[i]'h = c := fun h => hc
                have hx : hexN c = true := List.all_eq_true.1 HH.out c (List.mem_of_getElem? (i := i - p) (by rw [List.getElem?_take, if_pos (by omega), List.getElem?_drop, show p + (i - p) = i by omega, List.getElem?_eq_getElem his, hc]))
                have HN := hide (show valB 10 ((s.drop p).take (i + 1 - p)) = v * 10 + dvN c by rw [take_on hpi his, valB_snoc, HV.out, hc])
                have hd15 := dv_le hx
                cases hlc : letN c
                · obtain ⟨g0, g1, g2⟩ := dv_dig hx hlc
                  have HLc := hide (show ltI (c.toNat : Int) = false from hlc)
                  obtain ⟨V, hV⟩ : ∃ V : Int, (c.toNat : Int) = V := ⟨_, rfl⟩
                  rw [hV] at HLc
                  have v0 : 48 ≤ V ∧ V ≤ 57 := by omega
                  have HDv := hide (show (dvN c : Int) = V - 48 by omega)
                  have H15 := hide hd15
                  clear hlc hx g0 g1 g2 hc hd15
                  go_wp2_with (go_at_call 36; refine (letter_any _ _).mono ?_; rw [HLc.out]; rintro e w' ⟨rfl, hw⟩; replace hw := hw.symm; subst hw)
                  refine ⟨⟨i + 1, by omega, by omega, by go_num, ?_, hide ?_⟩, by simp [intOf]; omega⟩
                  · rw [HN.out, Int.natCast_add, Int.natCast_mul, HDv.out, HZ.out]; go_num
                  · rw [HN.out]; have := H15.out; have := HZ.out; omega
                · obtain ⟨g0, g1, g2⟩ := dv_let hx hlc
                  have HLc := hide (show ltI (c.toNat : Int) = true from hlc)
                  obtain ⟨V, hV⟩ : ∃ V : Int, (c.toNat : Int) = V := ⟨_, rfl⟩
                  rw [hV] at HLc
                  have v0 : 65 ≤ V ∧ V ≤ 70 := by omega
                  have HDv := hide (show (dvN c : Int) = V - 65 + 10 by omega)
                  have H15 := hide hd15
                  clear hlc hx g0 g1 g2 hc hd15
                  go_wp2_with (go_at_call 36; refine (letter_any _ _).mono ?_; rw [HLc.out]; rintro e w' ⟨rfl, hw⟩; replace hw := hw.symm; subst hw)
                  refine ⟨⟨i + 1, by omega, by omega, by go_num, ?_, hide ?_⟩, by simp [intOf]; omega⟩
                  · rw [HN.out, Int.natCast_add, Int.natCast_mul, HDv.out, HZ.out]; go_num
                  · rw [HN.out]; have := H15.out; have := HZ.out; omega
              · obtain rfl : q = i := by omega
                have k1 : ¬ (2147483648 : Int) ≤ Z := by omega
                go_wp2
                refine bodyPost_ret (v := .tuple #[.agg #[.int .i64 3, .string (bs []), .int .i64 (Z), .int .i64 p], .int .i64 (q), .int .i64 0]) (by simp [results, Tryd.results39, go_sem]) rfl ⟨_, rfl, ?_, two_g _ _ _⟩
                have hz := HZ.out
                rw [HNT.out, HV.out]
                unfold numV
                rw [if_neg (by omega), if_neg (by omega), hz]
                exact tk_ok (by omega)
            · have HG := hide (show 2147483648 ≤ valB 10 ((s.drop p).take (q - p)) by obtain ⟨r, hr⟩ := take_in hpi hiq hqs; rw [hr]; have := valB_mono 10 (by decide) ((s.drop p).take (i - p)) r; rw [HV.out] at this; have := HZ.out; omega)
              rcases (by omega : i < q ∨ ¬ i < q) with hin | hin
              · have i1 : (i : Int) < q := by omega
                go_wp2
                refine bodyPost_ret (v := .tuple #[.agg #[.int .i64 3, .string (bs []), .int .i64 0, .int .i64 p], .int .i64 0, .int .i64 91]) (by simp [results, Tryd.results39, go_sem]) rfl ⟨_, rfl, ?_, two_g _ _ _⟩
                rw [HNT.out]
                unfold numV
                rw [if_pos HG.out]
                exact tk_no
              · have i1 : ¬ (i : Int) < q := by omega
                go_wp2
                refine bodyPost_ret (v := .tuple #[.agg #[.int .i64 3, .string (bs []), .int .i64 0, .int .i64 p], .int .i64 0, .int .i64 91]) (by simp [results, Tryd.results39, go_sem]) rfl ⟨_, rfl, ?_, two_g _ _ _⟩
                rw [HNT.out]
                unfold numV
                rw [if_pos HG.out]
                exact tk_no
end Go.Proofs.YthnkkcamfcmhmaaDoor.Lx
