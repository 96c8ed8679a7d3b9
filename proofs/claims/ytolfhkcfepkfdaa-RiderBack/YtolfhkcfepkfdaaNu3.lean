/-
  The document's own reader (package spinetref08): Num's walk.
-/
import Derived.Test.YtolfhkcfepkfdaaNu2
namespace Go.Proofs.Ytolfhkcfepkfdaa.Ri
open Go.RowKit Go.Proofs.Ytolfhkcfepkfdaa.Tx Go.Proofs.Ytolfhkcfepkfdaa.Bits
set_option linter.unusedVariables false
set_option linter.unusedSimpArgs false
set_option maxRecDepth 100000

/- The reader is spoilt, and stands where it stood. -/
theorem back_at {W W' : World} {q p x : Nat} {s : List UInt8} {b : Bool} (r : Rb W' q s x b) (hp : p ≤ s.length) (h : W.grownBy W' (some q)) :
    Rb ((W'.setCell ⟨q, 2, none⟩ (.bool true)).setCell ⟨q, 1, none⟩ (.int .i64 p)) q s p true ∧ W.grownBy ((W'.setCell ⟨q, 2, none⟩ (.bool true)).setCell ⟨q, 1, none⟩ (.int .i64 p)) (some q) :=
  ⟨r.spoil.move hp, g_more h (g_more (set_g _ _ _ _) (set_g _ _ _ _))⟩
/- How it ends: the bytes d have 128 more; c is what comes behind them. -/
def numR (d : List UInt8) (c : Option UInt8) : Option Int := match c with
  | some c => if c.toNat < 128 ∧ d.length ≤ 4 ∧ fitsB (valN (d ++ [c])) 32 = true ∧ (numL (valN (d ++ [c]))).length = d.length + 1 then some (valN (d ++ [c])) else none
  | none => none
set_option maxHeartbeats 4000000 in
theorem num_was {W : World} {q p : Nat} {s : List UInt8} (r : Rb W q s p true) :
    Calls Try.prog 33 #[.pointer (some ⟨q, 0, none⟩)] W fun e W' => e = .returned (.int .i64 0) ∧ Rb W' q s p true ∧ W.grownBy W' (some q) := by
  have c1 := r.c1
  have c2 := r.c2
  have hf := fun k => free_at (k := k) r.head
  have HB := hide (back_at r r.le (W := W) ⟨rfl, rfl, rfl, Nat.le_refl _, fun _ _ _ => rfl⟩)
  clear r
  go_enter Try.func33, Try.ntmps33
  go_wp2
  go_loop [4, 5, 6] (fun n k sc => n = .int .i64 0 ∧ k = .int .i64 0 ∧ sc = .int .i64 1) (fun _ _ _ => 0)
  case atStart => exact ⟨rfl, rfl, rfl⟩
  case round =>
    obtain ⟨rfl, rfl, rfl⟩ := hrel
    go_wp2
    go_ret
    exact ⟨rfl, HB.out.1, HB.out.2⟩
/- What a call of Num leaves. -/
def numE (W : World) (q : Nat) (s : List UInt8) (p k : Nat) (x : Option Int) (e : Ending) (W' : World) : Prop := match x with
  | some n => e = .returned (.int .i64 n) ∧ Rb W' q s (p + k) false ∧ W.grownBy W' (some q)
  | none => e = .returned (.int .i64 0) ∧ Rb W' q s p true ∧ W.grownBy W' (some q)
theorem numE_no {W W' : World} {q p k : Nat} {s : List UInt8} {x : Option Int} {e : Ending} (hx : x = none) (he : e = .returned (.int .i64 0)) (h : Rb W' q s p true ∧ W.grownBy W' (some q)) : numE W q s p k x e W' := by
  subst hx
  exact ⟨he, h.1, h.2⟩
theorem numE_yes {W W' : World} {q p k : Nat} {s : List UInt8} {x : Option Int} {n : Int} {e : Ending} (hx : x = some n) (he : e = .returned (.int .i64 n)) (h : Rb W' q s (p + k) false) (hg : W.grownBy W' (some q)) : numE W q s p k x e W' := by
  subst hx
  exact ⟨he, h, hg⟩
theorem take_acc {d : List UInt8} {i : Nat} (h : i < d.length) : accN (d.take (i + 1)) = accN (d.take i) + (d[i].toNat : Int) % 128 * 128 ^ i := by
  rw [List.take_succ_eq_append_getElem h, accN_snoc, List.length_take, Nat.min_eq_left (by omega)]
theorem tmod_pos (V : Int) (h : 0 ≤ V) : V.tmod 128 = V % 128 := Int.tmod_eq_emod_of_nonneg h
set_option maxHeartbeats 16000000 in
theorem num_run {W : World} {q p : Nat} {s : List UInt8} (r : Rb W q s p false) (d : List UInt8) (c : Option UInt8) (hd : ∀ e ∈ d, 128 ≤ e.toNat) (hlen : d.length ≤ 5) (hpre : ∀ i (h : i < d.length), s[p + i]? = some d[i]) (hc : s[p + d.length]? = c)
    (hstop : d.length = 5 ∨ c = none ∨ ∃ c', c = some c' ∧ c'.toNat < 128) :
    Calls Try.prog 33 #[.pointer (some ⟨q, 0, none⟩)] W fun e W' => numE W q s p (d.length + 1) (numR d c) e W' := by
  have HP := hide r.le
  have HR0 := hide r
  have HD := hide hd
  have HPre := hide hpre
  have HC := hide hc
  have HSt := hide hstop
  have c1 := r.c1
  have hmax := r.max
  have hle := r.le
  clear r hd hpre hc hstop
  go_enter Try.func33, Try.ntmps33
  go_wp2
  go_loopw [4, 5, 6] (fun n k sc wr => (∃ i : Nat, i ≤ d.length ∧ n = .int .i64 (accN (d.take i)) ∧ k = .int .i64 i ∧ sc = .int .i64 (128 ^ i) ∧ Hid (Rb wr q s (p + i) false) ∧ Hid (W.grownBy wr (some q))) ∨ (∃ (x : Nat) (b : Bool) (nn ss : Int), Hid (numR d c = none) ∧ n = .int .i64 nn ∧ k = .int .i64 5 ∧ sc = .int .i64 ss ∧ Hid (Rb wr q s x b) ∧ Hid (W.grownBy wr (some q)))) (fun _ k _ _ => 5 - (intOf k).toNat)
  case atStart => exact .inl ⟨0, by omega, rfl, rfl, rfl, HR0, hide ⟨rfl, rfl, rfl, Nat.le_refl _, fun _ _ _ => rfl⟩⟩
  case round =>
    clear c1 HR0
    rcases hrel with ⟨i, hi, rfl, rfl, rfl, HR, HG⟩ | ⟨x, b, nn, ss, HNo, rfl, rfl, rfl, HR, HG⟩
    · obtain ⟨A, hA⟩ : ∃ A, accN (d.take i) = A := ⟨_, rfl⟩
      have hAb := accN_bd (d.take i)
      rw [hA, List.length_take, Nat.min_eq_left hi] at hAb
      have HA := hide hA
      rw [hA]
      clear hA
      rcases (by omega : i = 0 ∨ i = 1 ∨ i = 2 ∨ i = 3 ∨ i = 4 ∨ i = 5) with rfl | rfl | rfl | rfl | rfl | rfl
      · as_aux_lemma =>
          simp only [Int.reducePow] at hAb ⊢
          have c2 := HR.out.c2
          by_cases hin : 0 < d.length
          · have HCi := hide (HPre.out 0 hin)
            have HV := HD.out _ (List.getElem_mem hin)
            have HAc := hide (take_acc hin)
            obtain ⟨cc, hcc⟩ : ∃ cc, d[0] = cc := ⟨_, rfl⟩
            rw [hcc] at HCi HV HAc
            obtain ⟨V, hV⟩ : ∃ V : Int, (cc.toNat : Int) = V := ⟨_, rfl⟩
            have v0 : 128 ≤ V ∧ V < 256 := by have := cc.toNat_lt; omega
            have ht : V.tmod 128 = V - 128 := by rw [tmod_pos V (by omega)]; omega
            have HVV := hide hV
            clear HV hcc
            go_wp2_with (go_at_call 32; refine (byte_yes HR.out HCi.out).mono ?_; rintro e w1 ⟨rfl, h1, h2⟩; have HR1 := hide h1; have HG1 := hide (g_more HG.out h2); have d2 := h1.c2; clear h1 h2)
            go_roundw
            case rel => exact .inl ⟨1, by omega, by rw [HAc.out, HA.out, HVV.out, show (V % 128 : Int) = V - 128 by omega]; go_num, by go_num, by go_num, HR1, HG1⟩
            case measure => simp [intOf]
          · have hdl : d.length = 0 := by omega
            have HC' := hide (show s[p + 0]? = c by rw [← hdl]; exact HC.out)
            rcases HSt.out with h5 | rfl | ⟨c', rfl, hc'⟩
            · omega
            · have HEnd := hide (show false = true ∨ s.length < p + 0 + 1 from .inr (by have := List.getElem?_eq_none_iff.1 HC'.out; omega))
              go_wp2_with (first | (go_at_call 32; refine (byte_no HR.out HEnd.out).mono ?_; rintro e w1 ⟨rfl, h1, h2⟩; have HR1 := hide h1; have HG1 := hide (g_more HG.out h2); have d2 := h1.c2; clear h1 h2) | (go_at_call 29; refine (fresh_num w1 _).mono ?_; rintro e w2 ⟨rfl, h1, a2, m2, p2, h2, h3, h4⟩; have HR2 := hide (HR1.out.kept h1); have HG2 := hide (g_then HG1.out h1); clear d2; have d2 := HR2.out.c2; have hw := h2; have HM := hide (h3); have hm5 : (m2 : Int) ≤ 5 := (by omega); clear h1 h2 h3))
              go_roundw
              case rel => exact .inr ⟨_, _, _, _, hide rfl, rfl, by go_num, rfl, HR2, HG2⟩
              case measure => simp [intOf]
            · have hV' : ∃ V : Int, (c'.toNat : Int) = V := ⟨_, rfl⟩
              obtain ⟨V, hV⟩ := hV'
              have v0 : 0 ≤ V ∧ V < 128 := by omega
              have ht : V.tmod 128 = V := by rw [tmod_pos V v0.1]; omega
              have HVN := hide (valN_snoc c' hc' d HD.out).2
              rw [hdl, show accN d = A by rw [← HA.out, ← hdl, List.take_length], hV] at HVN
              simp only [Int.reducePow, Nat.reduceAdd] at HVN
              have HCi := HC'
              by_cases h64 : c'.toNat < 64
              · have v1 : V < 64 := by omega
                rw [if_pos h64] at HVN
                obtain ⟨N, hN⟩ : ∃ N : Int, valN (d ++ [c']) = N := ⟨_, rfl⟩
                have n0 : A + V = N := by rw [← hN]; have := HVN.out; omega
                have HN := hide hN
                cases hfit : fitsB N 32
                · have HF := hide hfit
                  have HNo := hide (show numR d (some c') = none by unfold numR; simp only []; rw [hN, hfit]; simp)
                  clear hN hfit HVN
                  go_wp2_with (first | (go_at_call 32; refine (byte_yes HR.out HCi.out).mono ?_; rintro e w1 ⟨rfl, h1, h2⟩; have HR1 := hide h1; have HG1 := hide (g_more HG.out h2); have d2 := h1.c2; clear h1 h2) | (go_at_call 29; refine (fresh_num w1 N).mono ?_; rintro e w2 ⟨rfl, h1, a2, m2, p2, h2, h3, h4⟩; have HR2 := hide (HR1.out.kept h1); have HG2 := hide (g_then HG1.out h1); clear d2; have d2 := HR2.out.c2; have hw := h2; have HM := hide (h3); have hm5 : (m2 : Int) ≤ 5 := (by omega); clear h1 h2 h3) | (go_at_call 48; refine (rfits_any N 32 _).mono ?_; rw [HF.out]; rintro e w' ⟨rfl, hw'⟩; replace hw' := hw'.symm; subst hw'))
                  go_roundw
                  case rel => exact .inr ⟨_, _, _, _, HNo, rfl, by go_num, rfl, HR2, HG2⟩
                  case measure => simp [intOf]
                · have HF := hide hfit
                  by_cases hlen' : (numL N).length = 1
                  · have HYes := hide (show numR d (some c') = some N by unfold numR; simp only []; rw [hN, hfit, hdl, hlen', if_pos ⟨hc', by omega, rfl, rfl⟩])
                    clear hN hfit HVN
                    go_wp2_with (first | (go_at_call 32; refine (byte_yes HR.out HCi.out).mono ?_; rintro e w1 ⟨rfl, h1, h2⟩; have HR1 := hide h1; have HG1 := hide (g_more HG.out h2); have d2 := h1.c2; clear h1 h2) | ((go_at_call 29; refine (fresh_num w1 N).mono ?_; rintro e w2 ⟨rfl, h1, a2, m2, p2, h2, h3, h4⟩; have HR2 := hide (HR1.out.kept h1); have HG2 := hide (g_then HG1.out h1); clear d2; have d2 := HR2.out.c2; have hw := h2; have HM := hide (h3); have hm5 : (m2 : Int) ≤ 5 := (by omega); clear h1 h2 h3); obtain rfl : m2 = 1 := (HM.out HF.out).trans hlen') | (go_at_call 48; refine (rfits_any N 32 _).mono ?_; rw [HF.out]; rintro e w' ⟨rfl, hw'⟩; replace hw' := hw'.symm; subst hw'))
                    go_ret
                    exact numE_yes HYes.out rfl (by rw [hdl]; exact HR2.out) HG2.out
                  · have HNo := hide (show numR d (some c') = none by unfold numR; simp only []; rw [hN, hdl, if_neg (fun h => hlen' h.2.2.2)])
                    clear hN hfit HVN
                    go_wp2_with (first | (go_at_call 32; refine (byte_yes HR.out HCi.out).mono ?_; rintro e w1 ⟨rfl, h1, h2⟩; have HR1 := hide h1; have HG1 := hide (g_more HG.out h2); have d2 := h1.c2; clear h1 h2) | ((go_at_call 29; refine (fresh_num w1 N).mono ?_; rintro e w2 ⟨rfl, h1, a2, m2, p2, h2, h3, h4⟩; have HR2 := hide (HR1.out.kept h1); have HG2 := hide (g_then HG1.out h1); clear d2; have d2 := HR2.out.c2; have hw := h2; have HM := hide (h3); have hm5 : (m2 : Int) ≤ 5 := (by omega); clear h1 h2 h3); have hne : ((m2 : Int) == 1) = false := (by have := HM.out HF.out; simp; omega)) | (go_at_call 48; refine (rfits_any N 32 _).mono ?_; rw [HF.out]; rintro e w' ⟨rfl, hw'⟩; replace hw' := hw'.symm; subst hw'))
                    go_roundw
                    case rel => exact .inr ⟨_, _, _, _, HNo, rfl, by go_num, rfl, HR2, HG2⟩
                    case measure => simp [intOf]
              · have v1 : ¬ V < 64 := by omega
                rw [if_neg h64] at HVN
                obtain ⟨N, hN⟩ : ∃ N : Int, valN (d ++ [c']) = N := ⟨_, rfl⟩
                have n0 : A + V - 128 = N := by rw [← hN]; have := HVN.out; omega
                have HN := hide hN
                cases hfit : fitsB N 32
                · have HF := hide hfit
                  have HNo := hide (show numR d (some c') = none by unfold numR; simp only []; rw [hN, hfit]; simp)
                  clear hN hfit HVN
                  go_wp2_with (first | (go_at_call 32; refine (byte_yes HR.out HCi.out).mono ?_; rintro e w1 ⟨rfl, h1, h2⟩; have HR1 := hide h1; have HG1 := hide (g_more HG.out h2); have d2 := h1.c2; clear h1 h2) | (go_at_call 29; refine (fresh_num w1 N).mono ?_; rintro e w2 ⟨rfl, h1, a2, m2, p2, h2, h3, h4⟩; have HR2 := hide (HR1.out.kept h1); have HG2 := hide (g_then HG1.out h1); clear d2; have d2 := HR2.out.c2; have hw := h2; have HM := hide (h3); have hm5 : (m2 : Int) ≤ 5 := (by omega); clear h1 h2 h3) | (go_at_call 48; refine (rfits_any N 32 _).mono ?_; rw [HF.out]; rintro e w' ⟨rfl, hw'⟩; replace hw' := hw'.symm; subst hw'))
                  go_roundw
                  case rel => exact .inr ⟨_, _, _, _, HNo, rfl, by go_num, rfl, HR2, HG2⟩
                  case measure => simp [intOf]
                · have HF := hide hfit
                  by_cases hlen' : (numL N).length = 1
                  · have HYes := hide (show numR d (some c') = some N by unfold numR; simp only []; rw [hN, hfit, hdl, hlen', if_pos ⟨hc', by omega, rfl, rfl⟩])
                    clear hN hfit HVN
                    go_wp2_with (first | (go_at_call 32; refine (byte_yes HR.out HCi.out).mono ?_; rintro e w1 ⟨rfl, h1, h2⟩; have HR1 := hide h1; have HG1 := hide (g_more HG.out h2); have d2 := h1.c2; clear h1 h2) | ((go_at_call 29; refine (fresh_num w1 N).mono ?_; rintro e w2 ⟨rfl, h1, a2, m2, p2, h2, h3, h4⟩; have HR2 := hide (HR1.out.kept h1); have HG2 := hide (g_then HG1.out h1); clear d2; have d2 := HR2.out.c2; have hw := h2; have HM := hide (h3); have hm5 : (m2 : Int) ≤ 5 := (by omega); clear h1 h2 h3); obtain rfl : m2 = 1 := (HM.out HF.out).trans hlen') | (go_at_call 48; refine (rfits_any N 32 _).mono ?_; rw [HF.out]; rintro e w' ⟨rfl, hw'⟩; replace hw' := hw'.symm; subst hw'))
                    go_ret
                    exact numE_yes HYes.out rfl (by rw [hdl]; exact HR2.out) HG2.out
                  · have HNo := hide (show numR d (some c') = none by unfold numR; simp only []; rw [hN, hdl, if_neg (fun h => hlen' h.2.2.2)])
                    clear hN hfit HVN
                    go_wp2_with (first | (go_at_call 32; refine (byte_yes HR.out HCi.out).mono ?_; rintro e w1 ⟨rfl, h1, h2⟩; have HR1 := hide h1; have HG1 := hide (g_more HG.out h2); have d2 := h1.c2; clear h1 h2) | ((go_at_call 29; refine (fresh_num w1 N).mono ?_; rintro e w2 ⟨rfl, h1, a2, m2, p2, h2, h3, h4⟩; have HR2 := hide (HR1.out.kept h1); have HG2 := hide (g_then HG1.out h1); clear d2; have d2 := HR2.out.c2; have hw := h2; have HM := hide (h3); have hm5 : (m2 : Int) ≤ 5 := (by omega); clear h1 h2 h3); have hne : ((m2 : Int) == 1) = false := (by have := HM.out HF.out; simp; omega)) | (go_at_call 48; refine (rfits_any N 32 _).mono ?_; rw [HF.out]; rintro e w' ⟨rfl, hw'⟩; replace hw' := hw'.symm; subst hw'))
                    go_roundw
                    case rel => exact .inr ⟨_, _, _, _, HNo, rfl, by go_num, rfl, HR2, HG2⟩
                    case measure => simp [intOf]
      · as_aux_lemma =>
          simp only [Int.reducePow] at hAb ⊢
          have c2 := HR.out.c2
          by_cases hin : 1 < d.length
          · have HCi := hide (HPre.out 1 hin)
            have HV := HD.out _ (List.getElem_mem hin)
            have HAc := hide (take_acc hin)
            obtain ⟨cc, hcc⟩ : ∃ cc, d[1] = cc := ⟨_, rfl⟩
            rw [hcc] at HCi HV HAc
            obtain ⟨V, hV⟩ : ∃ V : Int, (cc.toNat : Int) = V := ⟨_, rfl⟩
            have v0 : 128 ≤ V ∧ V < 256 := by have := cc.toNat_lt; omega
            have ht : V.tmod 128 = V - 128 := by rw [tmod_pos V (by omega)]; omega
            have HVV := hide hV
            clear HV hcc
            go_wp2_with (go_at_call 32; refine (byte_yes HR.out HCi.out).mono ?_; rintro e w1 ⟨rfl, h1, h2⟩; have HR1 := hide h1; have HG1 := hide (g_more HG.out h2); have d2 := h1.c2; clear h1 h2)
            go_roundw
            case rel => exact .inl ⟨2, by omega, by rw [HAc.out, HA.out, HVV.out, show (V % 128 : Int) = V - 128 by omega]; go_num, by go_num, by go_num, HR1, HG1⟩
            case measure => simp [intOf]
          · have hdl : d.length = 1 := by omega
            have HC' := hide (show s[p + 1]? = c by rw [← hdl]; exact HC.out)
            rcases HSt.out with h5 | rfl | ⟨c', rfl, hc'⟩
            · omega
            · have HEnd := hide (show false = true ∨ s.length < p + 1 + 1 from .inr (by have := List.getElem?_eq_none_iff.1 HC'.out; omega))
              go_wp2_with (first | (go_at_call 32; refine (byte_no HR.out HEnd.out).mono ?_; rintro e w1 ⟨rfl, h1, h2⟩; have HR1 := hide h1; have HG1 := hide (g_more HG.out h2); have d2 := h1.c2; clear h1 h2) | (go_at_call 29; refine (fresh_num w1 _).mono ?_; rintro e w2 ⟨rfl, h1, a2, m2, p2, h2, h3, h4⟩; have HR2 := hide (HR1.out.kept h1); have HG2 := hide (g_then HG1.out h1); clear d2; have d2 := HR2.out.c2; have hw := h2; have HM := hide (h3); have hm5 : (m2 : Int) ≤ 5 := (by omega); clear h1 h2 h3))
              go_roundw
              case rel => exact .inr ⟨_, _, _, _, hide rfl, rfl, by go_num, rfl, HR2, HG2⟩
              case measure => simp [intOf]
            · have hV' : ∃ V : Int, (c'.toNat : Int) = V := ⟨_, rfl⟩
              obtain ⟨V, hV⟩ := hV'
              have v0 : 0 ≤ V ∧ V < 128 := by omega
              have ht : V.tmod 128 = V := by rw [tmod_pos V v0.1]; omega
              have HVN := hide (valN_snoc c' hc' d HD.out).2
              rw [hdl, show accN d = A by rw [← HA.out, ← hdl, List.take_length], hV] at HVN
              simp only [Int.reducePow, Nat.reduceAdd] at HVN
              have HCi := HC'
              by_cases h64 : c'.toNat < 64
              · have v1 : V < 64 := by omega
                rw [if_pos h64] at HVN
                obtain ⟨N, hN⟩ : ∃ N : Int, valN (d ++ [c']) = N := ⟨_, rfl⟩
                have n0 : A + V * 128 = N := by rw [← hN]; have := HVN.out; omega
                have HN := hide hN
                cases hfit : fitsB N 32
                · have HF := hide hfit
                  have HNo := hide (show numR d (some c') = none by unfold numR; simp only []; rw [hN, hfit]; simp)
                  clear hN hfit HVN
                  go_wp2_with (first | (go_at_call 32; refine (byte_yes HR.out HCi.out).mono ?_; rintro e w1 ⟨rfl, h1, h2⟩; have HR1 := hide h1; have HG1 := hide (g_more HG.out h2); have d2 := h1.c2; clear h1 h2) | (go_at_call 29; refine (fresh_num w1 N).mono ?_; rintro e w2 ⟨rfl, h1, a2, m2, p2, h2, h3, h4⟩; have HR2 := hide (HR1.out.kept h1); have HG2 := hide (g_then HG1.out h1); clear d2; have d2 := HR2.out.c2; have hw := h2; have HM := hide (h3); have hm5 : (m2 : Int) ≤ 5 := (by omega); clear h1 h2 h3) | (go_at_call 48; refine (rfits_any N 32 _).mono ?_; rw [HF.out]; rintro e w' ⟨rfl, hw'⟩; replace hw' := hw'.symm; subst hw'))
                  go_roundw
                  case rel => exact .inr ⟨_, _, _, _, HNo, rfl, by go_num, rfl, HR2, HG2⟩
                  case measure => simp [intOf]
                · have HF := hide hfit
                  by_cases hlen' : (numL N).length = 2
                  · have HYes := hide (show numR d (some c') = some N by unfold numR; simp only []; rw [hN, hfit, hdl, hlen', if_pos ⟨hc', by omega, rfl, rfl⟩])
                    clear hN hfit HVN
                    go_wp2_with (first | (go_at_call 32; refine (byte_yes HR.out HCi.out).mono ?_; rintro e w1 ⟨rfl, h1, h2⟩; have HR1 := hide h1; have HG1 := hide (g_more HG.out h2); have d2 := h1.c2; clear h1 h2) | ((go_at_call 29; refine (fresh_num w1 N).mono ?_; rintro e w2 ⟨rfl, h1, a2, m2, p2, h2, h3, h4⟩; have HR2 := hide (HR1.out.kept h1); have HG2 := hide (g_then HG1.out h1); clear d2; have d2 := HR2.out.c2; have hw := h2; have HM := hide (h3); have hm5 : (m2 : Int) ≤ 5 := (by omega); clear h1 h2 h3); obtain rfl : m2 = 2 := (HM.out HF.out).trans hlen') | (go_at_call 48; refine (rfits_any N 32 _).mono ?_; rw [HF.out]; rintro e w' ⟨rfl, hw'⟩; replace hw' := hw'.symm; subst hw'))
                    go_ret
                    exact numE_yes HYes.out rfl (by rw [hdl]; exact HR2.out) HG2.out
                  · have HNo := hide (show numR d (some c') = none by unfold numR; simp only []; rw [hN, hdl, if_neg (fun h => hlen' h.2.2.2)])
                    clear hN hfit HVN
                    go_wp2_with (first | (go_at_call 32; refine (byte_yes HR.out HCi.out).mono ?_; rintro e w1 ⟨rfl, h1, h2⟩; have HR1 := hide h1; have HG1 := hide (g_more HG.out h2); have d2 := h1.c2; clear h1 h2) | ((go_at_call 29; refine (fresh_num w1 N).mono ?_; rintro e w2 ⟨rfl, h1, a2, m2, p2, h2, h3, h4⟩; have HR2 := hide (HR1.out.kept h1); have HG2 := hide (g_then HG1.out h1); clear d2; have d2 := HR2.out.c2; have hw := h2; have HM := hide (h3); have hm5 : (m2 : Int) ≤ 5 := (by omega); clear h1 h2 h3); have hne : ((m2 : Int) == 2) = false := (by have := HM.out HF.out; simp; omega)) | (go_at_call 48; refine (rfits_any N 32 _).mono ?_; rw [HF.out]; rintro e w' ⟨rfl, hw'⟩; replace hw' := hw'.symm; subst hw'))
                    go_roundw
                    case rel => exact .inr ⟨_, _, _, _, HNo, rfl, by go_num, rfl, HR2, HG2⟩
                    case measure => simp [intOf]
              · have v1 : ¬ V < 64 := by omega
                rw [if_neg h64] at HVN
                obtain ⟨N, hN⟩ : ∃ N : Int, valN (d ++ [c']) = N := ⟨_, rfl⟩
                have n0 : A + V * 128 - 16384 = N := by rw [← hN]; have := HVN.out; omega
                have HN := hide hN
                cases hfit : fitsB N 32
                · have HF := hide hfit
                  have HNo := hide (show numR d (some c') = none by unfold numR; simp only []; rw [hN, hfit]; simp)
                  clear hN hfit HVN
                  go_wp2_with (first | (go_at_call 32; refine (byte_yes HR.out HCi.out).mono ?_; rintro e w1 ⟨rfl, h1, h2⟩; have HR1 := hide h1; have HG1 := hide (g_more HG.out h2); have d2 := h1.c2; clear h1 h2) | (go_at_call 29; refine (fresh_num w1 N).mono ?_; rintro e w2 ⟨rfl, h1, a2, m2, p2, h2, h3, h4⟩; have HR2 := hide (HR1.out.kept h1); have HG2 := hide (g_then HG1.out h1); clear d2; have d2 := HR2.out.c2; have hw := h2; have HM := hide (h3); have hm5 : (m2 : Int) ≤ 5 := (by omega); clear h1 h2 h3) | (go_at_call 48; refine (rfits_any N 32 _).mono ?_; rw [HF.out]; rintro e w' ⟨rfl, hw'⟩; replace hw' := hw'.symm; subst hw'))
                  go_roundw
                  case rel => exact .inr ⟨_, _, _, _, HNo, rfl, by go_num, rfl, HR2, HG2⟩
                  case measure => simp [intOf]
                · have HF := hide hfit
                  by_cases hlen' : (numL N).length = 2
                  · have HYes := hide (show numR d (some c') = some N by unfold numR; simp only []; rw [hN, hfit, hdl, hlen', if_pos ⟨hc', by omega, rfl, rfl⟩])
                    clear hN hfit HVN
                    go_wp2_with (first | (go_at_call 32; refine (byte_yes HR.out HCi.out).mono ?_; rintro e w1 ⟨rfl, h1, h2⟩; have HR1 := hide h1; have HG1 := hide (g_more HG.out h2); have d2 := h1.c2; clear h1 h2) | ((go_at_call 29; refine (fresh_num w1 N).mono ?_; rintro e w2 ⟨rfl, h1, a2, m2, p2, h2, h3, h4⟩; have HR2 := hide (HR1.out.kept h1); have HG2 := hide (g_then HG1.out h1); clear d2; have d2 := HR2.out.c2; have hw := h2; have HM := hide (h3); have hm5 : (m2 : Int) ≤ 5 := (by omega); clear h1 h2 h3); obtain rfl : m2 = 2 := (HM.out HF.out).trans hlen') | (go_at_call 48; refine (rfits_any N 32 _).mono ?_; rw [HF.out]; rintro e w' ⟨rfl, hw'⟩; replace hw' := hw'.symm; subst hw'))
                    go_ret
                    exact numE_yes HYes.out rfl (by rw [hdl]; exact HR2.out) HG2.out
                  · have HNo := hide (show numR d (some c') = none by unfold numR; simp only []; rw [hN, hdl, if_neg (fun h => hlen' h.2.2.2)])
                    clear hN hfit HVN
                    go_wp2_with (first | (go_at_call 32; refine (byte_yes HR.out HCi.out).mono ?_; rintro e w1 ⟨rfl, h1, h2⟩; have HR1 := hide h1; have HG1 := hide (g_more HG.out h2); have d2 := h1.c2; clear h1 h2) | ((go_at_call 29; refine (fresh_num w1 N).mono ?_; rintro e w2 ⟨rfl, h1, a2, m2, p2, h2, h3, h4⟩; have HR2 := hide (HR1.out.kept h1); have HG2 := hide (g_then HG1.out h1); clear d2; have d2 := HR2.out.c2; have hw := h2; have HM := hide (h3); have hm5 : (m2 : Int) ≤ 5 := (by omega); clear h1 h2 h3); have hne : ((m2 : Int) == 2) = false := (by have := HM.out HF.out; simp; omega)) | (go_at_call 48; refine (rfits_any N 32 _).mono ?_; rw [HF.out]; rintro e w' ⟨rfl, hw'⟩; replace hw' := hw'.symm; subst hw'))
                    go_roundw
                    case rel => exact .inr ⟨_, _, _, _, HNo, rfl, by go_num, rfl, HR2, HG2⟩
                    case measure => simp [intOf]
      · as_aux_lemma =>
          simp only [Int.reducePow] at hAb ⊢
          have c2 := HR.out.c2
          by_cases hin : 2 < d.length
          · have HCi := hide (HPre.out 2 hin)
            have HV := HD.out _ (List.getElem_mem hin)
            have HAc := hide (take_acc hin)
            obtain ⟨cc, hcc⟩ : ∃ cc, d[2] = cc := ⟨_, rfl⟩
            rw [hcc] at HCi HV HAc
            obtain ⟨V, hV⟩ : ∃ V : Int, (cc.toNat : Int) = V := ⟨_, rfl⟩
            have v0 : 128 ≤ V ∧ V < 256 := by have := cc.toNat_lt; omega
            have ht : V.tmod 128 = V - 128 := by rw [tmod_pos V (by omega)]; omega
            have HVV := hide hV
            clear HV hcc
            go_wp2_with (go_at_call 32; refine (byte_yes HR.out HCi.out).mono ?_; rintro e w1 ⟨rfl, h1, h2⟩; have HR1 := hide h1; have HG1 := hide (g_more HG.out h2); have d2 := h1.c2; clear h1 h2)
            go_roundw
            case rel => exact .inl ⟨3, by omega, by rw [HAc.out, HA.out, HVV.out, show (V % 128 : Int) = V - 128 by omega]; go_num, by go_num, by go_num, HR1, HG1⟩
            case measure => simp [intOf]
          · have hdl : d.length = 2 := by omega
            have HC' := hide (show s[p + 2]? = c by rw [← hdl]; exact HC.out)
            rcases HSt.out with h5 | rfl | ⟨c', rfl, hc'⟩
            · omega
            · have HEnd := hide (show false = true ∨ s.length < p + 2 + 1 from .inr (by have := List.getElem?_eq_none_iff.1 HC'.out; omega))
              go_wp2_with (first | (go_at_call 32; refine (byte_no HR.out HEnd.out).mono ?_; rintro e w1 ⟨rfl, h1, h2⟩; have HR1 := hide h1; have HG1 := hide (g_more HG.out h2); have d2 := h1.c2; clear h1 h2) | (go_at_call 29; refine (fresh_num w1 _).mono ?_; rintro e w2 ⟨rfl, h1, a2, m2, p2, h2, h3, h4⟩; have HR2 := hide (HR1.out.kept h1); have HG2 := hide (g_then HG1.out h1); clear d2; have d2 := HR2.out.c2; have hw := h2; have HM := hide (h3); have hm5 : (m2 : Int) ≤ 5 := (by omega); clear h1 h2 h3))
              go_roundw
              case rel => exact .inr ⟨_, _, _, _, hide rfl, rfl, by go_num, rfl, HR2, HG2⟩
              case measure => simp [intOf]
            · have hV' : ∃ V : Int, (c'.toNat : Int) = V := ⟨_, rfl⟩
              obtain ⟨V, hV⟩ := hV'
              have v0 : 0 ≤ V ∧ V < 128 := by omega
              have ht : V.tmod 128 = V := by rw [tmod_pos V v0.1]; omega
              have HVN := hide (valN_snoc c' hc' d HD.out).2
              rw [hdl, show accN d = A by rw [← HA.out, ← hdl, List.take_length], hV] at HVN
              simp only [Int.reducePow, Nat.reduceAdd] at HVN
              have HCi := HC'
              by_cases h64 : c'.toNat < 64
              · have v1 : V < 64 := by omega
                rw [if_pos h64] at HVN
                obtain ⟨N, hN⟩ : ∃ N : Int, valN (d ++ [c']) = N := ⟨_, rfl⟩
                have n0 : A + V * 16384 = N := by rw [← hN]; have := HVN.out; omega
                have HN := hide hN
                cases hfit : fitsB N 32
                · have HF := hide hfit
                  have HNo := hide (show numR d (some c') = none by unfold numR; simp only []; rw [hN, hfit]; simp)
                  clear hN hfit HVN
                  go_wp2_with (first | (go_at_call 32; refine (byte_yes HR.out HCi.out).mono ?_; rintro e w1 ⟨rfl, h1, h2⟩; have HR1 := hide h1; have HG1 := hide (g_more HG.out h2); have d2 := h1.c2; clear h1 h2) | (go_at_call 29; refine (fresh_num w1 N).mono ?_; rintro e w2 ⟨rfl, h1, a2, m2, p2, h2, h3, h4⟩; have HR2 := hide (HR1.out.kept h1); have HG2 := hide (g_then HG1.out h1); clear d2; have d2 := HR2.out.c2; have hw := h2; have HM := hide (h3); have hm5 : (m2 : Int) ≤ 5 := (by omega); clear h1 h2 h3) | (go_at_call 48; refine (rfits_any N 32 _).mono ?_; rw [HF.out]; rintro e w' ⟨rfl, hw'⟩; replace hw' := hw'.symm; subst hw'))
                  go_roundw
                  case rel => exact .inr ⟨_, _, _, _, HNo, rfl, by go_num, rfl, HR2, HG2⟩
                  case measure => simp [intOf]
                · have HF := hide hfit
                  by_cases hlen' : (numL N).length = 3
                  · have HYes := hide (show numR d (some c') = some N by unfold numR; simp only []; rw [hN, hfit, hdl, hlen', if_pos ⟨hc', by omega, rfl, rfl⟩])
                    clear hN hfit HVN
                    go_wp2_with (first | (go_at_call 32; refine (byte_yes HR.out HCi.out).mono ?_; rintro e w1 ⟨rfl, h1, h2⟩; have HR1 := hide h1; have HG1 := hide (g_more HG.out h2); have d2 := h1.c2; clear h1 h2) | ((go_at_call 29; refine (fresh_num w1 N).mono ?_; rintro e w2 ⟨rfl, h1, a2, m2, p2, h2, h3, h4⟩; have HR2 := hide (HR1.out.kept h1); have HG2 := hide (g_then HG1.out h1); clear d2; have d2 := HR2.out.c2; have hw := h2; have HM := hide (h3); have hm5 : (m2 : Int) ≤ 5 := (by omega); clear h1 h2 h3); obtain rfl : m2 = 3 := (HM.out HF.out).trans hlen') | (go_at_call 48; refine (rfits_any N 32 _).mono ?_; rw [HF.out]; rintro e w' ⟨rfl, hw'⟩; replace hw' := hw'.symm; subst hw'))
                    go_ret
                    exact numE_yes HYes.out rfl (by rw [hdl]; exact HR2.out) HG2.out
                  · have HNo := hide (show numR d (some c') = none by unfold numR; simp only []; rw [hN, hdl, if_neg (fun h => hlen' h.2.2.2)])
                    clear hN hfit HVN
                    go_wp2_with (first | (go_at_call 32; refine (byte_yes HR.out HCi.out).mono ?_; rintro e w1 ⟨rfl, h1, h2⟩; have HR1 := hide h1; have HG1 := hide (g_more HG.out h2); have d2 := h1.c2; clear h1 h2) | ((go_at_call 29; refine (fresh_num w1 N).mono ?_; rintro e w2 ⟨rfl, h1, a2, m2, p2, h2, h3, h4⟩; have HR2 := hide (HR1.out.kept h1); have HG2 := hide (g_then HG1.out h1); clear d2; have d2 := HR2.out.c2; have hw := h2; have HM := hide (h3); have hm5 : (m2 : Int) ≤ 5 := (by omega); clear h1 h2 h3); have hne : ((m2 : Int) == 3) = false := (by have := HM.out HF.out; simp; omega)) | (go_at_call 48; refine (rfits_any N 32 _).mono ?_; rw [HF.out]; rintro e w' ⟨rfl, hw'⟩; replace hw' := hw'.symm; subst hw'))
                    go_roundw
                    case rel => exact .inr ⟨_, _, _, _, HNo, rfl, by go_num, rfl, HR2, HG2⟩
                    case measure => simp [intOf]
              · have v1 : ¬ V < 64 := by omega
                rw [if_neg h64] at HVN
                obtain ⟨N, hN⟩ : ∃ N : Int, valN (d ++ [c']) = N := ⟨_, rfl⟩
                have n0 : A + V * 16384 - 2097152 = N := by rw [← hN]; have := HVN.out; omega
                have HN := hide hN
                cases hfit : fitsB N 32
                · have HF := hide hfit
                  have HNo := hide (show numR d (some c') = none by unfold numR; simp only []; rw [hN, hfit]; simp)
                  clear hN hfit HVN
                  go_wp2_with (first | (go_at_call 32; refine (byte_yes HR.out HCi.out).mono ?_; rintro e w1 ⟨rfl, h1, h2⟩; have HR1 := hide h1; have HG1 := hide (g_more HG.out h2); have d2 := h1.c2; clear h1 h2) | (go_at_call 29; refine (fresh_num w1 N).mono ?_; rintro e w2 ⟨rfl, h1, a2, m2, p2, h2, h3, h4⟩; have HR2 := hide (HR1.out.kept h1); have HG2 := hide (g_then HG1.out h1); clear d2; have d2 := HR2.out.c2; have hw := h2; have HM := hide (h3); have hm5 : (m2 : Int) ≤ 5 := (by omega); clear h1 h2 h3) | (go_at_call 48; refine (rfits_any N 32 _).mono ?_; rw [HF.out]; rintro e w' ⟨rfl, hw'⟩; replace hw' := hw'.symm; subst hw'))
                  go_roundw
                  case rel => exact .inr ⟨_, _, _, _, HNo, rfl, by go_num, rfl, HR2, HG2⟩
                  case measure => simp [intOf]
                · have HF := hide hfit
                  by_cases hlen' : (numL N).length = 3
                  · have HYes := hide (show numR d (some c') = some N by unfold numR; simp only []; rw [hN, hfit, hdl, hlen', if_pos ⟨hc', by omega, rfl, rfl⟩])
                    clear hN hfit HVN
                    go_wp2_with (first | (go_at_call 32; refine (byte_yes HR.out HCi.out).mono ?_; rintro e w1 ⟨rfl, h1, h2⟩; have HR1 := hide h1; have HG1 := hide (g_more HG.out h2); have d2 := h1.c2; clear h1 h2) | ((go_at_call 29; refine (fresh_num w1 N).mono ?_; rintro e w2 ⟨rfl, h1, a2, m2, p2, h2, h3, h4⟩; have HR2 := hide (HR1.out.kept h1); have HG2 := hide (g_then HG1.out h1); clear d2; have d2 := HR2.out.c2; have hw := h2; have HM := hide (h3); have hm5 : (m2 : Int) ≤ 5 := (by omega); clear h1 h2 h3); obtain rfl : m2 = 3 := (HM.out HF.out).trans hlen') | (go_at_call 48; refine (rfits_any N 32 _).mono ?_; rw [HF.out]; rintro e w' ⟨rfl, hw'⟩; replace hw' := hw'.symm; subst hw'))
                    go_ret
                    exact numE_yes HYes.out rfl (by rw [hdl]; exact HR2.out) HG2.out
                  · have HNo := hide (show numR d (some c') = none by unfold numR; simp only []; rw [hN, hdl, if_neg (fun h => hlen' h.2.2.2)])
                    clear hN hfit HVN
                    go_wp2_with (first | (go_at_call 32; refine (byte_yes HR.out HCi.out).mono ?_; rintro e w1 ⟨rfl, h1, h2⟩; have HR1 := hide h1; have HG1 := hide (g_more HG.out h2); have d2 := h1.c2; clear h1 h2) | ((go_at_call 29; refine (fresh_num w1 N).mono ?_; rintro e w2 ⟨rfl, h1, a2, m2, p2, h2, h3, h4⟩; have HR2 := hide (HR1.out.kept h1); have HG2 := hide (g_then HG1.out h1); clear d2; have d2 := HR2.out.c2; have hw := h2; have HM := hide (h3); have hm5 : (m2 : Int) ≤ 5 := (by omega); clear h1 h2 h3); have hne : ((m2 : Int) == 3) = false := (by have := HM.out HF.out; simp; omega)) | (go_at_call 48; refine (rfits_any N 32 _).mono ?_; rw [HF.out]; rintro e w' ⟨rfl, hw'⟩; replace hw' := hw'.symm; subst hw'))
                    go_roundw
                    case rel => exact .inr ⟨_, _, _, _, HNo, rfl, by go_num, rfl, HR2, HG2⟩
                    case measure => simp [intOf]
      · as_aux_lemma =>
          simp only [Int.reducePow] at hAb ⊢
          have c2 := HR.out.c2
          by_cases hin : 3 < d.length
          · have HCi := hide (HPre.out 3 hin)
            have HV := HD.out _ (List.getElem_mem hin)
            have HAc := hide (take_acc hin)
            obtain ⟨cc, hcc⟩ : ∃ cc, d[3] = cc := ⟨_, rfl⟩
            rw [hcc] at HCi HV HAc
            obtain ⟨V, hV⟩ : ∃ V : Int, (cc.toNat : Int) = V := ⟨_, rfl⟩
            have v0 : 128 ≤ V ∧ V < 256 := by have := cc.toNat_lt; omega
            have ht : V.tmod 128 = V - 128 := by rw [tmod_pos V (by omega)]; omega
            have HVV := hide hV
            clear HV hcc
            go_wp2_with (go_at_call 32; refine (byte_yes HR.out HCi.out).mono ?_; rintro e w1 ⟨rfl, h1, h2⟩; have HR1 := hide h1; have HG1 := hide (g_more HG.out h2); have d2 := h1.c2; clear h1 h2)
            go_roundw
            case rel => exact .inl ⟨4, by omega, by rw [HAc.out, HA.out, HVV.out, show (V % 128 : Int) = V - 128 by omega]; go_num, by go_num, by go_num, HR1, HG1⟩
            case measure => simp [intOf]
          · have hdl : d.length = 3 := by omega
            have HC' := hide (show s[p + 3]? = c by rw [← hdl]; exact HC.out)
            rcases HSt.out with h5 | rfl | ⟨c', rfl, hc'⟩
            · omega
            · have HEnd := hide (show false = true ∨ s.length < p + 3 + 1 from .inr (by have := List.getElem?_eq_none_iff.1 HC'.out; omega))
              go_wp2_with (first | (go_at_call 32; refine (byte_no HR.out HEnd.out).mono ?_; rintro e w1 ⟨rfl, h1, h2⟩; have HR1 := hide h1; have HG1 := hide (g_more HG.out h2); have d2 := h1.c2; clear h1 h2) | (go_at_call 29; refine (fresh_num w1 _).mono ?_; rintro e w2 ⟨rfl, h1, a2, m2, p2, h2, h3, h4⟩; have HR2 := hide (HR1.out.kept h1); have HG2 := hide (g_then HG1.out h1); clear d2; have d2 := HR2.out.c2; have hw := h2; have HM := hide (h3); have hm5 : (m2 : Int) ≤ 5 := (by omega); clear h1 h2 h3))
              go_roundw
              case rel => exact .inr ⟨_, _, _, _, hide rfl, rfl, by go_num, rfl, HR2, HG2⟩
              case measure => simp [intOf]
            · have hV' : ∃ V : Int, (c'.toNat : Int) = V := ⟨_, rfl⟩
              obtain ⟨V, hV⟩ := hV'
              have v0 : 0 ≤ V ∧ V < 128 := by omega
              have ht : V.tmod 128 = V := by rw [tmod_pos V v0.1]; omega
              have HVN := hide (valN_snoc c' hc' d HD.out).2
              rw [hdl, show accN d = A by rw [← HA.out, ← hdl, List.take_length], hV] at HVN
              simp only [Int.reducePow, Nat.reduceAdd] at HVN
              have HCi := HC'
              by_cases h64 : c'.toNat < 64
              · have v1 : V < 64 := by omega
                rw [if_pos h64] at HVN
                obtain ⟨N, hN⟩ : ∃ N : Int, valN (d ++ [c']) = N := ⟨_, rfl⟩
                have n0 : A + V * 2097152 = N := by rw [← hN]; have := HVN.out; omega
                have HN := hide hN
                cases hfit : fitsB N 32
                · have HF := hide hfit
                  have HNo := hide (show numR d (some c') = none by unfold numR; simp only []; rw [hN, hfit]; simp)
                  clear hN hfit HVN
                  go_wp2_with (first | (go_at_call 32; refine (byte_yes HR.out HCi.out).mono ?_; rintro e w1 ⟨rfl, h1, h2⟩; have HR1 := hide h1; have HG1 := hide (g_more HG.out h2); have d2 := h1.c2; clear h1 h2) | (go_at_call 29; refine (fresh_num w1 N).mono ?_; rintro e w2 ⟨rfl, h1, a2, m2, p2, h2, h3, h4⟩; have HR2 := hide (HR1.out.kept h1); have HG2 := hide (g_then HG1.out h1); clear d2; have d2 := HR2.out.c2; have hw := h2; have HM := hide (h3); have hm5 : (m2 : Int) ≤ 5 := (by omega); clear h1 h2 h3) | (go_at_call 48; refine (rfits_any N 32 _).mono ?_; rw [HF.out]; rintro e w' ⟨rfl, hw'⟩; replace hw' := hw'.symm; subst hw'))
                  go_roundw
                  case rel => exact .inr ⟨_, _, _, _, HNo, rfl, by go_num, rfl, HR2, HG2⟩
                  case measure => simp [intOf]
                · have HF := hide hfit
                  by_cases hlen' : (numL N).length = 4
                  · have HYes := hide (show numR d (some c') = some N by unfold numR; simp only []; rw [hN, hfit, hdl, hlen', if_pos ⟨hc', by omega, rfl, rfl⟩])
                    clear hN hfit HVN
                    go_wp2_with (first | (go_at_call 32; refine (byte_yes HR.out HCi.out).mono ?_; rintro e w1 ⟨rfl, h1, h2⟩; have HR1 := hide h1; have HG1 := hide (g_more HG.out h2); have d2 := h1.c2; clear h1 h2) | ((go_at_call 29; refine (fresh_num w1 N).mono ?_; rintro e w2 ⟨rfl, h1, a2, m2, p2, h2, h3, h4⟩; have HR2 := hide (HR1.out.kept h1); have HG2 := hide (g_then HG1.out h1); clear d2; have d2 := HR2.out.c2; have hw := h2; have HM := hide (h3); have hm5 : (m2 : Int) ≤ 5 := (by omega); clear h1 h2 h3); obtain rfl : m2 = 4 := (HM.out HF.out).trans hlen') | (go_at_call 48; refine (rfits_any N 32 _).mono ?_; rw [HF.out]; rintro e w' ⟨rfl, hw'⟩; replace hw' := hw'.symm; subst hw'))
                    go_ret
                    exact numE_yes HYes.out rfl (by rw [hdl]; exact HR2.out) HG2.out
                  · have HNo := hide (show numR d (some c') = none by unfold numR; simp only []; rw [hN, hdl, if_neg (fun h => hlen' h.2.2.2)])
                    clear hN hfit HVN
                    go_wp2_with (first | (go_at_call 32; refine (byte_yes HR.out HCi.out).mono ?_; rintro e w1 ⟨rfl, h1, h2⟩; have HR1 := hide h1; have HG1 := hide (g_more HG.out h2); have d2 := h1.c2; clear h1 h2) | ((go_at_call 29; refine (fresh_num w1 N).mono ?_; rintro e w2 ⟨rfl, h1, a2, m2, p2, h2, h3, h4⟩; have HR2 := hide (HR1.out.kept h1); have HG2 := hide (g_then HG1.out h1); clear d2; have d2 := HR2.out.c2; have hw := h2; have HM := hide (h3); have hm5 : (m2 : Int) ≤ 5 := (by omega); clear h1 h2 h3); have hne : ((m2 : Int) == 4) = false := (by have := HM.out HF.out; simp; omega)) | (go_at_call 48; refine (rfits_any N 32 _).mono ?_; rw [HF.out]; rintro e w' ⟨rfl, hw'⟩; replace hw' := hw'.symm; subst hw'))
                    go_roundw
                    case rel => exact .inr ⟨_, _, _, _, HNo, rfl, by go_num, rfl, HR2, HG2⟩
                    case measure => simp [intOf]
              · have v1 : ¬ V < 64 := by omega
                rw [if_neg h64] at HVN
                obtain ⟨N, hN⟩ : ∃ N : Int, valN (d ++ [c']) = N := ⟨_, rfl⟩
                have n0 : A + V * 2097152 - 268435456 = N := by rw [← hN]; have := HVN.out; omega
                have HN := hide hN
                cases hfit : fitsB N 32
                · have HF := hide hfit
                  have HNo := hide (show numR d (some c') = none by unfold numR; simp only []; rw [hN, hfit]; simp)
                  clear hN hfit HVN
                  go_wp2_with (first | (go_at_call 32; refine (byte_yes HR.out HCi.out).mono ?_; rintro e w1 ⟨rfl, h1, h2⟩; have HR1 := hide h1; have HG1 := hide (g_more HG.out h2); have d2 := h1.c2; clear h1 h2) | (go_at_call 29; refine (fresh_num w1 N).mono ?_; rintro e w2 ⟨rfl, h1, a2, m2, p2, h2, h3, h4⟩; have HR2 := hide (HR1.out.kept h1); have HG2 := hide (g_then HG1.out h1); clear d2; have d2 := HR2.out.c2; have hw := h2; have HM := hide (h3); have hm5 : (m2 : Int) ≤ 5 := (by omega); clear h1 h2 h3) | (go_at_call 48; refine (rfits_any N 32 _).mono ?_; rw [HF.out]; rintro e w' ⟨rfl, hw'⟩; replace hw' := hw'.symm; subst hw'))
                  go_roundw
                  case rel => exact .inr ⟨_, _, _, _, HNo, rfl, by go_num, rfl, HR2, HG2⟩
                  case measure => simp [intOf]
                · have HF := hide hfit
                  by_cases hlen' : (numL N).length = 4
                  · have HYes := hide (show numR d (some c') = some N by unfold numR; simp only []; rw [hN, hfit, hdl, hlen', if_pos ⟨hc', by omega, rfl, rfl⟩])
                    clear hN hfit HVN
                    go_wp2_with (first | (go_at_call 32; refine (byte_yes HR.out HCi.out).mono ?_; rintro e w1 ⟨rfl, h1, h2⟩; have HR1 := hide h1; have HG1 := hide (g_more HG.out h2); have d2 := h1.c2; clear h1 h2) | ((go_at_call 29; refine (fresh_num w1 N).mono ?_; rintro e w2 ⟨rfl, h1, a2, m2, p2, h2, h3, h4⟩; have HR2 := hide (HR1.out.kept h1); have HG2 := hide (g_then HG1.out h1); clear d2; have d2 := HR2.out.c2; have hw := h2; have HM := hide (h3); have hm5 : (m2 : Int) ≤ 5 := (by omega); clear h1 h2 h3); obtain rfl : m2 = 4 := (HM.out HF.out).trans hlen') | (go_at_call 48; refine (rfits_any N 32 _).mono ?_; rw [HF.out]; rintro e w' ⟨rfl, hw'⟩; replace hw' := hw'.symm; subst hw'))
                    go_ret
                    exact numE_yes HYes.out rfl (by rw [hdl]; exact HR2.out) HG2.out
                  · have HNo := hide (show numR d (some c') = none by unfold numR; simp only []; rw [hN, hdl, if_neg (fun h => hlen' h.2.2.2)])
                    clear hN hfit HVN
                    go_wp2_with (first | (go_at_call 32; refine (byte_yes HR.out HCi.out).mono ?_; rintro e w1 ⟨rfl, h1, h2⟩; have HR1 := hide h1; have HG1 := hide (g_more HG.out h2); have d2 := h1.c2; clear h1 h2) | ((go_at_call 29; refine (fresh_num w1 N).mono ?_; rintro e w2 ⟨rfl, h1, a2, m2, p2, h2, h3, h4⟩; have HR2 := hide (HR1.out.kept h1); have HG2 := hide (g_then HG1.out h1); clear d2; have d2 := HR2.out.c2; have hw := h2; have HM := hide (h3); have hm5 : (m2 : Int) ≤ 5 := (by omega); clear h1 h2 h3); have hne : ((m2 : Int) == 4) = false := (by have := HM.out HF.out; simp; omega)) | (go_at_call 48; refine (rfits_any N 32 _).mono ?_; rw [HF.out]; rintro e w' ⟨rfl, hw'⟩; replace hw' := hw'.symm; subst hw'))
                    go_roundw
                    case rel => exact .inr ⟨_, _, _, _, HNo, rfl, by go_num, rfl, HR2, HG2⟩
                    case measure => simp [intOf]
      · as_aux_lemma =>
          simp only [Int.reducePow] at hAb ⊢
          have c2 := HR.out.c2
          by_cases hin : 4 < d.length
          · have HCi := hide (HPre.out 4 hin)
            have HV := HD.out _ (List.getElem_mem hin)
            have HAc := hide (take_acc hin)
            obtain ⟨cc, hcc⟩ : ∃ cc, d[4] = cc := ⟨_, rfl⟩
            rw [hcc] at HCi HV HAc
            obtain ⟨V, hV⟩ : ∃ V : Int, (cc.toNat : Int) = V := ⟨_, rfl⟩
            have v0 : 128 ≤ V ∧ V < 256 := by have := cc.toNat_lt; omega
            have ht : V.tmod 128 = V - 128 := by rw [tmod_pos V (by omega)]; omega
            have HVV := hide hV
            clear HV hcc
            go_wp2_with (go_at_call 32; refine (byte_yes HR.out HCi.out).mono ?_; rintro e w1 ⟨rfl, h1, h2⟩; have HR1 := hide h1; have HG1 := hide (g_more HG.out h2); have d2 := h1.c2; clear h1 h2)
            go_roundw
            case rel => exact .inl ⟨5, by omega, by rw [HAc.out, HA.out, HVV.out, show (V % 128 : Int) = V - 128 by omega]; go_num, by go_num, by go_num, HR1, HG1⟩
            case measure => simp [intOf]
          · have hdl : d.length = 4 := by omega
            have HC' := hide (show s[p + 4]? = c by rw [← hdl]; exact HC.out)
            rcases HSt.out with h5 | rfl | ⟨c', rfl, hc'⟩
            · omega
            · have HEnd := hide (show false = true ∨ s.length < p + 4 + 1 from .inr (by have := List.getElem?_eq_none_iff.1 HC'.out; omega))
              go_wp2_with (first | (go_at_call 32; refine (byte_no HR.out HEnd.out).mono ?_; rintro e w1 ⟨rfl, h1, h2⟩; have HR1 := hide h1; have HG1 := hide (g_more HG.out h2); have d2 := h1.c2; clear h1 h2) | (go_at_call 29; refine (fresh_num w1 _).mono ?_; rintro e w2 ⟨rfl, h1, a2, m2, p2, h2, h3, h4⟩; have HR2 := hide (HR1.out.kept h1); have HG2 := hide (g_then HG1.out h1); clear d2; have d2 := HR2.out.c2; have hw := h2; have HM := hide (h3); have hm5 : (m2 : Int) ≤ 5 := (by omega); clear h1 h2 h3))
              go_roundw
              case rel => exact .inr ⟨_, _, _, _, hide rfl, rfl, by go_num, rfl, HR2, HG2⟩
              case measure => simp [intOf]
            · have hV' : ∃ V : Int, (c'.toNat : Int) = V := ⟨_, rfl⟩
              obtain ⟨V, hV⟩ := hV'
              have v0 : 0 ≤ V ∧ V < 128 := by omega
              have ht : V.tmod 128 = V := by rw [tmod_pos V v0.1]; omega
              have HVN := hide (valN_snoc c' hc' d HD.out).2
              rw [hdl, show accN d = A by rw [← HA.out, ← hdl, List.take_length], hV] at HVN
              simp only [Int.reducePow, Nat.reduceAdd] at HVN
              have HCi := HC'
              by_cases h64 : c'.toNat < 64
              · have v1 : V < 64 := by omega
                rw [if_pos h64] at HVN
                obtain ⟨N, hN⟩ : ∃ N : Int, valN (d ++ [c']) = N := ⟨_, rfl⟩
                have n0 : A + V * 268435456 = N := by rw [← hN]; have := HVN.out; omega
                have HN := hide hN
                cases hfit : fitsB N 32
                · have HF := hide hfit
                  have HNo := hide (show numR d (some c') = none by unfold numR; simp only []; rw [hN, hfit]; simp)
                  clear hN hfit HVN
                  go_wp2_with (first | (go_at_call 32; refine (byte_yes HR.out HCi.out).mono ?_; rintro e w1 ⟨rfl, h1, h2⟩; have HR1 := hide h1; have HG1 := hide (g_more HG.out h2); have d2 := h1.c2; clear h1 h2) | (go_at_call 29; refine (fresh_num w1 N).mono ?_; rintro e w2 ⟨rfl, h1, a2, m2, p2, h2, h3, h4⟩; have HR2 := hide (HR1.out.kept h1); have HG2 := hide (g_then HG1.out h1); clear d2; have d2 := HR2.out.c2; have hw := h2; have HM := hide (h3); have hm5 : (m2 : Int) ≤ 5 := (by omega); clear h1 h2 h3) | (go_at_call 48; refine (rfits_any N 32 _).mono ?_; rw [HF.out]; rintro e w' ⟨rfl, hw'⟩; replace hw' := hw'.symm; subst hw'))
                  go_roundw
                  case rel => exact .inr ⟨_, _, _, _, HNo, rfl, by go_num, rfl, HR2, HG2⟩
                  case measure => simp [intOf]
                · have HF := hide hfit
                  by_cases hlen' : (numL N).length = 5
                  · have HYes := hide (show numR d (some c') = some N by unfold numR; simp only []; rw [hN, hfit, hdl, hlen', if_pos ⟨hc', by omega, rfl, rfl⟩])
                    clear hN hfit HVN
                    go_wp2_with (first | (go_at_call 32; refine (byte_yes HR.out HCi.out).mono ?_; rintro e w1 ⟨rfl, h1, h2⟩; have HR1 := hide h1; have HG1 := hide (g_more HG.out h2); have d2 := h1.c2; clear h1 h2) | ((go_at_call 29; refine (fresh_num w1 N).mono ?_; rintro e w2 ⟨rfl, h1, a2, m2, p2, h2, h3, h4⟩; have HR2 := hide (HR1.out.kept h1); have HG2 := hide (g_then HG1.out h1); clear d2; have d2 := HR2.out.c2; have hw := h2; have HM := hide (h3); have hm5 : (m2 : Int) ≤ 5 := (by omega); clear h1 h2 h3); obtain rfl : m2 = 5 := (HM.out HF.out).trans hlen') | (go_at_call 48; refine (rfits_any N 32 _).mono ?_; rw [HF.out]; rintro e w' ⟨rfl, hw'⟩; replace hw' := hw'.symm; subst hw'))
                    go_ret
                    exact numE_yes HYes.out rfl (by rw [hdl]; exact HR2.out) HG2.out
                  · have HNo := hide (show numR d (some c') = none by unfold numR; simp only []; rw [hN, hdl, if_neg (fun h => hlen' h.2.2.2)])
                    clear hN hfit HVN
                    go_wp2_with (first | (go_at_call 32; refine (byte_yes HR.out HCi.out).mono ?_; rintro e w1 ⟨rfl, h1, h2⟩; have HR1 := hide h1; have HG1 := hide (g_more HG.out h2); have d2 := h1.c2; clear h1 h2) | ((go_at_call 29; refine (fresh_num w1 N).mono ?_; rintro e w2 ⟨rfl, h1, a2, m2, p2, h2, h3, h4⟩; have HR2 := hide (HR1.out.kept h1); have HG2 := hide (g_then HG1.out h1); clear d2; have d2 := HR2.out.c2; have hw := h2; have HM := hide (h3); have hm5 : (m2 : Int) ≤ 5 := (by omega); clear h1 h2 h3); have hne : ((m2 : Int) == 5) = false := (by have := HM.out HF.out; simp; omega)) | (go_at_call 48; refine (rfits_any N 32 _).mono ?_; rw [HF.out]; rintro e w' ⟨rfl, hw'⟩; replace hw' := hw'.symm; subst hw'))
                    go_roundw
                    case rel => exact .inr ⟨_, _, _, _, HNo, rfl, by go_num, rfl, HR2, HG2⟩
                    case measure => simp [intOf]
              · have v1 : ¬ V < 64 := by omega
                rw [if_neg h64] at HVN
                obtain ⟨N, hN⟩ : ∃ N : Int, valN (d ++ [c']) = N := ⟨_, rfl⟩
                have n0 : A + V * 268435456 - 34359738368 = N := by rw [← hN]; have := HVN.out; omega
                have HN := hide hN
                cases hfit : fitsB N 32
                · have HF := hide hfit
                  have HNo := hide (show numR d (some c') = none by unfold numR; simp only []; rw [hN, hfit]; simp)
                  clear hN hfit HVN
                  go_wp2_with (first | (go_at_call 32; refine (byte_yes HR.out HCi.out).mono ?_; rintro e w1 ⟨rfl, h1, h2⟩; have HR1 := hide h1; have HG1 := hide (g_more HG.out h2); have d2 := h1.c2; clear h1 h2) | (go_at_call 29; refine (fresh_num w1 N).mono ?_; rintro e w2 ⟨rfl, h1, a2, m2, p2, h2, h3, h4⟩; have HR2 := hide (HR1.out.kept h1); have HG2 := hide (g_then HG1.out h1); clear d2; have d2 := HR2.out.c2; have hw := h2; have HM := hide (h3); have hm5 : (m2 : Int) ≤ 5 := (by omega); clear h1 h2 h3) | (go_at_call 48; refine (rfits_any N 32 _).mono ?_; rw [HF.out]; rintro e w' ⟨rfl, hw'⟩; replace hw' := hw'.symm; subst hw'))
                  go_roundw
                  case rel => exact .inr ⟨_, _, _, _, HNo, rfl, by go_num, rfl, HR2, HG2⟩
                  case measure => simp [intOf]
                · have HF := hide hfit
                  by_cases hlen' : (numL N).length = 5
                  · have HYes := hide (show numR d (some c') = some N by unfold numR; simp only []; rw [hN, hfit, hdl, hlen', if_pos ⟨hc', by omega, rfl, rfl⟩])
                    clear hN hfit HVN
                    go_wp2_with (first | (go_at_call 32; refine (byte_yes HR.out HCi.out).mono ?_; rintro e w1 ⟨rfl, h1, h2⟩; have HR1 := hide h1; have HG1 := hide (g_more HG.out h2); have d2 := h1.c2; clear h1 h2) | ((go_at_call 29; refine (fresh_num w1 N).mono ?_; rintro e w2 ⟨rfl, h1, a2, m2, p2, h2, h3, h4⟩; have HR2 := hide (HR1.out.kept h1); have HG2 := hide (g_then HG1.out h1); clear d2; have d2 := HR2.out.c2; have hw := h2; have HM := hide (h3); have hm5 : (m2 : Int) ≤ 5 := (by omega); clear h1 h2 h3); obtain rfl : m2 = 5 := (HM.out HF.out).trans hlen') | (go_at_call 48; refine (rfits_any N 32 _).mono ?_; rw [HF.out]; rintro e w' ⟨rfl, hw'⟩; replace hw' := hw'.symm; subst hw'))
                    go_ret
                    exact numE_yes HYes.out rfl (by rw [hdl]; exact HR2.out) HG2.out
                  · have HNo := hide (show numR d (some c') = none by unfold numR; simp only []; rw [hN, hdl, if_neg (fun h => hlen' h.2.2.2)])
                    clear hN hfit HVN
                    go_wp2_with (first | (go_at_call 32; refine (byte_yes HR.out HCi.out).mono ?_; rintro e w1 ⟨rfl, h1, h2⟩; have HR1 := hide h1; have HG1 := hide (g_more HG.out h2); have d2 := h1.c2; clear h1 h2) | ((go_at_call 29; refine (fresh_num w1 N).mono ?_; rintro e w2 ⟨rfl, h1, a2, m2, p2, h2, h3, h4⟩; have HR2 := hide (HR1.out.kept h1); have HG2 := hide (g_then HG1.out h1); clear d2; have d2 := HR2.out.c2; have hw := h2; have HM := hide (h3); have hm5 : (m2 : Int) ≤ 5 := (by omega); clear h1 h2 h3); have hne : ((m2 : Int) == 5) = false := (by have := HM.out HF.out; simp; omega)) | (go_at_call 48; refine (rfits_any N 32 _).mono ?_; rw [HF.out]; rintro e w' ⟨rfl, hw'⟩; replace hw' := hw'.symm; subst hw'))
                    go_roundw
                    case rel => exact .inr ⟨_, _, _, _, HNo, rfl, by go_num, rfl, HR2, HG2⟩
                    case measure => simp [intOf]
      · have HNo := hide (show numR d c = none by
          unfold numR
          split
          · rw [if_neg (by omega)]
          · rfl)
        as_aux_lemma => (simp only [Int.reducePow] at hAb ⊢; (have c1 := HR.out.c1; have c2 := HR.out.c2; have hf := fun k => free_at (k := k) HR.out.head; have HB := hide (back_at HR.out HP.out HG.out); go_wp2; go_ret; exact numE_no HNo.out rfl HB.out))
    · as_aux_lemma => (have c1 := HR.out.c1; have c2 := HR.out.c2; have hf := fun k => free_at (k := k) HR.out.head; have HB := hide (back_at HR.out HP.out HG.out); go_wp2; go_ret; exact numE_no HNo.out rfl HB.out)
end Go.Proofs.Ytolfhkcfepkfdaa.Ri
