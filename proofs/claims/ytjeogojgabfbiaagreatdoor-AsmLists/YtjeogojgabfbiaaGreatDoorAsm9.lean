/-
  What the document's own index, number and register do.
-/
import Derived.Test.YtjeogojgabfbiaaGreatDoorAsm8
namespace Go.Proofs.YtjeogojgabfbiaaGreatDoor.Asm
open Go.RowKit Go.Proofs.YtjeogojgabfbiaaGreatDoor.Bits Go.Proofs.YtjeogojgabfbiaaGreatDoor.Gw Go.Proofs.YtjeogojgabfbiaaGreatDoor.Risc Go.Proofs.YtjeogojgabfbiaaGreatDoor.Tx
set_option linter.unusedVariables false
set_option linter.unusedSimpArgs false
set_option maxRecDepth 100000

def idxN : List (List UInt8) → List UInt8 → Option Nat
  | [], _ => none
  | x :: l, s => if (x == s) = true then some 0 else (idxN l s).map (· + 1)
def idxI (l : List (List UInt8)) (s : List UInt8) : Int := match idxN l s with | some k => (k : Int) | none => -1
def Iv (l : List (List UInt8)) (s : List UInt8) (i : Nat) : Prop := idxN l s = (idxN (l.drop i) s).map (· + i)
theorem Iv.zero (l : List (List UInt8)) (s : List UInt8) : Iv l s 0 := by
  unfold Iv
  cases h : idxN l s <;> simp [h]
theorem Iv.succ {l : List (List UInt8)} {s : List UInt8} {i : Nat} (h : Iv l s i) (hi : i < l.length) (hp : (l[i] == s) = false) : Iv l s (i + 1) := by
  unfold Iv at h ⊢
  rw [h, List.drop_eq_getElem_cons hi, idxN, if_neg (by rw [hp]; decide)]
  cases idxN (l.drop (i + 1)) s with
  | none => rfl
  | some k => simp only [Option.map_some]; congr 1; omega
theorem Iv.here {l : List (List UInt8)} {s : List UInt8} {i : Nat} (h : Iv l s i) (hi : i < l.length) (hp : (l[i] == s) = true) : idxI l s = i := by
  unfold Iv at h
  rw [List.drop_eq_getElem_cons hi, idxN, if_pos hp] at h
  simp [idxI, h]
theorem Iv.no {l : List (List UInt8)} {s : List UInt8} (h : Iv l s l.length) : idxI l s = -1 := by
  unfold Iv at h
  simp [idxN] at h
  simp [idxI, h]
theorem test_bs (x s : List UInt8) : ((bs x).toList == (bs s).toList) = (x == s) := by rw [bs_list, bs_list]
set_option maxHeartbeats 1000000 in
theorem index_any (l : List (List UInt8)) (s : List UInt8) (n b : Nat) (hl : l.length = n) (hn : n ≤ 1000) (w : World) (hc : ∀ k : Nat, ∀ h : k < l.length, w.cell? ⟨b, k, none⟩ = some (.string (bs l[k]))) :
    Calls Tryz.prog 55 #[.slice (some ⟨b, 0, none⟩) n n, .string (bs s)] w fun e w' => e = .returned (.int .i64 (idxI l s)) ∧ w' = w := by
  have HC := hide hc
  have HL := hide hl
  clear hc hl
  go_enter Tryz.func55, Tryz.ntmps55
  go_wp2
  go_loop [5] (fun j => ∃ i : Nat, j = .int .i64 i ∧ i ≤ n ∧ Iv l s i) (fun j => n - (intOf j).toNat)
  case atStart => exact ⟨0, rfl, Nat.zero_le _, Iv.zero l s⟩
  case round =>
    obtain ⟨i, rfl, hi, hv⟩ := hrel
    have HV := hide hv
    clear hv
    by_cases hlt : i < n
    · have i1 : (i : Int) < (n : Int) := by omega
      have i0 : (0 : Int) ≤ (i : Int) := by omega
      have hi' : i < l.length := by rw [HL.out]; exact hlt
      have c := HC.out i hi'
      have ht := test_bs l[i] s
      cases hp : (l[i] == s)
      · have HS := hide (HV.out.succ hi' hp)
        rw [hp] at ht
        clear hp
        generalize l[i] = x at c ht
        go_wp2
        go_round
        case rel => exact ⟨i + 1, by go_num, by omega, HS.out⟩
        case measure => simp [intOf]; omega
      · have HS := hide (HV.out.here hi' hp)
        rw [hp] at ht
        clear hp
        generalize l[i] = x at c ht
        go_wp2
        go_ret
        exact ⟨ret_int HS.out.symm, rfl⟩
    · have i1 : ¬ (i : Int) < (n : Int) := by omega
      obtain rfl : i = n := by omega
      have HS := HV.out
      rw [← HL.out] at HS
      have HS := hide (Iv.no HS)
      go_wp2
      go_ret
      exact ⟨ret_int HS.out.symm, rfl⟩
theorem val_lt : ∀ (l : List UInt8) (n : Nat), l.all isD = true → l.foldl (fun n c => 10 * n + (c.toNat - 48)) n < (n + 1) * 10 ^ l.length
  | [], n, _ => by simp
  | c :: l, n, h => by
    simp only [List.all_cons, Bool.and_eq_true] at h
    have hc : c.toNat ≤ 57 := by have := h.1; simp [isD] at this; exact this.2
    have := val_lt l (10 * n + (c.toNat - 48)) h.2
    simp only [List.foldl_cons, List.length_cons, Nat.pow_succ]
    refine Nat.lt_of_lt_of_le this ?_
    have e : (n + 1) * (10 ^ l.length * 10) = (10 * (n + 1)) * 10 ^ l.length := by rw [Nat.mul_comm (10 ^ l.length) 10, ← Nat.mul_assoc, Nat.mul_comm (n + 1) 10]
    rw [e]
    exact Nat.mul_le_mul_right _ (by omega)
theorem valL_lt {l : List UInt8} (h : l.all isD = true) (h9 : l.length ≤ 9) : valL l < 1000000000 := by
  have := val_lt l 0 h
  simp at this
  exact Nat.lt_of_lt_of_le this (Nat.pow_le_pow_right (n := 10) (by decide) h9)
theorem take_snoc {t : List UInt8} {k : Nat} (h : k < t.length) : t.take (k + 1) = t.take k ++ [t[k]] := List.take_succ_eq_append_getElem h
theorem bs_get (t : List UInt8) (k : Nat) (h : k < (bs t).size) : (bs t)[k]'h = t[k]'h := rfl
set_option maxHeartbeats 2000000 in
theorem number_neg (s t : List UInt8) (hs : s.length ≤ 1000000) (hd : digs s = t) (l3 : t.length ≤ s.length) (hn : negB s = true) (h0 : 1 ≤ s.length) (hb : ∀ h, ((bs s)[0]'h).toNat = 45) (hx : (bs s).extract 1 s.length = bs t) (w : World) :
    Calls Tryz.prog 29 #[.string (bs s)] w fun e w' => e = .returned (.tuple #[.int .i64 (numV s), .bool (numB s)]) ∧ w.grownBy w' none := by
  have l1 : (bs s).size = s.length := rfl
  have l2 : (bs t).size = t.length := rfl
  have z1 : (0 : Int) < (s.length : Int) := by omega
  have z2 : (s.length : Int) ≤ 1000001 := by omega
  have z3 : (t.length : Int) ≤ 1000001 := by omega
  by_cases hA : t.length < 1 ∨ 9 < t.length
  · have e1 : numA s = false := by
      simp only [numA, hd, Bool.and_eq_false_iff, decide_eq_false_iff_not]
      omega
    have HR : Hid (numV s = 0 ∧ numB s = false) := hide ⟨by simp [numV, e1], by simp [numB, e1]⟩
    clear e1
    rcases (show t.length < 1 ∨ (¬ t.length < 1 ∧ 9 < t.length) by omega) with q | ⟨q, r⟩
    · have q1 : (t.length : Int) < 1 := by omega
      go_enter Tryz.func29, Tryz.ntmps29
      go_wp2
      go_ret2
      exact ⟨by rw [HR.out.1, HR.out.2]; rfl, World.grownBy.refl _ _⟩
    · have q1 : ¬ (t.length : Int) < 1 := by omega
      have r1 : (9 : Int) < (t.length : Int) := by omega
      go_enter Tryz.func29, Tryz.ntmps29
      go_wp2
      go_ret2
      exact ⟨by rw [HR.out.1, HR.out.2]; rfl, World.grownBy.refl _ _⟩
  · have q1 : ¬ (t.length : Int) < 1 := by omega
    have r1 : ¬ (9 : Int) < (t.length : Int) := by omega
    have HD := hide hd
    have HN := hide hn
    clear hd hn
    go_enter Tryz.func29, Tryz.ntmps29
    go_wp2
    go_loopw [6, 7] (fun n j wr => ∃ k : Nat, j = .int .i64 k ∧ k ≤ t.length ∧ n = .int .i64 (valL (t.take k)) ∧ (t.take k).all isD = true ∧ wr = w) (fun _ j _ => t.length - (intOf j).toNat)
    case atStart => exact ⟨0, rfl, Nat.zero_le _, rfl, rfl, rfl⟩
    case round =>
      obtain ⟨k, rfl, hk, rfl, hall, rfl⟩ := hrel
      have hv := valL_lt hall (by simp; omega)
      have v1 : (valL (t.take k) : Int) < 1000000000 := by omega
      have v0 : (0 : Int) ≤ (valL (t.take k) : Int) := by omega
      by_cases hlt : k < t.length
      · have k1 : (k : Int) < (t.length : Int) := by omega
        have k0 : (0 : Int) ≤ (k : Int) := by omega
        obtain ⟨c, hc⟩ : ∃ c, t[k] = c := ⟨_, rfl⟩
        have hg : ∀ h, (bs t)[k]'h = c := fun h => by rw [bs_get]; exact hc
        have ht := take_snoc hlt
        rw [hc] at ht
        have HV := hide (valL_snoc (t.take k) c)
        rw [← ht] at HV
        have HA : Hid ((t.take (k + 1)).all isD = isD c) := hide (by rw [ht, List.all_append, hall]; simp)
        have ha : t.all isD = true → isD c = true := fun h => List.all_eq_true.1 h c (hc ▸ List.getElem_mem hlt)
        generalize valL (t.take k) = V at HV v0 v1 ⊢
        by_cases c1 : c.toNat < 48
        · have d1 : (c.toNat : Int) < 48 := by omega
          have e1 : numA s = false := by
            have : ¬ t.all isD = true := fun h => by have := ha h; simp [isD] at this; omega
            simp only [numA, HD.out, Bool.and_eq_false_iff]
            exact .inr (by simpa using this)
          have HR : Hid (numV s = 0 ∧ numB s = false) := hide ⟨by simp [numV, e1], by simp [numB, e1]⟩
          clear e1 ht hall ha hc
          go_wp2
          go_ret2
          exact ⟨by rw [HR.out.1, HR.out.2]; rfl, World.grownBy.refl _ _⟩
        · by_cases c2 : 57 < c.toNat
          · have d1 : ¬ (c.toNat : Int) < 48 := by omega
            have d2 : (57 : Int) < (c.toNat : Int) := by omega
            have e1 : numA s = false := by
              have : ¬ t.all isD = true := fun h => by have := ha h; simp [isD] at this; omega
              simp only [numA, HD.out, Bool.and_eq_false_iff]
              exact .inr (by simpa using this)
            have HR : Hid (numV s = 0 ∧ numB s = false) := hide ⟨by simp [numV, e1], by simp [numB, e1]⟩
            clear e1 ht hall ha hc
            go_wp2
            go_ret2
            exact ⟨by rw [HR.out.1, HR.out.2]; rfl, World.grownBy.refl _ _⟩
          · have d1 : ¬ (c.toNat : Int) < 48 := by omega
            have d2 : ¬ (57 : Int) < (c.toNat : Int) := by omega
            have HC : Hid (isD c = true) := hide (by simp [isD]; omega)
            obtain ⟨D, hD⟩ : ∃ D : Nat, D = c.toNat - 48 := ⟨_, rfl⟩
            have hw : IntKind.u8.wrap ((c.toNat : Int) - 48) = (D : Int) := by
              show ((c.toNat : Int) - 48) % 256 = _
              omega
            have D9 : (D : Int) < 10 := by omega
            rw [← hD] at HV
            clear ht hall ha hc hD
            go_wp2
            exact ⟨⟨k + 1, by go_num, by omega, by rw [HV.out]; go_num, by rw [HA.out, HC.out], trivial⟩, by simp [intOf]; omega⟩
      · obtain rfl : k = t.length := by omega
        rw [List.take_length] at hall hv v0 v1 ⊢
        have e1 : numA s = true := by
          simp only [numA, HD.out, hall, Bool.and_true, Bool.and_eq_true, decide_eq_true_eq]
          omega
        have e2 : numI s = -(valL t : Int) := by rw [numI, if_pos (by rw [HN.out]), HD.out]
        have HR : Hid (numV s = -(valL t : Int) ∧ numB s = (decI (-(valL t : Int)) == s)) := hide ⟨by rw [numV, if_pos e1, e2], by rw [numB, e1, e2]; rfl⟩
        have HP := hide (dec_any (-(valL t : Int)) (by omega) (by omega))
        have hq := test_bs (decI (-(valL t : Int))) s
        clear e1 e2 hall hv
        generalize valL t = V at HR HP hq v0 v1 ⊢
        have hwn : IntKind.i64.wrap (-(V : Int)) = -(V : Int) := IntWalk.i64_in _ ⟨by omega, by omega⟩
        generalize decI (-(V : Int)) = T at HR HP hq
        go_wp2_with (go_at_call 22; refine (HP.out _).mono ?_; rintro e w1 ⟨rfl, hg⟩; have HG := hide hg; clear hg)
        go_ret2
        exact ⟨by rw [HR.out.1, HR.out.2]; rfl, HG.out⟩
set_option maxHeartbeats 2000000 in
theorem number_pos (s : List UInt8) (hs : s.length ≤ 1000000) (hd : digs s = s) (hn : negB s = false) (h0 : 1 ≤ s.length) (c0 : UInt8) (hb : ∀ h, ((bs s)[0]'h) = c0) (hb1 : (c0 == 45) = false) (w : World) :
    Calls Tryz.prog 29 #[.string (bs s)] w fun e w' => e = .returned (.tuple #[.int .i64 (numV s), .bool (numB s)]) ∧ w.grownBy w' none := by
  have hb2 : ((c0.toNat : Int) == 45) = false := by
    have : c0 ≠ 45 := by simpa using hb1
    have : c0.toNat ≠ 45 := fun h => this (UInt8.toNat_inj.1 (by rw [h]; rfl))
    simp; omega
  clear hb1
  have l1 : (bs s).size = s.length := rfl
  have z1 : (0 : Int) < (s.length : Int) := by omega
  have z2 : (s.length : Int) ≤ 1000001 := by omega
  by_cases hA : s.length < 1 ∨ 9 < s.length
  · have e1 : numA s = false := by
      simp only [numA, hd, Bool.and_eq_false_iff, decide_eq_false_iff_not]
      omega
    have HR : Hid (numV s = 0 ∧ numB s = false) := hide ⟨by simp [numV, e1], by simp [numB, e1]⟩
    clear e1
    rcases (show s.length < 1 ∨ (¬ s.length < 1 ∧ 9 < s.length) by omega) with q | ⟨q, r⟩
    · omega
    · have q1 : ¬ (s.length : Int) < 1 := by omega
      have r1 : (9 : Int) < (s.length : Int) := by omega
      go_enter Tryz.func29, Tryz.ntmps29
      go_wp2
      go_ret2
      exact ⟨by rw [HR.out.1, HR.out.2]; rfl, World.grownBy.refl _ _⟩
  · have q1 : ¬ (s.length : Int) < 1 := by omega
    have r1 : ¬ (9 : Int) < (s.length : Int) := by omega
    have HD := hide hd
    have HN := hide hn
    clear hd hn
    go_enter Tryz.func29, Tryz.ntmps29
    go_wp2
    go_loopw [6, 7] (fun n j wr => ∃ k : Nat, j = .int .i64 k ∧ k ≤ s.length ∧ n = .int .i64 (valL (s.take k)) ∧ (s.take k).all isD = true ∧ wr = w) (fun _ j _ => s.length - (intOf j).toNat)
    case atStart => exact ⟨0, rfl, Nat.zero_le _, rfl, rfl, rfl⟩
    case round =>
      obtain ⟨k, rfl, hk, rfl, hall, rfl⟩ := hrel
      have hv := valL_lt hall (by simp; omega)
      have v1 : (valL (s.take k) : Int) < 1000000000 := by omega
      have v0 : (0 : Int) ≤ (valL (s.take k) : Int) := by omega
      by_cases hlt : k < s.length
      · have k1 : (k : Int) < (s.length : Int) := by omega
        have k0 : (0 : Int) ≤ (k : Int) := by omega
        obtain ⟨c, hc⟩ : ∃ c, s[k] = c := ⟨_, rfl⟩
        have hg : ∀ h, (bs s)[k]'h = c := fun h => by rw [bs_get]; exact hc
        have ht := take_snoc hlt
        rw [hc] at ht
        have HV := hide (valL_snoc (s.take k) c)
        rw [← ht] at HV
        have HA : Hid ((s.take (k + 1)).all isD = isD c) := hide (by rw [ht, List.all_append, hall]; simp)
        have ha : s.all isD = true → isD c = true := fun h => List.all_eq_true.1 h c (hc ▸ List.getElem_mem hlt)
        generalize valL (s.take k) = V at HV v0 v1 ⊢
        by_cases c1 : c.toNat < 48
        · have d1 : (c.toNat : Int) < 48 := by omega
          have e1 : numA s = false := by
            have : ¬ s.all isD = true := fun h => by have := ha h; simp [isD] at this; omega
            simp only [numA, HD.out, Bool.and_eq_false_iff]
            exact .inr (by simpa using this)
          have HR : Hid (numV s = 0 ∧ numB s = false) := hide ⟨by simp [numV, e1], by simp [numB, e1]⟩
          clear e1 ht hall ha hc
          go_wp2
          go_ret2
          exact ⟨by rw [HR.out.1, HR.out.2]; rfl, World.grownBy.refl _ _⟩
        · by_cases c2 : 57 < c.toNat
          · have d1 : ¬ (c.toNat : Int) < 48 := by omega
            have d2 : (57 : Int) < (c.toNat : Int) := by omega
            have e1 : numA s = false := by
              have : ¬ s.all isD = true := fun h => by have := ha h; simp [isD] at this; omega
              simp only [numA, HD.out, Bool.and_eq_false_iff]
              exact .inr (by simpa using this)
            have HR : Hid (numV s = 0 ∧ numB s = false) := hide ⟨by simp [numV, e1], by simp [numB, e1]⟩
            clear e1 ht hall ha hc
            go_wp2
            go_ret2
            exact ⟨by rw [HR.out.1, HR.out.2]; rfl, World.grownBy.refl _ _⟩
          · have d1 : ¬ (c.toNat : Int) < 48 := by omega
            have d2 : ¬ (57 : Int) < (c.toNat : Int) := by omega
            have HC : Hid (isD c = true) := hide (by simp [isD]; omega)
            obtain ⟨D, hD⟩ : ∃ D : Nat, D = c.toNat - 48 := ⟨_, rfl⟩
            have hw : IntKind.u8.wrap ((c.toNat : Int) - 48) = (D : Int) := by
              show ((c.toNat : Int) - 48) % 256 = _
              omega
            have D9 : (D : Int) < 10 := by omega
            rw [← hD] at HV
            clear ht hall ha hc hD
            go_wp2
            exact ⟨⟨k + 1, by go_num, by omega, by rw [HV.out]; go_num, by rw [HA.out, HC.out], trivial⟩, by simp [intOf]; omega⟩
      · obtain rfl : k = s.length := by omega
        rw [List.take_length] at hall hv v0 v1 ⊢
        have e1 : numA s = true := by
          simp only [numA, HD.out, hall, Bool.and_true, Bool.and_eq_true, decide_eq_true_eq]
          omega
        have e2 : numI s = (valL s : Int) := by rw [numI, if_neg (by rw [HN.out]; decide), HD.out]
        have HR : Hid (numV s = (valL s : Int) ∧ numB s = (decI ((valL s : Int)) == s)) := hide ⟨by rw [numV, if_pos e1, e2], by rw [numB, e1, e2]; rfl⟩
        have HP := hide (dec_any ((valL s : Int)) (by omega) (by omega))
        have hq := test_bs (decI ((valL s : Int))) s
        clear e1 e2 hall hv
        generalize valL s = V at HR HP hq v0 v1 ⊢
        have hwn : IntKind.i64.wrap (-(V : Int)) = -(V : Int) := IntWalk.i64_in _ ⟨by omega, by omega⟩
        generalize decI ((V : Int)) = T at HR HP hq
        go_wp2_with (go_at_call 22; refine (HP.out _).mono ?_; rintro e w1 ⟨rfl, hg⟩; have HG := hide hg; clear hg)
        go_ret2
        exact ⟨by rw [HR.out.1, HR.out.2]; rfl, HG.out⟩
set_option maxHeartbeats 1000000 in
theorem number_nil (w : World) :
    Calls Tryz.prog 29 #[.string (bs [])] w fun e w' => e = .returned (.tuple #[.int .i64 (numV []), .bool (numB [])]) ∧ w.grownBy w' none := by
  have HR : Hid (numV [] = 0 ∧ numB [] = false) := hide ⟨by decide, by decide⟩
  have l1 : (bs []).size = 0 := rfl
  go_enter Tryz.func29, Tryz.ntmps29
  go_wp2
  go_ret2
  exact ⟨by rw [HR.out.1, HR.out.2]; rfl, World.grownBy.refl _ _⟩
theorem number_any (s : List UInt8) (hs : s.length ≤ 1000000) (w : World) :
    Calls Tryz.prog 29 #[.string (bs s)] w fun e w' => e = .returned (.tuple #[.int .i64 (numV s), .bool (numB s)]) ∧ w.grownBy w' none := by
  cases s with
  | nil => exact number_nil w
  | cons c l =>
    by_cases h : c = 45
    · subst h
      exact number_neg (45 :: l) l hs rfl (by simp) rfl (by simp) (fun _ => rfl) (by rw [bs_ext]; simp) w
    · have hn : negB (c :: l) = false := by simp [negB, h]
      exact number_pos (c :: l) hs (by rw [digs, hn]; rfl) hn (by simp) c (fun _ => rfl) (by simpa using h) w
set_option maxHeartbeats 1000000 in
theorem register_any (s : List UInt8) (hs : s.length ≤ 1000000) (w : World) :
    Calls Tryz.prog 28 #[.string (bs s)] w fun e w' => e = .returned (.tuple #[.int .i64 (rgV s), .bool (rgK s)]) ∧ w.grownBy w' none := by
  have l1 : (bs s).size = s.length := rfl
  have z2 : (s.length : Int) ≤ 1000000 := by omega
  have z0 : (0 : Int) ≤ (s.length : Int) := by omega
  by_cases h2 : s.length < 2
  · have h3 : (s.length : Int) < 2 := by omega
    have e1 : rgB s = false := by
      have : ¬ 2 ≤ s.length := by omega
      simp [rgB, this]
    have HR : Hid (rgV s = 0 ∧ rgK s = false) := hide ⟨by simp [rgV, e1], by simp [rgK, e1]⟩
    clear e1
    go_enter Tryz.func28, Tryz.ntmps28
    go_wp2
    go_ret2
    exact ⟨by rw [HR.out.1, HR.out.2]; rfl, World.grownBy.refl _ _⟩
  · have h3 : ¬ (s.length : Int) < 2 := by omega
    cases s with
    | nil => simp at h2
    | cons c t =>
      have hb : ∀ h, ((bs (c :: t))[0]'h) = c := fun _ => rfl
      have hx : (bs (c :: t)).extract 1 (c :: t).length = bs t := by rw [bs_ext]; simp
      have e0 : (c :: t).tail = t := rfl
      have hl : 2 ≤ (c :: t).length := by omega
      have hcc : rgB (c :: t) = (c == 82) := by simp only [rgB, hl, decide_true, Bool.true_and, List.head?_cons]; rfl
      have NM := hide (number_any t (by simp at hs; omega))
      by_cases hc : c = 82
      · have hc1 : ((c.toNat : Int) == 82) = true := by rw [hc]; rfl
        have e1 : rgB (c :: t) = true := by rw [hcc, hc]; rfl
        have HR : Hid (rgV (c :: t) = numV t ∧ rgK (c :: t) = (numB t && (decide (0 ≤ numV t) && decide (numV t ≤ 15)))) := hide ⟨by rw [rgV, if_pos e1, e0], by rw [rgK, e1, e0]; rfl⟩
        clear e1 hcc e0 hc
        generalize numV t = n at HR NM
        generalize numB t = ok at HR NM
        generalize (c :: t) = s at *
        cases ok
        · go_enter Tryz.func28, Tryz.ntmps28
          go_wp2_with (go_at_call 29; refine (NM.out _).mono ?_; rintro e w1 ⟨rfl, hg⟩; have HG := hide hg; clear hg)
          go_ret2
          exact ⟨by rw [HR.out.1, HR.out.2]; rfl, HG.out⟩
        · by_cases n0 : 0 ≤ n
          · by_cases n1 : n ≤ 15
            · go_enter Tryz.func28, Tryz.ntmps28
              go_wp2_with (go_at_call 29; refine (NM.out _).mono ?_; rintro e w1 ⟨rfl, hg⟩; have HG := hide hg; clear hg)
              go_ret2
              exact ⟨by rw [HR.out.1, HR.out.2]; simp [n0, n1], HG.out⟩
            · go_enter Tryz.func28, Tryz.ntmps28
              go_wp2_with (go_at_call 29; refine (NM.out _).mono ?_; rintro e w1 ⟨rfl, hg⟩; have HG := hide hg; clear hg)
              go_ret2
              exact ⟨by rw [HR.out.1, HR.out.2]; simp; omega, HG.out⟩
          · go_enter Tryz.func28, Tryz.ntmps28
            go_wp2_with (go_at_call 29; refine (NM.out _).mono ?_; rintro e w1 ⟨rfl, hg⟩; have HG := hide hg; clear hg)
            go_ret2
            exact ⟨by rw [HR.out.1, HR.out.2]; simp; omega, HG.out⟩
      · have hc1 : ((c.toNat : Int) == 82) = false := by
          have : c.toNat ≠ 82 := fun h => hc (UInt8.toNat_inj.1 (by rw [h]; rfl))
          simp; omega
        have e1 : rgB (c :: t) = false := by rw [hcc]; simpa using hc
        have HR : Hid (rgV (c :: t) = 0 ∧ rgK (c :: t) = false) := hide ⟨by simp [rgV, e1], by simp [rgK, e1]⟩
        clear e1 hcc e0 hc
        generalize (c :: t) = s at *
        go_enter Tryz.func28, Tryz.ntmps28
        go_wp2
        go_ret2
        exact ⟨by rw [HR.out.1, HR.out.2]; rfl, World.grownBy.refl _ _⟩
end Go.Proofs.YtjeogojgabfbiaaGreatDoor.Asm
