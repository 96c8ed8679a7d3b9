/-
  A text's tokens, purely: places; what was written is read as it was.
-/
import Derived.Test.YthnkkcamfcmhmaaDoorLx4
import Derived.Test.YthnkkcamfcmhmaaDoorLr14
namespace Go.Proofs.YthnkkcamfcmhmaaDoor.Lx
open Go.Proofs.YthnkkcamfcmhmaaDoor.Tx
set_option linter.unusedVariables false
set_option linter.unusedSimpArgs false
set_option maxRecDepth 100000

/- Places moved. -/
def shT (b : Int) (t : Tk) : Tk := ⟨t.k, t.t, t.n, t.a + b⟩
def shR (b : Int) : Except Int (Tk × Nat) → Except Int (Tk × Nat)
  | .ok (t, len) => .ok (shT b t, len)
  | .error e => .error e
def shE (b : Int) : Except (Int × Int) (List Tk) → Except (Int × Int) (List Tk)
  | .ok ts => .ok (ts.map (shT b))
  | .error (p, e) => .error (p + b, e)
theorem numV_sh (lim v len : Nat) (k a b : Int) : numV lim v len k (a + b) = shR b (numV lim v len k a) := by
  unfold numV
  split <;> rfl
theorem numT_sh (t : List UInt8) (a b : Int) : numT t (a + b) = shR b (numT t a) := by
  unfold numT
  simp only [numV_sh]
  split
  · rfl
  split
  · rfl
  split
  · rfl
  split
  · rfl
  rfl
theorem oneT_sh (t : List UInt8) (a b : Int) : oneT t (a + b) = shR b (oneT t a) := by
  cases t with
  | nil => rfl
  | cons c r =>
    unfold oneT
    simp only [numT_sh]
    split
    · split
      · rfl
      split <;> rfl
    split
    · rfl
    split
    · split
      · rfl
      split <;> rfl
    split
    · rfl
    split <;> rfl
theorem shE_map (b : Int) (t : Tk) (o : Except (Int × Int) (List Tk)) : shE b (o.map (t :: ·)) = (shE b o).map (shT b t :: ·) := by
  cases o with
  | error p => rfl
  | ok ts => rfl
theorem lexV_sh (b : Nat) : ∀ (n : Nat) (x : List UInt8) (a : Nat), x.length ≤ n → lexV x (a + b) = shE b (lexV x a) := by
  intro n
  induction n with
  | zero =>
    intro x a hn
    have : x = [] := List.length_eq_zero_iff.1 (by omega)
    subst this
    rfl
  | succ n ih =>
    intro x a hn
    have hc : ((a + b + (skP x).1 : Nat) : Int) = ((a + (skP x).1 : Nat) : Int) + (b : Int) := by omega
    cases hb : (skP x).2
    · rw [lexV_bad hb, lexV_bad hb, hc]; rfl
    · by_cases hlt : (skP x).1 < x.length
      · have hs := oneT_sh (x.drop (skP x).1) ((a + (skP x).1 : Nat) : Int) b
        rw [← hc] at hs
        cases ho : oneT (x.drop (skP x).1) ((a + (skP x).1 : Nat) : Int) with
        | error e =>
          rw [ho] at hs
          rw [lexV_err hb hlt ho, lexV_err hb hlt hs, hc]; rfl
        | ok tl =>
          obtain ⟨t, len⟩ := tl
          rw [ho] at hs
          have hl := one_len ho
          rw [lexV_on hb hlt ho, lexV_on hb hlt hs, shE_map, show a + b + (skP x).1 + len = a + (skP x).1 + len + b by omega, ih _ _ (by rw [List.length_drop]; omega)]
      · rw [lexV_end hb hlt, lexV_end hb hlt]; rfl
/- Digits. -/
theorem hd_facts : ∀ r : Fin 16, dvN (hd r.1) = r.1 ∧ hexN (hd r.1) = true ∧ (letN (hd r.1) = true ∨ digN (hd r.1) = true) := by decide
theorem hd_is {r : Nat} (h : r < 16) : dvN (hd r) = r ∧ hexN (hd r) = true ∧ (letN (hd r) = true ∨ digN (hd r) = true) := hd_facts ⟨r, h⟩
theorem hx_facts : ∀ (k n : Nat), n < 16 ^ (k + 1) → valB 16 (hxF (k + 1) n) = n ∧ (hxF (k + 1) n).all hexN = true
  | 0, n, h => by
    have h' : n < 16 := by simpa using h
    obtain ⟨a, b, _⟩ := hd_is h'
    rw [hxF, if_pos h']
    exact ⟨by simp [valB, a], by simp [b]⟩
  | k + 1, n, h => by
    rw [hxF]
    split
    · rename_i h'
      obtain ⟨a, b, _⟩ := hd_is h'
      exact ⟨by simp [valB, a], by simp [b]⟩
    · obtain ⟨a, b, _⟩ := hd_is (show n % 16 < 16 by omega)
      obtain ⟨c, d⟩ := hx_facts k (n / 16) (by rw [Nat.pow_succ] at h; omega)
      exact ⟨by rw [valB_snoc, c, a]; omega, by simp [d, b]⟩
theorem hxN_facts {n : Nat} (h : n < 4294967296) : valB 16 (hxN n) = n ∧ (hxN n).all hexN = true := hx_facts 8 n (by show n < 68719476736; omega)
theorem tw_all {p : UInt8 → Bool} : ∀ {x : List UInt8}, x.all p = true → x.takeWhile p = x
  | [], _ => rfl
  | c :: r, h => by
    simp only [List.all_cons, Bool.and_eq_true] at h
    rw [List.takeWhile_cons, if_pos h.1, tw_all h.2]
theorem tw_end {p : UInt8 → Bool} {x : List UInt8} {d : UInt8} (h : x.all p = true) (hd : p d = false) (y : List UInt8) : (x ++ d :: y).takeWhile p = x := by rw [tw_more hd, tw_all h]
theorem isD_dig {c : UInt8} (h : isD c = true) : digN c = true ∧ hexN c = true ∧ dvN c = c.toNat - 48 := by
  simp only [isD, Bool.and_eq_true, decide_eq_true_eq] at h
  have e : digN c = true := by simp [digN, digI]; omega
  refine ⟨e, by simp [hexN, hexI, show digI c.toNat = true from e], ?_⟩
  rw [dvN, if_neg]
  simp [letN, ltI]
  omega
theorem dec_fold : ∀ (l : List UInt8) (n : Nat), l.all isD = true → l.foldl (fun n c => n * 10 + dvN c) n = l.foldl (fun n c => 10 * n + (c.toNat - 48)) n
  | [], _, _ => rfl
  | c :: l, n, h => by
    simp only [List.all_cons, Bool.and_eq_true] at h
    rw [List.foldl_cons, List.foldl_cons, (isD_dig h.1).2.2, Nat.mul_comm n 10]
    exact dec_fold l _ h.2
theorem all_to {p q : UInt8 → Bool} {l : List UInt8} (h : l.all p = true) (hq : ∀ c, p c = true → q c = true) : l.all q = true := List.all_eq_true.2 fun c hc => hq c (List.all_eq_true.1 h c hc)
theorem dec_back {n : Nat} (h : n < 2147483648) : valB 10 (decN n) = n ∧ (decN n).all digN = true ∧ (decN n).all hexN = true ∧ ∃ c r, decN n = c :: r ∧ digN c = true := by
  rw [decN_at (k := 9) (by decide) (by show n < 10000000000; omega)]
  obtain ⟨a, b, c, _⟩ := dec_facts 9 n (by show n < 10000000000; omega)
  have b' := b
  refine ⟨by rw [valB, dec_fold _ _ b]; exact a, all_to b (fun c h => (isD_dig h).1), all_to b (fun c h => (isD_dig h).2.1), ?_⟩
  generalize decF (9 + 1) n = l at b' c
  cases l with
  | nil => simp at c
  | cons u r =>
    simp only [List.all_cons, Bool.and_eq_true] at b'
    exact ⟨u, r, rfl, (isD_dig b'.1).1⟩
/- A token that stands alone. -/
def pl (t : Tk) (a : Int) : Tk := ⟨t.k, t.t, t.n, a⟩
theorem dig_let {c : UInt8} (h : digN c = true) : letN c = false := by
  simp only [digN, digI, Bool.and_eq_true, decide_eq_true_eq] at h
  simp [letN, ltI]
  omega
theorem oneT_num {c : UInt8} {r : List UInt8} {a : Int} (h : digN c = true) : oneT (c :: r) a = numT (c :: r) a := by
  unfold oneT
  simp only []
  rw [if_neg (by simp [dig_let h]), if_pos h]
theorem num_dec {n : Nat} (h : n < 2147483648) (a : Int) : oneT (decN n) a = .ok (⟨3, [], n, a⟩, (decN n).length) := by
  obtain ⟨h1, h2, h3, c, r, h4, h5⟩ := dec_back h
  have e : oneT (decN n) a = numT (decN n) a := by rw [h4]; exact oneT_num h5
  rw [e]
  unfold numT
  simp only []
  rw [tw_all h3, List.drop_length, h1, h2]
  simp [numV]
  rw [if_neg (by omega), if_neg (by omega)]
theorem num_hex {x : List UInt8} {c : UInt8} {r : List UInt8} (hx : x.all hexN = true) (hc : x = c :: r) (hd : digN c = true) (a : Int) : oneT (x ++ [72]) a = numV 4294967296 (valB 16 x) (x.length + 1) 3 a ∧ oneT (x ++ [88]) a = numV 256 (valB 16 x) (x.length + 1) 4 a := by
  have key : ∀ d : UInt8, oneT (x ++ [d]) a = numT (x ++ [d]) a := fun d => by rw [hc]; exact oneT_num hd
  constructor
  · rw [key]
    unfold numT
    simp only []
    rw [tw_end hx (by decide), List.drop_left, if_pos (by rfl)]
  · rw [key]
    unfold numT
    simp only []
    rw [tw_end hx (by decide), List.drop_left, if_neg (by decide), if_pos (by rfl)]
theorem hexT_facts {n : Nat} {al : Bool} (h : n < 4294967296) : valB 16 (hexT n al) = n ∧ (hexT n al).all hexN = true ∧ ∃ c r, hexT n al = c :: r ∧ digN c = true := by
  obtain ⟨h1, h2⟩ := hxN_facts h
  have v48 : valB 16 (48 :: hxN n) = valB 16 (hxN n) := by
    unfold valB
    rw [List.foldl_cons]
    rfl
  unfold hexT
  split
  · exact ⟨v48.trans h1, by rw [List.all_cons, h2]; decide, 48, _, rfl, by decide⟩
  · rename_i hn
    refine ⟨h1, h2, ?_⟩
    cases hx : hxN n with
    | nil => exact absurd hx (hxN_pos n)
    | cons c r =>
      refine ⟨c, r, rfl, ?_⟩
      rw [hx] at hn h2
      simp only [List.all_cons, Bool.and_eq_true] at h2
      have hl : letN c = false := by
        cases e : letN c
        · rfl
        · exact absurd (.inr e) hn
      have h3 := h2.1
      simp only [hexN, hexI, Bool.or_eq_true, Bool.and_eq_true, decide_eq_true_eq] at h3
      rcases h3 with h3 | h3
      · exact h3
      · simp [letN, ltI] at hl; omega
theorem oneT_word {s : List UInt8} {c : UInt8} {r : List UInt8} (hs : s = c :: r) (hc : letN c = true) (hr : s.all ldN = true) (a : Int) : oneT s a = if keyB s = true then .ok (⟨2, s, 0, a⟩, s.length) else if 24 < s.length then .error 2 else .ok (⟨1, s, 0, a⟩, s.length) := by
  have e := tw_all hr
  subst hs
  unfold oneT
  simp only []
  rw [if_pos hc, e]
theorem keys_word : ∀ s ∈ keys, ∃ c r, s = c :: r ∧ letN c = true ∧ s.all ldN = true := by
  have key : ∀ s ∈ keys, (s.head?.map letN = some true) ∧ s.all ldN = true := by decide
  intro s hs
  obtain ⟨h1, h2⟩ := key s hs
  cases s with
  | nil => simp at h1
  | cons c r => exact ⟨c, r, rfl, by simpa using h1, h2⟩
theorem signs_one : ∀ s ∈ signs, ∀ a, oneT s a = .ok (⟨6, s, 0, a⟩, s.length) := by
  intro s hs a
  simp only [signs, List.mem_cons, List.not_mem_nil, or_false] at hs
  rcases hs with rfl | rfl | rfl | rfl | rfl | rfl | rfl | rfl | rfl | rfl | rfl | rfl | rfl | rfl | rfl | rfl | rfl | rfl | rfl | rfl | rfl | rfl | rfl | rfl | rfl | rfl <;> rfl
theorem one_back {t : Tk} (h : goodT t = true) (a : Int) : oneT (oneS t) a = .ok (pl t a, (oneS t).length) := by
  obtain ⟨k, t, n, a0⟩ := t
  unfold goodT at h
  unfold oneS pl
  dsimp only at h ⊢
  split at h
  · rename_i e; subst e
    rw [if_neg (by decide), if_neg (by decide), if_neg (by decide)]
    simp only [nameB, Bool.and_eq_true, beq_iff_eq, Bool.not_eq_true'] at h
    obtain ⟨rfl, h1, h2⟩ := h
    have hl := wordB_len h1
    cases t with
    | nil => cases h1
    | cons c r =>
      rw [wordB_cons] at h1
      simp only [Bool.and_eq_true, decide_eq_true_eq] at h1
      rw [oneT_word rfl h1.2.1 (by rw [List.all_cons, h1.2.2]; simp [ldN, h1.2.1]), if_neg (by simp [h2]), if_neg (by omega)]
  split at h
  · rename_i e; subst e
    rw [if_neg (by decide), if_neg (by decide), if_neg (by decide)]
    simp only [Bool.and_eq_true, beq_iff_eq] at h
    obtain ⟨rfl, h1⟩ := h
    obtain ⟨c, r, h2, h3, h4⟩ := keys_word _ (has_mem h1)
    rw [oneT_word h2 h3 h4, if_pos h1]
  split at h
  · rename_i e; subst e
    simp only [Bool.and_eq_true, beq_iff_eq, decide_eq_true_eq] at h
    obtain ⟨rfl, h1, h2⟩ := h
    rw [if_pos rfl]
    split
    · rename_i hn
      obtain ⟨v, w, c, r, e, d⟩ := hexT_facts (n := (n + 4294967296).toNat) (al := true) (by omega)
      rw [(num_hex w e d a).1, v, numV, if_neg (by omega), if_pos (by omega), List.length_append]
      have : (((n + 4294967296).toNat : Nat) : Int) - 4294967296 = n := by omega
      rw [this]
      rfl
    · rename_i hn
      rw [num_dec (by omega)]
      have : ((n.toNat : Nat) : Int) = n := by omega
      rw [this]
  split at h
  · rename_i e; subst e
    simp only [Bool.and_eq_true, beq_iff_eq, decide_eq_true_eq] at h
    obtain ⟨rfl, h1, h2⟩ := h
    rw [if_neg (by decide), if_pos rfl]
    obtain ⟨v, w, c, r, e, d⟩ := hexT_facts (n := n.toNat) (al := false) (by omega)
    rw [(num_hex w e d a).2, v, numV, if_neg (by omega), if_neg (by omega), List.length_append]
    have : ((n.toNat : Nat) : Int) = n := by omega
    rw [this]
    rfl
  split at h
  · rename_i e; subst e
    rw [if_neg (by decide), if_neg (by decide), if_pos rfl]
    simp only [strB, Bool.and_eq_true, beq_iff_eq, decide_eq_true_eq] at h
    obtain ⟨rfl, h1, h2⟩ := h
    unfold oneT
    simp only []
    rw [if_neg (by decide), if_neg (by decide), if_pos trivial, tw_end h2 (by decide), List.drop_left, if_neg (by simp), if_neg (by omega)]
    simp
  split at h
  · rename_i e; subst e
    rw [if_neg (by decide), if_neg (by decide), if_neg (by decide)]
    simp only [Bool.and_eq_true, beq_iff_eq] at h
    obtain ⟨rfl, h1⟩ := h
    exact signs_one _ (has_mem h1) a
  · cases h
theorem first_is {t : Tk} (h : goodT t = true) : (∃ c r, oneS t = c :: r ∧ (letN c = true ∨ digN c = true ∨ c = 34)) ∨ oneS t ∈ signs := by
  obtain ⟨k, t, n, a0⟩ := t
  unfold goodT at h
  unfold oneS
  dsimp only at h ⊢
  split at h
  · rename_i e; subst e
    rw [if_neg (by decide), if_neg (by decide), if_neg (by decide)]
    simp only [nameB, Bool.and_eq_true, beq_iff_eq, Bool.not_eq_true'] at h
    obtain ⟨rfl, h1, h2⟩ := h
    cases t with
    | nil => cases h1
    | cons c r =>
      rw [wordB_cons] at h1
      simp only [Bool.and_eq_true, decide_eq_true_eq] at h1
      exact .inl ⟨c, r, rfl, .inl h1.2.1⟩
  split at h
  · rename_i e; subst e
    rw [if_neg (by decide), if_neg (by decide), if_neg (by decide)]
    simp only [Bool.and_eq_true, beq_iff_eq] at h
    obtain ⟨rfl, h1⟩ := h
    obtain ⟨c, r, h2, h3, h4⟩ := keys_word _ (has_mem h1)
    exact .inl ⟨c, r, h2, .inl h3⟩
  split at h
  · rename_i e; subst e
    simp only [Bool.and_eq_true, beq_iff_eq, decide_eq_true_eq] at h
    obtain ⟨rfl, h1, h2⟩ := h
    rw [if_pos rfl]
    split
    · rename_i hn
      obtain ⟨v, w, c, r, e, d⟩ := hexT_facts (n := (n + 4294967296).toNat) (al := true) (by omega)
      exact .inl ⟨c, r ++ [72], by rw [e]; rfl, .inr (.inl d)⟩
    · rename_i hn
      obtain ⟨_, _, _, c, r, e, d⟩ := dec_back (n := n.toNat) (by omega)
      exact .inl ⟨c, r, e, .inr (.inl d)⟩
  split at h
  · rename_i e; subst e
    simp only [Bool.and_eq_true, beq_iff_eq, decide_eq_true_eq] at h
    obtain ⟨rfl, h1, h2⟩ := h
    rw [if_neg (by decide), if_pos rfl]
    obtain ⟨v, w, c, r, e, d⟩ := hexT_facts (n := n.toNat) (al := false) (by omega)
    exact .inl ⟨c, r ++ [88], by rw [e]; rfl, .inr (.inl d)⟩
  split at h
  · rename_i e; subst e
    rw [if_neg (by decide), if_neg (by decide), if_pos rfl]
    exact .inl ⟨34, _, rfl, .inr (.inr rfl)⟩
  split at h
  · rename_i e; subst e
    rw [if_neg (by decide), if_neg (by decide), if_neg (by decide)]
    simp only [Bool.and_eq_true, beq_iff_eq] at h
    obtain ⟨rfl, h1⟩ := h
    exact .inr (has_mem h1)
  · cases h
theorem signs_skip : ∀ s ∈ signs, skP s = (0, true) := by decide
theorem skip_zero {t : Tk} (h : goodT t = true) : skP (oneS t) = (0, true) := by
  rcases first_is h with ⟨c, r, e, hc⟩ | h1
  · rw [e]
    refine skP_stop ?_ ?_
    · cases hb : blkN c
      · rfl
      · rcases blk_is hb with rfl | rfl | rfl | rfl <;> exact absurd hc (by decide)
    · cases r with
      | nil => rfl
      | cons b r =>
        show (c == 40 && b == 42) = false
        have : c ≠ 40 := fun e => by subst e; exact absurd hc (by decide)
        simp [this]
  · exact signs_skip _ h1
theorem lexV_one {t : Tk} (h : goodT t = true) (a : Nat) : lexV (oneS t) a = .ok [pl t a] := by
  have hs := skip_zero h
  have ho := one_back h a
  have hl := one_len ho
  rw [lexV_on (x := oneS t) (a := a) (t := pl t a) (len := (oneS t).length) (by rw [hs]) (by rw [hs]; exact hl.1) (by rw [hs]; exact ho), hs]
  simp only [Nat.zero_add, List.drop_length]
  rfl
theorem same_pl (t : Tk) (a : Int) : sameT t (pl t a) false = true := by simp [sameT, pl]
theorem lex_back : ∀ (ts : List Tk) (a : Nat), (∀ t ∈ ts, goodT t = true) → ∃ us, lexV (joinT ts) a = .ok us ∧ us.length = ts.length ∧ sameL false ts us = true
  | [], a, _ => ⟨[], rfl, rfl, rfl⟩
  | [t], a, h => ⟨[pl t a], by rw [joinT_one]; exact lexV_one (h t (by simp)) a, rfl, by simp [sameL, same_pl]⟩
  | t :: u :: us, a, h => by
    have hj : joinT (t :: u :: us) = oneS t ++ 32 :: joinT (u :: us) := by simp [joinT]
    obtain ⟨vs, h1, h2, h3⟩ := lex_back (u :: us) (a + (oneS t).length + 1) (fun x hx => h x (by simp only [List.mem_cons] at hx ⊢; exact .inr hx))
    refine ⟨pl t a :: vs, ?_, by simp [h2], ?_⟩
    · rw [hj, lexV_join (by decide) _ _ _ _ _ (Nat.le_refl _) (lexV_one (h t (by simp)) a), h1]
      rfl
    · rw [sameL, same_pl, h3]; rfl
theorem lexP_back {ts : List Tk} (h6 : ts.length ≤ 6000) (hg : ∀ t ∈ ts, goodT t = true) (hl : (joinT ts).length ≤ 16384) : ∃ us, lexP (joinT ts) = .ok us ∧ us.length = ts.length ∧ sameL false ts us = true := by
  obtain ⟨us, h1, h2, h3⟩ := lex_back ts 0 hg
  refine ⟨us, ?_, h2, h3⟩
  rw [lexP, if_neg (by omega)]
  have := lexG_of _ (joinT ts) 0 0 us (by rw [List.drop_zero]; exact h1) (by omega)
  rw [List.drop_zero, Nat.zero_add] at this
  exact this
end Go.Proofs.YthnkkcamfcmhmaaDoor.Lx
