/-
  What the document's own Words answers, and whether two lists of words are alike.
-/
import Derived.Test.YtjneaphlghfbhaaGreatDoorMem6
namespace Go.Proofs.YtjneaphlghfbhaaGreatDoor.Mem
open Go.RowKit Go.Proofs.YtjneaphlghfbhaaGreatDoor.Bits
set_option maxRecDepth 100000

theorem rwords_no {w : World} {v : Value} {b : Nat} {xs : List Int} (h : Ob 81 w v b xs) (i n : Int) (i1 : i ≤ 9223372036854775807) (hl : xs.length ≤ 9223372036854775807) (ho : okW xs i n = false) :
    Calls Tryz.prog 24 #[v, .int .i64 i, .int .i64 n] w fun e w' => e = .returned (.tuple #[.slice none 0 0, .bool false]) ∧ w' = w := by
  have ho' := of_decide_eq_false ho
  clear ho
  by_cases h1 : 0 ≤ i
  · by_cases h2 : 0 ≤ n
    · have h3 : ¬ n ≤ xs.length - i := fun x => ho' ⟨h1, h2, x⟩
      clear ho'
      by_cases h4 : i ≤ xs.length
      · go_enter Tryz.func24, Tryz.ntmps24
        go_wp2_with (go_at_call 25; refine (rsize_ob h).mono ?_; rintro e w' ⟨rfl, rfl⟩)
        go_ret2
        exact ⟨rfl, rfl⟩
      · go_enter Tryz.func24, Tryz.ntmps24
        go_wp2_with (go_at_call 25; refine (rsize_ob h).mono ?_; rintro e w' ⟨rfl, rfl⟩)
        go_ret2
        exact ⟨rfl, rfl⟩
    · clear ho'
      go_enter Tryz.func24, Tryz.ntmps24
      go_wp2_with (go_at_call 25; refine (rsize_ob h).mono ?_; rintro e w' ⟨rfl, rfl⟩)
      go_ret2
      exact ⟨rfl, rfl⟩
  · clear ho'
    go_enter Tryz.func24, Tryz.ntmps24
    go_wp2_with (go_at_call 25; refine (rsize_ob h).mono ?_; rintro e w' ⟨rfl, rfl⟩)
    go_ret2
    exact ⟨rfl, rfl⟩
def pre (xs : List Int) (i k : Nat) : List Value := ((xs.drop i).take k).map wd
theorem pre_succ {xs : List Int} {i k : Nat} (h : i + k < xs.length) : pre xs i (k + 1) = pre xs i k ++ [wd (at0 xs (i + k))] := by
  unfold pre
  rw [List.take_add_one, List.map_append, List.getElem?_drop, List.getElem?_eq_getElem h]
  simp [at0, h]
theorem rwords_at {w : World} {a b c : Nat} {xs : List Int} (h : Mm 81 w a b c xs) (hx : xs.length ≤ 65536) (i n : Nat) (hin : i + n ≤ xs.length) :
    Calls Tryz.prog 24 #[.pointer (some ⟨a, 0, none⟩), .int .i64 i, .int .i64 n] w fun e w' => ∃ v, e = .returned (.tuple #[v, .bool true]) ∧ w.grownBy w' none ∧ w'.ownsRow w.heap.size 47 1 v n (pre xs i n) := by
  obtain ⟨i0, hi, hz0, hz1, hz2⟩ := info_parts Tryz.info34
  obtain ⟨B, hB⟩ : ∃ B, B = w.heap.size := ⟨_, rfl⟩
  have HB : Hid (B = w.heap.size) := hB
  have hal : a < B := by rw [hB]; exact lt_of_block h.head
  have hbl : b < B := by rw [hB]; exact h.row.lt
  have hc := h.cell
  have hle := h.row.le
  have hm := h.row.max
  unfold maxLen at hm
  have HR : Hid (∀ j, j < xs.length → w.cell? ⟨b, j, none⟩ = some (wd (at0 xs j))) := fun j hj => h.row.cell hj
  obtain ⟨l, hl⟩ : ∃ l, xs.length = l := ⟨_, rfl⟩
  have HL : Hid (xs.length = l) := hl
  rw [hl] at hin hx hle hc
  rw [← hB]
  have z1 : decide ((i : Int) < 0) = false := by simp
  have z2 : decide ((n : Int) < 0) = false := by simp
  have z3 : decide (l < i) = false := by simp; omega
  have z4 : decide ((l : Int) - (i : Int) < (n : Int)) = false := by simp; omega
  clear h hl hB
  go_enter Tryz.func24, Tryz.ntmps24
  go_wp2_with (go_at_call 25; refine (rsize_at _ _ _ _ _ hc).mono ?_; rintro e w' ⟨rfl, rfl⟩)
  go_loopw [8, 9] (fun v j wr => ∃ k : Nat, k ≤ n ∧ j = .int .i64 k ∧ wr.ownsRow B 47 1 v k (pre xs i k) ∧ Below B w' wr)
    (fun _ j _ => n - (intOf j).toNat)
  case atStart => exact ⟨0, Nat.zero_le _, rfl, World.ownsRow_nil _ _ _ _, Below.refl _ _⟩
  case round =>
    obtain ⟨k, hk, rfl, hown, hbel⟩ := hrel
    have hcr : wr.cell? ⟨a, 0, none⟩ = some (.slice (some ⟨b, 0, none⟩) l c) := (hbel.cell hal).trans hc
    have hcx : k < n → wr.cell? ⟨b, i + k, none⟩ = some (wd (at0 xs (i + k))) := fun hlt => (hbel.cell hbl).trans (HR.out (i + k) (by rw [HL.out]; omega))
    have hsz := hbel.size
    have hbs : B ≤ wr.heap.size := by rw [HB.out]; exact hsz
    obtain ⟨X, hX⟩ : ∃ X, X = at0 xs (i + k) := ⟨_, rfl⟩
    rw [← hX] at hcx
    have HX : Hid (X = at0 xs (i + k)) := hX
    clear hX
    go_wp2_with (at_builtin; refine wpList_append_own _ rfl _ _ 22 rfl B 47 i0 (.int .u32 0) 1 4 Tryz.underlying22 hi hz0 hz1 hz2 rfl (by decide) _ _ _ rfl (hown.alloc _) ⟨wr.heap.size, 0, none⟩ 1 1 [wd X] rfl rfl ?c1 ?c2 ?c3 ?c4 ?c5 ?_)
    case c1 =>
      intro j u hj
      match j, hj with
      | 0, hj => simp at hj; subst hj; simp [Addr.add]
    case c2 => intro u hu; simp at hu; subst hu; rfl
    case c3 => unfold maxLen; omega
    case c4 => omega
    case c5 => simp; omega
    · intro v' w1 hown' hgrow _
      have hlt : k < n := by assumption
      have hnew : w1.ownsRow B 47 1 v' (k + 1) (pre xs i (k + 1)) := by
        rw [pre_succ (by rw [HL.out]; omega), ← HX.out]; exact hown'
      have hlt' := (hown.alloc (.cells #[wd X] 47)).lt
      have hb1 : Below B w' w1 := (hbel.alloc hbs _).grown hgrow (by simp; omega) (fun g hg => (hlt' g hg).1)
      clear hown' hgrow hown hcx hcr hlt' hbel
      go_wp2
      exact ⟨⟨k + 1, by omega, by go_num, hnew, hb1⟩, by simp [intOf]; omega⟩
    · have hge : ¬ k < n := by assumption
      obtain rfl : k = n := by omega
      go_ret2
      refine ⟨_, rfl, ?_, hown⟩
      rw [HB.out] at hbel
      exact grown_below hbel
theorem rwords_nil (w : World) : Calls Tryz.prog 24 #[.pointer none, .int .i64 0, .int .i64 0] w fun e w' => e = .returned (.tuple #[.slice none 0 0, .bool true]) ∧ w' = w := by
  go_enter Tryz.func24, Tryz.ntmps24
  go_wp2_with (go_at_call 25; refine (rsize_nil _).mono ?_; rintro e w' ⟨rfl, rfl⟩)
  refine wp_loop_rounds 1 ?_
  rw [rounds_succ]
  go_wp2
  go_ret2
  exact ⟨rfl, rfl⟩
/- A slice that reads as the words xs. -/
def Rd (w : World) (v : Value) (xs : List Int) : Prop := ∃ ao c, v = .slice ao xs.length c ∧ Src w ao xs
theorem Arr.rd {w : World} {b c n : Nat} {xs : List Int} (h : Arr w b c xs) (hn : xs.length = n) : Rd w (.slice (some ⟨b, 0, none⟩) n c) xs := ⟨_, _, by rw [hn], h.src⟩
theorem Rd.kept {w w' : World} {v : Value} {xs : List Int} (h : Rd w v xs) (hg : w.grownBy w' none) : Rd w' v xs := by
  obtain ⟨ao, c, e, hs⟩ := h
  exact ⟨ao, c, e, hs.kept hg⟩
theorem rd_own {w : World} {B n : Nat} {v : Value} {xs : List Int} (h : w.ownsRow B 47 1 v n (xs.map wd)) (hr : inR xs) : Rd w v xs := by
  by_cases hv : v = .slice none 0 0
  · have hl : xs.length = n := by simpa using h.1
    rcases h.2 with ⟨_, rfl⟩ | ⟨g, cap, cur, e, _⟩
    · obtain rfl : xs = [] := List.eq_nil_of_length_eq_zero hl
      exact ⟨none, 0, hv, Src.nil w⟩
    · rw [hv] at e; cases e
  · obtain ⟨b, c, e, _, ha⟩ := arr_own h hr hv
    rw [e]
    exact ha.rd (by simpa using h.1)
theorem rwords_ok {w : World} {v : Value} {b : Nat} {xs : List Int} (h : Ob 81 w v b xs) (hx : xs.length ≤ 65536) (i n : Int) (ho : okW xs i n = true) :
    Calls Tryz.prog 24 #[v, .int .i64 i, .int .i64 n] w fun e w' => ∃ r, e = .returned (.tuple #[r, .bool true]) ∧ w.grownBy w' none ∧ Rd w' r (cutL xs i n) := by
  unfold cutL
  rw [if_pos ho]
  obtain ⟨h0, h1, h2⟩ := of_decide_eq_true ho
  obtain ⟨I, rfl⟩ := Int.eq_ofNat_of_zero_le h0
  obtain ⟨N, rfl⟩ := Int.eq_ofNat_of_zero_le h1
  rcases h with ⟨rfl, rfl⟩ | ⟨a, c, rfl, h⟩
  · simp at h2
    obtain rfl : N = 0 := by omega
    obtain rfl : I = 0 := by omega
    exact (rwords_nil w).mono fun e w' ⟨he, hw⟩ => ⟨_, he, by rw [hw]; exact World.grownBy.refl _ _, ⟨none, 0, rfl, Src.nil _⟩⟩
  · exact (rwords_at h hx I N (by omega)).mono fun e w' ⟨r, he, hg, ho⟩ => ⟨r, he, hg, rd_own ho (inR_cut h.row.rng I N)⟩
theorem keep_same {w : World} {u v : Value} {xs : List Int} (hu : Rd w u xs) (hv : Rd w v xs) (hm : xs.length ≤ 9223372036854775807) :
    Calls Tryz.prog 9 #[u, v] w fun e w' => e = .returned (.bool true) ∧ ∃ d, w' = w.drewN d := by
  obtain ⟨ao, c, rfl, hs⟩ := hu
  obtain ⟨bo, c', rfl, ht⟩ := hv
  cases xs with
  | nil =>
    go_enter Tryz.func9, Tryz.ntmps9
    go_wp2
    refine wp_loop_rounds 1 ?_
    rw [rounds_succ]
    go_wp2
    go_ret
    exact ⟨rfl, 0, rfl⟩
  | cons x l =>
    obtain ⟨ad, rfl, hsrc⟩ := src_some hs rfl (by simp)
    obtain ⟨bd, rfl, htrc⟩ := src_some ht rfl (by simp)
    obtain ⟨L, hL⟩ : ∃ L, L = x :: l := ⟨_, rfl⟩
    rw [← hL] at hsrc htrc hm ⊢
    clear hL hs ht
    have HS : Hid (∀ j u, (L.map wd)[j]? = some u → w.cell? (ad.add j) = some u) := hsrc
    have HT : Hid (∀ j u, (L.map wd)[j]? = some u → w.cell? (bd.add j) = some u) := htrc
    obtain ⟨n, hn⟩ : ∃ n, L.length = n := ⟨_, rfl⟩
    have HN : Hid (L.length = n) := hn
    rw [hn] at hm ⊢
    clear hsrc htrc hn
    go_enter Tryz.func9, Tryz.ntmps9
    go_wp2
    go_loopw [5] (fun j wr => ∃ k d : Nat, k ≤ n ∧ j = .int .i64 k ∧ wr = w.drewN d)
      (fun j _ => n - (intOf j).toNat)
    case atStart => exact ⟨0, 0, Nat.zero_le _, rfl, rfl⟩
    case round =>
      obtain ⟨k, d, hk, rfl, rfl⟩ := hrel
      by_cases hlt : k < n
      · have hX : (L.map wd)[k]? = some (wd (at0 L k)) := by
          have : k < L.length := by rw [HN.out]; exact hlt
          simp [at0, this]
        have h1 := HS.out k _ hX
        have h2 := HT.out k _ hX
        obtain ⟨X, hXX⟩ : ∃ X, X = at0 L k := ⟨_, rfl⟩
        rw [← hXX] at h1 h2
        clear hX hXX
        go_wp2
        go_quiet (fail)
        go_wp2
        exact ⟨⟨k + 1, d + nq, by omega, by go_num, rfl⟩, by simp [intOf]; omega⟩
      · obtain rfl : k = n := by omega
        go_wp2
        go_ret
        exact ⟨rfl, d, rfl⟩
end Go.Proofs.YtjneaphlghfbhaaGreatDoor.Mem
