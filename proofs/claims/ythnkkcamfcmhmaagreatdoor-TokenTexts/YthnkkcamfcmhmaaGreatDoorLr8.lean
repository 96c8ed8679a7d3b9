/-
  The document's own tokens (package spinetref09): Same.
-/
import Derived.Test.YthnkkcamfcmhmaaGreatDoorLr7
import Derived.BigRegion
namespace Go.Proofs.YthnkkcamfcmhmaaGreatDoor.Lx
open Go.RowKit Go.Proofs.YthnkkcamfcmhmaaGreatDoor.Tx
set_option linter.unusedVariables false
set_option linter.unusedSimpArgs false
set_option maxRecDepth 100000

/- Tokens that lie at an address (or there are none). -/
def TkAt (w : World) (a : Addr) (t : Tk) : Prop :=
  w.cell? (a.add 0) = some (.int .i64 t.k) ∧ w.cell? (a.add 1) = some (.string (bs t.t)) ∧ w.cell? (a.add 2) = some (.int .i64 t.n) ∧ w.cell? (a.add 3) = some (.int .i64 t.a)
structure TkS (w : World) (o : Option Addr) (ts : List Tk) : Prop where
  at' : ∀ a, o = some a → ∀ j (h : j < ts.length), TkAt w (a.add (j * 4)) ts[j]
  nil' : o = .none → ts.length = 0
theorem TkAt.kept {w w' : World} {a : Addr} {t : Tk} (h : TkAt w a t) (hg : w.grownBy w' none) : TkAt w' a t :=
  ⟨hg.cell h.1 (by simp), hg.cell h.2.1 (by simp), hg.cell h.2.2.1 (by simp), hg.cell h.2.2.2 (by simp)⟩
theorem TkS.kept {w w' : World} {o : Option Addr} {ts : List Tk} (h : TkS w o ts) (hg : w.grownBy w' none) : TkS w' o ts := ⟨fun a e j hj => (h.at' a e j hj).kept hg, h.nil'⟩
theorem tkL_at (ts : List Tk) : ∀ (j : Nat) (h : j < ts.length) (i : Nat), i < 4 → (tkL ts)[j * 4 + i]? = (tkC ts[j])[i]? := by
  induction ts with
  | nil => intro j h; simp at h
  | cons t ts ih =>
    intro j h i hi
    have hc : tkL (t :: ts) = tkC t ++ tkL ts := by simp [tkL]
    have h4 : (tkC t).length = 4 := rfl
    rw [hc]
    cases j with
    | zero =>
      rw [List.getElem?_append_left (by rw [h4]; omega)]
      simp
    | succ j =>
      rw [List.getElem?_append_right (by rw [h4]; omega), h4, show (j + 1) * 4 + i - 4 = j * 4 + i by omega]
      rw [ih j (by simpa using h) i hi]
      rfl
/- A row of one's own reads so. -/
theorem own_tks {w : World} {B n : Nat} {o : Option Addr} {m cp : Nat} {ts : List Tk} (h : w.ownsRow B 32 4 (.slice o m cp) n (tkL ts)) (hn : n = ts.length) : TkS w o ts := by
  subst hn
  rcases h.2 with ⟨h1, h0⟩ | ⟨g, cap, cur, h1, hb, hg, hc, hm, hs, ht⟩
  · cases h1
    exact ⟨fun a e => (by cases e), fun _ => h0⟩
  · cases h1
    refine ⟨fun a e j hj => ?_, fun e => (by cases e)⟩
    cases e
    have key : ∀ i, i < 4 → ∀ u, (tkC ts[j])[i]? = some u → w.cell? ⟨g, j * 4 + i, none⟩ = some u := fun i hi u hu => by
      rw [cell_of_row _ _ _ _ _ _ hg]
      have e2 := congrArg (fun l => l[j * 4 + i]?) ht
      rw [tkL_at ts j hj i hi, hu, List.getElem?_take, if_pos (by omega), Array.getElem?_toList] at e2
      exact e2
    have ka : ∀ i, ((⟨g, 0, none⟩ : Addr).add (j * 4)).add i = ⟨g, j * 4 + i, none⟩ := fun i => by unfold Addr.add; split <;> split <;> simp_all
    refine ⟨?_, ?_, ?_, ?_⟩
    · rw [ka]; exact key 0 (by omega) _ rfl
    · rw [ka]; exact key 1 (by omega) _ rfl
    · rw [ka]; exact key 2 (by omega) _ rfl
    · rw [ka]; exact key 3 (by omega) _ rfl
def sameT (x y : Tk) (pl : Bool) : Bool := x.k == y.k && (x.t == y.t && (x.n == y.n && (!pl || x.a == y.a)))
def sameL (pl : Bool) : List Tk → List Tk → Bool
  | [], [] => true
  | x :: a, y :: b => sameT x y pl && sameL pl a b
  | _, _ => false
theorem sameL_len (pl : Bool) : ∀ (a b : List Tk), a.length ≠ b.length → sameL pl a b = false
  | [], [], h => absurd rfl h
  | [], _ :: _, _ => rfl
  | _ :: _, [], _ => rfl
  | x :: a, y :: b, h => by rw [sameL, sameL_len pl a b (by simpa using h), Bool.and_false]
theorem sameL_no (pl : Bool) : ∀ (a b : List Tk) (i : Nat) (x y : Tk), a[i]? = some x → b[i]? = some y → sameT x y pl = false → sameL pl a b = false
  | [], _, i, x, y, h, _, _ => by simp at h
  | _ :: _, [], i, x, y, _, h, _ => by simp at h
  | x' :: a, y' :: b, 0, x, y, h1, h2, h3 => by
    simp at h1 h2
    subst h1 h2
    rw [sameL, h3, Bool.false_and]
  | x' :: a, y' :: b, i + 1, x, y, h1, h2, h3 => by rw [sameL, sameL_no pl a b i x y (by simpa using h1) (by simpa using h2) h3, Bool.and_false]
theorem sameL_yes (pl : Bool) : ∀ (a b : List Tk), a.length = b.length → (∀ (i : Nat) (x y : Tk), a[i]? = some x → b[i]? = some y → sameT x y pl = true) → sameL pl a b = true
  | [], [], _, _ => rfl
  | [], _ :: _, h, _ => by simp at h
  | _ :: _, [], h, _ => by simp at h
  | x :: a, y :: b, h, hh => by
    rw [sameL, hh 0 x y rfl rfl, sameL_yes pl a b (by simpa using h) (fun i x' y' h1 h2 => hh (i + 1) x' y' (by simpa using h1) (by simpa using h2))]
    rfl
theorem four_of' {w : World} {A : Addr} {t : Tk} (h : TkAt w A t) : w.cell? A = some (.int .i64 t.k) ∧ w.cell? ⟨A.block, A.off + 1, none⟩ = some (.string (bs t.t)) ∧ w.cell? ⟨A.block, A.off + 2, none⟩ = some (.int .i64 t.n) ∧ w.cell? ⟨A.block, A.off + 3, none⟩ = some (.int .i64 t.a) := by
  obtain ⟨h0, h1, h2, h3⟩ := h
  rw [Addr.add_zero'] at h0
  rw [Addr.add_succ'] at h1 h2 h3
  simp only [Nat.zero_add, Nat.reduceAdd] at h1 h2 h3
  exact ⟨h0, h1, h2, h3⟩
theorem two_d {w W : World} (h : w.grownBy W none) (a b : Obj) : w.grownBy ((W.alloc a).alloc b).drew none := by
  have h2 := grown_trans h (two_g W a b)
  exact ⟨h2.os, h2.tape, h2.output, h2.size, h2.block⟩
theorem next_same {a b : List Tk} {i : Nat} {x y : Tk} {pl : Bool} {HX : a[i]? = some x} {HY : b[i]? = some y} (h : ∀ (j : Nat) (x y : Tk), j < i → a[j]? = some x → b[j]? = some y → sameT x y pl = true) (hs : sameT x y pl = true) : ∀ (j : Nat) (x y : Tk), j < i + 1 → a[j]? = some x → b[j]? = some y → sameT x y pl = true := fun j x' y' hj h1 h2 => by
  by_cases e : j = i
  · subst e
    rw [HX] at h1
    rw [HY] at h2
    rw [← Option.some.inj h1, ← Option.some.inj h2]
    exact hs
  · exact h j x' y' (by omega) h1 h2
set_option maxHeartbeats 2000000 in
theorem same_at (w : World) (o1 o2 : Option Addr) (c1 c2 : Nat) (a b : List Tk) (pl : Bool) (ha : a.length ≤ 1000000) (hb : b.length ≤ 1000000) (h1 : TkS w o1 a) (h2 : TkS w o2 b) :
    Calls Tryz.prog 8 #[.slice o1 a.length c1, .slice o2 b.length c2, .bool pl] w fun e w' => e = .returned (.bool (sameL pl a b)) ∧ w.grownBy w' none := by
  have H1 := hide h1
  have H2 := hide h2
  have la : (a.length : Int) ≤ 1000000 := by omega
  have lb : (b.length : Int) ≤ 1000000 := by omega
  clear h1 h2
  by_cases hl : a.length = b.length
  · have HL := hide hl
    have hne : ((a.length : Int) != (b.length : Int)) = false := by rw [hl]; simp
    clear hl
    go_enter Tryz.func8, Tryz.ntmps8
    go_wp2
    go_loopw [7] (fun iv W => ∃ i : Nat, i ≤ a.length ∧ iv = .int .i64 i ∧ Hid (∀ (j : Nat) (x y : Tk), j < i → a[j]? = some x → b[j]? = some y → sameT x y pl = true) ∧ Hid (w.grownBy W none)) (fun iv _ => a.length - (intOf iv).toNat)
    case atStart => exact ⟨0, Nat.zero_le _, rfl, hide (fun j x y h => by omega), hide ⟨rfl, rfl, rfl, Nat.le_refl _, fun _ _ _ => rfl⟩⟩
    case round =>
      obtain ⟨i, hi, rfl, HA, HG⟩ := hrel
      by_cases hlt : i < a.length
      · have j1 : (i : Int) < a.length := by omega
        have hlb : i < b.length := by have := HL.out; omega
        have j2 : (i : Int) < b.length := by omega
        obtain ⟨A1, rfl⟩ : ∃ ad, o1 = some ad := by
          cases o1 with
          | none => have := H1.out.nil' rfl; omega
          | some ad => exact ⟨ad, rfl⟩
        obtain ⟨A2, rfl⟩ : ∃ ad, o2 = some ad := by
          cases o2 with
          | none => have := H2.out.nil' rfl; omega
          | some ad => exact ⟨ad, rfl⟩
        obtain ⟨P, hP⟩ : ∃ P, A1.add (i * 4) = P := ⟨_, rfl⟩
        obtain ⟨R, hR⟩ : ∃ R, A2.add (i * 4) = R := ⟨_, rfl⟩
        have t1 := (H1.out.at' A1 rfl i hlt).kept HG.out
        have t2 := (H2.out.at' A2 rfl i hlb).kept HG.out
        rw [hP] at t1
        rw [hR] at t2
        obtain ⟨x, hx⟩ : ∃ x, a[i] = x := ⟨_, rfl⟩
        obtain ⟨y, hy⟩ : ∃ y, b[i] = y := ⟨_, rfl⟩
        rw [hx] at t1
        rw [hy] at t2
        have HX := hide (show a[i]? = some x by rw [List.getElem?_eq_getElem hlt, hx])
        have HY := hide (show b[i]? = some y by rw [List.getElem?_eq_getElem hlb, hy])
        obtain ⟨x0, x1, x2, x3⟩ := four_of' t1
        obtain ⟨y0, y1, y2, y3⟩ := four_of' t2
        have pb := block_lt_of_cell x0
        have rb := block_lt_of_cell y0
        clear t1 t2 hx hy
        by_cases e0 : x.k = y.k
        · have t0 : (x.k != y.k) = false := by simpa using e0
          have u0 : (x.k == y.k) = true := by simpa using e0
          by_cases e1 : x.t = y.t
          · have t1 : ((bs x.t).toList != (bs y.t).toList) = false := by rw [e1]; simp
            have u1 : ((bs x.t).toList == (bs y.t).toList) = true := by rw [e1]; simp
            by_cases e2 : x.n = y.n
            · have t2 : (x.n != y.n) = false := by simpa using e2
              have u2 : (x.n == y.n) = true := by simpa using e2
              cases pl with
              | true =>
                by_cases e3 : x.a = y.a
                · have t3 : (x.a != y.a) = false := by simpa using e3
                  have u3 : (x.a == y.a) = true := by simpa using e3
                  have HN := hide (next_same (HX := HX.out) (HY := HY.out) HA.out (show sameT x y true = true by simp [sameT, e0, e1, e2, e3]))
                  clear e0 e1 e2 e3
                  go_wp2
                  go_region
                  all_goals go_wp2
                  all_goals (go_roundw; (case rel => exact ⟨i + 1, by omega, by go_num, HN, hide (two_d HG.out _ _)⟩); (case measure => simp [intOf]; omega))
                · have t3 : (x.a != y.a) = true := by simpa using e3
                  have u3 : (x.a == y.a) = false := by simpa using e3
                  have HS := hide (sameL_no true a b i x y HX.out HY.out (by simp [sameT, e3]))
                  clear e0 e1 e2 e3
                  go_wp2
                  go_region
                  all_goals go_wp2
                  all_goals go_ret
                  all_goals exact ⟨by rw [HS.out]; rfl, two_d HG.out _ _⟩
              | false =>
                have HN := hide (next_same (HX := HX.out) (HY := HY.out) HA.out (show sameT x y false = true by simp [sameT, e0, e1, e2]))
                clear e0 e1 e2
                go_wp2
                go_region
                all_goals go_wp2
                all_goals (go_roundw; (case rel => exact ⟨i + 1, by omega, by go_num, HN, hide (two_d HG.out _ _)⟩); (case measure => simp [intOf]; omega))
            · have t2 : (x.n != y.n) = true := by simpa using e2
              have u2 : (x.n == y.n) = false := by simpa using e2
              have HS := hide (sameL_no pl a b i x y HX.out HY.out (by simp [sameT, e2]))
              clear e0 e1 e2
              go_wp2
              go_region
              all_goals go_wp2
              all_goals go_ret
              all_goals exact ⟨by rw [HS.out]; rfl, two_d HG.out _ _⟩
          · have t1 : ((bs x.t).toList != (bs y.t).toList) = true := by rw [bs_toList, bs_toList]; simpa using e1
            have u1 : ((bs x.t).toList == (bs y.t).toList) = false := by rw [bs_toList, bs_toList]; simpa using e1
            have HS := hide (sameL_no pl a b i x y HX.out HY.out (by simp [sameT, e1]))
            clear e0 e1
            go_wp2
            go_region
            all_goals go_wp2
            all_goals go_ret
            all_goals exact ⟨by rw [HS.out]; rfl, two_d HG.out _ _⟩
        · have t0 : (x.k != y.k) = true := by simpa using e0
          have u0 : (x.k == y.k) = false := by simpa using e0
          have HS := hide (sameL_no pl a b i x y HX.out HY.out (by simp [sameT, e0]))
          clear e0
          go_wp2
          go_region
          all_goals go_wp2
          all_goals go_ret
          all_goals exact ⟨by rw [HS.out]; rfl, two_d HG.out _ _⟩
      · have j1 : ¬ (i : Int) < a.length := by omega
        have HS := hide (sameL_yes pl a b HL.out (fun j x y h1 h2 => HA.out j x y (by have := (List.getElem?_eq_some_iff.1 h1).1; omega) h1 h2))
        go_wp2
        go_ret
        refine ⟨?_, HG.out⟩
        rw [HS.out]
        rfl
  · have HS := hide (sameL_len pl a b hl)
    have hne : ((a.length : Int) != (b.length : Int)) = true := by simp; omega
    clear hl
    go_enter Tryz.func8, Tryz.ntmps8
    go_wp2
    go_ret
    refine ⟨?_, ⟨rfl, rfl, rfl, Nat.le_refl _, fun _ _ _ => rfl⟩⟩
    rw [HS.out]
    rfl
end Go.Proofs.YthnkkcamfcmhmaaGreatDoor.Lx
