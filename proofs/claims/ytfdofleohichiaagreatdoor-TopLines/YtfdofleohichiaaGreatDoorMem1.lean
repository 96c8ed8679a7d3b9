/-
  A memory as a block of one slice and a row of words; what memory's inner functions, Load and Store answer.
-/
import Derived.Test.YtfdofleohichiaaGreatDoorBits
import Derived.RegionTactic
import Derived.Deep.QuietTactic
import Derived.BigQuiet
import Derived.Laws.CopyOwn
namespace Go.Proofs.YtfdofleohichiaaGreatDoor.Mem
open Go.RowKit Go.Proofs.YtfdofleohichiaaGreatDoor.Bits

abbrev wd (x : Int) : Value := .int .u32 x
def inR (xs : List Int) : Prop := ∀ x ∈ xs, 0 ≤ x ∧ x < 4294967296
def at0 (xs : List Int) (k : Nat) : Int := xs.getD k 0

/- Block b of w is a row of words that begins with xs. -/
structure Arr (w : World) (b c : Nat) (xs : List Int) : Prop where
  has : ∃ cur, w.heap[b]? = some (.cells cur 44 (0, 0)) ∧ cur.size = c ∧ cur.toList.take xs.length = xs.map wd
  le : xs.length ≤ c
  max : c ≤ maxLen
  rng : inR xs
/- Block a of w is a memory (of type T) whose words are xs, in block b. -/
structure Mm (T : TypeId) (w : World) (a b c : Nat) (xs : List Int) : Prop where
  head : w.heap[a]? = some (.cells #[.slice (some ⟨b, 0, none⟩) xs.length c] T (0, 0))
  row : Arr w b c xs
/- A pointer to a memory, or nil. -/
def Ob (T : TypeId) (w : World) (v : Value) (b : Nat) (xs : List Int) : Prop :=
  (v = .pointer none ∧ xs = []) ∨ ∃ a c, v = .pointer (some ⟨a, 0, none⟩) ∧ Mm T w a b c xs

theorem rng_at {xs : List Int} (h : inR xs) (k : Nat) : 0 ≤ at0 xs k ∧ at0 xs k < 4294967296 := by
  unfold at0
  by_cases hk : k < xs.length
  · rw [List.getD_eq_getElem?_getD, List.getElem?_eq_getElem hk]
    exact h _ (List.getElem_mem hk)
  · rw [List.getD_eq_getElem?_getD, List.getElem?_eq_none (by omega)]; simp
theorem Arr.cell {w : World} {b c : Nat} {xs : List Int} (h : Arr w b c xs) {k : Nat} (hk : k < xs.length) : w.cell? ⟨b, k, none⟩ = some (wd (at0 xs k)) := by
  obtain ⟨cur, h1, h2, h3⟩ := h.has
  rw [cell_of_row w b k cur _ (0, 0) h1]
  have e : (cur.toList.take xs.length)[k]? = (xs.map wd)[k]? := by rw [h3]
  rw [List.getElem?_take, if_pos hk] at e
  simp [at0, hk] at e ⊢
  exact e
theorem Arr.free {w : World} {b c : Nat} {xs : List Int} (h : Arr w b c xs) (k : Nat) : w.frozen? ⟨b, k, none⟩ = false := by
  obtain ⟨cur, h1, h2, h3⟩ := h.has
  simp [World.frozen?, h1]
theorem Mm.cell {T : TypeId} {w : World} {a b c : Nat} {xs : List Int} (h : Mm T w a b c xs) : w.cell? ⟨a, 0, none⟩ = some (.slice (some ⟨b, 0, none⟩) xs.length c) := cell_of_one h.head

theorem all_nil (w : World) : Calls Tryz.prog 44 #[.pointer none] w fun e w' => e = .returned (.slice none 0 0) ∧ w' = w := by
  go_enter Tryz.func44, Tryz.ntmps44
  go_wp2
  go_ret
  exact ⟨rfl, rfl⟩
theorem all_at (w : World) (a : Nat) (v : Value) (hc : w.cell? ⟨a, 0, none⟩ = some v) : Calls Tryz.prog 44 #[.pointer (some ⟨a, 0, none⟩)] w fun e w' => e = .returned v ∧ w' = w := by
  go_enter Tryz.func44, Tryz.ntmps44
  go_wp2
  go_ret
  exact ⟨rfl, rfl⟩
theorem size_nil (w : World) : Calls Tryz.prog 23 #[.pointer none] w fun e w' => e = .returned (.int .i64 0) ∧ w' = w := by
  go_enter Tryz.func23, Tryz.ntmps23
  go_wp2_with (go_at_call 44; refine (all_nil _).mono ?_; rintro e w' ⟨rfl, rfl⟩)
  go_ret
  exact ⟨rfl, rfl⟩
theorem size_at (w : World) (a b n c : Nat) (hc : w.cell? ⟨a, 0, none⟩ = some (.slice (some ⟨b, 0, none⟩) n c)) : Calls Tryz.prog 23 #[.pointer (some ⟨a, 0, none⟩)] w fun e w' => e = .returned (.int .i64 n) ∧ w' = w := by
  go_enter Tryz.func23, Tryz.ntmps23
  go_wp2_with (go_at_call 44; refine (all_at _ _ _ hc).mono ?_; rintro e w' ⟨rfl, rfl⟩)
  go_ret
  exact ⟨rfl, rfl⟩
theorem size_ob {w : World} {v : Value} {b : Nat} {xs : List Int} (h : Ob 98 w v b xs) : Calls Tryz.prog 23 #[v] w fun e w' => e = .returned (.int .i64 (xs.length : Nat)) ∧ w' = w := by
  rcases h with ⟨rfl, rfl⟩ | ⟨a, c, rfl, h⟩
  · exact size_nil w
  · exact size_at w a b xs.length c h.cell
theorem hold_ob {w : World} {v : Value} {b : Nat} {xs : List Int} (h : Ob 98 w v b xs) (p : Int) (p0 : 0 ≤ p) (p1 : p < 4294967296) :
    Calls Tryz.prog 118 #[v, wd p] w fun e w' => e = .returned (.tuple #[.int .i64 (p / 4), .bool (decide (p / 4 < xs.length))]) ∧ w' = w := by
  go_enter Tryz.func118, Tryz.ntmps118
  go_wp2_with (go_at_call 23; refine (size_ob h).mono ?_; rintro e w' ⟨rfl, rfl⟩)
  go_ret2
  exact ⟨rfl, rfl⟩

/- What is there. -/
def thB (xs : List Int) (p : Int) : Bool := decide (p / 4 < xs.length)
def beB (xs : List Int) (p : Int) : Bool := decide (p / 4 < xs.length) && (p % 4 == 0)
def ldI (xs : List Int) (p : Int) : Int := if beB xs p = true then at0 xs (p / 4).toNat else 0
def stL (xs : List Int) (p v : Int) : List Int := if beB xs p = true then xs.set (p / 4).toNat v else xs
def sc (p : Int) : Int := 2 ^ (p % 4 * 8).toNat
def byI (xs : List Int) (p : Int) : Int := if thB xs p = true then at0 xs (p / 4).toNat / sc p % 256 else 0
def pbL (xs : List Int) (p v : Int) : List Int := if thB xs p = true then xs.set (p / 4).toNat (putI (at0 xs (p / 4).toNat) (p % 4 * 8) 8 v) else xs

theorem Arr.kept {w w' : World} {b c : Nat} {xs : List Int} (h : Arr w b c xs) {row : Option Nat} (hg : w.grownBy w' row) (hr : row ≠ some b) : Arr w' b c xs := by
  obtain ⟨cur, h1, h2, h3⟩ := h.has
  exact ⟨⟨cur, by rw [hg.block b (lt_of_block h1) (fun e => hr e.symm)]; exact h1, h2, h3⟩, h.le, h.max, h.rng⟩
theorem Mm.kept {T : TypeId} {w w' : World} {a b c : Nat} {xs : List Int} (h : Mm T w a b c xs) {row : Option Nat} (hg : w.grownBy w' row) (ha : row ≠ some a) (hb : row ≠ some b) : Mm T w' a b c xs :=
  ⟨by rw [hg.block a (lt_of_block h.head) (fun e => ha e.symm)]; exact h.head, h.row.kept hg hb⟩
theorem Arr.lt {w : World} {b c : Nat} {xs : List Int} (h : Arr w b c xs) : b < w.heap.size := by
  obtain ⟨cur, h1, h2, h3⟩ := h.has
  exact lt_of_block h1
theorem grown_set (w : World) (b k : Nat) (u : Value) : w.grownBy (w.setCell ⟨b, k, none⟩ u) (some b) :=
  ⟨rfl, rfl, rfl, by simp [World.setCell], fun j _ hj => Below.heap_setCell w ⟨b, k, none⟩ u j (fun e => hj (by simp [e]))⟩
theorem inR_set {xs : List Int} (h : inR xs) (k : Nat) {v : Int} (v0 : 0 ≤ v) (v1 : v < 4294967296) : inR (xs.set k v) := by
  intro x hx
  rcases List.mem_or_eq_of_mem_set hx with hx | rfl
  · exact h x hx
  · exact ⟨v0, v1⟩
theorem Arr.set {w : World} {b c : Nat} {xs : List Int} (h : Arr w b c xs) {k : Nat} {v : Int} (v0 : 0 ≤ v) (v1 : v < 4294967296) : Arr (w.setCell ⟨b, k, none⟩ (wd v)) b c (xs.set k v) := by
  obtain ⟨cur, h1, h2, h3⟩ := h.has
  refine ⟨⟨cur.setIfInBounds k (wd v), ?_, by simpa using h2, ?_⟩, by simpa using h.le, h.max, inR_set h.rng k v0 v1⟩
  · have hlt := lt_of_block h1
    have h' : w.heap[b] = .cells cur 44 (0, 0) := by simpa [Array.getElem?_eq_getElem hlt] using h1
    show (w.heap.modify b _)[b]? = _
    rw [Array.getElem?_eq_getElem (by simpa using hlt), Array.getElem_modify_self, h']
    rfl
  · rw [Array.toList_setIfInBounds, List.length_set, List.take_set, h3, List.map_set]
theorem Mm.ne {T : TypeId} (hT : T ≠ 44) {w : World} {a b c : Nat} {xs : List Int} (h : Mm T w a b c xs) : a ≠ b := by
  intro e
  subst e
  obtain ⟨cur, h1, h2, h3⟩ := h.row.has
  rw [h.head] at h1
  simp only [Option.some.injEq, Obj.cells.injEq] at h1
  exact hT h1.2.1
theorem Mm.set {T : TypeId} (hT : T ≠ 44) {w : World} {a b c : Nat} {xs : List Int} (h : Mm T w a b c xs) {k : Nat} {v : Int} (v0 : 0 ≤ v) (v1 : v < 4294967296) : Mm T (w.setCell ⟨b, k, none⟩ (wd v)) a b c (xs.set k v) :=
  ⟨by rw [Below.heap_setCell w ⟨b, k, none⟩ _ a (h.ne hT), List.length_set]; exact h.head, h.row.set v0 v1⟩
theorem Ob.nil (T : TypeId) (w : World) (b : Nat) : Ob T w (.pointer none) b [] := .inl ⟨rfl, rfl⟩
theorem Ob.rng {T : TypeId} {w : World} {v : Value} {b : Nat} {xs : List Int} (h : Ob T w v b xs) : inR xs := by
  rcases h with ⟨_, rfl⟩ | ⟨a, c, _, h⟩
  · intro x hx; cases hx
  · exact h.row.rng
theorem nat_of (p : Int) (p0 : 0 ≤ p) : ∃ k : Nat, p / 4 = k := ⟨(p / 4).toNat, by omega⟩

theorem beg_ob {w : World} {v : Value} {b : Nat} {xs : List Int} (h : Ob 98 w v b xs) (p : Int) (p0 : 0 ≤ p) (p1 : p < 4294967296) :
    Calls Tryz.prog 75 #[v, wd p] w fun e w' => e = .returned (.tuple #[.int .i64 (p / 4), .bool (beB xs p)]) ∧ w' = w := by
  unfold beB
  cases h0 : decide (p / 4 < xs.length)
  · go_enter Tryz.func75, Tryz.ntmps75
    go_wp2_with (go_at_call 118; refine (hold_ob h _ (by omega) (by omega)).mono ?_; rw [h0]; rintro e w' ⟨rfl, rfl⟩)
    go_ret2
    exact ⟨rfl, rfl⟩
  · go_enter Tryz.func75, Tryz.ntmps75
    go_wp2_with (go_at_call 118; refine (hold_ob h _ (by omega) (by omega)).mono ?_; rw [h0]; rintro e w' ⟨rfl, rfl⟩)
    go_ret2
    exact ⟨by simp, rfl⟩
theorem load_ob {w : World} {v : Value} {b : Nat} {xs : List Int} (h : Ob 98 w v b xs) (p : Int) (p0 : 0 ≤ p) (p1 : p < 4294967296) :
    Calls Tryz.prog 45 #[v, wd p] w fun e w' => e = .returned (.tuple #[wd (ldI xs p), .bool (beB xs p)]) ∧ w' = w := by
  unfold ldI
  cases h0 : beB xs p
  · go_enter Tryz.func45, Tryz.ntmps45
    go_wp2_with (go_at_call 75; refine (beg_ob h _ (by omega) (by omega)).mono ?_; rw [h0]; rintro e w' ⟨rfl, rfl⟩)
    go_ret2
    exact ⟨rfl, rfl⟩
  · obtain ⟨k, hk⟩ := nat_of p p0
    have hl : k < xs.length := by simp [beB] at h0; omega
    rcases h with ⟨rfl, rfl⟩ | ⟨a, c, rfl, h⟩
    · simp at hl
    · have hm := h.row.max
      have hle := h.row.le
      unfold maxLen at hm
      have hc := h.cell
      have hd := h.row.cell hl
      have H : Hid (Ob 98 w (.pointer (some ⟨a, 0, none⟩)) b xs) := .inr ⟨a, c, rfl, h⟩
      obtain ⟨X, hX⟩ : ∃ X, at0 xs k = X := ⟨_, rfl⟩
      rw [hX] at hd
      go_enter Tryz.func45, Tryz.ntmps45
      go_wp2_with (go_at_call 75; refine (beg_ob H.out _ (by omega) (by omega)).mono ?_; rw [h0]; rintro e w' ⟨rfl, rfl⟩)
      go_ret2
      exact ⟨rfl, rfl⟩
theorem store_ob {w : World} {v : Value} {b : Nat} {xs : List Int} (h : Ob 98 w v b xs) (p x : Int) (p0 : 0 ≤ p) (p1 : p < 4294967296) (x0 : 0 ≤ x) (x1 : x < 4294967296) :
    Calls Tryz.prog 133 #[v, wd p, wd x] w fun e w' => e = .returned (.bool (beB xs p)) ∧ w.grownBy w' (some b) ∧ Ob 98 w' v b (stL xs p x) := by
  unfold stL
  cases h0 : beB xs p
  · have H : Hid (Ob 98 w v b xs) := h
    go_enter Tryz.func133, Tryz.ntmps133
    go_wp2_with (go_at_call 75; refine (beg_ob H.out _ (by omega) (by omega)).mono ?_; rw [h0]; rintro e w' ⟨rfl, rfl⟩)
    go_ret
    exact ⟨rfl, World.grownBy.refl _ _, H.out⟩
  · obtain ⟨k, hk⟩ := nat_of p p0
    have hl : k < xs.length := by simp [beB] at h0; omega
    rcases h with ⟨rfl, rfl⟩ | ⟨a, c, rfl, h⟩
    · simp at hl
    · have hm := h.row.max
      have hle := h.row.le
      unfold maxLen at hm
      have hc := h.cell
      have hd := h.row.cell hl
      have hf := h.row.free k
      have H : Hid (Ob 98 w (.pointer (some ⟨a, 0, none⟩)) b xs) := .inr ⟨a, c, rfl, h⟩
      have HS : Hid (Mm 98 (w.setCell ⟨b, k, none⟩ (wd x)) a b c (xs.set k x)) := h.set (by decide) x0 x1
      go_enter Tryz.func133, Tryz.ntmps133
      go_wp2_with (go_at_call 75; refine (beg_ob H.out _ (by omega) (by omega)).mono ?_; rw [h0]; rintro e w' ⟨rfl, rfl⟩)
      go_ret
      refine ⟨rfl, grown_set _ _ _ _, .inr ⟨a, c, rfl, ?_⟩⟩
      exact HS.out
end Go.Proofs.YtfdofleohichiaaGreatDoor.Mem
