/-
  What memory's New, Fork and Words answer.
-/
import Derived.Test.YtfdofleohichiaaGreatDoorMem2
namespace Go.Proofs.YtfdofleohichiaaGreatDoor.Mem
open Go.RowKit Go.Proofs.YtfdofleohichiaaGreatDoor.Bits

theorem grown_trans {a b c : World} {r : Option Nat} (h : a.grownBy b r) (k : b.grownBy c r) : a.grownBy c r :=
  ⟨k.os.trans h.os, k.tape.trans h.tape, k.output.trans h.output, Nat.le_trans h.size k.size, fun j hj hr => (k.block j (Nat.lt_of_lt_of_le hj h.size) hr).trans (h.block j hj hr)⟩
theorem Arr.alloc {w : World} {b c : Nat} {xs : List Int} (h : Arr w b c xs) (o : Obj) : Arr (w.alloc o) b c xs := h.kept (World.grownBy_alloc w o none) (by simp)
theorem mm_new {T : TypeId} {w : World} {b c : Nat} {xs : List Int} (h : Arr w b c xs) : Mm T (w.alloc (.cells #[.slice (some ⟨b, 0, none⟩) xs.length c] T)) w.heap.size b c xs :=
  ⟨heap_alloc_new w _, h.alloc _⟩
theorem new_many {w : World} {ao : Option Addr} {n cp : Nat} (hn : 65536 < n) (hm : n ≤ 9223372036854775807) :
    Calls Tryz.prog 22 #[.slice ao n cp] w fun e w' => e = .returned (.tuple #[.pointer none, .int .i64 3]) ∧ w' = w := by
  go_enter Tryz.func22, Tryz.ntmps22
  go_wp2
  go_ret2
  exact ⟨rfl, rfl⟩
theorem new_ok {w : World} {ao : Option Addr} {xs : List Int} {cp : Nat} (hs : Src w ao xs) (hr : inR xs) (hn : xs.length ≤ 65536) :
    Calls Tryz.prog 22 #[.slice ao xs.length cp] w fun e w' => ∃ a b, e = .returned (.tuple #[.pointer (some ⟨a, 0, none⟩), .int .i64 0]) ∧ w.grownBy w' none ∧ Mm 98 w' a b xs.length xs ∧ w.heap.size ≤ a ∧ w.heap.size ≤ b := by
  obtain ⟨n, hnn⟩ : ∃ n, n = xs.length := ⟨_, rfl⟩
  have HN : Hid (n = xs.length) := hnn
  have HS : Hid (Src w ao xs) := hs
  have HR : Hid (inR xs) := hr
  rw [← hnn] at hn ⊢
  clear hnn hs hr
  go_enter Tryz.func22, Tryz.ntmps22
  go_wp2_with (go_at_call 43; rw [HN.out]; refine (copied_any HS.out HR.out (by rw [← HN.out]; omega)).mono ?_; rintro e w1 ⟨rfl, hg, ha⟩; rw [← HN.out]; have HA : Hid (Arr w1 w.heap.size xs.length xs) := ha; clear ha)
  go_ret2
  have hsz := hg.size
  have hm := mm_new (T := 98) HA.out
  rw [← HN.out] at hm
  exact ⟨_, _, rfl, grown_trans hg (World.grownBy_alloc _ _ _), hm, hsz, Nat.le_refl _⟩
def okW (xs : List Int) (i n : Int) : Bool := decide (0 ≤ i ∧ 0 ≤ n ∧ n ≤ xs.length - i)
def cutL (xs : List Int) (i n : Int) : List Int := if okW xs i n = true then (xs.drop i.toNat).take n.toNat else []
theorem src_empty (w : World) (ao : Option Addr) : Src w ao [] := ⟨fun _ => rfl, fun _ _ j u hu => (by simp at hu)⟩
theorem inR_nil : inR [] := fun x hx => (by cases hx)
theorem copied_n {w : World} {ao : Option Addr} {xs : List Int} {n cp : Nat} (hs : Src w ao xs) (hr : inR xs) (hl : xs.length = n) (hn : n ≤ 1000000000000) :
    Calls Tryz.prog 43 #[.slice ao n cp] w fun e w' => e = .returned (.slice (some ⟨w.heap.size, 0, none⟩) n n) ∧ w.grownBy w' none ∧ Arr w' w.heap.size n xs := by
  subst hl
  exact copied_any hs hr hn
theorem inR_cut {xs : List Int} (h : inR xs) (i n : Nat) : inR ((xs.drop i).take n) := fun x hx => h x (List.mem_of_mem_drop (List.mem_of_mem_take hx))
theorem Arr.srcAt {w : World} {b c : Nat} {xs : List Int} (h : Arr w b c xs) (i n : Nat) : Src w (some ⟨b, i, none⟩) ((xs.drop i).take n) := by
  refine Src.mk' fun j u hu => ?_
  have hj : j < ((xs.drop i).take n).length := by have := (List.getElem?_eq_some_iff.1 hu).1; simpa using this
  simp only [List.length_take, List.length_drop] at hj
  have hj := Nat.lt_min.1 hj
  rw [Addr.add_lit, h.cell (by omega)]
  rw [List.getElem?_map, List.getElem?_take, if_pos hj.1, List.getElem?_drop, List.getElem?_eq_getElem (by omega)] at hu
  simp at hu
  rw [← hu]
  simp [at0, show i + j < xs.length by omega]
theorem cut_len {xs : List Int} {i n : Nat} (h : i + n ≤ xs.length) : ((xs.drop i).take n).length = n := by simp; omega
end Go.Proofs.YtfdofleohichiaaGreatDoor.Mem
