/-
  The document's own layer 2 (package spinetref02): a word's instruction; are two instructions alike?
-/
import Derived.Test.YtfdofleohichiaaGreatDoorRref2
import Derived.Test.YtfdofleohichiaaGreatDoorRisc7
namespace Go.Proofs.YtfdofleohichiaaGreatDoor.Risc
open Go.RowKit Go.Proofs.YtfdofleohichiaaGreatDoor.Bits Go.Proofs.YtfdofleohichiaaGreatDoor.Gw

theorem rencode_at {x : Int} {g : Bool} {Y b c op im : Int} (hg : goodR (uF x) (uU x) (uV x) (uA x) (uB x) (uC x) (uOp x) (uIm x) = g) (hY : againI x = Y)
    (hb : uB x = b) (hc : uC x = c) (ho : uOp x = op) (hi : uIm x = im) (W : World) :
    Calls Tryz.prog 25 #[ins (fgetI 30 2 false x) (fgetI 29 1 false x == 1) (fgetI 28 1 false x == 1) (fgetI 24 4 false x) b c op im] W
      fun e w' => e = .returned (if g = true then .tuple #[.int .u32 Y, .int .i64 0] else .tuple #[.int .u32 0, .int .i64 20]) ∧ ∃ p : By, w' = gr W p := by
  subst hg hY hb hc ho hi
  exact rencode_any (uF x) (uU x) (uV x) (uA x) (uB x) (uC x) (uOp x) (uIm x) W
theorem gr_setCell (w : World) (p : By) (a : Addr) (v : Value) (h : a.block < w.heap.size) : gr (w.setCell a v) p = (gr w p).setCell a v := by
  simp only [gr, World.setCell]
  congr 1
  apply Array.ext_getElem?
  intro k
  simp only [Array.getElem?_modify, Array.getElem?_append, Array.size_modify]
  by_cases hk : k < w.heap.size
  · simp [hk]
  · have : a.block ≠ k := by omega
    simp [hk, this]
theorem size_set (w : World) (a : Addr) (v : Value) : (w.setCell a v).heap.size = w.heap.size := by simp [World.setCell]
theorem set_in (V : World) (o : Obj) (q : By) : V.heap.size < (gr (V.alloc o) q).heap.size := lt_gr V o q
theorem set1 (V : World) (o : Obj) (q p : By) (i : Nat) (x : Value) : gr ((gr (V.alloc o) q).setCell ⟨V.heap.size, i, none⟩ x) p = (gr (V.alloc o) (q ++ p)).setCell ⟨V.heap.size, i, none⟩ x := by
  rw [gr_setCell _ _ _ _ (set_in V o q), gr_gr]
theorem set2 (V : World) (o : Obj) (q p : By) (i j : Nat) (x y : Value) :
    gr (((gr (V.alloc o) q).setCell ⟨V.heap.size, i, none⟩ x).setCell ⟨V.heap.size, j, none⟩ y) p = ((gr (V.alloc o) (q ++ p)).setCell ⟨V.heap.size, i, none⟩ x).setCell ⟨V.heap.size, j, none⟩ y := by
  rw [gr_setCell _ _ _ _ (by rw [size_set]; exact set_in V o q), set1]
theorem set3 (V : World) (o : Obj) (q p : By) (i j k : Nat) (x y z : Value) :
    gr ((((gr (V.alloc o) q).setCell ⟨V.heap.size, i, none⟩ x).setCell ⟨V.heap.size, j, none⟩ y).setCell ⟨V.heap.size, k, none⟩ z) p =
      (((gr (V.alloc o) (q ++ p)).setCell ⟨V.heap.size, i, none⟩ x).setCell ⟨V.heap.size, j, none⟩ y).setCell ⟨V.heap.size, k, none⟩ z := by
  rw [gr_setCell _ _ _ _ (by rw [size_set, size_set]; exact set_in V o q), set2]
theorem ne_new (w : World) (o : Obj) (p : By) : ¬ w.heap.size = (gr (w.alloc o) p).heap.size := by have := lt_gr w o p; omega
theorem ne_new' (w : World) (o : Obj) (p : By) : ¬ (gr (w.alloc o) p).heap.size = w.heap.size := by have := lt_gr w o p; omega

end Go.Proofs.YtfdofleohichiaaGreatDoor.Risc
