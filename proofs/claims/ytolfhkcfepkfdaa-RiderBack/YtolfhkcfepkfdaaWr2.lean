/-
  The document's own writer (package spinetref08): Byte.
-/
import Derived.Test.YtolfhkcfepkfdaaWr1
namespace Go.Proofs.Ytolfhkcfepkfdaa.Ri
open Go.RowKit Go.Proofs.Ytolfhkcfepkfdaa.Tx
set_option linter.unusedVariables false
set_option linter.unusedSimpArgs false
set_option maxRecDepth 100000

/- A number's lowest byte. -/
def lo8 (b : Int) : UInt8 := UInt8.ofNat (b % 256).toNat
theorem lo8_val (b : Int) : ((lo8 b).toNat : Int) = b % 256 := by
  unfold lo8
  rw [UInt8.toNat_ofNat']
  omega
theorem tmod_is (n m : Int) : n.tmod m = if 0 ≤ n then n % m else -(-n % m) := by
  split
  · rename_i h; exact Int.tmod_eq_emod_of_nonneg h
  · rename_i h
    have := Int.neg_tmod n m
    rw [← Int.tmod_eq_emod_of_nonneg (by omega), this]
    omega
theorem rem256 (b : Int) : (b.tmod 256 + 256).tmod 256 = b % 256 := by
  rw [tmod_is b]
  split
  · rw [tmod_is, if_pos (by omega)]; omega
  · rw [tmod_is, if_pos (by omega)]; omega
theorem Wb.put {W W1 : World} {B q : Nat} {v v' : Value} {xs ys : List UInt8} {sp : Bool} (r : Wb W B q v xs sp) (o : Obj) (ho : W1.ownsRow B 5 1 v' ys.length (ys.map b8)) (hg : (W.alloc o).grownBy W1 v.ownBlock) (hv : v'.ownBlock = v.ownBlock ∨ v'.ownBlock = some (W.alloc o).heap.size) :
    Wb (W1.setCell ⟨q, 0, none⟩ v') B q v' ys sp ∧ Wst W (W1.setCell ⟨q, 0, none⟩ v') q v v' := by
  have hq : q < (W.alloc o).heap.size := by have := r.lt; simp; omega
  have hh : W1.heap[q]? = some (.cells #[v, .bool sp] 28 (0, 0)) := by
    rw [hg.block q hq (fun e => r.off e.symm), heap_alloc_old _ _ r.lt]
    exact r.head
  have hoff : v'.ownBlock ≠ some q := fun e => by
    rcases hv with h | h
    · exact r.off (h ▸ e)
    · rw [h] at e
      have := Option.some.inj e
      omega
  have h2 := set_g W1 q 0 v'
  have hs := hg.size
  refine ⟨⟨two_set hh 0 _, ho.kept h2 (.inr hoff)⟩, ⟨h2.os.trans hg.os, h2.tape.trans hg.tape, h2.output.trans hg.output, ?_, fun i hi hne hv' => ?_, fun k hk => ?_⟩⟩
  · have := h2.size
    simp at hs
    omega
  · rw [h2.block i (by simp at hs; omega) (fun e => hne (Option.some.inj e)), hg.block i (by simp; omega) (fun e => hv' e.symm), heap_alloc_old _ _ hi]
  · rcases hv with h | h
    · exact .inl (h ▸ hk)
    · rw [h] at hk
      have := Option.some.inj hk
      simp at this
      exact .inr (by omega)
theorem Wb.stays {W W1 : World} {B q : Nat} {v : Value} {xs : List UInt8} {sp : Bool} (r : Wb W B q v xs sp) {o : Obj} (hg : (W.alloc o).grownBy W1 v.ownBlock) : W1.heap[q]? = some (.cells #[v, .bool sp] 28 (0, 0)) := by
  rw [hg.block q (by have := r.lt; simp; omega) (fun e => r.off e.symm), heap_alloc_old _ _ r.lt]
  exact r.head
theorem Wb.free {W W1 : World} {B q : Nat} {v : Value} {xs : List UInt8} {sp : Bool} (r : Wb W B q v xs sp) {o : Obj} (hg : (W.alloc o).grownBy W1 v.ownBlock) : W1.frozen? ⟨q, 0, none⟩ = false := free_at (r.stays hg)
theorem Wb.cell {W W1 : World} {B q : Nat} {v : Value} {xs : List UInt8} {sp : Bool} (r : Wb W B q v xs sp) {o : Obj} (hg : (W.alloc o).grownBy W1 v.ownBlock) : W1.cell? ⟨q, 0, none⟩ = some v := by rw [cell_of_row _ _ _ _ _ _ (r.stays hg)]; rfl
set_option maxHeartbeats 2000000 in
theorem wbyte {W : World} {B q : Nat} {v : Value} {xs : List UInt8} {sp : Bool} (r : Wb W B q v xs sp) (hl : xs.length ≤ 10000000) (hB : B ≤ W.heap.size) (b : Int) (b0 : -9223372036854775808 ≤ b) (b1 : b ≤ 9223372036854775807) :
    Calls Try.prog 28 #[.pointer (some ⟨q, 0, none⟩), .int .i64 b] W fun e W' => e = .returned (.tuple #[]) ∧ ∃ v', Wb W' B q v' (xs ++ [lo8 b]) sp ∧ Wst W W' q v v' := by
  have c0 := r.c0
  have HR := hide r
  have hm : (wrap64 (b.tmod 256 + 256)).tmod 256 % 256 = ((lo8 b).toNat : Int) := by
    have h1 : wrap64 (b.tmod 256 + 256) = b.tmod 256 + 256 := by
      unfold wrap64
      rw [tmod_is]
      split <;> omega
    rw [h1, rem256, lo8_val]
    omega
  have hq := r.lt
  have HL := hide hl
  have hf := fun k => free_at (k := k) r.head
  clear r hl
  go_enter Try.func28, Try.ntmps28
  go_wp2_with (at_builtin; refine wp_app8 rfl _ _ rfl B v xs rfl (HR.out.row.alloc _) W.heap.size (lo8 b) rfl (cell_one _ _ _) HL.out (by simp; omega) ?_; intro g1 n1 p1 w1 h1 h2 h3; have HP := hide (HR.out.put _ h1 h2 h3); have hq1 : w1.frozen? ⟨q, 0, none⟩ = false := HR.out.free h2; have hc1 := HR.out.cell h2; clear h1 h2 h3)
  go_end0
  exact ⟨rfl, _, HP.out.1, HP.out.2⟩
end Go.Proofs.Ytolfhkcfepkfdaa.Ri
