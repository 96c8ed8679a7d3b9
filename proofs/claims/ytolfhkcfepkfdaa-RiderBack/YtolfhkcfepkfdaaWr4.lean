/-
  The document's own writer (package spinetref08): Text, Bytes.
-/
import Derived.Test.YtolfhkcfepkfdaaWr3
import Derived.Laws.IdiomStrings
namespace Go.Proofs.Ytolfhkcfepkfdaa.Ri
open Go.RowKit Go.Proofs.Ytolfhkcfepkfdaa.Tx Go.Proofs.Ytolfhkcfepkfdaa.Bits
set_option linter.unusedVariables false
set_option linter.unusedSimpArgs false
set_option maxRecDepth 100000

set_option maxHeartbeats 2000000 in
theorem wtext_long {W : World} {B q : Nat} {v : Value} {xs : List UInt8} {sp : Bool} (r : Wb W B q v xs sp) (t : List UInt8) (ht : t.length ≤ 1000000) (h : 64 < t.length) :
    Calls Try.prog 31 #[.pointer (some ⟨q, 0, none⟩), .string (bs t)] W fun e W' => e = .returned (.tuple #[]) ∧ Wb W' B q v xs true ∧ Wst W W' q v v := by
  have HR := hide r
  have hf := fun k => free_at (k := k) r.head
  have c1 := r.c1
  have hz := bs_size t
  have j1 : (64 : Int) < t.length := by omega
  have j2 : (t.length : Int) ≤ 1000000 := by omega
  clear r
  go_enter Try.func31, Try.ntmps31
  go_wp2
  ((try simp only [Exit.inBlock, Exit.then]); refine bodyPost_ret (results_none rfl _ _ _) rfl ?_)
  exact ⟨rfl, HR.out.spoil, Wst.grown (set_g _ _ _ _)⟩
set_option maxHeartbeats 2000000 in
theorem wtext_zero {W : World} {B q : Nat} {v : Value} {xs : List UInt8} {sp : Bool} (r : Wb W B q v xs sp) (t : List UInt8) (h : t.length ≤ 64) (n : Nat) (h0 : t[n]? = some 0) (hz : ∀ i c, i < n → t[i]? = some c → c ≠ 0) :
    Calls Try.prog 31 #[.pointer (some ⟨q, 0, none⟩), .string (bs t)] W fun e W' => e = .returned (.tuple #[]) ∧ Wb W' B q v xs true ∧ Wst W W' q v v := by
  have HR := hide r
  have hf := fun k => free_at (k := k) r.head
  have c1 := r.c1
  have hsz := bs_size t
  have j1 : ¬ (64 : Int) < t.length := by omega
  obtain ⟨hn, hc0⟩ := List.getElem?_eq_some_iff.1 h0
  have HZ := hide hz
  have HC := hide hc0
  clear r h0 hz hc0
  go_enter Try.func31, Try.ntmps31
  go_wp2
  go_loop [4] (fun iv => ∃ i : Nat, i ≤ n ∧ iv = .int .i64 i) (fun iv => n - (intOf iv).toNat)
  case atStart => exact ⟨0, by omega, rfl⟩
  case round =>
    obtain ⟨i, hi, rfl⟩ := hrel
    have hlt : i < t.length := by omega
    have j2 : (i : Int) < t.length := by omega
    have hb : ∀ h, (bs t)[i]'h = t[i] := fun h => rfl
    by_cases hin : i < n
    · have hne : ((t[i].toNat : Int) == 0) = false := by
        have := HZ.out i _ hin (List.getElem?_eq_getElem hlt)
        have h2 : t[i].toNat ≠ 0 := fun e => this (UInt8.toNat_inj.1 e)
        simpa using h2
      go_wp2
      exact ⟨⟨i + 1, by omega, by go_num⟩, by simp [intOf]; omega⟩
    · obtain rfl : i = n := by omega
      have hne : ((t[i].toNat : Int) == 0) = true := by rw [HC.out]; rfl
      go_wp2
      ((try simp only [Exit.inBlock, Exit.then]); refine bodyPost_ret (results_none rfl _ _ _) rfl ?_)
      exact ⟨rfl, HR.out.spoil, Wst.grown (set_g _ _ _ _)⟩
theorem wbytes_bad {W : World} {B q : Nat} {v : Value} {xs : List UInt8} (r : Wb W B q v xs true) : Calls Try.prog 13 #[.pointer (some ⟨q, 0, none⟩)] W fun e W' => e = .returned (.tuple #[.string (bs []), .int .i64 1]) ∧ W' = W := by
  have c1 := r.c1
  have b0' : (⟨#[]⟩ : ByteArray) = bs [] := rfl
  clear r
  go_enter Try.func13, Try.ntmps13
  go_wp2
  go_ret2
  exact ⟨rfl, rfl⟩
theorem own_shape {w : World} {B n : Nat} {e : TypeId} {v : Value} {xs : List Value} (h : w.ownsRow B e 1 v n xs) : ∃ a c, v = .slice a n c := by
  rcases h.2 with ⟨rfl, h0⟩ | ⟨g, cap, cur, rfl, _⟩
  · exact ⟨none, 0, by rw [h0]⟩
  · exact ⟨_, cap, rfl⟩
theorem wbytes_long {W : World} {B q : Nat} {v : Value} {xs : List UInt8} (r : Wb W B q v xs false) (h : 131072 < xs.length) (hm : xs.length ≤ 10000000) : Calls Try.prog 13 #[.pointer (some ⟨q, 0, none⟩)] W fun e W' => e = .returned (.tuple #[.string (bs []), .int .i64 2]) ∧ W' = W := by
  have c0 := r.c0
  have c1 := r.c1
  obtain ⟨a, c, hv⟩ := own_shape r.row
  rw [hv] at c0
  have b0' : (⟨#[]⟩ : ByteArray) = bs [] := rfl
  have j1 : (131072 : Int) < xs.length := by omega
  clear r h
  go_enter Try.func13, Try.ntmps13
  go_wp2
  go_ret2
  exact ⟨rfl, rfl⟩
theorem conv_own {w : World} {B n : Nat} {v : Value} {l : List UInt8} (h : w.ownsRow B 5 1 v n (l.map b8)) : (convert 26 9 v).run Try.prog w = .ok (.string (bs l)) w := by
  have hl : l.length = n := by simpa using h.1
  subst hl
  rcases h.2 with ⟨rfl, h0⟩ | ⟨g, cap, cur, rfl, hb, hg, hc, hm, hs, ht⟩
  · have : l = [] := List.length_eq_zero_iff.1 h0
    subst this
    exact run_convert_bytes_nil (w := w) 26 5 Try.underlying26 Try.underlying5 _ _ 9 Try.underlying9
  · refine run_convert_bytes_back w 26 9 5 ⟨g, 0, none⟩ cap l Try.underlying26 Try.underlying5 Try.underlying9 fun j hj => ?_
    have e := congrArg (fun l => l[j]?) ht
    simp only [Nat.mul_one, List.getElem?_map, List.getElem?_eq_getElem hj, Option.map_some] at e
    rw [List.getElem?_take, if_pos hj, Array.getElem?_toList] at e
    have k : (⟨g, 0, none⟩ : Addr).add j = ⟨g, j, none⟩ := by unfold Addr.add; split <;> simp_all
    rw [k, cell_of_row _ _ _ _ _ _ hg]
    exact e
theorem wbytes_ok {W : World} {B q : Nat} {v : Value} {xs : List UInt8} (r : Wb W B q v xs false) (h : xs.length ≤ 131072) : Calls Try.prog 13 #[.pointer (some ⟨q, 0, none⟩)] W fun e W' => e = .returned (.tuple #[.string (bs xs), .int .i64 0]) ∧ W' = W := by
  have c0 := r.c0
  have c1 := r.c1
  have hcv := conv_own r.row
  obtain ⟨a, c, hv⟩ := own_shape r.row
  rw [hv] at c0 hcv
  have j1 : ¬ (131072 : Int) < xs.length := by omega
  clear r
  go_enter Try.func13, Try.ntmps13
  go_wp2
  go_ret2
  exact ⟨rfl, rfl⟩
end Go.Proofs.Ytolfhkcfepkfdaa.Ri
