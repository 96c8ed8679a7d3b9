/-
  Package rider's reader: Num, told as the document's own; the laws' own wakes.
-/
import Derived.Test.YtolfhkcfepkfdaaPr4
import Derived.Test.YtolfhkcfepkfdaaPr3
import Derived.Test.YtolfhkcfepkfdaaPw3
namespace Go.Proofs.Ytolfhkcfepkfdaa.Ri
open Go.RowKit Go.Proofs.Ytolfhkcfepkfdaa.Tx Go.Proofs.Ytolfhkcfepkfdaa.Bits
set_option linter.unusedVariables false
set_option linter.unusedSimpArgs false
set_option maxRecDepth 100000

/- The bytes with 128 more, and what comes behind them. -/
structure Scan (s : List UInt8) (p : Nat) (d : List UInt8) (c : Option UInt8) : Prop where
  hi : ∀ e ∈ d, 128 ≤ e.toNat
  len : d.length ≤ 5
  pre : ∀ i (h : i < d.length), s[p + i]? = some d[i]
  nx : s[p + d.length]? = c
  stop : d.length = 5 ∨ c = none ∨ ∃ c', c = some c' ∧ c'.toNat < 128
theorem scan_list : ∀ (k : Nat) (L : List UInt8), ∃ (d : List UInt8) (c : Option UInt8), (∀ e ∈ d, 128 ≤ e.toNat) ∧ d.length ≤ k ∧ (∀ i (h : i < d.length), L[i]? = some d[i]) ∧ L[d.length]? = c ∧ (d.length = k ∨ c = none ∨ ∃ c', c = some c' ∧ c'.toNat < 128)
  | 0, L => ⟨[], L[0]?, by simp, by simp, by simp, rfl, .inl rfl⟩
  | k + 1, [] => ⟨[], none, by simp, by simp, by simp, rfl, .inr (.inl rfl)⟩
  | k + 1, b :: L => by
    by_cases hb : b.toNat < 128
    · exact ⟨[], some b, by simp, by simp, by simp, rfl, .inr (.inr ⟨b, rfl, hb⟩)⟩
    · obtain ⟨d, c, h1, h2, h3, h4, h5⟩ := scan_list k L
      refine ⟨b :: d, c, ?_, by simpa using h2, ?_, by simpa using h4, ?_⟩
      · intro e he
        rcases List.mem_cons.1 he with rfl | he
        · omega
        · exact h1 e he
      · intro i hi
        cases i with
        | zero => rfl
        | succ i => simpa using h3 i (by simpa using hi)
      · rcases h5 with h | h | h
        · exact .inl (by simpa using h)
        · exact .inr (.inl h)
        · exact .inr (.inr h)
theorem scan_at (s : List UInt8) (p : Nat) : ∃ d c, Scan s p d c := by
  obtain ⟨d, c, h1, h2, h3, h4, h5⟩ := scan_list 5 (s.drop p)
  exact ⟨d, c, h1, h2, fun i h => by rw [← List.getElem?_drop]; exact h3 i h, by rw [← List.getElem?_drop]; exact h4, h5⟩
section
variable {W : World} {q p : Nat} {s : List UInt8} {bad : Bool}
/- What a call of Num leaves. -/
def pnumE (W : World) (q : Nat) (s : List UInt8) (p k : Nat) (x : Option Int) (e : Ending) (W' : World) : Prop := match x with
  | some n => e = .returned (.int .i64 n) ∧ Pb W' q s (p + k) false ∧ W.grownBy W' (some q)
  | none => e = .returned (.int .i64 0) ∧ Pb W' q s p true ∧ W.grownBy W' (some q)
theorem pnum_run {d : List UInt8} {c : Option UInt8} (r : Pb W q s p false) (h : Scan s p d c) : Calls Try.prog 21 #[.pointer (some ⟨q, 0, none⟩)] W fun e W' => pnumE W q s p (d.length + 1) (numR d c) e W' := by
  by_cases hw : d.length ≤ 4 ∧ ∃ c', c = some c' ∧ c'.toNat < 128
  · obtain ⟨h4, c', rfl, hc'⟩ := hw
    obtain ⟨hsh, _⟩ := valN_snoc c' hc' d h.hi
    have hlt : p + d.length < s.length := (List.getElem?_eq_some_iff.1 h.nx).1
    have hLl : (s.drop p).length = s.length - p := by simp
    have hLn : d.length < (s.drop p).length := by omega
    have hgd : ∀ i (hi : i < d.length), (s.drop p)[i]'(by omega) = d[i] := fun i hi => by
      have := h.pre i hi
      rw [← List.getElem?_drop, List.getElem?_eq_getElem (by omega)] at this
      exact Option.some.inj this
    have hgc : (s.drop p)[d.length] = c' := by
      have := h.nx
      rw [← List.getElem?_drop, List.getElem?_eq_getElem (by omega)] at this
      exact Option.some.inj this
    have htk : (s.drop p).take (d.length + 1) = d ++ [c'] := by
      rw [List.take_succ_eq_append_getElem hLn, hgc]
      congr 1
      apply List.ext_getElem
      · simp; omega
      · intro i h1 h2
        rw [List.getElem_take]
        exact hgd i h2
    have hw := pnum_whole r (s.drop p) (d ++ [c']) rfl d.length h4 hLn (fun i hi hin => by rw [hgd i hin]; exact h.hi _ (List.getElem_mem hin)) (by rw [hgc]; exact hc') htk hsh
    have hll : (d ++ [c']).length = d.length + 1 := by simp
    have hns := num_same hsh (by omega)
    rw [hll] at hns hw
    refine hw.mono fun e W' ⟨hy, hn⟩ => ?_
    by_cases hn' : numL (wrap32 (valN (d ++ [c']))) = d ++ [c']
    · obtain ⟨hf, hl⟩ := hns.1 hn'
      have hR : numR d (some c') = some (valN (d ++ [c'])) := by unfold numR; simp only []; rw [if_pos ⟨hc', h4, hf, hl⟩]
      rw [hR]
      have := hy hn'
      have hb := fits_in.1 hf
      rw [show wrap32 (valN (d ++ [c'])) = valN (d ++ [c']) by unfold wrap32; omega] at this
      exact this
    · have hR : numR d (some c') = none := by
        unfold numR
        simp only []
        rw [if_neg]
        intro ⟨_, _, hf, hl⟩
        exact hn' (hns.2 ⟨hf, hl⟩)
      rw [hR]
      exact hn hn'
  · have hR : numR d c = none := by
      unfold numR
      split
      · rename_i c'
        rw [if_neg]
        intro ⟨h1, h2, _⟩
        exact hw ⟨h2, c', rfl, h1⟩
      · rfl
    rw [hR]
    refine pnum_none r (.inr fun i hi h5 => ?_)
    have hid : i < d.length := by
      rcases h.stop with h1 | h1 | ⟨c', h1, h2⟩
      · omega
      · have := h.nx
        rw [h1] at this
        have := List.getElem?_eq_none_iff.1 this
        omega
      · have : ¬ d.length ≤ 4 := fun h3 => hw ⟨h3, c', h1, h2⟩
        omega
    have := h.pre i hid
    rw [List.getElem?_eq_getElem hi] at this
    rw [Option.some.inj this]
    exact h.hi _ (List.getElem_mem hid)
theorem rnum_run {d : List UInt8} {c : Option UInt8} (r : Rb W q s p false) (h : Scan s p d c) : Calls Try.prog 33 #[.pointer (some ⟨q, 0, none⟩)] W fun e W' => numE W q s p (d.length + 1) (numR d c) e W' :=
  num_run r d c h.hi h.len h.pre h.nx h.stop
theorem pnum_was (r : Pb W q s p true) : Calls Try.prog 21 #[.pointer (some ⟨q, 0, none⟩)] W fun e W' => e = .returned (.int .i64 0) ∧ Pb W' q s p true ∧ W.grownBy W' (some q) := pnum_none r (.inl rfl)
end
/- A number's own bytes are read. -/
theorem scan_num {s : List UInt8} {p : Nat} {n : Int} {t : List UInt8} (hn : fitsB n 32 = true) (h : s.drop p = numL n ++ t) : ∃ d c, Scan s p d c ∧ numR d c = some n ∧ d.length + 1 = (numL n).length := by
  obtain ⟨hsh, hv⟩ := numF_shp 4 n (in4 hn)
  have hlen : (numL n).length ≤ 5 := numF_len 4 n
  have hsh : Shp (numL n) := hsh
  have hv : valN (numL n) = n := hv
  have key : ∀ l : List UInt8, Shp l → ∃ d c, l = d ++ [c] ∧ (∀ e ∈ d, 128 ≤ e.toNat) ∧ c.toNat < 128 := by
    intro l
    induction l with
    | nil => intro h; exact h.elim
    | cons a r ih =>
      intro h
      cases r with
      | nil => exact ⟨[], a, rfl, by simp, h⟩
      | cons b r =>
        obtain ⟨d, c, h1, h2, h3⟩ := ih h.2
        refine ⟨a :: d, c, by rw [h1]; rfl, ?_, h3⟩
        intro e he
        rcases List.mem_cons.1 he with rfl | he
        · exact h.1
        · exact h2 e he
  obtain ⟨d, c, h1, h2, h3⟩ := key _ hsh
  have hd1 : d.length + 1 = (numL n).length := by rw [h1]; simp
  refine ⟨d, some c, ⟨h2, by omega, fun i hi => ?_, ?_, .inr (.inr ⟨c, rfl, h3⟩)⟩, ?_, hd1⟩
  · rw [← List.getElem?_drop, h, h1, List.append_assoc, List.getElem?_append_left hi, List.getElem?_eq_getElem hi]
  · rw [← List.getElem?_drop, h, h1, List.append_assoc, List.getElem?_append_right (Nat.le_refl _)]
    simp
  · unfold numR
    simp only []
    rw [← h1, hv, if_pos ⟨h3, by omega, hn, by omega⟩]
end Go.Proofs.Ytolfhkcfepkfdaa.Ri
