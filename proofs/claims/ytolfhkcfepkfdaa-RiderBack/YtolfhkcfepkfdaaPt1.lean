/-
  A writer and the document's own side by side.
-/
import Derived.Test.YtolfhkcfepkfdaaRwk
namespace Go.Proofs.Ytolfhkcfepkfdaa.Ri
open Go.RowKit Go.Proofs.Ytolfhkcfepkfdaa.Tx Go.Proofs.Ytolfhkcfepkfdaa.Bits
set_option linter.unusedVariables false
set_option linter.unusedSimpArgs false
set_option maxRecDepth 100000

/- What an item puts: bytes, or nothing that can be put. -/
def pxs (xs : List UInt8) (sp : Bool) (o : Option (List UInt8)) : List UInt8 := match o with | some e => nxA xs sp e | none => []
def rys (ys : List UInt8) (o : Option (List UInt8)) : List UInt8 := match o with | some e => ys ++ e | none => ys
def psp (sp : Bool) (o : Option (List UInt8)) : Bool := match o with | some _ => sp | none => true
def PPut (f : Nat) (a : Array Value) (o : Option (List UInt8)) : Prop :=
  ∀ (W : World) (B q : Nat) (v : Value) (xs : List UInt8) (sp : Bool), Ww W B q v xs sp → xs.length ≤ 100000 → B ≤ W.heap.size →
    Calls Try.prog f (#[.pointer (some ⟨q, 0, none⟩)] ++ a) W fun e W' => e = .returned (.tuple #[]) ∧ ∃ v', Ww W' B q v' (pxs xs sp o) (psp sp o) ∧ Wst W W' q v v'
def RPut (f : Nat) (a : Array Value) (o : Option (List UInt8)) : Prop :=
  ∀ (W : World) (B q : Nat) (v : Value) (xs : List UInt8) (sp : Bool), Wb W B q v xs sp → xs.length ≤ 100000 → B ≤ W.heap.size →
    Calls Try.prog f (#[.pointer (some ⟨q, 0, none⟩)] ++ a) W fun e W' => e = .returned (.tuple #[]) ∧ ∃ v', Wb W' B q v' (rys xs o) (psp sp o) ∧ Wst W W' q v v'
def numO (n : Int) : Option (List UInt8) := if fitsB n 32 = true then some (numL n) else none
def txB (t : List UInt8) : Bool := decide (t.length ≤ 64) && t.all (· != 0)
theorem txB_iff (t : List UInt8) : txB t = true ↔ okT t := by simp [txB, okT]
def textO (t : List UInt8) : Option (List UInt8) := if txB t = true then some (t ++ [0]) else none
theorem pput_byte (b : Int) : PPut 16 #[.int .i64 b] (some [lo8 b]) := fun W B q v xs sp r hl hB => pwbyte r (by omega) hB b
theorem rput_byte (b : Int) (b0 : -9223372036854775808 ≤ b) (b1 : b ≤ 9223372036854775807) : RPut 28 #[.int .i64 b] (some [lo8 b]) := fun W B q v xs sp r hl hB => wbyte r (by omega) hB b b0 b1
theorem pput_num (n : Int) : PPut 17 #[.int .i64 n] (numO n) := fun W B q v xs sp r hl hB => by
  unfold numO
  cases h : fitsB n 32
  · exact pwnum_no r n h
  · exact pwnum_yes r (by omega) hB n h
theorem rput_num (n : Int) : RPut 29 #[.int .i64 n] (numO n) := fun W B q v xs sp r hl hB => by
  unfold numO
  cases h : fitsB n 32
  · exact (wnum_no r n h).mono fun e W' ⟨he, h1, h2⟩ => ⟨he, v, h1, h2⟩
  · exact wnum_yes r (by omega) hB n h
theorem pput_word (x : Int) (x0 : 0 ≤ x) (x1 : x < 4294967296) : PPut 18 #[.int .u32 x] (some (wordL x)) := fun W B q v xs sp r hl hB => pwword r hl hB x x0 x1
theorem rput_word (x : Int) (x0 : 0 ≤ x) (x1 : x < 4294967296) : RPut 30 #[.int .u32 x] (some (wordL x)) := fun W B q v xs sp r hl hB => wword r (by omega) hB x x0 x1
theorem pput_text (t : List UInt8) (ht : t.length ≤ 1000000) : PPut 19 #[.string (bs t)] (textO t) := fun W B q v xs sp r hl hB => by
  unfold textO
  by_cases h : okT t
  · rw [if_pos ((txB_iff t).2 h)]; exact pwtext_yes r hl hB t h
  · rw [if_neg (fun e => h ((txB_iff t).1 e))]; exact pwtext_no r t ht h
theorem rput_text (t : List UInt8) (ht : t.length ≤ 1000000) : RPut 31 #[.string (bs t)] (textO t) := fun W B q v xs sp r hl hB => by
  unfold textO
  by_cases h : okT t
  · rw [if_pos ((txB_iff t).2 h)]; exact wtext_ok r (by omega) hB t h.1 h.2
  · rw [if_neg (fun e => h ((txB_iff t).1 e))]
    rcases not_okT h with h1 | ⟨h1, n, h2, h3⟩
    · exact (wtext_long r t ht h1).mono fun e W' ⟨he, h1, h2⟩ => ⟨he, v, h1, h2⟩
    · exact (wtext_zero r t h1 n h2 h3).mono fun e W' ⟨he, h1, h2⟩ => ⟨he, v, h1, h2⟩
/- Of at most 65 bytes. -/
def few (o : Option (List UInt8)) : Prop := ∀ e, o = some e → e.length ≤ 65
theorem few_num (n : Int) : few (numO n) := fun e he => by
  unfold numO at he
  split at he
  · have := numF_len 4 n
    rw [← Option.some.inj he]
    unfold numL
    omega
  · cases he
theorem few_text (t : List UInt8) : few (textO t) := fun e he => by
  unfold textO at he
  split at he
  · rename_i h
    rw [← Option.some.inj he]
    have := ((txB_iff t).1 h).1
    simp
    omega
  · cases he
theorem row_stays {W W' : World} {B n : Nat} {e : TypeId} {v : Value} {xs : List Value} (h : W.ownsRow B e 1 v n xs) (hk : ∀ k, v.ownBlock = some k → W'.heap[k]? = W.heap[k]?) : W'.ownsRow B e 1 v n xs := by
  rcases h.2 with ⟨h1, h0⟩ | ⟨g, cap, cur, h1, hb, hg, hc⟩
  · exact ⟨h.1, .inl ⟨h1, h0⟩⟩
  · exact ⟨h.1, .inr ⟨g, cap, cur, h1, hb, (hk g (by rw [h1]; simp [Value.ownBlock])).trans hg, hc⟩⟩
/- Both, side by side, since w began. -/
structure Tp (w W : World) (q g : Nat) (vp vg : Value) (xs : List UInt8) (s1 : Bool) (ys : List UInt8) (s2 : Bool) : Prop where
  pw : Ww W w.heap.size q vp xs s1
  rw : Wb W w.heap.size g vg ys s2
  gr : w.grownBy W none
  lq : w.heap.size ≤ q
  lg : w.heap.size ≤ g
  ne : ∀ k, vp.ownBlock = some k → vg.ownBlock ≠ some k
section
variable {w W W' : World} {q g : Nat} {vp vg v' : Value} {xs ys xs' : List UInt8} {s1 s2 s' : Bool}
theorem Wb.old (r : Wb W w.heap.size g vg ys s2) : ∀ k, vg.ownBlock = some k → w.heap.size ≤ k := fun k hk => (r.row.lt k hk).1
theorem Tp.hne (t : Tp w W q g vp vg xs s1 ys s2) : q ≠ g := fun e => by
  have h1 := t.pw.head
  have h2 := t.rw.head
  rw [e, h2] at h1
  exact absurd (Obj.cells.inj (Option.some.inj h1)).2.1 (by decide)
theorem Tp.kept (t : Tp w W q g vp vg xs s1 ys s2) (h : W.grownBy W' none) : Tp w W' q g vp vg xs s1 ys s2 :=
  ⟨t.pw.kept h, ⟨(h.block g t.rw.lt (by simp)).trans t.rw.head, t.rw.row.kept h (none_or _)⟩, grown_trans t.gr h, t.lq, t.lg, t.ne⟩
theorem Tp.one (t : Tp w W q g vp vg xs s1 ys s2) (h : Ww W' w.heap.size q v' xs' s') (st : Wst W W' q vp v') : Tp w W' q g v' vg xs' s' ys s2 := by
  have hv : ∀ k, vg.ownBlock = some k → k < W.heap.size ∧ k ≠ q ∧ vp.ownBlock ≠ some k := fun k hk => by
    obtain ⟨c, hc⟩ := row_type8 t.rw.row hk
    refine ⟨(t.rw.row.lt k hk).2, fun e => ?_, fun e => t.ne k e hk⟩
    rw [e, t.pw.head] at hc
    exact absurd (Obj.cells.inj (Option.some.inj hc)).2.1 (by decide)
  have hg : vp.ownBlock ≠ some g := fun e => by
    obtain ⟨c, hc⟩ := row_type8 t.pw.row e
    rw [t.rw.head] at hc
    exact absurd (Obj.cells.inj (Option.some.inj hc)).2.1 (by decide)
  refine ⟨h, ⟨(st.block g t.rw.lt (Ne.symm t.hne) hg).trans t.rw.head, row_stays t.rw.row (fun k hk => st.block k (hv k hk).1 (hv k hk).2.1 (hv k hk).2.2)⟩, own_g t.gr t.lq t.pw.old st, t.lq, t.lg, ?_⟩
  intro k hk e
  rcases st.new k hk with h1 | h1
  · exact t.ne k h1 e
  · have := (hv k e).1
    omega
theorem Tp.two (t : Tp w W q g vp vg xs s1 ys s2) (h : Wb W' w.heap.size g v' xs' s') (st : Wst W W' g vg v') : Tp w W' q g vp v' xs s1 xs' s' := by
  have hv : ∀ k, vp.ownBlock = some k → k < W.heap.size ∧ k ≠ g ∧ vg.ownBlock ≠ some k := fun k hk => by
    obtain ⟨c, hc⟩ := row_type8 t.pw.row hk
    refine ⟨(t.pw.row.lt k hk).2, fun e => ?_, t.ne k hk⟩
    rw [e, t.rw.head] at hc
    exact absurd (Obj.cells.inj (Option.some.inj hc)).2.1 (by decide)
  have hq : vg.ownBlock ≠ some q := fun e => by
    obtain ⟨c, hc⟩ := row_type8 t.rw.row e
    rw [t.pw.head] at hc
    exact absurd (Obj.cells.inj (Option.some.inj hc)).2.1 (by decide)
  refine ⟨⟨(st.block q t.pw.lt t.hne hq).trans t.pw.head, row_stays t.pw.row (fun k hk => st.block k (hv k hk).1 (hv k hk).2.1 (hv k hk).2.2)⟩, h, own_g t.gr t.lg (fun k hk => (t.rw.row.lt k hk).1) st, t.lq, t.lg, ?_⟩
  intro k hk e
  rcases st.new k e with h1 | h1
  · exact t.ne k hk h1
  · have := (hv k hk).1
    omega
end
end Go.Proofs.Ytolfhkcfepkfdaa.Ri
