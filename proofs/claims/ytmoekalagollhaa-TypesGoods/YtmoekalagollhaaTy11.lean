/-
  Maps of names to numbers; a record's bases, counted.
-/
import Derived.Test.YtmoekalagollhaaTy10
import Derived.Test.YtmoekalagollhaaMp1
namespace Go.Proofs.Ytmoekalagollhaa.Ty
open Go.RowKit hiding Hid
open Go.Maps Go.Proofs.Ytmoekalagollhaa.Tx Go.Proofs.Ytmoekalagollhaa.Lx Go.Proofs.Ytmoekalagollhaa.Tr Go.Proofs.Ytmoekalagollhaa.Mp
set_option linter.unusedVariables false
set_option linter.unusedSimpArgs false
set_option maxRecDepth 100000

theorem laidO : laidOutB Try.prog = true := by kernel_rfl
theorem LKs : Keyed Try.prog 9 := string_keyed Try.underlying9
theorem isK_str {s : List UInt8} (h : s.length ≤ maxLen) : IsK Try.prog 9 (.string (bs s)) := by
  refine ⟨.string s, ?_⟩
  unfold keyOf
  rw [Try.underlying9]
  show mapKey Try.prog 9 (.string (bs s)) = _
  unfold mapKey
  rw [Try.underlying9]
  show (if (bs s).size ≤ maxLen then some (Lit.string (bs s).data.toList) else none) = _
  rw [if_pos (by rw [bs_size]; exact h)]
  rfl
theorem zero_int (w : World) : (zeroValue 3).run Try.prog w = .ok (.int .i64 0) w := by kernel_rfl
theorem str_inj {a b : List UInt8} (h : Value.string (bs a) = .string (bs b)) : a = b := by
  injection h with h
  exact bs_inj h
/- A map of texts to numbers: what each text leads to; 0 where it leads nowhere. -/
structure MapI (w : World) (b : Nat) (f : Txt → Int) (c : Nat) : Prop where
  ex : ∃ l, MapL Try.prog 9 w b l ∧ l.length ≤ c ∧ ∀ s : Txt, s.length ≤ maxLen → (putD Try.prog 9 l).atKey (klD Try.prog 9 (.string (bs s))) (.held (.int .i64 0)) = .held (.int .i64 (f s))
theorem MapI.made (w : World) : MapI (w.alloc (.map #[] 0)) w.heap.size (fun _ => 0) 0 := ⟨[], MapL.made _ _, Nat.le_refl _, fun s _ => rfl⟩
theorem MapI.kept {w w' : World} {b : Nat} {f : Txt → Int} {c : Nat} (h : MapI w b f c) {row : Option Nat} (hg : w.grownBy w' row) (hne : some b ≠ row) : MapI w' b f c := by
  obtain ⟨l, h1, h2, h3⟩ := h.ex
  exact ⟨l, h1.kept hg hne, h2, h3⟩
theorem MapI.lt {w : World} {b : Nat} {f : Txt → Int} {c : Nat} (h : MapI w b f c) : b < w.heap.size := by
  obtain ⟨l, h1, _⟩ := h.ex
  exact h1.lt
theorem MapI.look {w : World} {b : Nat} {f : Txt → Int} {c : Nat} (h : MapI w b f c) {s : Txt} (hs : s.length ≤ maxLen) : (Instr.lookup 93 (.map (some b)) (.string (bs s)) false).run Try.prog w = .ok (.int .i64 (f s)) w := by
  obtain ⟨l, h1, h2, h3⟩ := h.ex
  obtain ⟨v', ps, hr, hv⟩ := h1.own.lookup LKs Try.underlying93 (zero_int w) (show RV (.int .i64 0) = some (.held (.int .i64 0), []) from rfl) (isK_str hs).at
  rw [h3 s hs] at hv
  simp [RV] at hv
  rw [hr, hv.1]
def upd (f : Txt → Int) (s : Txt) (v : Int) : Txt → Int := fun t => if t = s then v else f t
theorem MapI.put {w : World} {b : Nat} {f : Txt → Int} {c : Nat} (h : MapI w b f c) (hc : c < 1000000) {s : Txt} (hs : s.length ≤ maxLen) (v : Int) :
    ∃ w', (Instr.mapUpdate 93 (.map (some b)) (.string (bs s)) (.int .i64 v)).run Try.prog w = .ok () w' ∧ MapI w' b (upd f s v) (c + 1) ∧ w.grownBy w' (some b) := by
  obtain ⟨l, h1, h2, h3⟩ := h.ex
  obtain ⟨w', hr, hm, hg⟩ := h1.update LKs Try.underlying93 (by omega) (isK_str hs) (val := .int .i64 v)
  refine ⟨w', hr, ⟨_, hm, by simp; omega, fun t ht => ?_⟩, hg⟩
  rw [putD_snoc]
  by_cases e : t = s
  · subst e
    rw [atKey_put_same (putD_isMap _ l) (LKs.key (isK_str hs).at)]
    simp [upd]
  · have hne := kl_ne LKs (isK_str ht) (isK_str hs) (fun x => e (str_inj x))
    rw [atKey_put_other hne, h3 t ht]
    simp [upd, e]
theorem at_lookup {o : Oper} {ops : Array Oper} {rest : List Oper} {a : Act} {w : World} {Q : Exit → Act → World → Prop} (T : TypeId) {x y : Operand} {b : Bool} (_ : o.op = .lookup T x y b) (h : wpList Try.prog ops Q (o :: rest) a w) : wpList Try.prog ops Q (o :: rest) a w := h
theorem at_put {o : Oper} {ops : Array Oper} {rest : List Oper} {a : Act} {w : World} {Q : Exit → Act → World → Prop} (T : TypeId) {x y z : Operand} (_ : o.op = .mapUpdate T x y z) (h : wpList Try.prog ops Q (o :: rest) a w) : wpList Try.prog ops Q (o :: rest) a w := h
theorem wl_look {o : Oper} {ops : Array Oper} {rest : List Oper} {a : Act} {w : World} {Q : Exit → Act → World → Prop} {T : TypeId} {x y : Operand} {b : Bool} {m k r : Value} (hgd : o.guard = none) (ho : o.op = .lookup T x y b) (hx : a.eval x = m) (hy : a.eval y = k) (hr : (Instr.lookup T m k b).run Try.prog w = .ok r w) (h : wpList Try.prog ops Q rest (a.put o.dst r) w) : wpList Try.prog ops Q (o :: rest) a w := by
  refine wl_val hgd ?_ h
  unfold execOp
  simp [ho, hx, hy, hr]
theorem wl_put {o : Oper} {ops : Array Oper} {rest : List Oper} {a : Act} {w w' : World} {Q : Exit → Act → World → Prop} {T : TypeId} {x y z : Operand} {m k v : Value} (hgd : o.guard = none) (ho : o.op = .mapUpdate T x y z) (hx : a.eval x = m) (hy : a.eval y = k) (hz : a.eval z = v) (hr : (Instr.mapUpdate T m k v).run Try.prog w = .ok () w') (h : wpList Try.prog ops Q rest (a.put o.dst undef) w') : wpList Try.prog ops Q (o :: rest) a w := by
  refine wl_skip (w' := w') hgd ?_ h
  unfold execOp
  simp [ho, hx, hy, hz, hr]
/- A map's block is written; the call's variables stay. -/
theorem Cx.gM {w0 W W' : World} {A : Nat → Prop} {x : Nat} {L : List Lc} (H : Cx w0 A (some x) L [] [] W) (hx : ∀ p ∈ L, p.b ≠ x) (hg : W.grownBy W' (some x)) : Cx w0 A (some x) L [] [] W' where
  grown := grown_then H.grown hg (fun y e => .inl e)
  loc := fun p hp => by rw [hg.block p.b (H.lt hp) (fun e => hx p hp (by cases e; rfl))]; exact H.loc p hp
  old := H.old
  dis := H.dis
  row := by simp
  rl := by simp
  rr := List.Pairwise.nil
  tr := by simp
  xx := H.xx
/- How many bases. -/
def Lv (T : List Tt) : Nat → Nat → Prop
  | 0, i => ∃ x, T[i]? = some x ∧ x.ba = 0
  | n + 1, i => ∃ x, T[i]? = some x ∧ x.ba ≠ 0 ∧ 0 ≤ x.ba ∧ Lv T n x.ba.toNat
theorem Lv.lt {T : List Tt} : ∀ {n i : Nat}, Lv T n i → i < T.length
  | 0, i, ⟨x, h, _⟩ => (List.getElem?_eq_some_iff.1 h).1
  | n + 1, i, ⟨x, h, _⟩ => (List.getElem?_eq_some_iff.1 h).1
theorem Lv.one {T : List Tt} : ∀ {n m i : Nat}, Lv T n i → Lv T m i → n = m
  | 0, 0, i, _, _ => rfl
  | 0, m + 1, i, ⟨x, h, e⟩, ⟨y, k, f, _⟩ => by rw [h] at k; cases k; exact absurd e f
  | n + 1, 0, i, ⟨x, h, e, _⟩, ⟨y, k, f⟩ => by rw [h] at k; cases k; exact absurd f e
  | n + 1, m + 1, i, ⟨x, h, e, _, hl⟩, ⟨y, k, f, _, kl⟩ => by
    rw [h] at k
    cases k
    rw [Lv.one hl kl]
set_option maxHeartbeats 2000000 in
theorem count_at {w : World} {o : Option Addr} {T : List Tt} {n i : Nat} (cp : Nat) (H : Tab w o T) (hl : Lv T n i) (hn : n ≤ 1000000) : Calls Try.prog 71 #[.slice o T.length cp, .int .i64 i] w fun e w' => e = .returned (.int .i64 n) ∧ w' = w := by
  have HT := hide H
  have HL := hide hl
  clear H hl
  go_enter Try.func71, Try.ntmps71
  go_wp2
  go_loop [1, 5] (fun av nv => ∃ (j m : Nat), av = .int .i64 j ∧ nv = .int .i64 m ∧ m ≤ n ∧ Hid (Lv T (n - m) j)) (fun _ nv => n - (intOf nv).toNat)
  case atStart => exact ⟨i, 0, rfl, rfl, by omega, HL⟩
  case round =>
    obtain ⟨j, m, rfl, rfl, hm, HJ⟩ := hrel
    have hj := HJ.out.lt
    have j1 : (j : Int) < T.length := by omega
    obtain ⟨x, hx⟩ : ∃ x, T[j]? = some x := ⟨T[j], List.getElem?_eq_getElem hj⟩
    obtain ⟨ad, la, rfl, rfl, hc, hp⟩ := HT.out.at hx
    obtain ⟨B, hB⟩ : ∃ B, ad.add (j * 10) = B := ⟨_, rfl⟩
    rw [hB] at hc
    obtain ⟨c0, _, _, _, _, c5, _⟩ := ten_of hc
    have bl := block_lt_of_cell c0
    have HX := hide hx
    clear hc hp hx c0
    by_cases h0 : la.x.ba = 0
    · have hd : n - m = 0 := by
        have := HJ.out
        cases hk : n - m with
        | zero => rfl
        | succ k =>
          rw [hk] at this
          obtain ⟨y, hy, hne, _⟩ := this
          rw [HX.out] at hy
          cases hy
          exact absurd h0 hne
      obtain rfl : m = n := by omega
      rw [h0] at c5
      go_wp2
      go_ret
      exact ⟨rfl, rfl⟩
    · obtain ⟨k, hk⟩ : ∃ k, n - m = k + 1 := by
        have := HJ.out
        cases hk : n - m with
        | zero =>
          rw [hk] at this
          obtain ⟨y, hy, e⟩ := this
          rw [HX.out] at hy
          cases hy
          exact absurd e h0
        | succ k => exact ⟨k, rfl⟩
      have hlk := HJ.out
      rw [hk] at hlk
      obtain ⟨y, hy, hne, hge, hlk⟩ := hlk
      rw [HX.out] at hy
      cases hy
      obtain ⟨q, hq⟩ := Int.eq_ofNat_of_zero_le hge
      rw [hq] at c5 h0 hlk
      have hb : ((q : Int) != 0) = true := by simpa using h0
      have HLk := hide hlk
      have hmn : m + 1 ≤ n := by omega
      clear hlk hne hge HX
      go_wp2
      exact ⟨⟨q, m + 1, rfl, by go_num, hmn, hide (by rw [show n - (m + 1) = k by omega]; exact HLk.out)⟩, by simp [intOf]; omega⟩
end Go.Proofs.Ytmoekalagollhaa.Ty
