/-
  Maps of names to numbers; a record's bases, counted.
  Package types: names that stand once among a record's fields and its bases'.
  Package types: records.
-/
import Derived.Test.YthmldhppmpbadaaY3
import Derived.Test.YthmldhppmpbadaaY1
namespace Go.Proofs.Ythmldhppmpbadaa.Ty
open Go.RowKit hiding Hid
open Go.Maps Go.Proofs.Ythmldhppmpbadaa.Tx Go.Proofs.Ythmldhppmpbadaa.Lx Go.Proofs.Ythmldhppmpbadaa.Tr Go.Proofs.Ythmldhppmpbadaa.Mp
set_option linter.unusedVariables false
set_option linter.unusedSimpArgs false
set_option maxRecDepth 100000

theorem laidO : laidOutB Try.prog = true := by kernel_rfl
theorem LKs : Keyed Try.prog 9 := string_keyed Try.underlying9
theorem isK_str {s : List UInt8} (h : s.length ≤ maxLen) : IsK Try.prog 9 (.string (bs s)) := by
  refine ⟨.string s, ?_⟩
  unfold keyOf
  rw [Try.underlying9]
  show mapKey Try.prog 9 (.string (bs s)) = _
  unfold mapKey
  rw [Try.underlying9]
  show (if (bs s).size ≤ maxLen then some (Lit.string (bs s).data.toList) else none) = _
  rw [if_pos (by rw [bs_size]; exact h)]
  rfl
theorem zero_int (w : World) : (zeroValue 3).run Try.prog w = .ok (.int .i64 0) w := by kernel_rfl
theorem str_inj {a b : List UInt8} (h : Value.string (bs a) = .string (bs b)) : a = b := by
  injection h with h
  exact bs_inj h
/- A map of texts to numbers: what each text leads to; 0 where it leads nowhere. -/
structure MapI (w : World) (b : Nat) (f : Txt → Int) (c : Nat) : Prop where
  ex : ∃ l, MapL Try.prog 9 w b l ∧ l.length ≤ c ∧ ∀ s : Txt, s.length ≤ maxLen → (putD Try.prog 9 l).atKey (klD Try.prog 9 (.string (bs s))) (.held (.int .i64 0)) = .held (.int .i64 (f s))
theorem MapI.made (w : World) : MapI (w.alloc (.map #[] 0)) w.heap.size (fun _ => 0) 0 := ⟨[], MapL.made _ _, Nat.le_refl _, fun s _ => rfl⟩
theorem MapI.kept {w w' : World} {b : Nat} {f : Txt → Int} {c : Nat} (h : MapI w b f c) {row : Option Nat} (hg : w.grownBy w' row) (hne : some b ≠ row) : MapI w' b f c := by
  obtain ⟨l, h1, h2, h3⟩ := h.ex
  exact ⟨l, h1.kept hg hne, h2, h3⟩
theorem MapI.lt {w : World} {b : Nat} {f : Txt → Int} {c : Nat} (h : MapI w b f c) : b < w.heap.size := by
  obtain ⟨l, h1, _⟩ := h.ex
  exact h1.lt
theorem MapI.look {w : World} {b : Nat} {f : Txt → Int} {c : Nat} (h : MapI w b f c) {s : Txt} (hs : s.length ≤ maxLen) : (Instr.lookup 112 (.map (some b)) (.string (bs s)) false).run Try.prog w = .ok (.int .i64 (f s)) w := by
  obtain ⟨l, h1, h2, h3⟩ := h.ex
  obtain ⟨v', ps, hr, hv⟩ := h1.own.lookup LKs Try.underlying112 (zero_int w) (show RV (.int .i64 0) = some (.held (.int .i64 0), []) from rfl) (isK_str hs).at
  rw [h3 s hs] at hv
  simp [RV] at hv
  rw [hr, hv.1]
def upd (f : Txt → Int) (s : Txt) (v : Int) : Txt → Int := fun t => if t = s then v else f t
theorem MapI.put {w : World} {b : Nat} {f : Txt → Int} {c : Nat} (h : MapI w b f c) (hc : c < 1000000) {s : Txt} (hs : s.length ≤ maxLen) (v : Int) :
    ∃ w', (Instr.mapUpdate 112 (.map (some b)) (.string (bs s)) (.int .i64 v)).run Try.prog w = .ok () w' ∧ MapI w' b (upd f s v) (c + 1) ∧ w.grownBy w' (some b) := by
  obtain ⟨l, h1, h2, h3⟩ := h.ex
  obtain ⟨w', hr, hm, hg⟩ := h1.update LKs Try.underlying112 (by omega) (isK_str hs) (val := .int .i64 v)
  refine ⟨w', hr, ⟨_, hm, by simp; omega, fun t ht => ?_⟩, hg⟩
  rw [putD_snoc]
  by_cases e : t = s
  · subst e
    rw [atKey_put_same (putD_isMap _ l) (LKs.key (isK_str hs).at)]
    simp [upd]
  · have hne := kl_ne LKs (isK_str ht) (isK_str hs) (fun x => e (str_inj x))
    rw [atKey_put_other hne, h3 t ht]
    simp [upd, e]
theorem at_lookup {o : Oper} {ops : Array Oper} {rest : List Oper} {a : Act} {w : World} {Q : Exit → Act → World → Prop} (T : TypeId) {x y : Operand} {b : Bool} (_ : o.op = .lookup T x y b) (h : wpList Try.prog ops Q (o :: rest) a w) : wpList Try.prog ops Q (o :: rest) a w := h
theorem at_put {o : Oper} {ops : Array Oper} {rest : List Oper} {a : Act} {w : World} {Q : Exit → Act → World → Prop} (T : TypeId) {x y z : Operand} (_ : o.op = .mapUpdate T x y z) (h : wpList Try.prog ops Q (o :: rest) a w) : wpList Try.prog ops Q (o :: rest) a w := h
theorem wl_look {o : Oper} {ops : Array Oper} {rest : List Oper} {a : Act} {w : World} {Q : Exit → Act → World → Prop} {T : TypeId} {x y : Operand} {b : Bool} {m k r : Value} (hgd : o.guard = none) (ho : o.op = .lookup T x y b) (hx : a.eval x = m) (hy : a.eval y = k) (hr : (Instr.lookup T m k b).run Try.prog w = .ok r w) (h : wpList Try.prog ops Q rest (a.put o.dst r) w) : wpList Try.prog ops Q (o :: rest) a w := by
  refine wl_val hgd ?_ h
  unfold execOp
  simp [ho, hx, hy, hr]
theorem wl_put {o : Oper} {ops : Array Oper} {rest : List Oper} {a : Act} {w w' : World} {Q : Exit → Act → World → Prop} {T : TypeId} {x y z : Operand} {m k v : Value} (hgd : o.guard = none) (ho : o.op = .mapUpdate T x y z) (hx : a.eval x = m) (hy : a.eval y = k) (hz : a.eval z = v) (hr : (Instr.mapUpdate T m k v).run Try.prog w = .ok () w') (h : wpList Try.prog ops Q rest (a.put o.dst undef) w') : wpList Try.prog ops Q (o :: rest) a w := by
  refine wl_skip (w' := w') hgd ?_ h
  unfold execOp
  simp [ho, hx, hy, hz, hr]
/- A map's block is written; the call's variables stay. -/
theorem Cx.gM {w0 W W' : World} {A : Nat → Prop} {x : Nat} {L : List Lc} (H : Cx w0 A (some x) L [] [] W) (hx : ∀ p ∈ L, p.b ≠ x) (hg : W.grownBy W' (some x)) : Cx w0 A (some x) L [] [] W' where
  grown := grown_then H.grown hg (fun y e => .inl e)
  loc := fun p hp => by rw [hg.block p.b (H.lt hp) (fun e => hx p hp (by cases e; rfl))]; exact H.loc p hp
  old := H.old
  dis := H.dis
  row := by simp
  rl := by simp
  rr := List.Pairwise.nil
  tr := by simp
  xx := H.xx
/- How many bases. -/
def Lv (T : List Tt) : Nat → Nat → Prop
  | 0, i => ∃ x, T[i]? = some x ∧ x.ba = 0
  | n + 1, i => ∃ x, T[i]? = some x ∧ x.ba ≠ 0 ∧ 0 ≤ x.ba ∧ Lv T n x.ba.toNat
theorem Lv.lt {T : List Tt} : ∀ {n i : Nat}, Lv T n i → i < T.length
  | 0, i, ⟨x, h, _⟩ => (List.getElem?_eq_some_iff.1 h).1
  | n + 1, i, ⟨x, h, _⟩ => (List.getElem?_eq_some_iff.1 h).1
theorem Lv.one {T : List Tt} : ∀ {n m i : Nat}, Lv T n i → Lv T m i → n = m
  | 0, 0, i, _, _ => rfl
  | 0, m + 1, i, ⟨x, h, e⟩, ⟨y, k, f, _⟩ => by rw [h] at k; cases k; exact absurd e f
  | n + 1, 0, i, ⟨x, h, e, _⟩, ⟨y, k, f⟩ => by rw [h] at k; cases k; exact absurd f e
  | n + 1, m + 1, i, ⟨x, h, e, _, hl⟩, ⟨y, k, f, _, kl⟩ => by
    rw [h] at k
    cases k
    rw [Lv.one hl kl]
set_option maxHeartbeats 2000000 in
theorem count_at {w : World} {o : Option Addr} {T : List Tt} {n i : Nat} (cp : Nat) (H : Tab w o T) (hl : Lv T n i) (hn : n ≤ 1000000) : Calls Try.prog 99 #[.slice o T.length cp, .int .i64 i] w fun e w' => e = .returned (.int .i64 n) ∧ w' = w := by
  have HT := hide H
  have HL := hide hl
  clear H hl
  go_enter Try.func99, Try.ntmps99
  go_wp2
  go_loop [1, 5] (fun av nv => ∃ (j m : Nat), av = .int .i64 j ∧ nv = .int .i64 m ∧ m ≤ n ∧ Hid (Lv T (n - m) j)) (fun _ nv => n - (intOf nv).toNat)
  case atStart => exact ⟨i, 0, rfl, rfl, by omega, HL⟩
  case round =>
    obtain ⟨j, m, rfl, rfl, hm, HJ⟩ := hrel
    have hj := HJ.out.lt
    have j1 : (j : Int) < T.length := by omega
    obtain ⟨x, hx⟩ : ∃ x, T[j]? = some x := ⟨T[j], List.getElem?_eq_getElem hj⟩
    obtain ⟨ad, la, rfl, rfl, hc, hp⟩ := HT.out.at hx
    obtain ⟨B, hB⟩ : ∃ B, ad.add (j * 10) = B := ⟨_, rfl⟩
    rw [hB] at hc
    obtain ⟨c0, _, _, _, _, c5, _⟩ := ten_of hc
    have bl := block_lt_of_cell c0
    have HX := hide hx
    clear hc hp hx c0
    by_cases h0 : la.x.ba = 0
    · have hd : n - m = 0 := by
        have := HJ.out
        cases hk : n - m with
        | zero => rfl
        | succ k =>
          rw [hk] at this
          obtain ⟨y, hy, hne, _⟩ := this
          rw [HX.out] at hy
          cases hy
          exact absurd h0 hne
      obtain rfl : m = n := by omega
      rw [h0] at c5
      go_wp2
      go_ret
      exact ⟨rfl, rfl⟩
    · obtain ⟨k, hk⟩ : ∃ k, n - m = k + 1 := by
        have := HJ.out
        cases hk : n - m with
        | zero =>
          rw [hk] at this
          obtain ⟨y, hy, e⟩ := this
          rw [HX.out] at hy
          cases hy
          exact absurd e h0
        | succ k => exact ⟨k, rfl⟩
      have hlk := HJ.out
      rw [hk] at hlk
      obtain ⟨y, hy, hne, hge, hlk⟩ := hlk
      rw [HX.out] at hy
      cases hy
      obtain ⟨q, hq⟩ := Int.eq_ofNat_of_zero_le hge
      rw [hq] at c5 h0 hlk
      have hb : ((q : Int) != 0) = true := by simpa using h0
      have HLk := hide hlk
      have hmn : m + 1 ≤ n := by omega
      clear hlk hne hge HX
      go_wp2
      exact ⟨⟨q, m + 1, rfl, by go_num, hmn, hide (by rw [show n - (m + 1) = k by omega]; exact HLk.out)⟩, by simp [intOf]; omega⟩
end Go.Proofs.Ythmldhppmpbadaa.Ty
namespace Go.Proofs.Ythmldhppmpbadaa.Ty
open Go.RowKit hiding Hid
open Go.Maps Go.Proofs.Ythmldhppmpbadaa.Tx Go.Proofs.Ythmldhppmpbadaa.Lx Go.Proofs.Ythmldhppmpbadaa.Tr Go.Proofs.Ythmldhppmpbadaa.Mp
set_option linter.unusedVariables false
set_option linter.unusedSimpArgs false
set_option maxRecDepth 100000

def nmA (T : List Tt) (i : Nat) : List Txt := match T[i]? with
  | some x => x.fl.map (·.n)
  | none => []
def baA (T : List Tt) (i : Nat) : Nat := match T[i]? with
  | some x => x.ba.toNat
  | none => 0
def nmsL (T : List Tt) : Nat → Nat → List Txt
  | 0, i => nmA T i
  | n + 1, i => nmA T i ++ nmsL T n (baA T i)
def lvF (T : List Tt) : Nat → Nat → Nat
  | 0, _ => 0
  | k + 1, i => match T[i]? with
    | some x => if x.ba = 0 then 0 else lvF T k x.ba.toNat + 1
    | none => 0
theorem lvF_is {T : List Tt} : ∀ {k m i : Nat}, Lv T m i → m ≤ k → lvF T k i = m
  | 0, 0, i, _, _ => rfl
  | 0, m + 1, i, _, h => by omega
  | k + 1, 0, i, ⟨x, h, e⟩, _ => by rw [lvF, h]; simp [e]
  | k + 1, m + 1, i, ⟨x, h, e, _, hl⟩, hk => by rw [lvF, h]; simp only [e, if_false]; rw [lvF_is hl (by omega)]
theorem nmA_at {T : List Tt} {i : Nat} {x : Tt} (h : T[i]? = some x) : nmA T i = x.fl.map (·.n) := by rw [nmA, h]
theorem baA_at {T : List Tt} {i : Nat} {x : Tt} (h : T[i]? = some x) : baA T i = x.ba.toNat := by rw [baA, h]
/- What the map holds behind the names P of record r. -/
def pm (f : Txt → Int) (r : Int) (P : List Txt) : Txt → Int := fun s => if s ∈ P then r else f s
theorem pm_nil (f : Txt → Int) (r : Int) : pm f r [] = f := by funext s; simp [pm]
theorem pm_put (f : Txt → Int) (r : Int) (P : List Txt) (s : Txt) : upd (pm f r P) s r = pm f r (P ++ [s]) := by
  funext t
  unfold upd pm
  by_cases e : t = s
  · simp [e]
  · simp [e]
theorem pm_hit {f : Txt → Int} {r : Int} {P : List Txt} {s : Txt} (hf : f s ≠ r) : pm f r P s = r ↔ s ∈ P := by
  unfold pm
  by_cases e : s ∈ P <;> simp [e, hf]
theorem stabI (b : Nat) (f : Txt → Int) (c : Nat) : Stab b (fun W => MapI W b f c) := fun w w' row hg hne h => h.kept hg hne
theorem nodup_not {P R : List Txt} {s : Txt} (h : s ∈ P) : ¬ (P ++ s :: R).Nodup := fun hn => by
  have := (List.nodup_append.1 hn).2.2 s h s (.head _)
  exact this rfl
theorem nodup_snoc {P : List Txt} {s : Txt} (h : P.Nodup) (hs : s ∉ P) : (P ++ [s]).Nodup := List.nodup_append.2 ⟨h, by simp, fun a ha b hb e => by simp at hb; subst hb; subst e; exact hs ha⟩
theorem take_one {α β : Type} {f : α → β} {l : List α} {k : Nat} {x : α} (h : l[k]? = some x) : (l.take (k + 1)).map f = (l.take k).map f ++ [f x] := by
  rw [List.take_add_one, h, List.map_append]
  rfl
theorem rest_one {α β : Type} {f : α → β} {l : List α} {k : Nat} {x : α} (h : l[k]? = some x) : l.map f = (l.take k).map f ++ f x :: (l.drop (k + 1)).map f := by
  obtain ⟨hk, rfl⟩ := List.getElem?_eq_some_iff.1 h
  conv => lhs; rw [← List.take_append_drop k l, List.map_append, List.drop_eq_getElem_cons hk, List.map_cons]
def nmsR (T : List Tt) : Nat → Nat → List Txt
  | 0, _ => []
  | n + 1, i => nmsL T n (baA T i)
theorem nms_split {T : List Tt} {m i : Nat} {x : Tt} (_ : Lv T m i) (h : T[i]? = some x) : nmsL T m i = x.fl.map (·.n) ++ nmsR T m i := by
  cases m with
  | zero => rw [nmsL, nmA_at h, nmsR, List.append_nil]
  | succ m => rw [nmsL, nmA_at h, nmsR]
def NmO (w : World) (mb : Nat) (f : Txt → Int) (rec : Int) (N : List Txt) (c : Nat) (e : Ending) (w' : World) : Prop := ∃ d, e = .returned (.bool d) ∧ w.grownBy w' (some mb) ∧ (d = true → N.Nodup ∧ MapI w' mb (pm f rec N) (c + N.length)) ∧ (d = false → ¬ N.Nodup)
set_option maxHeartbeats 8000000 in
theorem named_at {w0 w : World} {o : Option Addr} {T : List Tt} {n rec mb c : Nat} {f : Txt → Int} (cp : Nat) (H : Tab w0 o T) (h0 : w0.grownBy w none) (hmb : w0.heap.size ≤ mb) (hl : Lv T n rec) (hr : rec ≠ 0) (hM : MapI w mb f c) (hf : ∀ s, f s ≠ rec) (hc : c + (nmsL T n rec).length < 1000000) :
    Calls Try.prog 100 #[.slice o T.length cp, .int .i64 rec, .map (some mb)] w (NmO w mb f rec (nmsL T n rec) c) := by
  obtain ⟨N, hN⟩ : ∃ N, nmsL T n rec = N := ⟨_, rfl⟩
  rw [hN] at hc ⊢
  have HT := hide H
  have HF := hide hf
  have HNn := hide hc
  have HC := hide ((Cf.of (cx_x w (fun _ => False) hM.lt)).take (p := fun W => MapI W mb f c) hM (stabI _ _ _) hM.lt)
  have HG0 := hide (fun W (hW : w.grownBy W (some mb)) => grown_then h0 hW (fun y e => by cases e; exact .inr hmb))
  have HL := hide (And.intro hl hN)
  have HR := hide hr
  clear H hf hc hM h0 hmb hl hN hr
  go_enter Try.func100, Try.ntmps100
  go_wp2
  go_loopw [7] (fun av W => ∃ (j : Nat) (P : List Txt), av = .int .i64 j ∧ Hid ((j = 0 ∧ N = P) ∨ (j ≠ 0 ∧ ∃ m, m ≤ n ∧ Lv T m j ∧ N = P ++ nmsL T m j)) ∧ Hid P.Nodup ∧ Hid (Cf w (fun _ => False) (some mb) [] [] [⟨mb, fun W => MapI W mb (pm f rec P) (c + P.length)⟩] W)) (fun av _ => if (intOf av).toNat = 0 then 0 else lvF T n (intOf av).toNat + 1)
  case atStart => exact ⟨rec, [], rfl, hide (.inr ⟨HR.out, n, Nat.le_refl _, HL.out.1, HL.out.2.symm⟩), hide List.nodup_nil, hide (by rw [pm_nil]; exact HC.out)⟩
  case round =>
    clear HC
    obtain ⟨j, P, rfl, HJ, HP, HC⟩ := hrel
    by_cases hj : j = 0
    · subst hj
      have hN : N = P := by
        rcases HJ.out with ⟨_, h⟩ | ⟨h, _⟩
        · exact h
        · exact absurd rfl h
      have HNP := hide hN
      clear hN
      go_wp2
      go_ret
      refine ⟨true, rfl, HC.out.cx.grown, fun _ => ?_, (fun e => by cases e)⟩
      rw [HNP.out]
      exact ⟨HP.out, HC.out.fs _ (.head _)⟩
    · obtain ⟨m, hm, hlv, hNe⟩ : ∃ m, m ≤ n ∧ Lv T m j ∧ N = P ++ nmsL T m j := by
        rcases HJ.out with ⟨h, _⟩ | ⟨_, h⟩
        · exact absurd h hj
        · exact h
      have hjl := hlv.lt
      have j1 : (j : Int) < T.length := by omega
      obtain ⟨x, hx⟩ : ∃ x, T[j]? = some x := ⟨T[j], List.getElem?_eq_getElem hjl⟩
      obtain ⟨ad, la, rfl, rfl, hcl, hp⟩ := HT.out.at hx
      obtain ⟨B, hB⟩ : ∃ B, ad.add (j * 10) = B := ⟨_, rfl⟩
      rw [hB] at hcl
      obtain ⟨b0, _, _, _, _, b5, b6, _⟩ := ten_of hcl
      have hg0 := HG0.out _ HC.out.cx.grown
      have c0 := hg0.cell b0 (by simp)
      have c6 := hg0.cell b6 (by simp)
      have bl := block_lt_of_cell c0
      have HB5 := hide b5
      have HX := hide hx
      have HLp := hide hp
      have HLv := hide (And.intro hm (And.intro hlv hNe))
      have k0 : (la.x.fl.length : Int) ≤ 1000000 := by have := hp.sm.fl; omega
      have hb : ((j : Int) != 0) = true := by simp; omega
      clear hcl hx hp hlv hNe b0 b5 b6 hg0 c0 hm HJ
      go_wp2
      go_loopw [24] (fun kv W => ∃ (k : Nat), k ≤ la.x.fl.length ∧ kv = .int .i64 k ∧ Hid (P ++ (la.x.fl.take k).map (·.n)).Nodup ∧ Hid (Cf w (fun _ => False) (some mb) [] [] [⟨mb, fun W => MapI W mb (pm f rec (P ++ (la.x.fl.take k).map (·.n))) (c + (P ++ (la.x.fl.take k).map (·.n)).length)⟩] W)) (fun kv _ => la.x.fl.length - (intOf kv).toNat)
      case atStart => exact ⟨0, by omega, rfl, hide (by simpa using HP.out), hide (by simpa using HC.out)⟩
      case round =>
        clear HC c6 bl
        obtain ⟨k, hk, rfl, HND, HC⟩ := hrel
        by_cases hlt : k < la.x.fl.length
        · have q1 : (k : Int) < la.x.fl.length := by omega
          obtain ⟨⟨nm, x, t⟩, hxk⟩ : ∃ p, la.x.fl[k]? = some p := ⟨la.x.fl[k], List.getElem?_eq_getElem hlt⟩
          obtain ⟨fd, hfo, hel⟩ := HLp.out.fl.el flC_len (by decide) hxk
          have HEL := hide (fun W (hW : w0.grownBy W none) j u (hu : (flC ⟨nm, x, t⟩)[j]? = some u) => hW.cell (hel j u hu) (by simp))
          unfold flC at HEL
          dsimp only at HEL
          obtain ⟨B2, hB2⟩ : ∃ B, fd.add (k * 3) = B := ⟨_, rfl⟩
          rw [hB2] at HEL
          have HNl := hide (show nm.length ≤ maxLen from HLp.out.sm.fn _ (List.mem_of_getElem? hxk))
          have hst := take_one (f := Fl.n) hxk
          have hrs := rest_one (f := Fl.n) hxk
          obtain ⟨P', hP'⟩ : ∃ P', P ++ (la.x.fl.take k).map Fl.n = P' := ⟨_, rfl⟩
          rw [hP'] at HND HC
          have HN2 := hide (show ∃ R, N = P' ++ nm :: R by
            obtain ⟨_, hlv, hNe⟩ := HLv.out
            refine ⟨(la.x.fl.drop (k + 1)).map Fl.n ++ nmsR T m j, ?_⟩
            rw [hNe, ← hP', nms_split hlv HX.out, hrs]
            simp only [List.append_assoc, List.cons_append])
          have HCn := hide (show c + P'.length < 1000000 by
            obtain ⟨R, hR⟩ := HN2.out
            have := HNn.out
            rw [hR, List.length_append] at this
            omega)
          have HP' := hide hP'
          have HST := hide hst
          rw [hfo]
          clear hel hxk hst hrs hP' hfo
          by_cases hin : nm ∈ P'
          · have HV := hide (show pm f rec P' nm = rec by unfold pm; rw [if_pos hin])
            have HIn := hide hin
            clear hin
            go_wp2_with (first | (refine at_load 75 rfl ?_; refine wl_run rfl 75 _ rfl rfl (run_load_s tyF _ [.string (bs nm), .bool x, .int .i64 t] rfl (HEL.out _ (HG0.out _ HC.out.cx.grown))) ?_) | (refine at_alloc 75 rfl ?_; refine cf_alloc rfl 75 rfl _ zF HC.out ?_; intro bf w' hn hc; (replace HC := hide hc; clear hc)) | (refine at_store 75 rfl ?_; refine cf_store rfl 75 _ _ rfl rfl rfl tyF.sz rfl HC.out (by repeat (first | exact List.Mem.head _ | apply List.Mem.tail)) (by exact PutS.all _ _ rfl) (by repeat (first | exact Upd.here _ _ _ | apply Upd.there)) ?_; intro w' hc; (replace HC := hide hc; clear hc)) | (refine at_load 9 rfl ?_; refine wl_load_c rfl 9 _ rfl tcS rfl HC.out.cx (by repeat (first | exact List.Mem.head _ | apply List.Mem.tail)) (by repeat (first | exact GetS.cons _ (GetS.nil _) | apply GetS.skip)) ?_) | (refine at_lookup 112 rfl ?_; refine wl_look rfl rfl rfl rfl ((HC.out.fs _ (.head _)).look HNl.out) ?_; rw [HV.out]))
            go_ret
            refine ⟨false, rfl, HC.out.cx.grown, (fun e => by cases e), fun _ => ?_⟩
            obtain ⟨R, hR⟩ := HN2.out
            rw [hR]
            exact nodup_not HIn.out
          · obtain ⟨v, hv⟩ : ∃ v, pm f rec P' nm = v := ⟨_, rfl⟩
            have HV := hide hv
            have hne : v ≠ rec := by rw [← hv]; unfold pm; rw [if_neg hin]; exact HF.out nm
            have hve : (v == (rec : Int)) = false := by simpa using hne
            have HIn := hide hin
            clear hin hv hne
            go_wp2_with (first | (refine at_load 75 rfl ?_; refine wl_run rfl 75 _ rfl rfl (run_load_s tyF _ [.string (bs nm), .bool x, .int .i64 t] rfl (HEL.out _ (HG0.out _ HC.out.cx.grown))) ?_) | (refine at_alloc 75 rfl ?_; refine cf_alloc rfl 75 rfl _ zF HC.out ?_; intro bf w' hn hc; (replace HC := hide hc; clear hc)) | (refine at_store 75 rfl ?_; refine cf_store rfl 75 _ _ rfl rfl rfl tyF.sz rfl HC.out (by repeat (first | exact List.Mem.head _ | apply List.Mem.tail)) (by exact PutS.all _ _ rfl) (by repeat (first | exact Upd.here _ _ _ | apply Upd.there)) ?_; intro w' hc; (replace HC := hide hc; clear hc)) | (refine at_load 9 rfl ?_; refine wl_load_c rfl 9 _ rfl tcS rfl HC.out.cx (by repeat (first | exact List.Mem.head _ | apply List.Mem.tail)) (by repeat (first | exact GetS.cons _ (GetS.nil _) | apply GetS.skip)) ?_) | (refine at_lookup 112 rfl ?_; refine wl_look rfl rfl rfl rfl ((HC.out.fs _ (.head _)).look HNl.out) ?_; rw [HV.out]) | (refine at_put 112 rfl ?_; obtain ⟨w9, hr9, hm9, hg9⟩ := (HC.out.fs _ (.head _)).put HCn.out HNl.out (rec : Int); refine wl_put rfl rfl rfl rfl rfl hr9 ?_; replace HC := hide (HC.out.turn (Fs' := []) hg9 hm9 (stabI _ _ _)); clear hr9 hm9 hg9))
            refine ⟨⟨k + 1, by omega, by go_num, hide ?_, hide ?_⟩, by simp [intOf]; omega⟩
            · rw [HST.out, ← List.append_assoc, HP'.out]
              exact nodup_snoc HND.out HIn.out
            · have h := HC.out.drop
              rw [pm_put] at h
              rw [HST.out, ← List.append_assoc, HP'.out, List.length_append, ← Nat.add_assoc]
              exact h
        · obtain rfl : k = la.x.fl.length := by omega
          rw [List.take_of_length_le (Nat.le_refl _)] at HND HC
          have hg0 := HG0.out _ HC.out.cx.grown
          have c5 := hg0.cell HB5.out (by simp)
          have bl := block_lt_of_cell c5
          clear hg0
          obtain ⟨q, hq, HQ⟩ : ∃ q : Nat, la.x.ba = (q : Int) ∧ Hid ((q = 0 ∧ N = P ++ la.x.fl.map Fl.n) ∨ (q ≠ 0 ∧ lvF T n j = lvF T n q + 1 ∧ ∃ m, m ≤ n ∧ Lv T m q ∧ N = (P ++ la.x.fl.map Fl.n) ++ nmsL T m q)) := by
            obtain ⟨hm, hlv, hNe⟩ := HLv.out
            cases m with
            | zero =>
              obtain ⟨x, hx, e⟩ := hlv
              rw [HX.out] at hx
              cases hx
              exact ⟨0, e, hide (.inl ⟨rfl, by rw [hNe, nmsL, nmA_at HX.out]⟩)⟩
            | succ m =>
              have hlv' := hlv
              obtain ⟨x, hx, e, e2, hl2⟩ := hlv
              rw [HX.out] at hx
              cases hx
              obtain ⟨q, hq⟩ := Int.eq_ofNat_of_zero_le e2
              refine ⟨q, hq, hide (.inr ⟨fun e3 => e (by rw [hq, e3]; rfl), ?_, m, by omega, ?_, ?_⟩)⟩
              · rw [hq, Int.toNat_natCast] at hl2
                rw [lvF_is hlv' hm, lvF_is hl2 (by omega)]
              · rw [hq, Int.toNat_natCast] at hl2
                exact hl2
              · rw [hNe, nmsL, nmA_at HX.out, baA_at HX.out, hq, Int.toNat_natCast, List.append_assoc]
          rw [hq] at c5
          clear hq
          go_wp2
          refine ⟨⟨q, P ++ la.x.fl.map Fl.n, rfl, hide ?_, HND, HC⟩, ?_⟩
          · rcases HQ.out with ⟨h1, h2⟩ | ⟨h1, _, h2⟩
            · exact .inl ⟨h1, h2⟩
            · exact .inr ⟨h1, h2⟩
          · show (if q = 0 then 0 else lvF T n q + 1) < (if j = 0 then 0 else lvF T n j + 1)
            rw [if_neg hj]
            rcases HQ.out with ⟨h1, _⟩ | ⟨h1, h2, _⟩
            · rw [if_pos h1]; omega
            · rw [if_neg h1, h2]; omega
end Go.Proofs.Ythmldhppmpbadaa.Ty
namespace Go.Proofs.Ythmldhppmpbadaa.Ty
open Go.RowKit hiding Hid
open Go.Maps Go.Proofs.Ythmldhppmpbadaa.Tx Go.Proofs.Ythmldhppmpbadaa.Lx Go.Proofs.Ythmldhppmpbadaa.Tr Go.Proofs.Ythmldhppmpbadaa.Mp
set_option linter.unusedVariables false
set_option linter.unusedSimpArgs false
set_option maxRecDepth 100000

theorem cf_mkmap {P : Program} {ops : Array Oper} {rest : List Oper} {o : Oper} {a : Act} {w w0 : World} {Q : Exit → Act → World → Prop} {A : Nat → Prop} {X : Option Nat} {L : List Lc} {Rs : List Rw} {Fs : List Fk} (hgd : o.guard = none) (T : TypeId) (ho : o.op = .makeMap T none) (p : Nat → World → Prop) (hp : ∀ w : World, p w.heap.size (w.alloc (.map #[] 0))) (hs : ∀ b, Stab b (p b)) (H : Cf w0 A X L Rs Fs w)
    (h : ∀ b w', Cf w0 A X L Rs (⟨b, p b⟩ :: Fs) w' → wpList P ops Q rest (a.put o.dst (.map (some b))) w') : wpList P ops Q (o :: rest) a w := by
  refine wl_val (w' := w.alloc (.map #[] 0)) hgd ?_ (h w.heap.size _ (H.new (hp w) (hs _)))
  unfold execOp
  simp [ho, Instr.makeMap]
/- Records by their modules and numbers, as keys. -/
abbrev Ok := Txt × Int
def ownV (k : Ok) : Value := .agg #[.string (bs k.1), .int .i64 k.2]
theorem ownV_inj {x y : Ok} (h : ownV x = ownV y) : x = y := by
  obtain ⟨a, b⟩ := x
  obtain ⟨d, e⟩ := y
  simp only [ownV, Value.agg.injEq] at h
  have h0 := congrArg (fun l : Array Value => l[0]?) h
  have h1 := congrArg (fun l : Array Value => l[1]?) h
  simp at h0 h1
  rw [bs_inj h0, h1]
def kok (x : Ok) : Prop := x.1.length ≤ maxLen ∧ (-9223372036854775808 ≤ x.2 ∧ x.2 ≤ 9223372036854775807)
theorem LKo : Keyed Try.prog 116 := Keyed.of_law (deep_law_laid laidO (m := 2) (by omega) (of_decide_eq_true (by kernel_rfl)) (by kernel_rfl) (by rw [Try.underlying116]))
theorem keyT_o : Try.prog.keyType 116 = true := by kernel_rfl
theorem cells_o : Try.prog.cellsOf 116 = 2 := by kernel_rfl
theorem cells_i : Try.prog.cellsOf 3 = 1 := by kernel_rfl
theorem cells_s : Try.prog.cellsOf 9 = 1 := by kernel_rfl
theorem types_size : ∃ n, Try.prog.types.size + 1 = n + 2 := by
  have h : Try.prog.types.size = 164 := by kernel_rfl
  exact ⟨Try.prog.types.size - 1, by omega⟩
theorem isK_own {x : Ok} (h : kok x) : IsK Try.prog 116 (ownV x) := by
  obtain ⟨n, hn⟩ := types_size
  obtain ⟨h3, h1⟩ := h
  have hw : (Lit.int .i64 x.2).wf = true := by simp only [Lit.wf, Bool.and_eq_true, decide_eq_true_eq]; exact h1
  have hz : (bs x.1).size ≤ maxLen := by rw [bs_size]; exact h3
  have hf : (ownV x).formed Try.prog 116 = true := by simp [ownV, Value.formed, Try.underlying116, cells_o]
  have hl : Try.prog.keyLits (n + 2) 116 [.string (bs x.1), .int .i64 x.2] = some [.string (bs x.1).data.toList, .int .i64 x.2] := by
    simp [Program.keyLits, Try.underlying116, cells_o, cells_i, cells_s, Try.underlying3, Try.underlying9, hw, hz]
  refine ⟨.string (keyBytes [.string (bs x.1).data.toList, .int .i64 x.2]), ?_⟩
  unfold keyOf
  rw [Try.underlying116]
  show (if Try.prog.keyType 116 && (ownV x).formed Try.prog 116 then (Try.prog.keyLits (Try.prog.types.size + 1) 116 [.string (bs x.1), .int .i64 x.2]).map (fun ls => Lit.string (keyBytes ls)) else none) = _
  rw [keyT_o, hf, hn, hl]
  rfl
theorem zero_0 (w : World) : (zeroValue 113).run Try.prog w = .ok (.agg #[]) w := by kernel_rfl
/- A set of them. -/
structure MapO (w : World) (b : Nat) (E : List Ok) : Prop where
  ok : ∀ k ∈ E, kok k
  ml : MapL Try.prog 116 w b (E.map (fun k => (ownV k, .agg #[])))
theorem MapO.made (w : World) : MapO (w.alloc (.map #[] 0)) w.heap.size [] := ⟨by simp, MapL.made _ _⟩
theorem stabO (b : Nat) (E : List Ok) : Stab b (fun W => MapO W b E) := fun w w' row hg hne h => ⟨h.ok, h.ml.kept hg hne⟩
theorem MapO.yes {w : World} {b : Nat} {E : List Ok} (h : MapO w b E) {k : Ok} (hk : k ∈ E) : (Instr.lookup 111 (.map (some b)) (ownV k) true).run Try.prog w = .ok (.tuple #[.agg #[], .bool true]) w :=
  h.ml.look_ok LKo Try.underlying111 (zero_0 w) (isK_own (h.ok k hk)) (v := .agg #[]) (List.mem_map.2 ⟨k, hk, rfl⟩) (fun p hp _ => by
    obtain ⟨q, _, rfl⟩ := List.mem_map.1 hp
    rfl)
theorem MapO.no {w : World} {b : Nat} {E : List Ok} (h : MapO w b E) {k : Ok} (ho : kok k) (hk : k ∉ E) : (Instr.lookup 111 (.map (some b)) (ownV k) true).run Try.prog w = .ok (.tuple #[.agg #[], .bool false]) w :=
  h.ml.look_no LKo Try.underlying111 (zero_0 w) (isK_own ho) (fun p hp e => by
    obtain ⟨q, hq, rfl⟩ := List.mem_map.1 hp
    exact hk (by rw [← ownV_inj e]; exact hq))
theorem MapO.put {w : World} {b : Nat} {E : List Ok} (h : MapO w b E) {k : Ok} (ho : kok k) (hn : E.length < 1000000) : ∃ w', (Instr.mapUpdate 111 (.map (some b)) (ownV k) (.agg #[])).run Try.prog w = .ok () w' ∧ MapO w' b (E ++ [k]) ∧ w.grownBy w' (some b) := by
  obtain ⟨w', h1, h2, h3⟩ := h.ml.update LKo Try.underlying111 (by simpa using hn) (isK_own ho) (val := .agg #[])
  refine ⟨w', h1, ⟨fun q hq => ?_, ?_⟩, h3⟩
  · rcases List.mem_append.1 hq with hq | hq
    · exact h.ok q hq
    · rw [List.mem_singleton] at hq; subst hq; exact ho
  · rw [List.map_append]
    exact h2
/- What is asked of a record. -/
def RecD (T : List Tt) (i : Nat) : Prop := ∀ x, T[i]? = some x → x.fm = 9 → (∀ k y, k < i → T[k]? = some y → y.fm = 9 → y.md = x.md → y.ds = x.ds → x.ds = -1) ∧ ∃ n, n ≤ 4 ∧ Lv T n i ∧ (nmsL T n i).Nodup
structure RecPre (T : List Tt) : Prop where
  lv : ∀ i x, T[i]? = some x → x.fm = 9 → (∃ n, n ≤ 1000 ∧ Lv T n i) ∧ -1 ≤ x.ds ∧ x.ds < 64
  fl : ∀ (i : Nat) x, T[i]? = some x → x.fl.length ≤ 64
  z : ∀ x, T[0]? = some x → x.fm ≠ 9
  le : T.length ≤ 256
theorem nmA_len {T : List Tt} (h : RecPre T) (i : Nat) : (nmA T i).length ≤ 64 := by
  unfold nmA
  split
  · rename_i x hx
    rw [List.length_map]
    exact h.fl i x hx
  · simp
theorem nms_len {T : List Tt} (h : RecPre T) : ∀ (n i : Nat), (nmsL T n i).length ≤ 64 * (n + 1)
  | 0, i => by rw [nmsL]; have := nmA_len h i; omega
  | n + 1, i => by
    rw [nmsL, List.length_append]
    have := nmA_len h i
    have := nms_len h n (baA T i)
    omega
def ownE (T : List Tt) (i : Nat) : List Ok := ((T.take i).filter (fun x => x.fm == 9 && x.ds != -1)).map (fun x => (x.md, x.ds))
theorem ownE_len (T : List Tt) (i : Nat) : (ownE T i).length ≤ T.length := by
  unfold ownE
  rw [List.length_map]
  refine Nat.le_trans (List.length_filter_le _ _) ?_
  rw [List.length_take]
  omega
theorem ownE_mem {T : List Tt} {i : Nat} {k : Ok} : k ∈ ownE T i ↔ ∃ j y, j < i ∧ T[j]? = some y ∧ y.fm = 9 ∧ y.ds ≠ -1 ∧ k = (y.md, y.ds) := by
  unfold ownE
  simp only [List.mem_map, List.mem_filter, Bool.and_eq_true, beq_iff_eq, bne_iff_ne, List.mem_take_iff_getElem, ne_eq]
  constructor
  · rintro ⟨y, ⟨⟨j, hj, e⟩, h1, h2⟩, rfl⟩
    exact ⟨j, y, by omega, by rw [List.getElem?_eq_getElem (by omega), e], h1, h2, rfl⟩
  · rintro ⟨j, y, hj, e, h1, h2, rfl⟩
    obtain ⟨hl, rfl⟩ := List.getElem?_eq_some_iff.1 e
    exact ⟨T[j], ⟨⟨j, by omega, rfl⟩, h1, h2⟩, rfl⟩
theorem ownE_step {T : List Tt} {i : Nat} {x : Tt} (h : T[i]? = some x) : ownE T (i + 1) = if x.fm = 9 ∧ x.ds ≠ -1 then ownE T i ++ [(x.md, x.ds)] else ownE T i := by
  unfold ownE
  rw [List.take_add_one, h, List.filter_append, List.map_append]
  by_cases e1 : x.fm = 9 <;> by_cases e2 : x.ds = -1 <;> simp [List.filter_cons, e1, e2]
end Go.Proofs.Ythmldhppmpbadaa.Ty
