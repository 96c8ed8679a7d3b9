/-
  What TokenJoins and TokenSpread need besides: errors' numbers; rows side by side; the text that is spread, step by step.
-/
import Derived.Test.YthnkkcamfcmhmaaDoorTkwk
import Derived.Test.YthnkkcamfcmhmaaDoorLx8
namespace Go.Proofs.YthnkkcamfcmhmaaDoor.Lx
open Go.RowKit Go.Proofs.YthnkkcamfcmhmaaDoor.Tx
set_option linter.unusedVariables false
set_option linter.unusedSimpArgs false
set_option maxRecDepth 100000

theorem lexG_code : ∀ (n : Nat) (s : List UInt8) (q : Nat) (ok : Bool) (k : Nat) (a c : Int), lexG n s q ok k = .error (a, c) → c ≠ 0
  | 0, s, q, ok, k, a, c, h => by rw [lexG] at h; cases h
  | n + 1, s, q, ok, k, a, c, h => by
    rw [lexG] at h
    split at h
    · cases h; decide
    split at h
    · split at h
      · rename_i e he
        rcases oneT_is (t := s.drop q) (a := (q : Int)) with (h1 | h1 | h1) | ⟨t, len, h1, _⟩ <;> rw [h1] at he <;> cases he <;> cases h <;> decide
      · split at h
        · cases h; decide
        · rename_i t len _ _
          cases hr : lexG n s (q + len + (skP (s.drop (q + len))).1) (skP (s.drop (q + len))).2 (k + 1) with
          | ok us => rw [hr] at h; cases h
          | error e =>
            rw [hr] at h
            simp [Except.map] at h
            subst h
            exact lexG_code n _ _ _ _ _ _ hr
    · cases h
theorem lexP_code {s : List UInt8} {a c : Int} (h : lexP s = .error (a, c)) : c ≠ 0 := by
  unfold lexP at h
  split at h
  · cases h; decide
  · exact lexG_code _ _ _ _ _ _ _ h
/- Whatever Lex answers. -/
theorem plex_shape (s : List UInt8) (w : World) (A : Gt w) (hm : s.length ≤ maxLen) :
    Calls Tryd.prog 9 #[.string (bs s)] w fun e w' => ∃ o n cp a c, e = .returned (.tuple #[.slice o n cp, .int .i64 a, .int .i64 c]) ∧ w.grownBy w' none := by
  cases h : lexP s with
  | ok ts => exact (plex_ok s w A hm h).mono fun e w' ⟨o, cp, he, _, hg⟩ => ⟨o, _, cp, _, _, he, hg⟩
  | error ac => obtain ⟨a, c⟩ := ac; exact (plex_err s w A hm h).mono fun e w' ⟨he, hg⟩ => ⟨_, _, _, _, _, he, hg⟩
/- 'append(l, t)', and where its row lies. -/
theorem wp_appU {ops : Array Oper} {rest : List Oper} {o : Oper} {a : Act} {w : World} {Q : Exit → Act → World → Prop} (hgd : o.guard = none) (s x : Operand) (ho : o.op = .call { callee := .builtin .append, args := #[s, x], argTypes := #[23, 23] })
    (M : Nat) (v : Value) (ts : List Tk) (hs : a.eval s = v) (hown : w.ownsRow M 37 4 v ts.length (tkL ts)) (ad : Nat) (t : Tk) (hx : a.eval x = .slice (some ⟨ad, 0, none⟩) 1 1) (hc : ∀ (j : Nat) (u : Value), (tkC t)[j]? = some u → w.cell? ((⟨ad, 0, none⟩ : Addr).add j) = some u)
    (hle : ts.length ≤ 100000) (hM : M ≤ w.heap.size)
    (h : ∀ d n cp w', w'.ownsRow M 37 4 (.slice d n cp) (ts ++ [t]).length (tkL (ts ++ [t])) → n = (ts ++ [t]).length → w.grownBy w' v.ownBlock → ((Value.slice d n cp).ownBlock = v.ownBlock ∨ (Value.slice d n cp).ownBlock = some w.heap.size) → wpList Tryd.prog ops Q rest (a.put o.dst (.slice d n cp)) w') : wpList Tryd.prog ops Q (o :: rest) a w := by
  obtain ⟨i0, hi, hz0, hz1, hz2⟩ := info_parts info_tok
  refine wpList_plain hgd fun K hK => ?_
  obtain ⟨v', w', hr, h2, h3, h4, h5⟩ := run_append_own_at (P := Tryd.prog) w M 23 o.type 37 i0 _ 4 40 Tryd.underlying23 hi hz0 hz1 hz2 rfl (by decide) v ts.length (tkL ts) hown ⟨ad, 0, none⟩ 1 1 (tkC t) rfl hc (by intro u hu; simp [tkC] at hu; rcases hu with rfl | rfl | rfl | rfl <;> rfl) (by unfold maxLen; omega) (by omega) hM
  unfold Oper.wp execOp
  simp only [ho, resolve, invoke, builtin, Sem.run_bind, Sem.run_pure, Result.andThen_ok, List.map_toArray, List.map_cons, List.map_nil, hs, hx, hr]
  obtain ⟨d, cp, hv⟩ := own_shape4 h2
  subst hv
  exact hK _ _ (h d _ cp w' (by rw [tkL_snoc, List.length_append]; exact h2) (by simp) h3 h5)
/- Tokens that lie elsewhere than the row that is written. -/
def apart (o : Option Addr) (r : Option Nat) : Prop := ∀ a, o = some a → r ≠ some a.block
theorem TkAt.keptR {w w' : World} {a : Addr} {t : Tk} {r : Option Nat} (h : TkAt w a t) (hg : w.grownBy w' r) (hr : r ≠ some a.block) : TkAt w' a t := by
  have hb : ∀ j, (a.add j).block = a.block := fun j => by unfold Addr.add; split <;> rfl
  exact ⟨hg.cell h.1 (by rw [hb]; exact fun e => hr e.symm), hg.cell h.2.1 (by rw [hb]; exact fun e => hr e.symm), hg.cell h.2.2.1 (by rw [hb]; exact fun e => hr e.symm), hg.cell h.2.2.2 (by rw [hb]; exact fun e => hr e.symm)⟩
theorem TkS.keptR {w w' : World} {o : Option Addr} {ts : List Tk} {r : Option Nat} (h : TkS w o ts) (hg : w.grownBy w' r) (hr : apart o r) : TkS w' o ts := by
  refine ⟨fun a e j hj => (h.at' a e j hj).keptR hg ?_, h.nil'⟩
  have hb : (a.add (j * 4)).block = a.block := by unfold Addr.add; split <;> rfl
  rw [hb]
  exact hr a e
theorem Own.lo {w w' : World} {o : Option Addr} {cp : Nat} {ts : List Tk} (h : Own w w' o cp ts) : ∀ a, o = some a → w.heap.size ≤ a.block ∧ a.block < w'.heap.size := by
  intro a e
  subst e
  have := h.row.lt a.block rfl
  exact this
theorem ap_start {w w1 w2 w3 : World} {o1 o2 o3 : Option Addr} {c1 c2 c3 n : Nat} {ts us all : List Tk} (h1 : Own w w1 o1 c1 ts) (h2 : Own w1 w2 o2 c2 us) (h3 : Own w2 w3 o3 c3 all) (g : w1.grownBy w2 none) : apart o2 (Value.slice o1 n c1).ownBlock ∧ apart o3 (Value.slice o1 n c1).ownBlock := by
  cases o1 with
  | none => exact ⟨fun a e => by simp [Value.ownBlock], fun a e => by simp [Value.ownBlock]⟩
  | some a1 =>
    have k1 := (h1.lo a1 rfl).2
    refine ⟨fun a e => ?_, fun a e => ?_⟩
    · have := (h2.lo a e).1
      simp [Value.ownBlock]
      omega
    · have := (h3.lo a e).1
      have := g.size
      simp [Value.ownBlock]
      omega
/- All that TokenJoins' loop keeps of the two other rows. -/
structure Besd (W : World) (o2 o3 : Option Addr) (us all : List Tk) (r : Option Nat) : Prop where
  t2 : TkS W o2 us
  t3 : TkS W o3 all
  a2 : apart o2 r
  a3 : apart o3 r
  l2 : ∀ a, o2 = some a → a.block < W.heap.size
  l3 : ∀ a, o3 = some a → a.block < W.heap.size
theorem Besd.next {W W' : World} {o2 o3 : Option Addr} {us all : List Tk} {r r' : Option Nat} {x y : Obj} (h : Besd W o2 o3 us all r) (hg : ((W.alloc x).alloc y).grownBy W' r) (hr : r' = r ∨ r' = some ((W.alloc x).alloc y).heap.size) : Besd W' o2 o3 us all r' := by
  have sz : ((W.alloc x).alloc y).heap.size = W.heap.size + 2 := by simp
  have s2 := hg.size
  refine ⟨(h.t2.kept (two_g _ _ _)).keptR hg h.a2, (h.t3.kept (two_g _ _ _)).keptR hg h.a3, fun a e => ?_, fun a e => ?_, fun a e => ?_, fun a e => ?_⟩
  · rcases hr with rfl | rfl
    · exact h.a2 a e
    · have := h.l2 a e
      rw [sz]
      simp
      omega
  · rcases hr with rfl | rfl
    · exact h.a3 a e
    · have := h.l3 a e
      rw [sz]
      simp
      omega
  · have := h.l2 a e; omega
  · have := h.l3 a e; omega
/- Tokens' places lie within their text. -/
theorem lexG_at : ∀ (n : Nat) (s : List UInt8) (q : Nat) (ok : Bool) (k : Nat) (ts : List Tk), lexG n s q ok k = .ok ts → ∀ t ∈ ts, 0 ≤ t.a ∧ t.a ≤ s.length
  | 0, s, q, ok, k, ts, h => by
    rw [lexG] at h
    cases h
    simp
  | n + 1, s, q, ok, k, ts, h => by
    rw [lexG] at h
    split at h
    · cases h
    split at h
    · rename_i hq
      split at h
      · cases h
      · split at h
        · cases h
        · rename_i t len ho _
          cases hr : lexG n s (q + len + (skP (s.drop (q + len))).1) (skP (s.drop (q + len))).2 (k + 1) with
          | error e => rw [hr] at h; cases h
          | ok us =>
            rw [hr] at h
            simp [Except.map] at h
            subst h
            intro x hx
            rcases List.mem_cons.1 hx with rfl | hx
            · rw [one_place ho]; omega
            · exact lexG_at n _ _ _ _ _ hr x hx
    · cases h
      simp
theorem lexP_at {s : List UInt8} {ts : List Tk} (h : lexP s = .ok ts) {i : Nat} {x : Tk} (hx : ts[i]? = some x) : 0 ≤ x.a ∧ x.a ≤ s.length := by
  unfold lexP at h
  split at h
  · cases h
  · exact lexG_at _ _ _ _ _ _ h x (List.mem_of_getElem? hx)
/- The text that is spread, after i tokens: what was laid, and what is left. -/
def sprA (B s : List UInt8) (ts : List Tk) : Nat → List UInt8 × Nat
  | 0 => ([], 0)
  | i + 1 => match ts[i]? with
    | some t => ((sprA B s ts i).1 ++ (((s.drop (sprA B s ts i).2).take (t.a.toNat - (sprA B s ts i).2)) ++ B), t.a.toNat)
    | none => sprA B s ts i
end Go.Proofs.YthnkkcamfcmhmaaDoor.Lx
