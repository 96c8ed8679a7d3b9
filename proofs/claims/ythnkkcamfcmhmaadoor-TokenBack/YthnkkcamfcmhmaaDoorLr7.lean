/-
  The document's own tokens (package spinetref09): Lex.
-/
import Derived.Test.YthnkkcamfcmhmaaDoorLr6
import Derived.Test.YthnkkcamfcmhmaaDoorLx2
import Derived.Maps.AppendAt
import Derived.Laws.AppendOwnNone
import Derived.OwnWalk
namespace Go.Proofs.YthnkkcamfcmhmaaDoor.Lx
open Go.RowKit Go.Proofs.YthnkkcamfcmhmaaDoor.Tx
set_option linter.unusedVariables false
set_option linter.unusedSimpArgs false
set_option maxRecDepth 100000

/- A token's four cells. -/
def tkC (t : Tk) : List Value := [.int .i64 t.k, .string (bs t.t), .int .i64 t.n, .int .i64 t.a]
def tkL (ts : List Tk) : List Value := ts.flatMap tkC
theorem tkL_len (ts : List Tk) : (tkL ts).length = ts.length * 4 := by
  induction ts with
  | nil => rfl
  | cons t ts ih => simp only [tkL, List.flatMap_cons, List.length_append, List.length_cons] at ih ⊢; rw [ih]; simp [tkC]; omega
theorem tkL_snoc (ts : List Tk) (t : Tk) : tkL (ts ++ [t]) = tkL ts ++ tkC t := by simp [tkL]
theorem info_tok : (Tryd.prog.info? 37).map (fun i => (i.zero, i.size, i.bytes)) = some (some (.agg #[.int .i64 0, .string ⟨#[]⟩, .int .i64 0, .int .i64 0]), 4, 40) := by kernel_rfl
theorem own_shape4 {w : World} {B n : Nat} {e : TypeId} {v : Value} {xs : List Value} (h : w.ownsRow B e 4 v n xs) : ∃ a c, v = .slice a n c := by
  rcases h.2 with ⟨rfl, h0⟩ | ⟨g, cap, cur, rfl, _⟩
  · exact ⟨none, 0, by rw [h0]⟩
  · exact ⟨_, cap, rfl⟩
theorem cell_four (w : World) (t : Tk) : ∀ (j : Nat) (u : Value), (tkC t)[j]? = some u → (w.alloc (.cells #[.int .i64 t.k, .string (bs t.t), .int .i64 t.n, .int .i64 t.a] 37)).cell? ((⟨w.heap.size, 0, none⟩ : Addr).add j) = some u := by
  intro j u hj
  have k : (⟨w.heap.size, 0, none⟩ : Addr).add j = ⟨w.heap.size, j, none⟩ := by unfold Addr.add; split <;> simp_all
  rw [k, cell_of_row _ _ _ _ _ _ (heap_alloc_new _ _)]
  match j, hj with
  | 0, hj => simpa [tkC] using hj
  | 1, hj => simpa [tkC] using hj
  | 2, hj => simpa [tkC] using hj
  | 3, hj => simpa [tkC] using hj
  | j + 4, hj => simp [tkC] at hj
/- 'append(l, t)'. -/
theorem wp_appT {ops : Array Oper} {rest : List Oper} {o : Oper} {a : Act} {w : World} {Q : Exit → Act → World → Prop} (hgd : o.guard = none) (s x : Operand) (ho : o.op = .call { callee := .builtin .append, args := #[s, x], argTypes := #[23, 23] })
    (M : Nat) (v : Value) (ts : List Tk) (hs : a.eval s = v) (hown : w.ownsRow M 37 4 v ts.length (tkL ts)) (ad : Nat) (t : Tk) (hx : a.eval x = .slice (some ⟨ad, 0, none⟩) 1 1) (hc : ∀ (j : Nat) (u : Value), (tkC t)[j]? = some u → w.cell? ((⟨ad, 0, none⟩ : Addr).add j) = some u)
    (hle : ts.length ≤ 100000) (hM : M ≤ w.heap.size)
    (h : ∀ d n cp w', w'.ownsRow M 37 4 (.slice d n cp) (ts ++ [t]).length (tkL (ts ++ [t])) → n = (ts ++ [t]).length → w.grownBy w' v.ownBlock → wpList Tryd.prog ops Q rest (a.put o.dst (.slice d n cp)) w') : wpList Tryd.prog ops Q (o :: rest) a w := by
  obtain ⟨i0, hi, hz0, hz1, hz2⟩ := info_parts info_tok
  refine wpList_plain hgd fun K hK => ?_
  obtain ⟨v', w', hr, h2, h3, h4, h5⟩ := run_append_own_at (P := Tryd.prog) w M 23 o.type 37 i0 _ 4 40 Tryd.underlying23 hi hz0 hz1 hz2 rfl (by decide) v ts.length (tkL ts) hown ⟨ad, 0, none⟩ 1 1 (tkC t) rfl hc (by intro u hu; simp [tkC] at hu; rcases hu with rfl | rfl | rfl | rfl <;> rfl) (by unfold maxLen; omega) (by omega) hM
  unfold Oper.wp execOp
  simp only [ho, resolve, invoke, builtin, Sem.run_bind, Sem.run_pure, Result.andThen_ok, List.map_toArray, List.map_cons, List.map_nil, hs, hx, hr]
  obtain ⟨d, cp, hv⟩ := own_shape4 h2
  subst hv
  exact hK _ _ (h d _ cp w' (by rw [tkL_snoc, List.length_append]; exact h2) (by simp) h3)
theorem none_or (v : Value) : v.ownBlock = none ∨ v.ownBlock ≠ none := by cases v.ownBlock <;> simp
/- The token's own block, and the one of the slice behind it. -/
theorem cell_fourS (w : World) (t : Tk) : ∀ (j : Nat) (u : Value), (tkC t)[j]? = some u → ((w.alloc (.cells #[.int .i64 t.k, .string (bs t.t), .int .i64 t.n, .int .i64 t.a] 37)).alloc (.cells #[.int .i64 t.k, .string (bs t.t), .int .i64 t.n, .int .i64 t.a] 37)).cell? ((⟨w.heap.size + 1, 0, none⟩ : Addr).add j) = some u := by
  have := cell_four (w.alloc (.cells #[.int .i64 t.k, .string (bs t.t), .int .i64 t.n, .int .i64 t.a] 37)) t
  rwa [show (w.alloc (.cells #[.int .i64 t.k, .string (bs t.t), .int .i64 t.n, .int .i64 t.a] 37)).heap.size = w.heap.size + 1 by simp] at this
theorem grown_row {w W W1 : World} {v : Value} {n : Nat} {xs : List Value} {a b : Obj} (h : w.grownBy W none) (ho : W.ownsRow w.heap.size 37 4 v n xs) (hg : ((W.alloc a).alloc b).grownBy W1 v.ownBlock) : w.grownBy W1 none :=
  (grown_trans h (two_g _ _ _)).andThen hg (fun j hj => .inl (ho.lt j hj).1)
/- What Lex leaves. -/
def LexR (w W : World) (o : Except (Int × Int) (List Tk)) (e : Ending) : Prop := match o with
  | .ok ts => ∃ v, e = .returned (.tuple #[v, .int .i64 0, .int .i64 0]) ∧ W.ownsRow w.heap.size 37 4 v ts.length (tkL ts)
  | .error (at_, c) => e = .returned (.tuple #[.slice none 0 0, .int .i64 at_, .int .i64 c])
theorem lex_long (s : List UInt8) (w : World) (hm : s.length ≤ maxLen) (h : 16384 < s.length) :
    Calls Tryd.prog 10 #[.string (bs s)] w fun e w' => LexR w w' (lexP s) e ∧ w.grownBy w' none := by
  have hsz := bs_size s
  have j1 : (16384 : Int) < s.length := by omega
  have j2 : (s.length : Int) ≤ 9223372036854775807 := by unfold maxLen at hm; omega
  have HP := hide (show lexP s = .error (0, 2) by unfold lexP; rw [if_pos h])
  clear hm h
  go_enter Tryd.func10, Tryd.ntmps10
  go_wp2
  go_ret3
  refine ⟨?_, ⟨rfl, rfl, rfl, Nat.le_refl _, fun _ _ _ => rfl⟩⟩
  rw [HP.out]
  rfl
set_option maxHeartbeats 4000000 in
theorem lex_at (s : List UInt8) (w : World) (hl : s.length ≤ 16384) :
    Calls Tryd.prog 10 #[.string (bs s)] w fun e w' => LexR w w' (lexP s) e ∧ w.grownBy w' none := by
  have hsz := bs_size s
  have hs : s.length ≤ 1000000 := by omega
  have j1 : ¬ (16384 : Int) < s.length := by omega
  have HSk0 := hide (skip_at s 0 w hs (Nat.zero_le _))
  have HP := hide (show lexP s = lexG (s.length + 1) s (skP s).1 (skP s).2 0 by unfold lexP; rw [if_neg (by omega)])
  have hk0 := skP_le s
  obtain ⟨o0, ho0⟩ : ∃ o, (skP s).1 = o := ⟨_, rfl⟩
  obtain ⟨b0, hb0⟩ : ∃ b, (skP s).2 = b := ⟨_, rfl⟩
  unfold skT at HSk0
  rw [List.drop_zero, ho0, hb0] at HSk0
  rw [ho0, hb0] at HP
  rw [ho0] at hk0
  clear ho0 hb0
  go_enter Tryd.func10, Tryd.ntmps10
  go_wp2_with (go_at_call 18; refine HSk0.out.mono ?_; rintro e w' ⟨rfl, hw⟩; replace hw := hw.symm; subst hw)
  clear HSk0
  go_loopw [5, 6, 7] (fun lv av kv W => ∃ (v : Value) (q : Nat) (ok : Bool) (d : List Tk) (n : Nat), q ≤ s.length ∧ lv = v ∧ av = .int .i64 q ∧ kv = .bool ok ∧ d.length ≤ 6000 ∧ Hid (s.length + 1 ≤ q + n) ∧ Hid (W.ownsRow w.heap.size 37 4 v d.length (tkL d)) ∧ Hid (w.grownBy W none) ∧ Hid (lexP s = ahead d (lexG n s q ok d.length))) (fun _ av _ _ => s.length + 1 - (intOf av).toNat)
  case atStart => exact ⟨.slice none 0 0, o0, b0, [], s.length + 1, hk0, rfl, by simp, rfl, by simp, hide (by omega), hide ⟨rfl, .inl ⟨rfl, rfl⟩⟩, hide ⟨rfl, rfl, rfl, Nat.le_refl _, fun _ _ _ => rfl⟩, hide (by rw [ahead_nil]; exact HP.out)⟩
  case round =>
    obtain ⟨v, q, ok, d, n, hq, rfl, rfl, rfl, hd, HN, HO, HG, HE⟩ := hrel
    clear HP hk0
    obtain ⟨da, cp, hv⟩ := own_shape4 HO.out
    subst hv
    have hd6 : (d.length : Int) ≤ 6000 := by omega
    cases n with
    | zero => have := HN.out; omega
    | succ n =>
    cases ok with
    | false =>
      have HB := hide (show lexP s = .error ((q : Int), 90) by rw [HE.out, lexG_bad]; rfl)
      go_wp2
      go_ret3
      refine ⟨?_, HG.out⟩
      rw [HB.out]
      rfl
    | true =>
      by_cases hlt : q < s.length
      · have i1 : (q : Int) < s.length := by omega
        rcases oneT_is (t := s.drop q) (a := q) with herr | ⟨t, len, ho, l1, l2⟩
        · obtain ⟨ec, hec, e0⟩ : ∃ ec : Int, oneT (s.drop q) q = .error ec ∧ (ec == 0) = false ∧ (ec != 0) = true := by
            rcases herr with h | h | h
            · exact ⟨90, h, by decide, by decide⟩
            · exact ⟨91, h, by decide, by decide⟩
            · exact ⟨2, h, by decide, by decide⟩
          obtain ⟨e1, e2⟩ := e0
          have HB := hide (show lexP s = .error ((q : Int), ec) by rw [HE.out, lexG_err hlt hec]; rfl)
          have HEc := hide hec
          clear herr hec
          go_wp2_with (go_at_call 19; refine (one_at s q _ hs hlt).mono ?_; rw [HEc.out]; rintro e wk ⟨v, rfl, ⟨tk, tx, tn, ta, rfl⟩, hg⟩; have GK := hide (grown_trans HG.out hg); clear hg)
          go_ret3
          refine ⟨?_, grown_trans GK.out (alloc_g _ _)⟩
          rw [HB.out]
          rfl
        · have HOk := hide ho
          rw [List.length_drop] at l2
          by_cases h6 : d.length = 6000
          · have HB := hide (show lexP s = .error ((q : Int), 3) by rw [HE.out, h6, lexG_many hlt ho]; rfl)
            have e6 : ((d.length : Int) == 6000) = true := by rw [h6]; rfl
            have HD6 := hide h6
            clear ho h6
            go_wp2_with (go_at_call 19; refine (one_at s q _ hs hlt).mono ?_; rw [HOk.out]; rintro e wk ⟨v, rfl, hv, hg⟩; replace hv := show v = _ from hv; subst hv; have GK := hide (grown_trans HG.out hg); clear hg)
            go_ret3
            refine ⟨?_, grown_trans GK.out (alloc_g _ _)⟩
            rw [HB.out]
            rfl
          · have e6 : ((d.length : Int) == 6000) = false := by simp; omega
            have HB := hide (show lexP s = ahead (d ++ [t]) (lexG n s (q + len + (skP (s.drop (q + len))).1) (skP (s.drop (q + len))).2 (d ++ [t]).length) by rw [HE.out, lexG_on hlt h6 ho, ahead_cons, List.length_append]; rfl)
            have HSk := hide (fun W => skip_at s (q + len) W hs (by omega))
            have hk := skP_le (s.drop (q + len))
            rw [List.length_drop] at hk
            obtain ⟨so, hso⟩ : ∃ o, (skP (s.drop (q + len))).1 = o := ⟨_, rfl⟩
            obtain ⟨sb, hsb⟩ : ∃ b, (skP (s.drop (q + len))).2 = b := ⟨_, rfl⟩
            unfold skT at HSk
            rw [hso, hsb] at HSk HB
            rw [hso] at hk
            rw [Int.natCast_add] at HSk
            have HH6 := hide h6
            clear ho h6 hso hsb
            go_wp2_with (first
              | (go_at_call 19; refine (one_at s q _ hs hlt).mono ?_; rw [HOk.out]; rintro e wk ⟨v, rfl, hv, hg⟩; replace hv := show v = _ from hv; subst hv; have GK := hide (grown_trans HG.out hg); have OK := hide (HO.out.kept hg (none_or _)); clear hg)
              | (at_builtin; refine wp_appT rfl _ _ rfl w.heap.size (.slice da d.length cp) d rfl ((OK.out.alloc _).alloc _) (wk.heap.size + 1) t rfl (cell_fourS wk t) (by omega) (by have := GK.out.size; simp; omega) ?_; intro d1 n1 p1 w3 h1 h2 h3; have O3 := hide h1; have G3 := hide (grown_row GK.out OK.out h3); have HN1 := hide h2; clear h1 h2 h3)
              | (go_at_call 18; refine (HSk.out _).mono ?_; rintro e w' ⟨rfl, hw⟩; replace hw := hw.symm; subst hw))
            go_roundw
            case rel => exact ⟨_, q + len + so, sb, d ++ [t], n, by omega, rfl, by go_num, rfl, by simp; have := HH6.out; omega, hide (by have := HN.out; omega), O3, G3, HB⟩
            case measure => simp [intOf]; omega
      · have i1 : ¬ (q : Int) < s.length := by omega
        have HB := hide (show lexP s = .ok d by rw [HE.out, lexG_end hlt]; simp [ahead, Except.map])
        go_wp2
        go_ret3
        refine ⟨?_, HG.out⟩
        rw [HB.out]
        exact ⟨_, rfl, HO.out⟩
end Go.Proofs.YthnkkcamfcmhmaaDoor.Lx
