/-
  Package scope: a scope in memory; New, Depth, Open.
-/
import Derived.Test.YtmoekalagollhaaSc3
import Derived.Test.YtmoekalagollhaaTy5
import Derived.Test.YtmoekalagollhaaCf3
namespace Go.Proofs.Ytmoekalagollhaa.So
open Go.RowKit hiding Hid
open Go.Proofs.Ytmoekalagollhaa.Tx Go.Proofs.Ytmoekalagollhaa.Lx Go.Proofs.Ytmoekalagollhaa.Tr Go.Proofs.Ytmoekalagollhaa.Ty
set_option linter.unusedVariables false
set_option linter.unusedSimpArgs false
set_option maxRecDepth 100000

theorem tcTS : TyC Try.prog 54 := tyC_of Try.underlying54 rfl (by kernel_rfl)
theorem tcTSS : TyC Try.prog 72 := tyC_of Try.underlying72 rfl (by kernel_rfl)
theorem tcMAP : TyC Try.prog 71 := tyC_of Try.underlying71 rfl (by kernel_rfl)
theorem tcSTR : TyC Try.prog 9 := tyC_of Try.underlying9 rfl (by kernel_rfl)
theorem infoTS : (Try.prog.info? 54).map (fun i => (i.zero.map (·.cells.size), i.size, i.bytes)) = some (some 1, 1, 24) := by kernel_rfl
theorem infoSTR : (Try.prog.info? 9).map (fun i => (i.zero.map (·.cells.size), i.size, i.bytes)) = some (some 1, 1, 16) := by kernel_rfl
def nmC (l : Lv1) : List Value := l.map (fun p => .string (bs p.1))
abbrev Vm := List (Value × Lv1)
def rowP (p : Value × Lv1) : Rw := ⟨p.1, 9, 1, p.2.length, nmC p.2⟩
theorem cfs_mkmap {P : Program} {ops : Array Oper} {rest : List Oper} {o : Oper} {a : Act} {w w0 : World} {Q : Exit → Act → World → Prop} {A : Nat → Prop} {X : Option Nat} {L : List Lc} {Rs : List Rw} {Fs : List Fk} (hgd : o.guard = none) (T : TypeId) (ho : o.op = .makeMap T none) (p : Nat → World → Prop) (hp : ∀ w : World, p w.heap.size (w.alloc (.map #[] 0))) (hs : ∀ b, Stab b (p b)) (H : Cf w0 A X L Rs Fs w)
    (h : ∀ b w', Cf w0 A X L Rs (⟨b, p b⟩ :: Fs) w' → wpList P ops Q rest (a.put o.dst (.map (some b))) w') : wpList P ops Q (o :: rest) a w := by
  refine wl_val (w' := w.alloc (.map #[] 0)) hgd ?_ (h w.heap.size _ (H.new (hp w) (hs _)))
  unfold execOp
  simp [ho, Instr.makeMap]
theorem stabS (b : Nat) (E : List En) : Stab b (fun W => FM W b E) := fun w w' row hg hne h => h.kept hg hne
/- A scope: its head at b, its map at mb, the row of its levels, a row a level. -/
abbrev PC (w0 : World) (b mb : Nat) (d : Option Addr) (c : Nat) (VM : Vm) (L : List Lc) (Rs : List Rw) (Fs : List Fk) (w : World) : Prop := Cf w0 (fun _ => False) none (⟨b, [.map (some mb), .slice d VM.length c], 74⟩ :: L) (⟨.slice d VM.length c, 54, 1, VM.length, (VM.map Prod.fst).reverse⟩ :: (VM.map rowP ++ Rs)) (⟨mb, fun W => FM W mb (ents (VM.map Prod.snd))⟩ :: Fs) w
def PS (w0 : World) (b mb : Nat) (M : Sx) (L : List Lc) (Rs : List Rw) (Fs : List Fk) (w : World) : Prop := ∃ d c VM, VM.map Prod.snd = M ∧ PC w0 b mb d c VM L Rs Fs w
theorem PS.grow {w0 w w' : World} {b mb : Nat} {M : Sx} {L : List Lc} {Rs : List Rw} {Fs : List Fk} (H : PS w0 b mb M L Rs Fs w) (hg : w.grownBy w' none) : PS w0 b mb M L Rs Fs w' := by
  obtain ⟨d, c, VM, h1, h2⟩ := H
  exact ⟨d, c, VM, h1, h2.g hg⟩
set_option maxHeartbeats 2000000 in
theorem depth_nil (w : World) : Calls Try.prog 36 #[.pointer none] w (fun e w' => e = .returned (.int .i64 (-1)) ∧ w' = w) := by
  go_enter Try.func36, Try.ntmps36
  go_wp2
  go_ret
  exact ⟨rfl, rfl⟩
set_option maxHeartbeats 2000000 in
theorem depth_at {w0 w : World} {b mb : Nat} {M : Sx} {L : List Lc} {Rs : List Rw} {Fs : List Fk} (H : PS w0 b mb M L Rs Fs w) (hM : M.length ≤ 64) : Calls Try.prog 36 #[.pointer (some ⟨b, 0, none⟩)] w (fun e w' => e = .returned (.int .i64 ((M.length : Int) - 1)) ∧ w' = w) := by
  obtain ⟨d, c, VM, rfl, H⟩ := H
  rw [List.length_map] at hM ⊢
  have HC := hide H
  obtain ⟨n, hn⟩ : ∃ n, VM.length = n := ⟨_, rfl⟩
  unfold PC at HC
  rw [hn] at HC hM ⊢
  have k1 : (n : Int) ≤ 64 := by omega
  clear H hM hn
  go_enter Try.func36, Try.ntmps36
  go_wp2_with (refine at_load 72 rfl ?_; refine wl_load_c rfl 72 _ rfl tcTSS rfl HC.out.cx (by repeat (first | exact List.Mem.head _ | apply List.Mem.tail)) (by repeat (first | exact GetS.cons _ (GetS.nil _) | apply GetS.skip)) ?_)
  go_ret
  exact ⟨rfl, rfl⟩
theorem zTS : (Try.prog.info? 54).bind (fun i => i.zero.map (·.cells)) = some ([.slice none 0 0] : List Value).toArray := by kernel_rfl
set_option maxHeartbeats 2000000 in
theorem new_at {w0 w : World} {L : List Lc} {Rs : List Rw} {Fs : List Fk} (H : Cf w0 (fun _ => False) none L Rs Fs w) : Calls Try.prog 25 #[] w (fun e w' => ∃ b mb, e = .returned (.pointer (some ⟨b, 0, none⟩)) ∧ PS w0 b mb [[]] L Rs Fs w') := by
  have HC := hide H
  clear H
  go_enter Try.func25, Try.ntmps25
  go_wp2_with (first | (refine at_mkmap 71 rfl ?_; refine cfs_mkmap rfl 71 rfl (fun b W => FM W b []) FM.made (fun b => stabS b []) HC.out ?_; intro mb w' hc; (replace HC := hide hc; clear hc)) | (refine at_mks1 72 rfl ?_; refine cf_mks1 rfl 72 _ _ rfl Try.underlying72 zTS infoTS (by decide) rfl rfl HC.out ?_; intro g w' hc; (replace HC := hide hc; clear hc)) | (refine at_box 74 rfl ?_; refine cf_box rfl 74 _ rfl [.map (some mb), .slice (some ⟨g, 0, none⟩) 1 1] rfl HC.out ?_; intro b w' hn hc; (replace HC := hide hc; clear hc)))
  go_ret
  refine ⟨b, mb, rfl, some ⟨g, 0, none⟩, 1, [(.slice none 0 0, [])], rfl, ?_⟩
  have H := (HC.out.nilR 9 1).swapR
  exact H
set_option maxHeartbeats 2000000 in
theorem open_nil (w : World) : Calls Try.prog 27 #[.pointer none] w (fun e w' => e = .returned (.int .i64 1) ∧ w' = w) := by
  go_enter Try.func27, Try.ntmps27
  go_wp2
  go_ret
  exact ⟨rfl, rfl⟩
set_option maxHeartbeats 4000000 in
theorem open_at {w0 w : World} {b mb : Nat} {M : Sx} {L : List Lc} {Rs : List Rw} {Fs : List Fk} (H : PS w0 b mb M L Rs Fs w) (hM : M.length ≤ 64) : Calls Try.prog 27 #[.pointer (some ⟨b, 0, none⟩)] w (fun e w' => (e = .returned (.int .i64 (if M.length = 64 then 4 else 0))) ∧ PS w0 b mb (if M.length = 64 then M else [] :: M) L Rs Fs w') := by
  obtain ⟨d, c, VM, rfl, H⟩ := H
  rw [List.length_map] at hM ⊢
  have HC := hide H
  obtain ⟨n, hn⟩ : ∃ n, VM.length = n := ⟨_, rfl⟩
  unfold PC at HC
  rw [hn] at HC hM ⊢
  have HN := hide hn
  by_cases h64 : n = 64
  · rw [if_pos h64, if_pos h64]
    have k1 : (64 : Int) ≤ n := by omega
    have k2 : (n : Int) ≤ 64 := by omega
    clear H hM hn h64
    go_enter Try.func27, Try.ntmps27
    go_wp2_with (refine at_load 72 rfl ?_; refine wl_load_c rfl 72 _ rfl tcTSS rfl HC.out.cx (by repeat (first | exact List.Mem.head _ | apply List.Mem.tail)) (by repeat (first | exact GetS.cons _ (GetS.nil _) | apply GetS.skip)) ?_)
    go_ret
    refine ⟨rfl, d, c, VM, rfl, ?_⟩
    have H := HC.out
    unfold PC
    rw [HN.out]
    exact H
  · rw [if_neg h64, if_neg h64]
    have k1 : ¬ (64 : Int) ≤ n := by omega
    have k2 : (n : Int) ≤ 64 := by omega
    clear H hn h64
    go_enter Try.func27, Try.ntmps27
    go_wp2_with (first | (refine at_load 72 rfl ?_; refine wl_load_c rfl 72 _ rfl tcTSS rfl HC.out.cx (by repeat (first | exact List.Mem.head _ | apply List.Mem.tail)) (by repeat (first | exact GetS.cons _ (GetS.nil _) | apply GetS.skip)) ?_) | (refine at_bs 72 rfl ?_; refine wl_op rfl (fun K' hK => ?_); refine cfo_bl 72 1 _ rfl 54 [.slice none 0 0] HC.out (by kernel_rfl) ?_; intro bb w' hn hg hc; clear hg; (replace HC := hide hc; clear hc); refine hK _ _ ?_; clear hK K') | (refine at_call2 (b := .append) rfl ?_; refine wl_op rfl (fun K' hK => ?_); refine cfo_ap (v := .slice d n c) _ _ rfl Try.underlying72 infoTS (by decide) (by decide) rfl rfl HC.out rfl rfl (by omega) ?_; intro d9 c9 w' hg hc; clear hg; (replace HC := hide hc; clear hc); refine hK _ _ ?_; clear hK K') | (refine at_store 72 rfl ?_; refine cf_store (us := [_]) rfl 72 _ _ rfl rfl rfl tcTSS.sz rfl HC.out (by repeat (first | exact List.Mem.head _ | apply List.Mem.tail)) (by repeat (first | exact PutS.cons _ _ (PutS.nil _) | apply PutS.skip)) (by repeat (first | exact Upd.here _ _ _ | apply Upd.there)) ?_; intro w' hc; (replace HC := hide hc; clear hc)))
    go_ret
    refine ⟨rfl, d9, c9, (.slice none 0 0, []) :: VM, rfl, ?_⟩
    unfold PC
    have H := (HC.out.nilR 9 1).swapR
    rw [List.length_cons, HN.out, List.map_cons, List.reverse_cons]
    exact H
end Go.Proofs.Ytmoekalagollhaa.So
