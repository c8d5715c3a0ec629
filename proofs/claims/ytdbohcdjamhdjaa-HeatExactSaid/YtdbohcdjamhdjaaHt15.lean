/- Heats of chunks: the book in memory; New, set, Touch, Of, Forget. -/
import Derived.Test.YtdbohcdjamhdjaaUk13
import Derived.Test.YtdbohcdjamhdjaaRf
import Derived.OpenShut
set_option linter.unusedVariables false
namespace Go.Proofs.Ytdbohcdjamhdjaa
open Go.RowKit Go.Maps

attribute [local go_sem high] run_min2f

/-- A heat, as a map's element. -/
def htV (n : Nat) : Value := .int .i64 (n : Int)
theorem htV_inj (a b : Nat) (h : htV a = htV b) : a = b := by
  unfold htV at h
  simp only [Value.int.injEq, true_and] at h
  omega
theorem zeroHt (w : World) : (zeroValue 3).run Try.prog w = .ok (htV 0) w := by
  have : (zeroValue 3).run Try.prog w = .ok (.int .i64 0) w := by kernel_rfl
  rw [this]
  rfl
/-- The map of heats that aren't 0. -/
def htM (f : Int → Nat) : Int → Option Nat := fun q => if f q = 0 then none else some (f q)
/-- A heat is set. -/
def htS (f : Int → Nat) (c : Int) (n : Nat) : Int → Nat := fun q => if q = c then n else f q
theorem htS_same (f : Int → Nat) (c : Int) (n : Nat) : htS f c n c = n := if_pos rfl
theorem htS_other (f : Int → Nat) {c q : Int} (n : Nat) (h : q ≠ c) : htS f c n q = f q := if_neg h
theorem htM_get (f : Int → Nat) (x : Int) : (htM f x).getD 0 = f x := by
  unfold htM
  split
  · rename_i h; rw [h]; rfl
  · rfl
theorem htM_put (f : Int → Nat) (x : Int) {n : Nat} (h0 : n ≠ 0) : mpPut (htM f) x n = htM (htS f x n) := by
  funext q
  unfold mpPut htM htS
  by_cases h : q = x
  · subst h; simp [h0]
  · rw [if_neg h, if_neg h]
theorem htM_del (f : Int → Nat) (x : Int) : mpDel (htM f) x = htM (htS f x 0) := by
  funext q
  unfold mpDel htM htS
  by_cases h : q = x
  · subst h; simp
  · rw [if_neg h, if_neg h]
theorem htM_ran {f : Int → Nat} (hr : ∀ c, f c ≠ 0 → 1 ≤ c ∧ c ≤ 1023) : ∀ x l, htM f x = some l → 0 ≤ x ∧ x < (1024 : Nat) := by
  intro x l h
  unfold htM at h
  split at h
  · cases h
  · rename_i h0
    have := hr x h0
    omega

/-- A book at block b, its map in block m. -/
structure HBk (b m : Nat) (f : Int → Nat) (w : World) : Prop where
  hb : w.heap[b]? = some (.cells #[.map (some m)] 84 (0, 0))
  mp : MpAt htV m 1024 (htM f) w
  ran : ∀ c, f c ≠ 0 → 1 ≤ c ∧ c ≤ 1023
  mx : ∀ c, f c ≤ 1048576

section
variable {b m : Nat} {f : Int → Nat} {w w' : World}
theorem HBk.lt (H : HBk b m f w) : b < w.heap.size := (Array.getElem?_eq_some_iff.1 H.hb).1
theorem HBk.ne (H : HBk b m f w) : b ≠ m := H.mp.ne H.hb
theorem HBk.cell (H : HBk b m f w) : w.cell? ⟨b, 0, none⟩ = some (.map (some m)) := by simp [World.cell?, H.hb]
theorem HBk.kept {X : Nat → Prop} (H : HBk b m f w) (hk : KeptIn X w w') (h1 : X b) (h2 : X m) : HBk b m f w' :=
  ⟨(hk.block b h1).trans H.hb, H.mp.kept hk h2, H.ran, H.mx⟩
theorem HBk.old (H : HBk b m f w) (hk : KeptIn (· < w.heap.size) w w') : HBk b m f w' := H.kept hk H.lt H.mp.lt
theorem HBk.look (H : HBk b m f w) (c : Int) (hc : (Lit.int .i64 c).wf = true) : (Instr.lookup 68 (.map (some m)) (.int .i64 c) false).run Try.prog w = .ok (.int .i64 (f c : Int)) w := by
  have := (H.mp.look htV_inj Try.underlying68 0 (zeroHt w) c hc).2
  rw [htM_get] at this
  exact this

/-- What a deed leaves. -/
def HtD (b m : Nat) (f : Int → Nat) (w : World) (e : Ending) (w' : World) : Prop :=
  e = .returned (.tuple #[]) ∧ HBk b m f w' ∧ KeptIn (fun k => k < w.heap.size ∧ k ≠ m) w w'

theorem keptHt {m : Nat} {w w' : World} (h : KeptIn (· ≠ m) w w') : KeptIn (fun k => k < w.heap.size ∧ k ≠ m) w w' := h.mono fun _ h => h.2

set_option maxRecDepth 100000 in
theorem htSet0 (H : HBk b m f w) (c : Int) (hc : (Lit.int .i64 c).wf = true) :
    Calls Try.prog 29 #[.pointer (some ⟨b, 0, none⟩), .int .i64 c, .int .i64 0] w (HtD b m (htS f c 0) w) := by
  have c0 := H.cell
  obtain ⟨W2, hd, hm, hk, hs⟩ := H.mp.drop Try.underlying68 c hc 0
  have hd' : ∀ ty, (Builtin.delete_ #[68, 3] ty #[.map (some m), .int .i64 c]).run Try.prog w = .ok (.tuple #[]) W2 := fun ty => hd
  rw [htM_del] at hm
  have hS : HtD b m (htS f c 0) w (.returned (.tuple #[])) W2 := ⟨rfl, ⟨(hk.block b H.ne).trans H.hb, hm, fun d hd => H.ran d (fun e => hd (by unfold htS; split <;> simp_all)), fun d => by unfold htS; split <;> first | omega | exact H.mx d⟩, keptHt hk⟩
  have HS := Lib.hid hS
  clear hS hm hk hs hd H
  go_enter Try.func29, Try.ntmps29
  go_wp2_with fail
  refine bodyPost_ret (results_none rfl _ _ _) rfl ?_
  exact HS.out
set_option maxRecDepth 100000 in
theorem htSetN (H : HBk b m f w) (c : Int) (hc : (Lit.int .i64 c).wf = true) (n : Nat) (h0 : n ≠ 0) (h1 : 1 ≤ c) (h2 : c ≤ 1023) (h3 : n ≤ 1048576) :
    Calls Try.prog 29 #[.pointer (some ⟨b, 0, none⟩), .int .i64 c, .int .i64 (n : Int)] w (HtD b m (htS f c n) w) := by
  have c0 := H.cell
  obtain ⟨W2, hd, hm, hk, hs⟩ := H.mp.store htV_inj Try.underlying68 (by unfold maxLen; omega) c hc n
  rw [htM_put f c h0] at hm
  have hr : ∀ d, htS f c n d ≠ 0 → 1 ≤ d ∧ d ≤ 1023 := fun d hd => by
    by_cases e : d = c
    · omega
    · rw [htS_other _ _ e] at hd; exact H.ran d hd
  have hS : HtD b m (htS f c n) w (.returned (.tuple #[])) W2 := ⟨rfl, ⟨(hk.block b H.ne).trans H.hb, hm.cap (htM_ran hr), hr, fun d => by unfold htS; split <;> first | omega | exact H.mx d⟩, keptHt hk⟩
  have HS := Lib.hid hS
  unfold htV at hd
  have z0 : ((n : Int) == 0) = false := by rw [beq_eq_false_iff_ne]; omega
  clear hS hm hk hs H hr h0
  go_enter Try.func29, Try.ntmps29
  go_wp2_with fail
  go_end0
  exact HS.out
theorem htSet (H : HBk b m f w) (c : Int) (hc : (Lit.int .i64 c).wf = true) (n : Nat) (h : n ≠ 0 → 1 ≤ c ∧ c ≤ 1023) (h3 : n ≤ 1048576) :
    Calls Try.prog 29 #[.pointer (some ⟨b, 0, none⟩), .int .i64 c, .int .i64 (n : Int)] w (HtD b m (htS f c n) w) := by
  by_cases h0 : n = 0
  · subst h0
    exact htSet0 H c hc
  · exact htSetN H c hc n h0 (h h0).1 (h h0).2 h3

/-- Touch. -/
def tch (f : Int → Nat) (c n : Int) : Int → Nat := if 1 ≤ c ∧ c ≤ 1023 ∧ 0 < n then htS f c (min 1048576 (f c + n.toNat)) else f

set_option maxRecDepth 100000 in
theorem htTouch (H : HBk b m f w) (c n : Int) (hc : (Lit.int .i64 c).wf = true) (hn : (Lit.int .i64 n).wf = true) :
    Calls Try.prog 13 #[.pointer (some ⟨b, 0, none⟩), .int .i64 c, .int .i64 n] w (HtD b m (tch f c n) w) := by
  have bn := bounds_i64 hn
  by_cases h : 1 ≤ c ∧ c ≤ 1023 ∧ 0 < n
  · have e : tch f c n = htS f c (min 1048576 (f c + n.toNat)) := if_pos h
    rw [e]
    obtain ⟨h1, h2, h3⟩ := h
    have c0 := H.cell
    have l0 := H.look c hc
    have hx := H.mx c
    obtain ⟨x, hfx⟩ : ∃ x, f c = x := ⟨_, rfl⟩
    rw [hfx] at l0 hx ⊢
    obtain ⟨k, hk⟩ : ∃ k : Nat, n = k := ⟨n.toNat, by omega⟩
    subst hk
    obtain ⟨d, hd⟩ : ∃ d, min 1048576 (x + (k : Int).toNat) = d := ⟨_, rfl⟩
    rw [hd]
    have C := Lib.hid (htSet H c hc d (fun _ => ⟨h1, h2⟩) (by omega))
    have s1 : (x : Int) + min (k : Int) (1048576 - (x : Int)) = (d : Int) := by omega
    have s2 : (1 : Int) ≤ c := h1
    have s3 : ¬ c < 1 := by omega
    have s4 : ¬ (1023 : Int) < c := by omega
    have s5 : ¬ (k : Int) ≤ 0 := by omega
    have s6 : wrap64 (1048576 - (x : Int)) = 1048576 - (x : Int) := by unfold wrap64; omega
    have s7 : wrap64 ((x : Int) + min (k : Int) (1048576 - (x : Int))) = (x : Int) + min (k : Int) (1048576 - (x : Int)) := by rw [s1]; unfold wrap64; omega
    have HS1 := Lib.hid s1
    clear H e hd hfx s1 hx bn h1 h2 h3 hc hn
    go_enter Try.func13, Try.ntmps13
    go_wp2_with fail
    rw [HS1.out]
    refine C.out.mono ?_
    rintro e V hD
    have HD := Lib.hid hD
    obtain rfl : e = .returned (.tuple #[]) := hD.1
    clear hD C
    go_wp2_with fail
    go_end0
    exact HD.out
  · have e : tch f c n = f := if_neg h
    rw [e]
    clear e
    by_cases h1 : c < 1
    · clear h
      have HS := Lib.hid (show HtD b m f w (.returned (.tuple #[])) w from ⟨rfl, H, KeptIn.refl _ w⟩)
      clear H
      go_enter Try.func13, Try.ntmps13
      go_wp2_with fail
      refine bodyPost_ret (results_none rfl _ _ _) rfl ?_
      exact HS.out
    · by_cases h2 : 1023 < c
      · clear h
        have HS := Lib.hid (show HtD b m f w (.returned (.tuple #[])) w from ⟨rfl, H, KeptIn.refl _ w⟩)
        clear H
        go_enter Try.func13, Try.ntmps13
        go_wp2_with fail
        refine bodyPost_ret (results_none rfl _ _ _) rfl ?_
        exact HS.out
      · have h3 : n ≤ 0 := by omega
        clear h
        have HS := Lib.hid (show HtD b m f w (.returned (.tuple #[])) w from ⟨rfl, H, KeptIn.refl _ w⟩)
        clear H
        go_enter Try.func13, Try.ntmps13
        go_wp2_with fail
        refine bodyPost_ret (results_none rfl _ _ _) rfl ?_
        exact HS.out

theorem htOf (H : HBk b m f w) (c : Int) (hc : (Lit.int .i64 c).wf = true) :
    Calls Try.prog 18 #[.pointer (some ⟨b, 0, none⟩), .int .i64 c] w fun e w' => e = .returned (.int .i64 (f c : Int)) ∧ w = w' := by
  have c0 := H.cell
  have l0 := H.look c hc
  generalize f c = x at *
  clear H
  go_enter Try.func18, Try.ntmps18
  go_wp2_with fail
  go_ret
  exact ⟨rfl, rfl⟩
theorem htForget (H : HBk b m f w) (c : Int) (hc : (Lit.int .i64 c).wf = true) :
    Calls Try.prog 17 #[.pointer (some ⟨b, 0, none⟩), .int .i64 c] w (HtD b m (htS f c 0) w) := by
  have C := Lib.hid (htSet0 H c hc)
  clear H
  go_enter Try.func17, Try.ntmps17
  go_wp2_with (go_at_call 29; refine C.out.mono ?_)
  rintro e V hD
  have HD := Lib.hid hD
  obtain rfl : e = .returned (.tuple #[]) := hD.1
  clear hD C
  go_wp2_with fail
  go_end0
  exact HD.out
end

/-- A new book. -/
def NewHt (w : World) (e : Ending) (w' : World) : Prop :=
  ∃ b m, e = .returned (.pointer (some ⟨b, 0, none⟩)) ∧ HBk b m (fun _ => 0) w' ∧ w.heap.size ≤ m ∧ w.heap.size ≤ b ∧ KeptIn (· < w.heap.size) w w'
theorem htNew (w : World) : Calls Try.prog 12 #[] w (NewHt w) := by
  obtain ⟨W1, hW1⟩ : ∃ W, w.alloc (.map #[] 0) = W := ⟨_, rfl⟩
  obtain ⟨W2, hW2⟩ : ∃ W, W1.alloc (.cells #[.map (some w.heap.size)] 84) = W := ⟨_, rfl⟩
  have k1 : KeptIn (· < w.heap.size) w W1 := by rw [← hW1]; exact (KeptIn.refl _ w).alloc (fun _ h => h) _
  have k2 : KeptIn (· < W1.heap.size) W1 W2 := by rw [← hW2]; exact (KeptIn.refl _ W1).alloc (fun _ h => h) _
  have m1 : MpAt htV w.heap.size 0 (fun _ => none) W1 := by rw [← hW1]; exact MpAt.new w
  have e0 : htM (fun _ => 0) = fun _ => none := by funext q; simp [htM]
  have hN : NewHt w (.returned (.pointer (some ⟨W1.heap.size, 0, none⟩))) W2 := by
    refine ⟨W1.heap.size, w.heap.size, rfl, ⟨?_, ?_, fun c h => absurd rfl h, fun _ => Nat.zero_le _⟩, Nat.le_refl _, k1.size, k1.trans (k2.mono fun k h => Nat.lt_of_lt_of_le h k1.size)⟩
    · rw [← hW2]; exact heap_alloc_new _ _
    · rw [e0]; exact (m1.kept k2 m1.lt).mono (by omega)
  have HN := Lib.hid hN
  have H1 := Lib.hid hW1
  have H2 := Lib.hid hW2
  clear hN hW1 hW2 k1 k2 m1
  have hmm := @run_makeMap Try.prog
  go_enter Try.func12, Try.ntmps12
  go_wp2_with fail
  go_ret
  have hx := HN.out
  rw [← H2.out, ← H1.out] at hx
  simp only [World.size_alloc] at hx
  exact hx

theorem htNilTouch (c n : Int) (w : World) : Calls Try.prog 13 #[.pointer none, .int .i64 c, .int .i64 n] w fun e w' => e = .returned (.tuple #[]) ∧ w = w' := by
  go_enter Try.func13, Try.ntmps13
  go_wp2_with fail
  refine bodyPost_ret (results_none rfl _ _ _) rfl ?_
  exact ⟨rfl, rfl⟩
theorem htNilOf (c : Int) (w : World) : Calls Try.prog 18 #[.pointer none, .int .i64 c] w fun e w' => e = .returned (.int .i64 0) ∧ w = w' := by
  go_enter Try.func18, Try.ntmps18
  go_wp2_with fail
  go_ret
  exact ⟨rfl, rfl⟩
theorem htNilForget (c : Int) (w : World) : Calls Try.prog 17 #[.pointer none, .int .i64 c] w fun e w' => e = .returned (.tuple #[]) ∧ w = w' := by
  go_enter Try.func17, Try.ntmps17
  go_wp2_with fail
  refine bodyPost_ret (results_none rfl _ _ _) rfl ?_
  exact ⟨rfl, rfl⟩
theorem htNilSum (w : World) : Calls Try.prog 21 #[.pointer none] w fun e w' => e = .returned (.int .i64 0) ∧ w = w' := by
  go_enter Try.func21, Try.ntmps21
  go_wp2_with fail
  go_ret
  exact ⟨rfl, rfl⟩
theorem htNilHot (w : World) : Calls Try.prog 20 #[.pointer none] w fun e w' => e = .returned (.slice none 0 0) ∧ w = w' := by
  go_enter Try.func20, Try.ntmps20
  go_wp2_with fail
  go_ret
  exact ⟨rfl, rfl⟩

end Go.Proofs.Ytdbohcdjamhdjaa
