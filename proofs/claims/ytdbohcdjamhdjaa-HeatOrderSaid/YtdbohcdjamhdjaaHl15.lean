/- Heats: a book between a law's deeds. -/
import Derived.Test.YtdbohcdjamhdjaaAw15
set_option linter.unusedVariables false
namespace Go.Proofs.Ytdbohcdjamhdjaa
open Go.RowKit Go.Maps

/-- A book that a law has made behind w1. -/
structure HL (w1 : World) (b m : Nat) (f : Int → Nat) (W : World) : Prop where
  bk : HBk b m f W
  kept : KeptIn (· < w1.heap.size) w1 W
  hm : w1.heap.size ≤ m
section
variable {w1 W W' : World} {b m : Nat} {f : Int → Nat}
theorem HL.old (H : HL w1 b m f W) (hk : KeptIn (· < W.heap.size) W W') : HL w1 b m f W' := ⟨H.bk.old hk, H.kept.on15 hk, H.hm⟩
/-- What a deed leaves. -/
def HlD (w1 : World) (b m : Nat) (f : Int → Nat) (W : World) (e : Ending) (W' : World) : Prop :=
  e = .returned (.tuple #[]) ∧ HL w1 b m f W' ∧ KeptIn (fun k => k < W.heap.size ∧ k ≠ m) W W'
theorem HL.did {g : Int → Nat} {e : Ending} (H : HL w1 b m f W) (h : HtD b m g W e W') : HlD w1 b m g W e W' :=
  ⟨h.1, ⟨h.2.1, H.kept.trans (h.go H.kept.size H.hm), H.hm⟩, h.2.2⟩
theorem HL.touch (H : HL w1 b m f W) (c n : Int) (hc : (Lit.int .i64 c).wf = true) (hn : (Lit.int .i64 n).wf = true) :
    Calls Try.prog 13 #[.pointer (some ⟨b, 0, none⟩), .int .i64 c, .int .i64 n] W (HlD w1 b m (tch f c n) W) := (htTouch H.bk c n hc hn).mono fun e V h => H.did h
theorem HL.decay (H : HL w1 b m f W) : Calls Try.prog 15 #[.pointer (some ⟨b, 0, none⟩)] W (HlD w1 b m (dcy f) W) := (htDecay' H.bk).mono fun e V h => H.did h
theorem HL.forget (H : HL w1 b m f W) (c : Int) (hc : (Lit.int .i64 c).wf = true) :
    Calls Try.prog 17 #[.pointer (some ⟨b, 0, none⟩), .int .i64 c] W (HlD w1 b m (htS f c 0) W) := (htForget H.bk c hc).mono fun e V h => H.did h
theorem HL.of (H : HL w1 b m f W) (c : Int) (hc : (Lit.int .i64 c).wf = true) :
    Calls Try.prog 18 #[.pointer (some ⟨b, 0, none⟩), .int .i64 c] W fun e w' => e = .returned (.int .i64 (f c : Int)) ∧ W = w' := htOf H.bk c hc
theorem HL.sum (H : HL w1 b m f W) : Calls Try.prog 21 #[.pointer (some ⟨b, 0, none⟩)] W fun e w' => e = .returned (.int .i64 (sumHt f : Int)) ∧ KeptIn (· < W.heap.size) W w' := htSum H.bk
theorem HL.hot (H : HL w1 b m f W) : Calls Try.prog 20 #[.pointer (some ⟨b, 0, none⟩)] W (HotS W f) := hotOk _ _ _ _ H.bk
theorem HL.new {e : Ending} (hN : NewHt w1 e W) : ∃ b m, e = .returned (.pointer (some ⟨b, 0, none⟩)) ∧ HL w1 b m (fun _ => 0) W ∧ w1.heap.size ≤ b := by
  obtain ⟨b, m, rfl, h1, h2, h3, h4⟩ := hN
  exact ⟨b, m, rfl, ⟨h1, h4, h2⟩, h3⟩
end

/-- What a touch makes of a heat. -/
def tcv (x : Nat) (n : Int) : Nat := if 0 < n then min 1048576 (x + n.toNat) else x
theorem tch_same (f : Int → Nat) {c : Int} (n : Int) (h1 : 1 ≤ c) (h2 : c ≤ 1023) : tch f c n c = tcv (f c) n := by
  unfold tch tcv
  by_cases h : 0 < n
  · rw [if_pos ⟨h1, h2, h⟩, if_pos h, htS_same]
  · rw [if_neg (fun e => h e.2.2), if_neg h]
theorem tch_other (f : Int → Nat) {c d : Int} (n : Int) (h : d ≠ c) : tch f c n d = f d := by
  unfold tch
  split
  · exact htS_other _ _ h
  · rfl
theorem tcv_mono {x y : Nat} (n : Int) (h : x ≤ y) : tcv x n ≤ tcv y n := by unfold tcv; split <;> omega
theorem tcv_up {x : Nat} (n : Int) (h : x ≤ 1048576) : x ≤ tcv x n := by unfold tcv; split <;> omega

end Go.Proofs.Ytdbohcdjamhdjaa
