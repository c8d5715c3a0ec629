/- Owners: how the program compares owners; where one is in a row. -/
import Derived.Test.YtononiedecpllaaOc13
set_option linter.unusedVariables false
namespace Go.Proofs.Ytononiedecpllaa
open Go.RowKit

theorem or3_cmpO (a b : Ow) : or3 (cmpI a.vol b.vol) (cmpI a.bir b.bir) (cmpI a.pos b.pos) = cmpO a b := rfl

/-- An owner in a box. -/
def BoxO (x : Nat) (o : Ow) (W : World) : Prop := W.heap[x]? = some (.cells #[.int .i64 o.vol, .int .i64 o.bir, .int .i64 o.pos] 31 (0, 0))
theorem BoxO.lt {x : Nat} {o : Ow} {W : World} (h : BoxO x o W) : x < W.heap.size := (Array.getElem?_eq_some_iff.1 h).1
theorem BoxO.kept {X : Nat → Prop} {x : Nat} {o : Ow} {W W' : World} (h : BoxO x o W) (hk : KeptIn X W W') (hX : X x) : BoxO x o W' := (hk.block x hX).trans h
theorem BoxO.old {x : Nat} {o : Ow} {W W' : World} (h : BoxO x o W) (hk : KeptIn (· < W.heap.size) W W') : BoxO x o W' := h.kept hk h.lt
theorem BoxO.new (w : World) (o : Ow) : BoxO w.heap.size o (w.alloc (.cells #[.int .i64 o.vol, .int .i64 o.bir, .int .i64 o.pos] 31)) := heap_alloc_new _ _
theorem BoxO.cells {x : Nat} {o : Ow} {W : World} (h : BoxO x o W) : W.cell? ⟨x, 0, none⟩ = some (.int .i64 o.vol) ∧ W.cell? ⟨x, 1, none⟩ = some (.int .i64 o.bir) ∧ W.cell? ⟨x, 2, none⟩ = some (.int .i64 o.pos) := by
  unfold BoxO at h
  exact ⟨by simp [World.cell?, h], by simp [World.cell?, h], by simp [World.cell?, h]⟩

theorem new3 (W : World) (a b c : Value) (T : TypeId) : (W.alloc (.cells #[a, b, c] T)).drew.cell? ⟨W.heap.size, 0, none⟩ = some a ∧ (W.alloc (.cells #[a, b, c] T)).drew.cell? ⟨W.heap.size, 1, none⟩ = some b ∧ (W.alloc (.cells #[a, b, c] T)).drew.cell? ⟨W.heap.size, 2, none⟩ = some c := by
  have h := heap_alloc_new W (.cells #[a, b, c] T)
  have h' : (W.alloc (.cells #[a, b, c] T)).drew.heap[W.heap.size]? = some (.cells #[a, b, c] T) := h
  exact ⟨by unfold World.cell?; rw [h']; rfl, by unfold World.cell?; rw [h']; rfl, by unfold World.cell?; rw [h']; rfl⟩

set_option maxRecDepth 100000 in
theorem owCmp (a b : Ow) (w : World) : Calls Try.prog 35 #[ownV a, ownV b] w fun e w' => e = .returned (.int .i64 (cmpO a b)) ∧ KeptIn (· < w.heap.size) w w' := by
  have C := Lib.hid fun x y V => cCmp x y V
  rw [← or3_cmpO]
  obtain ⟨W, hW⟩ : ∃ W, (w.alloc (.cells #[.int .i64 a.vol, .int .i64 a.bir, .int .i64 a.pos] 31)).alloc (.cells #[.int .i64 b.vol, .int .i64 b.bir, .int .i64 b.pos] 31) = W := ⟨_, rfl⟩
  have k1 : KeptIn (· < w.heap.size) w W := by rw [← hW]; exact ((KeptIn.refl _ w).alloc (fun _ h => h) _).alloc (fun _ h => h) _
  obtain ⟨x, hx⟩ : ∃ x, w.heap.size = x := ⟨_, rfl⟩
  have b1 : BoxO x a W := by rw [← hW, ← hx]; exact (BoxO.new w a).old ((KeptIn.refl _ _).alloc (fun _ h => h) _)
  have b2 : BoxO (x + 1) b W := by rw [← hW, ← hx, show w.heap.size + 1 = (w.alloc (.cells #[.int .i64 a.vol, .int .i64 a.bir, .int .i64 a.pos] 31)).heap.size by simp]; exact BoxO.new _ b
  obtain ⟨p0, p1, p2⟩ := b1.cells
  obtain ⟨q0, q1, q2⟩ := b2.cells
  have l1 := b1.lt
  have l2 := b2.lt
  have HW := Lib.hid hW
  have HX := Lib.hid hx
  have HK := Lib.hid k1
  unfold ownV
  obtain ⟨a1, a2, a3⟩ := a
  obtain ⟨b1', b2', b3'⟩ := b
  dsimp only at *
  clear hW hx k1 b1 b2
  go_enter Try.func35, Try.ntmps35
  go_wp2_with fail
  rw [HW.out, HX.out]
  go_region_held3 (fun w' => (w'.cell? ⟨x, 0, none⟩ = some (.int .i64 a1) ∧ w'.cell? ⟨x, 1, none⟩ = some (.int .i64 a2) ∧ w'.cell? ⟨x, 2, none⟩ = some (.int .i64 a3)) ∧ (w'.cell? ⟨x + 1, 0, none⟩ = some (.int .i64 b1') ∧ w'.cell? ⟨x + 1, 1, none⟩ = some (.int .i64 b2') ∧ w'.cell? ⟨x + 1, 2, none⟩ = some (.int .i64 b3')))
    (first | exact ⟨⟨p0, p1, p2⟩, ⟨q0, q1, q2⟩⟩ | go_keep)
    (first | (go_at_call 42; refine (C.out _ _ _).mono ?_; rintro e _ ⟨rfl, rfl⟩) | (go_at_call 41; refine (cOr _ _ _ _ _ (new3 W _ _ _ _).1 (new3 W _ _ _ _).2.1 (new3 W _ _ _ _).2.2).mono ?_; rintro e _ ⟨rfl, rfl⟩))
  all_goals
    go_wp2_with fail
    go_ret
    exact ⟨rfl, (HK.out.alloc (fun k hk => hk) _).drew⟩

end Go.Proofs.Ytononiedecpllaa
