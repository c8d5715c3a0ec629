/- Package octet's Writer: what each method does, with a frame that keeps any set of blocks that the Writer does not own. -/
import Derived.Test.YtdogchpeimgkjaaDoorBld
import Derived.Deep.QuietTactic
import Derived.BigQuiet
import Derived.Deep.RegionHeld3
import Derived.LoopTactic
import Derived.Lib.Hide
set_option linter.unusedVariables false
namespace Go.Proofs.YtdogchpeimgkjaaDoor
open Go.RowKit

theorem repeatL_zero (c : Nat) : Lib.repeatL [0] c = List.replicate c (0 : UInt8) := by
  induction c with
  | zero => rfl
  | succ c ih => rw [Lib.repeatL, ih, List.replicate_succ]; rfl

theorem repeatZ (c : Nat) (w : World) (hc : c ≤ 140737488355328) :
    Calls Tryd.prog 29 #[.string ⟨#[0]⟩, .int .i64 c] w fun e w' => e = .returned (.string ⟨(List.replicate c (0 : UInt8)).toArray⟩) ∧ KeptIn (· < w.heap.size) w w' := by
  refine (Tryd.strings_Repeat ⟨#[0]⟩ c w (by omega) (by show 1 * c ≤ _; omega)).mono ?_
  rintro e w' ⟨he, h1⟩
  exact ⟨by rw [he]; simp only [repeatL_zero], .of_below h1 (fun _ h => h)⟩

/-- A writer at block a: the bytes that stand in its builder, and a count of zeros behind them; none of its memory lies in X. -/
def IsW (X : Nat → Prop) (a : Nat) (l : List UInt8) (z : Nat) (w : World) : Prop :=
  ¬ X a ∧ ((l = [] ∧ w.heap[a]? = some (.cells #[.pointer none, .int .i64 0, .int .i64 z] 49 (0, 0))) ∨
    ∃ b, w.heap[a]? = some (.cells #[.pointer (some ⟨b, 0, none⟩), .int .i64 l.length, .int .i64 z] 49 (0, 0)) ∧ IsB X b l w)

/-- A writer that holds the bytes c. -/
def Holds (X : Nat → Prop) (a : Nat) (c : List UInt8) (w : World) : Prop := ∃ l z, IsW X a l z w ∧ c = l ++ List.replicate z 0

theorem near (n : Int) (w : World) : Calls Tryd.prog 24 #[.int .i64 n] w fun e w' => e = .returned (.int .i64 (min (max n 1) 8)) ∧ w = w' := by
  go_enter Tryd.func24, Tryd.ntmps24
  go_wp2
  go_ret
  exact ⟨rfl, rfl⟩

theorem IsW.cells {X : Nat → Prop} {a : Nat} {l : List UInt8} {z : Nat} {w : World} (h : IsW X a l z w) :
    w.cell? ⟨a, 1, none⟩ = some (.int .i64 l.length) ∧ w.cell? ⟨a, 2, none⟩ = some (.int .i64 z) ∧ w.frozen? ⟨a, 2, none⟩ = false := by
  rcases h.2 with ⟨rfl, h0⟩ | ⟨b, h0, _⟩ <;> simp [World.cell?, World.frozen?, h0]

theorem IsW.lt {X : Nat → Prop} {a : Nat} {l : List UInt8} {z : Nat} {w : World} (h : IsW X a l z w) : a < w.heap.size := by
  rcases h.2 with ⟨rfl, h0⟩ | ⟨b, h0, _⟩ <;> exact (Array.getElem?_eq_some_iff.1 h0).1

theorem IsW.old {X : Nat → Prop} {a : Nat} {l : List UInt8} {z : Nat} {w w' : World} (h : IsW X a l z w) (hk : KeptIn (· < w.heap.size) w w') : IsW X a l z w' := by
  have hlt := h.lt
  refine ⟨h.1, ?_⟩
  rcases h.2 with ⟨e, h0⟩ | ⟨b, h0, hb⟩
  · exact .inl ⟨e, by rw [hk.block a hlt]; exact h0⟩
  · exact .inr ⟨b, by rw [hk.block a hlt]; exact h0, hb.old hk⟩

theorem lenW (X : Nat → Prop) (a : Nat) (l : List UInt8) (z : Nat) (w : World) (h : IsW X a l z w) (hz : l.length + z ≤ 2147483647) :
    Calls Tryd.prog 27 #[.pointer (some ⟨a, 0, none⟩)] w fun e w' => e = .returned (.int .i64 ((l.length : Int) + (z : Int))) ∧ ∃ n, w' = w.drewN n := by
  obtain ⟨c1, c2, _⟩ := h.cells
  have hl : (0 : Int) ≤ (l.length : Int) := by omega
  have hl' : (l.length : Int) ≤ 2147483647 := by omega
  have hzz : (z : Int) ≤ 2147483647 := by omega
  go_enter Tryd.func27, Tryd.ntmps27
  go_wp2
  go_quiet (fail)
  go_wp2
  go_ret
  exact ⟨rfl, _, rfl⟩

theorem lenNil (w : World) : Calls Tryd.prog 27 #[.pointer none] w fun e w' => e = .returned (.int .i64 0) ∧ w = w' := by
  go_enter Tryd.func27, Tryd.ntmps27
  go_wp2
  go_ret
  exact ⟨rfl, rfl⟩

theorem writtenNil (a : Nat) (x y : Value) (w : World) (h : w.heap[a]? = some (.cells #[.pointer none, x, y] 49 (0, 0))) :
    Calls Tryd.prog 28 #[.pointer (some ⟨a, 0, none⟩)] w fun e w' => e = .returned (.string ⟨#[]⟩) ∧ w = w' := by
  have c0 : w.cell? ⟨a, 0, none⟩ = some (.pointer none) := by simp [World.cell?, h]
  go_enter Tryd.func28, Tryd.ntmps28
  go_wp2
  go_ret
  exact ⟨rfl, rfl⟩

theorem ne_of_types {w : World} {a b : Nat} {cs ds : Array Value} {S T : TypeId} {f g : Nat × Nat} (ha : w.heap[a]? = some (.cells cs S f)) (hb : w.heap[b]? = some (.cells ds T g)) (h : S ≠ T) : a ≠ b := by
  rintro rfl
  rw [ha] at hb
  simp only [Option.some.injEq, Obj.cells.injEq] at hb
  exact h hb.2.1

/-- X with one block more. -/
def also (X : Nat → Prop) (a : Nat) : Nat → Prop := fun k => X k ∨ k = a

theorem IsB.also {X : Nat → Prop} {b a : Nat} {l : List UInt8} {w : World} {cs : Array Value} {T : TypeId} {fr : Nat × Nat} (h : IsB X b l w) (ha : w.heap[a]? = some (.cells cs T fr)) (h1 : T ≠ 80) (h2 : T ≠ 5) : IsB (also X a) b l w := by
  obtain ⟨hX, v, hv, hg⟩ := h
  obtain ⟨p, hp, hbk, hown, hr⟩ := hv
  refine ⟨?_, v, ⟨p, hp, hbk, hown, hr⟩, ?_⟩
  · rintro (h | h)
    · exact hX h
    · exact ne_of_types ha hbk h1 h.symm
  · rintro g e (h | rfl)
    · exact hg g e h
    · exact Lib.ownBlock_neF hown ha h2 e

theorem IsB.less {X Y : Nat → Prop} {b : Nat} {l : List UInt8} {w : World} (h : IsB X b l w) (hY : ∀ k, Y k → X k) : IsB Y b l w :=
  ⟨fun k => h.1 (hY _ k), h.2.imp fun _ ⟨h1, h2⟩ => ⟨h1, fun g e k => h2 g e (hY _ k)⟩⟩

theorem ext_all (l : List UInt8) : (⟨l.toArray⟩ : ByteArray).extract 0 l.length = ⟨l.toArray⟩ := by
  rw [Lib.extract_eq]
  simp

theorem writtenSome (X : Nat → Prop) (a b : Nat) (l : List UInt8) (z : Nat) (w : World) (h : w.heap[a]? = some (.cells #[.pointer (some ⟨b, 0, none⟩), .int .i64 l.length, .int .i64 z] 49 (0, 0))) (hb : IsB X b l w) (hl : l.length ≤ 2147483647) :
    Calls Tryd.prog 28 #[.pointer (some ⟨a, 0, none⟩)] w fun e w' => e = .returned (.string ⟨l.toArray⟩) ∧ IsB X b l w' ∧ KeptIn (also X a) w w' := by
  have hb2 := hb.also h (by decide) (by decide)
  have c0 : w.cell? ⟨a, 0, none⟩ = some (.pointer (some ⟨b, 0, none⟩)) := by simp [World.cell?, h]
  have c1 : w.cell? ⟨a, 1, none⟩ = some (.int .i64 l.length) := by simp [World.cell?, h]
  have HB := Lib.hid hb2; clear hb2
  have HB1 := Lib.hid hb; clear hb
  have H := Lib.hid h; clear h
  have h0 : (0 : Int) ≤ (l.length : Int) := by omega
  have h1 : (l.length : Int) ≤ 2147483647 := by omega
  go_enter Tryd.func28, Tryd.ntmps28
  go_wp2
  go_region_held3 (fun w' => w'.cell? ⟨a, 0, none⟩ = some (.pointer (some ⟨b, 0, none⟩)) ∧ w'.cell? ⟨a, 1, none⟩ = some (.int .i64 l.length)) (first | exact ⟨(World.cell?_of_block (h2.block a (.inr rfl))).trans (by first | exact c0 | assumption), (World.cell?_of_block (h2.block a (.inr rfl))).trans (by first | exact c1 | assumption)⟩ | exact And.intro c0 c1 | go_keep)
    (first | (go_at_call 39; refine (bString (also X a) b l _ ?_).mono ?_; (exact HB.out); rintro e w' ⟨rfl, h1, h2⟩))
  go_wp2
  go_ret
  exact ⟨congrArg (fun s => Ending.returned (Value.string s)) (ext_all l), h1.less (fun _ => .inl), (KeptIn.refl _ _).drew.trans h2⟩

/-- What a Writer's builder is behind 'builder': there is one. -/
theorem builderW (X : Nat → Prop) (a : Nat) (l : List UInt8) (z : Nat) (w : World) (h : IsW X a l z w) (hX : ∀ k, X k → k < w.heap.size) :
    Calls Tryd.prog 36 #[.pointer (some ⟨a, 0, none⟩)] w fun e w' => ∃ b, e = .returned (.pointer (some ⟨b, 0, none⟩)) ∧
      w'.heap[a]? = some (.cells #[.pointer (some ⟨b, 0, none⟩), .int .i64 l.length, .int .i64 z] 49 (0, 0)) ∧ IsB X b l w' ∧ KeptIn X w w' := by
  obtain ⟨c1, c2, _⟩ := h.cells
  have hlt := h.lt
  have hne : a ≠ w.heap.size := by omega
  obtain ⟨hXa, ⟨rfl, hc⟩ | ⟨b, hc, hb⟩⟩ := h
  · have c0 : w.cell? ⟨a, 0, none⟩ = some (.pointer none) := by simp [World.cell?, hc]
    have f0 : w.frozen? ⟨a, 0, none⟩ = false := by simp [World.frozen?, hc]
    go_enter Tryd.func36, Tryd.ntmps36
    go_wp2
    go_quiet (fail)
    rename_i nq
    obtain ⟨w1, hw1⟩ : ∃ w1, w1 = w.drewN nq := ⟨_, rfl⟩
    rw [← hw1]
    have hk1 : KeptIn X w w1 := hw1 ▸ (KeptIn.refl _ _).drewN nq
    have hX1 := hk1.lt hX
    have hc1 : w1.heap[a]? = some (.cells #[.pointer none, .int .i64 0, .int .i64 z] 49 (0, 0)) := by rw [hw1]; exact hc
    have hlt1 : a < w1.heap.size := (Array.getElem?_eq_some_iff.1 hc1).1
    clear hw1 hne hlt f0 c0 c1 c2 hc hX
    have d0 : w1.cell? ⟨a, 0, none⟩ = some (.pointer none) := by simp [World.cell?, hc1]
    have f0 : w1.frozen? ⟨a, 0, none⟩ = false := by simp [World.frozen?, hc1]
    go_wp2_with (go_at_call 28; refine (writtenNil a _ _ _ (by exact hc1)).mono ?_; rintro e w1 ⟨rfl, rfl⟩)
    have hsz : (w1.setCell ⟨a, 0, none⟩ (.pointer (some ⟨w1.heap.size, 0, none⟩))).heap.size = w1.heap.size := by simp [World.setCell]
    have hX2 : ∀ k, also X a k → k < (w1.setCell ⟨a, 0, none⟩ (.pointer (some ⟨w1.heap.size, 0, none⟩))).heap.size := by
      rw [hsz]
      rintro k (h | rfl)
      · exact hX1 k h
      · exact hlt1
    have hB := IsB.fresh (also X a) (w1.setCell ⟨a, 0, none⟩ (.pointer (some ⟨w1.heap.size, 0, none⟩))) hX2
    rw [hsz] at hB
    have hX3 : ∀ k, also X a k → k < ((w1.setCell ⟨a, 0, none⟩ (.pointer (some ⟨w1.heap.size, 0, none⟩))).alloc (.cells #[.pointer none, .slice none 0 0] 80)).heap.size := fun k h => Nat.lt_of_lt_of_le (hX2 k h) (by simp)
    have hA : ((w1.setCell ⟨a, 0, none⟩ (.pointer (some ⟨w1.heap.size, 0, none⟩))).alloc (.cells #[.pointer none, .slice none 0 0] 80)).heap[a]? = some (.cells #[.pointer (some ⟨w1.heap.size, 0, none⟩), .int .i64 0, .int .i64 z] 49 (0, 0)) := by
      rw [Lib.alloc_old _ _ _ (by rw [hsz]; exact hlt1)]
      simp [World.setCell, Array.getElem?_modify, hc1]
    have hK : KeptIn X w1 ((w1.setCell ⟨a, 0, none⟩ (.pointer (some ⟨w1.heap.size, 0, none⟩))).alloc (.cells #[.pointer none, .slice none 0 0] 80)) :=
      ((KeptIn.refl X w1).setCell (p := ⟨a, 0, none⟩) hXa _).alloc hX1 _
    generalize (w1.setCell ⟨a, 0, none⟩ (.pointer (some ⟨w1.heap.size, 0, none⟩))).alloc (.cells #[.pointer none, .slice none 0 0] 80) = w2 at *
    generalize w1.heap.size = b at *
    have hcall : Calls Tryd.prog 37 #[.pointer (some ⟨b, 0, none⟩), .string ⟨#[]⟩] w2 fun e w' => e = .returned (.tuple #[.int .i64 0, .nilIface]) ∧ w'.cell? ⟨a, 0, none⟩ = some (.pointer (some ⟨b, 0, none⟩)) ∧
        Hid (w'.heap[a]? = some (.cells #[.pointer (some ⟨b, 0, none⟩), .int .i64 0, .int .i64 z] 49 (0, 0)) ∧ IsB X b [] w' ∧ KeptIn X w w') := by
      refine (bWrite (also X a) b [] ⟨#[]⟩ w2 hB hX3 (by decide)).mono ?_
      rintro e w3 ⟨he, hB3, hk3⟩
      have hA3 : w3.heap[a]? = some (.cells #[.pointer (some ⟨b, 0, none⟩), .int .i64 0, .int .i64 z] 49 (0, 0)) := by rw [hk3.block a (.inr rfl)]; exact hA
      exact ⟨he, by simp [World.cell?, hA3], hA3, hB3.less (fun _ => .inl), hk1.trans (hK.trans (hk3.mono (fun _ => .inl)))⟩
    have HC := Lib.hid hcall
    clear hA hB hX3 hK hX2 hX1 hsz hk1 hc1 d0 f0 hlt1 hcall
    go_wp2_with (go_at_call 37; refine (HC.out).mono ?_; rintro e w3 ⟨rfl, e0, hfin⟩)
    go_ret
    exact ⟨b, rfl, hfin.out⟩
  · have c0 : w.cell? ⟨a, 0, none⟩ = some (.pointer (some ⟨b, 0, none⟩)) := by simp [World.cell?, hc]
    have HB := Lib.hid hb; clear hb
    have HC := Lib.hid hc; clear hc
    go_enter Tryd.func36, Tryd.ntmps36
    go_wp2
    go_quiet ((go_at_call 38; exact Calls.quiet_of_same ((bLen X b l _ (by exact HB.out)).mono fun _ _ ⟨h1, h2⟩ => ⟨h1, h2.symm⟩)))
    go_wp2
    go_ret
    exact ⟨b, rfl, HC.out, HB.out, (KeptIn.refl _ _).drewN _⟩

theorem IsW.drewN {X : Nat → Prop} {a : Nat} {l : List UInt8} {z : Nat} {w : World} (h : IsW X a l z w) (n : Nat) : IsW X a l z (w.drewN n) := h.old ((KeptIn.refl _ _).drewN n)

theorem textNil (s : ByteArray) (w : World) : Calls Tryd.prog 25 #[.pointer none, .string s] w fun e w' => e = .returned (.tuple #[]) ∧ w = w' := by
  go_enter Tryd.func25, Tryd.ntmps25
  go_wp2
  exact bodyPost_ret (results_none rfl _ _ _) rfl ⟨rfl, rfl⟩

theorem textEmpty (a : Nat) (w : World) : Calls Tryd.prog 25 #[.pointer (some ⟨a, 0, none⟩), .string ⟨#[]⟩] w fun e w' => e = .returned (.tuple #[]) ∧ w = w' := by
  go_enter Tryd.func25, Tryd.ntmps25
  go_wp2
  exact bodyPost_ret (results_none rfl _ _ _) rfl ⟨rfl, rfl⟩

theorem textSome (X : Nat → Prop) (a : Nat) (l : List UInt8) (z : Nat) (s : ByteArray) (w : World) (h : IsW X a l z w) (hX : ∀ k, X k → k < w.heap.size) (hs : s.data.toList ≠ []) (hz : l.length + z + s.size ≤ 2147483647) :
    Calls Tryd.prog 25 #[.pointer (some ⟨a, 0, none⟩), .string s] w fun e w' => e = .returned (.tuple #[]) ∧ IsW X a (l ++ List.replicate z 0 ++ s.data.toList) 0 w' ∧ KeptIn X w w' := by
  have hs1 : s.toList.isEmpty = false := by rw [Lib.toList_data]; simpa using hs
  have hcmp : ¬ (2147483647 - (s.size : Int) < (l.length : Int) + (z : Int)) := by omega
  have b0 : (0 : Int) ≤ (s.size : Int) := by omega
  have b1 : (s.size : Int) ≤ 2147483647 := by omega
  have H := Lib.hid h; clear h
  have HS := Lib.hid hs; clear hs
  go_enter Tryd.func25, Tryd.ntmps25
  go_wp2_with fail
  refine (lenW X a l z _ H.out (by omega)).mono ?_
  rintro e w1 ⟨rfl, n, rfl⟩
  go_wp2_with fail
  -- builder
  refine (builderW X a l z _ (H.out.drewN n) (by exact hX)).mono ?_
  rintro e w2 ⟨b, rfl, hA2, hB2, hk2⟩
  have hX2 : ∀ k, X k → k < w2.heap.size := hk2.lt (by exact hX)
  have hXa : ¬ X a := H.out.1
  have hK2 : KeptIn X w w2 := ((KeptIn.refl X w).drewN n).trans hk2
  have HA2 := Lib.hid hA2
  have q2 : w2.cell? ⟨a, 2, none⟩ = some (.int .i64 z) := by simp [World.cell?, hA2]
  have alt : a < w2.heap.size := (Array.getElem?_eq_some_iff.1 hA2).1
  have HB2 := Lib.hid hB2
  clear hA2 hB2 hk2
  go_wp2_with fail
  -- strings.Repeat
  refine (repeatZ z _ (by omega)).mono ?_
  rintro e w3 ⟨rfl, hk3⟩
  have hA3 : w3.heap[a]? = some (.cells #[.pointer (some ⟨b, 0, none⟩), .int .i64 l.length, .int .i64 z] 49 (0, 0)) := by rw [hk3.block a alt]; exact HA2.out
  have HB3 := Lib.hid ((HB2.out.old hk3).also hA3 (by decide) (by decide))
  have HA3 := Lib.hid hA3
  have hX3 : ∀ k, also X a k → k < w3.heap.size := by
    rintro k (h | rfl)
    · exact Nat.lt_of_lt_of_le (hX2 k h) hk3.size
    · exact Nat.lt_of_lt_of_le alt hk3.size
  have hK3 : KeptIn X w w3 := hK2.trans (hk3.mono hX2)
  clear q2 hk3 hA3 hK2 hX2 alt HA2 HB2
  have r0 : (List.replicate z (0 : UInt8)).toArray.size = z := by simp
  go_wp2_with fail
  -- the zeros
  refine (bWrite (also X a) b l ⟨(List.replicate z 0).toArray⟩ _ HB3.out hX3 (by show _ + (List.replicate z (0 : UInt8)).toArray.size ≤ _; rw [r0]; omega)).mono ?_
  rintro e w4 ⟨rfl, hB4, hk4⟩
  have hA4 : w4.heap[a]? = some (.cells #[.pointer (some ⟨b, 0, none⟩), .int .i64 l.length, .int .i64 z] 49 (0, 0)) := by rw [hk4.block a (.inr rfl)]; exact HA3.out
  have HA4 := Lib.hid hA4
  have HB4 := Lib.hid hB4
  have hX4 := hk4.lt hX3
  have hK4 : KeptIn X w w4 := hK3.trans (hk4.mono (fun _ => .inl))
  clear hA4 hB4 hk4 hX3 hK3 HA3 HB3 r0
  go_wp2_with fail
  -- the text
  have r1 : (⟨(l ++ List.replicate z (0 : UInt8)).toArray⟩ : ByteArray).size = l.length + z := by show (l ++ List.replicate z (0 : UInt8)).toArray.size = _; simp
  refine (bWrite (also X a) b (l ++ List.replicate z 0) s _ HB4.out hX4 (by simp; omega)).mono ?_
  rintro e w5 ⟨rfl, hB5, hk5⟩
  have hA5 : w5.heap[a]? = some (.cells #[.pointer (some ⟨b, 0, none⟩), .int .i64 l.length, .int .i64 z] 49 (0, 0)) := by rw [hk5.block a (.inr rfl)]; exact HA4.out
  have q1 : w5.cell? ⟨a, 1, none⟩ = some (.int .i64 l.length) := by simp [World.cell?, hA5]
  have q2 : w5.cell? ⟨a, 2, none⟩ = some (.int .i64 z) := by simp [World.cell?, hA5]
  have f1 : w5.frozen? ⟨a, 1, none⟩ = false := by simp [World.frozen?, hA5]
  have f2 : w5.frozen? ⟨a, 2, none⟩ = false := by simp [World.frozen?, hA5]
  have hK5 : KeptIn X w w5 := hK4.trans (hk5.mono (fun _ => .inl))
  have HB5 := Lib.hid hB5
  have HA5 := Lib.hid hA5
  clear hA5 hB5 hk5 hX4 hK4 HA4 HB4 r1
  go_wp2_with fail
  refine (bLen (also X a) b _ _ HB5.out).mono ?_
  rintro e w6 ⟨rfl, rfl⟩
  go_wp2
  go_end0
  refine ⟨rfl, ⟨hXa, .inr ⟨b, ?_, ?_⟩⟩, (hK5.setCell (p := ⟨a, 1, none⟩) hXa _).setCell (p := ⟨a, 2, none⟩) hXa _⟩
  · simp [World.setCell, Array.getElem?_modify, HA5.out]
  · exact (((HB5.out).less (fun _ => .inl)).setCell HA5.out (by decide) (by decide) _).setCell (cs := #[.pointer (some ⟨b, 0, none⟩), .int .i64 (l ++ List.replicate z 0 ++ s.data.toList).length, .int .i64 z]) (T := 49) (fr := (0, 0)) (by simp [World.setCell, Array.getElem?_modify, HA5.out]) (by decide) (by decide) _

end Go.Proofs.YtdogchpeimgkjaaDoor
