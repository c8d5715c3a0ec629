import Derived.Test.YtkgjmejgkffbdaaGreatDoorBldL
import Derived.Deep.QuietTactic
import Derived.BigQuiet
import Derived.Deep.RegionHeld3
import Derived.LoopTactic
import Derived.Lib.Hide
import Derived.Test.YtkgjmejgkffbdaaGreatDoorM6
import Derived.IntWalk
/- Package octet's Writer: what each method does, with a frame that keeps any set of blocks that the Writer does not own. -/
set_option linter.unusedVariables false
namespace Go.Proofs.YtkgjmejgkffbdaaGreatDoor
open Go.RowKit

theorem repeatL_zero (c : Nat) : Lib.repeatL [0] c = List.replicate c (0 : UInt8) := by
  induction c with
  | zero => rfl
  | succ c ih => rw [Lib.repeatL, ih, List.replicate_succ]; rfl

theorem repeatZ (c : Nat) (w : World) (hc : c ≤ 140737488355328) :
    Calls Tryz.prog 38 #[.string ⟨#[0]⟩, .int .i64 c] w fun e w' => e = .returned (.string ⟨(List.replicate c (0 : UInt8)).toArray⟩) ∧ KeptIn (· < w.heap.size) w w' := by
  refine (Tryz.strings_Repeat ⟨#[0]⟩ c w (by omega) (by show 1 * c ≤ _; omega)).mono ?_
  rintro e w' ⟨he, h1⟩
  exact ⟨by rw [he]; simp only [repeatL_zero], .of_below h1 (fun _ h => h)⟩

/-- A writer at block a: the bytes that stand in its builder, and a count of zeros behind them; none of its memory lies in X. -/
def IsW (X : Nat → Prop) (a : Nat) (l : List UInt8) (z : Nat) (w : World) : Prop :=
  ¬ X a ∧ ((l = [] ∧ w.heap[a]? = some (.cells #[.pointer none, .int .i64 0, .int .i64 z] 130 (0, 0))) ∨
    ∃ b, w.heap[a]? = some (.cells #[.pointer (some ⟨b, 0, none⟩), .int .i64 l.length, .int .i64 z] 130 (0, 0)) ∧ IsB X b l w)

/-- A writer that holds the bytes c. -/
def Holds (X : Nat → Prop) (a : Nat) (c : List UInt8) (w : World) : Prop := ∃ l z, IsW X a l z w ∧ c = l ++ List.replicate z 0

theorem near (n : Int) (w : World) : Calls Tryz.prog 92 #[.int .i64 n] w fun e w' => e = .returned (.int .i64 (min (max n 1) 8)) ∧ w = w' := by
  go_enter Tryz.func92, Tryz.ntmps92
  go_wp2
  go_ret
  exact ⟨rfl, rfl⟩

theorem IsW.cells {X : Nat → Prop} {a : Nat} {l : List UInt8} {z : Nat} {w : World} (h : IsW X a l z w) :
    w.cell? ⟨a, 1, none⟩ = some (.int .i64 l.length) ∧ w.cell? ⟨a, 2, none⟩ = some (.int .i64 z) ∧ w.frozen? ⟨a, 2, none⟩ = false := by
  rcases h.2 with ⟨rfl, h0⟩ | ⟨b, h0, _⟩ <;> simp [World.cell?, World.frozen?, h0]

theorem IsW.lt {X : Nat → Prop} {a : Nat} {l : List UInt8} {z : Nat} {w : World} (h : IsW X a l z w) : a < w.heap.size := by
  rcases h.2 with ⟨rfl, h0⟩ | ⟨b, h0, _⟩ <;> exact (Array.getElem?_eq_some_iff.1 h0).1

theorem IsW.old {X : Nat → Prop} {a : Nat} {l : List UInt8} {z : Nat} {w w' : World} (h : IsW X a l z w) (hk : KeptIn (· < w.heap.size) w w') : IsW X a l z w' := by
  have hlt := h.lt
  refine ⟨h.1, ?_⟩
  rcases h.2 with ⟨e, h0⟩ | ⟨b, h0, hb⟩
  · exact .inl ⟨e, by rw [hk.block a hlt]; exact h0⟩
  · exact .inr ⟨b, by rw [hk.block a hlt]; exact h0, hb.old hk⟩

theorem lenW (X : Nat → Prop) (a : Nat) (l : List UInt8) (z : Nat) (w : World) (h : IsW X a l z w) (hz : l.length + z ≤ 2147483647) :
    Calls Tryz.prog 95 #[.pointer (some ⟨a, 0, none⟩)] w fun e w' => e = .returned (.int .i64 ((l.length : Int) + (z : Int))) ∧ ∃ n, w' = w.drewN n := by
  obtain ⟨c1, c2, _⟩ := h.cells
  have hl : (0 : Int) ≤ (l.length : Int) := by omega
  have hl' : (l.length : Int) ≤ 2147483647 := by omega
  have hzz : (z : Int) ≤ 2147483647 := by omega
  go_enter Tryz.func95, Tryz.ntmps95
  go_wp2
  go_quiet (fail)
  go_wp2
  go_ret
  exact ⟨rfl, _, rfl⟩

theorem lenNil (w : World) : Calls Tryz.prog 95 #[.pointer none] w fun e w' => e = .returned (.int .i64 0) ∧ w = w' := by
  go_enter Tryz.func95, Tryz.ntmps95
  go_wp2
  go_ret
  exact ⟨rfl, rfl⟩

theorem writtenNil (a : Nat) (x y : Value) (w : World) (h : w.heap[a]? = some (.cells #[.pointer none, x, y] 130 (0, 0))) :
    Calls Tryz.prog 96 #[.pointer (some ⟨a, 0, none⟩)] w fun e w' => e = .returned (.string ⟨#[]⟩) ∧ w = w' := by
  have c0 : w.cell? ⟨a, 0, none⟩ = some (.pointer none) := by simp [World.cell?, h]
  go_enter Tryz.func96, Tryz.ntmps96
  go_wp2
  go_ret
  exact ⟨rfl, rfl⟩

theorem ne_of_types {w : World} {a b : Nat} {cs ds : Array Value} {S T : TypeId} {f g : Nat × Nat} (ha : w.heap[a]? = some (.cells cs S f)) (hb : w.heap[b]? = some (.cells ds T g)) (h : S ≠ T) : a ≠ b := by
  rintro rfl
  rw [ha] at hb
  simp only [Option.some.injEq, Obj.cells.injEq] at hb
  exact h hb.2.1

/-- X with one block more. -/
def also (X : Nat → Prop) (a : Nat) : Nat → Prop := fun k => X k ∨ k = a

theorem IsB.also {X : Nat → Prop} {b a : Nat} {l : List UInt8} {w : World} {cs : Array Value} {T : TypeId} {fr : Nat × Nat} (h : IsB X b l w) (ha : w.heap[a]? = some (.cells cs T fr)) (h1 : T ≠ 121) (h2 : T ≠ 5) : IsB (also X a) b l w := by
  obtain ⟨hX, v, hv, hg⟩ := h
  obtain ⟨p, hp, hbk, hown, hr⟩ := hv
  refine ⟨?_, v, ⟨p, hp, hbk, hown, hr⟩, ?_⟩
  · rintro (h | h)
    · exact hX h
    · exact ne_of_types ha hbk h1 h.symm
  · rintro g e (h | rfl)
    · exact hg g e h
    · exact Lib.ownBlock_neF hown ha h2 e

theorem IsB.less {X Y : Nat → Prop} {b : Nat} {l : List UInt8} {w : World} (h : IsB X b l w) (hY : ∀ k, Y k → X k) : IsB Y b l w :=
  ⟨fun k => h.1 (hY _ k), h.2.imp fun _ ⟨h1, h2⟩ => ⟨h1, fun g e k => h2 g e (hY _ k)⟩⟩

theorem ext_all (l : List UInt8) : (⟨l.toArray⟩ : ByteArray).extract 0 l.length = ⟨l.toArray⟩ := by
  rw [Lib.extract_eq]
  simp

theorem writtenSome (X : Nat → Prop) (a b : Nat) (l : List UInt8) (z : Nat) (w : World) (h : w.heap[a]? = some (.cells #[.pointer (some ⟨b, 0, none⟩), .int .i64 l.length, .int .i64 z] 130 (0, 0))) (hb : IsB X b l w) (hl : l.length ≤ 2147483647) :
    Calls Tryz.prog 96 #[.pointer (some ⟨a, 0, none⟩)] w fun e w' => e = .returned (.string ⟨l.toArray⟩) ∧ IsB X b l w' ∧ KeptIn (also X a) w w' := by
  have hb2 := hb.also h (by decide) (by decide)
  have c0 : w.cell? ⟨a, 0, none⟩ = some (.pointer (some ⟨b, 0, none⟩)) := by simp [World.cell?, h]
  have c1 : w.cell? ⟨a, 1, none⟩ = some (.int .i64 l.length) := by simp [World.cell?, h]
  have HB := Lib.hid hb2; clear hb2
  have HB1 := Lib.hid hb; clear hb
  have H := Lib.hid h; clear h
  have h0 : (0 : Int) ≤ (l.length : Int) := by omega
  have h1 : (l.length : Int) ≤ 2147483647 := by omega
  go_enter Tryz.func96, Tryz.ntmps96
  go_wp2
  go_region_held3 (fun w' => w'.cell? ⟨a, 0, none⟩ = some (.pointer (some ⟨b, 0, none⟩)) ∧ w'.cell? ⟨a, 1, none⟩ = some (.int .i64 l.length)) (first | exact ⟨(World.cell?_of_block (h2.block a (.inr rfl))).trans (by first | exact c0 | assumption), (World.cell?_of_block (h2.block a (.inr rfl))).trans (by first | exact c1 | assumption)⟩ | exact And.intro c0 c1 | go_keep)
    (first | (go_at_call 60; refine (bString (also X a) b l _ ?_).mono ?_; (exact HB.out); rintro e w' ⟨rfl, h1, h2⟩))
  go_wp2
  go_ret
  exact ⟨congrArg (fun s => Ending.returned (Value.string s)) (ext_all l), h1.less (fun _ => .inl), (KeptIn.refl _ _).drew.trans h2⟩

/-- What a Writer's builder is behind 'builder': there is one. -/
theorem builderW (X : Nat → Prop) (a : Nat) (l : List UInt8) (z : Nat) (w : World) (h : IsW X a l z w) (hX : ∀ k, X k → k < w.heap.size) :
    Calls Tryz.prog 116 #[.pointer (some ⟨a, 0, none⟩)] w fun e w' => ∃ b, e = .returned (.pointer (some ⟨b, 0, none⟩)) ∧
      w'.heap[a]? = some (.cells #[.pointer (some ⟨b, 0, none⟩), .int .i64 l.length, .int .i64 z] 130 (0, 0)) ∧ IsB X b l w' ∧ KeptIn X w w' := by
  obtain ⟨c1, c2, _⟩ := h.cells
  have hlt := h.lt
  have hne : a ≠ w.heap.size := by omega
  obtain ⟨hXa, ⟨rfl, hc⟩ | ⟨b, hc, hb⟩⟩ := h
  · have c0 : w.cell? ⟨a, 0, none⟩ = some (.pointer none) := by simp [World.cell?, hc]
    have f0 : w.frozen? ⟨a, 0, none⟩ = false := by simp [World.frozen?, hc]
    go_enter Tryz.func116, Tryz.ntmps116
    go_wp2
    go_quiet (fail)
    rename_i nq
    obtain ⟨w1, hw1⟩ : ∃ w1, w1 = w.drewN nq := ⟨_, rfl⟩
    rw [← hw1]
    have hk1 : KeptIn X w w1 := hw1 ▸ (KeptIn.refl _ _).drewN nq
    have hX1 := hk1.lt hX
    have hc1 : w1.heap[a]? = some (.cells #[.pointer none, .int .i64 0, .int .i64 z] 130 (0, 0)) := by rw [hw1]; exact hc
    have hlt1 : a < w1.heap.size := (Array.getElem?_eq_some_iff.1 hc1).1
    clear hw1 hne hlt f0 c0 c1 c2 hc hX
    have d0 : w1.cell? ⟨a, 0, none⟩ = some (.pointer none) := by simp [World.cell?, hc1]
    have f0 : w1.frozen? ⟨a, 0, none⟩ = false := by simp [World.frozen?, hc1]
    go_wp2_with (go_at_call 96; refine (writtenNil a _ _ _ (by exact hc1)).mono ?_; rintro e w1 ⟨rfl, rfl⟩)
    have hsz : (w1.setCell ⟨a, 0, none⟩ (.pointer (some ⟨w1.heap.size, 0, none⟩))).heap.size = w1.heap.size := by simp [World.setCell]
    have hX2 : ∀ k, also X a k → k < (w1.setCell ⟨a, 0, none⟩ (.pointer (some ⟨w1.heap.size, 0, none⟩))).heap.size := by
      rw [hsz]
      rintro k (h | rfl)
      · exact hX1 k h
      · exact hlt1
    have hB := IsB.fresh (also X a) (w1.setCell ⟨a, 0, none⟩ (.pointer (some ⟨w1.heap.size, 0, none⟩))) hX2
    rw [hsz] at hB
    have hX3 : ∀ k, also X a k → k < ((w1.setCell ⟨a, 0, none⟩ (.pointer (some ⟨w1.heap.size, 0, none⟩))).alloc (.cells #[.pointer none, .slice none 0 0] 121)).heap.size := fun k h => Nat.lt_of_lt_of_le (hX2 k h) (by simp)
    have hA : ((w1.setCell ⟨a, 0, none⟩ (.pointer (some ⟨w1.heap.size, 0, none⟩))).alloc (.cells #[.pointer none, .slice none 0 0] 121)).heap[a]? = some (.cells #[.pointer (some ⟨w1.heap.size, 0, none⟩), .int .i64 0, .int .i64 z] 130 (0, 0)) := by
      rw [Lib.alloc_old _ _ _ (by rw [hsz]; exact hlt1)]
      simp [World.setCell, Array.getElem?_modify, hc1]
    have hK : KeptIn X w1 ((w1.setCell ⟨a, 0, none⟩ (.pointer (some ⟨w1.heap.size, 0, none⟩))).alloc (.cells #[.pointer none, .slice none 0 0] 121)) :=
      ((KeptIn.refl X w1).setCell (p := ⟨a, 0, none⟩) hXa _).alloc hX1 _
    generalize (w1.setCell ⟨a, 0, none⟩ (.pointer (some ⟨w1.heap.size, 0, none⟩))).alloc (.cells #[.pointer none, .slice none 0 0] 121) = w2 at *
    generalize w1.heap.size = b at *
    have hcall : Calls Tryz.prog 72 #[.pointer (some ⟨b, 0, none⟩), .string ⟨#[]⟩] w2 fun e w' => e = .returned (.tuple #[.int .i64 0, .nilIface]) ∧ w'.cell? ⟨a, 0, none⟩ = some (.pointer (some ⟨b, 0, none⟩)) ∧
        Hid (w'.heap[a]? = some (.cells #[.pointer (some ⟨b, 0, none⟩), .int .i64 0, .int .i64 z] 130 (0, 0)) ∧ IsB X b [] w' ∧ KeptIn X w w') := by
      refine (bWrite (also X a) b [] ⟨#[]⟩ w2 hB hX3 (by decide)).mono ?_
      rintro e w3 ⟨he, hB3, hk3⟩
      have hA3 : w3.heap[a]? = some (.cells #[.pointer (some ⟨b, 0, none⟩), .int .i64 0, .int .i64 z] 130 (0, 0)) := by rw [hk3.block a (.inr rfl)]; exact hA
      exact ⟨he, by simp [World.cell?, hA3], hA3, hB3.less (fun _ => .inl), hk1.trans (hK.trans (hk3.mono (fun _ => .inl)))⟩
    have HC := Lib.hid hcall
    clear hA hB hX3 hK hX2 hX1 hsz hk1 hc1 d0 f0 hlt1 hcall
    go_wp2_with (go_at_call 72; refine (HC.out).mono ?_; rintro e w3 ⟨rfl, e0, hfin⟩)
    go_ret
    exact ⟨b, rfl, hfin.out⟩
  · have c0 : w.cell? ⟨a, 0, none⟩ = some (.pointer (some ⟨b, 0, none⟩)) := by simp [World.cell?, hc]
    have HB := Lib.hid hb; clear hb
    have HC := Lib.hid hc; clear hc
    go_enter Tryz.func116, Tryz.ntmps116
    go_wp2
    go_quiet ((go_at_call 73; exact Calls.quiet_of_same ((bLen X b l _ (by exact HB.out)).mono fun _ _ ⟨h1, h2⟩ => ⟨h1, h2.symm⟩)))
    go_wp2
    go_ret
    exact ⟨b, rfl, HC.out, HB.out, (KeptIn.refl _ _).drewN _⟩

theorem IsW.drewN {X : Nat → Prop} {a : Nat} {l : List UInt8} {z : Nat} {w : World} (h : IsW X a l z w) (n : Nat) : IsW X a l z (w.drewN n) := h.old ((KeptIn.refl _ _).drewN n)

theorem textNil (s : ByteArray) (w : World) : Calls Tryz.prog 93 #[.pointer none, .string s] w fun e w' => e = .returned (.tuple #[]) ∧ w = w' := by
  go_enter Tryz.func93, Tryz.ntmps93
  go_wp2
  exact bodyPost_ret (results_none rfl _ _ _) rfl ⟨rfl, rfl⟩

theorem textEmpty (a : Nat) (w : World) : Calls Tryz.prog 93 #[.pointer (some ⟨a, 0, none⟩), .string ⟨#[]⟩] w fun e w' => e = .returned (.tuple #[]) ∧ w = w' := by
  go_enter Tryz.func93, Tryz.ntmps93
  go_wp2
  exact bodyPost_ret (results_none rfl _ _ _) rfl ⟨rfl, rfl⟩

theorem textSome (X : Nat → Prop) (a : Nat) (l : List UInt8) (z : Nat) (s : ByteArray) (w : World) (h : IsW X a l z w) (hX : ∀ k, X k → k < w.heap.size) (hs : s.data.toList ≠ []) (hz : l.length + z + s.size ≤ 2147483647) :
    Calls Tryz.prog 93 #[.pointer (some ⟨a, 0, none⟩), .string s] w fun e w' => e = .returned (.tuple #[]) ∧ IsW X a (l ++ List.replicate z 0 ++ s.data.toList) 0 w' ∧ KeptIn X w w' := by
  have hs1 : s.toList.isEmpty = false := by rw [Lib.toList_data]; simpa using hs
  have hcmp : ¬ (2147483647 - (s.size : Int) < (l.length : Int) + (z : Int)) := by omega
  have b0 : (0 : Int) ≤ (s.size : Int) := by omega
  have b1 : (s.size : Int) ≤ 2147483647 := by omega
  have H := Lib.hid h; clear h
  have HS := Lib.hid hs; clear hs
  go_enter Tryz.func93, Tryz.ntmps93
  go_wp2_with fail
  refine (lenW X a l z _ H.out (by omega)).mono ?_
  rintro e w1 ⟨rfl, n, rfl⟩
  go_wp2_with fail
  -- builder
  refine (builderW X a l z _ (H.out.drewN n) (by exact hX)).mono ?_
  rintro e w2 ⟨b, rfl, hA2, hB2, hk2⟩
  have hX2 : ∀ k, X k → k < w2.heap.size := hk2.lt (by exact hX)
  have hXa : ¬ X a := H.out.1
  have hK2 : KeptIn X w w2 := ((KeptIn.refl X w).drewN n).trans hk2
  have HA2 := Lib.hid hA2
  have q2 : w2.cell? ⟨a, 2, none⟩ = some (.int .i64 z) := by simp [World.cell?, hA2]
  have alt : a < w2.heap.size := (Array.getElem?_eq_some_iff.1 hA2).1
  have HB2 := Lib.hid hB2
  clear hA2 hB2 hk2
  go_wp2_with fail
  -- strings.Repeat
  refine (repeatZ z _ (by omega)).mono ?_
  rintro e w3 ⟨rfl, hk3⟩
  have hA3 : w3.heap[a]? = some (.cells #[.pointer (some ⟨b, 0, none⟩), .int .i64 l.length, .int .i64 z] 130 (0, 0)) := by rw [hk3.block a alt]; exact HA2.out
  have HB3 := Lib.hid ((HB2.out.old hk3).also hA3 (by decide) (by decide))
  have HA3 := Lib.hid hA3
  have hX3 : ∀ k, also X a k → k < w3.heap.size := by
    rintro k (h | rfl)
    · exact Nat.lt_of_lt_of_le (hX2 k h) hk3.size
    · exact Nat.lt_of_lt_of_le alt hk3.size
  have hK3 : KeptIn X w w3 := hK2.trans (hk3.mono hX2)
  clear q2 hk3 hA3 hK2 hX2 alt HA2 HB2
  have r0 : (List.replicate z (0 : UInt8)).toArray.size = z := by simp
  go_wp2_with fail
  -- the zeros
  refine (bWrite (also X a) b l ⟨(List.replicate z 0).toArray⟩ _ HB3.out hX3 (by show _ + (List.replicate z (0 : UInt8)).toArray.size ≤ _; rw [r0]; omega)).mono ?_
  rintro e w4 ⟨rfl, hB4, hk4⟩
  have hA4 : w4.heap[a]? = some (.cells #[.pointer (some ⟨b, 0, none⟩), .int .i64 l.length, .int .i64 z] 130 (0, 0)) := by rw [hk4.block a (.inr rfl)]; exact HA3.out
  have HA4 := Lib.hid hA4
  have HB4 := Lib.hid hB4
  have hX4 := hk4.lt hX3
  have hK4 : KeptIn X w w4 := hK3.trans (hk4.mono (fun _ => .inl))
  clear hA4 hB4 hk4 hX3 hK3 HA3 HB3 r0
  go_wp2_with fail
  -- the text
  have r1 : (⟨(l ++ List.replicate z (0 : UInt8)).toArray⟩ : ByteArray).size = l.length + z := by show (l ++ List.replicate z (0 : UInt8)).toArray.size = _; simp
  refine (bWrite (also X a) b (l ++ List.replicate z 0) s _ HB4.out hX4 (by simp; omega)).mono ?_
  rintro e w5 ⟨rfl, hB5, hk5⟩
  have hA5 : w5.heap[a]? = some (.cells #[.pointer (some ⟨b, 0, none⟩), .int .i64 l.length, .int .i64 z] 130 (0, 0)) := by rw [hk5.block a (.inr rfl)]; exact HA4.out
  have q1 : w5.cell? ⟨a, 1, none⟩ = some (.int .i64 l.length) := by simp [World.cell?, hA5]
  have q2 : w5.cell? ⟨a, 2, none⟩ = some (.int .i64 z) := by simp [World.cell?, hA5]
  have f1 : w5.frozen? ⟨a, 1, none⟩ = false := by simp [World.frozen?, hA5]
  have f2 : w5.frozen? ⟨a, 2, none⟩ = false := by simp [World.frozen?, hA5]
  have hK5 : KeptIn X w w5 := hK4.trans (hk5.mono (fun _ => .inl))
  have HB5 := Lib.hid hB5
  have HA5 := Lib.hid hA5
  clear hA5 hB5 hk5 hX4 hK4 HA4 HB4 r1
  go_wp2_with fail
  refine (bLen (also X a) b _ _ HB5.out).mono ?_
  rintro e w6 ⟨rfl, rfl⟩
  go_wp2
  go_end0
  refine ⟨rfl, ⟨hXa, .inr ⟨b, ?_, ?_⟩⟩, (hK5.setCell (p := ⟨a, 1, none⟩) hXa _).setCell (p := ⟨a, 2, none⟩) hXa _⟩
  · simp [World.setCell, Array.getElem?_modify, HA5.out]
  · exact (((HB5.out).less (fun _ => .inl)).setCell HA5.out (by decide) (by decide) _).setCell (cs := #[.pointer (some ⟨b, 0, none⟩), .int .i64 (l ++ List.replicate z 0 ++ s.data.toList).length, .int .i64 z]) (T := 130) (fr := (0, 0)) (by simp [World.setCell, Array.getElem?_modify, HA5.out]) (by decide) (by decide) _

end Go.Proofs.YtkgjmejgkffbdaaGreatDoor
/- Package octet's Writer: Put, Fill, String. -/
set_option linter.unusedVariables false
namespace Go.Proofs.YtkgjmejgkffbdaaGreatDoor
open Go.RowKit

theorem fillNil (n : Int) (w : World) : Calls Tryz.prog 75 #[.pointer none, .int .i64 n] w fun e w' => e = .returned (.tuple #[]) ∧ w = w' := by
  go_enter Tryz.func75, Tryz.ntmps75
  go_wp2
  go_end0
  exact ⟨rfl, rfl⟩

theorem fillLess (X : Nat → Prop) (a : Nat) (l : List UInt8) (z : Nat) (n : Int) (w : World) (h : IsW X a l z w) (hz : l.length + z ≤ 2147483647) (hn : ¬ (l.length : Int) + (z : Int) < n) :
    Calls Tryz.prog 75 #[.pointer (some ⟨a, 0, none⟩), .int .i64 n] w fun e w' => e = .returned (.tuple #[]) ∧ IsW X a l z w' ∧ KeptIn X w w' := by
  have H := Lib.hid h; clear h
  go_enter Tryz.func75, Tryz.ntmps75
  go_wp2_with fail
  refine (lenW X a l z _ H.out (by omega)).mono ?_
  rintro e w1 ⟨rfl, k, rfl⟩
  go_wp2
  go_end0
  exact ⟨rfl, H.out.drewN _, (KeptIn.refl _ _).drewN _⟩

theorem fillMore (X : Nat → Prop) (a : Nat) (l : List UInt8) (z : Nat) (n : Nat) (w : World) (h : IsW X a l z w) (hz : l.length + z ≤ 2147483647) (hn : (l.length : Int) + (z : Int) < (n : Int)) (hn2 : n ≤ 2147483647) :
    Calls Tryz.prog 75 #[.pointer (some ⟨a, 0, none⟩), .int .i64 n] w fun e w' => e = .returned (.tuple #[]) ∧ IsW X a l (n - l.length) w' ∧ KeptIn X w w' := by
  have H := Lib.hid h; clear h
  have b0 : (0 : Int) ≤ (n : Int) := by omega
  have b1 : (n : Int) ≤ 2147483647 := by omega
  have b2 : (0 : Int) ≤ (l.length : Int) := by omega
  have b3 : (l.length : Int) ≤ 2147483647 := by omega
  go_enter Tryz.func75, Tryz.ntmps75
  go_wp2_with fail
  refine (lenW X a l z _ H.out (by omega)).mono ?_
  rintro e w1 ⟨rfl, k, rfl⟩
  obtain ⟨w2, hw2⟩ : ∃ w2, w2 = w.drewN k := ⟨_, rfl⟩
  rw [← hw2]
  have h2 : IsW X a l z w2 := hw2 ▸ H.out.drewN k
  have hK : KeptIn X w w2 := hw2 ▸ (KeptIn.refl _ _).drewN k
  have hXa := h2.1
  obtain ⟨q1, q2, f2⟩ := h2.cells
  have H2 := Lib.hid h2
  clear h2 hw2
  go_wp2
  go_end0
  refine ⟨rfl, ⟨hXa, ?_⟩, hK.setCell (p := ⟨a, 2, none⟩) hXa _⟩
  rw [show ((n - l.length : Nat) : Int) = (n : Int) - (l.length : Int) from by omega]
  rcases H2.out.2 with ⟨rfl, hc⟩ | ⟨b, hc, hb⟩
  · exact .inl ⟨rfl, by simp [World.setCell, Array.getElem?_modify, hc]⟩
  · exact .inr ⟨b, by simp [World.setCell, Array.getElem?_modify, hc], hb.setCell hc (by decide) (by decide) _⟩

theorem stringNil (w : World) : Calls Tryz.prog 66 #[.pointer none] w fun e w' => e = .returned (.string ⟨#[]⟩) ∧ w = w' := by
  go_enter Tryz.func66, Tryz.ntmps66
  go_wp2
  go_ret
  exact ⟨rfl, rfl⟩

theorem writtenW (X : Nat → Prop) (a : Nat) (l : List UInt8) (z : Nat) (w : World) (h : IsW X a l z w) (hl : l.length ≤ 2147483647) :
    Calls Tryz.prog 96 #[.pointer (some ⟨a, 0, none⟩)] w fun e w' => e = .returned (.string ⟨l.toArray⟩) ∧ IsW X a l z w' ∧ KeptIn (also X a) w w' := by
  obtain ⟨hXa, ⟨rfl, hc⟩ | ⟨b, hc, hb⟩⟩ := h
  · refine (writtenNil a _ _ w hc).mono ?_
    rintro e _ ⟨rfl, rfl⟩
    exact ⟨rfl, ⟨hXa, .inl ⟨rfl, hc⟩⟩, .refl _ _⟩
  · refine (writtenSome X a b l z w hc hb hl).mono ?_
    rintro e w' ⟨rfl, h1, h2⟩
    exact ⟨rfl, ⟨hXa, .inr ⟨b, by rw [h2.block a (.inr rfl)]; exact hc, h1⟩⟩, h2⟩

theorem append_zeros (l : List UInt8) (z : Nat) : (⟨l.toArray⟩ : ByteArray) ++ ⟨Array.replicate z 0⟩ = ⟨(l ++ List.replicate z 0).toArray⟩ := by
  apply ByteArray.ext
  simp

theorem stringW (X : Nat → Prop) (a : Nat) (l : List UInt8) (z : Nat) (w : World) (h : IsW X a l z w) (hX : ∀ k, X k → k < w.heap.size) (hz : l.length + z ≤ 2147483647) :
    Calls Tryz.prog 66 #[.pointer (some ⟨a, 0, none⟩)] w fun e w' => e = .returned (.string ⟨(l ++ List.replicate z 0).toArray⟩) ∧ IsW X a l z w' ∧ KeptIn X w w' := by
  have H := Lib.hid h; clear h
  have b0 : (0 : Int) ≤ (z : Int) := by omega
  have b1 : (z : Int) ≤ 2147483647 := by omega
  have b2 : (0 : Int) ≤ (l.length : Int) := by omega
  have b3 : (l.length : Int) ≤ 2147483647 := by omega
  have hcmp : ¬ (2147483647 < (l.length : Int) + (z : Int)) := by omega
  have hcat : ¬ 9223372036854775807 < l.length + z := by omega
  go_enter Tryz.func66, Tryz.ntmps66
  go_wp2_with fail
  refine (lenW X a l z _ H.out (by omega)).mono ?_
  rintro e w1 ⟨rfl, k, rfl⟩
  obtain ⟨w2, hw2⟩ : ∃ w2, w2 = w.drewN k := ⟨_, rfl⟩
  rw [← hw2]
  have h2 : IsW X a l z w2 := hw2 ▸ H.out.drewN k
  have hK : KeptIn X w w2 := hw2 ▸ (KeptIn.refl _ _).drewN k
  have hX2 := hK.lt hX
  have hlt := h2.lt
  obtain ⟨q1, q2, f2⟩ := h2.cells
  have HX2 : ∀ k, also X a k → k < w2.heap.size := by
    rintro k (h | rfl)
    · exact hX2 k h
    · exact hlt
  have H2 := Lib.hid h2
  clear h2 hw2 H hX hcmp q1 f2
  go_wp2
  go_region_held3 (fun w' => w'.cell? ⟨a, 2, none⟩ = some (.int .i64 z)) (first | exact (World.cell?_of_block (h3.block a (Nat.lt_of_lt_of_le hlt h2.size))).trans (by assumption) | exact (World.cell?_of_block (h2.block a (.inr rfl))).trans (by first | exact q2 | assumption) | exact q2 | go_keep)
    (first | (go_at_call 96; refine (writtenW X a l z _ ?_ ?_).mono ?_; (exact H2.out); omega; rintro e w' ⟨rfl, h1, h2⟩) | (go_at_call 38; refine (repeatZ z _ ?_).mono ?_; omega; rintro e w' ⟨rfl, h3⟩))
  go_wp2
  go_ret
  exact ⟨congrArg (fun s => Ending.returned (Value.string s)) (append_zeros l z), h1.old h3, hK.drew.trans ((h2.mono (fun _ => .inl)).trans (h3.mono (fun k h => Nat.lt_of_lt_of_le (hX2 k h) h2.size)))⟩

theorem conv_put (n j : Nat) (hj : j ≤ 8) (w : World) :
    (convert 77 9 (.slice (some ⟨w.heap.size, 0, none⟩) j 8)).run Tryz.prog (w.alloc (.cells (putCells n j).toArray 154)) = .ok (.string ⟨(bytesLE n j).toArray⟩) (w.alloc (.cells (putCells n j).toArray 154)) := by
  have hc : (loadCells ⟨w.heap.size, 0, none⟩ j).run Tryz.prog (w.alloc (.cells (putCells n j).toArray 154)) = .ok (((bytesLE n j).map (fun b : UInt8 => (b.toNat : Int))).map (Value.int .u8)).toArray (w.alloc (.cells (putCells n j).toArray 154)) := by
    have hl : (((bytesLE n j).map (fun b : UInt8 => (b.toNat : Int))).map (Value.int .u8)).length = j := by simp [bytesLE_length]
    have hnew : (w.alloc (.cells (putCells n j).toArray 154)).heap[w.heap.size]? = some (.cells (putCells n j).toArray 154 (0, 0)) := heap_alloc_new w _
    have := run_loadCells_list (P := Tryz.prog) (w.alloc (.cells (putCells n j).toArray 154)) ⟨w.heap.size, 0, none⟩ (((bytesLE n j).map (fun b : UInt8 => (b.toNat : Int))).map (Value.int .u8)) (fun i v hv => by
      have hadd : (⟨w.heap.size, 0, none⟩ : Addr).add i = ⟨w.heap.size, i, none⟩ := by unfold Addr.add; split <;> simp_all
      rw [hadd, Lib.cell_of_heap hnew]
      have ht : ((bytesLE n j).map (fun b : UInt8 => (b.toNat : Int))).map (Value.int .u8) = (putCells n j).take j := by rw [putCells_take, List.map_map]; rfl
      rw [ht, List.getElem?_take] at hv
      split at hv
      · simpa using hv
      · cases hv)
    rw [hl] at this
    exact this
  rw [run_convert_bytes_string (P := Tryz.prog) _ 77 9 5 _ _ _ (by kernel_rfl) (by kernel_rfl) (by kernel_rfl), run_bytesToString _ _ _ _ _ hc, foldl_push_byteCells]
  simp

/-- Put: the number's lowest bytes go to Text. -/
theorem putWith (p : Option Addr) (n : Nat) (size : Int) (w : World) (R : World → Prop) (hn : n < 18446744073709551616)
    (hT : ∀ W, KeptIn (· < w.heap.size) w W → Calls Tryz.prog 93 #[.pointer p, .string ⟨(bytesLE n (min (max size 1) 8).toNat).toArray⟩] W fun e w' => e = .returned (.tuple #[]) ∧ R w') :
    Calls Tryz.prog 64 #[.pointer p, .int .u64 n, .int .i64 size] w fun e w' => e = .returned (.tuple #[]) ∧ R w' := by
  have H := Lib.hid hT; clear hT
  go_enter Tryz.func64, Tryz.ntmps64
  go_wp2_with fail
  refine (near size _).mono ?_
  rintro e _ ⟨rfl, rfl⟩
  obtain ⟨k, hk, hk1, hk8⟩ : ∃ k : Nat, min (max size 1) 8 = (k : Int) ∧ 1 ≤ k ∧ k ≤ 8 := ⟨(min (max size 1) 8).toNat, by omega, by omega, by omega⟩
  have HK := Lib.hid hk
  rw [hk]
  clear hk
  go_wp2_with fail
  go_loopw [11] (fun c W => ∃ j : Nat, j ≤ k ∧ c = .int .i64 j ∧ W = w.alloc (.cells (putCells n j).toArray 154)) (fun c _ => k - (intOf c).toNat)
  case atStart => exact ⟨0, Nat.zero_le _, rfl, rfl⟩
  case round =>
    obtain ⟨j, hj, rfl, rfl⟩ := hrel
    by_cases hlt : j < k
    · have h8 : (j : Int) < 8 := by omega
      have h0 : (0 : Int) ≤ (j : Int) := by omega
      have hlt' : (j : Int) < (k : Int) := by omega
      have hat := putCells_at n j (by omega)
      have HS := Lib.hid (putCells_set n j (by omega))
      have hsz := putCells_length n j (by omega)
      go_wp2_with fail
      go_roundw
      case rel => exact ⟨j + 1, by omega, by go_num, by rw [← HS.out]⟩
      case measure => simp [intOf]; omega
    · obtain rfl : j = k := by omega
      have hsz := putCells_length n j (by omega)
      have h8 : (j : Int) ≤ 8 := by omega
      have h0 : (0 : Int) ≤ (j : Int) := by omega
      have hconv := conv_put n j hk8 w
      go_wp2_with fail
      have hb1 : KeptIn (· < w.heap.size) w (w.alloc (.cells (putCells n j).toArray 154)) := (KeptIn.refl _ _).alloc (fun _ h => h) _
      have hh := H.out _ hb1
      rw [HK.out, Int.toNat_natCast] at hh
      refine hh.mono ?_
      rintro e w2 ⟨rfl, h2⟩
      clear hh
      have H2 := Lib.hid h2; clear h2
      go_wp2
      go_end0
      exact ⟨rfl, H2.out⟩

theorem putNil (n : Nat) (size : Int) (w : World) (hn : n < 18446744073709551616) :
    Calls Tryz.prog 64 #[.pointer none, .int .u64 n, .int .i64 size] w fun e w' => e = .returned (.tuple #[]) ∧ KeptIn (· < w.heap.size) w w' :=
  putWith none n size w _ hn fun W hW => (textNil _ W).mono fun e w' ⟨he, h⟩ => ⟨he, h ▸ hW⟩

theorem putSome (X : Nat → Prop) (a : Nat) (l : List UInt8) (z : Nat) (n : Nat) (size : Int) (w : World) (h : IsW X a l z w) (hX : ∀ k, X k → k < w.heap.size) (hn : n < 18446744073709551616) (hz : l.length + z + 8 ≤ 2147483647) :
    Calls Tryz.prog 64 #[.pointer (some ⟨a, 0, none⟩), .int .u64 n, .int .i64 size] w fun e w' => e = .returned (.tuple #[]) ∧ IsW X a (l ++ List.replicate z 0 ++ bytesLE n (min (max size 1) 8).toNat) 0 w' ∧ KeptIn X w w' := by
  refine putWith _ n size w (fun w' => IsW X a (l ++ List.replicate z 0 ++ bytesLE n (min (max size 1) 8).toNat) 0 w' ∧ KeptIn X w w') hn fun W hW => ?_
  refine (textSome X a l z _ W (h.old hW) ((hW.mono hX).lt hX) ?_ ?_).mono fun e w' ⟨he, h1, h2⟩ => ⟨he, h1, (hW.mono hX).trans h2⟩
  · intro e
    have := congrArg List.length e
    simp [bytesLE_length] at this
    omega
  · show _ + (bytesLE n _).toArray.size ≤ _
    simp only [List.size_toArray, bytesLE_length]
    omega

/-! ### In terms of the bytes that a Writer holds -/

theorem Holds.lt {X : Nat → Prop} {a : Nat} {c : List UInt8} {w : World} (h : Holds X a c w) : a < w.heap.size := h.elim fun _ ⟨_, h, _⟩ => h.lt
theorem Holds.not {X : Nat → Prop} {a : Nat} {c : List UInt8} {w : World} (h : Holds X a c w) : ¬ X a := h.elim fun _ ⟨_, h, _⟩ => h.1
theorem Holds.old {X : Nat → Prop} {a : Nat} {c : List UInt8} {w w' : World} (h : Holds X a c w) (hk : KeptIn (· < w.heap.size) w w') : Holds X a c w' :=
  h.imp fun _ ⟨z, h, e⟩ => ⟨z, h.old hk, e⟩
theorem Holds.fresh (X : Nat → Prop) (w : World) (hX : ∀ k, X k → k < w.heap.size) : Holds X w.heap.size [] (w.alloc (.cells #[.pointer none, .int .i64 0, .int .i64 0] 130)) :=
  ⟨[], 0, ⟨fun h => Nat.lt_irrefl _ (hX _ h), .inl ⟨rfl, heap_alloc_new w _⟩⟩, rfl⟩

/-- What lies beyond all that is there is none of a Writer's memory. -/
theorem Holds.beyond {X : Nat → Prop} {a : Nat} {c : List UInt8} {w : World} (h : Holds X a c w) (r : Nat) (hr : w.heap.size ≤ r) : Holds (also X r) a c w := by
  obtain ⟨l, z, h, e⟩ := h
  have hlt := h.lt
  refine ⟨l, z, ⟨?_, ?_⟩, e⟩
  · rintro (k | k)
    · exact h.1 k
    · omega
  · refine h.2.imp id ?_
    rintro ⟨b, hb, h1⟩
    have hbl := h1.lt
    obtain ⟨hX, v, hv, hg⟩ := h1
    refine ⟨b, hb, ?_, v, hv, ?_⟩
    · rintro (k | k)
      · exact hX k
      · omega
    · rintro g eg (k | k)
      · exact hg g eg k
      · obtain ⟨p, _, _, hown, _⟩ := hv
        have := (hown.lt g eg).2
        omega

theorem Holds.less {X Y : Nat → Prop} {a : Nat} {c : List UInt8} {w : World} (h : Holds X a c w) (hY : ∀ k, Y k → X k) : Holds Y a c w := by
  obtain ⟨l, z, h, e⟩ := h
  exact ⟨l, z, ⟨fun k => h.1 (hY _ k), h.2.imp id fun ⟨b, h1, h2⟩ => ⟨b, h1, h2.less hY⟩⟩, e⟩

/-- A Writer stays as it is where all that may be its own stands. -/
theorem Holds.comp {X : Nat → Prop} {a : Nat} {c : List UInt8} {w w' : World} (h : Holds X a c w) (hk : KeptIn (fun k => ¬ X k ∧ k < w.heap.size) w w') : Holds X a c w' := by
  obtain ⟨l, z, h, e⟩ := h
  have hlt := h.lt
  refine ⟨l, z, ⟨h.1, ?_⟩, e⟩
  rcases h.2 with ⟨h1, h2⟩ | ⟨b, h1, h2⟩
  · exact .inl ⟨h1, by rw [hk.block a ⟨h.1, hlt⟩]; exact h2⟩
  · refine .inr ⟨b, by rw [hk.block a ⟨h.1, hlt⟩]; exact h1, ?_⟩
    have hbl := h2.lt
    obtain ⟨hX, v, hv, hg⟩ := h2
    refine ⟨hX, v, hv.kept hk ⟨hX, hbl⟩ fun g eg => ⟨hg g eg, ?_⟩, hg⟩
    obtain ⟨p, _, _, hown, _⟩ := hv
    exact (hown.lt g eg).2

theorem also_lt {X : Nat → Prop} {n r : Nat} (hX : ∀ k, X k → k < n) (hr : r < n) : ∀ k, also X r k → k < n := by
  rintro k (h | rfl)
  · exact hX k h
  · exact hr

theorem hText (X : Nat → Prop) (a : Nat) (c : List UInt8) (s : ByteArray) (w : World) (h : Holds X a c w) (hX : ∀ k, X k → k < w.heap.size) (hz : c.length + s.size ≤ 2147483647) :
    Calls Tryz.prog 93 #[.pointer (some ⟨a, 0, none⟩), .string s] w fun e w' => e = .returned (.tuple #[]) ∧ Holds X a (c ++ s.data.toList) w' ∧ KeptIn X w w' := by
  obtain ⟨l, z, h, rfl⟩ := h
  by_cases hs : s.data.toList = []
  · obtain rfl : s = ⟨#[]⟩ := by
      obtain ⟨d⟩ := s
      obtain rfl : d = #[] := by simpa using hs
      rfl
    refine (textEmpty a w).mono fun e w' ⟨he, h1⟩ => ?_
    subst h1
    exact ⟨he, ⟨l, z, h, by simp⟩, .refl _ _⟩
  · refine (textSome X a l z s w h hX hs (by simpa using hz)).mono fun e w' ⟨he, h1, h2⟩ => ⟨he, ⟨_, 0, h1, by simp⟩, h2⟩

theorem hPut (X : Nat → Prop) (a : Nat) (c : List UInt8) (n : Nat) (size : Int) (w : World) (h : Holds X a c w) (hX : ∀ k, X k → k < w.heap.size) (hn : n < 18446744073709551616) (hz : c.length + 8 ≤ 2147483647) :
    Calls Tryz.prog 64 #[.pointer (some ⟨a, 0, none⟩), .int .u64 n, .int .i64 size] w fun e w' => e = .returned (.tuple #[]) ∧ Holds X a (c ++ bytesLE n (min (max size 1) 8).toNat) w' ∧ KeptIn X w w' := by
  obtain ⟨l, z, h, rfl⟩ := h
  refine (putSome X a l z n size w h hX hn (by simpa using hz)).mono fun e w' ⟨he, h1, h2⟩ => ⟨he, ⟨_, 0, h1, by simp⟩, h2⟩

theorem hFill (X : Nat → Prop) (a : Nat) (c : List UInt8) (n : Int) (w : World) (h : Holds X a c w) (hz : c.length ≤ 2147483647) (hn : n ≤ 2147483647) :
    Calls Tryz.prog 75 #[.pointer (some ⟨a, 0, none⟩), .int .i64 n] w fun e w' => e = .returned (.tuple #[]) ∧ Holds X a (c ++ List.replicate (n.toNat - c.length) 0) w' ∧ KeptIn X w w' := by
  obtain ⟨l, z, h, rfl⟩ := h
  have hl : l.length + z ≤ 2147483647 := by simpa using hz
  by_cases hlt : (l.length : Int) + (z : Int) < n
  · obtain ⟨m, rfl⟩ := Int.eq_ofNat_of_zero_le (show 0 ≤ n by omega)
    refine (fillMore X a l z m w h hl hlt (by omega)).mono fun e w' ⟨he, h1, h2⟩ => ⟨he, ⟨l, _, h1, ?_⟩, h2⟩
    rw [List.append_assoc, List.replicate_append_replicate]
    congr 2
    simp
    omega
  · refine (fillLess X a l z n w h hl hlt).mono fun e w' ⟨he, h1, h2⟩ => ⟨he, ⟨l, z, h1, ?_⟩, h2⟩
    rw [show n.toNat - (l ++ List.replicate z (0 : UInt8)).length = 0 from by simp; omega]
    simp

theorem hString (X : Nat → Prop) (a : Nat) (c : List UInt8) (w : World) (h : Holds X a c w) (hX : ∀ k, X k → k < w.heap.size) (hz : c.length ≤ 2147483647) :
    Calls Tryz.prog 66 #[.pointer (some ⟨a, 0, none⟩)] w fun e w' => e = .returned (.string ⟨c.toArray⟩) ∧ Holds X a c w' ∧ KeptIn X w w' := by
  obtain ⟨l, z, h, rfl⟩ := h
  exact (stringW X a l z w h hX (by simpa using hz)).mono fun e w' ⟨he, h1, h2⟩ => ⟨he, ⟨l, z, h1, rfl⟩, h2⟩

theorem hLen (X : Nat → Prop) (a : Nat) (c : List UInt8) (w : World) (h : Holds X a c w) (hz : c.length ≤ 2147483647) :
    Calls Tryz.prog 95 #[.pointer (some ⟨a, 0, none⟩)] w fun e w' => e = .returned (.int .i64 c.length) ∧ ∃ n, w' = w.drewN n := by
  obtain ⟨l, z, h, rfl⟩ := h
  exact (lenW X a l z w h (by simpa using hz)).mono fun e w' ⟨he, h1⟩ => ⟨by rw [he]; simp, h1⟩

end Go.Proofs.YtkgjmejgkffbdaaGreatDoor
/- Package octet's Reader. -/
set_option linter.unusedVariables false
namespace Go.Proofs.YtkgjmejgkffbdaaGreatDoor
open Go.RowKit

theorem trimZ (s : ByteArray) (w : World) :
    Calls Tryz.prog 122 #[.string s, .string ⟨#[0]⟩] w fun e w' => e = .returned (.string ⟨(Lib.trimLeftB s.data.toList 0).toArray⟩) ∧ w = w' :=
  (Tryz.strings_TrimLeft_one s 0 (by decide) w).mono fun _ _ ⟨h, h'⟩ => ⟨h, h'.symm⟩

/-- A reader at block r: what is left, and whether it is short. -/
def IsR (r : Nat) (l : List UInt8) (sh : Bool) (w : World) : Prop := w.heap[r]? = some (.cells #[.string ⟨l.toArray⟩, .bool sh] 179 (0, 0))

theorem IsR.lt {r : Nat} {l : List UInt8} {sh : Bool} {w : World} (h : IsR r l sh w) : r < w.heap.size := (Array.getElem?_eq_some_iff.1 h).1
theorem IsR.kept {X : Nat → Prop} {r : Nat} {l : List UInt8} {sh : Bool} {w w' : World} (h : IsR r l sh w) (hk : KeptIn X w w') (hX : X r) : IsR r l sh w' := (hk.block r hX).trans h

theorem ofW (s : ByteArray) (w : World) :
    Calls Tryz.prog 108 #[.string s] w fun e w' => e = .returned (.pointer (some ⟨w.heap.size, 0, none⟩)) ∧ IsR w.heap.size s.data.toList false w' ∧ KeptIn (· < w.heap.size) w w' := by
  go_enter Tryz.func108, Tryz.ntmps108
  go_wp2
  go_ret
  refine ⟨rfl, ?_, (KeptIn.refl _ _).alloc (fun _ h => h) _⟩
  unfold IsR
  rw [heap_alloc_new, Lib.mk_data]

theorem takeNil (n : Int) (w : World) : Calls Tryz.prog 109 #[.pointer none, .int .i64 n] w fun e w' => e = .returned (.string ⟨#[]⟩) ∧ w = w' := by
  go_enter Tryz.func109, Tryz.ntmps109
  go_wp2
  go_ret
  exact ⟨rfl, rfl⟩

/-- What a reader hands back of n bytes, and what is left. -/
def takeR (n : Int) (l : List UInt8) (sh : Bool) : List UInt8 × List UInt8 × Bool :=
  if n ≤ 0 then ([], l, sh) else if (l.length : Int) < n then ([], [], true) else (l.take n.toNat, l.drop n.toNat, sh)

theorem ext_take (l : List UInt8) (m : Nat) : (⟨l.toArray⟩ : ByteArray).extract 0 m = ⟨(l.take m).toArray⟩ := by
  rw [Lib.extract_eq]
  simp

theorem ext_drop (l : List UInt8) (m : Nat) : (⟨l.toArray⟩ : ByteArray).extract m l.length = ⟨(l.drop m).toArray⟩ := by
  rw [Lib.extract_eq]
  congr 2
  exact List.take_of_length_le (by simp)

theorem takeW (r : Nat) (l : List UInt8) (sh : Bool) (n : Int) (w : World) (h : IsR r l sh w) (hl : l.length ≤ 2147483647) :
    Calls Tryz.prog 109 #[.pointer (some ⟨r, 0, none⟩), .int .i64 n] w fun e w' => e = .returned (.string ⟨(takeR n l sh).1.toArray⟩) ∧ IsR r (takeR n l sh).2.1 (takeR n l sh).2.2 w' ∧ KeptIn (· ≠ r) w w' := by
  have c0 : w.cell? ⟨r, 0, none⟩ = some (.string ⟨l.toArray⟩) := by simp [World.cell?, show w.heap[r]? = _ from h]
  have c1 : w.cell? ⟨r, 1, none⟩ = some (.bool sh) := by simp [World.cell?, show w.heap[r]? = _ from h]
  have f0 : w.frozen? ⟨r, 0, none⟩ = false := by simp [World.frozen?, show w.heap[r]? = _ from h]
  have f1 : w.frozen? ⟨r, 1, none⟩ = false := by simp [World.frozen?, show w.heap[r]? = _ from h]
  have H := Lib.hid h; clear h
  unfold takeR
  by_cases h1 : n ≤ 0
  · rw [if_pos h1]
    go_enter Tryz.func109, Tryz.ntmps109
    go_wp2
    go_ret
    exact ⟨rfl, H.out, .refl _ _⟩
  · rw [if_neg h1]
    by_cases h2 : (l.length : Int) < n
    · rw [if_pos h2]
      go_enter Tryz.func109, Tryz.ntmps109
      go_wp2
      go_ret
      have H' := H.out
      unfold IsR at H'
      refine ⟨rfl, ?_, ((KeptIn.refl _ _).setCell (p := ⟨r, 0, none⟩) (by simp) _).setCell (p := ⟨r, 1, none⟩) (by simp) _⟩
      simp [IsR, World.setCell, Array.getElem?_modify, H']
    · rw [if_neg h2]
      obtain ⟨m, rfl⟩ := Int.eq_ofNat_of_zero_le (show 0 ≤ n by omega)
      have b0 : (0 : Int) ≤ (m : Int) := by omega
      have b1 : (m : Int) ≤ (l.length : Int) := by omega
      have b2 : m ≤ l.length := by omega
      rw [Int.toNat_natCast]
      go_enter Tryz.func109, Tryz.ntmps109
      go_wp2
      go_ret
      have H' := H.out
      unfold IsR at H'
      refine ⟨congrArg (fun s => Ending.returned (Value.string s)) (ext_take l m), ?_, (KeptIn.refl _ _).setCell (p := ⟨r, 0, none⟩) (by simp) _⟩
      simp [IsR, World.setCell, Array.getElem?_modify, H', ext_drop]

theorem zerosNil (w : World) : Calls Tryz.prog 112 #[.pointer none] w fun e w' => e = .returned (.bool false) ∧ w = w' := by
  go_enter Tryz.func112, Tryz.ntmps112
  go_wp2
  go_ret
  exact ⟨rfl, rfl⟩

theorem trim_nil (l : List UInt8) : (Lib.trimLeftB l 0).isEmpty = l.all (· == 0) := by
  unfold Lib.trimLeftB
  induction l with
  | nil => rfl
  | cons x r ih =>
    rw [List.dropWhile_cons]
    split
    · rename_i h; rw [ih]; simp [h]
    · rename_i h; simp [h]

theorem zerosW (r : Nat) (l : List UInt8) (sh : Bool) (w : World) (h : IsR r l sh w) :
    Calls Tryz.prog 112 #[.pointer (some ⟨r, 0, none⟩)] w fun e w' => e = .returned (.bool (l.all (· == 0))) ∧ IsR r [] sh w' ∧ KeptIn (· ≠ r) w w' := by
  have c0 : w.cell? ⟨r, 0, none⟩ = some (.string ⟨l.toArray⟩) := by simp [World.cell?, show w.heap[r]? = _ from h]
  have f0 : w.frozen? ⟨r, 0, none⟩ = false := by simp [World.frozen?, show w.heap[r]? = _ from h]
  have H := Lib.hid h; clear h
  go_enter Tryz.func112, Tryz.ntmps112
  go_wp2_with fail
  refine (trimZ _ _).mono ?_
  rintro e w' ⟨rfl, rfl⟩
  go_wp2
  go_ret
  have H' := H.out
  unfold IsR at H'
  refine ⟨congrArg (fun b => Ending.returned (Value.bool b)) ?_, ?_, (KeptIn.refl _ _).setCell (p := ⟨r, 0, none⟩) (by simp) _⟩
  · exact trim_nil l
  · simp [IsR, World.setCell, Array.getElem?_modify, H']

theorem endNil (w : World) : Calls Tryz.prog 111 #[.pointer none] w fun e w' => e = .returned (.int .i64 2) ∧ w = w' := by
  go_enter Tryz.func111, Tryz.ntmps111
  go_wp2
  go_ret
  exact ⟨rfl, rfl⟩

/-- What End answers. -/
def endOf (l : List UInt8) (sh : Bool) : Int := if (sh || !l.isEmpty) = true then 3 else 0

theorem endW (r : Nat) (l : List UInt8) (sh : Bool) (w : World) (h : IsR r l sh w) :
    Calls Tryz.prog 111 #[.pointer (some ⟨r, 0, none⟩)] w fun e w' => e = .returned (.int .i64 (endOf l sh)) ∧ w = w' := by
  have c0 : w.cell? ⟨r, 0, none⟩ = some (.string ⟨l.toArray⟩) := by simp [World.cell?, show w.heap[r]? = _ from h]
  have c1 : w.cell? ⟨r, 1, none⟩ = some (.bool sh) := by simp [World.cell?, show w.heap[r]? = _ from h]
  clear h
  cases sh
  · cases l with
    | nil =>
      go_enter Tryz.func111, Tryz.ntmps111
      go_wp2
      go_ret
      exact ⟨rfl, rfl⟩
    | cons x r =>
      go_enter Tryz.func111, Tryz.ntmps111
      go_wp2
      go_ret
      exact ⟨rfl, rfl⟩
  · go_enter Tryz.func111, Tryz.ntmps111
    go_wp2
    go_ret
    exact ⟨rfl, rfl⟩

theorem conv_get (t : List UInt8) (w : World) : ∃ cap W, (convert 9 77 (.string ⟨t.toArray⟩)).run Tryz.prog w = .ok (.slice (some ⟨w.heap.size, 0, none⟩) t.length cap) W ∧
    (∀ i b, t[i]? = some b → W.cell? ⟨w.heap.size, i, none⟩ = some (.int .u8 b.toNat)) ∧ KeptIn (· < w.heap.size) w W := by
  refine ⟨_, _, run_bytes_of_string w 9 77 5 ⟨t.toArray⟩ (by kernel_rfl) (by kernel_rfl) (by kernel_rfl), ?_, (KeptIn.refl _ _).drew.alloc (fun _ h => h) _⟩
  · intro i b hb
    obtain ⟨hi, rfl⟩ := List.getElem?_eq_some_iff.1 hb
    have hr := bytesRow_at ⟨t.toArray⟩ (grownCap w (⟨t.toArray⟩ : ByteArray).size 0 5) i (by simpa using hi)
    show World.cell? _ ⟨w.drew.heap.size, i, none⟩ = _
    rw [Lib.cell_of_heap (heap_alloc_new w.drew _)]
    simpa using hr

theorem getWith (p : Option Addr) (size : Int) (w : World) (t : List UInt8) (R : World → Prop) (ht : t.length ≤ 8)
    (hT : Calls Tryz.prog 109 #[.pointer p, .int .i64 (min (max size 1) 8)] w fun e w' => e = .returned (.string ⟨t.toArray⟩) ∧ R w') :
    Calls Tryz.prog 110 #[.pointer p, .int .i64 size] w fun e w' => e = .returned (.int .u64 (numLE t)) ∧ ∃ w1, R w1 ∧ KeptIn (· < w1.heap.size) w1 w' := by
  have H := Lib.hid hT; clear hT
  go_enter Tryz.func110, Tryz.ntmps110
  go_wp2_with fail
  refine (near size _).mono ?_
  rintro e _ ⟨rfl, rfl⟩
  go_wp2_with fail
  refine H.out.mono ?_
  rintro e w1 ⟨rfl, h1⟩
  have HR := Lib.hid h1; clear h1
  obtain ⟨cap, W, hconv, hcells, hk⟩ := conv_get t w1
  have HCells := Lib.hid hcells; clear hcells
  have HK := Lib.hid hk; clear hk
  have hl0 : (0 : Int) ≤ (t.length : Int) := by omega
  have hl8 : (t.length : Int) ≤ 8 := by omega
  go_wp2_with fail
  go_loop [5, 14] (fun n c => ∃ j : Nat, j ≤ t.length ∧ c = .int .i64 j ∧ n = .int .u64 (numLE (t.take j))) (fun _ c => t.length - (intOf c).toNat)
  case atStart => exact ⟨0, Nat.zero_le _, rfl, rfl⟩
  case round =>
    obtain ⟨j, hj, rfl, rfl⟩ := hrel
    by_cases hlt : j < t.length
    · have b0 : (0 : Int) ≤ (j : Int) := by omega
      have b1 : (j : Int) < (t.length : Int) := by omega
      have b2 : (j : Int) < 8 := by omega
      have hcell : W.cell? ⟨w1.heap.size, j, none⟩ = some (.int .u8 (t[j].toNat : Int)) := HCells.out j t[j] (List.getElem?_eq_getElem hlt)
      obtain ⟨x, hx⟩ : ∃ x : Nat, x = t[j].toNat := ⟨_, rfl⟩
      have hx0 : x < 256 := by rw [hx]; exact t[j].toNat_lt
      rw [← hx] at hcell
      have HX := Lib.hid hx; clear hx
      have x0 : (0 : Int) ≤ (x : Int) := by omega
      have x1 : (x : Int) < 256 := by omega
      have hstep : numLE (t.take (j + 1)) = numLE (t.take j) + x * 2 ^ (8 * j) := by
        have := numLE_snoc (t.take j) t[j]
        rw [← List.take_succ_eq_append_getElem hlt, List.length_take, Nat.min_eq_left hj, ← HX.out] at this
        exact this
      have hor := or_step (t.take j) x hx0 (by rw [List.length_take]; omega)
      rw [List.length_take, Nat.min_eq_left hj] at hor
      have HO := Lib.hid hor; have HS := Lib.hid hstep
      clear hor hstep
      go_wp2_with fail
      go_round
      case rel => exact ⟨j + 1, by omega, by go_num, by rw [HO.out, HS.out]⟩
      case measure => simp [intOf]; omega
    · obtain rfl : j = t.length := by omega
      go_wp2_with fail
      go_ret
      exact ⟨rfl, w1, HR.out, HK.out⟩

theorem getNil (size : Int) (w : World) : Calls Tryz.prog 110 #[.pointer none, .int .i64 size] w fun e w' => e = .returned (.int .u64 0) ∧ KeptIn (· < w.heap.size) w w' := by
  refine (getWith none size w [] (w = ·) (by decide) (takeNil _ w)).mono ?_
  rintro e w' ⟨he, w1, rfl, h⟩
  exact ⟨he, h⟩

theorem takeR_le (n : Int) (l : List UInt8) (sh : Bool) (k : Nat) (hn : n ≤ k) : (takeR n l sh).1.length ≤ k := by
  unfold takeR
  split
  · simp
  · split
    · simp
    · simp; omega

theorem getW (X : Nat → Prop) (r : Nat) (l : List UInt8) (sh : Bool) (size : Int) (w : World) (h : IsR r l sh w) (hXr : ¬ X r) (hX : ∀ k, X k → k < w.heap.size) (hl : l.length ≤ 2147483647) :
    Calls Tryz.prog 110 #[.pointer (some ⟨r, 0, none⟩), .int .i64 size] w fun e w' => e = .returned (.int .u64 (numLE (takeR (min (max size 1) 8) l sh).1)) ∧
      IsR r (takeR (min (max size 1) 8) l sh).2.1 (takeR (min (max size 1) 8) l sh).2.2 w' ∧ KeptIn X w w' := by
  refine (getWith _ size w _ _ (takeR_le _ l sh 8 (by omega)) (takeW r l sh _ w h hl)).mono ?_
  rintro e w' ⟨he, w1, ⟨h1, h2⟩, h3⟩
  exact ⟨he, h1.kept h3 h1.lt, (h2.mono (fun k hk e => hXr (e ▸ hk))).trans (h3.mono (fun k hk => Nat.lt_of_lt_of_le (hX k hk) h2.size))⟩

end Go.Proofs.YtkgjmejgkffbdaaGreatDoor
