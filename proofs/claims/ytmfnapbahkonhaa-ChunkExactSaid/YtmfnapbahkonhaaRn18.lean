/- The document's Deck (tierceref18): New. -/
import Derived.Test.YtmfnapbahkonhaaRe18
import Derived.Deep.AppendLies
import Derived.Deep.RegionLaw
set_option linter.unusedVariables false
namespace Go.Proofs.Ytmfnapbahkonhaa
open Go.RowKit

theorem infoStr18 : (Try.prog.info? 9).map (fun i => (i.zero, i.size, i.bytes)) = some (some (.string ByteArray.empty), 1, 16) := by kernel_rfl
theorem secs_next (l : List UInt8) (j : Nat) : secs l (j + 1) = secs l j ++ [nth l j] := by simp [secs, List.range_succ]
theorem grown18 {W w1 : World} {o : Obj} {own : Option Nat} (hg : ((W.alloc o).drew).grownBy w1 own) (k : Nat) (hk : k < W.heap.size) (hne : own ≠ some k) : w1.heap[k]? = W.heap[k]? :=
  (hg.block k (by simp [World.drew]; omega) (fun e => hne e.symm)).trans (Lib.alloc_old W o k hk)

def pairN {α : Type} (a b : α) : Nat → α := fun i => if i = 0 then a else b

/-- A sector was appended to a row. -/
theorem IsU18.push {B u sz t gg cap : Nat} {V : Nat → Value} {F : Nat → List (List UInt8)} {W w1 : World} {x : List UInt8} (h : IsU18 B u sz V F W) (ht : t < 2)
    (hblk : ∀ k, k < W.heap.size → (V t).ownBlock ≠ some k → w1.heap[k]? = W.heap[k]?) (hat : (V t).ownBlock = some gg ∨ gg = W.heap.size + 1)
    (hown : w1.ownsRow B 9 1 (.slice (some ⟨gg, 0, none⟩) ((F t).length + 1) cap) ((F t).length + 1) ((F t).map strV ++ [strV x])) :
    IsU18 B u sz (upN V t (.slice (some ⟨gg, 0, none⟩) ((F t).length + 1) cap)) (upN F t (F t ++ [x])) (w1.setCell ⟨u, t, none⟩ (.slice (some ⟨gg, 0, none⟩) ((F t).length + 1) cap)) := by
  have hu1 := (hblk u h.lt (h.nb ht)).trans h.hu
  have hgu : gg ≠ u := by
    rintro rfl
    rcases hat with e | e
    · exact h.nb ht e
    · have := h.lt; omega
  have hk : KeptIn (· ≠ u) w1 (w1.setCell ⟨u, t, none⟩ (.slice (some ⟨gg, 0, none⟩) ((F t).length + 1) cap)) := (KeptIn.refl _ w1).setCell (by simp) _
  refine ⟨?_, h.hB, fun i hi => ?_, fun g e1 e2 => ?_⟩
  · rw [heap_setCell_same _ _ _ _ _ _ hu1]
    rcases (by omega : t = 0 ∨ t = 1) with rfl | rfl <;> rfl
  · by_cases e : i = t
    · subst e
      rw [upN_self, upN_self]
      refine rowA_block ?_ fun g e2 => hk.block g ?_
      · rw [List.length_append, List.map_append]
        exact hown
      · have : gg = g := by simpa [Value.ownBlock] using e2
        omega
    · rw [upN_ne _ _ _ _ e, upN_ne _ _ _ _ e]
      refine rowA_block (rowA_block (h.row i hi) fun g e2 => hblk g (rowA_at (h.row i hi) g e2).2.1 fun e3 => h.two ht hi e g e3 e2) fun g e2 => hk.block g ?_
      rintro rfl
      exact h.nb hi e2
  · have hx : ∀ i, i < 2 → i ≠ t → (V i).ownBlock ≠ some gg := fun i hi hn e => by
      rcases hat with e3 | e3
      · exact h.two ht hi hn gg e3 e
      · have := (rowA_at (h.row i hi) gg e).2.1
        omega
    rcases (by omega : t = 0 ∨ t = 1) with rfl | rfl
    · rw [upN_self] at e1
      rw [upN_ne _ _ _ _ (by decide)] at e2
      have : gg = g := by simpa [Value.ownBlock] using e1
      subst this
      exact hx 1 (by decide) (by decide) e2
    · rw [upN_self] at e2
      rw [upN_ne _ _ _ _ (by decide)] at e1
      have : gg = g := by simpa [Value.ownBlock] using e2
      subst this
      exact hx 0 (by decide) (by decide) e1
theorem IsU18.of {B u sz : Nat} {V : Nat → Value} {F G : Nat → List (List UInt8)} {W : World} (h : IsU18 B u sz V F W) (hF : ∀ t, t < 2 → G t = F t) : IsU18 B u sz V G W :=
  ⟨h.hu, h.hB, fun t ht => by rw [hF t ht]; exact h.row t ht, h.ne⟩
theorem upN_pair0 {α : Type} (a b x : α) : ∀ t, t < 2 → pairN x b t = upN (pairN a b) 0 x t := fun t ht => by
  rcases (by omega : t = 0 ∨ t = 1) with rfl | rfl <;> rfl
theorem upN_pair1 {α : Type} (a b x : α) : ∀ t, t < 2 → pairN a x t = upN (pairN a b) 1 x t := fun t ht => by
  rcases (by omega : t = 0 ∨ t = 1) with rfl | rfl <;> rfl

set_option maxHeartbeats 2000000 in
set_option maxRecDepth 100000 in
theorem r18New (l0 l1 : List UInt8) (n0 n1 sz : Nat) (w : World) (hl0 : l0.length ≤ 480) (hl1 : l1.length ≤ 480) (hn0 : n0 = l0.length / 16) (hn1 : n1 = l1.length / 16) :
    Calls Try.prog 11 #[.string ⟨l0.toArray⟩, .string ⟨l1.toArray⟩, .int .i64 (sz : Int)] w fun e w' => e = .returned (.pointer (some ⟨w.heap.size, 0, none⟩)) ∧ ∃ V, IsU18 w.heap.size w.heap.size sz V (pairN (secs l0 n0) (secs l1 n1)) w' ∧ KeptIn (· < w.heap.size) w w' := by
  obtain ⟨is, his, hs0, hs1, hs2⟩ := info_parts infoStr18
  have hl0I : (l0.length : Int) ≤ 480 := by omega
  have hl1I : (l1.length : Int) ≤ 480 := by omega
  have HL : Hid (n0 = l0.length / 16 ∧ l0.length ≤ 480 ∧ n1 = l1.length / 16 ∧ l1.length ≤ 480) := Lib.hid ⟨hn0, hl0, hn1, hl1⟩
  obtain ⟨B, hB⟩ : ∃ B, w.heap.size = B := ⟨_, rfl⟩
  rw [hB]
  have HB := Lib.hid hB
  clear hl0 hl1 hn0 hn1
  go_enter Try.func11, Try.ntmps11
  go_wp2_with fail
  have HJ0 : Hid (IsU18 B B sz (fun _ => .slice none 0 0) (pairN (secs l0 0) (secs l1 0)) (w.alloc (.cells #[.slice none 0 0, .slice none 0 0, .int .i64 (sz : Int)] 57)) ∧ KeptIn (· < B) w (w.alloc (.cells #[.slice none 0 0, .slice none 0 0, .int .i64 (sz : Int)] 57))) :=
    Lib.hid ⟨⟨by rw [← hB]; exact heap_alloc_new w _, Nat.le_refl _, fun t ht => by
      rcases (by omega : t = 0 ∨ t = 1) with rfl | rfl
      · exact ⟨rfl, .inl ⟨rfl, rfl⟩⟩
      · exact ⟨rfl, .inl ⟨rfl, rfl⟩⟩, fun g h => by cases h⟩, (KeptIn.refl _ w).alloc (fun k hk => by rw [hB]; exact hk) _⟩
  clear hB
  go_loopw [8] (fun c wr => ∃ (j : Nat) (V : Nat → Value) (W : World), W = wr ∧ j ≤ n0 ∧ c = .int .i64 ((16 * j : Nat) : Int) ∧ Hid (IsU18 B B sz V (pairN (secs l0 j) (secs l1 0)) W ∧ KeptIn (· < B) w W)) (fun c _ => l0.length + 16 - (RowKit.intOf c).toNat)
  case atStart => exact ⟨0, _, _, rfl, Nat.zero_le _, rfl, HJ0⟩
  case round =>
    clear HJ0
    obtain ⟨j, V, W, rfl, hj, rfl, HJ⟩ := hrel
    have hb := HJ.out.1
    obtain ⟨an, cn, hv, _⟩ := hb.shape (t := 0) (by decide)
    have c0 : W.cell? ⟨B, 0, none⟩ = some (V 0) := hb.cv (by decide)
    have hlen : (pairN (secs l0 j) (secs l1 0) 0).length = j := secs_length l0 j
    rw [hlen] at hv
    rw [hv] at c0
    obtain ⟨k, hkk⟩ : ∃ k, 16 * j = k := ⟨_, rfl⟩
    rw [hkk]
    have hj30 : j ≤ 30 := by have := HL.out; omega
    have i0 : (0 : Int) ≤ (k : Int) := by omega
    have e1 : wrap64 ((k : Int) + 16) = ((k + 16 : Nat) : Int) := by unfold wrap64; omega
    obtain ⟨k2, hk2⟩ : ∃ k2, k + 16 = k2 := ⟨_, rfl⟩
    rw [hk2] at e1
    have e2 : IntKind.i64.wrap ((k : Int) + 16) = (k2 : Int) := by rw [IntKind.wrap_i64]; omega
    by_cases hlt : k2 ≤ l0.length
    · have i1 : (k2 : Int) ≤ (l0.length : Int) := by omega
      have i2 : (k : Int) ≤ (k2 : Int) := by omega
      have i3 : (j : Int) < 16384 := by omega
      have hex : (⟨l0.toArray⟩ : ByteArray).extract k k2 = ⟨(nth l0 j).toArray⟩ := by
        rw [subB l0 k k2 (by omega) hlt, ← hk2, ← hkk, show 16 * j + 16 - 16 * j = 16 by omega]
        rfl
      have hjn : j < n0 := by have := HL.out; omega
      have HSS := Lib.hid (secs_next l0 j)
      obtain ⟨x, hx⟩ : ∃ x, nth l0 j = x := ⟨_, rfl⟩
      rw [hx] at hex HSS
      have HK : Hid (16 * j = k ∧ k + 16 = k2) := Lib.hid ⟨hkk, hk2⟩
      have f0 : W.frozen? ⟨B, 0, none⟩ = false := hb.fz 0
      have hrn := hb.row 0 (by decide)
      rw [hlen, hv] at hrn
      have hneB : (Value.slice an j cn).ownBlock ≠ some B := by rw [← hv]; exact hb.nb (t := 0) (by decide)
      have hBW : B < W.heap.size := hb.lt
      have HB1 : Hid (∀ w1, ((W.alloc (.cells #[.string ⟨x.toArray⟩] 9)).drew).grownBy w1 (Value.slice an j cn).ownBlock → w1.cell? ⟨B, 0, none⟩ = some (.slice an j cn) ∧ w1.frozen? ⟨B, 0, none⟩ = false) := Lib.hid fun w1 hg => by
        have h1 := grown18 hg B hBW hneB
        exact ⟨(World.cell?_of_block (a := ⟨B, 0, none⟩) h1).trans c0, (World.frozen?_of_block (a := ⟨B, 0, none⟩) h1).trans f0⟩
      have HV := Lib.hid (And.intro hv hlen)
      have hk := HJ.out.2
      clear hx hkk hk2 hneB hv hlen
      go_wp2_with fail
      go_region_law (refine step_append_lies _ (by rfl) _ _ 54 (by rfl) B 9 is _ 1 16 Try.underlying54 his hs0 hs1 hs2 rfl (by omega) (.slice an j cn) j _ (by rfl) ((hrn.alloc _).drew) ⟨W.heap.size, 0, none⟩ 1 1 [.string ⟨x.toArray⟩] (by rfl) (by rfl) (World.news_of_block (cs := #[.string ⟨x.toArray⟩]) (t := 9) (fr := (0, 0)) (heap_alloc_new W _)) (by simp [Value.oneCell']) (by omega) (by unfold maxLen; omega) (by omega) (by simp; omega) (W.heap.size + 1) (by simp) ?_; intro gg cap w1 hown1 hgrow hat hlt1; obtain ⟨d0, df⟩ := HB1.out w1 hgrow)
      all_goals
        have hp := hb.push (t := 0) (gg := gg) (cap := cap) (x := x) (w1 := w1) (by decide) (fun k hk h2 => grown18 hgrow k hk (by rw [← HV.out.1]; exact h2)) (by rw [HV.out.1]; exact hat) (by rw [HV.out.2]; exact hown1)
        rw [HV.out.2] at hp
        have hp := hp.of (upN_pair0 _ _ _)
        have HJ2 : Hid (IsU18 B B sz (upN V 0 (.slice (some ⟨gg, 0, none⟩) (j + 1) cap)) (pairN (secs l0 (j + 1)) (secs l1 0)) (w1.setCell ⟨B, 0, none⟩ (.slice (some ⟨gg, 0, none⟩) (j + 1) cap)) ∧ KeptIn (· < B) w (w1.setCell ⟨B, 0, none⟩ (.slice (some ⟨gg, 0, none⟩) (j + 1) cap))) := Lib.hid ⟨by rw [HSS.out]; exact hp, ((hk.alloc (fun k hk => by rw [HB.out]; exact hk) _).drew.grown (fun k hk => by rw [HB.out]; exact hk) hgrow (fun g' hg' hlt' => by have := (rowA_at hrn g' hg').1; omega)).setCell (p := ⟨B, 0, none⟩) (Nat.lt_irrefl B) _⟩
        clear hp hown1 hgrow hat hb hrn HB1 hk d0 df c0 f0 HJ
        go_wp2_with fail
        go_roundw
        case rel => exact ⟨j + 1, _, _, rfl, by omega, by have := HK.out; go_num, HJ2⟩
        case measure => have := HK.out; simp [RowKit.intOf]; omega
    · obtain rfl : n0 = j := by have := HL.out; omega
      have hlt' : (l0.length : Int) < (k2 : Int) := by omega
      have hld : decide (k2 ≤ l0.length) = false := by simp; omega
      clear hlt hb hv hlen c0 e2 hkk hk2
      go_wp2_with fail
      go_loopw [9] (fun c wr => ∃ (j : Nat) (V : Nat → Value) (W : World), W = wr ∧ j ≤ n1 ∧ c = .int .i64 ((16 * j : Nat) : Int) ∧ Hid (IsU18 B B sz V (pairN (secs l0 n0) (secs l1 j)) W ∧ KeptIn (· < B) w W)) (fun c _ => l1.length + 16 - (RowKit.intOf c).toNat)
      case atStart => exact ⟨0, _, _, rfl, Nat.zero_le _, rfl, HJ⟩
      case round =>
        clear HJ hj hlt' hld e1 i0 hj30
        obtain ⟨j, V, W, rfl, hj, rfl, HJ⟩ := hrel
        have hb := HJ.out.1
        obtain ⟨an, cn, hv, _⟩ := hb.shape (t := 1) (by decide)
        have c0 : W.cell? ⟨B, 1, none⟩ = some (V 1) := hb.cv (by decide)
        have hlen : (pairN (secs l0 n0) (secs l1 j) 1).length = j := secs_length l1 j
        rw [hlen] at hv
        rw [hv] at c0
        obtain ⟨k, hkk⟩ : ∃ k, 16 * j = k := ⟨_, rfl⟩
        rw [hkk]
        have hj30 : j ≤ 30 := by have := HL.out; omega
        have i0 : (0 : Int) ≤ (k : Int) := by omega
        have e1 : wrap64 ((k : Int) + 16) = ((k + 16 : Nat) : Int) := by unfold wrap64; omega
        obtain ⟨k2, hk2⟩ : ∃ k2, k + 16 = k2 := ⟨_, rfl⟩
        rw [hk2] at e1
        have e2 : IntKind.i64.wrap ((k : Int) + 16) = (k2 : Int) := by rw [IntKind.wrap_i64]; omega
        by_cases hlt : k2 ≤ l1.length
        · have i1 : (k2 : Int) ≤ (l1.length : Int) := by omega
          have i2 : (k : Int) ≤ (k2 : Int) := by omega
          have i3 : (j : Int) < 16384 := by omega
          have hex : (⟨l1.toArray⟩ : ByteArray).extract k k2 = ⟨(nth l1 j).toArray⟩ := by
            rw [subB l1 k k2 (by omega) hlt, ← hk2, ← hkk, show 16 * j + 16 - 16 * j = 16 by omega]
            rfl
          have hjn : j < n1 := by have := HL.out; omega
          have HSS := Lib.hid (secs_next l1 j)
          obtain ⟨x, hx⟩ : ∃ x, nth l1 j = x := ⟨_, rfl⟩
          rw [hx] at hex HSS
          have HK : Hid (16 * j = k ∧ k + 16 = k2) := Lib.hid ⟨hkk, hk2⟩
          have f0 : W.frozen? ⟨B, 1, none⟩ = false := hb.fz 1
          have hrn := hb.row 1 (by decide)
          rw [hlen, hv] at hrn
          have hneB : (Value.slice an j cn).ownBlock ≠ some B := by rw [← hv]; exact hb.nb (t := 1) (by decide)
          have hBW : B < W.heap.size := hb.lt
          have HB1 : Hid (∀ w1, ((W.alloc (.cells #[.string ⟨x.toArray⟩] 9)).drew).grownBy w1 (Value.slice an j cn).ownBlock → w1.cell? ⟨B, 1, none⟩ = some (.slice an j cn) ∧ w1.frozen? ⟨B, 1, none⟩ = false) := Lib.hid fun w1 hg => by
            have h1 := grown18 hg B hBW hneB
            exact ⟨(World.cell?_of_block (a := ⟨B, 1, none⟩) h1).trans c0, (World.frozen?_of_block (a := ⟨B, 1, none⟩) h1).trans f0⟩
          have HV := Lib.hid (And.intro hv hlen)
          have hk := HJ.out.2
          clear hx hkk hk2 hneB hv hlen
          go_wp2_with fail
          go_region_law (refine step_append_lies _ (by rfl) _ _ 54 (by rfl) B 9 is _ 1 16 Try.underlying54 his hs0 hs1 hs2 rfl (by omega) (.slice an j cn) j _ (by rfl) ((hrn.alloc _).drew) ⟨W.heap.size, 0, none⟩ 1 1 [.string ⟨x.toArray⟩] (by rfl) (by rfl) (World.news_of_block (cs := #[.string ⟨x.toArray⟩]) (t := 9) (fr := (0, 0)) (heap_alloc_new W _)) (by simp [Value.oneCell']) (by omega) (by unfold maxLen; omega) (by omega) (by simp; omega) (W.heap.size + 1) (by simp) ?_; intro gg cap w1 hown1 hgrow hat hlt1; obtain ⟨d0, df⟩ := HB1.out w1 hgrow)
          all_goals
            have hp := hb.push (t := 1) (gg := gg) (cap := cap) (x := x) (w1 := w1) (by decide) (fun k hk h2 => grown18 hgrow k hk (by rw [← HV.out.1]; exact h2)) (by rw [HV.out.1]; exact hat) (by rw [HV.out.2]; exact hown1)
            rw [HV.out.2] at hp
            have hp := hp.of (upN_pair1 _ _ _)
            have HJ2 : Hid (IsU18 B B sz (upN V 1 (.slice (some ⟨gg, 0, none⟩) (j + 1) cap)) (pairN (secs l0 n0) (secs l1 (j + 1))) (w1.setCell ⟨B, 1, none⟩ (.slice (some ⟨gg, 0, none⟩) (j + 1) cap)) ∧ KeptIn (· < B) w (w1.setCell ⟨B, 1, none⟩ (.slice (some ⟨gg, 0, none⟩) (j + 1) cap))) := Lib.hid ⟨by rw [HSS.out]; exact hp, ((hk.alloc (fun k hk => by rw [HB.out]; exact hk) _).drew.grown (fun k hk => by rw [HB.out]; exact hk) hgrow (fun g' hg' hlt' => by have := (rowA_at hrn g' hg').1; omega)).setCell (p := ⟨B, 1, none⟩) (Nat.lt_irrefl B) _⟩
            clear hp hown1 hgrow hat hb hrn HB1 hk d0 df c0 f0 HJ
            go_wp2_with fail
            go_roundw
            case rel => exact ⟨j + 1, _, _, rfl, by omega, by have := HK.out; go_num, HJ2⟩
            case measure => have := HK.out; simp [RowKit.intOf]; omega
        · obtain rfl : n1 = j := by have := HL.out; omega
          have hlt' : (l1.length : Int) < (k2 : Int) := by omega
          have hld : decide (k2 ≤ l1.length) = false := by simp; omega
          clear hlt hb hv hlen c0 e2 hkk hk2
          go_wp2
          go_ret
          exact ⟨rfl, _, HJ.out⟩

end Go.Proofs.Ytmfnapbahkonhaa
