/- The document's rows of chunks and owners: Of, Remove. -/
import Derived.Test.YtononiedecpllaaRp13
import Derived.Test.YtononiedecpllaaOk13
set_option linter.unusedVariables false
namespace Go.Proofs.Ytononiedecpllaa
open Go.RowKit

/-- A row of owners that a call makes since block B. -/
def EoJ (B : Nat) (V : World) (out : List Ow) (v : Value) (W : World) : Prop := RowO W B v out ∧ KeptIn (· < B) V W
def EnJ (B : Nat) (V : World) (out : List On) (v : Value) (W : World) : Prop := RowN W B v out ∧ KeptIn (· < B) V W
section
variable {B : Nat} {V W W' w8 : World} {v v' : Value} {ob : Obj}
theorem EoJ.old {out : List Ow} (h : EoJ B V out v W) (hB : B ≤ W.heap.size) (hk : KeptIn (· < W.heap.size) W W') : EoJ B V out v W' :=
  ⟨h.1.old hk, h.2.trans (hk.mono fun k hk' => Nat.lt_of_lt_of_le hk' hB)⟩
theorem EnJ.old {out : List On} (h : EnJ B V out v W) (hB : B ≤ W.heap.size) (hk : KeptIn (· < W.heap.size) W W') : EnJ B V out v W' :=
  ⟨h.1.old hk, h.2.trans (hk.mono fun k hk' => Nat.lt_of_lt_of_le hk' hB)⟩
theorem EoJ.next {out : List Ow} {o : Ow} (h : EoJ B V out v W) (hB : V.heap.size = B) (hown : w8.ownsRow B 31 3 v' (out.length + 1) (cellsO out ++ [.int .i64 o.vol, .int .i64 o.bir, .int .i64 o.pos]))
    (hgrow : (W.alloc ob).grownBy w8 v.ownBlock) : EoJ B V (out ++ [o]) v' w8 := by
  refine ⟨?_, ?_⟩
  · unfold RowO
    rw [List.length_append, cellsO_append]; exact hown
  · exact (h.2.trans (((KeptIn.refl _ W).alloc (fun _ h => h) _).mono fun k hk => Nat.lt_of_lt_of_le (by rw [hB]; exact hk) h.2.size)).grown (fun k hk => by rw [hB]; exact hk) hgrow (fun g e => Nat.not_lt.2 (h.1.lt e).1)
theorem EnJ.next {out : List On} {o : On} (h : EnJ B V out v W) (hB : V.heap.size = B) (hown : w8.ownsRow B 35 4 v' (out.length + 1) (cellsN out ++ [.int .i64 o.ch, .int .i64 o.ow.vol, .int .i64 o.ow.bir, .int .i64 o.ow.pos]))
    (hgrow : (W.alloc ob).grownBy w8 v.ownBlock) : EnJ B V (out ++ [o]) v' w8 := by
  refine ⟨?_, ?_⟩
  · unfold RowN
    rw [List.length_append, cellsN_append]; exact hown
  · exact (h.2.trans (((KeptIn.refl _ W).alloc (fun _ h => h) _).mono fun k hk => Nat.lt_of_lt_of_le (by rw [hB]; exact hk) h.2.size)).grown (fun k hk => by rw [hB]; exact hk) hgrow (fun g e => Nat.not_lt.2 (h.1.lt e).1)
theorem EoJ.zero (w : World) : EoJ w.heap.size w [] (.slice (some ⟨w.heap.size, 0, none⟩) 0 0) (w.alloc (.cells #[] 31)) :=
  ⟨⟨rfl, .inr ⟨w.heap.size, 0, #[], rfl, Nat.le_refl _, heap_alloc_new _ _, Nat.le_refl _, Nat.zero_le _, rfl, rfl⟩⟩, (KeptIn.refl _ w).alloc (fun _ h => h) _⟩
theorem EnJ.zero (w : World) : EnJ w.heap.size w [] (.slice (some ⟨w.heap.size, 0, none⟩) 0 0) (w.alloc (.cells #[] 35)) :=
  ⟨⟨rfl, .inr ⟨w.heap.size, 0, #[], rfl, Nat.le_refl _, heap_alloc_new _ _, Nat.le_refl _, Nat.zero_le _, rfl, rfl⟩⟩, (KeptIn.refl _ w).alloc (fun _ h => h) _⟩
end
theorem en_bnd {j : Nat} (h : j ≤ 1000) : j + 1 ≤ maxLen ∧ (j + 1) * 24 ≤ 140737488355328 ∧ (j + 1) * 32 ≤ 140737488355328 := by
  refine ⟨?_, by omega, by omega⟩
  unfold maxLen
  omega

/-- What a call leaves that answers a new row. -/
def NewN (w : World) (l : List On) (e : Ending) (w' : World) : Prop := ∃ v, e = .returned v ∧ RowN w' w.heap.size v l ∧ KeptIn (· < w.heap.size) w w'

set_option maxHeartbeats 1000000 in
set_option maxRecDepth 100000 in
theorem rOf (a : Option Addr) (cap : Nat) (l : List On) (c : Int) (B0 : Nat) (w : World) (h : RowN w B0 (.slice a l.length cap) l) (hl : l.length ≤ 1000) :
    Calls Try.prog 13 #[.slice a l.length cap, .int .i64 c] w (CloneO w (ofN l c)) := by
  obtain ⟨n, hn⟩ : ∃ n, l.length = n := ⟨_, rfl⟩
  obtain ⟨B, hB⟩ : ∃ B, w.heap.size = B := ⟨_, rfl⟩
  obtain ⟨W0, hW⟩ : ∃ W, w.alloc (.cells #[] 31) = W := ⟨_, rfl⟩
  have h0 := EoJ.zero w
  rw [hW, hB] at h0
  have HJ0 : Hid (EoJ B w (ofN (l.take 0) c) (.slice (some ⟨B, 0, none⟩) 0 0) W0) := Lib.hid h0
  rw [hn] at h hl ⊢
  have m0 : (n : Int) ≤ 1000 := by omega
  have H := Lib.hid h
  have HN := Lib.hid hn
  have HW := Lib.hid (And.intro hW hB)
  obtain ⟨ii, hii, hz0, hz1, hz2⟩ := info_parts infoOw
  clear h hn hW hB h0
  go_enter Try.func13, Try.ntmps13
  go_upto_region 2 with fail
  rw [HW.out.1, HW.out.2]
  go_wp2_with fail
  go_loopw [5, 6] (fun v i wr => ∃ (j : Nat) (W : World) (v0 : Value), W = wr ∧ v0 = v ∧ j ≤ n ∧ i = .int .i64 (j : Int) ∧ Hid (EoJ B w (ofN (l.take j) c) v0 W)) (fun _ i _ => n - (RowKit.intOf i).toNat)
  case atStart => exact ⟨0, _, _, rfl, rfl, Nat.zero_le _, rfl, HJ0⟩
  case round =>
    obtain ⟨j, W, v0, rfl, rfl, hj, rfl, HJ⟩ := hrel
    clear HJ0
    by_cases hlt : j < n
    · have d0 : (0 : Int) ≤ (j : Int) := by omega
      have d1 : (j : Int) < (n : Int) := by omega
      obtain ⟨y, hy⟩ : ∃ y, l[j]? = some y := ⟨_, List.getElem?_eq_getElem (by rw [HN.out]; exact hlt)⟩
      have hBW : B ≤ W.heap.size := by have := HJ.out.2.size; rw [HW.out.2] at this; exact this
      have hkw := HJ.out.2
      rw [← HW.out.2] at hkw
      obtain ⟨g, rfl, hg, c0, c1, c2, c3⟩ := (H.out.old hkw).at hy
      have hnx := ofN_take hy c
      obtain ⟨m, hm⟩ : ∃ m, (ofN (l.take j) c).length = m := ⟨_, rfl⟩
      have hmb : m ≤ 1000 := by
        have h1 := ofN_length (l.take j) c
        rw [List.length_take] at h1
        omega
      have hrow : W.ownsRow B 31 3 v0 m (cellsO (ofN (l.take j) c)) := by rw [← hm]; exact HJ.out.1
      have HRW := Lib.hid hrow
      have HM := Lib.hid hm
      obtain ⟨hb1, hb2, _⟩ := en_bnd hmb
      obtain ⟨yc, yv, yb, yp⟩ := y
      dsimp only at c0 c1 c2 c3 hnx
      clear hkw hy hg hm hmb hrow
      by_cases he : yc = c
      · subst he
        rw [if_pos rfl] at hnx
        have HNX := Lib.hid hnx
        have b1 : (yc == yc) = true := by simp
        clear hnx
        go_wp2_with (first
          | (at_builtin; refine wpList_append_own _ rfl _ _ 42 rfl B 31 ii _ 3 24 Try.underlying42 hii hz0 hz1 hz2 rfl (by decide) _ _ _ rfl (HRW.out.alloc _) ⟨W.heap.size, 0, none⟩ 1 1 [.int .i64 yv, .int .i64 yb, .int .i64 yp] rfl rfl (World.news_of_block (cs := #[.int .i64 yv, .int .i64 yb, .int .i64 yp]) (t := 31) (fr := (0, 0)) (heap_alloc_new W _)) (by simp [Value.oneCell']) hb1 hb2 (by rw [World.size_alloc]; exact Nat.le_succ_of_le hBW) ?_))
        intro v' w8 hown hgrow _
        have HJ2 : Hid (EoJ B w (ofN (l.take (j + 1)) yc) v' w8) := Lib.hid (by
          rw [HNX.out]
          exact HJ.out.next (o := ⟨yv, yb, yp⟩) HW.out.2 (by rw [HM.out]; exact hown) hgrow)
        clear hown hgrow HJ hb1 hb2 c0 c1 c2 c3 HRW
        go_wp2_with fail
        go_roundw
        case rel => exact ⟨j + 1, _, _, rfl, rfl, by omega, by go_num, HJ2⟩
        case measure => simp only [RowKit.intOf]; omega
      · rw [if_neg he, List.append_nil] at hnx
        have b1 : (yc == c) = false := by rw [beq_eq_false_iff_ne]; exact he
        have HJ2 : Hid (EoJ B w (ofN (l.take (j + 1)) c) v0 W) := Lib.hid (by rw [hnx]; exact HJ.out)
        clear hnx HJ hb1 hb2 HRW
        go_wp2_with fail
        go_roundw
        case rel => exact ⟨j + 1, _, _, rfl, rfl, by omega, by go_num, HJ2⟩
        case measure => simp only [RowKit.intOf]; omega
    · have d1 : ¬ (j : Int) < (n : Int) := by omega
      have HE := Lib.hid HJ.out
      rw [List.take_of_length_le (by rw [HN.out]; omega)] at HE
      clear HJ
      go_wp2_with fail
      go_ret
      refine ⟨_, rfl, ?_⟩
      rw [HW.out.2]
      exact HE.out

end Go.Proofs.Ytononiedecpllaa
