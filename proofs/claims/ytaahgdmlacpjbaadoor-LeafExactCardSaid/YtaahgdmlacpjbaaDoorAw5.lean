/- awake of the statements of layer 5: it returns true and leaves all that was there. -/
import Derived.Test.YtaahgdmlacpjbaaDoorLf4
import Derived.Test.YtaahgdmlacpjbaaDoorLf6
import Derived.Test.YtaahgdmlacpjbaaDoorRef5c
set_option linter.unusedVariables false
namespace Go.Proofs.YtaahgdmlacpjbaaDoor
open Go.RowKit

theorem Tab.old {w w' : World} (h : Tab w) (hk : KeptIn (· < w.heap.size) w w') : Tab w' := h.kept hk h.lt
theorem KeptIn.step {w V W : World} (h : KeptIn (· < w.heap.size) w V) (k : KeptIn (· < V.heap.size) V W) : KeptIn (· < w.heap.size) w W := h.trans (k.mono fun _ hk => Nat.lt_of_lt_of_le hk h.size)

/-- Two pairs in a row of their own. -/
theorem two_ps (w : World) : IsPs (w.alloc (.cells #[.int .u64 5, .int .u64 1, .int .u64 9, .int .u64 2] 39)) (some ⟨w.heap.size, 0, none⟩) [(5, 1), (9, 2)] := by
  refine ⟨by decide, (fun p hp => ?_), fun _ => ⟨w.heap.size, 0, rfl, by simp, fun i hi => ?_⟩⟩
  · simp at hp
    rcases hp with rfl | rfl <;> exact ⟨by decide, by decide⟩
  · have hb := heap_alloc_new w (.cells #[.int .u64 5, .int .u64 1, .int .u64 9, .int .u64 2] 39)
    rw [cell_of_row _ _ _ _ _ _ hb, cell_of_row _ _ _ _ _ _ hb]
    match i, hi with
    | 0, _ => exact ⟨rfl, rfl⟩
    | 1, _ => exact ⟨rfl, rfl⟩

set_option maxHeartbeats 1000000 in
set_option maxRecDepth 100000 in
theorem awake5 (w : World) (hT : Tab w) : Calls Tryd.prog 6 #[] w fun e w' => e = .returned (.bool true) ∧ KeptIn (· < w.heap.size) w w' := by
  obtain ⟨W0, hW0⟩ : ∃ W0, w.alloc (.cells #[.int .u64 5, .int .u64 1, .int .u64 9, .int .u64 2] 39) = W0 := ⟨_, rfl⟩
  have hp0 := two_ps w
  rw [hW0] at hp0
  have hk0 : KeptIn (· < w.heap.size) w W0 := by rw [← hW0]; exact (KeptIn.refl _ _).alloc (fun _ h => h) _
  obtain ⟨g, hg⟩ : ∃ g, w.heap.size = g := ⟨_, rfl⟩
  obtain ⟨W1, hW1⟩ : ∃ W1, W0.alloc (.cells #[.int .i64 0, .slice (some ⟨g, 0, none⟩) 2 2] 24) = W1 := ⟨_, rfl⟩
  rw [hg] at hp0
  have hk01 : KeptIn (· < W0.heap.size) W0 W1 := by rw [← hW1]; exact (KeptIn.refl _ _).alloc (fun _ h => h) _
  have hk1 := hk0.step hk01
  have hp1 := hp0.old hk01
  obtain ⟨x, hx⟩ : ∃ x, W0.heap.size = x := ⟨_, rfl⟩
  have hb1 : BoxL x 0 (some ⟨g, 0, none⟩) 2 2 W1 := by rw [← hW1, ← hx]; exact BoxL.new W0 0 _ 2 2
  obtain ⟨s, hs⟩ : ∃ s, bytesN 0 [(5, 1), (9, 2)] = s := ⟨_, rfl⟩
  have hgood : goodN 0 [(5, 1), (9, 2)] = true := by decide
  have hr := read_bytes hgood hp1.fits
  have hlen := bytesN_length 0 [(5, 1), (9, 2)] (by decide)
  have h5 : (bytesN 0 [(5, 1), (9, 2)]).take 5 = [76, 0, 2, 0, 5] := by rw [bytesN_parts]; rfl
  have hT1 := hT.old hk1
  have CB := lfBytesOk 0 (some ⟨g, 0, none⟩) 2 [(5, 1), (9, 2)] W1 hT1 hp1 hgood
  rw [hs] at CB hr hlen h5
  have hrR : lvR s = 0 ∧ psR s = [(5, 1), (9, 2)] := ⟨by rw [(is_isN hr.1).1]; exact hr.2.1, by rw [(is_isN hr.1).2]; exact hr.2.2⟩
  have CR := Lib.hid fun V (hk : KeptIn (· < W1.heap.size) W1 V) => lfRead s V (hT1.old hk) (by omega)
  unfold ReadL at CR
  simp only [hr.1, hrR.1, hrR.2, if_true] at CR
  have CF := Lib.hid fun V (hk : KeptIn (· < W1.heap.size) W1 V) => lfFind 0 (some ⟨g, 0, none⟩) 2 [(5, 1), (9, 2)] 9 V (hp1.old hk) (by decide) (by decide)
  have CC8 := Lib.hid fun V (hk : KeptIn (· < W1.heap.size) W1 V) => lfChild 0 (some ⟨g, 0, none⟩) 2 [(5, 1), (9, 2)] 8 V (hp1.old hk) (by decide)
  have CC4 := Lib.hid fun V (hk : KeptIn (· < W1.heap.size) W1 V) => lfChild 0 (some ⟨g, 0, none⟩) 2 [(5, 1), (9, 2)] 4 V (hp1.old hk) (by decide)
  have CS := Lib.hid fun V a cap (hk : KeptIn (· < W1.heap.size) W1 V) (ha : IsPs V a [(5, 1), (9, 2)]) => r5Same 0 0 (some ⟨g, 0, none⟩) a 2 cap [(5, 1), (9, 2)] [(5, 1), (9, 2)] V (hp1.old hk) ha
  simp only [show belowK [(5, 1), (9, 2)] 9 = 1 by decide, show hasK [(5, 1), (9, 2)] 9 = true by decide] at CF
  simp only [show uptoK [(5, 1), (9, 2)] 8 = 1 by decide] at CC8
  simp only [show uptoK [(5, 1), (9, 2)] 4 = 0 by decide] at CC4
  simp only [show ([(5, 1), (9, 2)] : Pairs).length = 2 from rfl] at CB CR CF CC8 CC4 CS
  unfold leafV at CB CR CF CC8 CC4 CS
  have hl : (s.length : Int) = 256 := by omega
  have hex : (⟨s.toArray⟩ : ByteArray).extract 0 5 = ⟨#[76, 0, 2, 0, 5]⟩ := by
    rw [sub_at s 0 5 (by omega) (by omega)]
    show (⟨(s.take 5).toArray⟩ : ByteArray) = _
    rw [h5]
  have HBX := Lib.hid fun V (hk : KeptIn (· < W1.heap.size) W1 V) => And.intro (hb1.kept hk hb1.lt).c0 (hb1.kept hk hb1.lt).c1
  have c0 := hb1.c0; have c1 := hb1.c1
  have HK1 := Lib.hid hk1
  have HCB := Lib.hid CB
  have HB2 := Lib.hid fun (V : World) a cap => BoxL.new V 0 a 2 cap
  clear hp0 hk0 hk01 hk1 hp1 hb1 hgood hr hlen h5 hT1 CB hrR hs hT
  go_enter Tryd.func6, Tryd.ntmps6
  go_wp2_with (go_at_call 7; refine HCB.out.mono ?_; rintro e V1 ⟨rfl, hk⟩; obtain ⟨c01, c11⟩ := HBX.out _ hk)
  clear c0 c1 HCB
  go_wp2_with (go_at_call 11; refine (CR.out _ hk).mono ?_)
  rintro e V2 ⟨a, cap, rfl, hps, k2⟩
  obtain ⟨V3, hV3⟩ : ∃ V3, V2.alloc (.cells #[.int .i64 0, .slice a 2 cap] 24) = V3 := ⟨_, rfl⟩
  have k23 : KeptIn (· < V2.heap.size) V2 V3 := by rw [← hV3]; exact (KeptIn.refl _ V2).alloc (fun _ h => h) _
  have hk3 : KeptIn (· < W1.heap.size) W1 V3 := (hk.step k2).step k23
  obtain ⟨x2, hx2⟩ : ∃ x, V2.heap.size = x := ⟨_, rfl⟩
  have hb2 : BoxL x2 0 a 2 cap V3 := by rw [← hV3, ← hx2]; exact BoxL.new V2 0 a 2 cap
  have hps3 := hps.old k23
  have H4 := Lib.hid fun V (k : KeptIn (· < V3.heap.size) V3 V) => And.intro (HBX.out V (hk3.step k)) (And.intro (hb2.kept k hb2.lt).c0 (hb2.kept k hb2.lt).c1)
  have HC4 := Lib.hid fun V (k : KeptIn (· < V3.heap.size) V3 V) => CF.out V (hk3.step k)
  have HC5 := Lib.hid fun V (k : KeptIn (· < V3.heap.size) V3 V) => CS.out V a cap (hk3.step k) (hps3.old k)
  have HC6 := Lib.hid fun V (k : KeptIn (· < V3.heap.size) V3 V) => CC8.out V (hk3.step k)
  have HC7 := Lib.hid fun V (k : KeptIn (· < V3.heap.size) V3 V) => CC4.out V (hk3.step k)
  have HK3 : Hid (KeptIn (· < w.heap.size) w V3) := Lib.hid (HK1.out.step hk3)
  obtain ⟨⟨c03, c13⟩, d03, d13⟩ := H4.out V3 (KeptIn.refl _ _)
  clear hps k2 k23 hk3 hb2 hps3 hk c01 c11 CF CS CC8 CC4 CR HBX HB2 HK1
  clear hW0 hW1 hg hx
  go_wp2_with (go_at_call 14; refine (HC4.out V3 (KeptIn.refl _ _)).mono ?_; rintro e V4 ⟨rfl, k4⟩; obtain ⟨⟨c04, c14⟩, d04, d14⟩ := H4.out V4 k4)
  clear c03 c13 d03 d13 HC4
  go_wp2_with (go_at_call 13; refine (HC5.out V4 k4).mono ?_; rintro e V5 ⟨rfl, k5⟩; obtain ⟨⟨c05, c15⟩, d05, d15⟩ := H4.out V5 (k4.step k5))
  clear c04 c14 d04 d14 HC5
  go_wp2_with (go_at_call 15; refine (HC6.out V5 (k4.step k5)).mono ?_; clear HC6; rintro e V6 ⟨rfl, k6⟩; obtain ⟨⟨c06, c16⟩, d06, d16⟩ := H4.out V6 ((k4.step k5).step k6))
  clear c05 c15 d05 d15
  go_wp2_with (go_at_call 15; refine (HC7.out V6 ((k4.step k5).step k6)).mono ?_; rintro e V7 ⟨rfl, k7⟩)
  go_ret
  exact ⟨rfl, HK3.out.step (((k4.step k5).step k6).step k7)⟩

end Go.Proofs.YtaahgdmlacpjbaaDoor
