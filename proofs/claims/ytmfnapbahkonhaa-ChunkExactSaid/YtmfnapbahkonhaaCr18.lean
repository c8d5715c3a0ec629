/- Chunks on two devices: Read. -/
import Derived.Test.YtmfnapbahkonhaaCk18
import Derived.Test.YtmfnapbahkonhaaDread
set_option linter.unusedVariables false
namespace Go.Proofs.Ytmfnapbahkonhaa
open Go.RowKit

theorem ckReadNil (x : Sp) (a n : Int) (w : World) :
    Calls Try.prog 13 #[.pointer none, spV x, .int .i64 a, .int .i64 n] w fun e w' => e = .returned (.tuple #[.string ⟨#[]⟩, .int .i64 2]) ∧ KeptIn (· < w.heap.size) w w' := by
  unfold spV
  go_enter Try.func13, Try.ntmps13
  go_wp2
  go_ret2
  exact ⟨rfl, keptNew _ _⟩

/-- A spot in its box. -/
theorem box18 (w : World) (x : Sp) : ∃ W0, w.alloc (.cells #[.int .i64 x.ti, .int .i64 x.sl] 36) = W0 ∧ BoxS w.heap.size x W0 ∧ KeptIn (· < w.heap.size) w W0 := ⟨_, rfl, BoxS.new w x, keptNew w _⟩


theorem ckReadArg {k m sz : Nat} {p : Pw} {T : Nat → Dsk} {w : World} (h : Dck k m sz p T w) (x : Sp) (a n : Int) (hbo : hasB T sz x = false) :
    Calls Try.prog 13 #[.pointer (some ⟨k, 0, none⟩), spV x, .int .i64 a, .int .i64 n] w fun e w' => e = .returned (.tuple #[.string ⟨#[]⟩, .int .i64 1]) ∧ KeptIn (· < w.heap.size) w w' := by
  obtain ⟨xa, xs⟩ := x
  obtain ⟨W0, hW0, hb, hk⟩ := box18 w ⟨xa, xs⟩
  have c0 := hb.c0
  have c1 := hb.c1
  simp only at c0 c1 hW0
  have HC := Lib.hid (ckHas (h.old hk) ⟨xa, xs⟩)
  rw [hbo] at HC
  simp only [spV] at HC ⊢
  have HK := Lib.hid (And.intro hW0 (And.intro hk hb))
  clear hW0 hk hb h hbo
  go_enter Try.func13, Try.ntmps13
  go_upto_region 1 with fail
  rw [HK.out.1]
  go_wp2_with (go_at_call 33; refine HC.out.mono ?_)
  rintro e w1 ⟨rfl, hk1⟩
  have HF := Lib.hid (HK.out.2.1.onM hk1)
  clear hk1 HC c0 c1
  go_wp2_with fail
  go_ret2
  exact ⟨rfl, HF.out⟩

theorem ckReadRange {k m sz : Nat} {p : Pw} {T : Nat → Dsk} {w : World} (h : Dck k m sz p T w) (x : Sp) (a n : Int) (ha : I64 a) (hn : I64 n) (hbo : hasB T sz x = true) (hf : fits sz a n = false) :
    Calls Try.prog 13 #[.pointer (some ⟨k, 0, none⟩), spV x, .int .i64 a, .int .i64 n] w fun e w' => e = .returned (.tuple #[.string ⟨#[]⟩, .int .i64 9]) ∧ KeptIn (· < w.heap.size) w w' := by
  obtain ⟨xa, xs⟩ := x
  obtain ⟨W0, hW0, hb, hk⟩ := box18 w ⟨xa, xs⟩
  have c0 := hb.c0
  have c1 := hb.c1
  simp only at c0 c1 hW0
  have HC := Lib.hid (ckHas (h.old hk) ⟨xa, xs⟩)
  rw [hbo] at HC
  simp only [spV] at HC ⊢
  have HK := Lib.hid (And.intro hW0 (And.intro hk hb))
  have HI := Lib.hid fun V (hV : KeptIn (· < W0.heap.size) W0 V) => by
    have := ckWithin ((h.old hk).old hV) a n ha hn
    rwa [hf] at this
  clear hW0 hk hb h hbo ha hn hf
  go_enter Try.func13, Try.ntmps13
  go_upto_region 1 with fail
  rw [HK.out.1]
  go_wp2_with (go_at_call 33; refine HC.out.mono ?_)
  rintro e w1 ⟨rfl, hk1⟩
  have HF := Lib.hid (HK.out.2.1.onM hk1)
  have HI1 := Lib.hid (HI.out w1 hk1)
  clear hk1 HC c0 c1 HI
  go_wp2_with (go_at_call 34; refine HI1.out.mono ?_)
  rintro e w2 ⟨rfl, rfl⟩
  go_wp2_with fail
  go_ret2
  exact ⟨rfl, HF.out⟩

set_option maxRecDepth 100000 in
theorem ckRead {k m sz : Nat} {p : Pw} {T : Nat → Dsk} {w : World} (h : Dck k m sz p T w) (t s a n : Nat) (ht : t < 2) (hs : s < slN T sz t) (hf : a + n ≤ sz) (hon : p.on = true) :
    Calls Try.prog 13 #[.pointer (some ⟨k, 0, none⟩), spV ⟨(t : Int), (s : Int)⟩, .int .i64 (a : Int), .int .i64 (n : Int)] w fun e w' => e = .returned (.tuple #[.string ⟨(nows (T t).S (T t).M (s * sz + a) n).toArray⟩, .int .i64 0]) ∧ KeptIn (· < w.heap.size) w w' := by
  have hs2 : s < 256 := Nat.lt_of_lt_of_le hs slN_le
  obtain ⟨f, hfe⟩ : ∃ f, s * sz = f := ⟨_, rfl⟩
  have hfit := slN_fits hs
  have hsz8 := h.sz8
  have hmx := (h.isD t ht).max
  have hbo := hasB_of ht hs
  rw [hfe] at hfit ⊢
  have hg : IntKind.i64.wrap ((f : Int) + (a : Int)) = ((f + a : Nat) : Int) := by rw [IntKind.wrap_i64]; omega
  obtain ⟨g, hgg⟩ : ∃ g, f + a = g := ⟨_, rfl⟩
  rw [hgg] at hg ⊢
  obtain ⟨r, hr⟩ : ∃ r, nows (T t).S (T t).M g n = r := ⟨_, rfl⟩
  rw [hr]
  have hr2 := hr
  obtain ⟨W0, hW0, hb, hk⟩ := box18 w ⟨(t : Int), (s : Int)⟩
  have c0 := hb.c0
  have c1 := hb.c1
  simp only at c0 c1 hW0
  have HC := Lib.hid (ckHas (h.old hk) ⟨(t : Int), (s : Int)⟩)
  rw [hbo] at HC
  simp only [spV] at HC ⊢
  have HK := Lib.hid (And.intro hW0 (And.intro hk hb))
  have HDK := Lib.hid (h.old hk)
  have HI := Lib.hid fun V (hV : KeptIn (· < W0.heap.size) W0 V) => by
    have := ckWithin ((h.old hk).old hV) (a : Int) (n : Int) (by constructor <;> omega) (by constructor <;> omega)
    rwa [show fits sz (a : Int) (n : Int) = true by simp only [fits, Bool.and_eq_true, decide_eq_true_eq]; omega] at this
  have HR := Lib.hid (And.intro hr2 (show g + n ≤ (T t).S.length by omega))
  clear hW0 hk hb h hbo hf hr hr2 hsz8 hmx hfit
  go_enter Try.func13, Try.ntmps13
  go_upto_region 1 with fail
  rw [HK.out.1]
  go_wp2_with (go_at_call 33; refine HC.out.mono ?_)
  rintro e w1 ⟨rfl, hk1⟩
  have HF := Lib.hid (HK.out.2.1.onM hk1)
  have HI1 := Lib.hid (HI.out w1 hk1)
  have HB1 := Lib.hid (HK.out.2.2.old hk1)
  have c0 : ∀ q : KW w1, q.V.cell? ⟨w.heap.size, 0, none⟩ = some (.int .i64 (t : Int)) := fun q => (HB1.out.old q.hk).c0
  have c1 : ∀ q : KW w1, q.V.cell? ⟨w.heap.size, 1, none⟩ = some (.int .i64 (s : Int)) := fun q => (HB1.out.old q.hk).c1
  have HD1 := Lib.hid (HDK.out.old hk1)
  have HCD := Lib.hid fun (q : KW w1) => by
    have := ckDevice (HD1.out.old q.hk) t ht s
    simpa only [spV] using this
  have HCF := Lib.hid fun (q : KW w1) => by
    have := ckFirst (HD1.out.old q.hk) (t : Int) s f hs2 hfe
    simpa only [spV] using this
  clear hk1 HC HI HB1
  go_wp2_with (go_at_call 34; refine HI1.out.mono ?_)
  rintro e w2 ⟨rfl, rfl⟩
  have HCR := Lib.hid fun (q : KW w1) => by
    have hq := HD1.out.old q.hk
    have := dRead (T t).d m (T t).s (T t).b (T t).N p (T t).S (T t).M (g : Int) g n q.V (hq.isD t ht) hq.isP hon rfl HR.out.2
    rwa [HR.out.1] at this
  clear HI1 HDK hgg
  go_wp2_with fail
  refine wp_region_quiet_kept (by kernel_rfl) (by kernel_rfl) ?_
  repeat (go_big_quiet_step (first | (go_at_call 35; exact Calls.kept_of (HCD.out _)) | (go_at_call 36; exact Calls.kept_of (HCF.out _)) | (go_at_call 23; exact Calls.kept_of (HCR.out _))))
  refine wpQuiet_nil ?_
  intro V hw'
  obtain ⟨⟨V2, hV⟩, hw''⟩ := hw'
  subst hw''
  go_wp2
  go_ret2
  exact ⟨rfl, HF.out.onM hV⟩

set_option maxRecDepth 100000 in
theorem ckReadDown {k m sz : Nat} {p : Pw} {T : Nat → Dsk} {w : World} (h : Dck k m sz p T w) (t s a n : Nat) (ht : t < 2) (hs : s < slN T sz t) (hf : a + n ≤ sz) (hon : p.on = false) :
    Calls Try.prog 13 #[.pointer (some ⟨k, 0, none⟩), spV ⟨(t : Int), (s : Int)⟩, .int .i64 (a : Int), .int .i64 (n : Int)] w fun e w' => e = .returned (.tuple #[.string ⟨#[]⟩, .int .i64 4]) ∧ KeptIn (· < w.heap.size) w w' := by
  have hs2 : s < 256 := Nat.lt_of_lt_of_le hs slN_le
  obtain ⟨f, hfe⟩ : ∃ f, s * sz = f := ⟨_, rfl⟩
  have hfit := slN_fits hs
  have hsz8 := h.sz8
  have hmx := (h.isD t ht).max
  have hbo := hasB_of ht hs
  rw [hfe] at hfit
  have hg : IntKind.i64.wrap ((f : Int) + (a : Int)) = ((f + a : Nat) : Int) := by rw [IntKind.wrap_i64]; omega
  obtain ⟨g, hgg⟩ : ∃ g, f + a = g := ⟨_, rfl⟩
  rw [hgg] at hg
  obtain ⟨W0, hW0, hb, hk⟩ := box18 w ⟨(t : Int), (s : Int)⟩
  have c0 := hb.c0
  have c1 := hb.c1
  simp only at c0 c1 hW0
  have HC := Lib.hid (ckHas (h.old hk) ⟨(t : Int), (s : Int)⟩)
  rw [hbo] at HC
  simp only [spV] at HC ⊢
  have HK := Lib.hid (And.intro hW0 (And.intro hk hb))
  have HDK := Lib.hid (h.old hk)
  have HI := Lib.hid fun V (hV : KeptIn (· < W0.heap.size) W0 V) => by
    have := ckWithin ((h.old hk).old hV) (a : Int) (n : Int) (by constructor <;> omega) (by constructor <;> omega)
    rwa [show fits sz (a : Int) (n : Int) = true by simp only [fits, Bool.and_eq_true, decide_eq_true_eq]; omega] at this
  have HR : Hid (fits (T t).S.length (g : Int) (n : Int) = true ∧ I64 (g : Int) ∧ I64 (n : Int)) := Lib.hid ⟨by simp only [fits, Bool.and_eq_true, decide_eq_true_eq]; omega, by constructor <;> omega, by constructor <;> omega⟩
  clear hW0 hk hb h hbo hf hsz8 hmx hfit
  go_enter Try.func13, Try.ntmps13
  go_upto_region 1 with fail
  rw [HK.out.1]
  go_wp2_with (go_at_call 33; refine HC.out.mono ?_)
  rintro e w1 ⟨rfl, hk1⟩
  have HF := Lib.hid (HK.out.2.1.onM hk1)
  have HI1 := Lib.hid (HI.out w1 hk1)
  have HB1 := Lib.hid (HK.out.2.2.old hk1)
  have c0 : ∀ q : KW w1, q.V.cell? ⟨w.heap.size, 0, none⟩ = some (.int .i64 (t : Int)) := fun q => (HB1.out.old q.hk).c0
  have c1 : ∀ q : KW w1, q.V.cell? ⟨w.heap.size, 1, none⟩ = some (.int .i64 (s : Int)) := fun q => (HB1.out.old q.hk).c1
  have HD1 := Lib.hid (HDK.out.old hk1)
  have HCD := Lib.hid fun (q : KW w1) => by
    have := ckDevice (HD1.out.old q.hk) t ht s
    simpa only [spV] using this
  have HCF := Lib.hid fun (q : KW w1) => by
    have := ckFirst (HD1.out.old q.hk) (t : Int) s f hs2 hfe
    simpa only [spV] using this
  clear hk1 HC HI HB1
  go_wp2_with (go_at_call 34; refine HI1.out.mono ?_)
  rintro e w2 ⟨rfl, rfl⟩
  have HCR := Lib.hid fun (q : KW w1) => by
    have hq := HD1.out.old q.hk
    exact dReadDown (T t).d m (T t).s (T t).b (T t).N p (T t).S (T t).M (g : Int) (n : Int) q.V (hq.isD t ht) hq.isP hon HR.out.2.1 HR.out.2.2 HR.out.1
  clear HI1 HDK hgg
  go_wp2_with fail
  refine wp_region_quiet_kept (by kernel_rfl) (by kernel_rfl) ?_
  repeat (go_big_quiet_step (first | (go_at_call 35; exact Calls.kept_of (HCD.out _)) | (go_at_call 36; exact Calls.kept_of (HCF.out _)) | (go_at_call 23; exact Calls.kept_same (HCR.out _))))
  refine wpQuiet_nil ?_
  intro V hw'
  obtain ⟨⟨V2, hV⟩, hw''⟩ := hw'
  subst hw''
  go_wp2
  go_ret2
  exact ⟨rfl, HF.out.onM hV⟩

end Go.Proofs.Ytmfnapbahkonhaa
