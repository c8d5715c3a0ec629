/- Chunks on two devices: Write, Zero, Copy, Flush, Loose. -/
import Derived.Test.YtmfnapbahkonhaaCr18
import Derived.Test.YtmfnapbahkonhaaRz
import Derived.Test.YtmfnapbahkonhaaDloose
import Derived.Deep.RegionLaw
import Derived.Deep.RegionHeld3
set_option linter.unusedVariables false
namespace Go.Proofs.Ytmfnapbahkonhaa
open Go.RowKit

theorem ckWriteNil (x : Sp) (a : Int) (l : ByteArray) (w : World) :
    Calls Try.prog 22 #[.pointer none, spV x, .int .i64 a, .string l] w fun e w' => e = .returned (.int .i64 2) ∧ KeptIn (· < w.heap.size) w w' := by
  unfold spV
  go_enter Try.func22, Try.ntmps22
  go_wp2
  go_ret
  exact ⟨rfl, keptNew _ _⟩


/-- No such spot. -/
theorem ckWriteArg {k m sz : Nat} {p : Pw} {T : Nat → Dsk} {w : World} (h : Dck k m sz p T w) (x : Sp) (a : Int) (l : ByteArray) (hbo : hasB T sz x = false) :
    Calls Try.prog 22 #[.pointer (some ⟨k, 0, none⟩), spV x, .int .i64 a, .string l] w fun e w' => e = .returned (.int .i64 1) ∧ KeptIn (· < w.heap.size) w w' := by
  obtain ⟨xa, xs⟩ := x
  obtain ⟨W0, hW0, hb, hk⟩ := box18 w ⟨xa, xs⟩
  have c0 := hb.c0
  have c1 := hb.c1
  simp only at c0 c1 hW0
  have HC := Lib.hid (ckHas (h.old hk) ⟨xa, xs⟩)
  rw [hbo] at HC
  simp only [spV] at HC ⊢
  have HK := Lib.hid (And.intro hW0 (And.intro hk hb))
  clear hW0 hk hb h hbo
  go_enter Try.func22, Try.ntmps22
  go_upto_region 1 with fail
  rw [HK.out.1]
  go_wp2_with (go_at_call 33; refine HC.out.mono ?_)
  rintro e w1 ⟨rfl, hk1⟩
  have HF := Lib.hid (HK.out.2.1.onM hk1)
  clear hk1 HC c0 c1
  go_wp2_with fail
  go_ret
  exact ⟨rfl, HF.out⟩

/-- No whole sectors. -/
theorem ckWriteLen {k m sz : Nat} {p : Pw} {T : Nat → Dsk} {w : World} (h : Dck k m sz p T w) (x : Sp) (a : Int) (l : List UInt8) (hl : l.length ≤ maxLen) (h16 : l.length % 16 ≠ 0) :
    Calls Try.prog 22 #[.pointer (some ⟨k, 0, none⟩), spV x, .int .i64 a, .string ⟨l.toArray⟩] w fun e w' => e = .returned (.int .i64 1) ∧ KeptIn (· < w.heap.size) w w' := by
  cases hbo : hasB T sz x with
  | false => exact ckWriteArg h x a _ hbo
  | true =>
    obtain ⟨xa, xs⟩ := x
    obtain ⟨W0, hW0, hb, hk⟩ := box18 w ⟨xa, xs⟩
    have c0 := hb.c0
    have c1 := hb.c1
    simp only at c0 c1 hW0
    have HC := Lib.hid (ckHas (h.old hk) ⟨xa, xs⟩)
    rw [hbo] at HC
    simp only [spV] at HC ⊢
    have HK := Lib.hid (And.intro hW0 (And.intro hk hb))
    unfold maxLen at hl
    have h1 : (l.length : Int) ≤ 9223372036854775807 := by omega
    have h2 : ¬ ((l.length : Int) % 16 = 0) := by omega
    clear hW0 hk hb h hbo hl h16
    go_enter Try.func22, Try.ntmps22
    go_upto_region 1 with fail
    rw [HK.out.1]
    go_wp2_with (go_at_call 33; refine HC.out.mono ?_)
    rintro e w1 ⟨rfl, hk1⟩
    have HF := Lib.hid (HK.out.2.1.onM hk1)
    clear hk1 HC c0 c1
    go_wp2_with fail
    go_ret
    exact ⟨rfl, HF.out⟩

/-- Not within the chunk. -/
theorem ckWriteRange {k m sz : Nat} {p : Pw} {T : Nat → Dsk} {w : World} (h : Dck k m sz p T w) (x : Sp) (a : Int) (l : List UInt8) (n : Nat) (ha : I64 a) (hl : l.length ≤ maxLen) (hn : l.length = 16 * n) (hbo : hasB T sz x = true) (hf : fits sz a n = false) :
    Calls Try.prog 22 #[.pointer (some ⟨k, 0, none⟩), spV x, .int .i64 a, .string ⟨l.toArray⟩] w fun e w' => e = .returned (.int .i64 9) ∧ KeptIn (· < w.heap.size) w w' := by
  obtain ⟨xa, xs⟩ := x
  obtain ⟨W0, hW0, hb, hk⟩ := box18 w ⟨xa, xs⟩
  have c0 := hb.c0
  have c1 := hb.c1
  simp only at c0 c1 hW0
  have HC := Lib.hid (ckHas (h.old hk) ⟨xa, xs⟩)
  rw [hbo] at HC
  simp only [spV] at HC ⊢
  have HK := Lib.hid (And.intro hW0 (And.intro hk hb))
  unfold maxLen at hl
  have h1 : (l.length : Int) ≤ 9223372036854775807 := by omega
  have h2 : (l.length : Int) % 16 = 0 := by omega
  have h3 : (l.length : Int) / 16 = (n : Int) := by omega
  have HI := Lib.hid fun V (hV : KeptIn (· < W0.heap.size) W0 V) => by
    have := ckWithin ((h.old hk).old hV) a (n : Int) ha (by constructor <;> omega)
    rwa [hf] at this
  clear hW0 hk hb h hbo ha hn hf hl
  go_enter Try.func22, Try.ntmps22
  go_upto_region 1 with fail
  rw [HK.out.1]
  go_wp2_with (go_at_call 33; refine HC.out.mono ?_)
  rintro e w1 ⟨rfl, hk1⟩
  have HF := Lib.hid (HK.out.2.1.onM hk1)
  have HI1 := Lib.hid (HI.out w1 hk1)
  clear hk1 HC c0 c1 HI
  go_wp2_with (go_at_call 34; refine HI1.out.mono ?_)
  rintro e w2 ⟨rfl, rfl⟩
  go_wp2_with fail
  go_ret
  exact ⟨rfl, HF.out⟩

/-- What a write leaves. -/
def Wr18 (k m sz : Nat) (p : Pw) (T : Nat → Dsk) (t n g : Nat) (l : List UInt8) (w : World) (w' : World) : Prop :=
  Dck k m sz (Pw.go n p).2 (upT T t ((T t).wr n (g : Int) l (Pw.go n p).1)) w' ∧ KeptIn (fun x => x < w.heap.size ∧ x ≠ m ∧ x ≠ (T t).b) w w'
/-- What a write answers. -/
def wrE (n : Nat) (p : Pw) : Int := if (Pw.go n p).1 = n then 0 else 4

set_option maxHeartbeats 1000000 in
set_option maxRecDepth 100000 in
theorem ckWrite {k m sz : Nat} {p : Pw} {T : Nat → Dsk} {w : World} (h : Dck k m sz p T w) (t s a n : Nat) (l : List UInt8) (ht : t < 2) (hs : s < slN T sz t) (hn : l.length = 16 * n) (hf : a + n ≤ sz) (hN : (T t).N + n < maxLen) :
    Calls Try.prog 22 #[.pointer (some ⟨k, 0, none⟩), spV ⟨(t : Int), (s : Int)⟩, .int .i64 (a : Int), .string ⟨l.toArray⟩] w fun e w' => e = .returned (.int .i64 (wrE n p)) ∧ Wr18 k m sz p T t n (s * sz + a) l w w' := by
  obtain ⟨r, hr⟩ : ∃ r, wrE n p = r := ⟨_, rfl⟩
  rw [hr]
  have hs2 : s < 256 := Nat.lt_of_lt_of_le hs slN_le
  obtain ⟨f, hfe⟩ : ∃ f, s * sz = f := ⟨_, rfl⟩
  have hfit := slN_fits hs
  have hsz8 := h.sz8
  have hmx := (h.isD t ht).max
  have hbo := hasB_of ht hs
  rw [hfe] at hfit ⊢
  have hg : IntKind.i64.wrap ((f : Int) + (a : Int)) = ((f + a : Nat) : Int) := by rw [IntKind.wrap_i64]; omega
  obtain ⟨g, hgg⟩ : ∃ g, f + a = g := ⟨_, rfl⟩
  rw [hgg] at hg ⊢
  have h1 : (l.length : Int) ≤ 9223372036854775807 := by omega
  have h2 : (l.length : Int) % 16 = 0 := by omega
  have h3 : (l.length : Int) / 16 = (n : Int) := by omega
  have hl : l.length ≤ maxLen := by unfold maxLen; omega
  obtain ⟨W0, hW0, hb, hk⟩ := box18 w ⟨(t : Int), (s : Int)⟩
  have c0 := hb.c0
  have c1 := hb.c1
  simp only at c0 c1 hW0
  have HC := Lib.hid (ckHas (h.old hk) ⟨(t : Int), (s : Int)⟩)
  rw [hbo] at HC
  simp only [spV] at HC ⊢
  have HK := Lib.hid (And.intro hW0 (And.intro hk hb))
  have HDK := Lib.hid (h.old hk)
  have HH := Lib.hid h
  have HI := Lib.hid fun V (hV : KeptIn (· < W0.heap.size) W0 V) => by
    have := ckWithin ((h.old hk).old hV) (a : Int) (n : Int) (by constructor <;> omega) (by constructor <;> omega)
    rwa [show fits sz (a : Int) (n : Int) = true by simp only [fits, Bool.and_eq_true, decide_eq_true_eq]; omega] at this
  have HR : Hid (fits (T t).S.length (g : Int) (n : Int) = true) := Lib.hid (by simp only [fits, Bool.and_eq_true, decide_eq_true_eq]; omega)
  have HL := Lib.hid (And.intro hl (And.intro hn hN))
  have HRR := Lib.hid hr
  clear hW0 hk hb h hbo hf hsz8 hmx hfit hl hn hN hr
  go_enter Try.func22, Try.ntmps22
  go_upto_region 1 with fail
  rw [HK.out.1]
  go_wp2_with (go_at_call 33; refine HC.out.mono ?_)
  rintro e w1 ⟨rfl, hk1⟩
  have HF := Lib.hid (HK.out.2.1.onM hk1)
  have HI1 := Lib.hid (HI.out w1 hk1)
  have HB1 := Lib.hid (HK.out.2.2.old hk1)
  have c0 := HB1.out.c0
  have c1 := HB1.out.c1
  simp only at c0 c1
  have HD1 := Lib.hid (HDK.out.old hk1)
  have HCD : Hid (∀ V, KeptIn (· < w1.heap.size) w1 V → Calls Try.prog 35 #[.pointer (some ⟨k, 0, none⟩), .agg #[.int .i64 (t : Int), .int .i64 (s : Int)]] V fun e w' => e = .returned (.pointer (some ⟨(T t).d, 0, none⟩)) ∧ KeptIn (· < w1.heap.size) w1 w' ∧ w'.cell? ⟨w.heap.size, 0, none⟩ = some (.int .i64 (t : Int)) ∧ w'.cell? ⟨w.heap.size, 1, none⟩ = some (.int .i64 (s : Int))) := Lib.hid fun V hV => by
    have := ckDevice (HD1.out.old hV) t ht s
    simp only [spV] at this
    exact this.mono fun e w' ⟨h1, h2⟩ => ⟨h1, hV.onM h2, (HB1.out.old (hV.onM h2)).c0, (HB1.out.old (hV.onM h2)).c1⟩
  have HCF : Hid (∀ V, KeptIn (· < w1.heap.size) w1 V → Calls Try.prog 36 #[.pointer (some ⟨k, 0, none⟩), .agg #[.int .i64 (t : Int), .int .i64 (s : Int)]] V fun e w' => e = .returned (.int .i64 (f : Int)) ∧ KeptIn (· < w1.heap.size) w1 w' ∧ w'.cell? ⟨w.heap.size, 0, none⟩ = some (.int .i64 (t : Int)) ∧ w'.cell? ⟨w.heap.size, 1, none⟩ = some (.int .i64 (s : Int))) := Lib.hid fun V hV => by
    have := ckFirst (HD1.out.old hV) (t : Int) s f hs2 hfe
    simp only [spV] at this
    exact this.mono fun e w' ⟨h1, h2⟩ => ⟨h1, hV.onM h2, (HB1.out.old (hV.onM h2)).c0, (HB1.out.old (hV.onM h2)).c1⟩
  have HCW : Hid (∀ V, KeptIn (· < w1.heap.size) w1 V → Calls Try.prog 40 #[.pointer (some ⟨(T t).d, 0, none⟩), .int .i64 (g : Int), .string ⟨l.toArray⟩] V fun e w' => e = .returned (.int .i64 r) ∧ Wr18 k m sz p T t n g l w w') := Lib.hid fun V hV => by
    have hq := HD1.out.old hV
    refine (dWrite (T t).d m (T t).s (T t).b (T t).N p (T t).S (T t).M (g : Int) l n V (hq.isD t ht) hq.isP HL.out.1 HL.out.2.1 HR.out HL.out.2.2).mono ?_
    rintro e w' ⟨rfl, q1, q2, q3⟩
    have hwV := HF.out.onM hV
    refine ⟨by rw [← HRR.out]; rfl, hq.step ht rfl q1 q2 (q3.mono fun x hx => ⟨hx.1, hx.2.1, hx.2.2.2⟩), ?_⟩
    exact (hwV.mono fun x hx => hx.1).trans (q3.mono fun x hx => ⟨Nat.lt_of_lt_of_le hx.1 hwV.size, hx.2.1, hx.2.2⟩)
  have c00 := c0
  clear hk1 HC HI HRR HL HR HD1 HB1 HDK
  go_wp2_with (go_at_call 34; refine HI1.out.mono ?_)
  rintro e w2 ⟨rfl, rfl⟩
  clear HI1 hfe hgg
  go_wp2_with fail
  go_region_law (first
    | (go_simp; go_at_call 35; refine (HCD.out _ (by first | assumption | exact (KeptIn.refl _ _).drew)).mono ?_; rintro e V1 ⟨rfl, hv1, v10, v11⟩)
    | (go_simp; go_at_call 36; refine (HCF.out _ (by first | assumption | exact (KeptIn.refl _ _).drew)).mono ?_; rintro e V2 ⟨rfl, hv2, v20, v21⟩)
    | (go_simp; go_at_call 40; refine (HCW.out _ (by first | assumption | exact (KeptIn.refl _ _).drew)).mono ?_; rintro e V3 ⟨rfl, hv3⟩))
  all_goals
    have HW3 := Lib.hid hv3
    clear hv3
    go_wp2_with fail
    go_ret
    exact ⟨rfl, HW3.out⟩

/-! ### Zero -/
theorem ckZeroNil (x : Sp) (w : World) :
    Calls Try.prog 17 #[.pointer none, spV x] w fun e w' => e = .returned (.int .i64 2) ∧ KeptIn (· < w.heap.size) w w' := by
  unfold spV
  go_enter Try.func17, Try.ntmps17
  go_wp2
  go_ret
  exact ⟨rfl, keptNew _ _⟩

/-- Zero over any contract of Write. -/
theorem ckZeroAny {k m sz : Nat} {p : Pw} {T : Nat → Dsk} {w : World} (h : Dck k m sz p T w) (x : Sp) (r : Int) (Q : World → Prop)
    (hc : ∀ V, KeptIn (· < w.heap.size) w V → Calls Try.prog 22 #[.pointer (some ⟨k, 0, none⟩), spV x, .int .i64 0, .string ⟨(List.replicate (sz * 16) (0 : UInt8)).toArray⟩] V fun e w' => e = .returned (.int .i64 r) ∧ Q w') :
    Calls Try.prog 17 #[.pointer (some ⟨k, 0, none⟩), spV x] w fun e w' => e = .returned (.int .i64 r) ∧ Q w' := by
  obtain ⟨xa, xs⟩ := x
  obtain ⟨W0, hW0, hb, hk⟩ := box18 w ⟨xa, xs⟩
  have c0 := hb.c0
  have c1 := hb.c1
  have c2 := (h.old hk).c0
  simp only at c0 c1 hW0
  have hsz8 := h.sz8
  obtain ⟨g, hg⟩ : ∃ g, sz * 16 = g := ⟨_, rfl⟩
  have hi : IntKind.i64.wrap ((sz : Int) * 16) = (g : Int) := by rw [IntKind.wrap_i64]; omega
  have hgb : g ≤ 140737488355328 := by omega
  simp only [spV, hg] at hc ⊢
  have HK := Lib.hid (And.intro hW0 (And.intro hk hb))
  have HCW : Hid (∀ V, KeptIn (· < W0.heap.size) W0 V → Calls Try.prog 22 #[.pointer (some ⟨k, 0, none⟩), .agg #[.int .i64 xa, .int .i64 xs], .int .i64 0, .string ⟨(List.replicate g (0 : UInt8)).toArray⟩] V fun e w' => e = .returned (.int .i64 r) ∧ Q w') := Lib.hid fun V hV => hc V (hk.onM hV)
  obtain ⟨bs, hbs⟩ : ∃ bs : ByteArray, ⟨(List.replicate g (0 : UInt8)).toArray⟩ = bs := ⟨_, rfl⟩
  rw [hbs] at HCW
  have HCR : Hid (∀ V, KeptIn (· < W0.heap.size) W0 V → Calls Try.prog 37 #[.string ⟨#[0]⟩, .int .i64 (g : Int)] V fun e w' => e = .returned (.string bs) ∧ KeptIn (· < W0.heap.size) W0 w' ∧ w'.cell? ⟨w.heap.size, 0, none⟩ = some (.int .i64 xa) ∧ w'.cell? ⟨w.heap.size, 1, none⟩ = some (.int .i64 xs) ∧ w'.cell? ⟨k, 0, none⟩ = some (.int .i64 sz)) := Lib.hid fun V hV => by
    rw [← hbs]
    exact (repeatZ' g V hgb).mono fun e w' ⟨h1, h2⟩ => ⟨h1, hV.onM h2, (hb.old (hV.onM h2)).c0, (hb.old (hV.onM h2)).c1, ((h.old hk).old (hV.onM h2)).c0⟩
  clear hc hW0 hk hb h hsz8 hg hgb hbs
  go_enter Try.func17, Try.ntmps17
  go_upto_region 1 with fail
  rw [HK.out.1]
  go_wp2_with fail
  go_region_law (first
    | (go_simp; go_at_call 37; refine (HCR.out _ (by first | assumption | exact (KeptIn.refl _ _).drew)).mono ?_; rintro e V1 ⟨rfl, hv1, v10, v11, v12⟩)
    | (go_simp; go_at_call 22; refine (HCW.out _ (by first | assumption | exact (KeptIn.refl _ _).drew)).mono ?_; rintro e V3 ⟨rfl, hv3⟩))
  all_goals
    have HW3 := Lib.hid hv3
    clear hv3
    go_wp2_with fail
    go_ret
    exact ⟨rfl, HW3.out⟩

/-! ### Flush, Loose -/
theorem ckFlushNil (t : Int) (w : World) : Calls Try.prog 19 #[.pointer none, .int .i64 t] w fun e w' => e = .returned (.int .i64 2) ∧ w = w' := by
  go_enter Try.func19, Try.ntmps19
  go_wp2
  go_ret
  exact ⟨rfl, rfl⟩
theorem ckFlushArg (k : Nat) (t : Int) (w : World) (ht : tierB t = false) : Calls Try.prog 19 #[.pointer (some ⟨k, 0, none⟩), .int .i64 t] w fun e w' => e = .returned (.int .i64 1) ∧ w = w' := by
  have HT := Lib.hid (ckIsTier t w)
  rw [ht] at HT
  clear ht
  go_enter Try.func19, Try.ntmps19
  go_wp2_with (go_at_call 38; refine HT.out.mono ?_; rintro e w1 ⟨rfl, rfl⟩)
  go_ret
  exact ⟨rfl, rfl⟩
theorem tierB_nat {t : Nat} (ht : t < 2) : tierB (t : Int) = true := by
  rcases (by omega : t = 0 ∨ t = 1) with rfl | rfl <;> rfl
theorem tierB_cases {t : Int} (h : tierB t = true) : ∃ n : Nat, t = (n : Int) ∧ n < 2 := by
  simp only [tierB, Bool.or_eq_true, beq_iff_eq] at h
  rcases h with rfl | rfl
  · exact ⟨0, rfl, by decide⟩
  · exact ⟨1, rfl, by decide⟩
/-- Flush over any contract of the device's. -/
theorem ckFlushAny {k m sz : Nat} {p : Pw} {T : Nat → Dsk} {w : World} (h : Dck k m sz p T w) (t : Nat) (ht : t < 2) (r : Int) (Q : World → Prop)
    (hc : Calls Try.prog 39 #[.pointer (some ⟨(T t).d, 0, none⟩)] w fun e w' => e = .returned (.int .i64 r) ∧ Q w') :
    Calls Try.prog 19 #[.pointer (some ⟨k, 0, none⟩), .int .i64 (t : Int)] w fun e w' => e = .returned (.int .i64 r) ∧ Q w' := by
  have HT := Lib.hid (ckIsTier (t : Int) w)
  rw [tierB_nat ht] at HT
  have HC := Lib.hid hc
  have c := h.cd ht
  have t0 : (0 : Int) ≤ (t : Int) := by omega
  have t2 : (t : Int) < 2 := by omega
  clear hc h ht
  go_enter Try.func19, Try.ntmps19
  go_wp2_with (first
    | (go_at_call 38; refine HT.out.mono ?_; rintro e w1 ⟨rfl, rfl⟩)
    | (go_at_call 39; refine HC.out.mono ?_; rintro e w1 ⟨rfl, hq⟩))
  go_ret
  exact ⟨rfl, hq⟩
theorem ckFlushOn {k m sz : Nat} {p : Pw} {T : Nat → Dsk} {w : World} (h : Dck k m sz p T w) (t : Nat) (ht : t < 2) (hc : p.can = true) :
    Calls Try.prog 19 #[.pointer (some ⟨k, 0, none⟩), .int .i64 (t : Int)] w fun e w' => e = .returned (.int .i64 0) ∧ Dck k m sz p.use (upT T t (T t).fl) w' ∧ KeptIn (fun x => x < w.heap.size ∧ x ≠ m ∧ x ≠ (T t).s ∧ x ≠ (T t).b) w w' := by
  refine ckFlushAny h t ht 0 _ ((dFlushOn (T t).d m (T t).s (T t).b (T t).N p (T t).S (T t).M w (h.isD t ht) h.isP hc).mono ?_)
  rintro e w' ⟨rfl, h1, h2, h3⟩
  exact ⟨rfl, h.step ht (by simp [flushed]) h1 h2 h3, h3⟩
theorem ckFlushOff {k m sz : Nat} {p : Pw} {T : Nat → Dsk} {w : World} (h : Dck k m sz p T w) (t : Nat) (ht : t < 2) (hc : p.can = false) :
    Calls Try.prog 19 #[.pointer (some ⟨k, 0, none⟩), .int .i64 (t : Int)] w fun e w' => e = .returned (.int .i64 4) ∧ Dck k m sz p.use T w' ∧ KeptIn (· ≠ m) w w' := by
  refine ckFlushAny h t ht 4 _ ((dFlushOff (T t).d m (T t).s (T t).b (T t).N p (T t).S (T t).M w (h.isD t ht) h.isP hc).mono ?_)
  rintro e w' ⟨rfl, h1, h2⟩
  exact ⟨rfl, h.pow h1 h2, h2⟩

theorem ckLooseNil (t : Int) (w : World) : Calls Try.prog 20 #[.pointer none, .int .i64 t] w fun e w' => e = .returned (.int .i64 0) ∧ w = w' := by
  go_enter Try.func20, Try.ntmps20
  go_wp2
  go_ret
  exact ⟨rfl, rfl⟩
theorem ckLooseNo (k : Nat) (t : Int) (w : World) (ht : tierB t = false) : Calls Try.prog 20 #[.pointer (some ⟨k, 0, none⟩), .int .i64 t] w fun e w' => e = .returned (.int .i64 0) ∧ w = w' := by
  have HT := Lib.hid (ckIsTier t w)
  rw [ht] at HT
  clear ht
  go_enter Try.func20, Try.ntmps20
  go_wp2_with (go_at_call 38; refine HT.out.mono ?_; rintro e w1 ⟨rfl, rfl⟩)
  go_ret
  exact ⟨rfl, rfl⟩
theorem places_le (n : Nat) (M : Int → Option (List UInt8)) : (places n M).length ≤ n := by
  unfold places
  rw [List.length_map]
  exact Nat.le_trans (List.length_filter_le _ _) (by rw [List.length_range]; exact Nat.le_refl _)
theorem ckLoose {k m sz : Nat} {p : Pw} {T : Nat → Dsk} {w : World} (h : Dck k m sz p T w) (t : Nat) (ht : t < 2) :
    Calls Try.prog 20 #[.pointer (some ⟨k, 0, none⟩), .int .i64 (t : Int)] w fun e w' => e = .returned (.int .i64 ((places (T t).S.length (T t).M).length : Nat)) ∧ KeptIn (· < w.heap.size) w w' := by
  have HT := Lib.hid (ckIsTier (t : Int) w)
  rw [tierB_nat ht] at HT
  have hc := dLoose (T t).d m (T t).s (T t).b (T t).N (T t).S (T t).M w (h.isD t ht)
  have hle := places_le (T t).S.length (T t).M
  have hmx := (h.isD t ht).max
  obtain ⟨ks, hks⟩ : ∃ ks, places (T t).S.length (T t).M = ks := ⟨_, rfl⟩
  rw [hks] at hc hle ⊢
  have HC : Hid (Calls Try.prog 26 #[.pointer (some ⟨(T t).d, 0, none⟩)] w fun e w' => ∃ a cap, e = .returned (.slice a ks.length cap) ∧ KeptIn (· < w.heap.size) w w') := Lib.hid (hc.mono (by
    rintro e w' ⟨v, rfl, hv, hk⟩
    rcases hv.2 with ⟨rfl, h0⟩ | ⟨g, cap, cur, rfl, _⟩
    · exact ⟨none, 0, by rw [h0], hk⟩
    · exact ⟨_, cap, rfl, hk⟩))
  have c := h.cd ht
  have t0 : (0 : Int) ≤ (t : Int) := by omega
  have t2 : (t : Int) < 2 := by omega
  have hlen : (ks.length : Int) ≤ 9223372036854775807 := by omega
  clear hc h ht hks hle hmx
  go_enter Try.func20, Try.ntmps20
  go_wp2_with (go_at_call 38; refine HT.out.mono ?_; rintro e w1 ⟨rfl, rfl⟩)
  go_wp2_with (go_at_call 26; refine HC.out.mono ?_)
  rintro e w1 ⟨a, cap, rfl, hk⟩
  have HK := Lib.hid hk
  clear hk
  go_wp2_with fail
  go_ret
  exact ⟨rfl, HK.out⟩

/-! ### Copy -/
theorem ckCopyNil (x y : Sp) (w : World) :
    Calls Try.prog 15 #[.pointer none, spV x, spV y] w fun e w' => e = .returned (.int .i64 2) ∧ KeptIn (· < w.heap.size) w w' := by
  unfold spV
  go_enter Try.func15, Try.ntmps15
  go_wp2
  go_ret
  exact ⟨rfl, (keptNew _ _).onM (keptNew _ _)⟩

/-- Both spots in their boxes. -/
theorem box18b (w : World) (x y : Sp) : ∃ W0 W1, w.alloc (.cells #[.int .i64 x.ti, .int .i64 x.sl] 36) = W0 ∧ W0.alloc (.cells #[.int .i64 y.ti, .int .i64 y.sl] 36) = W1 ∧ W0.heap.size = w.heap.size + 1 ∧ BoxS w.heap.size x W1 ∧ BoxS (w.heap.size + 1) y W1 ∧ KeptIn (· < w.heap.size) w W1 := by
  have h1 := BoxS.new w x
  have hz : (w.alloc (.cells #[.int .i64 x.ti, .int .i64 x.sl] 36)).heap.size = w.heap.size + 1 := by simp
  have h2 := BoxS.new (w.alloc (.cells #[.int .i64 x.ti, .int .i64 x.sl] 36)) y
  rw [hz] at h2
  exact ⟨_, _, rfl, rfl, hz, h1.old (keptNew _ _), h2, (keptNew _ _).onM (keptNew _ _)⟩


theorem ckCopyArg {k m sz : Nat} {p : Pw} {T : Nat → Dsk} {w : World} (h : Dck k m sz p T w) (x y : Sp) (hb : (hasB T sz x && hasB T sz y) = false) :
    Calls Try.prog 15 #[.pointer (some ⟨k, 0, none⟩), spV x, spV y] w fun e w' => e = .returned (.int .i64 1) ∧ KeptIn (· < w.heap.size) w w' := by
  obtain ⟨xa, xs⟩ := x
  obtain ⟨ya, ys⟩ := y
  obtain ⟨W0, W1, hW0, hW1, hz, hbx, hby, hk⟩ := box18b w ⟨xa, xs⟩ ⟨ya, ys⟩
  have c0 := hbx.c0
  have c1 := hbx.c1
  have d0 := hby.c0
  have d1 := hby.c1
  have e0 := (h.old hk).c0
  simp only at c0 c1 d0 d1 hW0 hW1
  have HC := Lib.hid fun V (hV : KeptIn (· < W1.heap.size) W1 V) => ckHas ((h.old hk).old hV) ⟨xa, xs⟩
  have HE := Lib.hid fun V (hV : KeptIn (· < W1.heap.size) W1 V) => ckHas ((h.old hk).old hV) ⟨ya, ys⟩
  simp only [spV] at HC HE ⊢
  obtain ⟨sz1, hsz1⟩ : ∃ z, w.heap.size + 1 = z := ⟨_, rfl⟩
  rw [hsz1] at hby d0 d1
  have HK := Lib.hid (And.intro hW0 (And.intro hW1 (And.intro hsz1 (And.intro hbx (And.intro hby hk)))))
  cases hx : hasB T sz ⟨xa, xs⟩ with
  | false =>
    rw [hx] at HC
    clear hW0 hW1 hz hbx hby hk h hb hx hsz1
    go_enter Try.func15, Try.ntmps15
    go_upto_region 1 with fail
    rw [HK.out.1, HK.out.2.1, HK.out.2.2.1]
    go_wp2_with (go_at_call 33; refine (HC.out _ (KeptIn.refl _ _)).mono ?_)
    rintro e w1 ⟨rfl, hk1⟩
    have HK1 := Lib.hid hk1
    clear hk1
    have HF := Lib.hid (HK.out.2.2.2.2.2.onM HK1.out)
    clear HC HE c0 c1 d0 d1 e0
    go_wp2_with fail
    go_ret
    exact ⟨rfl, HF.out⟩
  | true =>
    rw [hx, Bool.true_and] at hb
    rw [hx] at HC
    rw [hb] at HE
    clear hW0 hW1 hz hbx hby hk h hb hx hsz1
    go_enter Try.func15, Try.ntmps15
    go_upto_region 1 with fail
    rw [HK.out.1, HK.out.2.1, HK.out.2.2.1]
    go_wp2_with (go_at_call 33; refine (HC.out _ (KeptIn.refl _ _)).mono ?_)
    rintro e w1 ⟨rfl, hk1⟩
    have HK1 := Lib.hid hk1
    clear hk1
    have hby1 := HK.out.2.2.2.2.1.old HK1.out
    have hbx1 := HK.out.2.2.2.1.old HK1.out
    have d0 := hby1.c0
    have d1 := hby1.c1
    have c0 := hbx1.c0
    have c1 := hbx1.c1
    simp only at d0 d1 c0 c1
    clear hby1 hbx1
    go_wp2_with (go_at_call 33; refine (HE.out _ HK1.out).mono ?_)
    rintro e w2 ⟨rfl, hk2⟩
    have HK2 := Lib.hid (HK1.out.onM hk2)
    clear hk2 HK1 HC HE c0 c1 d0 d1 e0
    have HF := Lib.hid (HK.out.2.2.2.2.2.onM HK2.out)
    go_wp2_with fail
    go_ret
    exact ⟨rfl, HF.out⟩


/-- Copy over any contracts of Read and Write: what is read can't be. -/
theorem ckCopyNot {k m sz : Nat} {p : Pw} {T : Nat → Dsk} {w : World} (h : Dck k m sz p T w) (x y : Sp) (hbx : hasB T sz x = true) (hby : hasB T sz y = true) (r : Int) (hr : r ≠ 0) (bs : ByteArray)
    (hR : ∀ V, KeptIn (· < w.heap.size) w V → Calls Try.prog 13 #[.pointer (some ⟨k, 0, none⟩), spV x, .int .i64 0, .int .i64 sz] V fun e w' => e = .returned (.tuple #[.string bs, .int .i64 r]) ∧ KeptIn (· < V.heap.size) V w') :
    Calls Try.prog 15 #[.pointer (some ⟨k, 0, none⟩), spV x, spV y] w fun e w' => e = .returned (.int .i64 r) ∧ KeptIn (· < w.heap.size) w w' := by
  obtain ⟨xa, xs⟩ := x
  obtain ⟨ya, ys⟩ := y
  have hX := hbx
  have hY := hby
  obtain ⟨W0, W1, hW0, hW1, hz, hbx, hby, hk⟩ := box18b w ⟨xa, xs⟩ ⟨ya, ys⟩
  have c0 := hbx.c0
  have c1 := hbx.c1
  have d0 := hby.c0
  have d1 := hby.c1
  have e0 := (h.old hk).c0
  simp only at c0 c1 d0 d1 hW0 hW1
  have HC := Lib.hid fun V (hV : KeptIn (· < W1.heap.size) W1 V) => ckHas ((h.old hk).old hV) ⟨xa, xs⟩
  have HE := Lib.hid fun V (hV : KeptIn (· < W1.heap.size) W1 V) => ckHas ((h.old hk).old hV) ⟨ya, ys⟩
  simp only [spV] at HC HE ⊢
  obtain ⟨sz1, hsz1⟩ : ∃ z, w.heap.size + 1 = z := ⟨_, rfl⟩
  rw [hsz1] at hby d0 d1
  have HK := Lib.hid (And.intro hW0 (And.intro hW1 (And.intro hsz1 (And.intro hbx (And.intro hby hk)))))
  rw [hX] at HC
  rw [hY] at HE
  have HR := Lib.hid fun V (hV : KeptIn (· < W1.heap.size) W1 V) => hR V (hk.onM hV)
  simp only [spV] at HR
  have HD := Lib.hid (h.old hk)
  have r1 : (r == 0) = false := beq_eq_false_iff_ne.2 hr
  have r2 : (r != 0) = true := by simp [hr]
  have r3 : decide (r = 0) = false := by simp [hr]
  clear hW0 hW1 hz hbx hby hk h hsz1 hX hY hR hr
  go_enter Try.func15, Try.ntmps15
  go_upto_region 1 with fail
  rw [HK.out.1, HK.out.2.1, HK.out.2.2.1]
  go_wp2_with (go_at_call 33; refine (HC.out _ (KeptIn.refl _ _)).mono ?_)
  rintro e w1 ⟨rfl, hk1⟩
  have HK1 := Lib.hid hk1
  clear hk1
  have hby1 := HK.out.2.2.2.2.1.old HK1.out
  have hbx1 := HK.out.2.2.2.1.old HK1.out
  have d0 := hby1.c0
  have d1 := hby1.c1
  have c0 := hbx1.c0
  have c1 := hbx1.c1
  simp only at d0 d1 c0 c1
  clear hby1 hbx1
  go_wp2_with (go_at_call 33; refine (HE.out _ HK1.out).mono ?_)
  rintro e w2 ⟨rfl, hk2⟩
  have HK2 := Lib.hid (HK1.out.onM hk2)
  clear hk2 HK1 HC HE c0 c1 d0 d1 e0
  have hby2 := HK.out.2.2.2.2.1.old HK2.out
  have hbx2 := Lib.hid (HK.out.2.2.2.1.old HK2.out)
  have hd2 := Lib.hid (HD.out.old HK2.out)
  have c0 : ∀ q : KW w2, q.V.cell? ⟨w.heap.size, 0, none⟩ = some (.int .i64 xa) := fun q => (hbx2.out.old q.hk).c0
  have c1 : ∀ q : KW w2, q.V.cell? ⟨w.heap.size, 1, none⟩ = some (.int .i64 xs) := fun q => (hbx2.out.old q.hk).c1
  have e0 : ∀ q : KW w2, q.V.cell? ⟨k, 0, none⟩ = some (.int .i64 sz) := fun q => (hd2.out.old q.hk).c0
  have HRD := Lib.hid fun (q : KW w2) => HR.out q.V (HK2.out.onM q.hk)
  clear HR
  go_wp2_with fail
  refine wp_region_quiet_kept (by kernel_rfl) (by kernel_rfl) ?_
  repeat (go_big_quiet_step ((go_at_call 13; exact Calls.kept_of (HRD.out _))))
  refine wpQuiet_nil ?_
  intro V hw'
  obtain ⟨⟨V2, hV⟩, hw''⟩ := hw'
  subst hw''
  have HB2 := Lib.hid (And.intro (hby2.old hV) (HK2.out.onM hV))
  clear c0 c1 e0 hby2 hbx2 hd2 hV HRD
  go_wp2_with fail
  go_ret
  exact ⟨rfl, HK.out.2.2.2.2.2.onM HB2.out.2⟩

/-- Copy over any contracts of Read and Write. -/
theorem ckCopyAny {k m sz : Nat} {p : Pw} {T : Nat → Dsk} {w : World} (h : Dck k m sz p T w) (x y : Sp) (hbx : hasB T sz x = true) (hby : hasB T sz y = true) (r : Int) (bs : ByteArray) (Q : World → Prop)
    (hR : ∀ V, KeptIn (· < w.heap.size) w V → Calls Try.prog 13 #[.pointer (some ⟨k, 0, none⟩), spV x, .int .i64 0, .int .i64 sz] V fun e w' => e = .returned (.tuple #[.string bs, .int .i64 0]) ∧ KeptIn (· < V.heap.size) V w')
    (hC : ∀ V, KeptIn (· < w.heap.size) w V → Calls Try.prog 22 #[.pointer (some ⟨k, 0, none⟩), spV y, .int .i64 0, .string bs] V fun e w' => e = .returned (.int .i64 r) ∧ Q w') :
    Calls Try.prog 15 #[.pointer (some ⟨k, 0, none⟩), spV x, spV y] w fun e w' => e = .returned (.int .i64 r) ∧ Q w' := by
  obtain ⟨xa, xs⟩ := x
  obtain ⟨ya, ys⟩ := y
  have hX := hbx
  have hY := hby
  obtain ⟨W0, W1, hW0, hW1, hz, hbx, hby, hk⟩ := box18b w ⟨xa, xs⟩ ⟨ya, ys⟩
  have c0 := hbx.c0
  have c1 := hbx.c1
  have d0 := hby.c0
  have d1 := hby.c1
  have e0 := (h.old hk).c0
  simp only at c0 c1 d0 d1 hW0 hW1
  have HC := Lib.hid fun V (hV : KeptIn (· < W1.heap.size) W1 V) => ckHas ((h.old hk).old hV) ⟨xa, xs⟩
  have HE := Lib.hid fun V (hV : KeptIn (· < W1.heap.size) W1 V) => ckHas ((h.old hk).old hV) ⟨ya, ys⟩
  simp only [spV] at HC HE ⊢
  obtain ⟨sz1, hsz1⟩ : ∃ z, w.heap.size + 1 = z := ⟨_, rfl⟩
  rw [hsz1] at hby d0 d1
  have HK := Lib.hid (And.intro hW0 (And.intro hW1 (And.intro hsz1 (And.intro hbx (And.intro hby hk)))))
  rw [hX] at HC
  rw [hY] at HE
  have HR := Lib.hid fun V (hV : KeptIn (· < W1.heap.size) W1 V) => hR V (hk.onM hV)
  have HW := Lib.hid fun V (hV : KeptIn (· < W1.heap.size) W1 V) => hC V (hk.onM hV)
  simp only [spV] at HR HW
  have HD := Lib.hid (h.old hk)
  clear hW0 hW1 hz hbx hby hk h hsz1 hX hY hR hC
  go_enter Try.func15, Try.ntmps15
  go_upto_region 1 with fail
  rw [HK.out.1, HK.out.2.1, HK.out.2.2.1]
  go_wp2_with (go_at_call 33; refine (HC.out _ (KeptIn.refl _ _)).mono ?_)
  rintro e w1 ⟨rfl, hk1⟩
  have HK1 := Lib.hid hk1
  clear hk1
  have hby1 := HK.out.2.2.2.2.1.old HK1.out
  have hbx1 := HK.out.2.2.2.1.old HK1.out
  have d0 := hby1.c0
  have d1 := hby1.c1
  have c0 := hbx1.c0
  have c1 := hbx1.c1
  simp only at d0 d1 c0 c1
  clear hby1 hbx1
  go_wp2_with (go_at_call 33; refine (HE.out _ HK1.out).mono ?_)
  rintro e w2 ⟨rfl, hk2⟩
  have HK2 := Lib.hid (HK1.out.onM hk2)
  clear hk2 HK1 HC HE c0 c1 d0 d1 e0
  have hby2 := HK.out.2.2.2.2.1.old HK2.out
  have hbx2 := Lib.hid (HK.out.2.2.2.1.old HK2.out)
  have hd2 := Lib.hid (HD.out.old HK2.out)
  have c0 : ∀ q : KW w2, q.V.cell? ⟨w.heap.size, 0, none⟩ = some (.int .i64 xa) := fun q => (hbx2.out.old q.hk).c0
  have c1 : ∀ q : KW w2, q.V.cell? ⟨w.heap.size, 1, none⟩ = some (.int .i64 xs) := fun q => (hbx2.out.old q.hk).c1
  have e0 : ∀ q : KW w2, q.V.cell? ⟨k, 0, none⟩ = some (.int .i64 sz) := fun q => (hd2.out.old q.hk).c0
  have HRD := Lib.hid fun (q : KW w2) => HR.out q.V (HK2.out.onM q.hk)
  clear HR
  go_wp2_with fail
  refine wp_region_quiet_kept (by kernel_rfl) (by kernel_rfl) ?_
  repeat (go_big_quiet_step ((go_at_call 13; exact Calls.kept_of (HRD.out _))))
  refine wpQuiet_nil ?_
  intro V hw'
  obtain ⟨⟨V2, hV⟩, hw''⟩ := hw'
  subst hw''
  have HB2 := Lib.hid (And.intro (hby2.old hV) (HK2.out.onM hV))
  clear c0 c1 e0 hby2 hbx2 hd2 hV HRD
  have d0 := HB2.out.1.c0
  have d1 := HB2.out.1.c1
  simp only at d0 d1
  have HW2 := Lib.hid (HW.out V HB2.out.2)
  clear HW
  go_wp2_with (go_at_call 22; refine HW2.out.mono ?_)
  rintro e w3 ⟨rfl, hq⟩
  have HQ := Lib.hid hq
  clear hq
  go_wp2_with fail
  go_ret
  exact ⟨rfl, HQ.out⟩

end Go.Proofs.Ytmfnapbahkonhaa
