/- Chunks on two devices with one power: a Deck at a block; Size, Slots, has, within, device, first, Flush, Loose. -/
import Derived.Test.YtmfnapbahkonhaaSpt
import Derived.Test.YtmfnapbahkonhaaQk13
import Derived.Test.YtmfnapbahkonhaaFm4
import Derived.Deep.Cut
import Derived.Deep.CutRange
import Derived.Deep.CutBlock
set_option linter.unusedVariables false
namespace Go.Proofs.Ytmfnapbahkonhaa
open Go.RowKit

/-- A device: its three blocks, how many puts its map has seen, its safe sectors, its loose ones. -/
structure Dsk where
  d : Nat
  s : Nat
  b : Nat
  N : Nat
  S : List (List UInt8)
  M : Int → Option (List UInt8)
def Dsk.now (x : Dsk) : List (List UInt8) := flushed x.S x.M
/-- j of n sectors of l were written from a on. -/
def Dsk.wr (x : Dsk) (n : Nat) (a : Int) (l : List UInt8) (j : Nat) : Dsk := ⟨x.d, x.s, x.b, x.N + n, x.S, putN x.M a l j⟩
def Dsk.fl (x : Dsk) : Dsk := ⟨x.d, x.s, x.b, 0, flushed x.S x.M, fun _ => none⟩
def upT (T : Nat → Dsk) (t : Nat) (x : Dsk) : Nat → Dsk := fun i => if i = t then x else T i
theorem upT_self (T : Nat → Dsk) (t : Nat) (x : Dsk) : upT T t x t = x := if_pos rfl
theorem upT_ne (T : Nat → Dsk) (t : Nat) (x : Dsk) (i : Nat) (h : i ≠ t) : upT T t x i = T i := if_neg h

/-- How many slots a tier has. -/
def slN (T : Nat → Dsk) (sz t : Nat) : Nat := min ((T t).S.length / sz) 256
def slI (T : Nat → Dsk) (sz : Nat) (t : Int) : Int := if t = 0 then slN T sz 0 else if t = 1 then slN T sz 1 else 0
def hasB (T : Nat → Dsk) (sz : Nat) (x : Sp) : Bool := decide (0 ≤ x.sl) && decide (x.sl < slI T sz x.ti)

theorem slN_up {T : Nat → Dsk} {sz t : Nat} {x : Dsk} (h : x.S.length = (T t).S.length) (i : Nat) : slN (upT T t x) sz i = slN T sz i := by
  unfold slN upT
  by_cases e : i = t
  · subst e; rw [if_pos rfl, h]
  · rw [if_neg e]
theorem slI_up {T : Nat → Dsk} {sz t : Nat} {x : Dsk} (h : x.S.length = (T t).S.length) (i : Int) : slI (upT T t x) sz i = slI T sz i := by
  unfold slI
  rw [slN_up h, slN_up h]
theorem hasB_up {T : Nat → Dsk} {sz t : Nat} {x : Dsk} (h : x.S.length = (T t).S.length) (s : Sp) : hasB (upT T t x) sz s = hasB T sz s := by
  unfold hasB
  rw [slI_up h]
theorem slN_le {T : Nat → Dsk} {sz t : Nat} : slN T sz t ≤ 256 := Nat.min_le_right _ _
theorem slN_fits {T : Nat → Dsk} {sz t s : Nat} (h : s < slN T sz t) : s * sz + sz ≤ (T t).S.length := by
  unfold slN at h
  have h1 : s < (T t).S.length / sz := by omega
  have h2 : (s + 1) * sz ≤ (T t).S.length := Nat.le_trans (Nat.mul_le_mul_right _ (by omega : s + 1 ≤ (T t).S.length / sz)) (Nat.div_mul_le_self _ _)
  rwa [Nat.add_mul, Nat.one_mul] at h2
theorem hasB_nat {T : Nat → Dsk} {sz : Nat} {x : Sp} (h : hasB T sz x = true) : ∃ t s : Nat, x = ⟨(t : Int), (s : Int)⟩ ∧ t < 2 ∧ s < slN T sz t := by
  obtain ⟨a, b⟩ := x
  simp only [hasB, slI, Bool.and_eq_true, decide_eq_true_eq] at h
  obtain ⟨h0, h1⟩ := h
  by_cases e0 : a = 0
  · rw [if_pos e0] at h1
    exact ⟨0, b.toNat, by rw [e0, Int.toNat_of_nonneg h0]; rfl, by omega, by omega⟩
  · rw [if_neg e0] at h1
    by_cases e1 : a = 1
    · rw [if_pos e1] at h1
      exact ⟨1, b.toNat, by rw [e1, Int.toNat_of_nonneg h0]; rfl, by omega, by omega⟩
    · rw [if_neg e1] at h1
      omega
theorem slI_nat {T : Nat → Dsk} {sz t : Nat} (ht : t < 2) : slI T sz (t : Int) = slN T sz t := by
  unfold slI
  rcases (by omega : t = 0 ∨ t = 1) with rfl | rfl
  · exact if_pos rfl
  · exact (if_neg (by decide)).trans (if_pos rfl)
theorem hasB_of {T : Nat → Dsk} {sz t s : Nat} (ht : t < 2) (hs : s < slN T sz t) : hasB T sz ⟨(t : Int), (s : Int)⟩ = true := by
  simp only [hasB, Bool.and_eq_true, decide_eq_true_eq]
  rw [slI_nat ht]
  omega

/-- A Deck at block k over two devices with the power m. -/
structure Dck (k m sz : Nat) (p : Pw) (T : Nat → Dsk) (W : World) : Prop where
  box : W.heap[k]? = some (.cells #[.int .i64 sz, .pointer (some ⟨(T 0).d, 0, none⟩), .pointer (some ⟨(T 1).d, 0, none⟩), .int .i64 (slN T sz 0), .int .i64 (slN T sz 1)] 79 (0, 0))
  isP : IsP m p W
  isD : ∀ t, t < 2 → IsD (T t).d m (T t).s (T t).b (T t).N (T t).S (T t).M W
  nd : (T 0).d ≠ (T 1).d
  ns : (T 0).s ≠ (T 1).s
  nb : (T 0).b ≠ (T 1).b
  sz1 : 1 ≤ sz
  sz8 : sz ≤ 8

section
variable {k m sz : Nat} {p p' : Pw} {T : Nat → Dsk} {W W' : World}

theorem Dck.lt (h : Dck k m sz p T W) : k < W.heap.size := (Array.getElem?_eq_some_iff.1 h.box).1
theorem Dck.old (h : Dck k m sz p T W) (hk : KeptIn (· < W.heap.size) W W') : Dck k m sz p T W' :=
  ⟨(hk.block k h.lt).trans h.box, h.isP.kept hk h.isP.lt, fun t ht => (h.isD t ht).kept hk (h.isD t ht).ltd (h.isD t ht).lts (h.isD t ht).ltb, h.nd, h.ns, h.nb, h.sz1, h.sz8⟩
theorem Dck.drewN (h : Dck k m sz p T W) (n : Nat) : Dck k m sz p T (W.drewN n) := h.old ((KeptIn.refl _ W).drewN n)
theorem Dck.c0 (h : Dck k m sz p T W) : W.cell? ⟨k, 0, none⟩ = some (.int .i64 sz) := (cell_of_row _ _ 0 _ _ _ h.box).trans rfl
theorem Dck.cd (h : Dck k m sz p T W) {t : Nat} (ht : t < 2) : W.cell? ⟨k, 1 + t, none⟩ = some (.pointer (some ⟨(T t).d, 0, none⟩)) := by
  rcases (by omega : t = 0 ∨ t = 1) with rfl | rfl
  · exact (cell_of_row _ _ 1 _ _ _ h.box).trans rfl
  · exact (cell_of_row _ _ 2 _ _ _ h.box).trans rfl
theorem Dck.cs (h : Dck k m sz p T W) {t : Nat} (ht : t < 2) : W.cell? ⟨k, 3 + t, none⟩ = some (.int .i64 (slN T sz t)) := by
  rcases (by omega : t = 0 ∨ t = 1) with rfl | rfl
  · exact (cell_of_row _ _ 3 _ _ _ h.box).trans rfl
  · exact (cell_of_row _ _ 4 _ _ _ h.box).trans rfl
theorem Dck.kd (h : Dck k m sz p T W) {t : Nat} (ht : t < 2) : k ≠ (T t).d := fun e => by
  have h1 := (h.isD t ht).hd; rw [← e, h.box] at h1
  simp only [Option.some.injEq, Obj.cells.injEq] at h1
  exact absurd h1.2.1 (by decide)
theorem Dck.ks (h : Dck k m sz p T W) {t : Nat} (ht : t < 2) : k ≠ (T t).s := fun e => by
  have h1 := (h.isD t ht).hs; rw [← e, h.box] at h1
  simp only [Option.some.injEq, Obj.cells.injEq] at h1
  exact absurd h1.2.1 (by decide)
theorem Dck.kb (h : Dck k m sz p T W) {t : Nat} (ht : t < 2) : k ≠ (T t).b := (h.isD t ht).map.ne h.box
theorem Dck.km (h : Dck k m sz p T W) : k ≠ m := fun e => by
  have h1 : W.heap[m]? = _ := h.isP.1
  rw [← e, h.box] at h1
  simp only [Option.some.injEq, Obj.cells.injEq] at h1
  exact absurd h1.2.1 (by decide)
/-- The blocks of one device lie in none of the other one's. -/
theorem Dck.ap (h : Dck k m sz p T W) {t i : Nat} (ht : t < 2) (hi : i < 2) (hn : i ≠ t) :
    (T i).d ≠ (T t).d ∧ (T i).d ≠ (T t).s ∧ (T i).d ≠ (T t).b ∧ (T i).s ≠ (T t).d ∧ (T i).s ≠ (T t).s ∧ (T i).s ≠ (T t).b ∧ (T i).b ≠ (T t).d ∧ (T i).b ≠ (T t).s ∧ (T i).b ≠ (T t).b := by
  have hI := h.isD i hi
  have hT := h.isD t ht
  have hds : ∀ {a b : Nat}, a < 2 → b < 2 → (T a).d ≠ (T b).s := fun {a b} ha hb e => by
    have h1 := (h.isD a ha).hd; rw [e, (h.isD b hb).hs] at h1
    simp only [Option.some.injEq, Obj.cells.injEq] at h1
    exact absurd h1.2.1 (by decide)
  refine ⟨?_, hds hi ht, hT.map.ne hI.hd, (hds ht hi).symm, ?_, hT.map.ne hI.hs, (hI.map.ne hT.hd).symm, (hI.map.ne hT.hs).symm, ?_⟩
  · rcases (by omega : t = 0 ∧ i = 1 ∨ t = 1 ∧ i = 0) with ⟨rfl, rfl⟩ | ⟨rfl, rfl⟩
    · exact h.nd.symm
    · exact h.nd
  · rcases (by omega : t = 0 ∧ i = 1 ∨ t = 1 ∧ i = 0) with ⟨rfl, rfl⟩ | ⟨rfl, rfl⟩
    · exact h.ns.symm
    · exact h.ns
  · rcases (by omega : t = 0 ∧ i = 1 ∨ t = 1 ∧ i = 0) with ⟨rfl, rfl⟩ | ⟨rfl, rfl⟩
    · exact h.nb.symm
    · exact h.nb
/-- A device was changed. -/
theorem Dck.step (h : Dck k m sz p T W) {t : Nat} (ht : t < 2) {N' : Nat} {S' : List (List UInt8)} {M' : Int → Option (List UInt8)} (hS : S'.length = (T t).S.length)
    (hD : IsD (T t).d m (T t).s (T t).b N' S' M' W') (hP : IsP m p' W') (hk : KeptIn (fun x => x < W.heap.size ∧ x ≠ m ∧ x ≠ (T t).s ∧ x ≠ (T t).b) W W') :
    Dck k m sz p' (upT T t ⟨(T t).d, (T t).s, (T t).b, N', S', M'⟩) W' := by
  have hd : ∀ i, (upT T t ⟨(T t).d, (T t).s, (T t).b, N', S', M'⟩ i).d = (T i).d := fun i => by
    unfold upT; split
    · rename_i e; rw [e]
    · rfl
  have hs : ∀ i, (upT T t ⟨(T t).d, (T t).s, (T t).b, N', S', M'⟩ i).s = (T i).s := fun i => by
    unfold upT; split
    · rename_i e; rw [e]
    · rfl
  have hb : ∀ i, (upT T t ⟨(T t).d, (T t).s, (T t).b, N', S', M'⟩ i).b = (T i).b := fun i => by
    unfold upT; split
    · rename_i e; rw [e]
    · rfl
  obtain ⟨n1, n2, n3⟩ := h.isP.1.ne (h.isD t ht)
  refine ⟨?_, hP, fun i hi => ?_, by rw [hd, hd]; exact h.nd, by rw [hs, hs]; exact h.ns, by rw [hb, hb]; exact h.nb, h.sz1, h.sz8⟩
  · rw [hd, hd, slN_up hS, slN_up hS]
    exact (hk.block k ⟨h.lt, h.km, h.ks ht, h.kb ht⟩).trans h.box
  · by_cases e : i = t
    · subst e
      rw [upT_self]
      exact hD
    · rw [upT_ne _ _ _ _ e]
      obtain ⟨a1, a2, a3, a4, a5, a6, a7, a8, a9⟩ := h.ap ht hi e
      obtain ⟨m1, m2, m3⟩ := h.isP.1.ne (h.isD i hi)
      have hI := h.isD i hi
      exact hI.kept hk ⟨hI.ltd, m1.symm, a2, a3⟩ ⟨hI.lts, m2.symm, a5, a6⟩ ⟨hI.ltb, m3.symm, a8, a9⟩
/-- The power was used. -/
theorem Dck.pow (h : Dck k m sz p T W) (hP : IsP m p' W') (hk : KeptIn (· ≠ m) W W') : Dck k m sz p' T W' :=
  ⟨(hk.block k h.km).trans h.box, hP, fun i hi => by
    obtain ⟨m1, m2, m3⟩ := h.isP.1.ne (h.isD i hi)
    exact (h.isD i hi).kept hk m1.symm m2.symm m3.symm, h.nd, h.ns, h.nb, h.sz1, h.sz8⟩
end

/-! ### small methods -/
theorem ckSize {k m sz : Nat} {p : Pw} {T : Nat → Dsk} {w : World} (h : Dck k m sz p T w) :
    Calls Try.prog 10 #[.pointer (some ⟨k, 0, none⟩)] w fun e w' => e = .returned (.int .i64 sz) ∧ w = w' := by
  have c0 := h.c0
  clear h
  go_enter Try.func10, Try.ntmps10
  go_wp2
  go_ret
  exact ⟨rfl, rfl⟩
theorem ckSizeNil (w : World) : Calls Try.prog 10 #[.pointer none] w fun e w' => e = .returned (.int .i64 0) ∧ w = w' := by
  go_enter Try.func10, Try.ntmps10
  go_wp2
  go_ret
  exact ⟨rfl, rfl⟩

def tierB (t : Int) : Bool := t == 0 || t == 1
theorem ckIsTier (t : Int) (w : World) : Calls Try.prog 38 #[.int .i64 t] w fun e w' => e = .returned (.bool (tierB t)) ∧ w = w' := by
  unfold tierB
  by_cases h0 : t = 0
  · subst h0
    go_enter Try.func38, Try.ntmps38
    go_wp2
    go_ret
    exact ⟨rfl, rfl⟩
  · have e0 : (t == 0) = false := beq_eq_false_iff_ne.2 h0
    rw [e0, Bool.false_or]
    go_enter Try.func38, Try.ntmps38
    go_wp2
    go_ret
    exact ⟨rfl, rfl⟩

theorem ckSlotsNil (t : Int) (w : World) : Calls Try.prog 27 #[.pointer none, .int .i64 t] w fun e w' => e = .returned (.int .i64 0) ∧ w = w' := by
  go_enter Try.func27, Try.ntmps27
  go_wp2
  go_ret
  exact ⟨rfl, rfl⟩
theorem ckSlots {k m sz : Nat} {p : Pw} {T : Nat → Dsk} {w : World} (h : Dck k m sz p T w) (t : Int) :
    Calls Try.prog 27 #[.pointer (some ⟨k, 0, none⟩), .int .i64 t] w fun e w' => e = .returned (.int .i64 (slI T sz t)) ∧ w = w' := by
  obtain ⟨r, hr⟩ : ∃ r, slI T sz t = r := ⟨_, rfl⟩
  rw [hr]
  have HT := Lib.hid (ckIsTier t w)
  unfold tierB at HT
  by_cases h0 : t = 0
  · subst h0
    have c := h.cs (t := 0) (by decide)
    obtain rfl : (slN T sz 0 : Int) = r := hr
    clear h
    go_enter Try.func27, Try.ntmps27
    go_wp2_with (go_at_call 38; refine HT.out.mono ?_; rintro e w1 ⟨rfl, rfl⟩)
    go_ret
    exact ⟨rfl, rfl⟩
  · by_cases h1 : t = 1
    · subst h1
      have c := h.cs (t := 1) (by decide)
      obtain rfl : (slN T sz 1 : Int) = r := hr
      clear h
      go_enter Try.func27, Try.ntmps27
      go_wp2_with (go_at_call 38; refine HT.out.mono ?_; rintro e w1 ⟨rfl, rfl⟩)
      go_ret
      exact ⟨rfl, rfl⟩
    · have e0 : (t == 0) = false := beq_eq_false_iff_ne.2 h0
      have e1 : (t == 1) = false := beq_eq_false_iff_ne.2 h1
      rw [e0, e1] at HT
      obtain rfl : (0 : Int) = r := by rw [← hr]; unfold slI; rw [if_neg h0, if_neg h1]
      clear h hr h0 h1
      go_enter Try.func27, Try.ntmps27
      go_wp2_with (go_at_call 38; refine HT.out.mono ?_; rintro e w1 ⟨rfl, rfl⟩)
      go_ret
      exact ⟨rfl, rfl⟩

theorem ckWithin {k m sz : Nat} {p : Pw} {T : Nat → Dsk} {w : World} (h : Dck k m sz p T w) (x n : Int) (hx : I64 x) (hn : I64 n) :
    Calls Try.prog 34 #[.pointer (some ⟨k, 0, none⟩), .int .i64 x, .int .i64 n] w fun e w' => e = .returned (.bool (fits sz x n)) ∧ w = w' := by
  have c0 := h.c0
  have hm := h.sz8
  have hn2 := hn.2
  clear h
  unfold fits
  by_cases h0 : 0 ≤ x
  · by_cases h1 : 0 ≤ n
    · have b1 : wrap64 ((sz : Int) - n) = (sz : Int) - n := by unfold wrap64; omega
      obtain ⟨k', hk⟩ : ∃ k : Int, (sz : Int) - n = k := ⟨_, rfl⟩
      have HB := Lib.hid (b1.trans hk)
      rw [hk]
      clear hk b1 hm hn2 hx hn
      obtain ⟨r, hr⟩ : ∃ r, (decide (0 ≤ x) && decide (0 ≤ n) && decide (x ≤ k')) = r := ⟨_, rfl⟩
      rw [hr]
      have HR := Lib.hid hr; clear hr
      go_enter Try.func34, Try.ntmps34
      go_wp2
      go_ret
      refine ⟨?_, rfl⟩
      rw [← HR.out, ← HB.out]
      simp [h0, h1]
    · have h1' : n < 0 := by omega
      have e1 : decide (0 ≤ n) = false := by simpa using h1
      rw [e1, Bool.and_false, Bool.false_and]
      clear hm hn2 hx hn
      go_enter Try.func34, Try.ntmps34
      go_wp2
      go_ret
      exact ⟨rfl, rfl⟩
  · have h0' : x < 0 := by omega
    have e0 : decide (0 ≤ x) = false := by simpa using h0
    rw [e0, Bool.false_and, Bool.false_and]
    clear hm hn2 hx hn
    go_enter Try.func34, Try.ntmps34
    go_wp2
    go_ret
    exact ⟨rfl, rfl⟩

theorem ckHas {k m sz : Nat} {p : Pw} {T : Nat → Dsk} {w : World} (h : Dck k m sz p T w) (x : Sp) :
    Calls Try.prog 33 #[.pointer (some ⟨k, 0, none⟩), spV x] w fun e w' => e = .returned (.bool (hasB T sz x)) ∧ KeptIn (· < w.heap.size) w w' := by
  obtain ⟨a, s⟩ := x
  obtain ⟨r, hr⟩ : ∃ r, hasB T sz ⟨a, s⟩ = r := ⟨_, rfl⟩
  rw [hr]
  unfold spV
  simp only
  obtain ⟨W0, hW0⟩ : ∃ W0, w.alloc (.cells #[.int .i64 a, .int .i64 s] 36) = W0 := ⟨_, rfl⟩
  have hb : BoxS w.heap.size ⟨a, s⟩ W0 := by rw [← hW0]; exact BoxS.new w ⟨a, s⟩
  have hk : KeptIn (· < w.heap.size) w W0 := by rw [← hW0]; exact keptNew w _
  have c0 := hb.c0
  have c1 := hb.c1
  simp only at c0 c1
  obtain ⟨n, hn⟩ : ∃ n, slI T sz a = n := ⟨_, rfl⟩
  have HS := Lib.hid fun n => (ckSlots ((h.old hk).drewN n) a).mono (R' := fun e w' => e = .returned (.int .i64 (slI T sz a)) ∧ w' = W0.drewN n) fun _ _ h => ⟨h.1, h.2.symm⟩
  simp only [hn] at HS
  have HK := Lib.hid (And.intro hW0 hk)
  have HR : Hid (r = (decide (0 ≤ s) && decide (s < n))) := Lib.hid (by rw [← hr, hasB, hn])
  clear h hr hW0 hk hb hn
  by_cases h0 : 0 ≤ s
  · have e0 : decide (0 ≤ s) = true := by simpa using h0
    go_enter Try.func33, Try.ntmps33
    go_upto_region 1 with fail
    rw [HK.out.1]
    go_quiet ((go_at_call 27; exact Calls.quiet_of_same (HS.out _)))
    go_wp2
    go_ret
    refine ⟨?_, HK.out.2.drewN _⟩
    rw [HR.out, e0]
    rfl
  · have e0 : decide (0 ≤ s) = false := by simpa using h0
    have e1 : s < 0 := by omega
    go_enter Try.func33, Try.ntmps33
    go_upto_region 1 with fail
    rw [HK.out.1]
    go_quiet ((go_at_call 27; exact Calls.quiet_of_same (HS.out _)))
    go_wp2
    go_ret
    refine ⟨?_, HK.out.2.drewN _⟩
    rw [HR.out, e0]
    rfl

theorem ckDevice {k m sz : Nat} {p : Pw} {T : Nat → Dsk} {w : World} (h : Dck k m sz p T w) (t : Nat) (ht : t < 2) (s : Int) :
    Calls Try.prog 35 #[.pointer (some ⟨k, 0, none⟩), spV ⟨(t : Int), s⟩] w fun e w' => e = .returned (.pointer (some ⟨(T t).d, 0, none⟩)) ∧ KeptIn (· < w.heap.size) w w' := by
  unfold spV
  simp only
  obtain ⟨W0, hW0⟩ : ∃ W0, w.alloc (.cells #[.int .i64 (t : Int), .int .i64 s] 36) = W0 := ⟨_, rfl⟩
  have hb : BoxS w.heap.size ⟨(t : Int), s⟩ W0 := by rw [← hW0]; exact BoxS.new w ⟨(t : Int), s⟩
  have hk : KeptIn (· < w.heap.size) w W0 := by rw [← hW0]; exact keptNew w _
  have c0 := hb.c0
  have c1 := (h.old hk).cd ht
  simp only at c0 c1
  have t0 : (0 : Int) ≤ (t : Int) := by omega
  have t2 : (t : Int) < 2 := by omega
  have HK := Lib.hid (And.intro hW0 hk)
  clear h hW0 hk hb ht
  go_enter Try.func35, Try.ntmps35
  go_upto_region 1 with fail
  rw [HK.out.1]
  go_quiet (fail)
  go_wp2
  go_ret
  exact ⟨rfl, HK.out.2.drewN _⟩

theorem ckFirst {k m sz : Nat} {p : Pw} {T : Nat → Dsk} {w : World} (h : Dck k m sz p T w) (t : Int) (s f : Nat) (hs : s < 256) (hf : s * sz = f) :
    Calls Try.prog 36 #[.pointer (some ⟨k, 0, none⟩), spV ⟨t, (s : Int)⟩] w fun e w' => e = .returned (.int .i64 (f : Int)) ∧ KeptIn (· < w.heap.size) w w' := by
  unfold spV
  simp only
  obtain ⟨W0, hW0⟩ : ∃ W0, w.alloc (.cells #[.int .i64 t, .int .i64 (s : Int)] 36) = W0 := ⟨_, rfl⟩
  have hb : BoxS w.heap.size ⟨t, (s : Int)⟩ W0 := by rw [← hW0]; exact BoxS.new w ⟨t, (s : Int)⟩
  have hk : KeptIn (· < w.heap.size) w W0 := by rw [← hW0]; exact keptNew w _
  have c1 := hb.c1
  have c2 := (h.old hk).c0
  simp only at c1 c2
  have hm : (s : Int) * (sz : Int) = (f : Int) := by rw [← hf]; simp
  have hf2 : f ≤ 255 * 8 := by rw [← hf]; exact Nat.mul_le_mul (by omega) h.sz8
  have hi : IntKind.i64.wrap ((s : Int) * (sz : Int)) = (f : Int) := by rw [hm, IntKind.wrap_i64]; omega
  have HK := Lib.hid (And.intro hW0 hk)
  clear h hW0 hk hb hm hs hf hf2
  go_enter Try.func36, Try.ntmps36
  go_upto_region 1 with fail
  rw [HK.out.1]
  go_quiet (fail)
  go_wp2
  go_ret
  exact ⟨rfl, HK.out.2.drewN _⟩

end Go.Proofs.Ytmfnapbahkonhaa
