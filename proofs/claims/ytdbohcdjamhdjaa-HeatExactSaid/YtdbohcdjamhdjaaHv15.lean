/- Heats: Decay (over what Hot answers), Sum. -/
import Derived.Test.YtdbohcdjamhdjaaHt15
import Derived.Maps.RangeWalk
import Derived.OwnWalk
set_option linter.unusedVariables false
namespace Go.Proofs.Ytdbohcdjamhdjaa
open Go.RowKit Go.Maps Go.Sort

/-- The chunks that aren't cold, rising. -/
def hots (f : Int → Nat) : List Int := upTo 1024 fun c => decide (f c ≠ 0)
/-- Integers at an address that a slice has, in a block not below B. -/
def RowA (W : World) (B : Nat) (a : Option Addr) (l : List Int) : Prop :=
  l = [] ∨ ∃ g cur, a = some ⟨g, 0, none⟩ ∧ B ≤ g ∧ W.heap[g]? = some (.cells cur 3 (0, 0)) ∧ ∀ (i : Nat) (c : Int), l[i]? = some c → cur[i]? = some (Value.int .i64 c)
theorem RowA.kept {X : Nat → Prop} {W W' : World} {B : Nat} {a : Option Addr} {l : List Int} (h : RowA W B a l) (hk : KeptIn X W W') (hX : ∀ g, B ≤ g → g < W.heap.size → (∃ cur, W.heap[g]? = some (.cells cur 3 (0, 0))) → X g) : RowA W' B a l := by
  rcases h with h | ⟨g, cur, h1, h2, h3, h4⟩
  · exact .inl h
  · exact .inr ⟨g, cur, h1, h2, (hk.block g (hX g h2 (Array.getElem?_eq_some_iff.1 h3).1 ⟨cur, h3⟩)).trans h3, h4⟩
theorem RowA.at {W : World} {B : Nat} {a : Option Addr} {l : List Int} (h : RowA W B a l) {i : Nat} {c : Int} (hi : l[i]? = some c) : ∃ g, a = some ⟨g, 0, none⟩ ∧ W.cell? ⟨g, i, none⟩ = some (.int .i64 c) := by
  rcases h with h | ⟨g, cur, h1, h2, h3, h4⟩
  · rw [h] at hi; simp at hi
  · exact ⟨g, h1, by simp [World.cell?, h3, h4 i c hi]⟩
def HotS (w : World) (f : Int → Nat) (e : Ending) (w' : World) : Prop :=
  ∃ a cap, e = .returned (.slice a (hots f).length cap) ∧ RowA w' w.heap.size a (hots f) ∧ KeptIn (· < w.heap.size) w w'
def HotOk : Prop := ∀ (b m : Nat) (f : Int → Nat) (w : World), HBk b m f w → Calls Try.prog 20 #[.pointer (some ⟨b, 0, none⟩)] w (HotS w f)

theorem hots_mem {f : Int → Nat} (hr : ∀ c, f c ≠ 0 → 1 ≤ c ∧ c ≤ 1023) (c : Int) : c ∈ hots f ↔ f c ≠ 0 := by
  unfold hots
  rw [mem_upTo]
  constructor
  · rintro ⟨_, _, h⟩; simpa using h
  · intro h
    have := hr c h
    exact ⟨by omega, by omega, by simpa using h⟩
theorem hots_nodup (f : Int → Nat) : (hots f).Nodup := (upTo_sorted _ _).imp fun h e => by omega
theorem hots_length (f : Int → Nat) : (hots f).length ≤ 1024 := upTo_length _ _

/-- All heats are halved. -/
def dcy (f : Int → Nat) : Int → Nat := fun c => f c / 2
/-- .. those of the first j. -/
def dcyTo (f : Int → Nat) (l : List Int) (j : Nat) : Int → Nat := fun c => if c ∈ l.take j then f c / 2 else f c
theorem dcyTo_zero (f : Int → Nat) (l : List Int) : dcyTo f l 0 = f := by funext c; simp [dcyTo]
theorem dcyTo_at {f : Int → Nat} {l : List Int} (hn : l.Nodup) {j : Nat} {c : Int} (h : l[j]? = some c) : dcyTo f l j c = f c := by
  have : c ∉ l.take j := fun hm => by
    obtain ⟨i, hi, he⟩ := List.mem_take_iff_getElem.1 hm
    obtain ⟨h1, h2⟩ := List.getElem?_eq_some_iff.1 h
    have := List.pairwise_iff_getElem.1 hn i j (by omega) h1 (by omega)
    rw [he, h2] at this
    exact this rfl
  exact if_neg this
theorem dcyTo_succ {f : Int → Nat} {l : List Int} {j : Nat} {c : Int} (h : l[j]? = some c) : htS (dcyTo f l j) c (f c / 2) = dcyTo f l (j + 1) := by
  funext d
  unfold htS dcyTo
  rw [List.take_add_one, h]
  by_cases e : d = c
  · subst e; simp
  · rw [if_neg e]; simp [e]
theorem dcyTo_all {f : Int → Nat} (hr : ∀ c, f c ≠ 0 → 1 ≤ c ∧ c ≤ 1023) : dcyTo f (hots f) (hots f).length = dcy f := by
  funext c
  unfold dcyTo dcy
  rw [List.take_of_length_le (Nat.le_refl _)]
  by_cases h : f c = 0
  · rw [h]; split <;> rfl
  · rw [if_pos ((hots_mem hr c).2 h)]

theorem ch_wf15 (c : Int) (h1 : 0 ≤ c) (h2 : c ≤ 1024) : (Lit.int .i64 c).wf = true := by
  simp [Lit.wf, IntKind.min, IntKind.max, IntKind.signed, IntKind.bits]
  omega
theorem half15 (x : Nat) (h : x ≤ 1048576) : wrap64 ((x : Int) / 2) = ((x / 2 : Nat) : Int) := by
  unfold wrap64; omega

section
variable {b m : Nat} {f : Int → Nat} {w w' : World}
/-- What stands in Decay's loop. -/
def DcL (w w0 : World) (b m : Nat) (f : Int → Nat) (a : Option Addr) (j : Nat) (V : World) : Prop :=
  HBk b m (dcyTo f (hots f) j) V ∧ RowA V w.heap.size a (hots f) ∧ KeptIn (fun k => k < w.heap.size ∧ k ≠ m) w V
theorem ne_row {W : World} {N g : Nat} {M : Int → Option Nat} {cur : Array Value} (h : MpAt htV m N M W) (hg : W.heap[g]? = some (.cells cur 3 (0, 0))) : g ≠ m := h.ne hg

set_option maxRecDepth 100000 in
set_option maxHeartbeats 1000000 in
theorem htDecay (HO : HotOk) (H : HBk b m f w) : Calls Try.prog 15 #[.pointer (some ⟨b, 0, none⟩)] w (HtD b m (dcy f) w) := by
  have C := Lib.hid (HO b m f w H)
  have hr := H.ran
  have HM := Lib.hid (And.intro (hots_nodup f) (And.intro (hots_mem hr) (And.intro (dcyTo_all hr) (And.intro H.mx hr))))
  have hl := hots_length f
  obtain ⟨l, hll⟩ : ∃ l, hots f = l := ⟨_, rfl⟩
  have hml : m < w.heap.size := H.mp.lt
  have H0 := Lib.hid H
  have HML := Lib.hid hml
  clear H hr hml
  go_enter Try.func15, Try.ntmps15
  go_wp2_with (go_at_call 20; refine C.out.mono ?_)
  rintro e V0 hS
  unfold HotS at hS
  obtain ⟨a, cap, rfl, hrow, hk⟩ := hS
  have HL0 : Hid (DcL w w b m f a 0 V0) := Lib.hid ⟨by rw [dcyTo_zero]; exact H0.out.old hk, hrow, hk.mono fun k h => h.1⟩
  clear hrow hk C H0
  unfold DcL at HL0
  rw [hll] at HM hl HL0 ⊢
  clear hll
  obtain ⟨n, hn⟩ : ∃ n, l.length = n := ⟨_, rfl⟩
  rw [hn] at HM hl ⊢
  have HN := Lib.hid hn
  clear hn
  go_wp2_with fail
  go_loopw [3, 7] (fun _ i wr => ∃ (j : Nat) (V : World), V = wr ∧ i = .int .i64 (j : Int) ∧ j ≤ n ∧ Hid (HBk b m (dcyTo f l j) V ∧ RowA V w.heap.size a l ∧ KeptIn (fun k => k < w.heap.size ∧ k ≠ m) w V)) (fun _ i _ => n - (RowKit.intOf i).toNat)
  case atStart => exact ⟨0, _, rfl, rfl, Nat.zero_le _, HL0⟩
  case round =>
    obtain ⟨j, V, rfl, rfl, hjn, HJ⟩ := hrel
    clear HL0
    by_cases hlt : j < n
    · have j0 : (0 : Int) ≤ (j : Int) := by omega
      have j1 : (j : Int) < (n : Int) := by omega
      have hjl : j < l.length := by rw [HN.out]; exact hlt
      obtain ⟨c, hc⟩ : ∃ c, l[j]? = some c := ⟨_, List.getElem?_eq_getElem hjl⟩
      have hcm := (HM.out.2.1 c).1 (List.mem_of_getElem? hc)
      have hcr := HM.out.2.2.2.2 c hcm
      have wc := ch_wf15 c (by omega) (by omega)
      obtain ⟨g, rfl, e0⟩ := HJ.out.2.1.at hc
      have c0 := HJ.out.1.cell
      have hlk := HJ.out.1.look c wc
      rw [dcyTo_at HM.out.1 hc] at hlk
      have hmx := HM.out.2.2.2.1 c
      have CS := Lib.hid (htSet HJ.out.1 c wc (f c / 2) (fun _ => hcr) (by omega))
      rw [dcyTo_succ hc] at CS
      obtain ⟨x, hx⟩ : ∃ x, f c = x := ⟨_, rfl⟩
      rw [hx] at hlk CS
      have HH := Lib.hid (half15 x (by rw [← hx]; exact hmx))
      clear hc hcm hcr wc hjl hmx hx
      go_wp2_with fail
      rw [HH.out]
      refine CS.out.mono ?_
      rintro e V2 hD
      have HJ2 : Hid (HBk b m (dcyTo f l (j + 1)) V2 ∧ RowA V2 w.heap.size (some ⟨g, 0, none⟩) l ∧ KeptIn (fun k => k < w.heap.size ∧ k ≠ m) w V2) := Lib.hid ⟨hD.2.1, HJ.out.2.1.kept hD.2.2 (fun g _ hg ⟨cur, h⟩ => ⟨hg, HJ.out.1.mp.ne h⟩), HJ.out.2.2.trans (hD.2.2.mono fun k hk => ⟨Nat.lt_of_lt_of_le hk.1 HJ.out.2.2.size, hk.2⟩)⟩
      obtain rfl : e = .returned (.tuple #[]) := hD.1
      clear hD CS HJ e0 c0 hlk HH
      go_wp2_with fail
      go_roundw
      case rel => exact ⟨j + 1, _, rfl, by go_num, by omega, HJ2⟩
      case measure => simp only [RowKit.intOf]; omega
    · obtain rfl : j = n := by omega
      have j1 : ¬ (j : Int) < (j : Int) := by omega
      have HE : Hid (HtD b m (dcy f) w (.returned (.tuple #[])) V) := Lib.hid ⟨rfl, by rw [← HM.out.2.2.1]; exact HJ.out.1, HJ.out.2.2⟩
      clear HJ hlt
      go_wp2_with fail
      go_end0
      exact HE.out
theorem htNilDecay (w : World) : Calls Try.prog 15 #[.pointer none] w fun e w' => e = .returned (.tuple #[]) ∧ w = w' := by
  have C := Lib.hid (htNilHot w)
  go_enter Try.func15, Try.ntmps15
  go_wp2_with (go_at_call 20; refine C.out.mono ?_; rintro e _ ⟨rfl, rfl⟩)
  go_loopw [3, 7] (fun _ i wr => i = .int .i64 (0 : Int) ∧ wr = w) (fun _ _ _ => 0)
  case atStart => exact ⟨rfl, rfl⟩
  case round =>
    obtain ⟨rfl, rfl⟩ := hrel
    go_wp2_with fail
    go_end0
    exact ⟨rfl, rfl⟩
end

/-- All heats together. -/
def sumN (n : Nat) (f : Int → Nat) : Nat := ((List.range n).map fun i : Nat => f (i : Int)).sum
def sumM (n : Nat) (f : Int → Nat) (P : Int → Bool) : Nat := ((List.range n).map fun i : Nat => if P (i : Int) then f (i : Int) else 0).sum
def sumHt (f : Int → Nat) : Nat := sumN 1024 f
def sumTo (f : Int → Nat) (P : Int → Bool) : Nat := sumM 1024 f P
theorem sum_up15 {n : Nat} {f g : Nat → Nat} {i d : Nat} (hi : i < n) (h1 : g i = f i + d) (h2 : ∀ j, j ≠ i → g j = f j) : ((List.range n).map g).sum = ((List.range n).map f).sum + d := by
  induction n with
  | zero => omega
  | succ n ih =>
    rw [List.range_succ, List.map_append, List.map_append, List.sum_append, List.sum_append]
    simp only [List.map_cons, List.map_nil, List.sum_cons, List.sum_nil, Nat.add_zero]
    rcases Nat.lt_or_ge i n with h | h
    · rw [ih h, h2 n (by omega)]
      omega
    · obtain rfl : i = n := by omega
      have : (List.range i).map g = (List.range i).map f := List.map_congr_left fun j hj => h2 j (by have := List.mem_range.1 hj; omega)
      rw [this, h1]
      omega
theorem sum_le15 (n k : Nat) (g : Nat → Nat) (h : ∀ i, g i ≤ k) : ((List.range n).map g).sum ≤ n * k := by
  induction n with
  | zero => simp
  | succ n ih =>
    rw [List.range_succ, List.map_append, List.sum_append]
    simp only [List.map_cons, List.map_nil, List.sum_cons, List.sum_nil, Nat.add_zero]
    have := h n
    rw [Nat.succ_mul]
    omega
theorem sumTo_le {f : Int → Nat} (hm : ∀ c, f c ≤ 1048576) (P : Int → Bool) : sumTo f P ≤ 1073741824 :=
  sum_le15 1024 1048576 (fun i : Nat => if P (i : Int) then f (i : Int) else 0) (fun i => by split <;> first | exact hm _ | omega)
theorem sumM_none (n : Nat) (f : Int → Nat) {P : Int → Bool} (h : ∀ c, f c ≠ 0 → P c = false) : sumM n f P = 0 := by
  have := sum_le15 n 0 (fun i : Nat => if P (i : Int) then f (i : Int) else 0) (fun i => by
    by_cases h0 : f (i : Int) = 0
    · rw [h0]; split <;> omega
    · rw [h _ h0]; simp)
  unfold sumM
  omega
theorem sumM_all (n : Nat) (f : Int → Nat) {P : Int → Bool} (h : ∀ c, f c ≠ 0 → P c = true) : sumM n f P = sumN n f := by
  unfold sumM sumN
  have e : ((List.range n).map fun i : Nat => if P (i : Int) then f (i : Int) else 0) = (List.range n).map fun i : Nat => f (i : Int) := List.map_congr_left fun i _ => by
    by_cases h0 : f (i : Int) = 0
    · rw [h0]; split <;> rfl
    · rw [h _ h0]; rfl
  rw [e]
theorem sumM_step (n : Nat) (f : Int → Nat) {P Q : Int → Bool} {c : Int} (h1 : 0 ≤ c) (h2 : c < n) (hp : P c = false) (hq : Q c = true) (h : ∀ d, d ≠ c → f d ≠ 0 → Q d = P d) : sumM n f Q = sumM n f P + f c := by
  obtain ⟨i, rfl⟩ : ∃ i : Nat, c = i := ⟨c.toNat, by omega⟩
  unfold sumM
  refine sum_up15 (i := i) (by omega) ?_ fun j hj => ?_
  · simp [hp, hq]
  · by_cases h0 : f (j : Int) = 0
    · simp [h0]
    · simp only [h (j : Int) (by omega) h0]
theorem sumTo_none (f : Int → Nat) {P : Int → Bool} (h : ∀ c, f c ≠ 0 → P c = false) : sumTo f P = 0 := sumM_none _ f h
theorem sumTo_all (f : Int → Nat) {P : Int → Bool} (h : ∀ c, f c ≠ 0 → P c = true) : sumTo f P = sumHt f := sumM_all _ f h
theorem sumTo_step (f : Int → Nat) {P Q : Int → Bool} {c : Int} (h1 : 0 ≤ c) (h2 : c < 1024) (hp : P c = false) (hq : Q c = true) (h : ∀ d, d ≠ c → f d ≠ 0 → Q d = P d) : sumTo f Q = sumTo f P + f c := sumM_step _ f h1 h2 hp hq h

theorem invK15 (key : Value) (kl : Lit) (h : keyOf Try.prog 3 key = some kl) : ∃ x : Int, key = .int .i64 x := by
  obtain ⟨x, h1, _⟩ := Maps.keyOf_int_inv Try.underlying3 h
  exact ⟨x, h1⟩
theorem invV15 (v : Value) (y : DataW Nat × List MemPlace) (h : mpR htV v = some y) : ∃ c, v = htV c := by
  obtain ⟨a, h1, _⟩ := mpR_inv h
  exact ⟨a, h1⟩
theorem keyLit15 {q : Int} {kl : Lit} (h : keyOf Try.prog 3 (.int .i64 q) = some kl) : kl = .int .i64 q ∧ (Lit.int .i64 q).wf = true := by
  obtain ⟨x, h1, h2, h3⟩ := Maps.keyOf_int_inv Try.underlying3 h
  cases h1
  exact ⟨h2, h3⟩
theorem sameKey15 (a b : Int) : (Lit.int .i64 a).sameKey (.int .i64 b) = decide (a = b) := by
  by_cases h : a = b
  · subst h; simp [Lit.sameKey]
  · simp [Lit.sameKey, h]

section
variable {b m : Nat} {f : Int → Nat} {w w' : World}
set_option maxRecDepth 100000 in
set_option maxHeartbeats 1000000 in
theorem htSum (H : HBk b m f w) : Calls Try.prog 21 #[.pointer (some ⟨b, 0, none⟩)] w fun e w' => e = .returned (.int .i64 (sumHt f : Int)) ∧ KeptIn (· < w.heap.size) w w' := by
  have c0 := H.cell
  obtain ⟨D, hown, hsays⟩ := H.mp
  have hlt := hown.lt
  have HD := Lib.hid (And.intro hsays (And.intro H.ran H.mx))
  clear H
  go_enter Try.func21, Try.ntmps21
  go_wp2_with (first | (at_range; refine wpList_range_own _ rfl _ 68 rfl 3 3 mpLaw Try.underlying68 (mpR htV) m 1024 D rfl hown ?_; intro w0 hrg0 hg0 hs0))
  obtain ⟨R, hR⟩ : ∃ R, w.heap.size = R := ⟨_, rfl⟩
  have HR0 : Hid (w0.ranges Try.prog 3 (mpR htV) m R 1024 D (Maps.has D) (Maps.size D) ∧ Maps.size D ≤ 1024 ∧ KeptIn (· < R) w w0) := Lib.hid ⟨by rw [← hR]; exact hrg0, hown.size_le, (KeptIn.refl _ w).grown (fun k h => by rw [← hR] at h; exact h) hg0 (fun g e => by cases e)⟩
  have HR := Lib.hid hR
  have HLT := Lib.hid hlt
  rw [hR]
  clear hrg0 hg0 hs0 hown hR c0 hsays hlt
  go_wp2_with fail
  go_simp
  go_loopw [3, 5] (fun s _ wr => ∃ (t cnt acc : Nat) (left : Lit → Bool) (U : World), U = wr ∧ s = .int .i64 (acc : Int) ∧ acc ≤ 1073741824 ∧ Hid (U.ranges Try.prog 3 (mpR htV) m R 1024 D left cnt ∧ acc = sumTo f (fun q => decide (f q ≠ 0) && !left (.int .i64 q)) ∧ (∀ q, left (.int .i64 q) = true → f q ≠ 0) ∧ KeptIn (· < R) w U)) (fun _ _ wr => wr.rangeLeft m R)
  case atStart => exact ⟨0, _, 0, _, _, rfl, rfl, by omega, Lib.hid ⟨HR0.out.1, by
    refine (sumTo_none f fun c hc => ?_).symm
    rw [HD.out.1.has, htM, if_neg hc]
    simp, fun q hq => (by
      rw [HD.out.1.has] at hq
      intro h0
      rw [htM, if_pos h0] at hq
      cases hq), HR0.out.2.2⟩⟩
  case round =>
    obtain ⟨t, cnt, acc, left, U, rfl, rfl, hacc, HU⟩ := hrel
    clear HR0
    have hrg := HU.out.1
    go_wp2_with (first | (at_next; refine wpList_next_ranges _ rfl _ rfl 3 mpLaw (mpR htV) (fun q : Int => .int .i64 q) htV invK15 invV15 m R 1024 D left cnt rfl hrg ?_ ?_))
    · intro hc0 hl0
      have HE : Hid (acc = sumHt f ∧ KeptIn (· < R) w U) := Lib.hid ⟨by
        rw [HU.out.2.1]
        exact sumTo_all f fun c hc => by rw [hl0, decide_eq_true hc]; rfl, HU.out.2.2.2⟩
      clear HU hrg hl0 hc0
      go_wp2_with fail
      go_ret
      exact ⟨by rw [HE.out.1]; rfl, by rw [HR.out]; exact HE.out.2⟩
    · intro q z kl yv yp w1 cnt1 hkey hlk hv hat hrg1 hlt1 hg1 hs1 hen
      obtain ⟨hkl, hwq⟩ := keyLit15 hkey
      subst hkl
      have hfq := HU.out.2.2.1 q hlk
      have hMz : htM f q = some z := by
        have h0 : htM f q = some (f q) := by rw [htM, if_neg hfq]
        have h1 := HD.out.1.at' q (f q) h0 (.held 0)
        rw [hat] at h1
        rw [mpR_mk htV_inj z] at hv
        simp only [Option.some.injEq, Prod.mk.injEq] at hv
        rw [← hv.1] at h1
        simp only [DataW.held.injEq] at h1
        rw [h0, h1]
      have hz : z = f q := by
        rw [htM, if_neg hfq] at hMz
        exact (Option.some.inj hMz).symm
      have hqr := HD.out.2.1 q hfq
      have hst : sumTo f (fun c => decide (f c ≠ 0) && !(left (.int .i64 c) && !(Lit.int .i64 c).sameKey (.int .i64 q))) = acc + z := by
        rw [HU.out.2.1, hz]
        refine sumTo_step f (by omega) (by omega) (by simp [hlk]) (by simp [hfq, sameKey15]) fun d hd h0 => ?_
        simp [sameKey15, hd]
      have hle := sumTo_le HD.out.2.2 (fun c => decide (f c ≠ 0) && !(left (.int .i64 c) && !(Lit.int .i64 c).sameKey (.int .i64 q)))
      rw [hst] at hle
      have hUR : ∃ o1 a1 a2 a3, U.heap[R]? = some (.mapIter o1 a1 a2 a3) := by
        obtain ⟨es, clock, since, seen, c0, _, _, _, _, h5, _⟩ := hrg
        exact ⟨_, _, _, _, h5⟩
      have hk1 : KeptIn (· < R) w w1 := HU.out.2.2.2.trans ((KeptIn.refl _ U).grown (fun k h => by obtain ⟨_, _, _, _, h5⟩ := hUR; exact Nat.lt_trans h (Array.getElem?_eq_some_iff.1 h5).1) hg1 (fun g e => by cases e; omega))
      have HN2 : Hid (w1.ranges Try.prog 3 (mpR htV) m R 1024 D (fun z => left z && !z.sameKey (.int .i64 q)) cnt1 ∧ acc + z = sumTo f (fun c => decide (f c ≠ 0) && !(left (.int .i64 c) && !(Lit.int .i64 c).sameKey (.int .i64 q))) ∧ (∀ c, (left (.int .i64 c) && !(Lit.int .i64 c).sameKey (.int .i64 q)) = true → f c ≠ 0) ∧ KeptIn (· < R) w w1) := Lib.hid ⟨hrg1, hst.symm, fun c hc => HU.out.2.2.1 c (by rw [Bool.and_eq_true] at hc; exact hc.1), hk1⟩
      have HT := Lib.hid (And.intro hrg.left_eq hlt1)
      unfold htV at hen
      try simp only at hen
      have z0 : (0 : Int) ≤ (z : Int) := by omega
      have a0 : (0 : Int) ≤ (acc : Int) := by omega
      have s1 : (acc : Int) + (z : Int) ≤ 1073741824 := by omega
      clear hkey hlk hv hat hrg1 hlt1 hg1 hs1 hfq hMz hz hqr hst hUR hk1 hrg HU hwq
      go_wp2_with fail
      go_roundw
      case rel => exact ⟨t + 1, cnt1, acc + z, _, _, rfl, by go_num, hle, HN2⟩
      case measure =>
        have h1 := HN2.out.1.left_eq
        have h2 := HT.out.1
        have h3 := HT.out.2
        omega
end

end Go.Proofs.Ytdbohcdjamhdjaa
