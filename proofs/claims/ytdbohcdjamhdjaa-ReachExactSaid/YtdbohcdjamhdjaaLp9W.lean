import Derived.Test.YtdbohcdjamhdjaaLo9W
import Derived.Deep.Cut
import Derived.Deep.RegionHeld3
/- The reference's look at whatever nodes: an inner node, its kids. -/
set_option linter.unusedVariables false
namespace Go.Proofs.Ytdbohcdjamhdjaa
open Go.RowKit

theorem StX.box {V : World} {T B0 : Nat} {X : Nat → Prop} {o : Option (List Int)} (h : StX V T B0 X o) : ∃ pv qv b, V.heap[T]? = some (.cells #[pv, qv, .bool b] 78 (0, 0)) ∧ T < B0 ∧ B0 ≤ V.heap.size := by
  cases o with
  | none =>
    obtain ⟨⟨pv, qv, hb⟩, h1, h2⟩ := h
    exact ⟨pv, qv, true, hb, h1, h2⟩
  | some ms =>
    obtain ⟨pv, qv, qs, h1, _⟩ := h
    exact ⟨pv, qv, false, h1.box, h1.lt, h1.le⟩
theorem StX.old {V V' : World} {T B0 : Nat} {X : Nat → Prop} {o : Option (List Int)} (h : StX V T B0 X o) (hk : KeptIn (· < V.heap.size) V V') : StX V' T B0 X o := by
  cases o with
  | none =>
    obtain ⟨⟨pv, qv, hb⟩, h1, h2⟩ := h
    exact ⟨⟨pv, qv, (hk.block T (by omega)).trans hb⟩, h1, Nat.le_trans h2 hk.size⟩
  | some ms =>
    obtain ⟨pv, qv, qs, h1, h2, h3⟩ := h
    exact ⟨pv, qv, qs, h1.old hk, h2, h3⟩
theorem StX.less {V : World} {T B0 : Nat} {X X' : Nat → Prop} {o : Option (List Int)} (h : StX V T B0 X o) (hX : ∀ k, X' k → X k) : StX V T B0 X' o := by
  cases o with
  | none => exact h
  | some ms =>
    obtain ⟨pv, qv, qs, h1, h2, h3⟩ := h
    exact ⟨pv, qv, qs, h1, h2, fun k hk => h3 k (hX k hk)⟩
theorem StX.with {V V' : World} {T B0 xb : Nat} {X : Nat → Prop} {o : Option (List Int)} (h : StX V T B0 X o) (hk : KeptIn (· < V.heap.size) V V') (hx : V.heap.size ≤ xb) : StX V' T B0 (fun k => X k ∨ k = xb) o := by
  cases o with
  | none => exact StX.old (X := X) (o := none) h hk
  | some ms =>
    obtain ⟨pv, qv, qs, h1, h2, h3⟩ := h
    refine ⟨pv, qv, qs, h1.old hk, h2, fun k hX e => ?_⟩
    rcases hX with hX | rfl
    · exact h3 k hX e
    · have := (rowS_lt h1.qrow k e).2
      omega

/-- What stands in the loop over a node's kids. -/
structure LkK9 (w : World) (T B0 y ab ao np c2 : Nat) (L : Int) (ps : Pairs) (X : Nat → Prop) (o : Option (List Int)) (V : World) : Prop where
  st : StX V T B0 X o
  leaf : BoxL y L (some ⟨ab, ao, none⟩) np c2 V
  isps : IsPs V (some ⟨ab, ao, none⟩) ps
  low : ab < T
  kept : KeptIn (LkY w T B0) w V
  pk : ∀ k, X k → V.heap[k]? = w.heap[k]?
section
variable {w V V' : World} {T B0 y ab ao np c2 : Nat} {L : Int} {ps : Pairs} {X : Nat → Prop} {o o' : Option (List Int)}
theorem LkK9.go (h : LkK9 w T B0 y ab ao np c2 L ps X o V) (hk : KeptIn (LkY V T B0) V V') (hs : StX V' T B0 X o') (h1 : ∀ k, X k → V'.heap[k]? = V.heap[k]?) : LkK9 w T B0 y ab ao np c2 L ps X o' V' := by
  obtain ⟨pv, qv, b, hb, hT, hB⟩ := h.st.box
  have hab := h.low
  refine ⟨hs, h.leaf.kept hk ⟨h.leaf.lt, fun e => ?_, .inr ⟨_, _, _, h.leaf, by decide, by decide⟩⟩, psAt h.isps hk (fun p e => by cases e; exact ⟨by show ab < _; omega, by show ab ≠ _; omega, .inl (by show ab < _; omega)⟩), h.low, lky_trans h.kept hk, fun k hX => (h1 k hX).trans (h.pk k hX)⟩
  subst e
  have := Eq.trans h.leaf.symm hb
  simp at this
theorem LkK9.old (h : LkK9 w T B0 y ab ao np c2 L ps X o V) (hX : ∀ k, X k → k < w.heap.size) (hk : KeptIn (· < V.heap.size) V V') : LkK9 w T B0 y ab ao np c2 L ps X o V' :=
  h.go (lky_old hk) (h.st.old hk) (fun k h9 => hk.block k (Nat.lt_of_lt_of_le (hX k h9) h.kept.size))
theorem LkK9.prb (h : LkK9 w T B0 y ab ao np c2 L ps X o V) (hp : PrB w T X) {xb : Nat} {cs : Array Value} {fr : Nat × Nat} (hb : V.heap[xb]? = some (.cells cs 82 fr)) : PrB V T (fun k => X k ∨ k = xb) := by
  intro k hk
  rcases hk with hk | rfl
  · obtain ⟨h1, h2, cs', fr', h3⟩ := hp k hk
    exact ⟨Nat.lt_of_lt_of_le h1 h.kept.size, h2, cs', fr', (h.pk k hk).trans h3⟩
  · refine ⟨(Array.getElem?_eq_some_iff.1 hb).1, fun e => ?_, cs, fr, hb⟩
    obtain ⟨pv, qv, b, hb2, _⟩ := h.st.box
    subst e
    have := hb.symm.trans hb2
    simp at this
end
theorem lev9 {L : Int} (h : 0 < L) (h7 : L ≤ 7) : ∃ L1, L - 1 = L1 ∧ wrap64 L1 = L1 ∧ IntKind.i64.wrap L1 = L1 := ⟨L - 1, rfl, by unfold wrap64; omega, by rw [IntKind.wrap_i64]; omega⟩


set_option maxRecDepth 100000 in
set_option maxHeartbeats 8000000 in
theorem r8lookKids {NA : List NdA} {s H T B0 ix p cap : Nat} {X : Nat → Prop} {root has : Bool} {lv L : Int} {lo hig : Nat} {ps qs : Pairs} {w : World} {pv qv : Value} {ms : List Int} {la : Option Addr} (h : LkAt w T B0 pv qv ms qs) (hqs : qs.length ≤ 15 * ms.length) (hpq : ∀ k, X k → qv.ownBlock ≠ some k) (hp : PrB w T X) (hsh : IsShA w s H NA) (hD : H ≤ T) (hla : w.cell? ⟨s, 0, none⟩ = some (.slice la NA.length cap)) (hix : ix < NA.length) (hqi : ix + 1 = p) (hnd : NA[ix] = (L, ps)) (hin : (p : Int) ∉ ms) (hml : ms.length ≤ 510) {hi : Nat} (hlv : if root = true then lv = -1 else 0 ≤ lv) (hL : 0 < L) (hen : EntA root lv lo (L, ps)) (hhi : hi < 18446744073709551616) (hhas : (root = false ∧ has = true ∧ hi + 1 = hig) ∨ (has = false ∧ hi = 18446744073709551615)) (hom : OkM NA.length (ms ++ [(p : Int)]))
    (f : Nat → Nat → Int → List Int → Option (List Int)) (hf : ∀ lo' hi' q m m', f lo' hi' q m = some m' → OkM NA.length m → OkM NA.length m' ∧ ∃ qs, m' = m ++ qs)
    (hK : ∀ (V : World) (X' : Nat → Prop) (lo' hi' hig' : Nat) (has' : Bool) (v : Nat) (m : List Int), StX V T B0 X' (some m) → PrB V T X' → OkM NA.length m → IsShA V s H NA → V.cell? ⟨s, 0, none⟩ = some (.slice la NA.length cap) → hi' < 18446744073709551616 → ((has' = true ∧ hi' + 1 = hig') ∨ (has' = false ∧ hi' = 18446744073709551615)) → (1 ≤ v ∧ v ≤ 511) →
      Calls Try.prog 35 #[.pointer (some ⟨T, 0, none⟩), .slice la NA.length cap, .int .i64 (v : Int), .int .i64 (L - 1), .int .u64 (lo' : Int), .bool has', .int .u64 (hig' : Int)] V (LkR V T B0 X' (f lo' hi' (v : Int) m)))
    {o : Option (List Int)} (hO1 : (∀ i, i < ps.length → keyAt ps i ≤ hi) → o = kidsTo f ps hi ps.length (ms ++ [(p : Int)])) (hO2 : ∀ i, i < ps.length → hi < keyAt ps i → o = none) :
    Calls Try.prog 35 #[.pointer (some ⟨T, 0, none⟩), .slice la NA.length cap, .int .i64 (p : Int), .int .i64 lv, .int .u64 (lo : Int), .bool has, .int .u64 (hig : Int)] w (LkR w T B0 X o) := by
  have HEN := Lib.hid (And.intro hen (And.intro hlv hhas))
  have HHH : Hid ((has = true ∧ hi + 1 = hig) ∨ (has = false ∧ hi = 18446744073709551615)) := Lib.hid (hhas.imp (fun h => h.2) id)
  have HO := Lib.hid (And.intro hO1 hO2)
  have HCK : Hid (∀ V, KeptIn (LkY w T B0) w V → IsShA V s H NA ∧ V.cell? ⟨s, 0, none⟩ = some (.slice la NA.length cap)) := Lib.hid fun V hk => by
    have hk2 : KeptIn (· < H) w V := hk.mono fun k hk => lky_low h hD hk
    exact ⟨hsh.kept hk2, (World.cell?_of_block (a := ⟨s, 0, none⟩) (hk2.block s hsh.ds)).trans hla⟩
  have HKF := Lib.hid (And.intro hK (And.intro hf (And.intro hom hhi)))
  obtain ⟨L1, HLV'⟩ := lev9 hL (good_parts hen.1).2.1
  have HLV := Lib.hid HLV'
  have HGV := Lib.hid (And.intro (good_vals hen.1 (by show ¬ L = 0; omega)) (good_rises hen.1))
  have hLb : (L == 0) = false := by rw [beq_eq_false_iff_ne]; omega
  have hLn : ¬ L = 0 := by omega
  have hLd : decide (0 < L) = true := decide_eq_true hL
  clear hlv hen hhas hO1 hO2 hK hf hom hhi HLV'
  obtain ⟨b, off, rfl, hbH, hnode⟩ := lk_nodeG h hsh hD hla hix
  rw [hnd] at hnode
  have h20 : ps.length ≤ 1000 := by have := hsh.small ix hix; rw [hnd] at this; exact this
  have hN := hsh.len
  obtain ⟨a, pc, rfl⟩ := row_sliceI h.prow
  obtain ⟨m, hm⟩ : ∃ m, ms.length = m := ⟨_, rfl⟩
  rw [hm] at h hml
  obtain ⟨p1, p2, p3, p4, p5, p6⟩ := lk_in (p := p) (n := NA.length) (by omega) (by omega) hN
  have c0 := h.c0
  have c2 := h.c2
  have hI : IntsL w a ms := by
    have h1 := h.prow
    rw [← hm] at h1
    exact rowIntsL h1 (by unfold maxLen; omega)
  obtain ⟨nn, hnn⟩ : ∃ nn, NA.length = nn := ⟨_, rfl⟩
  have hmI : (m : Int) ≤ 511 := by omega
  have HI := Lib.hid (And.intro hI (And.intro hin hm))
  have HPX := Lib.hid (And.intro hp hpq)
  have HH := Lib.hid (And.intro hsh (And.intro hD (And.intro hml (And.intro hqs (And.intro hN h)))))
  have HNN := Lib.hid hnn
  have HQI := Lib.hid (And.intro hqi (And.intro hix (And.intro hbH (And.intro h20 hnode))))
  rw [hnn] at hla p3 p4 p6 ⊢
  have HL := Lib.hid hla
  clear hI hm hin hsh hD hml h hla hnn hp hpq hqs hnode hqi hix hN hbH hnd h20
  go_enter Try.func35, Try.ntmps35
  go_wp2_with fail
  go_loopw [14] (fun i wr => ∃ (j : Nat), w = wr ∧ j ≤ m ∧ i = .int .i64 (j : Int)) (fun i _ => m - (RowKit.intOf i).toNat)
  case atStart => exact ⟨0, rfl, Nat.zero_le _, rfl⟩
  case round =>
    obtain ⟨j, rfl, hj, rfl⟩ := hrel
    by_cases hlt : j < m
    · have d0 : (0 : Int) ≤ (j : Int) := by omega
      have d1 : (j : Int) < (m : Int) := by omega
      have hjm : j < ms.length := by rw [HI.out.2.2]; exact hlt
      obtain ⟨gb, off2, rfl, hb, hc⟩ := HI.out.1.cells (by omega)
      have y0 := hc j hjm
      have hxp : ms.getD j 0 ≠ (p : Int) := fun e => HI.out.2.1 (by rw [← e, List.getD_eq_getElem?_getD, List.getElem?_eq_getElem hjm, Option.getD_some]; exact List.getElem_mem hjm)
      obtain ⟨x, hx⟩ : ∃ x, ms.getD j 0 = x := ⟨_, rfl⟩
      rw [hx] at y0 hxp
      have x1 : (x == (p : Int)) = false := by rw [beq_eq_false_iff_ne]; exact hxp
      clear hc hjm hx hb
      go_wp2_with fail
      go_roundw
      case rel => exact ⟨j + 1, trivial, by omega, by go_num⟩
      case measure => simp only [RowKit.intOf]; omega
    · have d1 : ¬ (j : Int) < (m : Int) := by omega
      obtain ⟨hqi, hix, hbH, h20, hnode⟩ := HQI.out
      have hml : m ≤ 510 := HH.out.2.2.1
      have hrow := HH.out.2.2.2.2.2.prow
      have hBw := HH.out.2.2.2.2.2.le
      obtain ⟨ip, hip, hp0, hp1, hp2⟩ := info_parts infoInt8
      go_wp2_with (at_builtin; refine wpList_append_own _ rfl _ _ 23 rfl B0 3 ip _ 1 8 Try.underlying23 hip hp0 hp1 hp2 rfl (by decide) _ _ _ rfl (hrow.alloc _) ⟨w.heap.size, 0, none⟩ 1 1 [.int .i64 (p : Int)] rfl rfl (World.news_of_block (cs := #[.int .i64 (p : Int)]) (t := 3) (fr := (0, 0)) (heap_alloc_new w _)) (by simp [Value.oneCell']) (by unfold maxLen; have := HI.out.2.2; omega) (by have := HI.out.2.2; omega) (by rw [World.size_alloc]; exact Nat.le_succ_of_le hBw) ?_)
      intro v' w8 hown hgrow _
      rw [HI.out.2.2] at hown
      obtain ⟨av, cv, rfl⟩ := row_sliceI hown
      obtain ⟨⟨z0, z1⟩, hat, hkp⟩ := lk_page HH.out.2.2.2.2.2 HI.out.2.2 hgrow hown
      have hk9 := lk_kept (T := T) (i := 0) (u := .slice av (m + 1) cv) hgrow
      have hpk : ∀ k, X k → (w8.setCell ⟨T, 0, none⟩ (.slice av (m + 1) cv)).heap[k]? = w.heap[k]? := fun k hk => hk9.block k ⟨(HPX.out.1 k hk).1, (HPX.out.1 k hk).2.1, by
        obtain ⟨cs, fr, h9⟩ := (HPX.out.1 k hk).2.2
        exact rowS_ne HH.out.2.2.2.2.2.prow h9 (by decide)⟩
      clear hk9
      obtain ⟨a2, c2', n1, n2, n3', n4'⟩ := hnode _ hkp
      replace n1 : (w8.setCell ⟨T, 0, none⟩ (.slice av (m + 1) cv)).cell? ⟨b, off + ix * 2, none⟩ = some (.int .i64 L) := n1
      replace n2 : (w8.setCell ⟨T, 0, none⟩ (.slice av (m + 1) cv)).cell? ⟨b, off + ix * 2 + 1, none⟩ = some (.slice a2 ps.length c2') := n2
      have n3 : IsPs (w8.setCell ⟨T, 0, none⟩ (.slice av (m + 1) cv)) a2 ps := n3'
      have n4 : 0 < ps.length → ∀ p, a2 = some p → p.block < H := n4'
      clear n3' n4'
      obtain ⟨-, -, i3⟩ := lk_idx hqi (by have := HH.out.2.2.2.2.1; omega)
      have i4 : (0 : Int) ≤ (ix : Int) := by omega
      have i5 : (ix : Int) < (nn : Int) := by have := HNN.out; omega
      obtain ⟨W2, hW2⟩ : ∃ W2, w8.setCell ⟨T, 0, none⟩ (.slice av (m + 1) cv) = W2 := ⟨_, rfl⟩
      obtain ⟨np, hnp⟩ : ∃ np, ps.length = np := ⟨_, rfl⟩
      have HGD : Hid (∀ V, KeptIn (· < W2.heap.size) W2 V → Calls Try.prog 45 #[leafV L a2 np c2'] V fun e w' => e = .returned (.bool (goodN L ps)) ∧ KeptIn (· < V.heap.size) V w') := Lib.hid fun V hk => by
        have := r5Good L a2 c2' ps V (by rw [← hW2] at hk; exact n3.old hk)
        rw [hnp] at this
        exact this
      obtain ⟨y, hy⟩ : ∃ y, w8.heap.size = y := ⟨_, rfl⟩
      have hy2 : W2.heap.size = y := by rw [← hW2, ← hy]; simp
      rw [hnp] at n2
      rw [hW2] at hat hkp n1 n2 n3 hpk
      have HV : Hid (∀ V, KeptIn (· < (W2.alloc (.cells #[.int .i64 L, .slice a2 np c2'] 27)).heap.size) (W2.alloc (.cells #[.int .i64 L, .slice a2 np c2'] 27)) V → BoxL y L a2 np c2' V ∧ IsPs V a2 ps ∧ KeptIn (· < W2.heap.size) W2 V) := Lib.hid fun V hk => by
        have hka : KeptIn (· < W2.heap.size) W2 (W2.alloc (.cells #[.int .i64 L, .slice a2 np c2'] 27)) := (KeptIn.refl _ W2).alloc (fun _ h => h) _
        have hkv := hka.go hk
        refine ⟨?_, n3.old hkv, hkv⟩
        have hb := BoxL.new W2 L a2 np c2'
        rw [hy2] at hb
        exact hb.kept hk hb.lt
      have HA := Lib.hid (And.intro hat (And.intro hkp (And.intro n3 (And.intro n4 hpk))))
      have HNP := Lib.hid hnp
      clear hat hkp n3 n4 hnode hown hgrow hrow hBw hip hp0 hp1 hp2 hnp hpk hqi hix hbH h20
      unfold leafV at HGD
      have HK0 : Hid (∀ ab ao, a2 = some ⟨ab, ao, none⟩ → ∀ V, IsPs V a2 ps → ∀ i, i < np → V.cell? ⟨ab, ao + i * 2, none⟩ = some (.int .u64 (keyAt ps i : Int)) ∧ V.cell? ⟨ab, ao + i * 2 + 1, none⟩ = some (.int .u64 (valAt ps i : Int))) := Lib.hid fun ab ao e V hV i hi => by
        have hl := HNP.out
        obtain ⟨b9, o9, e9, _, h9⟩ := hV.cells (by omega)
        rw [e] at e9
        cases e9
        exact h9 i (by omega)
      have hnpI : (np : Int) ≤ 1000 := by have := HNP.out; have := HQI.out.2.2.2.1; omega
      obtain ⟨i6, -⟩ := lk_idx9 (show ix ≤ 511 by have h1 := HQI.out.2.1; have h2 := HH.out.2.2.2.2.1; omega)
      obtain ⟨hg, h0', hrt⟩ := HEN.out.1
      rw [show goodN L ps = true from hg] at HGD
      obtain ⟨ab, ao, e2, _, _⟩ := HA.out.2.2.1.cells h0'
      have HLO : Hid (ab < T) := Lib.hid (Nat.lt_of_lt_of_le (HA.out.2.2.2.1 h0' _ e2) HH.out.2.1)
      subst e2
      have HL15 : Hid (ps.length ≤ 15) := Lib.hid (good_parts hg).2.2
      have h0 : 0 < np := by rw [← HNP.out]; exact h0'
      have hnp1 : (0 : Int) < (np : Int) := by omega
      have hnp2 : ((np : Int) == 0) = false := by rw [beq_eq_false_iff_ne]; omega
      have hnp3 : ¬ (np : Int) = 0 := by omega
      have hnp4 : decide ((np : Int) = 0) = false := decide_eq_false hnp3
      have HFT : Hid (∀ i, i < np → keyAt ps i < 18446744073709551616) := Lib.hid fun i hi => (HA.out.2.2.1.fits.at (by rw [HNP.out]; exact hi)).1
      have hnpJ : (np : Int) ≤ 15 := by have := HNP.out; have := HL15.out; omega
      cases root with
      | true =>
        obtain rfl : lv = -1 := by simpa using HEN.out.2.1
        obtain ⟨rfl, h9⟩ : has = false ∧ hi = 18446744073709551615 := by
          rcases HEN.out.2.2 with h | h
          · cases h.1
          · exact h
        have HHI := Lib.hid h9
        have hn2 : ¬ (np : Int) < 2 := by
          have h1 : L = 0 ∨ 1 < ps.length := by simpa using hrt
          have := HNP.out
          omega
        have hn3 : decide ((np : Int) < 2) = false := decide_eq_false hn2
        clear hg h0' hrt h0 h9
        go_wp2_with (first
          | (go_at_call 45; refine (HGD.out _ ((KeptIn.refl _ _).alloc (fun _ h => h) _)).mono ?_; rintro e V ⟨rfl, hk⟩; have HVV := Lib.hid (HV.out V hk); have y0 := HVV.out.1.c0; have y1 := HVV.out.1.c1; clear hk))
        have HF0 : Hid (LkK9 w T B0 y ab ao np c2' L ps X (kidsTo f ps hi 0 (ms ++ [(p : Int)])) V) := Lib.hid ⟨⟨_, _, qs, HA.out.1.old HVV.out.2.2, by rw [List.length_append, List.length_singleton]; have := HH.out.2.2.2.1; omega, HPX.out.2⟩, HVV.out.1, HVV.out.2.1, HLO.out, lky_trans HA.out.2.1 (lky_old HVV.out.2.2), fun k hk => (HVV.out.2.2.block k (Nat.lt_of_lt_of_le (HPX.out.1 k hk).1 HA.out.2.1.size)).trans (HA.out.2.2.2.2 k hk)⟩
        clear y0 y1 HVV i6 i3 HA HV HGD n1 n2 z0 z1
        go_loopw [16, 17] (fun i _ wr => ∃ (j : Nat) (Z : World), Z = wr ∧ j ≤ np ∧ i = .int .i64 (j : Int) ∧ Hid (∀ u, u < j → keyAt ps u ≤ hi) ∧ Hid (LkK9 w T B0 y ab ao np c2' L ps X (kidsTo f ps hi j (ms ++ [(p : Int)])) Z)) (fun i _ _ => np - (RowKit.intOf i).toNat)
        case atStart => exact ⟨0, _, rfl, Nat.zero_le _, rfl, Lib.hid fun u hu => absurd hu (by omega), HF0⟩
        case round =>
          obtain ⟨j2, Z, rfl, hj2, rfl, HU, HJ⟩ := hrel
          clear HF0
          by_cases hlt2 : j2 < np
          · have y0 := HJ.out.leaf.c0
            have y1 := HJ.out.leaf.c1
            obtain ⟨x0, x1⟩ := HK0.out ab ao rfl Z HJ.out.isps j2 hlt2
            obtain ⟨j3, hj3⟩ : ∃ j3, j2 + 1 = j3 := ⟨_, rfl⟩
            obtain ⟨kk, hkk⟩ : ∃ kk, keyAt ps j2 = kk := ⟨_, rfl⟩
            obtain ⟨vv, hvv⟩ : ∃ vv, valAt ps j2 = vv := ⟨_, rfl⟩
            have hvv9 := HGV.out.1 j2 (by rw [HNP.out]; exact hlt2)
            rw [hvv] at hvv9 x1
            rw [hkk] at x0
            obtain ⟨v0, v1⟩ := vv_int hvv9
            have HKV := Lib.hid (And.intro hkk hvv)
            obtain ⟨xb, hxb⟩ : ∃ xb, Z.heap.size = xb := ⟨_, rfl⟩
            obtain ⟨X2, hX2⟩ : ∃ X2, Z.alloc (.cells #[.int .u64 (kk : Int), .int .u64 (vv : Int)] 82) = X2 := ⟨_, rfl⟩
            have hk2 : KeptIn (· < Z.heap.size) Z X2 := by rw [← hX2]; exact (KeptIn.refl _ Z).alloc (fun _ h => h) _
            have hbx : X2.heap[xb]? = some (.cells #[.int .u64 (kk : Int), .int .u64 (vv : Int)] 82 (0, 0)) := by rw [← hX2, ← hxb]; exact heap_alloc_new Z _
            have w0 : X2.cell? ⟨xb, 0, none⟩ = some (.int .u64 (kk : Int)) := (cell_of_row _ _ 0 _ _ _ hbx).trans rfl
            have w1 : X2.cell? ⟨xb, 1, none⟩ = some (.int .u64 (vv : Int)) := (cell_of_row _ _ 1 _ _ _ hbx).trans rfl
            have HXL : Hid (∀ k, X k → k < w.heap.size) := Lib.hid fun k hk => (HPX.out.1 k hk).1
            have HJ2 : Hid (LkK9 w T B0 y ab ao np c2' L ps X (kidsTo f ps hi j2 (ms ++ [(p : Int)])) X2) := Lib.hid (HJ.out.old HXL.out hk2)
            have t0 := HJ2.out.leaf.c0
            have t1 := HJ2.out.leaf.c1
            have HLT := Lib.hid (And.intro hlt2 hj3)
            have hfitk := HFT.out j2 hlt2
            rw [hkk] at hfitk
            have HCX : Hid (∀ (V : World) (hig' : Nat) (has' : Bool), KeptIn (· < X2.heap.size) X2 V → ((has' = true ∧ highOf ps j2 hi + 1 = hig') ∨ (has' = false ∧ highOf ps j2 hi = 18446744073709551615)) → Calls Try.prog 35 #[.pointer (some ⟨T, 0, none⟩), .slice (some ⟨b, off, none⟩) nn cap, .int .i64 (vv : Int), .int .i64 (L - 1), .int .u64 (kk : Int), .bool has', .int .u64 (hig' : Int)] V (LkR V T B0 (fun k => X k ∨ k = xb) (kidsTo f ps hi j3 (ms ++ [(p : Int)])))) := Lib.hid fun V hig' has' hk hh => by
              have hJV := HJ2.out.old HXL.out hk
              have hbV := (hk.block xb (Array.getElem?_eq_some_iff.1 hbx).1).trans hbx
              have hpx := hJV.prb HPX.out.1 hbV
              have hst := HJ.out.st.with (hk2.go hk) (Nat.le_of_eq hxb)
              obtain ⟨c1, c2⟩ := HCK.out V hJV.kept
              rw [← hj3, kidsTo, hkk, hvv]
              cases ho : kidsTo f ps hi j2 (ms ++ [(p : Int)]) with
              | none =>
                rw [ho] at hst
                exact r8lookBad hst hpx _ _ _ _ _ _ _ _
              | some m9 =>
                rw [ho] at hst
                have := HKF.out.1 V (fun k => X k ∨ k = xb) kk (highOf ps j2 hi) hig' has' vv m9 hst hpx (kidsTo_ok HKF.out.2.1 ho HKF.out.2.2.1).1 c1 c2 (highOf_lt ps j2 hi hJV.isps.fits HKF.out.2.2.2) hh hvv9
                rw [HNN.out] at this
                exact this
            have HNX : Hid (∀ V V', KeptIn (· < X2.heap.size) X2 V → StX V' T B0 (fun k => X k ∨ k = xb) (kidsTo f ps hi j3 (ms ++ [(p : Int)])) → KeptIn (LkY V T B0) V V' → (∀ k, (fun k => X k ∨ k = xb) k → V'.heap[k]? = V.heap[k]?) → LkK9 w T B0 y ab ao np c2' L ps X (kidsTo f ps hi j3 (ms ++ [(p : Int)])) V' ∧ V'.heap[xb]? = some (.cells #[.int .u64 (kk : Int), .int .u64 (vv : Int)] 82 (0, 0))) := Lib.hid fun V V' h1 h2 h3 h4 =>
              ⟨(HJ2.out.old HXL.out h1).go h3 (h2.less fun k hk => .inl hk) fun k hk => h4 k (.inl hk), (h4 xb (.inr rfl)).trans ((h1.block xb (Array.getElem?_eq_some_iff.1 hbx).1).trans hbx)⟩
            have HU2 : Hid (∀ u, u < j3 → keyAt ps u ≤ hi) := Lib.hid fun u hu => by
              rcases Nat.lt_or_ge u j2 with h | h
              · exact HU.out u h
              · obtain rfl : u = j2 := by have := HLT.out.2; omega
                rw [HKV.out.1]
                have := HHI.out
                omega
            obtain ⟨d3, d4, d5, d6, d7⟩ := lk3_idx hlt2 (by have := HNP.out; have := HL15.out; omega) hj3
            by_cases hl3 : j3 < np
            · have d8 := lk3_lt.1 hl3
              obtain ⟨k0, -⟩ := HK0.out ab ao rfl Z HJ.out.isps j3 hl3
              have k1 := (HK0.out ab ao rfl X2 HJ2.out.isps j3 hl3).1
              have hHi : highOf ps j2 hi + 1 = keyAt ps j3 := highOf_next HGV.out.2 (by rw [HNP.out]; exact hl3) hj3
              obtain ⟨kn, hkn⟩ : ∃ kn, keyAt ps j3 = kn := ⟨_, rfl⟩
              rw [hkn] at k0 k1 hHi
              have hkd : KeptIn (· < X2.heap.size) X2 X2.drew := (KeptIn.refl _ X2).drew
              have HC2 : Hid (Calls Try.prog 35 #[.pointer (some ⟨T, 0, none⟩), .slice (some ⟨b, off, none⟩) nn cap, .int .i64 (IntKind.i64.wrap (vv : Int)), .int .i64 (IntKind.i64.wrap (L - 1)), .int .u64 (kk : Int), .bool true, .int .u64 (kn : Int)] X2.drew (LkR X2.drew T B0 (fun k => X k ∨ k = xb) (kidsTo f ps hi j3 (ms ++ [(p : Int)])))) := Lib.hid (by
                have := HCX.out X2.drew kn true hkd (.inl ⟨rfl, hHi⟩)
                rw [lk3_wrap v0 v1, HLV.out.1, HLV.out.2.2]
                rw [HLV.out.1] at this
                exact this)
              have HSV : Hid (∀ V', StX V' T B0 (fun k => X k ∨ k = xb) (kidsTo f ps hi j3 (ms ++ [(p : Int)])) → KeptIn (LkY X2.drew T B0) X2.drew V' → (∀ k, (fun k => X k ∨ k = xb) k → V'.heap[k]? = X2.drew.heap[k]?) → V'.cell? ⟨xb, 0, none⟩ = some (.int .u64 (kk : Int)) ∧ V'.cell? ⟨xb, 1, none⟩ = some (.int .u64 (vv : Int)) ∧ V'.cell? ⟨y, 0, none⟩ = some (.int .i64 L) ∧ V'.cell? ⟨y, 1, none⟩ = some (.slice (some ⟨ab, ao, none⟩) np c2') ∧ V'.cell? ⟨ab, ao + j3 * 2, none⟩ = some (.int .u64 (kn : Int))) := Lib.hid fun V' h2 h3 h4 => by
                obtain ⟨hF4, hb4⟩ := HNX.out X2.drew V' hkd h2 h3 h4
                exact ⟨(cell_of_row _ _ 0 _ _ _ hb4).trans rfl, (cell_of_row _ _ 1 _ _ _ hb4).trans rfl, hF4.leaf.c0, hF4.leaf.c1, by rw [← hkn]; exact (HK0.out ab ao rfl V' hF4.isps j3 hl3).1⟩
              have HKD := Lib.hid hkd
              clear hkd HCX hHi hkn hvv9 hk2 hbx hlt2 hl3 hj3 hkk hvv hfitk HJ HJ2
              go_wp2_with fail
              go_region_held3 (fun w' => w'.cell? ⟨xb, 0, none⟩ = some (.int .u64 (kk : Int)) ∧ w'.cell? ⟨xb, 1, none⟩ = some (.int .u64 (vv : Int)) ∧ w'.cell? ⟨y, 0, none⟩ = some (.int .i64 L) ∧ w'.cell? ⟨y, 1, none⟩ = some (.slice (some ⟨ab, ao, none⟩) np c2') ∧ w'.cell? ⟨ab, ao + j3 * 2, none⟩ = some (.int .u64 (kn : Int)))
                (first | exact ⟨w0, w1, t0, t1, k1⟩ | exact HSV.out _ hs4 hk4 hp4)
                (first | (go_at_call 35; refine HC2.out.mono ?_; rintro e V4 ⟨rfl, hs4, hk4, hp4⟩))
              have HOK := Lib.hid (HNX.out _ _ HKD.out hs4 hk4 hp4).1
              clear hs4 hk4 hp4
              clear w0 w1 t0 t1 k0 k1 x0 x1 y0 y1
              go_wp2_with fail
              go_roundw
              case rel => exact ⟨j3, _, rfl, by have := HLT.out; omega, rfl, HU2, HOK⟩
              case measure => have := HLT.out; simp only [RowKit.intOf]; omega
            · have d8 := lk3_lt.2 hl3
              have hHl : highOf ps j2 hi = hi := by
                unfold highOf
                exact if_neg (by rw [HNP.out, HLT.out.2]; exact hl3)
              have HC : Hid (Calls Try.prog 35 #[.pointer (some ⟨T, 0, none⟩), .slice (some ⟨b, off, none⟩) nn cap, .int .i64 (vv : Int), .int .i64 L1, .int .u64 (kk : Int), .bool false, .int .u64 (hig : Int)] X2 (LkR X2 T B0 (fun k => X k ∨ k = xb) (kidsTo f ps hi j3 (ms ++ [(p : Int)])))) := Lib.hid (by
                have := HCX.out X2 hig false (KeptIn.refl _ X2) (by rw [hHl]; simpa using HHH.out)
                rw [HLV.out.1] at this
                exact this)
              have l7 := HLV.out.1
              have l8 := HLV.out.2.1
              have HKR : Hid (KeptIn (· < X2.heap.size) X2 X2) := Lib.hid (KeptIn.refl _ X2)
              clear HCX hHl hvv9 hk2 hbx hlt2 hl3 hj3 hkk hvv hfitk HJ HJ2
              go_wp2_with (first | (go_at_call 35; refine HC.out.mono ?_; rintro e V4 ⟨rfl, hs4, hk4, hp4⟩; have HOK := Lib.hid (HNX.out X2 V4 HKR.out hs4 hk4 hp4).1; clear hs4 hk4 hp4))
              clear w0 w1 t0 t1 x0 x1 y0 y1
              go_roundw
              case rel => exact ⟨j3, _, rfl, by have := HLT.out; omega, rfl, HU2, HOK⟩
              case measure => have := HLT.out; simp only [RowKit.intOf]; omega
          · have d4 := lk3_lt.2 hlt2
            have y0 := HJ.out.leaf.c0
            have y1 := HJ.out.leaf.c1
            have HE : Hid (LkR w T B0 X o (.returned (.tuple #[])) Z) := Lib.hid (by
              obtain rfl : j2 = np := by omega
              rw [HO.out.1 fun u hu => HU.out u (by have := HNP.out; omega), HNP.out]
              exact ⟨rfl, HJ.out.st, HJ.out.kept, HJ.out.pk⟩)
            clear HJ
            go_wp2_with fail
            go_end0
            exact HE.out
      | false =>
        have hlv0 : 0 ≤ lv := by simpa using HEN.out.2.1
        have hlv1 : decide (0 ≤ lv) = true := decide_eq_true hlv0
        obtain ⟨hll, hkl⟩ : L = lv ∧ keyAt ps 0 = lo := by simpa using hrt
        subst hll
        have HQ0 : Hid (∀ V, IsPs V (some ⟨ab, ao, none⟩) ps → V.cell? ⟨ab, ao, none⟩ = some (.int .u64 (lo : Int))) := Lib.hid fun V hV => by
          have := (HK0.out ab ao rfl V hV 0 h0).1
          rw [hkl] at this
          simpa using this
        clear hg h0' hrt h0 hkl
        go_wp2_with (first
          | (go_at_call 45; refine (HGD.out _ ((KeptIn.refl _ _).alloc (fun _ h => h) _)).mono ?_; rintro e V ⟨rfl, hk⟩; have HVV := Lib.hid (HV.out V hk); have y0 := HVV.out.1.c0; have y1 := HVV.out.1.c1; have q0 := HQ0.out V HVV.out.2.1; clear hk))
        cases has with
        | false =>
          have HHI := Lib.hid (show hi = 18446744073709551615 by
            rcases HEN.out.2.2 with h | h
            · cases h.2.1
            · exact h.2)
          have HF0 : Hid (LkK9 w T B0 y ab ao np c2' L ps X (kidsTo f ps hi 0 (ms ++ [(p : Int)])) V) := Lib.hid ⟨⟨_, _, qs, HA.out.1.old HVV.out.2.2, by rw [List.length_append, List.length_singleton]; have := HH.out.2.2.2.1; omega, HPX.out.2⟩, HVV.out.1, HVV.out.2.1, HLO.out, lky_trans HA.out.2.1 (lky_old HVV.out.2.2), fun k hk => (HVV.out.2.2.block k (Nat.lt_of_lt_of_le (HPX.out.1 k hk).1 HA.out.2.1.size)).trans (HA.out.2.2.2.2 k hk)⟩
          clear y0 y1 HVV i6 i3 HA HV HGD n1 n2 z0 z1
          go_loopw [16, 17] (fun i _ wr => ∃ (j : Nat) (Z : World), Z = wr ∧ j ≤ np ∧ i = .int .i64 (j : Int) ∧ Hid (∀ u, u < j → keyAt ps u ≤ hi) ∧ Hid (LkK9 w T B0 y ab ao np c2' L ps X (kidsTo f ps hi j (ms ++ [(p : Int)])) Z)) (fun i _ _ => np - (RowKit.intOf i).toNat)
          case atStart => exact ⟨0, _, rfl, Nat.zero_le _, rfl, Lib.hid fun u hu => absurd hu (by omega), HF0⟩
          case round =>
            obtain ⟨j2, Z, rfl, hj2, rfl, HU, HJ⟩ := hrel
            clear HF0
            by_cases hlt2 : j2 < np
            · have y0 := HJ.out.leaf.c0
              have y1 := HJ.out.leaf.c1
              obtain ⟨x0, x1⟩ := HK0.out ab ao rfl Z HJ.out.isps j2 hlt2
              obtain ⟨j3, hj3⟩ : ∃ j3, j2 + 1 = j3 := ⟨_, rfl⟩
              obtain ⟨kk, hkk⟩ : ∃ kk, keyAt ps j2 = kk := ⟨_, rfl⟩
              obtain ⟨vv, hvv⟩ : ∃ vv, valAt ps j2 = vv := ⟨_, rfl⟩
              have hvv9 := HGV.out.1 j2 (by rw [HNP.out]; exact hlt2)
              rw [hvv] at hvv9 x1
              rw [hkk] at x0
              obtain ⟨v0, v1⟩ := vv_int hvv9
              have HKV := Lib.hid (And.intro hkk hvv)
              obtain ⟨xb, hxb⟩ : ∃ xb, Z.heap.size = xb := ⟨_, rfl⟩
              obtain ⟨X2, hX2⟩ : ∃ X2, Z.alloc (.cells #[.int .u64 (kk : Int), .int .u64 (vv : Int)] 82) = X2 := ⟨_, rfl⟩
              have hk2 : KeptIn (· < Z.heap.size) Z X2 := by rw [← hX2]; exact (KeptIn.refl _ Z).alloc (fun _ h => h) _
              have hbx : X2.heap[xb]? = some (.cells #[.int .u64 (kk : Int), .int .u64 (vv : Int)] 82 (0, 0)) := by rw [← hX2, ← hxb]; exact heap_alloc_new Z _
              have w0 : X2.cell? ⟨xb, 0, none⟩ = some (.int .u64 (kk : Int)) := (cell_of_row _ _ 0 _ _ _ hbx).trans rfl
              have w1 : X2.cell? ⟨xb, 1, none⟩ = some (.int .u64 (vv : Int)) := (cell_of_row _ _ 1 _ _ _ hbx).trans rfl
              have HXL : Hid (∀ k, X k → k < w.heap.size) := Lib.hid fun k hk => (HPX.out.1 k hk).1
              have HJ2 : Hid (LkK9 w T B0 y ab ao np c2' L ps X (kidsTo f ps hi j2 (ms ++ [(p : Int)])) X2) := Lib.hid (HJ.out.old HXL.out hk2)
              have t0 := HJ2.out.leaf.c0
              have t1 := HJ2.out.leaf.c1
              have HLT := Lib.hid (And.intro hlt2 hj3)
              have hfitk := HFT.out j2 hlt2
              rw [hkk] at hfitk
              have HCX : Hid (∀ (V : World) (hig' : Nat) (has' : Bool), KeptIn (· < X2.heap.size) X2 V → ((has' = true ∧ highOf ps j2 hi + 1 = hig') ∨ (has' = false ∧ highOf ps j2 hi = 18446744073709551615)) → Calls Try.prog 35 #[.pointer (some ⟨T, 0, none⟩), .slice (some ⟨b, off, none⟩) nn cap, .int .i64 (vv : Int), .int .i64 (L - 1), .int .u64 (kk : Int), .bool has', .int .u64 (hig' : Int)] V (LkR V T B0 (fun k => X k ∨ k = xb) (kidsTo f ps hi j3 (ms ++ [(p : Int)])))) := Lib.hid fun V hig' has' hk hh => by
                have hJV := HJ2.out.old HXL.out hk
                have hbV := (hk.block xb (Array.getElem?_eq_some_iff.1 hbx).1).trans hbx
                have hpx := hJV.prb HPX.out.1 hbV
                have hst := HJ.out.st.with (hk2.go hk) (Nat.le_of_eq hxb)
                obtain ⟨c1, c2⟩ := HCK.out V hJV.kept
                rw [← hj3, kidsTo, hkk, hvv]
                cases ho : kidsTo f ps hi j2 (ms ++ [(p : Int)]) with
                | none =>
                  rw [ho] at hst
                  exact r8lookBad hst hpx _ _ _ _ _ _ _ _
                | some m9 =>
                  rw [ho] at hst
                  have := HKF.out.1 V (fun k => X k ∨ k = xb) kk (highOf ps j2 hi) hig' has' vv m9 hst hpx (kidsTo_ok HKF.out.2.1 ho HKF.out.2.2.1).1 c1 c2 (highOf_lt ps j2 hi hJV.isps.fits HKF.out.2.2.2) hh hvv9
                  rw [HNN.out] at this
                  exact this
              have HNX : Hid (∀ V V', KeptIn (· < X2.heap.size) X2 V → StX V' T B0 (fun k => X k ∨ k = xb) (kidsTo f ps hi j3 (ms ++ [(p : Int)])) → KeptIn (LkY V T B0) V V' → (∀ k, (fun k => X k ∨ k = xb) k → V'.heap[k]? = V.heap[k]?) → LkK9 w T B0 y ab ao np c2' L ps X (kidsTo f ps hi j3 (ms ++ [(p : Int)])) V' ∧ V'.heap[xb]? = some (.cells #[.int .u64 (kk : Int), .int .u64 (vv : Int)] 82 (0, 0))) := Lib.hid fun V V' h1 h2 h3 h4 =>
                ⟨(HJ2.out.old HXL.out h1).go h3 (h2.less fun k hk => .inl hk) fun k hk => h4 k (.inl hk), (h4 xb (.inr rfl)).trans ((h1.block xb (Array.getElem?_eq_some_iff.1 hbx).1).trans hbx)⟩
              have HU2 : Hid (∀ u, u < j3 → keyAt ps u ≤ hi) := Lib.hid fun u hu => by
                rcases Nat.lt_or_ge u j2 with h | h
                · exact HU.out u h
                · obtain rfl : u = j2 := by have := HLT.out.2; omega
                  rw [HKV.out.1]
                  have := HHI.out
                  omega
              obtain ⟨d3, d4, d5, d6, d7⟩ := lk3_idx hlt2 (by have := HNP.out; have := HL15.out; omega) hj3
              by_cases hl3 : j3 < np
              · have d8 := lk3_lt.1 hl3
                obtain ⟨k0, -⟩ := HK0.out ab ao rfl Z HJ.out.isps j3 hl3
                have k1 := (HK0.out ab ao rfl X2 HJ2.out.isps j3 hl3).1
                have hHi : highOf ps j2 hi + 1 = keyAt ps j3 := highOf_next HGV.out.2 (by rw [HNP.out]; exact hl3) hj3
                obtain ⟨kn, hkn⟩ : ∃ kn, keyAt ps j3 = kn := ⟨_, rfl⟩
                rw [hkn] at k0 k1 hHi
                have hkd : KeptIn (· < X2.heap.size) X2 X2.drew := (KeptIn.refl _ X2).drew
                have HC2 : Hid (Calls Try.prog 35 #[.pointer (some ⟨T, 0, none⟩), .slice (some ⟨b, off, none⟩) nn cap, .int .i64 (IntKind.i64.wrap (vv : Int)), .int .i64 (IntKind.i64.wrap (L - 1)), .int .u64 (kk : Int), .bool true, .int .u64 (kn : Int)] X2.drew (LkR X2.drew T B0 (fun k => X k ∨ k = xb) (kidsTo f ps hi j3 (ms ++ [(p : Int)])))) := Lib.hid (by
                  have := HCX.out X2.drew kn true hkd (.inl ⟨rfl, hHi⟩)
                  rw [lk3_wrap v0 v1, HLV.out.1, HLV.out.2.2]
                  rw [HLV.out.1] at this
                  exact this)
                have HSV : Hid (∀ V', StX V' T B0 (fun k => X k ∨ k = xb) (kidsTo f ps hi j3 (ms ++ [(p : Int)])) → KeptIn (LkY X2.drew T B0) X2.drew V' → (∀ k, (fun k => X k ∨ k = xb) k → V'.heap[k]? = X2.drew.heap[k]?) → V'.cell? ⟨xb, 0, none⟩ = some (.int .u64 (kk : Int)) ∧ V'.cell? ⟨xb, 1, none⟩ = some (.int .u64 (vv : Int)) ∧ V'.cell? ⟨y, 0, none⟩ = some (.int .i64 L) ∧ V'.cell? ⟨y, 1, none⟩ = some (.slice (some ⟨ab, ao, none⟩) np c2') ∧ V'.cell? ⟨ab, ao + j3 * 2, none⟩ = some (.int .u64 (kn : Int))) := Lib.hid fun V' h2 h3 h4 => by
                  obtain ⟨hF4, hb4⟩ := HNX.out X2.drew V' hkd h2 h3 h4
                  exact ⟨(cell_of_row _ _ 0 _ _ _ hb4).trans rfl, (cell_of_row _ _ 1 _ _ _ hb4).trans rfl, hF4.leaf.c0, hF4.leaf.c1, by rw [← hkn]; exact (HK0.out ab ao rfl V' hF4.isps j3 hl3).1⟩
                have HKD := Lib.hid hkd
                clear hkd HCX hHi hkn hvv9 hk2 hbx hlt2 hl3 hj3 hkk hvv hfitk HJ HJ2
                go_wp2_with fail
                go_region_held3 (fun w' => w'.cell? ⟨xb, 0, none⟩ = some (.int .u64 (kk : Int)) ∧ w'.cell? ⟨xb, 1, none⟩ = some (.int .u64 (vv : Int)) ∧ w'.cell? ⟨y, 0, none⟩ = some (.int .i64 L) ∧ w'.cell? ⟨y, 1, none⟩ = some (.slice (some ⟨ab, ao, none⟩) np c2') ∧ w'.cell? ⟨ab, ao + j3 * 2, none⟩ = some (.int .u64 (kn : Int)))
                  (first | exact ⟨w0, w1, t0, t1, k1⟩ | exact HSV.out _ hs4 hk4 hp4)
                  (first | (go_at_call 35; refine HC2.out.mono ?_; rintro e V4 ⟨rfl, hs4, hk4, hp4⟩))
                have HOK := Lib.hid (HNX.out _ _ HKD.out hs4 hk4 hp4).1
                clear hs4 hk4 hp4
                clear w0 w1 t0 t1 k0 k1 x0 x1 y0 y1
                go_wp2_with fail
                go_roundw
                case rel => exact ⟨j3, _, rfl, by have := HLT.out; omega, rfl, HU2, HOK⟩
                case measure => have := HLT.out; simp only [RowKit.intOf]; omega
              · have d8 := lk3_lt.2 hl3
                have hHl : highOf ps j2 hi = hi := by
                  unfold highOf
                  exact if_neg (by rw [HNP.out, HLT.out.2]; exact hl3)
                have HC : Hid (Calls Try.prog 35 #[.pointer (some ⟨T, 0, none⟩), .slice (some ⟨b, off, none⟩) nn cap, .int .i64 (vv : Int), .int .i64 L1, .int .u64 (kk : Int), .bool false, .int .u64 (hig : Int)] X2 (LkR X2 T B0 (fun k => X k ∨ k = xb) (kidsTo f ps hi j3 (ms ++ [(p : Int)])))) := Lib.hid (by
                  have := HCX.out X2 hig false (KeptIn.refl _ X2) (by rw [hHl]; simpa using HHH.out)
                  rw [HLV.out.1] at this
                  exact this)
                have l7 := HLV.out.1
                have l8 := HLV.out.2.1
                have HKR : Hid (KeptIn (· < X2.heap.size) X2 X2) := Lib.hid (KeptIn.refl _ X2)
                clear HCX hHl hvv9 hk2 hbx hlt2 hl3 hj3 hkk hvv hfitk HJ HJ2
                go_wp2_with (first | (go_at_call 35; refine HC.out.mono ?_; rintro e V4 ⟨rfl, hs4, hk4, hp4⟩; have HOK := Lib.hid (HNX.out X2 V4 HKR.out hs4 hk4 hp4).1; clear hs4 hk4 hp4))
                clear w0 w1 t0 t1 x0 x1 y0 y1
                go_roundw
                case rel => exact ⟨j3, _, rfl, by have := HLT.out; omega, rfl, HU2, HOK⟩
                case measure => have := HLT.out; simp only [RowKit.intOf]; omega
            · have d4 := lk3_lt.2 hlt2
              have y0 := HJ.out.leaf.c0
              have y1 := HJ.out.leaf.c1
              have HE : Hid (LkR w T B0 X o (.returned (.tuple #[])) Z) := Lib.hid (by
                obtain rfl : j2 = np := by omega
                rw [HO.out.1 fun u hu => HU.out u (by have := HNP.out; omega), HNP.out]
                exact ⟨rfl, HJ.out.st, HJ.out.kept, HJ.out.pk⟩)
              clear HJ
              go_wp2_with fail
              go_end0
              exact HE.out
        | true =>
          have HHI := Lib.hid (show hi + 1 = hig by
            rcases HEN.out.2.2 with h | h
            · exact h.2.2
            · cases h.1)
          have HF0 : Hid (LkK9 w T B0 y ab ao np c2' L ps X (kidsTo f ps hi 0 (ms ++ [(p : Int)])) V) := Lib.hid ⟨⟨_, _, qs, HA.out.1.old HVV.out.2.2, by rw [List.length_append, List.length_singleton]; have := HH.out.2.2.2.1; omega, HPX.out.2⟩, HVV.out.1, HVV.out.2.1, HLO.out, lky_trans HA.out.2.1 (lky_old HVV.out.2.2), fun k hk => (HVV.out.2.2.block k (Nat.lt_of_lt_of_le (HPX.out.1 k hk).1 HA.out.2.1.size)).trans (HA.out.2.2.2.2 k hk)⟩
          clear y0 y1 HVV i6 i3 HA HV HGD n1 n2 z0 z1
          go_loopw [16, 17] (fun i _ wr => ∃ (j : Nat) (Z : World), Z = wr ∧ j ≤ np ∧ i = .int .i64 (j : Int) ∧ Hid (∀ u, u < j → keyAt ps u ≤ hi) ∧ Hid (LkK9 w T B0 y ab ao np c2' L ps X (kidsTo f ps hi j (ms ++ [(p : Int)])) Z)) (fun i _ _ => np - (RowKit.intOf i).toNat)
          case atStart => exact ⟨0, _, rfl, Nat.zero_le _, rfl, Lib.hid fun u hu => absurd hu (by omega), HF0⟩
          case round =>
            obtain ⟨j2, Z, rfl, hj2, rfl, HU, HJ⟩ := hrel
            clear HF0
            by_cases hlt2 : j2 < np
            · have y0 := HJ.out.leaf.c0
              have y1 := HJ.out.leaf.c1
              obtain ⟨x0, x1⟩ := HK0.out ab ao rfl Z HJ.out.isps j2 hlt2
              obtain ⟨j3, hj3⟩ : ∃ j3, j2 + 1 = j3 := ⟨_, rfl⟩
              obtain ⟨kk, hkk⟩ : ∃ kk, keyAt ps j2 = kk := ⟨_, rfl⟩
              obtain ⟨vv, hvv⟩ : ∃ vv, valAt ps j2 = vv := ⟨_, rfl⟩
              have hvv9 := HGV.out.1 j2 (by rw [HNP.out]; exact hlt2)
              rw [hvv] at hvv9 x1
              rw [hkk] at x0
              obtain ⟨v0, v1⟩ := vv_int hvv9
              have HKV := Lib.hid (And.intro hkk hvv)
              obtain ⟨xb, hxb⟩ : ∃ xb, Z.heap.size = xb := ⟨_, rfl⟩
              obtain ⟨X2, hX2⟩ : ∃ X2, Z.alloc (.cells #[.int .u64 (kk : Int), .int .u64 (vv : Int)] 82) = X2 := ⟨_, rfl⟩
              have hk2 : KeptIn (· < Z.heap.size) Z X2 := by rw [← hX2]; exact (KeptIn.refl _ Z).alloc (fun _ h => h) _
              have hbx : X2.heap[xb]? = some (.cells #[.int .u64 (kk : Int), .int .u64 (vv : Int)] 82 (0, 0)) := by rw [← hX2, ← hxb]; exact heap_alloc_new Z _
              have w0 : X2.cell? ⟨xb, 0, none⟩ = some (.int .u64 (kk : Int)) := (cell_of_row _ _ 0 _ _ _ hbx).trans rfl
              have w1 : X2.cell? ⟨xb, 1, none⟩ = some (.int .u64 (vv : Int)) := (cell_of_row _ _ 1 _ _ _ hbx).trans rfl
              have HXL : Hid (∀ k, X k → k < w.heap.size) := Lib.hid fun k hk => (HPX.out.1 k hk).1
              have HJ2 : Hid (LkK9 w T B0 y ab ao np c2' L ps X (kidsTo f ps hi j2 (ms ++ [(p : Int)])) X2) := Lib.hid (HJ.out.old HXL.out hk2)
              have t0 := HJ2.out.leaf.c0
              have t1 := HJ2.out.leaf.c1
              have HLT := Lib.hid (And.intro hlt2 hj3)
              have hfitk := HFT.out j2 hlt2
              rw [hkk] at hfitk
              have HCX : Hid (∀ (V : World) (hig' : Nat) (has' : Bool), KeptIn (· < X2.heap.size) X2 V → ((has' = true ∧ highOf ps j2 hi + 1 = hig') ∨ (has' = false ∧ highOf ps j2 hi = 18446744073709551615)) → Calls Try.prog 35 #[.pointer (some ⟨T, 0, none⟩), .slice (some ⟨b, off, none⟩) nn cap, .int .i64 (vv : Int), .int .i64 (L - 1), .int .u64 (kk : Int), .bool has', .int .u64 (hig' : Int)] V (LkR V T B0 (fun k => X k ∨ k = xb) (kidsTo f ps hi j3 (ms ++ [(p : Int)])))) := Lib.hid fun V hig' has' hk hh => by
                have hJV := HJ2.out.old HXL.out hk
                have hbV := (hk.block xb (Array.getElem?_eq_some_iff.1 hbx).1).trans hbx
                have hpx := hJV.prb HPX.out.1 hbV
                have hst := HJ.out.st.with (hk2.go hk) (Nat.le_of_eq hxb)
                obtain ⟨c1, c2⟩ := HCK.out V hJV.kept
                rw [← hj3, kidsTo, hkk, hvv]
                cases ho : kidsTo f ps hi j2 (ms ++ [(p : Int)]) with
                | none =>
                  rw [ho] at hst
                  exact r8lookBad hst hpx _ _ _ _ _ _ _ _
                | some m9 =>
                  rw [ho] at hst
                  have := HKF.out.1 V (fun k => X k ∨ k = xb) kk (highOf ps j2 hi) hig' has' vv m9 hst hpx (kidsTo_ok HKF.out.2.1 ho HKF.out.2.2.1).1 c1 c2 (highOf_lt ps j2 hi hJV.isps.fits HKF.out.2.2.2) hh hvv9
                  rw [HNN.out] at this
                  exact this
              have HNX : Hid (∀ V V', KeptIn (· < X2.heap.size) X2 V → StX V' T B0 (fun k => X k ∨ k = xb) (kidsTo f ps hi j3 (ms ++ [(p : Int)])) → KeptIn (LkY V T B0) V V' → (∀ k, (fun k => X k ∨ k = xb) k → V'.heap[k]? = V.heap[k]?) → LkK9 w T B0 y ab ao np c2' L ps X (kidsTo f ps hi j3 (ms ++ [(p : Int)])) V' ∧ V'.heap[xb]? = some (.cells #[.int .u64 (kk : Int), .int .u64 (vv : Int)] 82 (0, 0))) := Lib.hid fun V V' h1 h2 h3 h4 =>
                ⟨(HJ2.out.old HXL.out h1).go h3 (h2.less fun k hk => .inl hk) fun k hk => h4 k (.inl hk), (h4 xb (.inr rfl)).trans ((h1.block xb (Array.getElem?_eq_some_iff.1 hbx).1).trans hbx)⟩
              by_cases hbd : (hig : Int) ≤ (kk : Int)
              · obtain ⟨pv9, qv9, b9, hb9, hT9, hB9⟩ := HJ2.out.st.box
                have HEB : Hid (LkR w T B0 X o (.returned (.tuple #[])) (X2.setCell ⟨T, 2, none⟩ (.bool true))) := Lib.hid (by
                  rw [HO.out.2 j2 (by rw [HNP.out]; exact HLT.out.1) (by rw [HKV.out.1]; have := HHI.out; omega)]
                  exact bad_set hb9 hT9 hB9 HJ2.out.kept HJ2.out.pk HPX.out.1)
                obtain ⟨v2, v3⟩ := bad_cell hb9
                clear HJ HJ2 HCX HNX hb9 hT9 hB9 hk2 hbx
                go_wp2_with fail
                go_end0
                exact HEB.out
              have HU2 : Hid (∀ u, u < j3 → keyAt ps u ≤ hi) := Lib.hid fun u hu => by
                rcases Nat.lt_or_ge u j2 with h | h
                · exact HU.out u h
                · obtain rfl : u = j2 := by have := HLT.out.2; omega
                  rw [HKV.out.1]
                  have := HHI.out
                  omega
              obtain ⟨d3, d4, d5, d6, d7⟩ := lk3_idx hlt2 (by have := HNP.out; have := HL15.out; omega) hj3
              by_cases hl3 : j3 < np
              · have d8 := lk3_lt.1 hl3
                obtain ⟨k0, -⟩ := HK0.out ab ao rfl Z HJ.out.isps j3 hl3
                have k1 := (HK0.out ab ao rfl X2 HJ2.out.isps j3 hl3).1
                have hHi : highOf ps j2 hi + 1 = keyAt ps j3 := highOf_next HGV.out.2 (by rw [HNP.out]; exact hl3) hj3
                obtain ⟨kn, hkn⟩ : ∃ kn, keyAt ps j3 = kn := ⟨_, rfl⟩
                rw [hkn] at k0 k1 hHi
                have hkd : KeptIn (· < X2.heap.size) X2 X2.drew := (KeptIn.refl _ X2).drew
                have HC2 : Hid (Calls Try.prog 35 #[.pointer (some ⟨T, 0, none⟩), .slice (some ⟨b, off, none⟩) nn cap, .int .i64 (IntKind.i64.wrap (vv : Int)), .int .i64 (IntKind.i64.wrap (L - 1)), .int .u64 (kk : Int), .bool true, .int .u64 (kn : Int)] X2.drew (LkR X2.drew T B0 (fun k => X k ∨ k = xb) (kidsTo f ps hi j3 (ms ++ [(p : Int)])))) := Lib.hid (by
                  have := HCX.out X2.drew kn true hkd (.inl ⟨rfl, hHi⟩)
                  rw [lk3_wrap v0 v1, HLV.out.1, HLV.out.2.2]
                  rw [HLV.out.1] at this
                  exact this)
                have HSV : Hid (∀ V', StX V' T B0 (fun k => X k ∨ k = xb) (kidsTo f ps hi j3 (ms ++ [(p : Int)])) → KeptIn (LkY X2.drew T B0) X2.drew V' → (∀ k, (fun k => X k ∨ k = xb) k → V'.heap[k]? = X2.drew.heap[k]?) → V'.cell? ⟨xb, 0, none⟩ = some (.int .u64 (kk : Int)) ∧ V'.cell? ⟨xb, 1, none⟩ = some (.int .u64 (vv : Int)) ∧ V'.cell? ⟨y, 0, none⟩ = some (.int .i64 L) ∧ V'.cell? ⟨y, 1, none⟩ = some (.slice (some ⟨ab, ao, none⟩) np c2') ∧ V'.cell? ⟨ab, ao + j3 * 2, none⟩ = some (.int .u64 (kn : Int))) := Lib.hid fun V' h2 h3 h4 => by
                  obtain ⟨hF4, hb4⟩ := HNX.out X2.drew V' hkd h2 h3 h4
                  exact ⟨(cell_of_row _ _ 0 _ _ _ hb4).trans rfl, (cell_of_row _ _ 1 _ _ _ hb4).trans rfl, hF4.leaf.c0, hF4.leaf.c1, by rw [← hkn]; exact (HK0.out ab ao rfl V' hF4.isps j3 hl3).1⟩
                have HKD := Lib.hid hkd
                clear hkd HCX hHi hkn hvv9 hk2 hbx hlt2 hl3 hj3 hkk hvv hfitk HJ HJ2
                go_wp2_with fail
                go_region_held3 (fun w' => w'.cell? ⟨xb, 0, none⟩ = some (.int .u64 (kk : Int)) ∧ w'.cell? ⟨xb, 1, none⟩ = some (.int .u64 (vv : Int)) ∧ w'.cell? ⟨y, 0, none⟩ = some (.int .i64 L) ∧ w'.cell? ⟨y, 1, none⟩ = some (.slice (some ⟨ab, ao, none⟩) np c2') ∧ w'.cell? ⟨ab, ao + j3 * 2, none⟩ = some (.int .u64 (kn : Int)))
                  (first | exact ⟨w0, w1, t0, t1, k1⟩ | exact HSV.out _ hs4 hk4 hp4)
                  (first | (go_at_call 35; refine HC2.out.mono ?_; rintro e V4 ⟨rfl, hs4, hk4, hp4⟩))
                have HOK := Lib.hid (HNX.out _ _ HKD.out hs4 hk4 hp4).1
                clear hs4 hk4 hp4
                clear w0 w1 t0 t1 k0 k1 x0 x1 y0 y1
                go_wp2_with fail
                go_roundw
                case rel => exact ⟨j3, _, rfl, by have := HLT.out; omega, rfl, HU2, HOK⟩
                case measure => have := HLT.out; simp only [RowKit.intOf]; omega
              · have d8 := lk3_lt.2 hl3
                have hHl : highOf ps j2 hi = hi := by
                  unfold highOf
                  exact if_neg (by rw [HNP.out, HLT.out.2]; exact hl3)
                have HC : Hid (Calls Try.prog 35 #[.pointer (some ⟨T, 0, none⟩), .slice (some ⟨b, off, none⟩) nn cap, .int .i64 (vv : Int), .int .i64 L1, .int .u64 (kk : Int), .bool true, .int .u64 (hig : Int)] X2 (LkR X2 T B0 (fun k => X k ∨ k = xb) (kidsTo f ps hi j3 (ms ++ [(p : Int)])))) := Lib.hid (by
                  have := HCX.out X2 hig true (KeptIn.refl _ X2) (by rw [hHl]; simpa using HHH.out)
                  rw [HLV.out.1] at this
                  exact this)
                have l7 := HLV.out.1
                have l8 := HLV.out.2.1
                have HKR : Hid (KeptIn (· < X2.heap.size) X2 X2) := Lib.hid (KeptIn.refl _ X2)
                clear HCX hHl hvv9 hk2 hbx hlt2 hl3 hj3 hkk hvv hfitk HJ HJ2
                go_wp2_with (first | (go_at_call 35; refine HC.out.mono ?_; rintro e V4 ⟨rfl, hs4, hk4, hp4⟩; have HOK := Lib.hid (HNX.out X2 V4 HKR.out hs4 hk4 hp4).1; clear hs4 hk4 hp4))
                clear w0 w1 t0 t1 x0 x1 y0 y1
                go_roundw
                case rel => exact ⟨j3, _, rfl, by have := HLT.out; omega, rfl, HU2, HOK⟩
                case measure => have := HLT.out; simp only [RowKit.intOf]; omega
            · have d4 := lk3_lt.2 hlt2
              have y0 := HJ.out.leaf.c0
              have y1 := HJ.out.leaf.c1
              have HE : Hid (LkR w T B0 X o (.returned (.tuple #[])) Z) := Lib.hid (by
                obtain rfl : j2 = np := by omega
                rw [HO.out.1 fun u hu => HU.out u (by have := HNP.out; omega), HNP.out]
                exact ⟨rfl, HJ.out.st, HJ.out.kept, HJ.out.pk⟩)
              clear HJ
              go_wp2_with fail
              go_end0
              exact HE.out

end Go.Proofs.Ytdbohcdjamhdjaa
