/- Order: OrderExact's walk. -/
import Derived.Test.YtlldmebjgidbaaaDoorPz20
import Derived.Test.YtlldmebjgidbaaaDoorSc20
import Derived.Deep.RegionHeld3
set_option linter.unusedVariables false
set_option linter.unusedSimpArgs false
namespace Go.Proofs.YtlldmebjgidbaaaDoor
open Go.RowKit

theorem g16_of {k : Nat} (h : k < 15) : ((k + 1 : Nat) : Int) < 16 ∧ (0 : Int) ≤ ((k + 1 : Nat) : Int) ∧ k + 1 < 16 := by omega
theorem one_add (k : Nat) : 1 + (k : Int) = ((k + 1 : Nat) : Int) := by omega
theorem nlen_of {v : Value} {B : Nat} {w : World} (h : RowN v [] B w) : ∃ a, v = .slice a 0 0 := by
  obtain ⟨a, rfl, _⟩ := h.rd
  exact ⟨a, rfl⟩
theorem tlen_of {v : Value} {B : Nat} {w : World} (h : RowT v [] B w) : ∃ a, v = .slice a 0 0 := by
  obtain ⟨a, rfl, _⟩ := h.rd
  exact ⟨a, rfl⟩
theorem sameF (o : Od) (ho : o.ok) (hc : canT o.ts = true) (V : World) (v1 v2 : Value) (B1 B2 : Nat) (g1 g2 : Option Addr) (c1 c2 : Nat) (h1 : RowN v1 (nsOf o) B1 V) (h2 : RowT v2 (tsOf o) B2 V) (h3 : RdN g1 o.ns V) (h4 : RdT g2 o.ts V) :
    Calls Tryd.prog 11 #[oS ((o.k + 1 : Nat) : Int) v1 v2, .agg #[.int .i64 ((o.k + 1 : Nat) : Int), .slice g1 o.ns.length c1, .slice g2 o.ts.length c2]] V fun e w' => e = .returned (.bool true) ∧ KeptIn (· < V.heap.size) V w' := by
  obtain ⟨a1, rfl, r1⟩ := h1.rd
  obtain ⟨a2, rfl, r2⟩ := h2.rd
  have e1 : nsOf o = o.ns := by unfold nsOf; rw [if_pos hc]
  have e2 : tsOf o = o.ts := by unfold tsOf; rw [if_pos hc]
  rw [e1] at r1
  rw [e2] at r2
  rw [e1, e2]
  have hl : o.ns.length ≤ 3 ∧ o.ts.length ≤ 3 := by
    rw [ho.n, ho.t]
    have := cn_ct o.k ho.k
    omega
  have := rSameC ((o.k + 1 : Nat) : Int) ((o.k + 1 : Nat) : Int) o.ns.length o.ts.length c1 c2 a1 a2 g1 g2 _ _ _ _ V r1 h3 r2 h4 (by omega) (by omega)
  rwa [show decide (((o.k + 1 : Nat) : Int) = ((o.k + 1 : Nat) : Int) ∧ o.ns = o.ns ∧ o.ts = o.ts) = true by simp] at this

set_option maxRecDepth 1000000 in
set_option maxHeartbeats 4000000 in
theorem orderExactL (kind a b c : Int) (s t ln : List UInt8) (w : World) (ha : -9223372036854775808 ≤ a ∧ a ≤ 9223372036854775807) (hb : -9223372036854775808 ≤ b ∧ b ≤ 9223372036854775807) (hc : -9223372036854775808 ≤ c ∧ c ≤ 9223372036854775807)
    (hs : (s.length : Int) ≤ 9223372036854775807) (ht : (t.length : Int) ≤ 9223372036854775807) (hl : (ln.length : Int) ≤ 9223372036854775807) (T : Tb20 w) :
    Calls Tryd.prog 3 #[.int .i64 kind, .int .i64 a, .int .i64 b, .int .i64 c, .string ⟨s.toArray⟩, .string ⟨t.toArray⟩, .string ⟨ln.toArray⟩] w fun e w' => e = .returned (.bool true) ∧ KeptIn (· < w.heap.size) w w' := by
  by_cases hbig : s.length ≤ 600 ∧ t.length ≤ 600 ∧ ln.length ≤ 2048
  · obtain ⟨g1, g2, g3⟩ := hbig
    have d1 : decide ((600 : Int) < (s.length : Int)) = false := decide_eq_false (by omega)
    have d2 : decide ((600 : Int) < (t.length : Int)) = false := decide_eq_false (by omega)
    have d3 : decide ((2048 : Int) < (ln.length : Int)) = false := decide_eq_false (by omega)
    have d4 : decide (600 < s.length) = false := decide_eq_false (by omega)
    have d5 : decide (600 < t.length) = false := decide_eq_false (by omega)
    have d6 : decide (2048 < ln.length) = false := decide_eq_false (by omega)
    have hln := Lib.hid g3
    obtain ⟨X, hX⟩ : ∃ X, mkO (kd15 kind) a b c s t [] = X := ⟨_, rfl⟩
    have okX : X.ok := by rw [← hX]; exact mkO_ok _ (kd15_lt kind) a b c s t [] ha hb hc (by omega) (by omega) (by simp)
    have hXk : X.k = kd15 kind := by rw [← hX]; exact mkO_k _ (kd15_lt kind) a b c s t []
    have hXt : ∀ y ∈ X.ts, y.length ≤ 100000 := by
      intro y hy
      rw [← hX, (mkO_take _ (kd15_lt kind) a b c s t []).2] at hy
      have := List.mem_of_mem_take hy
      simp at this
      rcases this with rfl | rfl | rfl
      · omega
      · omega
      · simp
    have CM := Lib.hid fun V => oMade kind a b c s t [] V
    have CLN := Lib.hid fun V => lNumbers kind a b c s t [] V
    have CLT := Lib.hid fun V => lTexts kind a b c s t [] V
    rw [hX] at CM CLN CLT
    obtain ⟨n1, n2, n3, n4⟩ := kd15_num kind
    rw [← hXk] at n1 n2 n3 n4
    have hq : Hid (1 + (X.k : Int) = ((X.k + 1 : Nat) : Int)) := Lib.hid (one_add X.k)
    have CX := Lib.hid (oText X okX)
    have CF := Lib.hid fun V => oForm X okX V
    unfold FormP at CF
    have CRT := Lib.hid fun a1 a2 c1 c2 V h1 h2 => rText X okX hXt a1 a2 c1 c2 V h1 h2
    unfold oS at CRT
    have hwq := Lib.hid (wordsC_at _ okX.k)
    have g16 : ((X.k + 1 : Nat) : Int) < 16 ∧ (0 : Int) ≤ ((X.k + 1 : Nat) : Int) ∧ X.k + 1 < 16   := g16_of okX.k
    obtain ⟨f, z, hm, hf, hw⟩ := oWord X okX
    have CNu := Lib.hid fun V => oNumbers X okX V
    have CDa := Lib.hid fun V => oData X okX V
    have CS := Lib.hid fun h => sameF X okX h
    have hns0 : Hid (canT X.ts = false → nsOf X = [] ∧ tsOf X = []) := Lib.hid fun h => by unfold nsOf tsOf; rw [if_neg (by rw [h]; simp), if_neg (by rw [h]; simp)]; exact ⟨rfl, rfl⟩
    have hx0 : valO X = .iface (tyO X.k) (.agg (numC X.ns ++ txtC X.ts).toArray) := rfl
    rw [hx0] at CM CX CF CNu CDa
    generalize Value.agg (numC X.ns ++ txtC X.ts).toArray = yv at CM CX CF CNu CDa hm
    generalize tyO X.k = ty at CM CX CF CNu CDa hm
    obtain ⟨cb, hcb⟩ : ∃ cb, canT X.ts = cb := ⟨_, rfl⟩
    obtain ⟨tr, htr⟩ : ∃ tr, txtR X = tr := ⟨_, rfl⟩
    rw [hcb] at CX CRT CS hns0
    rw [htr] at CX CRT
    generalize X.k = kk at n1 n2 n3 n4 hq CF CRT hwq g16 hw CS
    generalize wordL kk = wd at hwq hw
    generalize kk + 1 = q at hq CF CRT hwq g16 CS
    generalize X.ns = xn at CLN CRT CS
    generalize X.ts = xt at CLT CRT CS
    generalize nsOf X = fn at CF CNu CS hns0
    generalize tsOf X = ft at CF CDa CS hns0
    obtain ⟨nn, hnn⟩ : ∃ n, xn.length = n := ⟨_, rfl⟩
    obtain ⟨nt, hnt⟩ : ∃ n, xt.length = n := ⟨_, rfl⟩
    rw [hnn] at CLN CRT CS
    rw [hnt] at CLT CRT CS
    obtain ⟨g16, g0, g16'⟩ := g16
    have qtr : (tr == tr) = true := by simp
    have qtn : (tr != tr) = false := by simp
    have qwd : (wd == wd) = true := by simp
    have qwn : (wd != wd) = false := by simp
    replace T := Lib.hid T
    replace hw := Lib.hid hw
    clear g1 g2 g3 okX hX hXk hXt hx0 hcb htr ha hb hc hs ht hl hnn hnt
    go_enter Tryd.func3, Tryd.ntmps3
    go_wp2_with fail
    refine (awake20 w T.out).mono ?_
    rintro e V1 ⟨rfl, hK1⟩
    have H1 := Lib.hid hK1
    clear hK1
    go_wp2_with fail
    refine (CM.out V1).mono ?_
    rintro e V2 ⟨rfl, hKn⟩
    have H2 := Lib.hid (H1.out.trans (hKn.mono fun k hk => Nat.lt_of_lt_of_le hk H1.out.size))
    clear hKn H1
    go_wp2_with fail
    refine (CLN.out V2).mono ?_
    rintro e V3 ⟨rfl, r1, hK3⟩
    obtain ⟨gn, hgn⟩ : ∃ g, V2.heap.size + 1 = g := ⟨_, rfl⟩
    rw [hgn] at r1 ⊢
    have H3 := Lib.hid (H2.out.trans (hK3.mono fun k hk => Nat.lt_of_lt_of_le hk H2.out.size))
    replace r1 := Lib.hid r1
    clear hK3 hgn H2
    go_wp2_with fail
    refine (CLT.out V3).mono ?_
    rintro e V4 ⟨rfl, r2, hK4⟩
    obtain ⟨gt, hgt⟩ : ∃ g, V3.heap.size + 1 = g := ⟨_, rfl⟩
    rw [hgt] at r2 ⊢
    replace r1 := r1.out.old hK4
    have H4 := H3.out.trans (hK4.mono fun k hk => Nat.lt_of_lt_of_le hk H3.out.size)
    clear hK4 hgt H3
    obtain ⟨VB, hVB⟩ : ∃ W, V4.alloc (.cells #[.int .i64 (q : Int), .slice (some ⟨gn, 0, none⟩) nn 3, .slice (some ⟨gt, 0, none⟩) nt 3] 32) = W := ⟨_, rfl⟩
    obtain ⟨y, hy⟩ : ∃ y, V4.heap.size = y := ⟨_, rfl⟩
    have hB : VB.heap[y]? = some (.cells #[.int .i64 (q : Int), .slice (some ⟨gn, 0, none⟩) nn 3, .slice (some ⟨gt, 0, none⟩) nt 3] 32 (0, 0)) := by rw [← hVB, ← hy]; exact heap_alloc_new _ _
    have hK4B : KeptIn (· < V4.heap.size) V4 VB := by rw [← hVB]; exact (KeptIn.refl _ _).alloc (fun _ h => h) _
    have HC : Hid (∀ U, KeptIn (· < VB.heap.size) VB U → U.heap[y]? = some (.cells #[.int .i64 (q : Int), .slice (some ⟨gn, 0, none⟩) nn 3, .slice (some ⟨gt, 0, none⟩) nt 3] 32 (0, 0)) ∧ RdN (some ⟨gn, 0, none⟩) xn U ∧ RdT (some ⟨gt, 0, none⟩) xt U ∧ True ∧ KeptIn (· < w.heap.size) w U ∧ Tb20 U) := Lib.hid fun U hU => by
      have hk4 : KeptIn (· < V4.heap.size) V4 U := hK4B.trans (hU.mono fun k hk => Nat.lt_of_lt_of_le hk hK4B.size)
      have hkw : KeptIn (· < w.heap.size) w U := H4.trans (hk4.mono fun k hk => Nat.lt_of_lt_of_le hk H4.size)
      exact ⟨(hU.block _ (lt_of_heap hB)).trans hB, r1.old hk4, r2.old hk4, trivial, hkw, T.out.kept hkw⟩
    have HB0 : Hid (KeptIn (· < VB.heap.size) VB VB) := Lib.hid (KeptIn.refl _ _)
    have hVh := Lib.hid hVB
    have hyh := Lib.hid hy
    clear hVB hy hB hK4B r1 r2 H4
    go_wp2_with fail
    rw [hq.out, hVh.out, hyh.out]
    clear hVh hyh n1 n2 n3 n4 hq
    refine (CRT.out _ _ _ _ VB (HC.out _ HB0.out).2.1 (HC.out _ HB0.out).2.2.1).mono ?_
    rintro e V5 ⟨rfl, hKn⟩
    have HB5 := Lib.hid hKn
    clear hKn CRT HB0
    obtain ⟨eb, heb⟩ : ∃ e : Int, (if cb = true then 0 else 1) = e := ⟨_, rfl⟩
    rw [heb] at CX
    have CW := Lib.hid fun V => rWords' V
    cases cb with
    | true =>
      obtain rfl : (0 : Int) = eb := by rw [← heb]; rfl
      clear heb CNu CDa hns0
      have CS2 := Lib.hid (CS.out rfl)
      clear CS
      go_wp2_with fail
      refine (CX.out _ (HC.out _ HB5.out).2.2.2.2.2).mono ?_
      rintro e V6 ⟨rfl, hKn⟩
      have HB6 := Lib.hid (HB5.out.trans (hKn.mono fun k hk => Nat.lt_of_lt_of_le hk HB5.out.size))
      clear hKn HB5
      go_wp2_with fail
      have HK6 := HB6.out.drew
      refine wp_region_noPanic ?_
      refine wp_region_held_drew (S := fun w' => w'.cell? ⟨y, 0, none⟩ = some (.int .i64 (q : Int))) (by kernel_rfl) (cell3_0 (HC.out _ HK6).1) (fun hHeld => ?_)
      refine wpAnyH_take (i := 0) (oi := { dst := some 72, op := Op.move (Operand.tmp 15), type := 24, pos := "law.go:100", after := #[], guard := none }) (v := ?_) rfl (by kernel_rfl) (by kernel_rfl) (by kernel_rfl) (fun _ _ _ h => h) (Or.inl ⟨by rfl, ?_⟩) (by assumption) ?_
      rotate_left
      · intro w hSw; (try dsimp only at hSw); go_simp; (try with_reducible rfl)
      try simp only [Act.put, List.setIfInBounds_toArray, List.set_cons_zero, List.set_cons_succ]
      refine wpAnyH_take (i := 3) (oi := { dst := some 75, op := Op.fieldAddr 32 (Operand.tmp 16) 0, type := 0, pos := "law.go:100", after := #[], guard := none }) (v := ?_) rfl (by kernel_rfl) (by kernel_rfl) (by kernel_rfl) (fun _ _ _ h => h) (Or.inl ⟨by rfl, ?_⟩) (by assumption) ?_
      rotate_left
      · intro w hSw; (try dsimp only at hSw); go_simp; (try with_reducible rfl)
      try simp only [Act.put, List.setIfInBounds_toArray, List.set_cons_zero, List.set_cons_succ]
      refine wpAnyH_take (i := 4) (oi := { dst := some 76, op := Op.load 3 (Operand.tmp 75), type := 3, pos := "law.go:100", after := #[{ on := 3, ground := Ground.data }], guard := none }) (v := ?_) rfl (by kernel_rfl) (by kernel_rfl) (by kernel_rfl) (fun _ _ _ h => h) (Or.inl ⟨by rfl, ?_⟩) (by assumption) ?_
      rotate_left
      · intro w hSw; (try dsimp only at hSw); go_simp; (try with_reducible rfl)
      try simp only [Act.put, List.setIfInBounds_toArray, List.set_cons_zero, List.set_cons_succ]
      refine wpAnyH_ready (rs := [1]) (by kernel_rfl) (by simp) ?_
      refine AllReadyH.cons (o := { dst := some 73, op := Op.call { callee := Callee.invoke (Operand.tmp 72) "Word", args := #[], argTypes := #[] }, type := 9, pos := "law.go:100", after := #[{ on := 0, ground := Ground.data }], guard := none }) rfl (fun K hK => ?_) AllReadyH.nil
      go_simp
      refine (hw.out _).mono ?_
      rintro e V7 ⟨rfl, hK7⟩
      have HKW7 := HK6.trans (hK7.mono fun k hk => Nat.lt_of_lt_of_le hk HK6.size)
      refine hK.out _ _ ?_ (fun hHeld2 => ?_)
      · (try dsimp only); exact cell3_0 (HC.out _ HKW7).1
      clear hK K hHeld
      try simp only [Act.put, List.setIfInBounds_toArray, List.set_cons_zero, List.set_cons_succ]
      have hHeld := hHeld2
      clear hHeld2
      refine wpAnyH_ready (rs := [2]) (by kernel_rfl) (by simp) ?_
      refine AllReadyH.cons (o := { dst := some 74, op := Op.call { callee := Callee.value (Operand.func 10), args := #[], argTypes := #[] }, type := 29, pos := "law.go:100", after := #[{ on := 1, ground := Ground.chain }], guard := none }) rfl (fun K hK => ?_) AllReadyH.nil
      go_simp
      go_at_call 10
      refine (CW.out _).mono ?_
      rintro e V8 ⟨g, rfl, hR, hK8⟩
      have HKW8 := HKW7.trans (hK8.mono fun k hk => Nat.lt_of_lt_of_le hk HKW7.size)
      have hcw := hR _ _ hwq.out
      replace hR := Lib.hid hR
      refine hK.out _ _ ?_ (fun hHeld2 => ?_)
      · (try dsimp only); exact cell3_0 (HC.out _ HKW8).1
      clear hK K hHeld
      try simp only [Act.put, List.setIfInBounds_toArray, List.set_cons_zero, List.set_cons_succ]
      have hHeld := hHeld2
      clear hHeld2
      refine wpAnyH_take (i := 5) (oi := { dst := some 77, op := Op.indexAddr 29 (Operand.tmp 74) (Operand.tmp 76), type := 0, pos := "law.go:100", after := #[{ on := 2, ground := Ground.data }, { on := 4, ground := Ground.data }], guard := none }) (v := ?_) rfl (by kernel_rfl) (by kernel_rfl) (by kernel_rfl) (fun _ _ _ h => h) (Or.inl ⟨by rfl, ?_⟩) (by assumption) ?_
      rotate_left
      · intro w hSw; (try dsimp only at hSw); go_simp; (try with_reducible rfl)
      try simp only [Act.put, List.setIfInBounds_toArray, List.set_cons_zero, List.set_cons_succ]
      refine wpAnyH_ready (rs := [6]) (by kernel_rfl) (by simp) ?_
      refine AllReadyH.cons (o := { dst := some 78, op := Op.load 9 (Operand.tmp 77), type := 9, pos := "law.go:100", after := #[{ on := 5, ground := Ground.data }], guard := none }) rfl (fun K hK => ?_) AllReadyH.nil
      go_simp
      refine hK.out _ _ ?_ (fun hHeld2 => ?_)
      · (try dsimp only); exact cell3_0 (HC.out _ HKW8).1
      clear hK K hHeld
      try simp only [Act.put, List.setIfInBounds_toArray, List.set_cons_zero, List.set_cons_succ]
      have hHeld := hHeld2
      clear hHeld2
      refine wpAnyH_take (i := 7) (oi := { dst := some 79, op := Op.binOp BinOp.neq 9 (Operand.tmp 73) (Operand.tmp 78) 9, type := 4, pos := "law.go:100", after := #[{ on := 1, ground := Ground.data }, { on := 6, ground := Ground.data }], guard := none }) (v := ?_) rfl (by kernel_rfl) (by kernel_rfl) (by kernel_rfl) (fun _ _ _ h => h) (Or.inl ⟨by rfl, ?_⟩) (by assumption) ?_
      rotate_left
      · intro w hSw; (try dsimp only at hSw); go_simp; (try with_reducible rfl)
      try simp only [Act.put, List.setIfInBounds_toArray, List.set_cons_zero, List.set_cons_succ]
      refine wpAnyH_take (i := 8) (oi := { dst := some 80, op := Op.move (Operand.tmp 79), type := 4, pos := "law.go:100", after := #[{ on := 7, ground := Ground.data }, { on := 2, ground := Ground.chain }], guard := none }) (v := ?_) rfl (by kernel_rfl) (by kernel_rfl) (by kernel_rfl) (fun _ _ _ h => h) (Or.inl ⟨by rfl, ?_⟩) (by assumption) ?_
      rotate_left
      · intro w hSw; (try dsimp only at hSw); go_simp; (try with_reducible rfl)
      try simp only [Act.put, List.setIfInBounds_toArray, List.set_cons_zero, List.set_cons_succ]
      refine wpAnyH_take (i := 9) (oi := { dst := some 81, op := Op.move (Operand.tmp 19), type := 9, pos := "law.go:100", after := #[{ on := 8, ground := Ground.guard }], guard := some (8, false) }) (v := ?_) rfl (by kernel_rfl) (by kernel_rfl) (by kernel_rfl) (fun _ _ _ h => h) (Or.inl ⟨by rfl, ?_⟩) (by assumption) ?_
      rotate_left
      · intro w hSw; (try dsimp only at hSw); go_simp; (try with_reducible rfl)
      try simp only [Act.put, List.setIfInBounds_toArray, List.set_cons_zero, List.set_cons_succ]
      refine wpAnyH_take (i := 10) (oi := { dst := some 82, op := Op.move (Operand.tmp 17), type := 9, pos := "law.go:100", after := #[{ on := 8, ground := Ground.guard }], guard := some (8, false) }) (v := ?_) rfl (by kernel_rfl) (by kernel_rfl) (by kernel_rfl) (fun _ _ _ h => h) (Or.inl ⟨by rfl, ?_⟩) (by assumption) ?_
      rotate_left
      · intro w hSw; (try dsimp only at hSw); go_simp; (try with_reducible rfl)
      try simp only [Act.put, List.setIfInBounds_toArray, List.set_cons_zero, List.set_cons_succ]
      refine wpAnyH_take (i := 11) (oi := { dst := some 83, op := Op.binOp BinOp.neq 9 (Operand.tmp 81) (Operand.tmp 82) 9, type := 4, pos := "law.go:100", after := #[{ on := 9, ground := Ground.data }, { on := 10, ground := Ground.data }, { on := 8, ground := Ground.guard }], guard := some (8, false) }) (v := ?_) rfl (by kernel_rfl) (by kernel_rfl) (by kernel_rfl) (fun _ _ _ h => h) (Or.inl ⟨by rfl, ?_⟩) (by assumption) ?_
      rotate_left
      · intro w hSw; (try dsimp only at hSw); go_simp; (try with_reducible rfl)
      try simp only [Act.put, List.setIfInBounds_toArray, List.set_cons_zero, List.set_cons_succ]
      refine wpAnyH_take (i := 12) (oi := { dst := some 84, op := Op.pick (Operand.tmp 80) (Operand.const (Value.bool true)) (Operand.tmp 83), type := 4, pos := "law.go:100", after := #[{ on := 8, ground := Ground.data }, { on := 11, ground := Ground.data }], guard := none }) (v := ?_) rfl (by kernel_rfl) (by kernel_rfl) (by kernel_rfl) (fun _ _ _ h => h) (Or.inl ⟨by rfl, ?_⟩) (by assumption) ?_
      rotate_left
      · intro w hSw; (try dsimp only at hSw); go_simp; (try with_reducible rfl)
      try simp only [Act.put, List.setIfInBounds_toArray, List.set_cons_zero, List.set_cons_succ]
      refine wpAnyH_take (i := 13) (oi := { dst := some 85, op := Op.move (Operand.tmp 84), type := 4, pos := "law.go:100", after := #[{ on := 12, ground := Ground.data }, { on := 8, ground := Ground.chain }], guard := none }) (v := ?_) rfl (by kernel_rfl) (by kernel_rfl) (by kernel_rfl) (fun _ _ _ h => h) (Or.inl ⟨by rfl, ?_⟩) (by assumption) ?_
      rotate_left
      · intro w hSw; (try dsimp only at hSw); go_simp; (try with_reducible rfl)
      try simp only [Act.put, List.setIfInBounds_toArray, List.set_cons_zero, List.set_cons_succ]
      refine wpAnyH_take (i := 14) (oi := { dst := some 86, op := Op.move (Operand.tmp 18), type := 4, pos := "law.go:100", after := #[{ on := 13, ground := Ground.guard }], guard := some (13, false) }) (v := ?_) rfl (by kernel_rfl) (by kernel_rfl) (by kernel_rfl) (fun _ _ _ h => h) (Or.inl ⟨by rfl, ?_⟩) (by assumption) ?_
      rotate_left
      · intro w hSw; (try dsimp only at hSw); go_simp; (try with_reducible rfl)
      try simp only [Act.put, List.setIfInBounds_toArray, List.set_cons_zero, List.set_cons_succ]
      refine wpAnyH_take (i := 15) (oi := { dst := some 87, op := Op.move (Operand.tmp 20), type := 35, pos := "law.go:100", after := #[{ on := 13, ground := Ground.guard }], guard := some (13, false) }) (v := ?_) rfl (by kernel_rfl) (by kernel_rfl) (by kernel_rfl) (fun _ _ _ h => h) (Or.inl ⟨by rfl, ?_⟩) (by assumption) ?_
      rotate_left
      · intro w hSw; (try dsimp only at hSw); go_simp; (try with_reducible rfl)
      try simp only [Act.put, List.setIfInBounds_toArray, List.set_cons_zero, List.set_cons_succ]
      refine wpAnyH_take (i := 16) (oi := { dst := some 88, op := Op.binOp BinOp.eql 35 (Operand.tmp 87) (Operand.const (Value.int IntKind.i64 0)) 35, type := 4, pos := "law.go:100", after := #[{ on := 15, ground := Ground.data }, { on := 13, ground := Ground.guard }], guard := some (13, false) }) (v := ?_) rfl (by kernel_rfl) (by kernel_rfl) (by kernel_rfl) (fun _ _ _ h => h) (Or.inl ⟨by rfl, ?_⟩) (by assumption) ?_
      rotate_left
      · intro w hSw; (try dsimp only at hSw); go_simp; (try with_reducible rfl)
      try simp only [Act.put, List.setIfInBounds_toArray, List.set_cons_zero, List.set_cons_succ]
      refine wpAnyH_take (i := 17) (oi := { dst := some 89, op := Op.binOp BinOp.neq 4 (Operand.tmp 86) (Operand.tmp 88) 4, type := 4, pos := "law.go:100", after := #[{ on := 14, ground := Ground.data }, { on := 16, ground := Ground.data }, { on := 13, ground := Ground.guard }], guard := some (13, false) }) (v := ?_) rfl (by kernel_rfl) (by kernel_rfl) (by kernel_rfl) (fun _ _ _ h => h) (Or.inl ⟨by rfl, ?_⟩) (by assumption) ?_
      rotate_left
      · intro w hSw; (try dsimp only at hSw); go_simp; (try with_reducible rfl)
      try simp only [Act.put, List.setIfInBounds_toArray, List.set_cons_zero, List.set_cons_succ]
      refine wpAnyH_take (i := 18) (oi := { dst := some 90, op := Op.pick (Operand.tmp 85) (Operand.const (Value.bool true)) (Operand.tmp 89), type := 4, pos := "law.go:100", after := #[{ on := 13, ground := Ground.data }, { on := 17, ground := Ground.data }], guard := none }) (v := ?_) rfl (by kernel_rfl) (by kernel_rfl) (by kernel_rfl) (fun _ _ _ h => h) (Or.inl ⟨by rfl, ?_⟩) (by assumption) ?_
      rotate_left
      · intro w hSw; (try dsimp only at hSw); go_simp; (try with_reducible rfl)
      try simp only [Act.put, List.setIfInBounds_toArray, List.set_cons_zero, List.set_cons_succ]
      refine wpAnyH_take (i := 19) (oi := { dst := some 91, op := Op.move (Operand.tmp 90), type := 4, pos := "law.go:100", after := #[{ on := 18, ground := Ground.data }, { on := 13, ground := Ground.chain }], guard := none }) (v := ?_) rfl (by kernel_rfl) (by kernel_rfl) (by kernel_rfl) (fun _ _ _ h => h) (Or.inl ⟨by rfl, ?_⟩) (by assumption) ?_
      rotate_left
      · intro w hSw; (try dsimp only at hSw); go_simp; (try with_reducible rfl)
      try simp only [Act.put, List.setIfInBounds_toArray, List.set_cons_zero, List.set_cons_succ]
      refine wpAnyH_take (i := 20) (oi := { dst := some 92, op := Op.move (Operand.tmp 18), type := 4, pos := "law.go:100", after := #[{ on := 19, ground := Ground.guard }], guard := some (19, false) }) (v := ?_) rfl (by kernel_rfl) (by kernel_rfl) (by kernel_rfl) (fun _ _ _ h => h) (Or.inl ⟨by rfl, ?_⟩) (by assumption) ?_
      rotate_left
      · intro w hSw; (try dsimp only at hSw); go_simp; (try with_reducible rfl)
      try simp only [Act.put, List.setIfInBounds_toArray, List.set_cons_zero, List.set_cons_succ]
      refine wpAnyH_take (i := 21) (oi := { dst := some 93, op := Op.unOp UnOp.not 4 (Operand.tmp 92), type := 4, pos := "law.go:100", after := #[{ on := 20, ground := Ground.data }, { on := 19, ground := Ground.guard }], guard := some (19, false) }) (v := ?_) rfl (by kernel_rfl) (by kernel_rfl) (by kernel_rfl) (fun _ _ _ h => h) (Or.inl ⟨by rfl, ?_⟩) (by assumption) ?_
      rotate_left
      · intro w hSw; (try dsimp only at hSw); go_simp; (try with_reducible rfl)
      try simp only [Act.put, List.setIfInBounds_toArray, List.set_cons_zero, List.set_cons_succ]
      refine wpAnyH_take (i := 22) (oi := { dst := some 94, op := Op.move (Operand.tmp 93), type := 4, pos := "law.go:100", after := #[{ on := 21, ground := Ground.data }, { on := 19, ground := Ground.chain }, { on := 19, ground := Ground.guard }], guard := some (19, false) }) (v := ?_) rfl (by kernel_rfl) (by kernel_rfl) (by kernel_rfl) (fun _ _ _ h => h) (Or.inl ⟨by rfl, ?_⟩) (by assumption) ?_
      rotate_left
      · intro w hSw; (try dsimp only at hSw); go_simp; (try with_reducible rfl)
      try simp only [Act.put, List.setIfInBounds_toArray, List.set_cons_zero, List.set_cons_succ]
      refine wpAnyH_take (i := 23) (oi := { dst := some 95, op := Op.move (Operand.tmp 20), type := 35, pos := "law.go:100", after := #[{ on := 22, ground := Ground.guard }], guard := some (22, true) }) (v := undef) rfl (by kernel_rfl) (by kernel_rfl) (by kernel_rfl) (fun _ _ _ h => h) (Or.inr ⟨by rfl, rfl⟩) (by assumption) ?_
      try simp only [Act.put, List.setIfInBounds_toArray, List.set_cons_zero, List.set_cons_succ]
      refine wpAnyH_take (i := 24) (oi := { dst := some 96, op := Op.binOp BinOp.neq 35 (Operand.tmp 95) (Operand.const (Value.int IntKind.i64 1)) 35, type := 4, pos := "law.go:100", after := #[{ on := 23, ground := Ground.data }, { on := 22, ground := Ground.guard }], guard := some (22, true) }) (v := undef) rfl (by kernel_rfl) (by kernel_rfl) (by kernel_rfl) (fun _ _ _ h => h) (Or.inr ⟨by rfl, rfl⟩) (by assumption) ?_
      try simp only [Act.put, List.setIfInBounds_toArray, List.set_cons_zero, List.set_cons_succ]
      refine wpAnyH_take (i := 25) (oi := { dst := some 97, op := Op.pick (Operand.tmp 94) (Operand.tmp 96) (Operand.const (Value.bool false)), type := 4, pos := "law.go:100", after := #[{ on := 22, ground := Ground.data }, { on := 24, ground := Ground.data }, { on := 19, ground := Ground.guard }], guard := some (19, false) }) (v := ?_) rfl (by kernel_rfl) (by kernel_rfl) (by kernel_rfl) (fun _ _ _ h => h) (Or.inl ⟨by rfl, ?_⟩) (by assumption) ?_
      rotate_left
      · intro w hSw; (try dsimp only at hSw); go_simp; (try with_reducible rfl)
      try simp only [Act.put, List.setIfInBounds_toArray, List.set_cons_zero, List.set_cons_succ]
      refine wpAnyH_take (i := 26) (oi := { dst := some 98, op := Op.pick (Operand.tmp 91) (Operand.const (Value.bool true)) (Operand.tmp 97), type := 4, pos := "law.go:100", after := #[{ on := 19, ground := Ground.data }, { on := 25, ground := Ground.data }], guard := none }) (v := ?_) rfl (by kernel_rfl) (by kernel_rfl) (by kernel_rfl) (fun _ _ _ h => h) (Or.inl ⟨by rfl, ?_⟩) (by assumption) ?_
      rotate_left
      · intro w hSw; (try dsimp only at hSw); go_simp; (try with_reducible rfl)
      try simp only [Act.put, List.setIfInBounds_toArray, List.set_cons_zero, List.set_cons_succ]
      refine wpAnyH_done (by kernel_rfl) ?_ _
      refine NoPanic.normal ?_
      have H8 := Lib.hid HKW8
      clear HKW8 HKW7 hK8 hK7 hcw hR hHeld HK6 HB6 hf hm hw hwq CW
      go_wp2_with fail
      have HK8 := H8.out.drew
      refine wp_region_noPanic ?_
      refine wp_region_held_drew (S := fun w' => w'.cell? ⟨y, 0, none⟩ = some (.int .i64 (q : Int)) ∧ w'.cell? ⟨y, 1, none⟩ = some (.slice (some ⟨gn, 0, none⟩) nn 3) ∧ w'.cell? ⟨y, 2, none⟩ = some (.slice (some ⟨gt, 0, none⟩) nt 3)) (by kernel_rfl) (⟨cell3_0 (HC.out _ HK8).1, cell3_1 (HC.out _ HK8).1, cell3_2 (HC.out _ HK8).1⟩) (fun hHeld => ?_)
      refine wpAnyH_take (i := 0) (oi := { dst := some 99, op := Op.move (Operand.tmp 18), type := 4, pos := "law.go:103", after := #[], guard := none }) (v := ?_) rfl (by kernel_rfl) (by kernel_rfl) (by kernel_rfl) (fun _ _ _ h => h) (Or.inl ⟨by rfl, ?_⟩) (by assumption) ?_
      rotate_left
      · intro w hSw; (try dsimp only at hSw); go_simp; (try with_reducible rfl)
      try simp only [Act.put, List.setIfInBounds_toArray, List.set_cons_zero, List.set_cons_succ]
      refine wpAnyH_take (i := 1) (oi := { dst := some 100, op := Op.move (Operand.tmp 99), type := 4, pos := "law.go:103", after := #[{ on := 0, ground := Ground.data }], guard := none }) (v := ?_) rfl (by kernel_rfl) (by kernel_rfl) (by kernel_rfl) (fun _ _ _ h => h) (Or.inl ⟨by rfl, ?_⟩) (by assumption) ?_
      rotate_left
      · intro w hSw; (try dsimp only at hSw); go_simp; (try with_reducible rfl)
      try simp only [Act.put, List.setIfInBounds_toArray, List.set_cons_zero, List.set_cons_succ]
      refine wpAnyH_take (i := 2) (oi := { dst := some 101, op := Op.move (Operand.tmp 15), type := 24, pos := "law.go:103", after := #[{ on := 1, ground := Ground.guard }], guard := some (1, true) }) (v := ?_) rfl (by kernel_rfl) (by kernel_rfl) (by kernel_rfl) (fun _ _ _ h => h) (Or.inl ⟨by rfl, ?_⟩) (by assumption) ?_
      rotate_left
      · intro w hSw; (try dsimp only at hSw); go_simp; (try with_reducible rfl)
      try simp only [Act.put, List.setIfInBounds_toArray, List.set_cons_zero, List.set_cons_succ]
      refine wpAnyH_take (i := 4) (oi := { dst := some 103, op := Op.load 32 (Operand.tmp 16), type := 32, pos := "law.go:103", after := #[{ on := 1, ground := Ground.guard }], guard := some (1, true) }) (v := ?_) rfl (by kernel_rfl) (by kernel_rfl) (by kernel_rfl) (fun _ _ _ h => h) (Or.inl ⟨by rfl, ?_⟩) (by assumption) ?_
      rotate_left
      · intro w hSw; (try dsimp only at hSw); go_simp; (try with_reducible rfl)
      try simp only [Act.put, List.setIfInBounds_toArray, List.set_cons_zero, List.set_cons_succ]
      refine wpAnyH_ready (rs := [3]) (by kernel_rfl) (by simp) ?_
      refine AllReadyH.cons (o := { dst := some 102, op := Op.call { callee := Callee.value (Operand.func 12), args := #[Operand.tmp 101], argTypes := #[24] }, type := 32, pos := "law.go:103", after := #[{ on := 2, ground := Ground.data }, { on := 1, ground := Ground.chain }, { on := 1, ground := Ground.guard }], guard := some (1, true) }) rfl (fun K hK => ?_) AllReadyH.nil
      go_simp
      go_at_call 12
      refine (CF.out _).mono ?_
      rintro e V9 ⟨⟨v1, v2, rfl, r1, r2⟩, hK9⟩
      have HK9 := HK8.trans (hK9.mono fun k hk => Nat.lt_of_lt_of_le hk HK8.size)
      replace r1 := Lib.hid r1
      replace r2 := Lib.hid r2
      refine hK.out _ _ ?_ (fun hHeld2 => ?_)
      · (try dsimp only); exact ⟨cell3_0 (HC.out _ HK9).1, cell3_1 (HC.out _ HK9).1, cell3_2 (HC.out _ HK9).1⟩
      clear hK K hHeld
      try simp only [Act.put, List.setIfInBounds_toArray, List.set_cons_zero, List.set_cons_succ]
      have hHeld := hHeld2
      clear hHeld2
      refine wpAnyH_ready (rs := [5]) (by kernel_rfl) (by simp) ?_
      refine AllReadyH.cons (o := { dst := some 104, op := Op.call { callee := Callee.value (Operand.func 11), args := #[Operand.tmp 102, Operand.tmp 103], argTypes := #[32, 32] }, type := 4, pos := "law.go:103", after := #[{ on := 3, ground := Ground.data }, { on := 4, ground := Ground.data }, { on := 3, ground := Ground.chain }, { on := 1, ground := Ground.guard }], guard := some (1, true) }) rfl (fun K hK => ?_) AllReadyH.nil
      go_simp
      go_at_call 11
      refine (CS2.out V9 v1 v2 _ _ _ _ _ _ r1.out r2.out (HC.out _ HK9).2.1 (HC.out _ HK9).2.2.1).mono ?_
      rintro e V10 ⟨rfl, hK10⟩
      have HK10 := HK9.trans (hK10.mono fun k hk => Nat.lt_of_lt_of_le hk HK9.size)
      refine hK.out _ _ ?_ (fun hHeld2 => ?_)
      · (try dsimp only); exact ⟨cell3_0 (HC.out _ HK10).1, cell3_1 (HC.out _ HK10).1, cell3_2 (HC.out _ HK10).1⟩
      clear hK K hHeld
      try simp only [Act.put, List.setIfInBounds_toArray, List.set_cons_zero, List.set_cons_succ]
      have hHeld := hHeld2
      clear hHeld2
      refine wpAnyH_take (i := 6) (oi := { dst := some 105, op := Op.unOp UnOp.not 4 (Operand.tmp 104), type := 4, pos := "law.go:103", after := #[{ on := 5, ground := Ground.data }, { on := 1, ground := Ground.guard }], guard := some (1, true) }) (v := ?_) rfl (by kernel_rfl) (by kernel_rfl) (by kernel_rfl) (fun _ _ _ h => h) (Or.inl ⟨by rfl, ?_⟩) (by assumption) ?_
      rotate_left
      · intro w hSw; (try dsimp only at hSw); go_simp; (try with_reducible rfl)
      try simp only [Act.put, List.setIfInBounds_toArray, List.set_cons_zero, List.set_cons_succ]
      refine wpAnyH_take (i := 7) (oi := { dst := some 106, op := Op.pick (Operand.tmp 100) (Operand.tmp 105) (Operand.const (Value.bool false)), type := 4, pos := "law.go:103", after := #[{ on := 1, ground := Ground.data }, { on := 6, ground := Ground.data }], guard := none }) (v := ?_) rfl (by kernel_rfl) (by kernel_rfl) (by kernel_rfl) (fun _ _ _ h => h) (Or.inl ⟨by rfl, ?_⟩) (by assumption) ?_
      rotate_left
      · intro w hSw; (try dsimp only at hSw); go_simp; (try with_reducible rfl)
      try simp only [Act.put, List.setIfInBounds_toArray, List.set_cons_zero, List.set_cons_succ]
      refine wpAnyH_take (i := 8) (oi := { dst := some 107, op := Op.move (Operand.tmp 106), type := 4, pos := "law.go:103", after := #[{ on := 7, ground := Ground.data }, { on := 5, ground := Ground.chain }], guard := none }) (v := ?_) rfl (by kernel_rfl) (by kernel_rfl) (by kernel_rfl) (fun _ _ _ h => h) (Or.inl ⟨by rfl, ?_⟩) (by assumption) ?_
      rotate_left
      · intro w hSw; (try dsimp only at hSw); go_simp; (try with_reducible rfl)
      try simp only [Act.put, List.setIfInBounds_toArray, List.set_cons_zero, List.set_cons_succ]
      refine wpAnyH_take (i := 9) (oi := { dst := some 108, op := Op.move (Operand.tmp 18), type := 4, pos := "law.go:103", after := #[{ on := 8, ground := Ground.guard }], guard := some (8, false) }) (v := ?_) rfl (by kernel_rfl) (by kernel_rfl) (by kernel_rfl) (fun _ _ _ h => h) (Or.inl ⟨by rfl, ?_⟩) (by assumption) ?_
      rotate_left
      · intro w hSw; (try dsimp only at hSw); go_simp; (try with_reducible rfl)
      try simp only [Act.put, List.setIfInBounds_toArray, List.set_cons_zero, List.set_cons_succ]
      refine wpAnyH_take (i := 10) (oi := { dst := some 109, op := Op.unOp UnOp.not 4 (Operand.tmp 108), type := 4, pos := "law.go:103", after := #[{ on := 9, ground := Ground.data }, { on := 8, ground := Ground.guard }], guard := some (8, false) }) (v := ?_) rfl (by kernel_rfl) (by kernel_rfl) (by kernel_rfl) (fun _ _ _ h => h) (Or.inl ⟨by rfl, ?_⟩) (by assumption) ?_
      rotate_left
      · intro w hSw; (try dsimp only at hSw); go_simp; (try with_reducible rfl)
      try simp only [Act.put, List.setIfInBounds_toArray, List.set_cons_zero, List.set_cons_succ]
      refine wpAnyH_take (i := 11) (oi := { dst := some 110, op := Op.move (Operand.tmp 109), type := 4, pos := "law.go:103", after := #[{ on := 10, ground := Ground.data }, { on := 8, ground := Ground.chain }, { on := 8, ground := Ground.guard }], guard := some (8, false) }) (v := ?_) rfl (by kernel_rfl) (by kernel_rfl) (by kernel_rfl) (fun _ _ _ h => h) (Or.inl ⟨by rfl, ?_⟩) (by assumption) ?_
      rotate_left
      · intro w hSw; (try dsimp only at hSw); go_simp; (try with_reducible rfl)
      try simp only [Act.put, List.setIfInBounds_toArray, List.set_cons_zero, List.set_cons_succ]
      refine wpAnyH_take (i := 12) (oi := { dst := some 111, op := Op.move (Operand.tmp 15), type := 24, pos := "law.go:103", after := #[{ on := 11, ground := Ground.guard }], guard := some (11, true) }) (v := undef) rfl (by kernel_rfl) (by kernel_rfl) (by kernel_rfl) (fun _ _ _ h => h) (Or.inr ⟨by rfl, rfl⟩) (by assumption) ?_
      try simp only [Act.put, List.setIfInBounds_toArray, List.set_cons_zero, List.set_cons_succ]
      refine wpAnyH_take (i := 13) (oi := { dst := some 112, op := Op.call { callee := Callee.value (Operand.func 13), args := #[Operand.tmp 111], argTypes := #[24] }, type := 27, pos := "law.go:103", after := #[{ on := 12, ground := Ground.data }, { on := 11, ground := Ground.chain }, { on := 11, ground := Ground.guard }], guard := some (11, true) }) (v := undef) rfl (by kernel_rfl) (by kernel_rfl) (by kernel_rfl) (fun _ _ _ h => h) (Or.inr ⟨by rfl, rfl⟩) (by assumption) ?_
      try simp only [Act.put, List.setIfInBounds_toArray, List.set_cons_zero, List.set_cons_succ]
      refine wpAnyH_take (i := 14) (oi := { dst := some 113, op := Op.call { callee := Callee.builtin Builtin.len, args := #[Operand.tmp 112], argTypes := #[27] }, type := 3, pos := "law.go:103", after := #[{ on := 13, ground := Ground.data }, { on := 11, ground := Ground.guard }], guard := some (11, true) }) (v := undef) rfl (by kernel_rfl) (by kernel_rfl) (by kernel_rfl) (fun _ _ _ h => h) (Or.inr ⟨by rfl, rfl⟩) (by assumption) ?_
      try simp only [Act.put, List.setIfInBounds_toArray, List.set_cons_zero, List.set_cons_succ]
      refine wpAnyH_take (i := 15) (oi := { dst := some 114, op := Op.move (Operand.tmp 15), type := 24, pos := "law.go:103", after := #[{ on := 11, ground := Ground.guard }], guard := some (11, true) }) (v := undef) rfl (by kernel_rfl) (by kernel_rfl) (by kernel_rfl) (fun _ _ _ h => h) (Or.inr ⟨by rfl, rfl⟩) (by assumption) ?_
      try simp only [Act.put, List.setIfInBounds_toArray, List.set_cons_zero, List.set_cons_succ]
      refine wpAnyH_take (i := 16) (oi := { dst := some 115, op := Op.call { callee := Callee.value (Operand.func 14), args := #[Operand.tmp 114], argTypes := #[24] }, type := 29, pos := "law.go:103", after := #[{ on := 15, ground := Ground.data }, { on := 13, ground := Ground.chain }, { on := 11, ground := Ground.guard }], guard := some (11, true) }) (v := undef) rfl (by kernel_rfl) (by kernel_rfl) (by kernel_rfl) (fun _ _ _ h => h) (Or.inr ⟨by rfl, rfl⟩) (by assumption) ?_
      try simp only [Act.put, List.setIfInBounds_toArray, List.set_cons_zero, List.set_cons_succ]
      refine wpAnyH_take (i := 17) (oi := { dst := some 116, op := Op.call { callee := Callee.builtin Builtin.len, args := #[Operand.tmp 115], argTypes := #[29] }, type := 3, pos := "law.go:103", after := #[{ on := 16, ground := Ground.data }, { on := 11, ground := Ground.guard }], guard := some (11, true) }) (v := undef) rfl (by kernel_rfl) (by kernel_rfl) (by kernel_rfl) (fun _ _ _ h => h) (Or.inr ⟨by rfl, rfl⟩) (by assumption) ?_
      try simp only [Act.put, List.setIfInBounds_toArray, List.set_cons_zero, List.set_cons_succ]
      refine wpAnyH_take (i := 18) (oi := { dst := some 117, op := Op.binOp BinOp.add 3 (Operand.tmp 113) (Operand.tmp 116) 3, type := 3, pos := "law.go:103", after := #[{ on := 14, ground := Ground.data }, { on := 17, ground := Ground.data }, { on := 11, ground := Ground.guard }], guard := some (11, true) }) (v := undef) rfl (by kernel_rfl) (by kernel_rfl) (by kernel_rfl) (fun _ _ _ h => h) (Or.inr ⟨by rfl, rfl⟩) (by assumption) ?_
      try simp only [Act.put, List.setIfInBounds_toArray, List.set_cons_zero, List.set_cons_succ]
      refine wpAnyH_take (i := 19) (oi := { dst := some 118, op := Op.binOp BinOp.neq 3 (Operand.tmp 117) (Operand.const (Value.int IntKind.i64 0)) 3, type := 4, pos := "law.go:103", after := #[{ on := 18, ground := Ground.data }, { on := 11, ground := Ground.guard }], guard := some (11, true) }) (v := undef) rfl (by kernel_rfl) (by kernel_rfl) (by kernel_rfl) (fun _ _ _ h => h) (Or.inr ⟨by rfl, rfl⟩) (by assumption) ?_
      try simp only [Act.put, List.setIfInBounds_toArray, List.set_cons_zero, List.set_cons_succ]
      refine wpAnyH_take (i := 20) (oi := { dst := some 119, op := Op.pick (Operand.tmp 110) (Operand.tmp 118) (Operand.const (Value.bool false)), type := 4, pos := "law.go:103", after := #[{ on := 11, ground := Ground.data }, { on := 19, ground := Ground.data }, { on := 8, ground := Ground.guard }], guard := some (8, false) }) (v := ?_) rfl (by kernel_rfl) (by kernel_rfl) (by kernel_rfl) (fun _ _ _ h => h) (Or.inl ⟨by rfl, ?_⟩) (by assumption) ?_
      rotate_left
      · intro w hSw; (try dsimp only at hSw); go_simp; (try with_reducible rfl)
      try simp only [Act.put, List.setIfInBounds_toArray, List.set_cons_zero, List.set_cons_succ]
      refine wpAnyH_take (i := 21) (oi := { dst := some 120, op := Op.pick (Operand.tmp 107) (Operand.const (Value.bool true)) (Operand.tmp 119), type := 4, pos := "law.go:103", after := #[{ on := 8, ground := Ground.data }, { on := 20, ground := Ground.data }], guard := none }) (v := ?_) rfl (by kernel_rfl) (by kernel_rfl) (by kernel_rfl) (fun _ _ _ h => h) (Or.inl ⟨by rfl, ?_⟩) (by assumption) ?_
      rotate_left
      · intro w hSw; (try dsimp only at hSw); go_simp; (try with_reducible rfl)
      try simp only [Act.put, List.setIfInBounds_toArray, List.set_cons_zero, List.set_cons_succ]
      refine wpAnyH_done (by kernel_rfl) ?_ _
      refine NoPanic.normal ?_
      have HL0 := Lib.hid HK10
      clear HK10 HK9 HK8 hK9 hK10 r1 r2 hHeld CF CS2 H8
      go_wp2_with fail
      cases hpl : parseO ln with
      | none =>
        have CPL : Hid (∀ V, Tb20 V → Calls Tryd.prog 15 #[.string ⟨ln.toArray⟩] V fun e w' => e = .returned (.tuple #[.nilIface, .int .i64 3]) ∧ KeptIn (· < V.heap.size) V w') := Lib.hid fun V TV => by
          have := oParse ln (by have := hln.out; omega) V TV
          rw [hpl] at this
          exact this
        have CRP : Hid (∀ V, Calls Tryd.prog 16 #[.string ⟨ln.toArray⟩] V fun e w' => e = .returned (.tuple #[.agg #[.int .i64 0, .slice none 0 0, .slice none 0 0], .bool false]) ∧ KeptIn (· < V.heap.size) V w') := Lib.hid fun V => by
          have := rParse ln (by have := hln.out; omega) V
          rw [hpl] at this
          exact this
        clear hpl
        go_wp2_with fail
        refine (CPL.out _ (HC.out _ HL0.out).2.2.2.2.2).mono ?_
        rintro e VP ⟨rfl, hKn⟩
        have HP := Lib.hid (HL0.out.trans (hKn.mono fun k hk => Nat.lt_of_lt_of_le hk HL0.out.size))
        clear hKn HL0
        go_wp2_with fail
        refine (CRP.out _).mono ?_
        rintro e VQ ⟨rfl, hKn⟩
        have HQ := Lib.hid (HP.out.trans (hKn.mono fun k hk => Nat.lt_of_lt_of_le hk HP.out.size))
        clear hKn HP
        go_wp2_with fail
        go_ret
        exact ⟨rfl, ((HC.out _ HQ.out).2.2.2.2.1).alloc (fun _ h => h) _⟩
      | some Q =>
        obtain ⟨hq, hqc⟩ := parse_sound ln Q (by have := hln.out; omega) hpl
        have CPL : Hid (∀ V, Tb20 V → Calls Tryd.prog 15 #[.string ⟨ln.toArray⟩] V fun e w' => e = .returned (.tuple #[valO Q, .int .i64 0]) ∧ KeptIn (· < V.heap.size) V w') := Lib.hid fun V TV => by
          have := oParse ln (by have := hln.out; omega) V TV
          rw [hpl] at this
          exact this
        have CRP : Hid (∀ V, Calls Tryd.prog 16 #[.string ⟨ln.toArray⟩] V fun e w' => (∃ a1 c1 a2 c2, e = .returned (.tuple #[.agg #[.int .i64 ((Q.k + 1 : Nat) : Int), .slice a1 Q.ns.length c1, .slice a2 Q.ts.length c2], .bool true]) ∧ RdN a1 Q.ns w' ∧ RdT a2 Q.ts w') ∧ KeptIn (· < V.heap.size) V w') := Lib.hid fun V => by
          have := rParse ln (by have := hln.out; omega) V
          rw [hpl] at this
          exact this
        have CFQ : Hid (∀ V, Calls Tryd.prog 12 #[valO Q] V fun e w' => (∃ v1 v2, e = .returned (oS ((Q.k + 1 : Nat) : Int) v1 v2) ∧ RowN v1 (nsOf Q) V.heap.size w' ∧ RowT v2 (tsOf Q) V.heap.size w') ∧ KeptIn (· < V.heap.size) V w') := Lib.hid fun V => oForm Q hq V
        have CSQ := Lib.hid (sameF Q hq hqc)
        have hv0 : valO Q = .iface (tyO Q.k) (.agg (numC Q.ns ++ txtC Q.ts).toArray) := rfl
        rw [hv0] at CPL CFQ
        generalize Value.agg (numC Q.ns ++ txtC Q.ts).toArray = qv at CPL CFQ
        generalize tyO Q.k = qt at CPL CFQ
        obtain ⟨k2, hk2⟩ : ∃ k, ((Q.k + 1 : Nat) : Int) = k := ⟨_, rfl⟩
        rw [hk2] at CRP CFQ CSQ
        generalize Q.ns = qn at CRP CSQ
        generalize Q.ts = qx at CRP CSQ
        generalize nsOf Q = un at CFQ CSQ
        generalize tsOf Q = ux at CFQ CSQ
        clear hpl hq hqc hv0 hk2
        go_wp2_with fail
        refine (CPL.out _ (HC.out _ HL0.out).2.2.2.2.2).mono ?_
        rintro e VP ⟨rfl, hKn⟩
        have HP := Lib.hid (HL0.out.trans (hKn.mono fun k hk => Nat.lt_of_lt_of_le hk HL0.out.size))
        clear hKn HL0
        go_wp2_with fail
        refine (CRP.out _).mono ?_
        rintro e VQ ⟨⟨b1, e1, b2, e2, rfl, r1, r2⟩, hKq⟩
        have HQ := HP.out.trans (hKq.mono fun k hk => Nat.lt_of_lt_of_le hk HP.out.size)
        obtain ⟨VZ, hVZ⟩ : ∃ W, VQ.alloc (.cells #[.int .i64 k2, .slice b1 qn.length e1, .slice b2 qx.length e2] 32) = W := ⟨_, rfl⟩
        obtain ⟨zz, hzz⟩ : ∃ z, VQ.heap.size = z := ⟨_, rfl⟩
        have hB : VZ.heap[zz]? = some (.cells #[.int .i64 k2, .slice b1 qn.length e1, .slice b2 qx.length e2] 32 (0, 0)) := by rw [← hVZ, ← hzz]; exact heap_alloc_new _ _
        have hKZ : KeptIn (· < VQ.heap.size) VQ VZ := by rw [← hVZ]; exact (KeptIn.refl _ _).alloc (fun _ h => h) _
        have HZ : Hid (∀ U, KeptIn (· < VZ.heap.size) VZ U → U.heap[zz]? = some (.cells #[.int .i64 k2, .slice b1 qn.length e1, .slice b2 qx.length e2] 32 (0, 0)) ∧ RdN b1 qn U ∧ RdT b2 qx U ∧ KeptIn (· < w.heap.size) w U) := Lib.hid fun U hU => by
          have hkq : KeptIn (· < VQ.heap.size) VQ U := hKZ.trans (hU.mono fun k hk => Nat.lt_of_lt_of_le hk hKZ.size)
          have hkb : KeptIn (· < VB.heap.size) VB U := HQ.trans (hkq.mono fun k hk => Nat.lt_of_lt_of_le hk HQ.size)
          exact ⟨(hU.block _ (lt_of_heap hB)).trans hB, r1.old hkq, r2.old hkq, (HC.out _ hkb).2.2.2.2.1⟩
        have HK8 : KeptIn (· < VZ.heap.size) VZ VZ.drew := (KeptIn.refl _ _).drew
        have hVh := Lib.hid hVZ
        have hzh := Lib.hid hzz
        clear hVZ hzz hB hKZ r1 r2 HQ hKq HP CPL CRP HC
        go_wp2_with fail
        rw [hVh.out, hzh.out]
        clear hVh hzh
        refine wp_region_noPanic ?_
        refine wp_region_held_drew (S := fun w' => w'.cell? ⟨zz, 0, none⟩ = some (.int .i64 k2) ∧ w'.cell? ⟨zz, 1, none⟩ = some (.slice b1 qn.length e1) ∧ w'.cell? ⟨zz, 2, none⟩ = some (.slice b2 qx.length e2)) (by kernel_rfl) (⟨cell3_0 (HZ.out _ HK8).1, cell3_1 (HZ.out _ HK8).1, cell3_2 (HZ.out _ HK8).1⟩) (fun hHeld => ?_)
        refine wpAnyH_take (i := 0) (oi := { dst := some 139, op := Op.move (Operand.tmp 21), type := 24, pos := "law.go:111", after := #[], guard := none }) (v := ?_) rfl (by kernel_rfl) (by kernel_rfl) (by kernel_rfl) (fun _ _ _ h => h) (Or.inl ⟨by rfl, ?_⟩) (by assumption) ?_
        rotate_left
        · intro w hSw; (try dsimp only at hSw); go_simp; (try with_reducible rfl)
        try simp only [Act.put, List.setIfInBounds_toArray, List.set_cons_zero, List.set_cons_succ]
        refine wpAnyH_take (i := 1) (oi := { dst := some 140, op := Op.binOp BinOp.neq 24 (Operand.tmp 139) (Operand.const Value.nilIface) 24, type := 4, pos := "law.go:111", after := #[{ on := 0, ground := Ground.data }], guard := none }) (v := ?_) rfl (by kernel_rfl) (by kernel_rfl) (by kernel_rfl) (fun _ _ _ h => h) (Or.inl ⟨by rfl, ?_⟩) (by assumption) ?_
        rotate_left
        · intro w hSw; (try dsimp only at hSw); go_simp; (try with_reducible rfl)
        try simp only [Act.put, List.setIfInBounds_toArray, List.set_cons_zero, List.set_cons_succ]
        refine wpAnyH_take (i := 2) (oi := { dst := some 141, op := Op.move (Operand.tmp 140), type := 4, pos := "law.go:111", after := #[{ on := 1, ground := Ground.data }], guard := none }) (v := ?_) rfl (by kernel_rfl) (by kernel_rfl) (by kernel_rfl) (fun _ _ _ h => h) (Or.inl ⟨by rfl, ?_⟩) (by assumption) ?_
        rotate_left
        · intro w hSw; (try dsimp only at hSw); go_simp; (try with_reducible rfl)
        try simp only [Act.put, List.setIfInBounds_toArray, List.set_cons_zero, List.set_cons_succ]
        refine wpAnyH_take (i := 3) (oi := { dst := some 142, op := Op.move (Operand.tmp 22), type := 35, pos := "law.go:111", after := #[{ on := 2, ground := Ground.guard }], guard := some (2, true) }) (v := ?_) rfl (by kernel_rfl) (by kernel_rfl) (by kernel_rfl) (fun _ _ _ h => h) (Or.inl ⟨by rfl, ?_⟩) (by assumption) ?_
        rotate_left
        · intro w hSw; (try dsimp only at hSw); go_simp; (try with_reducible rfl)
        try simp only [Act.put, List.setIfInBounds_toArray, List.set_cons_zero, List.set_cons_succ]
        refine wpAnyH_take (i := 4) (oi := { dst := some 143, op := Op.binOp BinOp.eql 35 (Operand.tmp 142) (Operand.const (Value.int IntKind.i64 0)) 35, type := 4, pos := "law.go:111", after := #[{ on := 3, ground := Ground.data }, { on := 2, ground := Ground.guard }], guard := some (2, true) }) (v := ?_) rfl (by kernel_rfl) (by kernel_rfl) (by kernel_rfl) (fun _ _ _ h => h) (Or.inl ⟨by rfl, ?_⟩) (by assumption) ?_
        rotate_left
        · intro w hSw; (try dsimp only at hSw); go_simp; (try with_reducible rfl)
        try simp only [Act.put, List.setIfInBounds_toArray, List.set_cons_zero, List.set_cons_succ]
        refine wpAnyH_take (i := 5) (oi := { dst := some 144, op := Op.pick (Operand.tmp 141) (Operand.tmp 143) (Operand.const (Value.bool false)), type := 4, pos := "law.go:111", after := #[{ on := 2, ground := Ground.data }, { on := 4, ground := Ground.data }], guard := none }) (v := ?_) rfl (by kernel_rfl) (by kernel_rfl) (by kernel_rfl) (fun _ _ _ h => h) (Or.inl ⟨by rfl, ?_⟩) (by assumption) ?_
        rotate_left
        · intro w hSw; (try dsimp only at hSw); go_simp; (try with_reducible rfl)
        try simp only [Act.put, List.setIfInBounds_toArray, List.set_cons_zero, List.set_cons_succ]
        refine wpAnyH_take (i := 6) (oi := { dst := some 145, op := Op.move (Operand.tmp 144), type := 4, pos := "law.go:111", after := #[{ on := 5, ground := Ground.data }, { on := 2, ground := Ground.chain }], guard := none }) (v := ?_) rfl (by kernel_rfl) (by kernel_rfl) (by kernel_rfl) (fun _ _ _ h => h) (Or.inl ⟨by rfl, ?_⟩) (by assumption) ?_
        rotate_left
        · intro w hSw; (try dsimp only at hSw); go_simp; (try with_reducible rfl)
        try simp only [Act.put, List.setIfInBounds_toArray, List.set_cons_zero, List.set_cons_succ]
        refine wpAnyH_take (i := 7) (oi := { dst := some 146, op := Op.move (Operand.tmp 21), type := 24, pos := "law.go:111", after := #[{ on := 6, ground := Ground.guard }], guard := some (6, true) }) (v := ?_) rfl (by kernel_rfl) (by kernel_rfl) (by kernel_rfl) (fun _ _ _ h => h) (Or.inl ⟨by rfl, ?_⟩) (by assumption) ?_
        rotate_left
        · intro w hSw; (try dsimp only at hSw); go_simp; (try with_reducible rfl)
        try simp only [Act.put, List.setIfInBounds_toArray, List.set_cons_zero, List.set_cons_succ]
        refine wpAnyH_take (i := 9) (oi := { dst := some 148, op := Op.load 32 (Operand.tmp 23), type := 32, pos := "law.go:111", after := #[{ on := 6, ground := Ground.guard }], guard := some (6, true) }) (v := ?_) rfl (by kernel_rfl) (by kernel_rfl) (by kernel_rfl) (fun _ _ _ h => h) (Or.inl ⟨by rfl, ?_⟩) (by assumption) ?_
        rotate_left
        · intro w hSw; (try dsimp only at hSw); go_simp; (try with_reducible rfl)
        try simp only [Act.put, List.setIfInBounds_toArray, List.set_cons_zero, List.set_cons_succ]
        refine wpAnyH_ready (rs := [8]) (by kernel_rfl) (by simp) ?_
        refine AllReadyH.cons (o := { dst := some 147, op := Op.call { callee := Callee.value (Operand.func 12), args := #[Operand.tmp 146], argTypes := #[24] }, type := 32, pos := "law.go:111", after := #[{ on := 7, ground := Ground.data }, { on := 6, ground := Ground.chain }, { on := 6, ground := Ground.guard }], guard := some (6, true) }) rfl (fun K hK => ?_) AllReadyH.nil
        go_simp
        go_at_call 12
        refine (CFQ.out _).mono ?_
        rintro e V9 ⟨⟨v1, v2, rfl, r1, r2⟩, hK9⟩
        have HK9 := HK8.trans (hK9.mono fun k hk => Nat.lt_of_lt_of_le hk HK8.size)
        replace r1 := Lib.hid r1
        replace r2 := Lib.hid r2
        refine hK.out _ _ ?_ (fun hHeld2 => ?_)
        · (try dsimp only); exact ⟨cell3_0 (HZ.out _ HK9).1, cell3_1 (HZ.out _ HK9).1, cell3_2 (HZ.out _ HK9).1⟩
        clear hK K hHeld
        try simp only [Act.put, List.setIfInBounds_toArray, List.set_cons_zero, List.set_cons_succ]
        have hHeld := hHeld2
        clear hHeld2
        refine wpAnyH_ready (rs := [10]) (by kernel_rfl) (by simp) ?_
        refine AllReadyH.cons (o := { dst := some 149, op := Op.call { callee := Callee.value (Operand.func 11), args := #[Operand.tmp 147, Operand.tmp 148], argTypes := #[32, 32] }, type := 4, pos := "law.go:111", after := #[{ on := 8, ground := Ground.data }, { on := 9, ground := Ground.data }, { on := 8, ground := Ground.chain }, { on := 6, ground := Ground.guard }], guard := some (6, true) }) rfl (fun K hK => ?_) AllReadyH.nil
        go_simp
        go_at_call 11
        refine (CSQ.out V9 v1 v2 _ _ _ _ _ _ r1.out r2.out (HZ.out _ HK9).2.1 (HZ.out _ HK9).2.2.1).mono ?_
        rintro e V10 ⟨rfl, hK10⟩
        have HK10 := HK9.trans (hK10.mono fun k hk => Nat.lt_of_lt_of_le hk HK9.size)
        refine hK.out _ _ ?_ (fun hHeld2 => ?_)
        · (try dsimp only); exact ⟨cell3_0 (HZ.out _ HK10).1, cell3_1 (HZ.out _ HK10).1, cell3_2 (HZ.out _ HK10).1⟩
        clear hK K hHeld
        try simp only [Act.put, List.setIfInBounds_toArray, List.set_cons_zero, List.set_cons_succ]
        have hHeld := hHeld2
        clear hHeld2
        refine wpAnyH_take (i := 11) (oi := { dst := some 150, op := Op.pick (Operand.tmp 145) (Operand.tmp 149) (Operand.const (Value.bool false)), type := 4, pos := "law.go:111", after := #[{ on := 6, ground := Ground.data }, { on := 10, ground := Ground.data }], guard := none }) (v := ?_) rfl (by kernel_rfl) (by kernel_rfl) (by kernel_rfl) (fun _ _ _ h => h) (Or.inl ⟨by rfl, ?_⟩) (by assumption) ?_
        rotate_left
        · intro w hSw; (try dsimp only at hSw); go_simp; (try with_reducible rfl)
        try simp only [Act.put, List.setIfInBounds_toArray, List.set_cons_zero, List.set_cons_succ]
        refine wpAnyH_take (i := 12) (oi := { dst := some 14, op := Op.assign (Operand.tmp 150), type := 4, pos := "law.go:111", after := #[{ on := 11, ground := Ground.data }, { on := 10, ground := Ground.chain }, { on := 0, ground := Ground.phase }, { on := 1, ground := Ground.phase }, { on := 2, ground := Ground.phase }, { on := 3, ground := Ground.phase }, { on := 4, ground := Ground.phase }, { on := 5, ground := Ground.phase }, { on := 6, ground := Ground.phase }, { on := 7, ground := Ground.phase }, { on := 8, ground := Ground.phase }, { on := 9, ground := Ground.phase }, { on := 10, ground := Ground.phase }, { on := 11, ground := Ground.phase }], guard := none }) (v := ?_) rfl (by kernel_rfl) (by kernel_rfl) (by kernel_rfl) (fun _ _ _ h => h) (Or.inl ⟨by rfl, ?_⟩) (by assumption) ?_
        rotate_left
        · intro w hSw; (try dsimp only at hSw); go_simp; (try with_reducible rfl)
        try simp only [Act.put, List.setIfInBounds_toArray, List.set_cons_zero, List.set_cons_succ]
        refine wpAnyH_done (by kernel_rfl) ?_ _
        refine NoPanic.normal ?_
        have HX := Lib.hid HK10
        clear HK10 HK9 HK8 hK9 hK10 r1 r2 hHeld CFQ CSQ
        go_wp2_with fail
        go_ret
        exact ⟨rfl, (HZ.out _ HX.out).2.2.2⟩
    | false =>
      obtain rfl : (1 : Int) = eb := by rw [← heb]; rfl
      clear heb CF CS
      obtain ⟨rfl, rfl⟩ := hns0.out rfl
      clear hns0
      go_wp2_with fail
      refine (CX.out _ (HC.out _ HB5.out).2.2.2.2.2).mono ?_
      rintro e V6 ⟨rfl, hKn⟩
      have HB6 := Lib.hid (HB5.out.trans (hKn.mono fun k hk => Nat.lt_of_lt_of_le hk HB5.out.size))
      clear hKn HB5
      go_wp2_with fail
      have HK6 := HB6.out.drew
      refine wp_region_noPanic ?_
      refine wp_region_held_drew (S := fun w' => w'.cell? ⟨y, 0, none⟩ = some (.int .i64 (q : Int))) (by kernel_rfl) (cell3_0 (HC.out _ HK6).1) (fun hHeld => ?_)
      refine wpAnyH_take (i := 0) (oi := { dst := some 72, op := Op.move (Operand.tmp 15), type := 24, pos := "law.go:100", after := #[], guard := none }) (v := ?_) rfl (by kernel_rfl) (by kernel_rfl) (by kernel_rfl) (fun _ _ _ h => h) (Or.inl ⟨by rfl, ?_⟩) (by assumption) ?_
      rotate_left
      · intro w hSw; (try dsimp only at hSw); go_simp; (try with_reducible rfl)
      try simp only [Act.put, List.setIfInBounds_toArray, List.set_cons_zero, List.set_cons_succ]
      refine wpAnyH_take (i := 3) (oi := { dst := some 75, op := Op.fieldAddr 32 (Operand.tmp 16) 0, type := 0, pos := "law.go:100", after := #[], guard := none }) (v := ?_) rfl (by kernel_rfl) (by kernel_rfl) (by kernel_rfl) (fun _ _ _ h => h) (Or.inl ⟨by rfl, ?_⟩) (by assumption) ?_
      rotate_left
      · intro w hSw; (try dsimp only at hSw); go_simp; (try with_reducible rfl)
      try simp only [Act.put, List.setIfInBounds_toArray, List.set_cons_zero, List.set_cons_succ]
      refine wpAnyH_take (i := 4) (oi := { dst := some 76, op := Op.load 3 (Operand.tmp 75), type := 3, pos := "law.go:100", after := #[{ on := 3, ground := Ground.data }], guard := none }) (v := ?_) rfl (by kernel_rfl) (by kernel_rfl) (by kernel_rfl) (fun _ _ _ h => h) (Or.inl ⟨by rfl, ?_⟩) (by assumption) ?_
      rotate_left
      · intro w hSw; (try dsimp only at hSw); go_simp; (try with_reducible rfl)
      try simp only [Act.put, List.setIfInBounds_toArray, List.set_cons_zero, List.set_cons_succ]
      refine wpAnyH_ready (rs := [1]) (by kernel_rfl) (by simp) ?_
      refine AllReadyH.cons (o := { dst := some 73, op := Op.call { callee := Callee.invoke (Operand.tmp 72) "Word", args := #[], argTypes := #[] }, type := 9, pos := "law.go:100", after := #[{ on := 0, ground := Ground.data }], guard := none }) rfl (fun K hK => ?_) AllReadyH.nil
      go_simp
      refine (hw.out _).mono ?_
      rintro e V7 ⟨rfl, hK7⟩
      have HKW7 := HK6.trans (hK7.mono fun k hk => Nat.lt_of_lt_of_le hk HK6.size)
      refine hK.out _ _ ?_ (fun hHeld2 => ?_)
      · (try dsimp only); exact cell3_0 (HC.out _ HKW7).1
      clear hK K hHeld
      try simp only [Act.put, List.setIfInBounds_toArray, List.set_cons_zero, List.set_cons_succ]
      have hHeld := hHeld2
      clear hHeld2
      refine wpAnyH_ready (rs := [2]) (by kernel_rfl) (by simp) ?_
      refine AllReadyH.cons (o := { dst := some 74, op := Op.call { callee := Callee.value (Operand.func 10), args := #[], argTypes := #[] }, type := 29, pos := "law.go:100", after := #[{ on := 1, ground := Ground.chain }], guard := none }) rfl (fun K hK => ?_) AllReadyH.nil
      go_simp
      go_at_call 10
      refine (CW.out _).mono ?_
      rintro e V8 ⟨g, rfl, hR, hK8⟩
      have HKW8 := HKW7.trans (hK8.mono fun k hk => Nat.lt_of_lt_of_le hk HKW7.size)
      have hcw := hR _ _ hwq.out
      replace hR := Lib.hid hR
      refine hK.out _ _ ?_ (fun hHeld2 => ?_)
      · (try dsimp only); exact cell3_0 (HC.out _ HKW8).1
      clear hK K hHeld
      try simp only [Act.put, List.setIfInBounds_toArray, List.set_cons_zero, List.set_cons_succ]
      have hHeld := hHeld2
      clear hHeld2
      refine wpAnyH_take (i := 5) (oi := { dst := some 77, op := Op.indexAddr 29 (Operand.tmp 74) (Operand.tmp 76), type := 0, pos := "law.go:100", after := #[{ on := 2, ground := Ground.data }, { on := 4, ground := Ground.data }], guard := none }) (v := ?_) rfl (by kernel_rfl) (by kernel_rfl) (by kernel_rfl) (fun _ _ _ h => h) (Or.inl ⟨by rfl, ?_⟩) (by assumption) ?_
      rotate_left
      · intro w hSw; (try dsimp only at hSw); go_simp; (try with_reducible rfl)
      try simp only [Act.put, List.setIfInBounds_toArray, List.set_cons_zero, List.set_cons_succ]
      refine wpAnyH_ready (rs := [6]) (by kernel_rfl) (by simp) ?_
      refine AllReadyH.cons (o := { dst := some 78, op := Op.load 9 (Operand.tmp 77), type := 9, pos := "law.go:100", after := #[{ on := 5, ground := Ground.data }], guard := none }) rfl (fun K hK => ?_) AllReadyH.nil
      go_simp
      refine hK.out _ _ ?_ (fun hHeld2 => ?_)
      · (try dsimp only); exact cell3_0 (HC.out _ HKW8).1
      clear hK K hHeld
      try simp only [Act.put, List.setIfInBounds_toArray, List.set_cons_zero, List.set_cons_succ]
      have hHeld := hHeld2
      clear hHeld2
      refine wpAnyH_take (i := 7) (oi := { dst := some 79, op := Op.binOp BinOp.neq 9 (Operand.tmp 73) (Operand.tmp 78) 9, type := 4, pos := "law.go:100", after := #[{ on := 1, ground := Ground.data }, { on := 6, ground := Ground.data }], guard := none }) (v := ?_) rfl (by kernel_rfl) (by kernel_rfl) (by kernel_rfl) (fun _ _ _ h => h) (Or.inl ⟨by rfl, ?_⟩) (by assumption) ?_
      rotate_left
      · intro w hSw; (try dsimp only at hSw); go_simp; (try with_reducible rfl)
      try simp only [Act.put, List.setIfInBounds_toArray, List.set_cons_zero, List.set_cons_succ]
      refine wpAnyH_take (i := 8) (oi := { dst := some 80, op := Op.move (Operand.tmp 79), type := 4, pos := "law.go:100", after := #[{ on := 7, ground := Ground.data }, { on := 2, ground := Ground.chain }], guard := none }) (v := ?_) rfl (by kernel_rfl) (by kernel_rfl) (by kernel_rfl) (fun _ _ _ h => h) (Or.inl ⟨by rfl, ?_⟩) (by assumption) ?_
      rotate_left
      · intro w hSw; (try dsimp only at hSw); go_simp; (try with_reducible rfl)
      try simp only [Act.put, List.setIfInBounds_toArray, List.set_cons_zero, List.set_cons_succ]
      refine wpAnyH_take (i := 9) (oi := { dst := some 81, op := Op.move (Operand.tmp 19), type := 9, pos := "law.go:100", after := #[{ on := 8, ground := Ground.guard }], guard := some (8, false) }) (v := ?_) rfl (by kernel_rfl) (by kernel_rfl) (by kernel_rfl) (fun _ _ _ h => h) (Or.inl ⟨by rfl, ?_⟩) (by assumption) ?_
      rotate_left
      · intro w hSw; (try dsimp only at hSw); go_simp; (try with_reducible rfl)
      try simp only [Act.put, List.setIfInBounds_toArray, List.set_cons_zero, List.set_cons_succ]
      refine wpAnyH_take (i := 10) (oi := { dst := some 82, op := Op.move (Operand.tmp 17), type := 9, pos := "law.go:100", after := #[{ on := 8, ground := Ground.guard }], guard := some (8, false) }) (v := ?_) rfl (by kernel_rfl) (by kernel_rfl) (by kernel_rfl) (fun _ _ _ h => h) (Or.inl ⟨by rfl, ?_⟩) (by assumption) ?_
      rotate_left
      · intro w hSw; (try dsimp only at hSw); go_simp; (try with_reducible rfl)
      try simp only [Act.put, List.setIfInBounds_toArray, List.set_cons_zero, List.set_cons_succ]
      refine wpAnyH_take (i := 11) (oi := { dst := some 83, op := Op.binOp BinOp.neq 9 (Operand.tmp 81) (Operand.tmp 82) 9, type := 4, pos := "law.go:100", after := #[{ on := 9, ground := Ground.data }, { on := 10, ground := Ground.data }, { on := 8, ground := Ground.guard }], guard := some (8, false) }) (v := ?_) rfl (by kernel_rfl) (by kernel_rfl) (by kernel_rfl) (fun _ _ _ h => h) (Or.inl ⟨by rfl, ?_⟩) (by assumption) ?_
      rotate_left
      · intro w hSw; (try dsimp only at hSw); go_simp; (try with_reducible rfl)
      try simp only [Act.put, List.setIfInBounds_toArray, List.set_cons_zero, List.set_cons_succ]
      refine wpAnyH_take (i := 12) (oi := { dst := some 84, op := Op.pick (Operand.tmp 80) (Operand.const (Value.bool true)) (Operand.tmp 83), type := 4, pos := "law.go:100", after := #[{ on := 8, ground := Ground.data }, { on := 11, ground := Ground.data }], guard := none }) (v := ?_) rfl (by kernel_rfl) (by kernel_rfl) (by kernel_rfl) (fun _ _ _ h => h) (Or.inl ⟨by rfl, ?_⟩) (by assumption) ?_
      rotate_left
      · intro w hSw; (try dsimp only at hSw); go_simp; (try with_reducible rfl)
      try simp only [Act.put, List.setIfInBounds_toArray, List.set_cons_zero, List.set_cons_succ]
      refine wpAnyH_take (i := 13) (oi := { dst := some 85, op := Op.move (Operand.tmp 84), type := 4, pos := "law.go:100", after := #[{ on := 12, ground := Ground.data }, { on := 8, ground := Ground.chain }], guard := none }) (v := ?_) rfl (by kernel_rfl) (by kernel_rfl) (by kernel_rfl) (fun _ _ _ h => h) (Or.inl ⟨by rfl, ?_⟩) (by assumption) ?_
      rotate_left
      · intro w hSw; (try dsimp only at hSw); go_simp; (try with_reducible rfl)
      try simp only [Act.put, List.setIfInBounds_toArray, List.set_cons_zero, List.set_cons_succ]
      refine wpAnyH_take (i := 14) (oi := { dst := some 86, op := Op.move (Operand.tmp 18), type := 4, pos := "law.go:100", after := #[{ on := 13, ground := Ground.guard }], guard := some (13, false) }) (v := ?_) rfl (by kernel_rfl) (by kernel_rfl) (by kernel_rfl) (fun _ _ _ h => h) (Or.inl ⟨by rfl, ?_⟩) (by assumption) ?_
      rotate_left
      · intro w hSw; (try dsimp only at hSw); go_simp; (try with_reducible rfl)
      try simp only [Act.put, List.setIfInBounds_toArray, List.set_cons_zero, List.set_cons_succ]
      refine wpAnyH_take (i := 15) (oi := { dst := some 87, op := Op.move (Operand.tmp 20), type := 35, pos := "law.go:100", after := #[{ on := 13, ground := Ground.guard }], guard := some (13, false) }) (v := ?_) rfl (by kernel_rfl) (by kernel_rfl) (by kernel_rfl) (fun _ _ _ h => h) (Or.inl ⟨by rfl, ?_⟩) (by assumption) ?_
      rotate_left
      · intro w hSw; (try dsimp only at hSw); go_simp; (try with_reducible rfl)
      try simp only [Act.put, List.setIfInBounds_toArray, List.set_cons_zero, List.set_cons_succ]
      refine wpAnyH_take (i := 16) (oi := { dst := some 88, op := Op.binOp BinOp.eql 35 (Operand.tmp 87) (Operand.const (Value.int IntKind.i64 0)) 35, type := 4, pos := "law.go:100", after := #[{ on := 15, ground := Ground.data }, { on := 13, ground := Ground.guard }], guard := some (13, false) }) (v := ?_) rfl (by kernel_rfl) (by kernel_rfl) (by kernel_rfl) (fun _ _ _ h => h) (Or.inl ⟨by rfl, ?_⟩) (by assumption) ?_
      rotate_left
      · intro w hSw; (try dsimp only at hSw); go_simp; (try with_reducible rfl)
      try simp only [Act.put, List.setIfInBounds_toArray, List.set_cons_zero, List.set_cons_succ]
      refine wpAnyH_take (i := 17) (oi := { dst := some 89, op := Op.binOp BinOp.neq 4 (Operand.tmp 86) (Operand.tmp 88) 4, type := 4, pos := "law.go:100", after := #[{ on := 14, ground := Ground.data }, { on := 16, ground := Ground.data }, { on := 13, ground := Ground.guard }], guard := some (13, false) }) (v := ?_) rfl (by kernel_rfl) (by kernel_rfl) (by kernel_rfl) (fun _ _ _ h => h) (Or.inl ⟨by rfl, ?_⟩) (by assumption) ?_
      rotate_left
      · intro w hSw; (try dsimp only at hSw); go_simp; (try with_reducible rfl)
      try simp only [Act.put, List.setIfInBounds_toArray, List.set_cons_zero, List.set_cons_succ]
      refine wpAnyH_take (i := 18) (oi := { dst := some 90, op := Op.pick (Operand.tmp 85) (Operand.const (Value.bool true)) (Operand.tmp 89), type := 4, pos := "law.go:100", after := #[{ on := 13, ground := Ground.data }, { on := 17, ground := Ground.data }], guard := none }) (v := ?_) rfl (by kernel_rfl) (by kernel_rfl) (by kernel_rfl) (fun _ _ _ h => h) (Or.inl ⟨by rfl, ?_⟩) (by assumption) ?_
      rotate_left
      · intro w hSw; (try dsimp only at hSw); go_simp; (try with_reducible rfl)
      try simp only [Act.put, List.setIfInBounds_toArray, List.set_cons_zero, List.set_cons_succ]
      refine wpAnyH_take (i := 19) (oi := { dst := some 91, op := Op.move (Operand.tmp 90), type := 4, pos := "law.go:100", after := #[{ on := 18, ground := Ground.data }, { on := 13, ground := Ground.chain }], guard := none }) (v := ?_) rfl (by kernel_rfl) (by kernel_rfl) (by kernel_rfl) (fun _ _ _ h => h) (Or.inl ⟨by rfl, ?_⟩) (by assumption) ?_
      rotate_left
      · intro w hSw; (try dsimp only at hSw); go_simp; (try with_reducible rfl)
      try simp only [Act.put, List.setIfInBounds_toArray, List.set_cons_zero, List.set_cons_succ]
      refine wpAnyH_take (i := 20) (oi := { dst := some 92, op := Op.move (Operand.tmp 18), type := 4, pos := "law.go:100", after := #[{ on := 19, ground := Ground.guard }], guard := some (19, false) }) (v := ?_) rfl (by kernel_rfl) (by kernel_rfl) (by kernel_rfl) (fun _ _ _ h => h) (Or.inl ⟨by rfl, ?_⟩) (by assumption) ?_
      rotate_left
      · intro w hSw; (try dsimp only at hSw); go_simp; (try with_reducible rfl)
      try simp only [Act.put, List.setIfInBounds_toArray, List.set_cons_zero, List.set_cons_succ]
      refine wpAnyH_take (i := 21) (oi := { dst := some 93, op := Op.unOp UnOp.not 4 (Operand.tmp 92), type := 4, pos := "law.go:100", after := #[{ on := 20, ground := Ground.data }, { on := 19, ground := Ground.guard }], guard := some (19, false) }) (v := ?_) rfl (by kernel_rfl) (by kernel_rfl) (by kernel_rfl) (fun _ _ _ h => h) (Or.inl ⟨by rfl, ?_⟩) (by assumption) ?_
      rotate_left
      · intro w hSw; (try dsimp only at hSw); go_simp; (try with_reducible rfl)
      try simp only [Act.put, List.setIfInBounds_toArray, List.set_cons_zero, List.set_cons_succ]
      refine wpAnyH_take (i := 22) (oi := { dst := some 94, op := Op.move (Operand.tmp 93), type := 4, pos := "law.go:100", after := #[{ on := 21, ground := Ground.data }, { on := 19, ground := Ground.chain }, { on := 19, ground := Ground.guard }], guard := some (19, false) }) (v := ?_) rfl (by kernel_rfl) (by kernel_rfl) (by kernel_rfl) (fun _ _ _ h => h) (Or.inl ⟨by rfl, ?_⟩) (by assumption) ?_
      rotate_left
      · intro w hSw; (try dsimp only at hSw); go_simp; (try with_reducible rfl)
      try simp only [Act.put, List.setIfInBounds_toArray, List.set_cons_zero, List.set_cons_succ]
      refine wpAnyH_take (i := 23) (oi := { dst := some 95, op := Op.move (Operand.tmp 20), type := 35, pos := "law.go:100", after := #[{ on := 22, ground := Ground.guard }], guard := some (22, true) }) (v := ?_) rfl (by kernel_rfl) (by kernel_rfl) (by kernel_rfl) (fun _ _ _ h => h) (Or.inl ⟨by rfl, ?_⟩) (by assumption) ?_
      rotate_left
      · intro w hSw; (try dsimp only at hSw); go_simp; (try with_reducible rfl)
      try simp only [Act.put, List.setIfInBounds_toArray, List.set_cons_zero, List.set_cons_succ]
      refine wpAnyH_take (i := 24) (oi := { dst := some 96, op := Op.binOp BinOp.neq 35 (Operand.tmp 95) (Operand.const (Value.int IntKind.i64 1)) 35, type := 4, pos := "law.go:100", after := #[{ on := 23, ground := Ground.data }, { on := 22, ground := Ground.guard }], guard := some (22, true) }) (v := ?_) rfl (by kernel_rfl) (by kernel_rfl) (by kernel_rfl) (fun _ _ _ h => h) (Or.inl ⟨by rfl, ?_⟩) (by assumption) ?_
      rotate_left
      · intro w hSw; (try dsimp only at hSw); go_simp; (try with_reducible rfl)
      try simp only [Act.put, List.setIfInBounds_toArray, List.set_cons_zero, List.set_cons_succ]
      refine wpAnyH_take (i := 25) (oi := { dst := some 97, op := Op.pick (Operand.tmp 94) (Operand.tmp 96) (Operand.const (Value.bool false)), type := 4, pos := "law.go:100", after := #[{ on := 22, ground := Ground.data }, { on := 24, ground := Ground.data }, { on := 19, ground := Ground.guard }], guard := some (19, false) }) (v := ?_) rfl (by kernel_rfl) (by kernel_rfl) (by kernel_rfl) (fun _ _ _ h => h) (Or.inl ⟨by rfl, ?_⟩) (by assumption) ?_
      rotate_left
      · intro w hSw; (try dsimp only at hSw); go_simp; (try with_reducible rfl)
      try simp only [Act.put, List.setIfInBounds_toArray, List.set_cons_zero, List.set_cons_succ]
      refine wpAnyH_take (i := 26) (oi := { dst := some 98, op := Op.pick (Operand.tmp 91) (Operand.const (Value.bool true)) (Operand.tmp 97), type := 4, pos := "law.go:100", after := #[{ on := 19, ground := Ground.data }, { on := 25, ground := Ground.data }], guard := none }) (v := ?_) rfl (by kernel_rfl) (by kernel_rfl) (by kernel_rfl) (fun _ _ _ h => h) (Or.inl ⟨by rfl, ?_⟩) (by assumption) ?_
      rotate_left
      · intro w hSw; (try dsimp only at hSw); go_simp; (try with_reducible rfl)
      try simp only [Act.put, List.setIfInBounds_toArray, List.set_cons_zero, List.set_cons_succ]
      refine wpAnyH_done (by kernel_rfl) ?_ _
      refine NoPanic.normal ?_
      have H8 := Lib.hid HKW8
      clear HKW8 HKW7 hK8 hK7 hcw hR hHeld HK6 HB6 hf hm hw hwq CW
      go_wp2_with fail
      have HK8 := H8.out.drew
      refine wp_region_noPanic ?_
      refine wp_region_held_drew (S := fun w' => w'.cell? ⟨y, 0, none⟩ = some (.int .i64 (q : Int)) ∧ w'.cell? ⟨y, 1, none⟩ = some (.slice (some ⟨gn, 0, none⟩) nn 3) ∧ w'.cell? ⟨y, 2, none⟩ = some (.slice (some ⟨gt, 0, none⟩) nt 3)) (by kernel_rfl) (⟨cell3_0 (HC.out _ HK8).1, cell3_1 (HC.out _ HK8).1, cell3_2 (HC.out _ HK8).1⟩) (fun hHeld => ?_)
      refine wpAnyH_take (i := 0) (oi := { dst := some 99, op := Op.move (Operand.tmp 18), type := 4, pos := "law.go:103", after := #[], guard := none }) (v := ?_) rfl (by kernel_rfl) (by kernel_rfl) (by kernel_rfl) (fun _ _ _ h => h) (Or.inl ⟨by rfl, ?_⟩) (by assumption) ?_
      rotate_left
      · intro w hSw; (try dsimp only at hSw); go_simp; (try with_reducible rfl)
      try simp only [Act.put, List.setIfInBounds_toArray, List.set_cons_zero, List.set_cons_succ]
      refine wpAnyH_take (i := 1) (oi := { dst := some 100, op := Op.move (Operand.tmp 99), type := 4, pos := "law.go:103", after := #[{ on := 0, ground := Ground.data }], guard := none }) (v := ?_) rfl (by kernel_rfl) (by kernel_rfl) (by kernel_rfl) (fun _ _ _ h => h) (Or.inl ⟨by rfl, ?_⟩) (by assumption) ?_
      rotate_left
      · intro w hSw; (try dsimp only at hSw); go_simp; (try with_reducible rfl)
      try simp only [Act.put, List.setIfInBounds_toArray, List.set_cons_zero, List.set_cons_succ]
      refine wpAnyH_take (i := 2) (oi := { dst := some 101, op := Op.move (Operand.tmp 15), type := 24, pos := "law.go:103", after := #[{ on := 1, ground := Ground.guard }], guard := some (1, true) }) (v := undef) rfl (by kernel_rfl) (by kernel_rfl) (by kernel_rfl) (fun _ _ _ h => h) (Or.inr ⟨by rfl, rfl⟩) (by assumption) ?_
      try simp only [Act.put, List.setIfInBounds_toArray, List.set_cons_zero, List.set_cons_succ]
      refine wpAnyH_take (i := 3) (oi := { dst := some 102, op := Op.call { callee := Callee.value (Operand.func 12), args := #[Operand.tmp 101], argTypes := #[24] }, type := 32, pos := "law.go:103", after := #[{ on := 2, ground := Ground.data }, { on := 1, ground := Ground.chain }, { on := 1, ground := Ground.guard }], guard := some (1, true) }) (v := undef) rfl (by kernel_rfl) (by kernel_rfl) (by kernel_rfl) (fun _ _ _ h => h) (Or.inr ⟨by rfl, rfl⟩) (by assumption) ?_
      try simp only [Act.put, List.setIfInBounds_toArray, List.set_cons_zero, List.set_cons_succ]
      refine wpAnyH_take (i := 4) (oi := { dst := some 103, op := Op.load 32 (Operand.tmp 16), type := 32, pos := "law.go:103", after := #[{ on := 1, ground := Ground.guard }], guard := some (1, true) }) (v := undef) rfl (by kernel_rfl) (by kernel_rfl) (by kernel_rfl) (fun _ _ _ h => h) (Or.inr ⟨by rfl, rfl⟩) (by assumption) ?_
      try simp only [Act.put, List.setIfInBounds_toArray, List.set_cons_zero, List.set_cons_succ]
      refine wpAnyH_take (i := 5) (oi := { dst := some 104, op := Op.call { callee := Callee.value (Operand.func 11), args := #[Operand.tmp 102, Operand.tmp 103], argTypes := #[32, 32] }, type := 4, pos := "law.go:103", after := #[{ on := 3, ground := Ground.data }, { on := 4, ground := Ground.data }, { on := 3, ground := Ground.chain }, { on := 1, ground := Ground.guard }], guard := some (1, true) }) (v := undef) rfl (by kernel_rfl) (by kernel_rfl) (by kernel_rfl) (fun _ _ _ h => h) (Or.inr ⟨by rfl, rfl⟩) (by assumption) ?_
      try simp only [Act.put, List.setIfInBounds_toArray, List.set_cons_zero, List.set_cons_succ]
      refine wpAnyH_take (i := 6) (oi := { dst := some 105, op := Op.unOp UnOp.not 4 (Operand.tmp 104), type := 4, pos := "law.go:103", after := #[{ on := 5, ground := Ground.data }, { on := 1, ground := Ground.guard }], guard := some (1, true) }) (v := undef) rfl (by kernel_rfl) (by kernel_rfl) (by kernel_rfl) (fun _ _ _ h => h) (Or.inr ⟨by rfl, rfl⟩) (by assumption) ?_
      try simp only [Act.put, List.setIfInBounds_toArray, List.set_cons_zero, List.set_cons_succ]
      refine wpAnyH_take (i := 7) (oi := { dst := some 106, op := Op.pick (Operand.tmp 100) (Operand.tmp 105) (Operand.const (Value.bool false)), type := 4, pos := "law.go:103", after := #[{ on := 1, ground := Ground.data }, { on := 6, ground := Ground.data }], guard := none }) (v := ?_) rfl (by kernel_rfl) (by kernel_rfl) (by kernel_rfl) (fun _ _ _ h => h) (Or.inl ⟨by rfl, ?_⟩) (by assumption) ?_
      rotate_left
      · intro w hSw; (try dsimp only at hSw); go_simp; (try with_reducible rfl)
      try simp only [Act.put, List.setIfInBounds_toArray, List.set_cons_zero, List.set_cons_succ]
      refine wpAnyH_take (i := 8) (oi := { dst := some 107, op := Op.move (Operand.tmp 106), type := 4, pos := "law.go:103", after := #[{ on := 7, ground := Ground.data }, { on := 5, ground := Ground.chain }], guard := none }) (v := ?_) rfl (by kernel_rfl) (by kernel_rfl) (by kernel_rfl) (fun _ _ _ h => h) (Or.inl ⟨by rfl, ?_⟩) (by assumption) ?_
      rotate_left
      · intro w hSw; (try dsimp only at hSw); go_simp; (try with_reducible rfl)
      try simp only [Act.put, List.setIfInBounds_toArray, List.set_cons_zero, List.set_cons_succ]
      refine wpAnyH_take (i := 9) (oi := { dst := some 108, op := Op.move (Operand.tmp 18), type := 4, pos := "law.go:103", after := #[{ on := 8, ground := Ground.guard }], guard := some (8, false) }) (v := ?_) rfl (by kernel_rfl) (by kernel_rfl) (by kernel_rfl) (fun _ _ _ h => h) (Or.inl ⟨by rfl, ?_⟩) (by assumption) ?_
      rotate_left
      · intro w hSw; (try dsimp only at hSw); go_simp; (try with_reducible rfl)
      try simp only [Act.put, List.setIfInBounds_toArray, List.set_cons_zero, List.set_cons_succ]
      refine wpAnyH_take (i := 10) (oi := { dst := some 109, op := Op.unOp UnOp.not 4 (Operand.tmp 108), type := 4, pos := "law.go:103", after := #[{ on := 9, ground := Ground.data }, { on := 8, ground := Ground.guard }], guard := some (8, false) }) (v := ?_) rfl (by kernel_rfl) (by kernel_rfl) (by kernel_rfl) (fun _ _ _ h => h) (Or.inl ⟨by rfl, ?_⟩) (by assumption) ?_
      rotate_left
      · intro w hSw; (try dsimp only at hSw); go_simp; (try with_reducible rfl)
      try simp only [Act.put, List.setIfInBounds_toArray, List.set_cons_zero, List.set_cons_succ]
      refine wpAnyH_take (i := 11) (oi := { dst := some 110, op := Op.move (Operand.tmp 109), type := 4, pos := "law.go:103", after := #[{ on := 10, ground := Ground.data }, { on := 8, ground := Ground.chain }, { on := 8, ground := Ground.guard }], guard := some (8, false) }) (v := ?_) rfl (by kernel_rfl) (by kernel_rfl) (by kernel_rfl) (fun _ _ _ h => h) (Or.inl ⟨by rfl, ?_⟩) (by assumption) ?_
      rotate_left
      · intro w hSw; (try dsimp only at hSw); go_simp; (try with_reducible rfl)
      try simp only [Act.put, List.setIfInBounds_toArray, List.set_cons_zero, List.set_cons_succ]
      refine wpAnyH_take (i := 12) (oi := { dst := some 111, op := Op.move (Operand.tmp 15), type := 24, pos := "law.go:103", after := #[{ on := 11, ground := Ground.guard }], guard := some (11, true) }) (v := ?_) rfl (by kernel_rfl) (by kernel_rfl) (by kernel_rfl) (fun _ _ _ h => h) (Or.inl ⟨by rfl, ?_⟩) (by assumption) ?_
      rotate_left
      · intro w hSw; (try dsimp only at hSw); go_simp; (try with_reducible rfl)
      try simp only [Act.put, List.setIfInBounds_toArray, List.set_cons_zero, List.set_cons_succ]
      refine wpAnyH_take (i := 15) (oi := { dst := some 114, op := Op.move (Operand.tmp 15), type := 24, pos := "law.go:103", after := #[{ on := 11, ground := Ground.guard }], guard := some (11, true) }) (v := ?_) rfl (by kernel_rfl) (by kernel_rfl) (by kernel_rfl) (fun _ _ _ h => h) (Or.inl ⟨by rfl, ?_⟩) (by assumption) ?_
      rotate_left
      · intro w hSw; (try dsimp only at hSw); go_simp; (try with_reducible rfl)
      try simp only [Act.put, List.setIfInBounds_toArray, List.set_cons_zero, List.set_cons_succ]
      refine wpAnyH_ready (rs := [13]) (by kernel_rfl) (by simp) ?_
      refine AllReadyH.cons (o := { dst := some 112, op := Op.call { callee := Callee.value (Operand.func 13), args := #[Operand.tmp 111], argTypes := #[24] }, type := 27, pos := "law.go:103", after := #[{ on := 12, ground := Ground.data }, { on := 11, ground := Ground.chain }, { on := 11, ground := Ground.guard }], guard := some (11, true) }) rfl (fun K hK => ?_) AllReadyH.nil
      go_simp
      go_at_call 13
      refine (CNu.out _).mono ?_
      rintro e V9 ⟨v1, rfl, r1, hK9⟩
      have HK9 := HK8.trans (hK9.mono fun k hk => Nat.lt_of_lt_of_le hk HK8.size)
      obtain ⟨a1, rfl⟩ := nlen_of r1
      clear r1
      refine hK.out _ _ ?_ (fun hHeld2 => ?_)
      · (try dsimp only); exact ⟨cell3_0 (HC.out _ HK9).1, cell3_1 (HC.out _ HK9).1, cell3_2 (HC.out _ HK9).1⟩
      clear hK K hHeld
      try simp only [Act.put, List.setIfInBounds_toArray, List.set_cons_zero, List.set_cons_succ]
      have hHeld := hHeld2
      clear hHeld2
      refine wpAnyH_take (i := 14) (oi := { dst := some 113, op := Op.call { callee := Callee.builtin Builtin.len, args := #[Operand.tmp 112], argTypes := #[27] }, type := 3, pos := "law.go:103", after := #[{ on := 13, ground := Ground.data }, { on := 11, ground := Ground.guard }], guard := some (11, true) }) (v := ?_) rfl (by kernel_rfl) (by kernel_rfl) (by kernel_rfl) (fun _ _ _ h => h) (Or.inl ⟨by rfl, ?_⟩) (by assumption) ?_
      rotate_left
      · intro w hSw; (try dsimp only at hSw); go_simp; (try with_reducible rfl)
      try simp only [Act.put, List.setIfInBounds_toArray, List.set_cons_zero, List.set_cons_succ]
      refine wpAnyH_ready (rs := [16]) (by kernel_rfl) (by simp) ?_
      refine AllReadyH.cons (o := { dst := some 115, op := Op.call { callee := Callee.value (Operand.func 14), args := #[Operand.tmp 114], argTypes := #[24] }, type := 29, pos := "law.go:103", after := #[{ on := 15, ground := Ground.data }, { on := 13, ground := Ground.chain }, { on := 11, ground := Ground.guard }], guard := some (11, true) }) rfl (fun K hK => ?_) AllReadyH.nil
      go_simp
      go_at_call 14
      refine (CDa.out _).mono ?_
      rintro e V10 ⟨v2, rfl, r2, hK10⟩
      have HK10 := HK9.trans (hK10.mono fun k hk => Nat.lt_of_lt_of_le hk HK9.size)
      obtain ⟨a2, rfl⟩ := tlen_of r2
      clear r2
      refine hK.out _ _ ?_ (fun hHeld2 => ?_)
      · (try dsimp only); exact ⟨cell3_0 (HC.out _ HK10).1, cell3_1 (HC.out _ HK10).1, cell3_2 (HC.out _ HK10).1⟩
      clear hK K hHeld
      try simp only [Act.put, List.setIfInBounds_toArray, List.set_cons_zero, List.set_cons_succ]
      have hHeld := hHeld2
      clear hHeld2
      refine wpAnyH_take (i := 17) (oi := { dst := some 116, op := Op.call { callee := Callee.builtin Builtin.len, args := #[Operand.tmp 115], argTypes := #[29] }, type := 3, pos := "law.go:103", after := #[{ on := 16, ground := Ground.data }, { on := 11, ground := Ground.guard }], guard := some (11, true) }) (v := ?_) rfl (by kernel_rfl) (by kernel_rfl) (by kernel_rfl) (fun _ _ _ h => h) (Or.inl ⟨by rfl, ?_⟩) (by assumption) ?_
      rotate_left
      · intro w hSw; (try dsimp only at hSw); go_simp; (try with_reducible rfl)
      try simp only [Act.put, List.setIfInBounds_toArray, List.set_cons_zero, List.set_cons_succ]
      refine wpAnyH_take (i := 18) (oi := { dst := some 117, op := Op.binOp BinOp.add 3 (Operand.tmp 113) (Operand.tmp 116) 3, type := 3, pos := "law.go:103", after := #[{ on := 14, ground := Ground.data }, { on := 17, ground := Ground.data }, { on := 11, ground := Ground.guard }], guard := some (11, true) }) (v := ?_) rfl (by kernel_rfl) (by kernel_rfl) (by kernel_rfl) (fun _ _ _ h => h) (Or.inl ⟨by rfl, ?_⟩) (by assumption) ?_
      rotate_left
      · intro w hSw; (try dsimp only at hSw); go_simp; (try with_reducible rfl)
      try simp only [Act.put, List.setIfInBounds_toArray, List.set_cons_zero, List.set_cons_succ]
      refine wpAnyH_take (i := 19) (oi := { dst := some 118, op := Op.binOp BinOp.neq 3 (Operand.tmp 117) (Operand.const (Value.int IntKind.i64 0)) 3, type := 4, pos := "law.go:103", after := #[{ on := 18, ground := Ground.data }, { on := 11, ground := Ground.guard }], guard := some (11, true) }) (v := ?_) rfl (by kernel_rfl) (by kernel_rfl) (by kernel_rfl) (fun _ _ _ h => h) (Or.inl ⟨by rfl, ?_⟩) (by assumption) ?_
      rotate_left
      · intro w hSw; (try dsimp only at hSw); go_simp; (try with_reducible rfl)
      try simp only [Act.put, List.setIfInBounds_toArray, List.set_cons_zero, List.set_cons_succ]
      refine wpAnyH_take (i := 20) (oi := { dst := some 119, op := Op.pick (Operand.tmp 110) (Operand.tmp 118) (Operand.const (Value.bool false)), type := 4, pos := "law.go:103", after := #[{ on := 11, ground := Ground.data }, { on := 19, ground := Ground.data }, { on := 8, ground := Ground.guard }], guard := some (8, false) }) (v := ?_) rfl (by kernel_rfl) (by kernel_rfl) (by kernel_rfl) (fun _ _ _ h => h) (Or.inl ⟨by rfl, ?_⟩) (by assumption) ?_
      rotate_left
      · intro w hSw; (try dsimp only at hSw); go_simp; (try with_reducible rfl)
      try simp only [Act.put, List.setIfInBounds_toArray, List.set_cons_zero, List.set_cons_succ]
      refine wpAnyH_take (i := 21) (oi := { dst := some 120, op := Op.pick (Operand.tmp 107) (Operand.const (Value.bool true)) (Operand.tmp 119), type := 4, pos := "law.go:103", after := #[{ on := 8, ground := Ground.data }, { on := 20, ground := Ground.data }], guard := none }) (v := ?_) rfl (by kernel_rfl) (by kernel_rfl) (by kernel_rfl) (fun _ _ _ h => h) (Or.inl ⟨by rfl, ?_⟩) (by assumption) ?_
      rotate_left
      · intro w hSw; (try dsimp only at hSw); go_simp; (try with_reducible rfl)
      try simp only [Act.put, List.setIfInBounds_toArray, List.set_cons_zero, List.set_cons_succ]
      refine wpAnyH_done (by kernel_rfl) ?_ _
      refine NoPanic.normal ?_
      have HL0 := Lib.hid HK10
      clear HK10 HK9 HK8 hK9 hK10 hHeld CNu CDa H8
      go_wp2_with fail
      cases hpl : parseO ln with
      | none =>
        have CPL : Hid (∀ V, Tb20 V → Calls Tryd.prog 15 #[.string ⟨ln.toArray⟩] V fun e w' => e = .returned (.tuple #[.nilIface, .int .i64 3]) ∧ KeptIn (· < V.heap.size) V w') := Lib.hid fun V TV => by
          have := oParse ln (by have := hln.out; omega) V TV
          rw [hpl] at this
          exact this
        have CRP : Hid (∀ V, Calls Tryd.prog 16 #[.string ⟨ln.toArray⟩] V fun e w' => e = .returned (.tuple #[.agg #[.int .i64 0, .slice none 0 0, .slice none 0 0], .bool false]) ∧ KeptIn (· < V.heap.size) V w') := Lib.hid fun V => by
          have := rParse ln (by have := hln.out; omega) V
          rw [hpl] at this
          exact this
        clear hpl
        go_wp2_with fail
        refine (CPL.out _ (HC.out _ HL0.out).2.2.2.2.2).mono ?_
        rintro e VP ⟨rfl, hKn⟩
        have HP := Lib.hid (HL0.out.trans (hKn.mono fun k hk => Nat.lt_of_lt_of_le hk HL0.out.size))
        clear hKn HL0
        go_wp2_with fail
        refine (CRP.out _).mono ?_
        rintro e VQ ⟨rfl, hKn⟩
        have HQ := Lib.hid (HP.out.trans (hKn.mono fun k hk => Nat.lt_of_lt_of_le hk HP.out.size))
        clear hKn HP
        go_wp2_with fail
        go_ret
        exact ⟨rfl, ((HC.out _ HQ.out).2.2.2.2.1).alloc (fun _ h => h) _⟩
      | some Q =>
        obtain ⟨hq, hqc⟩ := parse_sound ln Q (by have := hln.out; omega) hpl
        have CPL : Hid (∀ V, Tb20 V → Calls Tryd.prog 15 #[.string ⟨ln.toArray⟩] V fun e w' => e = .returned (.tuple #[valO Q, .int .i64 0]) ∧ KeptIn (· < V.heap.size) V w') := Lib.hid fun V TV => by
          have := oParse ln (by have := hln.out; omega) V TV
          rw [hpl] at this
          exact this
        have CRP : Hid (∀ V, Calls Tryd.prog 16 #[.string ⟨ln.toArray⟩] V fun e w' => (∃ a1 c1 a2 c2, e = .returned (.tuple #[.agg #[.int .i64 ((Q.k + 1 : Nat) : Int), .slice a1 Q.ns.length c1, .slice a2 Q.ts.length c2], .bool true]) ∧ RdN a1 Q.ns w' ∧ RdT a2 Q.ts w') ∧ KeptIn (· < V.heap.size) V w') := Lib.hid fun V => by
          have := rParse ln (by have := hln.out; omega) V
          rw [hpl] at this
          exact this
        have CFQ : Hid (∀ V, Calls Tryd.prog 12 #[valO Q] V fun e w' => (∃ v1 v2, e = .returned (oS ((Q.k + 1 : Nat) : Int) v1 v2) ∧ RowN v1 (nsOf Q) V.heap.size w' ∧ RowT v2 (tsOf Q) V.heap.size w') ∧ KeptIn (· < V.heap.size) V w') := Lib.hid fun V => oForm Q hq V
        have CSQ := Lib.hid (sameF Q hq hqc)
        have hv0 : valO Q = .iface (tyO Q.k) (.agg (numC Q.ns ++ txtC Q.ts).toArray) := rfl
        rw [hv0] at CPL CFQ
        generalize Value.agg (numC Q.ns ++ txtC Q.ts).toArray = qv at CPL CFQ
        generalize tyO Q.k = qt at CPL CFQ
        obtain ⟨k2, hk2⟩ : ∃ k, ((Q.k + 1 : Nat) : Int) = k := ⟨_, rfl⟩
        rw [hk2] at CRP CFQ CSQ
        generalize Q.ns = qn at CRP CSQ
        generalize Q.ts = qx at CRP CSQ
        generalize nsOf Q = un at CFQ CSQ
        generalize tsOf Q = ux at CFQ CSQ
        clear hpl hq hqc hv0 hk2
        go_wp2_with fail
        refine (CPL.out _ (HC.out _ HL0.out).2.2.2.2.2).mono ?_
        rintro e VP ⟨rfl, hKn⟩
        have HP := Lib.hid (HL0.out.trans (hKn.mono fun k hk => Nat.lt_of_lt_of_le hk HL0.out.size))
        clear hKn HL0
        go_wp2_with fail
        refine (CRP.out _).mono ?_
        rintro e VQ ⟨⟨b1, e1, b2, e2, rfl, r1, r2⟩, hKq⟩
        have HQ := HP.out.trans (hKq.mono fun k hk => Nat.lt_of_lt_of_le hk HP.out.size)
        obtain ⟨VZ, hVZ⟩ : ∃ W, VQ.alloc (.cells #[.int .i64 k2, .slice b1 qn.length e1, .slice b2 qx.length e2] 32) = W := ⟨_, rfl⟩
        obtain ⟨zz, hzz⟩ : ∃ z, VQ.heap.size = z := ⟨_, rfl⟩
        have hB : VZ.heap[zz]? = some (.cells #[.int .i64 k2, .slice b1 qn.length e1, .slice b2 qx.length e2] 32 (0, 0)) := by rw [← hVZ, ← hzz]; exact heap_alloc_new _ _
        have hKZ : KeptIn (· < VQ.heap.size) VQ VZ := by rw [← hVZ]; exact (KeptIn.refl _ _).alloc (fun _ h => h) _
        have HZ : Hid (∀ U, KeptIn (· < VZ.heap.size) VZ U → U.heap[zz]? = some (.cells #[.int .i64 k2, .slice b1 qn.length e1, .slice b2 qx.length e2] 32 (0, 0)) ∧ RdN b1 qn U ∧ RdT b2 qx U ∧ KeptIn (· < w.heap.size) w U) := Lib.hid fun U hU => by
          have hkq : KeptIn (· < VQ.heap.size) VQ U := hKZ.trans (hU.mono fun k hk => Nat.lt_of_lt_of_le hk hKZ.size)
          have hkb : KeptIn (· < VB.heap.size) VB U := HQ.trans (hkq.mono fun k hk => Nat.lt_of_lt_of_le hk HQ.size)
          exact ⟨(hU.block _ (lt_of_heap hB)).trans hB, r1.old hkq, r2.old hkq, (HC.out _ hkb).2.2.2.2.1⟩
        have HK8 : KeptIn (· < VZ.heap.size) VZ VZ.drew := (KeptIn.refl _ _).drew
        have hVh := Lib.hid hVZ
        have hzh := Lib.hid hzz
        clear hVZ hzz hB hKZ r1 r2 HQ hKq HP CPL CRP HC
        go_wp2_with fail
        rw [hVh.out, hzh.out]
        clear hVh hzh
        refine wp_region_noPanic ?_
        refine wp_region_held_drew (S := fun w' => w'.cell? ⟨zz, 0, none⟩ = some (.int .i64 k2) ∧ w'.cell? ⟨zz, 1, none⟩ = some (.slice b1 qn.length e1) ∧ w'.cell? ⟨zz, 2, none⟩ = some (.slice b2 qx.length e2)) (by kernel_rfl) (⟨cell3_0 (HZ.out _ HK8).1, cell3_1 (HZ.out _ HK8).1, cell3_2 (HZ.out _ HK8).1⟩) (fun hHeld => ?_)
        refine wpAnyH_take (i := 0) (oi := { dst := some 139, op := Op.move (Operand.tmp 21), type := 24, pos := "law.go:111", after := #[], guard := none }) (v := ?_) rfl (by kernel_rfl) (by kernel_rfl) (by kernel_rfl) (fun _ _ _ h => h) (Or.inl ⟨by rfl, ?_⟩) (by assumption) ?_
        rotate_left
        · intro w hSw; (try dsimp only at hSw); go_simp; (try with_reducible rfl)
        try simp only [Act.put, List.setIfInBounds_toArray, List.set_cons_zero, List.set_cons_succ]
        refine wpAnyH_take (i := 1) (oi := { dst := some 140, op := Op.binOp BinOp.neq 24 (Operand.tmp 139) (Operand.const Value.nilIface) 24, type := 4, pos := "law.go:111", after := #[{ on := 0, ground := Ground.data }], guard := none }) (v := ?_) rfl (by kernel_rfl) (by kernel_rfl) (by kernel_rfl) (fun _ _ _ h => h) (Or.inl ⟨by rfl, ?_⟩) (by assumption) ?_
        rotate_left
        · intro w hSw; (try dsimp only at hSw); go_simp; (try with_reducible rfl)
        try simp only [Act.put, List.setIfInBounds_toArray, List.set_cons_zero, List.set_cons_succ]
        refine wpAnyH_take (i := 2) (oi := { dst := some 141, op := Op.move (Operand.tmp 140), type := 4, pos := "law.go:111", after := #[{ on := 1, ground := Ground.data }], guard := none }) (v := ?_) rfl (by kernel_rfl) (by kernel_rfl) (by kernel_rfl) (fun _ _ _ h => h) (Or.inl ⟨by rfl, ?_⟩) (by assumption) ?_
        rotate_left
        · intro w hSw; (try dsimp only at hSw); go_simp; (try with_reducible rfl)
        try simp only [Act.put, List.setIfInBounds_toArray, List.set_cons_zero, List.set_cons_succ]
        refine wpAnyH_take (i := 3) (oi := { dst := some 142, op := Op.move (Operand.tmp 22), type := 35, pos := "law.go:111", after := #[{ on := 2, ground := Ground.guard }], guard := some (2, true) }) (v := ?_) rfl (by kernel_rfl) (by kernel_rfl) (by kernel_rfl) (fun _ _ _ h => h) (Or.inl ⟨by rfl, ?_⟩) (by assumption) ?_
        rotate_left
        · intro w hSw; (try dsimp only at hSw); go_simp; (try with_reducible rfl)
        try simp only [Act.put, List.setIfInBounds_toArray, List.set_cons_zero, List.set_cons_succ]
        refine wpAnyH_take (i := 4) (oi := { dst := some 143, op := Op.binOp BinOp.eql 35 (Operand.tmp 142) (Operand.const (Value.int IntKind.i64 0)) 35, type := 4, pos := "law.go:111", after := #[{ on := 3, ground := Ground.data }, { on := 2, ground := Ground.guard }], guard := some (2, true) }) (v := ?_) rfl (by kernel_rfl) (by kernel_rfl) (by kernel_rfl) (fun _ _ _ h => h) (Or.inl ⟨by rfl, ?_⟩) (by assumption) ?_
        rotate_left
        · intro w hSw; (try dsimp only at hSw); go_simp; (try with_reducible rfl)
        try simp only [Act.put, List.setIfInBounds_toArray, List.set_cons_zero, List.set_cons_succ]
        refine wpAnyH_take (i := 5) (oi := { dst := some 144, op := Op.pick (Operand.tmp 141) (Operand.tmp 143) (Operand.const (Value.bool false)), type := 4, pos := "law.go:111", after := #[{ on := 2, ground := Ground.data }, { on := 4, ground := Ground.data }], guard := none }) (v := ?_) rfl (by kernel_rfl) (by kernel_rfl) (by kernel_rfl) (fun _ _ _ h => h) (Or.inl ⟨by rfl, ?_⟩) (by assumption) ?_
        rotate_left
        · intro w hSw; (try dsimp only at hSw); go_simp; (try with_reducible rfl)
        try simp only [Act.put, List.setIfInBounds_toArray, List.set_cons_zero, List.set_cons_succ]
        refine wpAnyH_take (i := 6) (oi := { dst := some 145, op := Op.move (Operand.tmp 144), type := 4, pos := "law.go:111", after := #[{ on := 5, ground := Ground.data }, { on := 2, ground := Ground.chain }], guard := none }) (v := ?_) rfl (by kernel_rfl) (by kernel_rfl) (by kernel_rfl) (fun _ _ _ h => h) (Or.inl ⟨by rfl, ?_⟩) (by assumption) ?_
        rotate_left
        · intro w hSw; (try dsimp only at hSw); go_simp; (try with_reducible rfl)
        try simp only [Act.put, List.setIfInBounds_toArray, List.set_cons_zero, List.set_cons_succ]
        refine wpAnyH_take (i := 7) (oi := { dst := some 146, op := Op.move (Operand.tmp 21), type := 24, pos := "law.go:111", after := #[{ on := 6, ground := Ground.guard }], guard := some (6, true) }) (v := ?_) rfl (by kernel_rfl) (by kernel_rfl) (by kernel_rfl) (fun _ _ _ h => h) (Or.inl ⟨by rfl, ?_⟩) (by assumption) ?_
        rotate_left
        · intro w hSw; (try dsimp only at hSw); go_simp; (try with_reducible rfl)
        try simp only [Act.put, List.setIfInBounds_toArray, List.set_cons_zero, List.set_cons_succ]
        refine wpAnyH_take (i := 9) (oi := { dst := some 148, op := Op.load 32 (Operand.tmp 23), type := 32, pos := "law.go:111", after := #[{ on := 6, ground := Ground.guard }], guard := some (6, true) }) (v := ?_) rfl (by kernel_rfl) (by kernel_rfl) (by kernel_rfl) (fun _ _ _ h => h) (Or.inl ⟨by rfl, ?_⟩) (by assumption) ?_
        rotate_left
        · intro w hSw; (try dsimp only at hSw); go_simp; (try with_reducible rfl)
        try simp only [Act.put, List.setIfInBounds_toArray, List.set_cons_zero, List.set_cons_succ]
        refine wpAnyH_ready (rs := [8]) (by kernel_rfl) (by simp) ?_
        refine AllReadyH.cons (o := { dst := some 147, op := Op.call { callee := Callee.value (Operand.func 12), args := #[Operand.tmp 146], argTypes := #[24] }, type := 32, pos := "law.go:111", after := #[{ on := 7, ground := Ground.data }, { on := 6, ground := Ground.chain }, { on := 6, ground := Ground.guard }], guard := some (6, true) }) rfl (fun K hK => ?_) AllReadyH.nil
        go_simp
        go_at_call 12
        refine (CFQ.out _).mono ?_
        rintro e V9 ⟨⟨v1, v2, rfl, r1, r2⟩, hK9⟩
        have HK9 := HK8.trans (hK9.mono fun k hk => Nat.lt_of_lt_of_le hk HK8.size)
        replace r1 := Lib.hid r1
        replace r2 := Lib.hid r2
        refine hK.out _ _ ?_ (fun hHeld2 => ?_)
        · (try dsimp only); exact ⟨cell3_0 (HZ.out _ HK9).1, cell3_1 (HZ.out _ HK9).1, cell3_2 (HZ.out _ HK9).1⟩
        clear hK K hHeld
        try simp only [Act.put, List.setIfInBounds_toArray, List.set_cons_zero, List.set_cons_succ]
        have hHeld := hHeld2
        clear hHeld2
        refine wpAnyH_ready (rs := [10]) (by kernel_rfl) (by simp) ?_
        refine AllReadyH.cons (o := { dst := some 149, op := Op.call { callee := Callee.value (Operand.func 11), args := #[Operand.tmp 147, Operand.tmp 148], argTypes := #[32, 32] }, type := 4, pos := "law.go:111", after := #[{ on := 8, ground := Ground.data }, { on := 9, ground := Ground.data }, { on := 8, ground := Ground.chain }, { on := 6, ground := Ground.guard }], guard := some (6, true) }) rfl (fun K hK => ?_) AllReadyH.nil
        go_simp
        go_at_call 11
        refine (CSQ.out V9 v1 v2 _ _ _ _ _ _ r1.out r2.out (HZ.out _ HK9).2.1 (HZ.out _ HK9).2.2.1).mono ?_
        rintro e V10 ⟨rfl, hK10⟩
        have HK10 := HK9.trans (hK10.mono fun k hk => Nat.lt_of_lt_of_le hk HK9.size)
        refine hK.out _ _ ?_ (fun hHeld2 => ?_)
        · (try dsimp only); exact ⟨cell3_0 (HZ.out _ HK10).1, cell3_1 (HZ.out _ HK10).1, cell3_2 (HZ.out _ HK10).1⟩
        clear hK K hHeld
        try simp only [Act.put, List.setIfInBounds_toArray, List.set_cons_zero, List.set_cons_succ]
        have hHeld := hHeld2
        clear hHeld2
        refine wpAnyH_take (i := 11) (oi := { dst := some 150, op := Op.pick (Operand.tmp 145) (Operand.tmp 149) (Operand.const (Value.bool false)), type := 4, pos := "law.go:111", after := #[{ on := 6, ground := Ground.data }, { on := 10, ground := Ground.data }], guard := none }) (v := ?_) rfl (by kernel_rfl) (by kernel_rfl) (by kernel_rfl) (fun _ _ _ h => h) (Or.inl ⟨by rfl, ?_⟩) (by assumption) ?_
        rotate_left
        · intro w hSw; (try dsimp only at hSw); go_simp; (try with_reducible rfl)
        try simp only [Act.put, List.setIfInBounds_toArray, List.set_cons_zero, List.set_cons_succ]
        refine wpAnyH_take (i := 12) (oi := { dst := some 14, op := Op.assign (Operand.tmp 150), type := 4, pos := "law.go:111", after := #[{ on := 11, ground := Ground.data }, { on := 10, ground := Ground.chain }, { on := 0, ground := Ground.phase }, { on := 1, ground := Ground.phase }, { on := 2, ground := Ground.phase }, { on := 3, ground := Ground.phase }, { on := 4, ground := Ground.phase }, { on := 5, ground := Ground.phase }, { on := 6, ground := Ground.phase }, { on := 7, ground := Ground.phase }, { on := 8, ground := Ground.phase }, { on := 9, ground := Ground.phase }, { on := 10, ground := Ground.phase }, { on := 11, ground := Ground.phase }], guard := none }) (v := ?_) rfl (by kernel_rfl) (by kernel_rfl) (by kernel_rfl) (fun _ _ _ h => h) (Or.inl ⟨by rfl, ?_⟩) (by assumption) ?_
        rotate_left
        · intro w hSw; (try dsimp only at hSw); go_simp; (try with_reducible rfl)
        try simp only [Act.put, List.setIfInBounds_toArray, List.set_cons_zero, List.set_cons_succ]
        refine wpAnyH_done (by kernel_rfl) ?_ _
        refine NoPanic.normal ?_
        have HX := Lib.hid HK10
        clear HK10 HK9 HK8 hK9 hK10 r1 r2 hHeld CFQ CSQ
        go_wp2_with fail
        go_ret
        exact ⟨rfl, (HZ.out _ HX.out).2.2.2⟩
  · clear ha hb hc
    replace T := Lib.hid T
    by_cases g1 : (600 : Int) < (s.length : Int)
    · have d1 : decide ((600 : Int) < (s.length : Int)) = true := decide_eq_true g1
      have d4 : decide (600 < s.length) = true := decide_eq_true (by omega)
      clear g1
      go_enter Tryd.func3, Tryd.ntmps3
      go_wp2_with fail
      refine (awake20 w T.out).mono ?_
      rintro e V1 ⟨rfl, hK1⟩
      replace hK1 := Lib.hid hK1
      go_wp2_with fail
      go_ret
      exact ⟨rfl, hK1.out⟩
    · have d1 : decide ((600 : Int) < (s.length : Int)) = false := decide_eq_false g1
      have d4 : decide (600 < s.length) = false := decide_eq_false (by omega)
      by_cases g2 : (600 : Int) < (t.length : Int)
      · have d2 : decide ((600 : Int) < (t.length : Int)) = true := decide_eq_true g2
        have d5 : decide (600 < t.length) = true := decide_eq_true (by omega)
        clear g1 g2
        go_enter Tryd.func3, Tryd.ntmps3
        go_wp2_with fail
        refine (awake20 w T.out).mono ?_
        rintro e V1 ⟨rfl, hK1⟩
        replace hK1 := Lib.hid hK1
        go_wp2_with fail
        go_ret
        exact ⟨rfl, hK1.out⟩
      · have d2 : decide ((600 : Int) < (t.length : Int)) = false := decide_eq_false g2
        have d5 : decide (600 < t.length) = false := decide_eq_false (by omega)
        have g3 : (2048 : Int) < (ln.length : Int) := by
          apply Int.not_le.1
          intro h
          exact hbig ⟨by omega, by omega, by omega⟩
        have d3 : decide ((2048 : Int) < (ln.length : Int)) = true := decide_eq_true g3
        have d6 : decide (2048 < ln.length) = true := decide_eq_true (by omega)
        clear g1 g2 g3
        go_enter Tryd.func3, Tryd.ntmps3
        go_wp2_with fail
        refine (awake20 w T.out).mono ?_
        rintro e V1 ⟨rfl, hK1⟩
        replace hK1 := Lib.hid hK1
        go_wp2_with fail
        go_ret
        exact ⟨rfl, hK1.out⟩

theorem len_str' (s : ByteArray) (h : s.size ≤ maxLen) : (s.data.toList.length : Int) ≤ 9223372036854775807 := by
  rw [Array.length_toList]
  have : s.data.size ≤ maxLen := h
  unfold maxLen at this
  omega

theorem orderExactW (kind a b c : Int) (s t ln : ByteArray) (w : World) (_ : (Lit.int .i64 kind).wf = true) (ha : (Lit.int .i64 a).wf = true) (hb : (Lit.int .i64 b).wf = true) (hc : (Lit.int .i64 c).wf = true) (hs : s.size ≤ maxLen) (ht : t.size ≤ maxLen) (hl : ln.size ≤ maxLen) (T : Tb20 w) :
    Calls Tryd.prog 3 #[.int .i64 kind, .int .i64 a, .int .i64 b, .int .i64 c, .string s, .string t, .string ln] w fun e w' => e = .returned (.bool true) ∧ KeptIn (· < w.heap.size) w w' := by
  have ba := bounds_i64 ha
  have bb := bounds_i64 hb
  have bc := bounds_i64 hc
  have := orderExactL kind a b c s.data.toList t.data.toList ln.data.toList w ⟨ba.1, by omega⟩ ⟨bb.1, by omega⟩ ⟨bc.1, by omega⟩ (len_str' s hs) (len_str' t ht) (len_str' ln hl) T
  rwa [Lib.mk_data, Lib.mk_data, Lib.mk_data] at this

end Go.Proofs.YtlldmebjgidbaaaDoor
