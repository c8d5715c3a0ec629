/- Owners: slices.Insert at a row of owners, in the middle: with room, and without. -/
import Derived.Test.YtononiedecpllaaOi13
set_option linter.unusedVariables false
namespace Go.Proofs.Ytononiedecpllaa
open Go.RowKit

theorem setRowKept {w : World} {g : Nat} (cs : Array Value) {X : Nat → Prop} (hX : ¬ X g) : KeptIn X w (w.setRow g cs) :=
  ⟨rfl, rfl, rfl, by simp [World.setRow], fun k hk => setRow_other w g k cs (fun e => hX (by rw [← e]; exact hk))⟩

theorem boxShape {w : World} {vb : Nat} {o : Ow} (h : BoxO vb o w) : w.shape? vb = some (31, 3) ∧ w.frozen? ⟨vb, 0, none⟩ = false ∧ w.frozen? ⟨vb, 3, none⟩ = false := by
  unfold BoxO at h
  exact ⟨by unfold World.shape?; rw [h]; rfl, by unfold World.frozen?; simp only [h]; rfl, by unfold World.frozen?; simp only [h]; rfl⟩

set_option maxRecDepth 100000 in
set_option maxHeartbeats 4000000 in
/-- In the middle, with room: in place. -/
theorem owIns_shift (g n c i vb B : Nat) (cur : Array Value) (l : List Ow) (o : Ow) (w : World) (hn : l.length = n) (hi : i < n) (hroom : n + 1 ≤ c) (hc : c ≤ maxLen) (hl : n ≤ 2000) (hBg : B ≤ g)
    (hg : w.heap[g]? = some (.cells cur 31 (0, 0))) (hcs : cur.size = c * 3) (ht : cur.toList.take (n * 3) = cellsO l) (hv : BoxO vb o w) (hne : vb ≠ g) :
    Calls Try.prog 36 #[.slice (some ⟨g, 0, none⟩) n c, .int .i64 i, .slice (some ⟨vb, 0, none⟩) 1 1] w (InsS w B (.slice (some ⟨g, 0, none⟩) n c) (l.take i ++ o :: l.drop i)) := by
  obtain ⟨L, hL⟩ : ∃ L, cur.toList = L := ⟨_, rfl⟩
  have hLl : L.length = c * 3 := by rw [← hL]; simpa using hcs
  obtain ⟨A, hA⟩ : ∃ A, cellsO (l.take i) = A := ⟨_, rfl⟩
  obtain ⟨M, hM⟩ : ∃ M, cellsO (l.drop i) = M := ⟨_, rfl⟩
  obtain ⟨X, hX⟩ : ∃ X, cellsO [o] = X := ⟨_, rfl⟩
  have hAl : A.length = i * 3 := by rw [← hA, cellsO_length, List.length_take]; omega
  have hMl : M.length = (n - i) * 3 := by rw [← hM, cellsO_length, List.length_drop]; omega
  have hXl : X.length = 3 := by rw [← hX]; rfl
  have hAM : A ++ M = cellsO l := by rw [← hA, ← hM, ← cellsO_append, List.take_append_drop]
  have hLe : L = A ++ M ++ L.drop (n * 3) := by
    conv => lhs; rw [← List.take_append_drop (n * 3) L]
    rw [hAM, ← ht, hL]
  obtain ⟨R', hR1, hR2⟩ := ins_cells L A M X (L.drop (n * 3)) (i * 3) 3 hLe hAl hXl (by rw [List.length_drop, hLl]; omega)
  have hfin : cellsO (l.take i ++ o :: l.drop i) = A ++ X ++ M := by
    rw [show l.take i ++ o :: l.drop i = l.take i ++ ([o] ++ l.drop i) from rfl, cellsO_append, cellsO_append, hA, hX, hM, List.append_assoc]
  have hlen : (l.take i ++ o :: l.drop i).length = n + 1 := by
    simp only [List.length_append, List.length_cons, List.length_take, List.length_drop]; omega
  obtain ⟨L1, hL1⟩ : ∃ L1, L.take (i * 3 + 3) ++ M ++ L.drop (i * 3 + 3 + M.length) = L1 := ⟨_, rfl⟩
  obtain ⟨L2, hL2⟩ : ∃ L2, L1.take (i * 3) ++ X ++ L1.drop (i * 3 + X.length) = L2 := ⟨_, rfl⟩
  rw [hL1, hL2] at hR1
  have hsz : (Try.prog.info? 31).map (·.size) = some 3 := by
    obtain ⟨i0, hi0, _, h1, _⟩ := info_parts infoOw
    rw [hi0]; simp [h1]
  have hcell : ∀ j u, L[j]? = some u → w.cell? ⟨g, j, none⟩ = some u := fun j u hu => by
    rw [← hL] at hu
    simp at hu
    simp [World.cell?, hg, hu]
  have hMc : ∀ j u, M[j]? = some u → w.cell? ⟨g, i * 3 + j, none⟩ = some u := fun j u hu => by
    refine hcell _ _ ?_
    have hj := (List.getElem?_eq_some_iff.1 hu).1
    rw [hLe, List.append_assoc, List.getElem?_append_right (by omega), List.getElem?_append_left (by omega), hAl, show i * 3 + j - i * 3 = j by omega]
    exact hu
  have h1M : ∀ v ∈ M, v.oneCell' = true := by rw [← hM]; exact cellsO_one _
  have h1X : ∀ v ∈ X, v.oneCell' = true := by rw [← hX]; exact cellsO_one _
  have hL1l : L1.length = c * 3 := by
    rw [← hL1]
    simp only [List.length_append, List.length_take, List.length_drop]
    omega
  obtain ⟨m, hm⟩ : ∃ m, m = 1 := ⟨_, rfl⟩
  -- the first copy
  have hcp1 : ∀ ty dc sc, (Builtin.copy_ #[59, 59] ty #[.slice (some ⟨g, (i + m) * 3, none⟩) (n + m - (i + m)) dc, .slice (some ⟨g, i * 3, none⟩) (n + m - i) sc]).run Try.prog w.drew = .ok (goInt ((n - i : Nat) : Int)) (w.drew.setRow g L1.toArray) := fun ty dc sc => by
    have h := run_copy_rowK (P := Try.prog) 3 w.drew 59 59 ty 31 g ((i + m) * 3) (n + m - (i + m)) dc ⟨g, i * 3, none⟩ (n + m - i) sc (n - i) cur 31 M Try.underlying59 hsz hg (by simp only [Nat.min_def]; split <;> omega) hMl
      (fun j v hj => by rw [Addr.add_lit]; exact hMc j v hj) (by rw [hMl, hcs, hm]; omega) h1M
    rw [h, hL, hm, show (i + 1) * 3 = i * 3 + 3 by omega, hL1]
  obtain ⟨W1, hW1⟩ : ∃ W1, W1 = w.drew.setRow g L1.toArray := ⟨_, rfl⟩
  rw [← hW1] at hcp1
  have hg1 : W1.heap[g]? = some (.cells L1.toArray 31 (0, 0)) := by rw [hW1]; exact setRow_heap w.drew g cur _ 31 _ hg
  have hk1 : KeptIn (· ≠ g) w W1 := by rw [hW1]; exact ((KeptIn.refl _ w).drew).trans (setRowKept _ (fun h => h rfl))
  have hv1 : BoxO vb o W1 := hv.kept hk1 hne
  -- the second one
  have hcp2 : ∀ ty dc, (Builtin.copy_ #[59, 42] ty #[.slice (some ⟨g, i * 3, none⟩) (n + m - i) dc, .slice (some ⟨vb, 0, none⟩) m m]).run Try.prog W1 = .ok (goInt m) (W1.setRow g L2.toArray) := fun ty dc => by
    have h := run_copy_rowK (P := Try.prog) 3 W1 59 42 ty 31 g (i * 3) (n + m - i) dc ⟨vb, 0, none⟩ m m m L1.toArray 31 X Try.underlying59 hsz hg1 (by simp only [Nat.min_def]; split <;> omega) (by rw [hXl, hm])
      (fun j v hj => newsO hv1 j v (by rw [hX]; exact hj)) (by rw [hXl, List.size_toArray, hL1l]; omega) h1X
    rw [h, List.toList_toArray, hL2]
  obtain ⟨W2, hW2⟩ : ∃ W2, W2 = W1.setRow g L2.toArray := ⟨_, rfl⟩
  rw [← hW2] at hcp2
  have hg2 : W2.heap[g]? = some (.cells L2.toArray 31 (0, 0)) := by rw [hW2]; exact setRow_heap W1 g _ _ 31 _ hg1
  have hk2 : KeptIn (· ≠ g) w W2 := by rw [hW2]; exact hk1.trans (setRowKept _ (fun h => h rfl))
  have hE : InsS w B (.slice (some ⟨g, 0, none⟩) n c) (l.take i ++ o :: l.drop i) (.returned (.slice (some ⟨g, 0, none⟩) (n + m) c)) W2 := by
    refine ⟨g, c, by rw [hlen, hm], ⟨?_, .inr ⟨g, c, L2.toArray, rfl, hBg, hg2, by rw [hlen]; exact hroom, hc, ?_, ?_⟩⟩, hk2.mono fun k hk e => hk.2 (by rw [e]; rfl), .inl rfl⟩
    · rw [cellsO_length]
    · rw [List.size_toArray, hR1, hR2, hLl]
    · rw [List.toList_toArray, hR1, hfin, hlen, List.take_append_of_le_length (by simp only [List.length_append]; omega), List.take_of_length_le (by simp only [List.length_append]; omega)]
  have HE := Lib.hid hE
  obtain ⟨s1, s2, s3⟩ := boxShape hv
  have hsg : w.shape? g = some (31, cur.size) := by unfold World.shape?; rw [hg]
  have hov : ∀ lb cb, (callFunc 43 #[.slice (some ⟨vb, 0, none⟩) m m, .slice (some ⟨g, (i + m) * 3, none⟩) lb cb]).run Try.prog w = .ok (.value (.bool false)) w := fun lb cb =>
    overApart vb g ((i + m) * 3) m m lb cb 3 cur.size w hne _ _ s1 hsg (by omega) s2 s3
  have hz1 : ¬ ((m : Int) = 0) := by omega
  have hz2 : ¬ ((i : Int) = (n : Int)) := by omega
  have hc63 : c ≤ 9223372036854775807 := by unfold maxLen at hc; omega
  have hw1 : IntKind.i64.wrap ((i : Int) + (m : Int)) = (i : Int) + (m : Int) := by rw [IntKind.wrap_i64]; omega
  have hb1 : (0 : Int) ≤ (i : Int) + (m : Int) := by omega
  have hin : i ≤ n := by omega
  have htn : ((i : Int) + (m : Int)).toNat = i + m := by omega
  have hb2 : ¬ (c = i + m) := by omega
  have hb3 : (i : Int) ≤ (n : Int) + (m : Int) := by omega
  have hb4 : ¬ (c = i) := by omega
  have hroom' : n + m ≤ c := by omega
  rw [show (Value.slice (some ⟨vb, 0, none⟩) 1 1) = Value.slice (some ⟨vb, 0, none⟩) m m by rw [hm]]
  have HM := Lib.hid hm
  clear hm hE hk1 hk2 hg2 hg1 hv1 hW1 hW2 hL1 hL2 hR1 hR2 hfin hlen hcell hMc h1M h1X hL1l hLe hAM hAl hMl hXl hA hM hX hL hLl hsz s1 s2 s3 hsg hg hcs ht hv hn hBg hroom hc
  go_enter Try.func36, Try.ntmps36
  go_wp2_with (simp only [hov])
  go_region_law (refine step_copy_runI rfl _ _ 59 59 rfl _ _ (by simp [Act.eval, Act.put]) (by simp [Act.eval, Act.put]) (hcp1 _ _ _) ?_)
  go_wp2_with (at_builtin; refine wpList_copy_runI _ rfl _ _ 59 42 rfl _ _ rfl rfl (hcp2 _ _) ?_)
  go_ret
  exact HE.out

set_option maxRecDepth 100000 in
set_option maxHeartbeats 4000000 in
/-- In the middle, without room: a new row. -/
theorem owIns_grow (g n c i vb B : Nat) (cur : Array Value) (l : List Ow) (o : Ow) (w : World) (hn : l.length = n) (hi : i < n) (hnc : n ≤ c) (hroom : c < n + 1) (hl : n ≤ 2000) (hB : B ≤ w.heap.size)
    (hg : w.heap[g]? = some (.cells cur 31 (0, 0))) (hcs : cur.size = c * 3) (ht : cur.toList.take (n * 3) = cellsO l) (hv : BoxO vb o w) :
    Calls Try.prog 36 #[.slice (some ⟨g, 0, none⟩) n c, .int .i64 i, .slice (some ⟨vb, 0, none⟩) 1 1] w (InsS w B (.slice (some ⟨g, 0, none⟩) n c) (l.take i ++ o :: l.drop i)) := by
  obtain ⟨L, hL⟩ : ∃ L, cur.toList = L := ⟨_, rfl⟩
  have hLl : L.length = c * 3 := by rw [← hL]; simpa using hcs
  obtain ⟨A, hA⟩ : ∃ A, cellsO (l.take i) = A := ⟨_, rfl⟩
  obtain ⟨M, hM⟩ : ∃ M, cellsO (l.drop i) = M := ⟨_, rfl⟩
  obtain ⟨X, hX⟩ : ∃ X, cellsO [o] = X := ⟨_, rfl⟩
  have hAl : A.length = i * 3 := by rw [← hA, cellsO_length, List.length_take]; omega
  have hMl : M.length = (n - i) * 3 := by rw [← hM, cellsO_length, List.length_drop]; omega
  have hXl : X.length = 3 := by rw [← hX]; rfl
  have hAM : A ++ M = cellsO l := by rw [← hA, ← hM, ← cellsO_append, List.take_append_drop]
  have hLe : L = A ++ M ++ L.drop (n * 3) := by
    conv => lhs; rw [← List.take_append_drop (n * 3) L]
    rw [hAM, ← ht, hL]
  have hfin : cellsO (l.take i ++ o :: l.drop i) = A ++ X ++ M := by
    rw [show l.take i ++ o :: l.drop i = l.take i ++ ([o] ++ l.drop i) from rfl, cellsO_append, cellsO_append, hA, hX, hM, List.append_assoc]
  have hlen : (l.take i ++ o :: l.drop i).length = n + 1 := by
    simp only [List.length_append, List.length_cons, List.length_take, List.length_drop]; omega
  obtain ⟨i0, hi0, hz0, hzs, hzb⟩ := info_parts infoOw
  have hsz : (Try.prog.info? 31).map (·.size) = some 3 := by rw [hi0]; simp [hzs]
  have hcell : ∀ j u, L[j]? = some u → w.cell? ⟨g, j, none⟩ = some u := fun j u hu => by
    rw [← hL] at hu
    simp at hu
    simp [World.cell?, hg, hu]
  have hAc : ∀ j u, A[j]? = some u → w.cell? ⟨g, j, none⟩ = some u := fun j u hu => by
    refine hcell _ _ ?_
    have hj := (List.getElem?_eq_some_iff.1 hu).1
    rw [hLe, List.append_assoc, List.getElem?_append_left (by omega)]
    exact hu
  have hMc : ∀ j u, M[j]? = some u → w.cell? ⟨g, i * 3 + j, none⟩ = some u := fun j u hu => by
    refine hcell _ _ ?_
    have hj := (List.getElem?_eq_some_iff.1 hu).1
    rw [hLe, List.append_assoc, List.getElem?_append_right (by omega), List.getElem?_append_left (by omega), hAl, show i * 3 + j - i * 3 = j by omega]
    exact hu
  have h1M : ∀ v ∈ M, v.oneCell' = true := by rw [← hM]; exact cellsO_one _
  have h1X : ∀ v ∈ X, v.oneCell' = true := by rw [← hX]; exact cellsO_one _
  have hgl : g < w.heap.size := (Array.getElem?_eq_some_iff.1 hg).1
  obtain ⟨m, hm⟩ : ∃ m, m = 1 := ⟨_, rfl⟩
  obtain ⟨H, hH⟩ : ∃ H, w.heap.size = H := ⟨_, rfl⟩
  have hold : (Builtin.firstCells i0.size i (.slice (some ⟨g, 0, none⟩) i c)).run Try.prog w.drew = .ok A.toArray w.drew := by
    rw [hzs]
    exact run_firstCells_some w.drew 3 i ⟨g, 0, none⟩ i c A hAl (fun j v hj => by rw [Addr.add_lit, Nat.zero_add]; exact hAc j v hj)
  have hkk : (n : Int) + (m : Int) - (i : Int) = ((n + m - i : Nat) : Int) := by omega
  have hik : i + (n + m - i) = n + m := by omega
  obtain ⟨G, hG⟩ : ∃ G, G = grownCap w (n + m) c 31 := ⟨_, rfl⟩
  obtain ⟨Z, hZ⟩ : ∃ Z : Array Value, Z = Builtin.zeroCells (Value.agg #[.int .i64 0, .int .i64 0, .int .i64 0]).cells (n + m - i) ++ Builtin.zeroCells (Value.agg #[.int .i64 0, .int .i64 0, .int .i64 0]).cells (G - (n + m)) := ⟨_, rfl⟩
  have hGn : n + m ≤ G := by rw [hG]; exact grownCap_ge w _ _ _
  have hGm : G ≤ maxLen := by rw [hG]; exact grownCap_le_maxLen w (n + m) c 31 (by unfold maxLen; omega)
  have hZl : Z.size = (G - i) * 3 := by
    rw [hZ]
    simp only [Array.size_append, Builtin.zeroCells]
    simp [Value.cells]
    omega
  have hZt : Z.toList.length = (G - i) * 3 := by simpa using hZl
  have hrz : ∀ ty, (Builtin.append_ #[59, 3] ty #[.slice (some ⟨g, 0, none⟩) i c, .int .i64 ((n : Int) + (m : Int) - (i : Int))]).run Try.prog w =
      .ok (.slice (some ⟨H, 0, none⟩) (n + m) G) (w.drew.alloc (.cells (A.toArray ++ Z) 31)) := fun ty => by
    have h := Lib.run_append_grow_zeros (P := Try.prog) w 59 3 ty 31 i0 _ .i64 .i64 Try.underlying59 Try.underlying3 hi0 hz0 (some ⟨g, 0, none⟩) i c A hold (n + m - i) (by omega) (by omega) (by omega) (by omega) (by rw [hzb]; omega) (by rw [hzb, hik]; exact growslice_fits (by omega) (by omega))
    rw [hik] at h
    rw [hkk, h, ← hG, hH, hZ, Array.append_assoc]
  obtain ⟨W1, hW1⟩ : ∃ W1, W1 = w.drew.alloc (.cells (A.toArray ++ Z) 31) := ⟨_, rfl⟩
  rw [← hW1] at hrz
  have hk1 : KeptIn (· < w.heap.size) w W1 := by rw [hW1]; exact (KeptIn.refl _ w).drew.alloc (fun _ h => h) _
  have hg1 : W1.heap[H]? = some (.cells (A.toArray ++ Z) 31 (0, 0)) := by rw [hW1, ← hH]; exact heap_alloc_new w.drew _
  have hvl : vb < w.heap.size := hv.lt
  have hv1 : BoxO vb o W1 := hv.old hk1
  obtain ⟨R', hR1, hR2⟩ := ins_cells2 (A ++ Z.toList) A M X Z.toList (i * 3) 3 rfl hAl hXl (by rw [hZt, hMl]; omega)
  obtain ⟨L1, hL1⟩ : ∃ L1, (A ++ Z.toList).take (i * 3) ++ X ++ (A ++ Z.toList).drop (i * 3 + X.length) = L1 := ⟨_, rfl⟩
  obtain ⟨L2, hL2⟩ : ∃ L2, L1.take (i * 3 + 3) ++ M ++ L1.drop (i * 3 + 3 + M.length) = L2 := ⟨_, rfl⟩
  rw [hL1, hL2] at hR1
  have hAZ : (A ++ Z.toList).length = G * 3 := by rw [List.length_append, hZt, hAl]; omega
  have hL1l : L1.length = G * 3 := by
    rw [← hL1]
    simp only [List.length_append, List.length_take, List.length_drop] at hAZ ⊢
    omega
  have hcpA : ∀ ty dc, (Builtin.copy_ #[59, 42] ty #[.slice (some ⟨H, i * 3, none⟩) (n + m - i) dc, .slice (some ⟨vb, 0, none⟩) m m]).run Try.prog W1 = .ok (goInt m) (W1.setRow H L1.toArray) := fun ty dc => by
    have h := run_copy_rowK (P := Try.prog) 3 W1 59 42 ty 31 H (i * 3) (n + m - i) dc ⟨vb, 0, none⟩ m m m (A.toArray ++ Z) 31 X Try.underlying59 hsz hg1 (by simp only [Nat.min_def]; split <;> omega) (by rw [hXl, hm])
      (fun j v hj => newsO hv1 j v (by rw [hX]; exact hj)) (by rw [hXl, Array.size_append, List.size_toArray, hZl, hAl]; omega) h1X
    rw [h, Array.toList_append, List.toList_toArray, hL1]
  obtain ⟨W2, hW2⟩ : ∃ W2, W2 = W1.setRow H L1.toArray := ⟨_, rfl⟩
  rw [← hW2] at hcpA
  have hk2 : KeptIn (· < w.heap.size) w W2 := by rw [hW2]; exact hk1.trans (setRowKept _ (by rw [hH]; exact Nat.lt_irrefl _))
  have hg2 : W2.heap[H]? = some (.cells L1.toArray 31 (0, 0)) := by rw [hW2]; exact setRow_heap W1 H _ _ 31 _ hg1
  have hMc2 : ∀ j u, M[j]? = some u → W2.drew.cell? ⟨g, i * 3 + j, none⟩ = some u := fun j u hu => (World.cell?_of_block (a := ⟨g, i * 3 + j, none⟩) (hk2.drew.block g hgl)).trans (hMc j u hu)
  have hcpB : ∀ ty dc sc, (Builtin.copy_ #[59, 59] ty #[.slice (some ⟨H, (i + m) * 3, none⟩) (n + m - (i + m)) dc, .slice (some ⟨g, i * 3, none⟩) (n - i) sc]).run Try.prog W2.drew = .ok (goInt ((n - i : Nat) : Int)) (W2.drew.setRow H L2.toArray) := fun ty dc sc => by
    have h := run_copy_rowK (P := Try.prog) 3 W2.drew 59 59 ty 31 H ((i + m) * 3) (n + m - (i + m)) dc ⟨g, i * 3, none⟩ (n - i) sc (n - i) L1.toArray 31 M Try.underlying59 hsz hg2 (by simp only [Nat.min_def]; split <;> omega) hMl
      (fun j v hj => by rw [Addr.add_lit]; exact hMc2 j v hj) (by rw [hMl, List.size_toArray, hL1l, hm]; omega) h1M
    rw [h, List.toList_toArray, hm, show (i + 1) * 3 = i * 3 + 3 by omega, hL2]
  obtain ⟨W3, hW3⟩ : ∃ W3, W3 = W2.drew.setRow H L2.toArray := ⟨_, rfl⟩
  rw [← hW3] at hcpB
  have hk3 : KeptIn (· < w.heap.size) w W3 := by rw [hW3]; exact hk2.drew.trans (setRowKept _ (by rw [hH]; exact Nat.lt_irrefl _))
  have hg3 : W3.heap[H]? = some (.cells L2.toArray 31 (0, 0)) := by rw [hW3]; exact setRow_heap W2.drew H _ _ 31 _ hg2
  have hE : InsS w B (.slice (some ⟨g, 0, none⟩) n c) (l.take i ++ o :: l.drop i) (.returned (.slice (some ⟨H, 0, none⟩) (n + m) G)) W3 := by
    refine ⟨H, G, by rw [hlen, hm], ⟨?_, .inr ⟨H, G, L2.toArray, rfl, by omega, hg3, by rw [hlen]; omega, hGm, ?_, ?_⟩⟩, hk3.mono fun k hk => hk.1, .inr (by omega)⟩
    · rw [cellsO_length]
    · rw [List.size_toArray, hR1, hR2, hAZ]
    · rw [List.toList_toArray, hR1, hfin, hlen, List.take_append_of_le_length (by simp only [List.length_append]; omega), List.take_of_length_le (by simp only [List.length_append]; omega)]
  have HE := Lib.hid hE
  have hz1 : ¬ ((m : Int) = 0) := by omega
  have hz2 : ¬ ((i : Int) = (n : Int)) := by omega
  have hz3 : (c : Int) < (n : Int) + (m : Int) := by omega
  have hG63 : G ≤ 9223372036854775807 := by unfold maxLen at hGm; omega
  have hGi : ¬ (G = i) := by omega
  have hGim : ¬ (G = i + m) := by omega
  have hci : ¬ (c = i) := by omega
  have hw1 : IntKind.i64.wrap ((i : Int) + (m : Int)) = (i : Int) + (m : Int) := by rw [IntKind.wrap_i64]; omega
  have hb1 : (0 : Int) ≤ (i : Int) + (m : Int) := by omega
  have hin : i ≤ n := by omega
  have htn : ((i : Int) + (m : Int)).toNat = i + m := by omega
  have hb3 : (i : Int) ≤ (n : Int) := by omega
  rw [show (Value.slice (some ⟨vb, 0, none⟩) 1 1) = Value.slice (some ⟨vb, 0, none⟩) m m by rw [hm]]
  have HM := Lib.hid hm
  clear hm hE hk1 hk2 hk3 hg3 hg2 hg1 hv1 hW1 hW2 hW3 hL1 hL2 hR1 hR2 hfin hlen hcell hMc hMc2 hAc h1M h1X hL1l hLe hAM hAl hMl hXl hA hM hX hL hLl hsz hg hcs ht hv hn hroom hAZ hZl hZt hZ hG hold hkk hik hH hgl hvl hGm hi0 hz0 hzs hzb hB
  go_enter Try.func36, Try.ntmps36
  go_wp2_with (first
    | (at_builtin; refine Lib.wpList_append_run _ rfl _ _ _ _ rfl _ _ rfl rfl _ _ (hrz _) ?_)
    | (at_builtin; refine wpList_copy_runI _ rfl _ _ 59 42 rfl _ _ rfl rfl (hcpA _ _) ?_))
  go_region_law (refine step_copy_runI rfl _ _ 59 59 rfl _ _ (by simp [Act.eval, Act.put]) (by simp [Act.eval, Act.put]) (hcpB _ _ _) ?_)
  go_wp2_with fail
  go_ret
  exact HE.out

/-- slices.Insert, one more, wherever. -/
theorem owInsert (v : Value) (l : List Ow) (B i vb : Nat) (o : Ow) (w : World) (h : RowO w B v l) (hi : i ≤ l.length) (hl : l.length ≤ 2000) (hB : B ≤ w.heap.size) (hv : BoxO vb o w) (hne : v.ownBlock ≠ some vb) :
    Calls Try.prog 36 #[v, .int .i64 (i : Nat), .slice (some ⟨vb, 0, none⟩) 1 1] w (InsS w B v (l.take i ++ o :: l.drop i)) := by
  by_cases hin : i = l.length
  · subst hin
    have := owIns_end v l B o vb w h hl hB hv
    rw [List.take_of_length_le (Nat.le_refl _), List.drop_of_length_le (Nat.le_refl _)]
    exact this
  · rcases h.form with ⟨rfl, rfl⟩ | ⟨g, cap, cur, rfl, hBg, hg, h1, h2, h3, h4⟩
    · simp at hi hin; omega
    · by_cases hr : l.length + 1 ≤ cap
      · exact owIns_shift g l.length cap i vb B cur l o w rfl (by omega) hr h2 hl hBg hg h3 h4 hv (fun e => hne (by rw [e]; rfl))
      · exact owIns_grow g l.length cap i vb B cur l o w rfl (by omega) h1 (by omega) hl hB hg h3 h4 hv

end Go.Proofs.Ytononiedecpllaa
