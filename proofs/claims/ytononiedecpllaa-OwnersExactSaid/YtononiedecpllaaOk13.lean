/- Owners: slices.Delete of one of a row of owners; slices.Clone of a row. -/
import Derived.Test.YtononiedecpllaaOj13
set_option linter.unusedVariables false
namespace Go.Proofs.Ytononiedecpllaa
open Go.RowKit

/-- append where there is room, at elements of k cells, onto a row that is known whole. -/
theorem run_append_roomK {P : Program} (k : Nat) (w : World) (t ty elem : TypeId) (i : TypeInfo) (g sLen sCap : Nat) (a : Addr) (n c : Nat) (cur : Array Value) (tt : TypeId) (cs : List Value)
    (hu : P.underlying t = some (.slice elem)) (hi : P.info? elem = some i) (hs : i.size = k)
    (hg : w.heap[g]? = some (.cells cur tt (0, 0))) (hn : cs.length = n * k) (hroom : sLen + n ≤ sCap)
    (hsrc : ∀ j v, cs[j]? = some v → w.cell? (a.add j) = some v) (hfit : sLen * k + cs.length ≤ cur.size) (h1 : ∀ v ∈ cs, v.oneCell' = true) :
    (Builtin.append_ #[t, t] ty #[.slice (some ⟨g, 0, none⟩) sLen sCap, .slice (some a) n c]).run P w =
      .ok (.slice (some ⟨g, 0, none⟩) (sLen + n) sCap) (w.setRow g (cur.toList.take (sLen * k) ++ cs ++ cur.toList.drop (sLen * k + cs.length)).toArray) := by
  have hl := run_loadCells_list (P := P) w a cs hsrc
  have hst := run_storeCells_at P g (sLen * k) tt cs 0 cur w hg (by simpa using hfit) h1
  have hadd : (⟨g, 0, none⟩ : Addr).add (sLen * k) = ⟨g, sLen * k, none⟩ := by rw [Addr.add_lit, Nat.zero_add]
  simp [Builtin.append_, run_underlying hu, Builtin.lenOf, Builtin.firstCells, sizeOf, typeInfo, hi, hs, hroom, ← hn, hl, hadd, hst]

/-- An append whose run is known, as a step of a region that draws. -/
theorem step_append_runO {P : Program} {ops : Array Oper} {o : Oper} {a : Act} {w : World} {K : Act → World → Prop} {Q : Exit → Act → World → Prop} {E : Prop}
    (hg : o.guard = none) (d x : Operand) (dT sT : TypeId) (hop : o.op = Op.call { callee := Callee.builtin Builtin.append, args := #[d, x], argTypes := #[dT, sT] })
    (v u : Value) (hd : a.eval d = v) (hx : a.eval x = u) {v' : Value} {w' : World} (hr : (Builtin.append_ #[dT, sT] o.type #[v, u]).run P w = .ok v' w') (hK : K (a.put o.dst v') w') :
    if Region.wanted o (yielded ops a.tmps) = true then Oper.wp P o a w K Q else E := by
  have hw : Region.wanted o (yielded ops a.tmps) = true := by simp [Region.wanted, hg]
  rw [if_pos hw]
  unfold Oper.wp
  simp [execOp, hop, resolve, invoke, builtin, hd, hx, hr, Result.andThen]
  exact hK

/-- clear of one element. -/
theorem run_clear_one {P : Program} (w : World) (t ty elem : TypeId) (z : Value) (g o c : Nat) (cur : Array Value) (tt : TypeId) (hu : P.underlying t = some (.slice elem)) (hz : ∀ w, (zeroValue elem).run P w = .ok z w)
    (hg : w.heap[g]? = some (.cells cur tt (0, 0))) (hfit : o + z.cells.size ≤ cur.size) (h1 : ∀ v ∈ z.cells, v.oneCell' = true) :
    (Builtin.clear_ #[t] ty #[.slice (some ⟨g, o, none⟩) 1 c]).run P w = .ok (.tuple #[]) (w.setRow g (cur.toList.take o ++ z.cells.toList ++ cur.toList.drop (o + z.cells.size)).toArray) := by
  have hzc : (Builtin.zeroCells z.cells 1).toList = z.cells.toList := by
    unfold Builtin.zeroCells
    rw [Nat.one_mul, Array.toList_map]
    apply List.ext_getElem
    · simp
    · intro i h1 h2
      simp at h1 h2 ⊢
      rw [Nat.mod_eq_of_lt h2, getElem!_pos z.cells i h2]
  have hst := run_storeCells_at P g o tt z.cells.toList 0 cur w hg (by simpa using hfit) (fun v hv => h1 v (by simpa using hv))
  simp only [Nat.add_zero, Array.length_toList] at hst
  simp [Builtin.clear_, run_underlying hu, hz, hzc, hst]

/-- Taking one out of a row: what lies behind the two steps. -/
theorem del_cells {α : Type} (L A E M R Z : List α) (a k : Nat) (hL : L = A ++ E ++ M ++ R) (hA : A.length = a) (hE : E.length = k) (hZ : Z.length = k) :
    ∃ R', ((L.take a ++ M ++ L.drop (a + M.length)).take (a + M.length) ++ Z ++ (L.take a ++ M ++ L.drop (a + M.length)).drop (a + M.length + Z.length)) = A ++ M ++ R' ∧ (A ++ M ++ R').length = L.length := by
  have hl : L.length = a + k + M.length + R.length := by rw [hL]; simp only [List.length_append, hA, hE]
  have e0 : L.take a = A := by rw [hL, List.append_assoc, List.append_assoc, List.take_append_of_le_length (by omega), List.take_of_length_le (by omega)]
  refine ⟨Z ++ (L.take a ++ M ++ L.drop (a + M.length)).drop (a + M.length + Z.length), ?_, ?_⟩
  · rw [e0, List.take_append_of_le_length (by simp only [List.length_append]; omega), List.take_of_length_le (by simp only [List.length_append]; omega)]
    simp only [List.append_assoc]
  · rw [e0]
    simp only [List.length_append, List.length_drop, hA, hZ]
    omega

def DelS (w : World) (B g cap : Nat) (l : List Ow) (e : Ending) (w' : World) : Prop :=
  e = .returned (.slice (some ⟨g, 0, none⟩) l.length cap) ∧ RowO w' B (.slice (some ⟨g, 0, none⟩) l.length cap) l ∧ KeptIn (· ≠ g) w w'

set_option maxRecDepth 100000 in
set_option maxHeartbeats 4000000 in
theorem owDelete (g n c i j B : Nat) (l : List Ow) (w : World) (h : RowO w B (.slice (some ⟨g, 0, none⟩) l.length c) l) (hn : l.length = n) (hi : i < n) (hl : n ≤ 2000) (hj : i + 1 = j) :
    Calls Try.prog 37 #[.slice (some ⟨g, 0, none⟩) n c, .int .i64 i, .int .i64 j] w (DelS w B g c (l.take i ++ l.drop (i + 1))) := by
  obtain ⟨cur, hBg, hg, hnc, hc, hcs, ht⟩ : ∃ cur, B ≤ g ∧ w.heap[g]? = some (.cells cur 31 (0, 0)) ∧ n ≤ c ∧ c ≤ maxLen ∧ cur.size = c * 3 ∧ cur.toList.take (n * 3) = cellsO l := by
    rcases h.form with ⟨e, _⟩ | ⟨g', cap', cur, e, h1, h2, h3, h4, h5, h6⟩
    · cases e
    · simp only [Value.slice.injEq, Option.some.injEq, Addr.mk.injEq, and_true, true_and] at e
      obtain ⟨rfl, rfl⟩ := e
      rw [hn] at h3 h6
      exact ⟨cur, h1, h2, h3, h4, h5, h6⟩
  obtain ⟨L, hL⟩ : ∃ L, cur.toList = L := ⟨_, rfl⟩
  have hLl : L.length = c * 3 := by rw [← hL]; simpa using hcs
  obtain ⟨i0, hi0, hz0, hzs, hzb⟩ := info_parts infoOw
  have hil : i < l.length := by omega
  obtain ⟨A, hA⟩ : ∃ A, cellsO (l.take i) = A := ⟨_, rfl⟩
  obtain ⟨E, hE⟩ : ∃ E, cellsO [l[i]] = E := ⟨_, rfl⟩
  obtain ⟨M, hM⟩ : ∃ M, cellsO (l.drop (i + 1)) = M := ⟨_, rfl⟩
  have hAl : A.length = i * 3 := by rw [← hA, cellsO_length, List.length_take]; omega
  have hEl : E.length = 3 := by rw [← hE]; rfl
  have hMl : M.length = (n - j) * 3 := by rw [← hM, cellsO_length, List.length_drop]; omega
  have hAM : A ++ E ++ M = cellsO l := by
    rw [← hA, ← hE, ← hM, ← cellsO_append, ← cellsO_append, List.append_assoc]
    conv => rhs; rw [← List.take_append_drop i l, List.drop_eq_getElem_cons hil]
    rfl
  have hLe : L = A ++ E ++ M ++ L.drop (n * 3) := by
    conv => lhs; rw [← List.take_append_drop (n * 3) L]
    rw [hAM, ← ht, hL]
  have hfin : cellsO (l.take i ++ l.drop (i + 1)) = A ++ M := by rw [cellsO_append, hA, hM]
  have hlen : (l.take i ++ l.drop (i + 1)).length = n - 1 := by
    simp only [List.length_append, List.length_take, List.length_drop]; omega
  obtain ⟨R', hR1, hR2⟩ := del_cells L A E M (L.drop (n * 3)) [Value.int .i64 0, Value.int .i64 0, Value.int .i64 0] (i * 3) 3 hLe hAl hEl rfl
  obtain ⟨L1, hL1⟩ : ∃ L1, L.take (i * 3) ++ M ++ L.drop (i * 3 + M.length) = L1 := ⟨_, rfl⟩
  obtain ⟨L2, hL2⟩ : ∃ L2, L1.take (i * 3 + M.length) ++ [Value.int .i64 0, Value.int .i64 0, Value.int .i64 0] ++ L1.drop (i * 3 + M.length + [Value.int .i64 0, Value.int .i64 0, Value.int .i64 0].length) = L2 := ⟨_, rfl⟩
  rw [hL1, hL2] at hR1
  have hcell : ∀ j u, L[j]? = some u → w.cell? ⟨g, j, none⟩ = some u := fun j u hu => by
    rw [← hL] at hu
    simp at hu
    simp [World.cell?, hg, hu]
  have hMc : ∀ k u, M[k]? = some u → w.cell? ⟨g, j * 3 + k, none⟩ = some u := fun k u hu => by
    refine hcell _ _ ?_
    have hk := (List.getElem?_eq_some_iff.1 hu).1
    have hAE : (A ++ E).length = j * 3 := by rw [List.length_append, hAl, hEl]; omega
    rw [hLe, List.append_assoc, List.getElem?_append_right (by omega), hAE, show j * 3 + k - j * 3 = k by omega, List.getElem?_append_left (by omega)]
    exact hu
  have h1M : ∀ v ∈ M, v.oneCell' = true := by rw [← hM]; exact cellsO_one _
  have hL1l : L1.length = c * 3 := by
    rw [← hL1]
    simp only [List.length_append, List.length_take, List.length_drop]
    omega
  have hap : ∀ ty (ad : Addr) sc, (n - j = 0 ∨ ad = ⟨g, j * 3, none⟩) → (Builtin.append_ #[59, 59] ty #[.slice (some ⟨g, 0, none⟩) i c, .slice (some ad) (n - j) sc]).run Try.prog w.drew = .ok (.slice (some ⟨g, 0, none⟩) (i + (n - j)) c) (w.drew.setRow g L1.toArray) := fun ty ad sc had => by
    have h := run_append_roomK (P := Try.prog) 3 w.drew 59 ty 31 i0 g i c ad (n - j) sc cur 31 M Try.underlying59 hi0 hzs hg hMl (by omega)
      (fun k v hk => by
        rcases had with h0 | rfl
        · rw [h0, Nat.zero_mul] at hMl
          rw [List.length_eq_zero_iff.1 hMl] at hk
          simp at hk
        · rw [Addr.add_lit]; exact hMc k v hk) (by rw [hMl, hcs]; omega) h1M
    rw [h, hL, hL1]
  obtain ⟨W1, hW1⟩ : ∃ W1, W1 = w.drew.setRow g L1.toArray := ⟨_, rfl⟩
  rw [← hW1] at hap
  have hg1 : W1.heap[g]? = some (.cells L1.toArray 31 (0, 0)) := by rw [hW1]; exact setRow_heap w.drew g cur _ 31 _ hg
  have hk1 : KeptIn (· ≠ g) w W1 := by rw [hW1]; exact ((KeptIn.refl _ w).drew).trans (setRowKept _ (fun h => h rfl))
  have hz : ∀ w, (zeroValue 31).run Try.prog w = .ok (.agg #[.int .i64 0, .int .i64 0, .int .i64 0]) w := fun w => by simp [zeroValue, typeInfo, hi0, hz0]
  have hcl : ∀ ty sc, (Builtin.clear_ #[59] ty #[.slice (some ⟨g, (i + (n - j)) * 3, none⟩) 1 sc]).run Try.prog W1 = .ok (.tuple #[]) (W1.setRow g L2.toArray) := fun ty sc => by
    have h := run_clear_one (P := Try.prog) W1 59 ty 31 _ g ((i + (n - j)) * 3) sc L1.toArray 31 Try.underlying59 hz hg1 (by show (i + (n - j)) * 3 + 3 ≤ L1.toArray.size; rw [List.size_toArray, hL1l]; omega) (fun v hv => by
      have hv' : v = .int .i64 0 := by simpa [Value.cells] using hv
      rw [hv']; rfl)
    rw [h, List.toList_toArray, show (i + (n - j)) * 3 = i * 3 + M.length by rw [hMl]; omega, ← hL2]
    rfl
  obtain ⟨W2, hW2⟩ : ∃ W2, W2 = W1.setRow g L2.toArray := ⟨_, rfl⟩
  rw [← hW2] at hcl
  have hg2 : W2.heap[g]? = some (.cells L2.toArray 31 (0, 0)) := by rw [hW2]; exact setRow_heap W1 g _ _ 31 _ hg1
  have hk2 : KeptIn (· ≠ g) w W2 := by rw [hW2]; exact hk1.trans (setRowKept _ (fun h => h rfl))
  have hS : DelS w B g c (l.take i ++ l.drop (i + 1)) (.returned (.slice (some ⟨g, 0, none⟩) (i + (n - j)) c)) W2 := by
    refine ⟨by rw [hlen, show i + (n - j) = n - 1 by omega], ⟨by rw [cellsO_length], .inr ⟨g, c, L2.toArray, rfl, hBg, hg2, by rw [hlen]; omega, hc, ?_, ?_⟩⟩, hk2⟩
    · rw [List.size_toArray, hR1, hR2, hLl]
    · rw [List.toList_toArray, hR1, hfin, hlen, List.take_append_of_le_length (by simp only [List.length_append]; omega), List.take_of_length_le (by simp only [List.length_append]; omega)]
  obtain ⟨r, hr⟩ : ∃ r, n - j = r := ⟨_, rfl⟩
  obtain ⟨q, hq⟩ : ∃ q, i + r = q := ⟨_, rfl⟩
  rw [hr] at hS hap hcl
  rw [hq] at hS hap hcl
  have HS := Lib.hid hS
  have hc63 : c ≤ 9223372036854775807 := by unfold maxLen at hc; omega
  have b1 : (0 : Int) ≤ (i : Int) := by omega
  have b2 : (i : Int) ≤ (j : Int) := by omega
  have b3 : (j : Int) ≤ (n : Int) := by omega
  have b4 : (n : Int) ≤ (c : Int) := by omega
  have b5 : ¬ ((i : Int) = (j : Int)) := by omega
  have b6 : (0 : Int) ≤ (j : Int) := by omega
  have b7 : (i : Int) ≤ (c : Int) := by omega
  have b8 : q + 1 = n := by omega
  have b9 : ¬ (c = q) := by omega
  have b10 : n - q = 1 := by omega
  have b11 : (q : Int) ≤ (n : Int) := by omega
  have b12 : q ≤ n := by omega
  have b13 : (0 : Int) ≤ (q : Int) := by omega
  have hcase : (c = j ∧ r = 0) ∨ ¬ c = j := by
    by_cases h : c = j
    · exact .inl ⟨h, by omega⟩
    · exact .inr h
  have HB8 := Lib.hid b8
  clear b8 hS hg2 hk2 hk1 hg1 hW1 hW2 hz hR1 hR2 hL1 hL2 hL1l h1M hMc hcell hfin hlen hLe hAM hAl hEl hMl hA hE hM hLl hL ht hcs hg hBg h hn hj hq hil hi hl hc hi0 hz0 hzs hzb
  rcases hcase with ⟨hjc, hr0⟩ | hjc
  · have hap' := fun ty sc => hap ty ⟨g, 0, none⟩ sc (.inl hr0)
    rw [hr0] at hap'
    subst hjc
    clear hap hr hr0
    go_enter Try.func37, Try.ntmps37
    go_wp2_with fail
    go_region_law (refine step_append_runO rfl _ _ 59 59 rfl (.slice (some ⟨g, 0, none⟩) i c) (.slice (some ⟨g, 0, none⟩) 0 0) (by simp [Act.eval, Act.put]) (by simp [Act.eval, Act.put]) (hap' _ _) ?_)
    all_goals
      go_wp2_with fail
      go_ret
      exact HS.out
  · have hap' := fun ty sc => hap ty ⟨g, j * 3, none⟩ sc (.inr rfl)
    rw [← hr] at hap'
    clear hap hr
    go_enter Try.func37, Try.ntmps37
    go_wp2_with fail
    go_region_law (refine step_append_runO rfl _ _ 59 59 rfl (.slice (some ⟨g, 0, none⟩) i c) (.slice (some ⟨g, j * 3, none⟩) (n - j) (c - j)) (by simp [Act.eval, Act.put]) (by simp [Act.eval, Act.put]) (hap' _ _) ?_)
    all_goals
      go_wp2_with fail
      go_ret
      exact HS.out

/-- A copy of a row. -/
def CloneO (w : World) (l : List Ow) (e : Ending) (w' : World) : Prop := ∃ v, e = .returned v ∧ RowO w' w.heap.size v l ∧ KeptIn (· < w.heap.size) w w'

theorem rowNews {W : World} {B g n cap : Nat} {l : List Ow} (h : RowO W B (.slice (some ⟨g, 0, none⟩) n cap) l) : ∀ j u, (cellsO l)[j]? = some u → W.cell? ((⟨g, 0, none⟩ : Addr).add j) = some u := fun j u hu => by
  rw [Addr.add_lit, Nat.zero_add]
  rcases h.form with ⟨e, _⟩ | ⟨g', cap', cur, e, hB, hc, h1, h2, h3, h4⟩
  · cases e
  · simp only [Value.slice.injEq, Option.some.injEq, Addr.mk.injEq, and_true] at e
    obtain ⟨rfl, _⟩ := e
    rw [← h4, List.getElem?_take] at hu
    split at hu
    · simp at hu; simp [World.cell?, hc, hu]
    · cases hu

set_option maxRecDepth 100000 in
theorem owClone (v : Value) (l : List Ow) (B : Nat) (w : World) (h : RowO w B v l) (h0 : v = .slice none 0 0 ∨ 0 < l.length) (hl : l.length ≤ 2000) :
    Calls Try.prog 29 #[v] w (CloneO w l) := by
  rcases h.form with ⟨rfl, rfl⟩ | ⟨g, cap, cur, rfl, hB, hc, h1, h2, h3, h4⟩
  · have heq : ∀ V : World, Sem.run Try.prog (binOp .eql 59 (.slice none 0 0) (.slice none 0 0)) V = .ok (.bool true) V := fun _ => by rfl
    go_enter Try.func29, Try.ntmps29
    go_wp2_with fail
    go_ret
    exact ⟨_, rfl, RowO.nil _ _, KeptIn.refl _ _⟩
  · have hpos : 0 < l.length := by
      rcases h0 with h0 | h0
      · cases h0
      · exact h0
    obtain ⟨n, hn⟩ : ∃ n, l.length = n := ⟨_, rfl⟩
    have HN := Lib.hid hn
    have H := Lib.hid h
    rw [hn] at hl hpos ⊢
    obtain ⟨i, hi, hz0, hz1, hz2⟩ := info_parts infoOw
    have heq : ∀ V : World, Sem.run Try.prog (binOp .eql 59 (.slice (some ⟨g, 0, none⟩) n cap) (.slice none 0 0)) V = .ok (.bool false) V := fun _ => by rfl
    obtain ⟨W, hW⟩ : ∃ W, w.alloc (.cells #[] 31) = W := ⟨_, rfl⟩
    have k1 : KeptIn (· < w.heap.size) w W := by rw [← hW]; exact (KeptIn.refl _ w).alloc (fun _ h => h) _
    have hr : W.ownsRow w.heap.size 31 3 (.slice (some ⟨w.heap.size, 0, none⟩) 0 0) 0 [] := ⟨rfl, .inr ⟨w.heap.size, 0, #[], rfl, Nat.le_refl _, by rw [← hW]; exact heap_alloc_new w _, Nat.le_refl _, Nat.zero_le _, rfl, rfl⟩⟩
    have HK := Lib.hid k1
    have HW := Lib.hid hW
    have hsz : w.heap.size ≤ W.heap.size := k1.size
    have HC := Lib.hid (rowNews (H.out.old HK.out))
    have HL : Hid ((cellsO l).length = n * 3) := Lib.hid (by rw [cellsO_length, HN.out])
    have HR := Lib.hid hr
    clear h hr k1 hW hc h1 h2 h3 h4 hn h0
    go_enter Try.func29, Try.ntmps29
    go_wp2_with (at_builtin; rw [HW.out]; refine wpList_append_lies _ rfl _ _ 59 rfl w.heap.size 31 i _ 3 24 Try.underlying59 hi hz0 hz1 hz2 rfl (by decide) _ 0 [] rfl HR.out ⟨g, 0, none⟩ n cap (cellsO l) rfl HL.out HC.out (cellsO_one l) hpos (by unfold maxLen; omega) (by omega) hsz _ rfl ?_)
    intro g' cap' w' hown hgrow hat _
    have HOWN := Lib.hid hown
    have HG := Lib.hid (HK.out.grown (fun _ h => h) hgrow (fun x e => by
      obtain rfl : w.heap.size = x := by simpa [Value.ownBlock] using e
      exact Nat.lt_irrefl _))
    clear hown hgrow hat
    go_wp2_with fail
    go_ret
    exact ⟨_, rfl, by unfold RowO; rw [HN.out]; simpa using HOWN.out, HG.out⟩

end Go.Proofs.Ytononiedecpllaa
