import Derived.Test.YtdbohcdjamhdjaaLf6W
import Derived.Test.YtdbohcdjamhdjaaV6
/- slices.Chunk at pairs: what an iterator over parts gives. -/
set_option linter.unusedVariables false
namespace Go.Proofs.Ytdbohcdjamhdjaa
open Go.RowKit Go.Shelf
attribute [local go_sem] Oper.semAt_some
attribute [local go_sem high] run_min8

/-- The number of a part. -/
abbrev PartN (m len : Nat) := { j : Nat // m * j < len }
def firstJ (m len k : Nat) : List (PartN m len) := (List.range k).filterMap fun j => if h : m * j < len then some ⟨j, h⟩ else none
theorem firstJ_succ {m len k : Nat} (h : m * k < len) : firstJ m len (k + 1) = firstJ m len k ++ [⟨k, h⟩] := by
  simp [firstJ, List.range_succ, h]
theorem firstJ_length {m len : Nat} (hm : 0 < m) : ∀ k, k ≤ partsOf m len → (firstJ m len k).length = k := by
  intro k
  induction k with
  | zero => intro _; rfl
  | succ k ih =>
    intro h
    rw [firstJ_succ ((parts_lt hm).1 h), List.length_append, ih (by omega)]
    rfl
/-- A part as a value. -/
def encJ (b off m len : Nat) (x : PartN m len) : Array Value := #[.slice (some ⟨b, off + m * x.1 * 2, none⟩) (min m (len - m * x.1)) (min m (len - m * x.1))]

theorem KeptIn.putObj {X : Nat → Prop} {W : World} {l : Nat} (hX : ¬ X l) (o' : Obj) : KeptIn X W (W.putObj l o') :=
  ⟨rfl, rfl, rfl, by simp, fun k hk => World.putObj_heap_other (fun e => hX (e ▸ hk))⟩
theorem grown_drewN (W : World) (n : Nat) (r : Option Nat) : W.grownBy (W.drewN n) r := ⟨rfl, rfl, rfl, Nat.le_refl _, fun _ _ _ => rfl⟩
theorem grown_drew (W : World) (r : Option Nat) : W.grownBy W.drew r := ⟨rfl, rfl, rfl, Nat.le_refl _, fun _ _ _ => rfl⟩

theorem ch_nums (ik m len cap e t t2 : Nat) (ht : ik + e = t) (ht2 : ik + m = t2) (h : ik < len) (hm : 0 < m) (hm2 : m ≤ 1000) (hl : len ≤ 1000) (hc : len ≤ cap) (hcm : cap ≤ maxLen) (he : min m (len - ik) = e) :
    (ik : Int) < (len : Int) ∧ (0 : Int) ≤ (ik : Int) ∧ (ik : Int) ≤ (len : Int) ∧ min (m : Int) ((len - ik : Nat) : Int) = (e : Int) ∧ min (m : Int) ((len : Int) - (ik : Int)) = (e : Int) ∧ wrap64 ((ik : Int) + (e : Int)) = (t : Int) ∧
      (ik : Int) ≤ (t : Int) ∧ (t : Int) ≤ (cap : Int) ∧ 0 < e ∧ t - ik = e ∧ ¬ (t = ik) ∧ wrap64 ((ik : Int) + (m : Int)) = (t2 : Int) := by
  have : e ≤ len - ik := by omega
  refine ⟨by omega, by omega, by omega, by omega, by omega, by unfold wrap64; omega, by omega, by omega, by omega, by omega, by omega, by unfold wrap64; omega⟩

set_option maxRecDepth 100000 in
set_option maxHeartbeats 2000000 in
theorem pChunk1 (n : Nat) (hn : 1 ≤ n) (l Bs Bm b off m len cap : Nat) (a : Option Addr) (ha : 0 < len → a = some ⟨b, off, none⟩) (X : Nat → Prop) (hXs : X Bs) (hXm : X Bm) (hm : 0 < m) (hm2 : m ≤ 1000) (hlen : len ≤ 1000) (hcap : len ≤ cap) (hcm : cap ≤ maxLen)
    (J Jx : List (PartN m len) → World → Prop) (W : World) (hJ : AbidesFrom W.heap.size J)
    (hY : ∀ pre x W, J pre W → pre.length < partsOf m len → YieldAt Fence.wide (n - 1) Try.prog l (encJ b off m len x) W fun e W' =>
      (e = .returned (.bool true) ∧ J (pre ++ [x]) W' ∧ KeptIn X W W') ∨ (e = .returned (.bool false) ∧ Jx (pre ++ [x]) W'))
    (hBs : W.cell? ⟨Bs, 0, none⟩ = some (.slice a len cap)) (hBm : W.cell? ⟨Bm, 0, none⟩ = some (.int .i64 (m : Int))) (h0 : J [] W) :
    CallsIn Fence.wide n Try.prog 91 #[.func (.yield l) #[] #[], .pointer (some ⟨Bs, 0, none⟩), .pointer (some ⟨Bm, 0, none⟩)] W fun e W' => (∃ v, e = .returned v) ∧
      ((∃ ys, ys = firstJ m len (partsOf m len) ∧ J ys W') ∨ (∃ pre, (∃ k, k < partsOf m len ∧ pre = firstJ m len (k + 1)) ∧ Jx pre W')) := by
  have hmx : Try.prog.follows .mixedOrders = true := by kernel_rfl
  refine callsIn_of_wp Try.func91 rfl trivial ?_ rfl
  simp only [Try.ntmps91, List.size_toArray, List.length_cons, List.length_nil, Nat.reduceAdd, Nat.reduceSub, Array.replicate_succ, Array.replicate_zero, List.push_toArray, List.append_toArray, List.nil_append, List.cons_append]
  have HY := Lib.hid hY
  have HJ := Lib.hid hJ
  have HM := Lib.hid (And.intro hm (And.intro hm2 (And.intro hlen (And.intro hcap hcm))))
  clear hY hJ hm hm2 hcap hcm
  gi_wp2
  gi_loopw [4] (fun i wr => ∃ k : Nat, k ≤ partsOf m len ∧ i = .int .i64 ((m * k : Nat) : Int) ∧ J (firstJ m len k) wr ∧ KeptIn X W wr) (fun i _ => len - (intOf i).toNat)
  case atStart => exact ⟨0, Nat.zero_le _, by simp, h0, KeptIn.refl _ _⟩
  case round =>
    obtain ⟨k, hk, rfl, hJs, hkx⟩ := hrel
    have cS : wr.cell? ⟨Bs, 0, none⟩ = some (.slice a len cap) := (World.cell?_of_block (a := ⟨Bs, 0, none⟩) (hkx.block Bs hXs)).trans hBs
    have cM : wr.cell? ⟨Bm, 0, none⟩ = some (.int .i64 (m : Int)) := (World.cell?_of_block (a := ⟨Bm, 0, none⟩) (hkx.block Bm hXm)).trans hBm
    by_cases hlt : m * k < len
    · have hae := ha (by omega)
      rw [hae] at cS
      clear hBs hae
      have hkK : k < partsOf m len := (parts_lt HM.out.1).2 hlt
      have hsn := firstJ_succ hlt
      have hmk : m * (k + 1) = m * k + m := Nat.mul_succ ..
      obtain ⟨ik, hik⟩ : ∃ ik, m * k = ik := ⟨_, rfl⟩
      have HLT := Lib.hid hlt
      rw [hik] at hlt hmk ⊢
      obtain ⟨e, he⟩ : ∃ e, min m (len - ik) = e := ⟨_, rfl⟩
      obtain ⟨t, ht⟩ : ∃ t, ik + e = t := ⟨_, rfl⟩
      obtain ⟨t2, ht2⟩ : ∃ t2, ik + m = t2 := ⟨_, rfl⟩
      obtain ⟨n1, n2, n3, n4, n5, n6, n7, n8, n9, n10, n11, n12⟩ := ch_nums ik m len cap e t t2 ht ht2 hlt HM.out.1 HM.out.2.1 HM.out.2.2.1 HM.out.2.2.2.1 HM.out.2.2.2.2 he
      have HT := Lib.hid (And.intro ht2 hlt)
      have HE := Lib.hid (And.intro hik (And.intro he (And.intro (hmk.trans ht2) n9)))
      have HN := Lib.hid (And.intro n6 (And.intro n7 (And.intro n8 (And.intro n10 (And.intro n11 n12)))))
      clear hik he hmk ht ht2 n9 n6 n7 n8 n10 n11 n12
      gi_wp2
      gi_big_quiet_th_o (fail)
      obtain ⟨fn, tmps, assign, body, hy, hR⟩ := HY.out _ ⟨k, HLT.out⟩ (wr.drewN nq) (HJ.out _ _ _ none hJs (grown_drewN _ _ _) (fun r e => by cases e)) (by rw [firstJ_length HM.out.1 k hk]; exact hkK)
      unfold encJ at hy
      dsimp only at hy
      rw [HE.out.1, HE.out.2.1] at hy
      rw [← hsn] at hR
      obtain ⟨n6, n7, n8, n10, n11, n12⟩ := HN.out
      have HR := Lib.hid hR
      have HKK := Lib.hid hkK
      have HKX := Lib.hid hkx
      clear n4 n5 hR hsn HLT hkK hkx hJs hk
      have hcik : ¬ cap = ik := by have := HM.out.2.2.2.1; omega
      gi_wp2
      refine HR.out.mono ?_
      rintro e' W3 (⟨rfl, hJ3, hk3⟩ | ⟨rfl, hJx3⟩)
      · have cM3 : W3.cell? ⟨Bm, 0, none⟩ = some (.int .i64 (m : Int)) := (World.cell?_of_block (a := ⟨Bm, 0, none⟩) (hk3.block Bm hXm)).trans cM
        have HJ3 := Lib.hid (And.intro hJ3 hk3)
        clear hJ3 hk3
        gi_wp2
        go_roundw
        case rel => exact ⟨k + 1, HKK.out, by rw [n12, HE.out.2.2.1], HJ3.out.1, HKX.out.trans ⟨HJ3.out.2.os, HJ3.out.2.tape, HJ3.out.2.output, HJ3.out.2.size, HJ3.out.2.block⟩⟩
        case measure => rw [n12]; have h1 := HM.out.1; have h2 := HT.out; simp [intOf] <;> omega
      · gi_wp2
        refine bodyPost_ret (results_none rfl _ _ _) rfl ?_
        exact ⟨⟨_, rfl⟩, .inr ⟨_, ⟨k, HKK.out, rfl⟩, hJx3⟩⟩
    · obtain rfl : k = partsOf m len := by
        rcases Nat.lt_or_ge k (partsOf m len) with h | h
        · exact absurd ((parts_lt HM.out.1).1 h) hlt
        · omega
      have n1 : ¬ (((m * partsOf m len : Nat) : Int) < (len : Int)) := by omega
      obtain ⟨ik, hik⟩ : ∃ ik, m * partsOf m len = ik := ⟨_, rfl⟩
      rw [hik] at n1 ⊢
      clear hlt
      gi_wp2
      go_end0
      exact ⟨⟨_, rfl⟩, .inl hJs⟩

set_option maxHeartbeats 1000000 in
theorem pChunk (n : Nat) (a : Option Addr) (len cap m : Nat) (hm : 0 < m) (w : World) :
    CallsIn Fence.wide n Try.prog 76 #[.slice a len cap, .int .i64 (m : Int)] w fun e w' => e = .returned (.func (.func 91) #[] #[.pointer (some ⟨w.heap.size, 0, none⟩), .pointer (some ⟨w.heap.size + 1, 0, none⟩)]) ∧ w' = (w.alloc (.cells #[.slice a len cap] 25)).alloc (.cells #[.int .i64 (m : Int)] 3) := by
  have m1 : ¬ ((m : Int) < 1) := by omega
  refine callsIn_of_wp Try.func76 rfl trivial ?_ rfl
  simp only [Try.ntmps76, List.size_toArray, List.length_cons, List.length_nil, Nat.reduceAdd, Nat.reduceSub, Array.replicate_succ, Array.replicate_zero, List.push_toArray, List.append_toArray, List.nil_append, List.cons_append]
  gi_wp2
  go_ret
  exact ⟨rfl, rfl⟩

theorem pChunk_stops (n : Nat) (hn : 1 ≤ n) (Bs Bm b off m len cap : Nat) (a : Option Addr) (ha : 0 < len → a = some ⟨b, off, none⟩) (X : Nat → Prop) (hXs : X Bs) (hXm : X Bm) (hm : 0 < m) (hm2 : m ≤ 1000) (hlen : len ≤ 1000) (hcap : len ≤ cap) (hcm : cap ≤ maxLen)
    (w : World) (hBs : w.heap[Bs]? = some (.cells #[.slice a len cap] 25 (0, 0))) (hBm : w.heap[Bm]? = some (.cells #[.int .i64 (m : Int)] 3 (0, 0))) :
    SeqStopsK Fence.wide n Try.prog 91 #[.pointer (some ⟨Bs, 0, none⟩), .pointer (some ⟨Bm, 0, none⟩)] (encJ b off m len) (KeptIn X) (fun ys => ys = firstJ m len (partsOf m len)) (fun pre => ∃ k, k < partsOf m len ∧ pre = firstJ m len (k + 1)) (partsOf m len) w := fun l J Jx W hW hJ _ hY h0 => by
  have h1 := (hW.block Bs (Array.getElem?_eq_some_iff.1 hBs).1).trans hBs
  have h2 := (hW.block Bm (Array.getElem?_eq_some_iff.1 hBm).1).trans hBm
  exact pChunk1 n hn l Bs Bm b off m len cap a ha X hXs hXm hm hm2 hlen hcap hcm J Jx W hJ hY (by simp [World.cell?, h1]) (by simp [World.cell?, h2]) h0

end Go.Proofs.Ytdbohcdjamhdjaa
