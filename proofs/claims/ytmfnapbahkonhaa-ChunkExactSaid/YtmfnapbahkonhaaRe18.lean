/- The document's Deck (tierceref18): Get, Put. -/
import Derived.Test.YtmfnapbahkonhaaRd18
import Derived.LoopTactic
set_option linter.unusedVariables false
namespace Go.Proofs.Ytmfnapbahkonhaa
open Go.RowKit

theorem upN_up {α : Type} (f : Nat → α) (t : Nat) (v x : α) : upN (upN f t v) t x = upN f t x := by
  funext i
  unfold upN
  split <;> rfl

set_option maxHeartbeats 2000000 in
set_option maxRecDepth 100000 in
theorem r18Get {B u sz : Nat} {V : Nat → Value} {F : Nat → List (List UInt8)} {w : World} (h : IsU18 B u sz V F w) (hs1 : 1 ≤ sz) (hs8 : sz ≤ 8) (t s : Nat) (ht : t < 2) (hs : s < 256) (hin : s * sz + sz ≤ (F t).length) (hmx : (F t).length ≤ 16384) (h16 : ∀ x ∈ F t, x.length = 16) :
    Calls Try.prog 14 #[.pointer (some ⟨u, 0, none⟩), .int .i64 (t : Int), .int .i64 (s : Int)] w fun e w' => e = .returned (.string ⟨(((F t).drop (s * sz)).take sz).flatten.toArray⟩) ∧ KeptIn (· < w.heap.size) w w' := by
  obtain ⟨p, hp⟩ : ∃ p, s * sz = p := ⟨_, rfl⟩
  rw [hp] at hin ⊢
  obtain ⟨Y, hY⟩ : ∃ Y, ((F t).drop p).take sz = Y := ⟨_, rfl⟩
  rw [hY]
  have hYl : Y.length = sz := by rw [← hY, List.length_take, List.length_drop]; omega
  have hY16 : ∀ x ∈ Y, x.length = 16 := fun x hx => by
    rw [← hY] at hx
    exact h16 x (List.mem_of_mem_drop (List.mem_of_mem_take hx))
  have hYat : ∀ j, j < sz → Y[j]? = (F t)[p + j]? := fun j hj => by rw [← hY, List.getElem?_take, if_pos hj, List.getElem?_drop]
  obtain ⟨out, hout⟩ : ∃ o, Y.flatten = o := ⟨_, rfl⟩
  rw [hout]
  have hmul : IntKind.i64.wrap ((s : Int) * (sz : Int)) = (p : Int) := by
    have hm : (s : Int) * (sz : Int) = (p : Int) := by rw [← hp]; simp
    rw [hm, IntKind.wrap_i64]; omega
  have H := Lib.hid h
  have HYY := Lib.hid (And.intro hYl (And.intro hY16 (And.intro hYat hout)))
  have HM := Lib.hid (And.intro hin hmx)
  have t0 : (0 : Int) ≤ (t : Int) := by omega
  have t1 : (t : Int) < 2 := by omega
  have hszI : (sz : Int) ≤ 8 := by omega
  have HT := Lib.hid ht
  clear h hp hY hYl hY16 hYat hout hin hmx h16 hs hs1 hs8 ht
  go_enter Try.func14, Try.ntmps14
  go_wp2_with fail
  go_loopw [7, 8] (fun sv c wr => ∃ (j : Nat) (W : World), W = wr ∧ j ≤ sz ∧ c = .int .i64 (j : Int) ∧ sv = .string ⟨(Y.take j).flatten.toArray⟩ ∧ Hid (KeptIn (· < w.heap.size) w W)) (fun _ c _ => sz - (RowKit.intOf c).toNat)
  case atStart => exact ⟨0, w, rfl, Nat.zero_le _, rfl, rfl, Lib.hid (KeptIn.refl _ w)⟩
  case round =>
    obtain ⟨j, W, rfl, hj, rfl, rfl, HK⟩ := hrel
    have hW := H.out.old HK.out
    have cz := hW.cz
    by_cases hlt : j < sz
    · have b0 : (0 : Int) ≤ (j : Int) := by omega
      have b1 : (j : Int) < (sz : Int) := by omega
      obtain ⟨g, cap, hv, _, hc, _⟩ := hW.cells HT.out (by have := HM.out; omega)
      have cv := hW.cv HT.out
      rw [hv] at cv
      have hpj : p + j < (F t).length := by have := HM.out; omega
      have hcj := hc (p + j) _ (List.getElem?_eq_getElem hpj)
      have hYj : Y[j]? = some (F t)[p + j] := by rw [HYY.out.2.2.1 j hlt, List.getElem?_eq_getElem hpj]
      have hjY : j < Y.length := by rw [HYY.out.1]; exact hlt
      have hstep := flat_take_succ Y j hjY
      have hyj : Y[j] = (F t)[p + j] := by rw [List.getElem?_eq_getElem hjY] at hYj; exact Option.some.inj hYj
      rw [hyj] at hstep
      have hx16 : ((F t)[p + j]).length = 16 := HYY.out.2.1 _ (List.mem_of_getElem? hYj)
      have hfl : (Y.take j).flatten.length = 16 * j := by rw [flat_length _ (fun x hx => HYY.out.2.1 x (List.mem_of_mem_take hx)), List.length_take, HYY.out.1]; omega
      obtain ⟨x, hx⟩ : ∃ x, (F t)[p + j] = x := ⟨_, rfl⟩
      obtain ⟨y, hy⟩ : ∃ y, (Y.take j).flatten = y := ⟨_, rfl⟩
      obtain ⟨n, hn⟩ : ∃ n, (F t).length = n := ⟨_, rfl⟩
      obtain ⟨pj, hpjj⟩ : ∃ q, p + j = q := ⟨_, rfl⟩
      have hadd : IntKind.i64.wrap ((p : Int) + (j : Int)) = (pj : Int) := by rw [IntKind.wrap_i64]; have := HM.out; omega
      have p0 : (0 : Int) ≤ (pj : Int) := by omega
      have p1 : (pj : Int) < (n : Int) := by omega
      rw [hx] at hcj hstep hx16
      rw [hy] at hfl hstep ⊢
      rw [hn] at cv
      rw [hpjj] at hcj
      have HST : Hid ((⟨y.toArray⟩ : ByteArray) ++ ⟨x.toArray⟩ = ⟨(Y.take (j + 1)).flatten.toArray⟩) := Lib.hid (by rw [joinB, hstep])
      have hsum : ¬ 9223372036854775807 < y.length + x.length := by omega
      clear hc hx hy hn hstep hpjj hpj hyj hYj hjY hv hW hx16 hfl
      go_wp2_with fail
      go_quiet (fail)
      go_wp2_with fail
      go_roundw
      case rel => exact ⟨j + 1, _, rfl, by omega, by go_num, by rw [HST.out], Lib.hid (HK.out.drewN _)⟩
      case measure => simp [RowKit.intOf]; omega
    · obtain rfl : j = sz := by omega
      have HE : Hid ((Y.take j).flatten = out) := Lib.hid (by rw [← HYY.out.2.2.2, List.take_of_length_le (by rw [HYY.out.1]; exact Nat.le_refl _)])
      rw [HE.out]
      clear hW
      go_wp2_with fail
      go_ret
      exact ⟨rfl, HK.out⟩

set_option maxHeartbeats 2000000 in
set_option maxRecDepth 100000 in
theorem r18Put {B u sz : Nat} {V : Nat → Value} {F : Nat → List (List UInt8)} {w : World} (h : IsU18 B u sz V F w) (hs1 : 1 ≤ sz) (hs8 : sz ≤ 8) (t s a n : Nat) (l : List UInt8) (ht : t < 2) (hs : s < 256) (ha : a ≤ 8) (hin : s * sz + a + n ≤ (F t).length) (hmx : (F t).length ≤ 16384) (hl : l.length = 16 * n) :
    Calls Try.prog 16 #[.pointer (some ⟨u, 0, none⟩), .int .i64 (t : Int), .int .i64 (s : Int), .int .i64 (a : Int), .string ⟨l.toArray⟩] w fun e w' => e = .returned (.tuple #[]) ∧ IsU18 B u sz V (upN F t (putF (F t) (s * sz + a) l n)) w' ∧ KeptIn (fun x => x < w.heap.size ∧ (V t).ownBlock ≠ some x) w w' := by
  obtain ⟨p, hp⟩ : ∃ p, s * sz = p := ⟨_, rfl⟩
  rw [hp] at hin ⊢
  have hmul : IntKind.i64.wrap ((s : Int) * (sz : Int)) = (p : Int) := by
    have hm : (s : Int) * (sz : Int) = (p : Int) := by rw [← hp]; simp
    rw [hm, IntKind.wrap_i64]; omega
  obtain ⟨pa, hpa⟩ : ∃ pa, p + a = pa := ⟨_, rfl⟩
  rw [hpa] at hin ⊢
  have hadd : IntKind.i64.wrap ((p : Int) + (a : Int)) = (pa : Int) := by rw [IntKind.wrap_i64]; omega
  have hJ0 : IsU18 B u sz V (upN F t (putF (F t) pa l 0)) w := by
    have e : upN F t (putF (F t) pa l 0) = F := by
      funext i
      unfold upN putF
      split
      · rename_i e; rw [e]
      · rfl
    rw [e]
    exact h
  have HJ0 := Lib.hid (And.intro hJ0 (KeptIn.refl (fun x => x < w.heap.size ∧ (V t).ownBlock ≠ some x) w))
  have HM : Hid (pa + n ≤ (F t).length ∧ (F t).length ≤ 16384 ∧ l.length = 16 * n) := Lib.hid ⟨hin, hmx, hl⟩
  have t0 : (0 : Int) ≤ (t : Int) := by omega
  have t1 : (t : Int) < 2 := by omega
  have hlI : (l.length : Int) ≤ 9223372036854775807 := by omega
  have hnI : n ≤ 16384 := by omega
  have hll : (l.length : Int) = 16 * (n : Int) := by omega
  have HT := Lib.hid ht
  have HLL := Lib.hid hll
  clear h hp hpa hin hmx hl hs hs1 hs8 ht ha hJ0 hll
  go_enter Try.func16, Try.ntmps16
  go_wp2_with fail
  go_loopw [10] (fun c wr => ∃ (j : Nat) (W : World), W = wr ∧ j ≤ n ∧ c = .int .i64 (j : Int) ∧ Hid (IsU18 B u sz V (upN F t (putF (F t) pa l j)) W ∧ KeptIn (fun x => x < w.heap.size ∧ (V t).ownBlock ≠ some x) w W)) (fun c _ => n - (RowKit.intOf c).toNat)
  case atStart => exact ⟨0, w, rfl, Nat.zero_le _, rfl, HJ0⟩
  case round =>
    obtain ⟨j, W, rfl, hj, rfl, HJ⟩ := hrel
    clear HJ0
    by_cases hlt : j < n
    · have hW := HJ.out.1
      have hlen : (upN F t (putF (F t) pa l j) t).length = (F t).length := by rw [upN_self, putF_length]
      obtain ⟨g, cap, hv, hvo, hc, hf⟩ := hW.cells HT.out (by rw [hlen]; have := HM.out; omega)
      rw [hlen] at hv
      have cv := hW.cv HT.out
      rw [hv] at cv
      have cz := hW.cz
      have hpj : pa + j < (F t).length := by have := HM.out; omega
      have hcj := hc (pa + j) _ (List.getElem?_eq_getElem (by rw [hlen]; exact hpj))
      have hfj := hf (pa + j)
      obtain ⟨x0, hx0⟩ : ∃ x, ((upN F t (putF (F t) pa l j) t)[pa + j]'(by rw [hlen]; exact hpj)) = x := ⟨_, rfl⟩
      rw [hx0] at hcj
      obtain ⟨k, hk⟩ : ∃ k, 16 * j = k := ⟨_, rfl⟩
      obtain ⟨k2, hk2⟩ : ∃ k2, k + 16 = k2 := ⟨_, rfl⟩
      have e0 : IntKind.i64.wrap (16 * (j : Int)) = (k : Int) := by rw [IntKind.wrap_i64]; have := HM.out; omega
      have e00 : wrap64 (16 * (j : Int)) = (k : Int) := by unfold wrap64; have := HM.out; omega
      have e1 : IntKind.i64.wrap ((k : Int) + 16) = (k2 : Int) := by rw [IntKind.wrap_i64]; have := HM.out; omega
      have hex : (⟨l.toArray⟩ : ByteArray).extract k k2 = ⟨(nth l j).toArray⟩ := by
        rw [subB l k k2 (by omega) (by have := HM.out; omega), ← hk2, ← hk, show 16 * j + 16 - 16 * j = 16 by omega]
        rfl
      have i0 : (0 : Int) ≤ (k : Int) := by omega
      have i1 : (k2 : Int) ≤ (l.length : Int) := by rw [HLL.out]; omega
      have i2 : (k : Int) ≤ (k2 : Int) := by omega
      have i3 : (k : Int) < (l.length : Int) := by omega
      obtain ⟨x, hx⟩ : ∃ x, nth l j = x := ⟨_, rfl⟩
      have hset := hW.set HT.out hvo (pa + j) (by rw [hlen]; exact hpj) x
      rw [upN_self, upN_up, ← hx, show (putF (F t) pa l j).set (pa + j) (nth l j) = putF (F t) pa l (j + 1) from rfl, hx] at hset
      rw [hx] at hex
      obtain ⟨m, hm⟩ : ∃ n, (F t).length = n := ⟨_, rfl⟩
      obtain ⟨pj, hpjj⟩ : ∃ q, pa + j = q := ⟨_, rfl⟩
      have hadd2 : IntKind.i64.wrap ((pa : Int) + (j : Int)) = (pj : Int) := by rw [IntKind.wrap_i64]; have := HM.out; omega
      have p0 : (0 : Int) ≤ (pj : Int) := by omega
      have p1 : (pj : Int) < (m : Int) := by omega
      rw [hm] at cv
      rw [hpjj] at hcj hfj hset
      have HN : Hid (IsU18 B u sz V (upN F t (putF (F t) pa l (j + 1))) (W.setCell ⟨g, pj, none⟩ (.string ⟨x.toArray⟩)) ∧ KeptIn (fun x => x < w.heap.size ∧ (V t).ownBlock ≠ some x) w (W.setCell ⟨g, pj, none⟩ (.string ⟨x.toArray⟩))) := Lib.hid ⟨hset, HJ.out.2.setCell (p := ⟨g, pj, none⟩) (fun hx => hx.2 hvo) _⟩
      clear hc hf hx0 hx hm hpjj hpj hv hvo hW hlen hset hk hk2 HJ
      go_wp2_with fail
      go_region
      go_wp2_with fail
      go_roundw
      case rel => exact ⟨j + 1, _, rfl, by omega, by go_num, Lib.hid ⟨HN.out.1.old (KeptIn.refl _ _).drew, HN.out.2.drew⟩⟩
      case measure => simp [RowKit.intOf]; omega
    · obtain rfl : j = n := by omega
      have hnl : ¬ (16 * (j : Int) < (l.length : Int)) := by rw [HLL.out]; omega
      clear hj hlt
      go_wp2
      go_end0
      exact ⟨rfl, HJ.out⟩

end Go.Proofs.Ytmfnapbahkonhaa
