import Derived.Test.YtefompndoopceaaGreatDoorJ8
import Derived.Test.YtefompndoopceaaGreatDoorJ1
/- Nodes of trees as bytes: the mathematics of layer 5. Of no program. -/
set_option linter.unusedVariables false
namespace Go.Proofs.YtefompndoopceaaGreatDoor
open Go.RowKit

/-- A pair's bytes. -/
def pairB (p : Nat × Nat) : List UInt8 := bytesLE p.1 8 ++ bytesLE p.2 8
theorem pairB_length (p : Nat × Nat) : (pairB p).length = 16 := by simp [pairB, bytesLE_length]
def pairsB : Pairs → List UInt8
  | [] => []
  | p :: r => pairB p ++ pairsB r
theorem pairsB_length (ps : Pairs) : (pairsB ps).length = 16 * ps.length := by
  induction ps with
  | nil => rfl
  | cons p r ih => rw [pairsB, List.length_append, pairB_length, ih, List.length_cons]; omega
theorem pairsB_append (ps qs : Pairs) : pairsB (ps ++ qs) = pairsB ps ++ pairsB qs := by
  induction ps with
  | nil => rfl
  | cons p r ih => rw [List.cons_append, pairsB, ih, pairsB, List.append_assoc]
theorem pairsB_take (ps : Pairs) (j : Nat) (h : j < ps.length) : pairsB (ps.take (j + 1)) = pairsB (ps.take j) ++ (bytesLE (keyAt ps j) 8 ++ bytesLE (valAt ps j) 8) := by
  rw [List.take_succ_eq_append_getElem h, pairsB_append, keyAt_get h, valAt_get h]
  simp [pairsB, pairB]

/-- A node's text, ahead of the sum. -/
def headB (lv : Int) (n : Nat) : List UInt8 := [76, UInt8.ofNat lv.toNat, UInt8.ofNat n, 0]
def textN (lv : Int) (ps : Pairs) : List UInt8 := headB lv ps.length ++ pairsB ps ++ List.replicate (248 - 16 * ps.length) 0
/-- A node's bytes. -/
def bytesN (lv : Int) (ps : Pairs) : List UInt8 := sealOf (textN lv ps)

theorem textN_length (lv : Int) (ps : Pairs) (h : ps.length ≤ 15) : (textN lv ps).length = 252 := by
  simp only [textN, List.length_append, pairsB_length, List.length_replicate, headB, List.length_cons, List.length_nil]; omega
theorem bytesN_length (lv : Int) (ps : Pairs) (h : ps.length ≤ 15) : (bytesN lv ps).length = 256 := by
  rw [bytesN, sealOf_length, textN_length _ _ h]

/-- The first pair that bytes tell. -/
def pairIn (u : List UInt8) : Nat × Nat := (numLE (u.take 8), numLE ((u.drop 8).take 8))
/-- The first n pairs that bytes tell. -/
def pairsIn : Nat → List UInt8 → Pairs
  | 0, _ => []
  | n + 1, u => pairIn u :: pairsIn n (u.drop 16)

theorem pairsIn_length (n : Nat) : ∀ u, (pairsIn n u).length = n := by
  induction n with
  | zero => intro u; rfl
  | succ n ih => intro u; rw [pairsIn, List.length_cons, ih]

theorem pairsIn_snoc (n : Nat) : ∀ u, pairsIn (n + 1) u = pairsIn n u ++ [pairIn (u.drop (16 * n))] := by
  induction n with
  | zero => intro u; simp [pairsIn]
  | succ n ih =>
    intro u
    rw [pairsIn, ih, pairsIn, List.cons_append, List.drop_drop, show 16 + 16 * n = 16 * (n + 1) by omega]

theorem pairIn_append (x y : List UInt8) (h : 16 ≤ x.length) : pairIn (x ++ y) = pairIn x := by
  unfold pairIn
  rw [List.take_append_of_le_length (by omega), List.drop_append_of_le_length (by omega), List.take_append_of_le_length (by rw [List.length_drop]; omega)]

theorem pairsIn_append (n : Nat) : ∀ (x y : List UInt8), 16 * n ≤ x.length → pairsIn n (x ++ y) = pairsIn n x := by
  induction n with
  | zero => intro x y _; rfl
  | succ n ih =>
    intro x y h
    rw [pairsIn, pairsIn, pairIn_append x y (by omega), List.drop_append_of_le_length (by omega), ih _ _ (by rw [List.length_drop]; omega)]

theorem pairIn_lt (u : List UInt8) : (pairIn u).1 < 18446744073709551616 ∧ (pairIn u).2 < 18446744073709551616 := by
  have h : ∀ v : List UInt8, v.length ≤ 8 → numLE v < 18446744073709551616 := fun v hv => by
    have h1 := numLE_lt v
    have h2 : 2 ^ (8 * v.length) ≤ 2 ^ 64 := Nat.pow_le_pow_right (by decide) (by omega)
    omega
  exact ⟨h _ (by rw [List.length_take]; omega), h _ (by rw [List.length_take]; omega)⟩

theorem pairsIn_fits (n : Nat) : ∀ u, Fits (pairsIn n u) := by
  induction n with
  | zero => intro u p hp; cases hp
  | succ n ih =>
    intro u p hp
    rcases List.mem_cons.1 hp with rfl | h
    · exact pairIn_lt u
    · exact ih _ p h

theorem pairB_pairIn (u : List UInt8) (h : 16 ≤ u.length) : pairB (pairIn u) = u.take 16 := by
  have h1 : (u.take 8).length = 8 := by rw [List.length_take]; omega
  have h2 : ((u.drop 8).take 8).length = 8 := by rw [List.length_take, List.length_drop]; omega
  have e1 := bytesLE_numLE (u.take 8)
  have e2 := bytesLE_numLE ((u.drop 8).take 8)
  rw [h1] at e1
  rw [h2] at e2
  unfold pairB pairIn
  rw [e1, e2, show 16 = 8 + 8 by rfl, List.take_add]

theorem pairsB_pairsIn (n : Nat) : ∀ u, 16 * n ≤ u.length → pairsB (pairsIn n u) = u.take (16 * n) := by
  induction n with
  | zero => intro u _; rfl
  | succ n ih =>
    intro u h
    rw [pairsIn, pairsB, pairB_pairIn u (by omega), ih _ (by rw [List.length_drop]; omega), show 16 * (n + 1) = 16 + 16 * n by omega, List.take_add]

theorem pairIn_pairB (p : Nat × Nat) (r : List UInt8) (h1 : p.1 < 18446744073709551616) (h2 : p.2 < 18446744073709551616) : pairIn (pairB p ++ r) = p := by
  unfold pairIn pairB
  have l1 := bytesLE_length p.1 8
  have l2 := bytesLE_length p.2 8
  rw [List.append_assoc, List.take_left' l1, List.drop_left' l1, List.take_left' l2, numLE_bytesLE, numLE_bytesLE]
  rw [Nat.mod_eq_of_lt (by omega), Nat.mod_eq_of_lt (by omega)]

theorem pairsIn_pairsB (ps : Pairs) (r : List UInt8) (h : Fits ps) : pairsIn ps.length (pairsB ps ++ r) = ps := by
  induction ps with
  | nil => rfl
  | cons p q ih =>
    have hp := h p List.mem_cons_self
    rw [List.length_cons, pairsIn, pairsB, List.append_assoc, pairIn_pairB _ _ hp.1 hp.2, List.drop_left' (pairB_length p), ih fun x hx => h x (List.mem_cons_of_mem _ hx)]

/-- What the bytes of a page tell: the level, the pairs. -/
def lvIn (s : List UInt8) : Nat := (s.getD 1 0).toNat
def cntIn (s : List UInt8) : Nat := (s.getD 2 0).toNat
def psIn (s : List UInt8) : Pairs := pairsIn (min (cntIn s) 15) (s.drop 4)
/-- Whether a page is a node's. -/
def isN (s : List UInt8) : Bool := decide (s.length = 256) && goodN (lvIn s) (psIn s) && decide (bytesN (lvIn s) (psIn s) = s)


theorem textN_parts (lv : Int) (ps : Pairs) : textN lv ps = 76 :: UInt8.ofNat lv.toNat :: UInt8.ofNat ps.length :: 0 :: (pairsB ps ++ List.replicate (248 - 16 * ps.length) 0) := by
  simp [textN, headB]

theorem bytesN_parts (lv : Int) (ps : Pairs) : bytesN lv ps = 76 :: UInt8.ofNat lv.toNat :: UInt8.ofNat ps.length :: 0 :: (pairsB ps ++ (List.replicate (248 - 16 * ps.length) 0 ++ bytesLE (sumOf (textN lv ps)) 4)) := by
  conv => lhs; unfold bytesN sealOf
  conv => lhs; lhs; rw [textN_parts]
  simp

theorem u8_small (n : Nat) (h : n < 256) : (UInt8.ofNat n).toNat = n := by simp; omega

/-- What was written is read as it was. -/
theorem read_bytes {lv : Int} {ps : Pairs} (h : goodN lv ps = true) (hf : Fits ps) : isN (bytesN lv ps) = true ∧ ((lvIn (bytesN lv ps) : Nat) : Int) = lv ∧ psIn (bytesN lv ps) = ps := by
  obtain ⟨h0, h7, h15⟩ := good_parts h
  have hp := bytesN_parts lv ps
  have e1 : ((lvIn (bytesN lv ps) : Nat) : Int) = lv := by
    unfold lvIn
    rw [hp]
    show (((UInt8.ofNat lv.toNat).toNat : Nat) : Int) = lv
    rw [u8_small _ (by omega)]; omega
  have e2 : cntIn (bytesN lv ps) = ps.length := by
    unfold cntIn
    rw [hp]
    exact u8_small _ (by omega)
  have e3 : psIn (bytesN lv ps) = ps := by
    unfold psIn
    rw [e2, Nat.min_eq_left h15, hp]
    exact pairsIn_pairsB ps _ hf
  refine ⟨?_, e1, e3⟩
  unfold isN
  rw [e1, e3, h, bytesN_length lv ps h15]
  simp

/-- Unlike nodes have unlike bytes. -/
theorem bytesN_inj {a b : Int} {ps qs : Pairs} (ha : goodN a ps = true) (hb : goodN b qs = true) (fa : Fits ps) (fb : Fits qs) : bytesN a ps = bytesN b qs ↔ a = b ∧ ps = qs := by
  constructor
  · intro h
    obtain ⟨_, a1, a2⟩ := read_bytes ha fa
    obtain ⟨_, b1, b2⟩ := read_bytes hb fb
    exact ⟨a1.symm.trans ((congrArg (fun x => ((lvIn x : Nat) : Int)) h).trans b1), a2.symm.trans ((congrArg psIn h).trans b2)⟩
  · rintro ⟨rfl, rfl⟩; rfl

/-- What the parts of a page's text tell, one behind the other. -/
def parseOk (t : List UInt8) : Bool := decide (t.getD 0 0 = 76) && decide (t.getD 3 0 = 0) && decide (cntIn t ≤ 15) && (t.drop (4 + 16 * cntIn t)).all (· == 0)

theorem zeros_of_all (l : List UInt8) (h : l.all (· == 0) = true) : l = List.replicate l.length 0 := by
  rw [List.eq_replicate_iff]
  exact ⟨rfl, fun b hb => by simpa using List.all_eq_true.1 h b hb⟩

theorem list4 (t : List UInt8) (h : 4 ≤ t.length) : t = t.getD 0 0 :: t.getD 1 0 :: t.getD 2 0 :: t.getD 3 0 :: t.drop 4 := by
  match t, h with
  | a :: b :: c :: d :: r, _ => rfl

theorem take_getD (s : List UInt8) (n i : Nat) (h : i < n) : (s.take n).getD i 0 = s.getD i 0 := by
  rw [List.getD_eq_getElem?_getD, List.getD_eq_getElem?_getD, List.getElem?_take, if_pos h]

/-- Read part by part, or held against the bytes of what it tells: the same. -/
theorem parse_iff (s : List UInt8) (h : s.length = 256) (lv : Nat) (ps : Pairs) (hlv : lv = lvIn s) (hps : cntIn s ≤ 15 → ps = pairsIn (cntIn s) (s.drop 4)) :
    (openIs s && (parseOk (s.take 252) && (decide (cntIn s ≤ 15) && goodN lv ps))) = isN s := by
  have hl4 : s.length - 4 = 252 := by omega
  have ht : (s.take 252).length = 252 := by rw [List.length_take]; omega
  have c1 : cntIn (s.take 252) = cntIn s := by unfold cntIn; rw [take_getD _ _ _ (by decide)]
  have l1 : lvIn (s.take 252) = lvIn s := by unfold lvIn; rw [take_getD _ _ _ (by decide)]
  rw [Bool.eq_iff_iff]
  simp only [Bool.and_eq_true, decide_eq_true_eq]
  constructor
  · rintro ⟨ho, hp, hc, hg⟩
    have hps' := hps hc
    have hs := (openIs_sealed s (by omega)).1 ho
    rw [hl4] at hs
    simp only [parseOk, Bool.and_eq_true, decide_eq_true_eq, c1] at hp
    obtain ⟨⟨⟨p0, p3⟩, _⟩, pz⟩ := hp
    have hpsI : psIn s = ps := by rw [psIn, Nat.min_eq_left hc, hps']
    have hlen : ps.length = cntIn s := by rw [hps', pairsIn_length]
    have hz := zeros_of_all _ pz
    rw [List.length_drop, ht] at hz
    have htext : textN lv ps = s.take 252 := by
      rw [textN_parts]
      have e4 := list4 (s.take 252) (by omega)
      have hd : (s.drop 4).take (16 * cntIn s) = ((s.take 252).drop 4).take (16 * cntIn s) := by
        rw [List.drop_take, List.take_take, Nat.min_eq_left (by omega)]
      have hb : pairsB ps = ((s.take 252).drop 4).take (16 * cntIn s) := by
        rw [hps', pairsB_pairsIn _ _ (by rw [List.length_drop]; omega), hd]
      have hsplit : (s.take 252).drop 4 = ((s.take 252).drop 4).take (16 * cntIn s) ++ (s.take 252).drop (4 + 16 * cntIn s) := by
        rw [← List.drop_drop, List.take_append_drop]
      rw [e4, p0, p3, hlen]
      have e1 : UInt8.ofNat ((lv : Int)).toNat = (s.take 252).getD 1 0 := by
        rw [hlv, ← l1]
        unfold lvIn
        simp
      have e2 : UInt8.ofNat (cntIn s) = (s.take 252).getD 2 0 := by
        rw [← c1]
        unfold cntIn
        simp
      rw [e1, e2]
      congr 4
      rw [hb]
      conv => rhs; rw [hsplit]
      congr 1
      rw [hz]
      congr 1
      omega
    unfold isN
    rw [hpsI, ← hlv, hg]
    have hb : bytesN lv ps = s := by rw [bytesN, htext]; exact hs
    rw [hb]
    simp [h]
  · intro hi
    simp only [isN, Bool.and_eq_true, decide_eq_true_eq] at hi
    obtain ⟨⟨_, hg⟩, hb⟩ := hi
    obtain ⟨h0, h7, h15⟩ := good_parts hg
    have hlen : (psIn s).length = min (cntIn s) 15 := by rw [psIn, pairsIn_length]
    have htx : textN (lvIn s) (psIn s) = s.take 252 := by
      have : s = textN (lvIn s) (psIn s) ++ bytesLE (sumOf (textN (lvIn s) (psIn s))) 4 := hb.symm
      conv => rhs; rw [this]
      rw [List.take_left' (textN_length _ _ h15)]
    have hcc : cntIn s = min (cntIn s) 15 := by
      have e : cntIn (s.take 252) = (psIn s).length := by
        rw [← htx, textN_parts]
        exact u8_small _ (by omega)
      rw [c1, hlen] at e
      exact e
    have hc : cntIn s ≤ 15 := by omega
    have hps' : ps = psIn s := by rw [hps hc, psIn, Nat.min_eq_left hc]
    refine ⟨?_, ?_, hc, ?_⟩
    · rw [← hb]; exact seal_opens _
    · simp only [parseOk, Bool.and_eq_true, decide_eq_true_eq, c1]
      rw [← htx, textN_parts]
      refine ⟨⟨⟨rfl, rfl⟩, hc⟩, ?_⟩
      rw [show 4 + 16 * cntIn s = 16 * cntIn s + 1 + 1 + 1 + 1 by omega]
      simp only [List.drop_succ_cons]
      rw [List.drop_left' (by rw [pairsB_length, hlen]; omega)]
      simp
    · rw [hps', hlv]; exact hg

/-- What is read of a page. -/
def lvR (s : List UInt8) : Int := if isN s then lvIn s else 0
def psR (s : List UInt8) : Pairs := if isN s then psIn s else []

end Go.Proofs.YtefompndoopceaaGreatDoor
