import Derived.Test.YtkgjmejgkffbdaaGreatDoorSnL
import Derived.Test.YtkgjmejgkffbdaaGreatDoorSsL
/- A store's writeHead and Commit. -/
set_option linter.unusedVariables false
namespace Go.Proofs.YtkgjmejgkffbdaaGreatDoor
open Go.RowKit

/-- What writeHead leaves. -/
def OutH (x : Nat) (l : List UInt8) (S S' : List (List UInt8)) (M' : Int → Option (List UInt8)) (e : Int) : Prop :=
  (e = 0 ∧ (M' = fun _ => none) ∧ (∀ i, i < S.length → i ≠ x → S'.getD i [] = S.getD i []) ∧ S'.getD x [] = l) ∨
  (e = 4 ∧ S' = S ∧ (∀ i : Nat, i ≠ x → M' (i : Int) = none) ∧ (M' (x : Int) = none ∨ M' (x : Int) = some l))
def HeadW (A : Ad) (w : World) (p : Pw) (S : List (List UInt8)) (h : Hd) (a : Nat) (P : List Pag) (x : Nat) (l : List UInt8) (e : Ending) (w' : World) : Prop :=
  ∃ (e' : Int) (N' : Nat) (p' : Pw) (S' : List (List UInt8)) (M' : Int → Option (List UInt8)), e = .returned (.int .i64 e') ∧ Sv A N' p' S' M' h a P w' ∧ Fr A w w' ∧ (e' = 0 → N' = 0) ∧ S'.length = S.length ∧ OutH x l S S' M' e' ∧ (p.sure → e' = 0 ∧ p'.sure)

theorem put_one (x : Nat) (l : List UInt8) (hl : l.length = 16) (y : Nat) : putN (fun _ => none) (x : Int) l 1 (y : Int) = if y = x then some l else none := by
  rw [putN_eq]
  by_cases e : y = x
  · subst e
    rw [if_pos (by omega), if_pos rfl, show ((y : Int) - (y : Int)).toNat = 0 by omega]
    congr 1
    show (l.drop (16 * 0)).take 16 = l
    rw [Nat.mul_zero, List.drop_zero, List.take_of_length_le (by omega)]
  · rw [if_neg (by omega), if_neg e]

set_option maxHeartbeats 1000000 in
theorem stWHead {A : Ad} {p : Pw} {S : List (List UInt8)} {h : Hd} {a : Nat} {P : List Pag} {w : World} (k : Sv A 0 p S (fun _ => none) h a P w) (x : Nat) (hx : x ≤ 1) (l : List UInt8) (hl : l.length = 16) :
    Calls Tryz.prog 48 #[.pointer (some ⟨A.st, 0, none⟩), .int .i64 x, .string ⟨l.toArray⟩] w (HeadW A w p S h a P x l) := by
  have hpl := k.plen
  have htwo := k.two
  have c0 := k.isS.c0
  have CW := svWrite k (x : Int) l 1 (by rw [hl]; unfold maxLen; omega) hl (by simp only [fits, Bool.and_eq_true, decide_eq_true_eq]; omega) (by unfold maxLen; omega)
  have hlen : 32 ≤ S.length := by omega
  cases hcan : p.can with
  | false =>
    have hgo : Pw.go 1 p = (0, p.use) := by rw [Pw.go, hcan, if_neg (by simp)]
    rw [hgo, if_neg (show ¬ ((0, p.use) : Nat × Pw).1 = 1 from fun h => by cases h)] at CW
    have HCW := Lib.hid CW
    have hfin : ∀ W, Sv A (0 + 1) (0, p.use).2 S (putN (fun _ => none) (x : Int) l (0, p.use).1) h a P W → Fr A w W → HeadW A w p S h a P x l (.returned (.int .i64 4)) W := fun W k4 f4 =>
      ⟨4, _, _, _, _, rfl, k4, f4, (fun h => by cases h), rfl, .inr ⟨rfl, rfl, fun _ _ => rfl, .inl rfl⟩, fun hs => by rw [hs.can] at hcan; cases hcan⟩
    have HF := Lib.hid hfin
    clear CW hfin hgo hcan hpl htwo hlen k
    go_enter Tryz.func48, Tryz.ntmps48
    go_wp2_with (go_at_call 37; refine HCW.out.mono ?_; rintro e W1 ⟨rfl, k1, f1⟩; have c0' := k1.isS.c0)
    have HK := Lib.hid (HF.out W1 k1 f1)
    go_ret
    exact HK.out
  | true =>
    have hgo : Pw.go 1 p = (1, p.use) := by rw [Pw.go, hcan, if_pos rfl, Pw.go]
    rw [hgo, if_pos rfl] at CW
    have HCW := Lib.hid CW
    have hfin : ∀ W1 W, Fr A w W1 → (∃ N' S' M', (p.use.can = true → N' = 0 ∧ S' = flushed S (putN (fun _ => none) (x : Int) l 1) ∧ M' = fun _ => none) ∧ (p.use.can = false → N' = 0 + 1 ∧ S' = S ∧ M' = putN (fun _ => none) (x : Int) l 1) ∧ Sv A N' p.use.use S' M' h a P W) → Fr A W1 W → HeadW A w p S h a P x l (.returned (.int .i64 (flE p.use))) W := by
      rintro W1 W f1 ⟨N', S', M', q1, q2, k4⟩ f4
      cases hc2 : p.use.can with
      | true =>
        obtain ⟨rfl, rfl, rfl⟩ := q1 hc2
        refine ⟨flE p.use, _, _, _, _, rfl, k4, f1.trans' f4, fun _ => rfl, flushed_len _ _, .inl ⟨by rw [flE, hc2]; rfl, rfl, fun i hi hne => ?_, ?_⟩, fun hs => ⟨by rw [flE, hc2]; rfl, hs.use.use⟩⟩
        · rw [flushed_get i hi]
          exact now_not i (by rw [put_one x l hl, if_neg hne])
        · rw [flushed_get x (by omega)]
          exact now_of x l (by rw [put_one x l hl, if_pos rfl])
      | false =>
        obtain ⟨rfl, rfl, rfl⟩ := q2 hc2
        refine ⟨flE p.use, _, _, _, _, rfl, k4, f1.trans' f4, (fun h => by rw [flE, hc2] at h; cases h), rfl, .inr ⟨by rw [flE, hc2]; rfl, rfl, fun i hne => by rw [put_one x l hl, if_neg hne], .inr (by rw [put_one x l hl, if_pos rfl])⟩, fun hs => by rw [hs.use.can] at hc2; cases hc2⟩
    have HF := Lib.hid hfin
    clear CW hfin hgo hcan hpl htwo hlen k
    go_enter Tryz.func48, Tryz.ntmps48
    go_wp2_with (first
      | (go_at_call 37; refine HCW.out.mono ?_; rintro e W1 ⟨rfl, k1, f1⟩; have c0' := k1.isS.c0; have CF := Lib.hid (svFlush k1); have HF1 := Lib.hid (fun W => HF.out W1 W f1); clear k1 f1)
      | (go_at_call 39; refine CF.out.mono ?_; rintro e W2 ⟨rfl, h4, f4⟩))
    have HK := Lib.hid (HF1.out W2 h4 f4)
    obtain ⟨o, ho⟩ : ∃ o, flE p.use = o := ⟨_, rfl⟩
    rw [ho] at HK ⊢
    clear h4 f4 HF1 CF c0' ho
    go_ret
    exact HK.out

/-- The head that a Commit would write. -/
def nextH (h : Hd) (root : Int) : Hd := ⟨h.gen + 1, root, h.slow, h.fast, h.chunk⟩
/-- May it be committed? -/
def mayC (h : Hd) (P : List Pag) (root : Int) (l : List Int) : Bool := goodH (nextH h root) && l.all (usedB P) && decide (root = 0 ∨ root ∈ l)

/-- What Commit leaves. -/
def OutC (h : Hd) (a : Nat) (P : List Pag) (root : Int) (l : List Int) (S S' : List (List UInt8)) (M' : Int → Option (List UInt8)) (h' : Hd) (a' : Nat) (P' : List Pag) (e : Int) : Prop :=
  (e = 0 ∧ (M' = fun _ => none) ∧ h' = nextH h root ∧ a' = 1 - a ∧ P' = sweepP (keepP P l) [] ∧ (∀ x, x < S.length → x ≠ 1 - a → ¬ inNewI P l x → S'.getD x [] = S.getD x []) ∧ S'.getD (1 - a) [] = bytesH (nextH h root) ∧
    (∀ q : Nat, (q : Int) ∈ l → stOf P q = 1 → ∀ i, i < 16 → S'.getD (16 * q + i) [] = nth (txOf P q) i)) ∨
  (e = 4 ∧ S' = S ∧ ∀ x : Nat, ¬ inNewI P l x → M' (x : Int) = none) ∨
  (e = 4 ∧ (∀ x, x < S.length → ¬ inNewI P l x → S'.getD x [] = S.getD x []) ∧ (∀ q : Nat, (q : Int) ∈ l → stOf P q = 1 → ∀ i, i < 16 → S'.getD (16 * q + i) [] = nth (txOf P q) i) ∧
    (∀ x : Nat, x ≠ 1 - a → M' (x : Int) = none) ∧ (M' ((1 - a : Nat) : Int) = none ∨ M' ((1 - a : Nat) : Int) = some (bytesH (nextH h root))))
def CommS (A : Ad) (w : World) (p : Pw) (S : List (List UInt8)) (h : Hd) (a : Nat) (P : List Pag) (root : Int) (l : List Int) (e : Ending) (w' : World) : Prop :=
  ∃ (e' : Int) (N' : Nat) (p' : Pw) (S' : List (List UInt8)) (M' : Int → Option (List UInt8)) (h' : Hd) (a' : Nat) (P' : List Pag), e = .returned (.int .i64 e') ∧ Sv A N' p' S' M' h' a' P' w' ∧ Fr A w w' ∧ (e' = 0 → N' = 0) ∧ S'.length = S.length ∧
    OutC h a P root l S S' M' h' a' P' e' ∧ (p.sure → e' = 0 ∧ p'.sure)

/-- Sectors of heads lie in no page that may hold a node. -/
theorem not_new {P : List Pag} {l : List Int} (hu : l.all (usedB P) = true) (x : Nat) (hx : x < 16) : ¬ inNewI P l x := by
  rintro ⟨q, hq, _, h1, h2⟩
  have h3 := List.all_eq_true.1 hu _ hq
  unfold usedB holdsB at h3
  simp only [Bool.and_eq_true, decide_eq_true_eq] at h3
  omega

theorem wrap_gen (g : Nat) (h : g ≤ 4294967295) : IntKind.u64.wrap ((g : Int) + 1) = ((g + 1 : Nat) : Int) := by
  rw [IntKind.wrap_u64]
  omega

end Go.Proofs.YtkgjmejgkffbdaaGreatDoor
