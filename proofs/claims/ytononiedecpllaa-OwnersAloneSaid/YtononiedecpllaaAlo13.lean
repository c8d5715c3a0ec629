/- OwnersAlone of layer 13: the mathematics; what stands in its loop. -/
import Derived.Test.YtononiedecpllaaWz13
import Derived.Test.YtononiedecpllaaOe13
set_option linter.unusedVariables false
namespace Go.Proofs.Ytononiedecpllaa
open Go.RowKit Go.Maps Go.Sort

/-- What stands between the deeds: chunk 5 is o's alone. -/
def Al13 (w1 : World) (b : Nat) (o : Ow) (f h : Int → List Ow) (k : Nat) (W : World) : Prop := Bo w1 b f h (fun _ => False) W ∧ Few f k ∧ f 5 = [o] ∧ (h 5 = [] ∨ h 5 = [o])

theorem addF_other (f : Int → List Ow) {c d : Int} (q : Ow) (h : d ≠ c) : addF f c q d = f d := by
  unfold addF
  split
  · exact setF_other _ _ h
  · rfl
theorem remF_other (f : Int → List Ow) {c d : Int} (q : Ow) (h : d ≠ c) : remF f c q d = f d := by
  unfold remF
  split
  · exact setF_other _ _ h
  · rfl
theorem alone_yes {f h : Int → List Ow} {o : Ow} (hf : f 5 = [o]) (hh : h 5 = [] ∨ h 5 = [o]) : aloneB f h 5 o = true := by
  unfold aloneB
  rw [hf]
  rcases hh with e | e
  · rw [e]; simp
  · rw [e]; simp
theorem alone_no {f h : Int → List Ow} {o q : Ow} (hf : f 5 = [o]) (hq : q ≠ o) : aloneB f h 5 q = false := by
  unfold aloneB
  rw [hf, decide_eq_false (by simp [Ne.symm hq])]
  rfl
theorem alone_two {f h : Int → List Ow} {q : Ow} (hf : (f 5).length = 2) : aloneB f h 5 q = false := by
  unfold aloneB
  rw [decide_eq_false (fun e => by rw [e] at hf; simp at hf)]
  rfl
theorem ins_del {l : List Ow} {o : Ow} (hs : Srt13 l) (hn : o ∉ l) : delO (insO l o) o = l := by
  have hs2 := srt_insO hs hn
  have hm : o ∈ insO l o := mem_insO.2 (.inl rfl)
  refine srt_ext (srt_delO hs2) hs fun x => ?_
  rw [mem_delO hs2 hm, mem_insO]
  constructor
  · rintro ⟨h1 | h1, h2⟩
    · exact absurd h1 h2
    · exact h1
  · intro h
    exact ⟨.inr h, fun e => hn (e ▸ h)⟩
theorem srt_one (o : Ow) : Srt13 [o] := by simp [Srt13]

/-- The last deeds. -/
theorem al_end {f : Int → List Ow} {o q : Ow} (hf : f 5 = [o]) (hq : q ≠ o) :
    addE f 5 q = 0 ∧ addF f 5 q = setF f 5 (insO [o] q) ∧ ((setF f 5 (insO [o] q)) 5).length = 2 ∧
    remE (setF f 5 (insO [o] q)) 5 q = (false, 0) ∧ remF (setF f 5 (insO [o] q)) 5 q = setF f 5 [o] ∧
    remE (setF f 5 [o]) 5 o = (true, 0) ∧ remF (setF f 5 [o]) 5 o = setF f 5 [] ∧
    addE (setF f 5 []) 5 q = 0 ∧ addF (setF f 5 []) 5 q = setF f 5 [q] := by
  have hno : q ∉ [o] := by simpa using hq
  obtain ⟨e1, e2⟩ := addE_ok (f := f) (c := 5) (o := q) (by omega) (by omega) (by rw [hf]; exact hno)
  rw [hf] at e2
  have hd : delO (insO [o] q) q = [o] := ins_del (srt_one o) hno
  have hm : q ∈ insO [o] q := mem_insO.2 (.inl rfl)
  obtain ⟨e3, e4⟩ := addE_ok (f := setF f 5 []) (c := 5) (o := q) (by omega) (by omega) (by rw [setF_same]; simp)
  rw [setF_same, setF_setF, insO_nil] at e4
  refine ⟨e1, e2, by rw [setF_same, insO_length]; rfl, ?_, ?_, ?_, ?_, e3, e4⟩
  · unfold remE; rw [setF_same, if_pos hm, hd]; rfl
  · unfold remF; rw [setF_same, if_pos hm, hd, setF_setF]
  · unfold remE; rw [setF_same, if_pos (by simp), delO_one]; rfl
  · unfold remF; rw [setF_same, if_pos (by simp), delO_one, setF_setF]
theorem al_zero (o : Ow) : addE (fun _ => []) 5 o = 0 ∧ addF (fun _ => []) 5 o = setF (fun _ => []) 5 [o] := by
  obtain ⟨e1, e2⟩ := addE_ok (f := fun _ => []) (c := 5) (o := o) (by omega) (by omega) (by simp)
  exact ⟨e1, e2⟩
theorem al_dup {f : Int → List Ow} {o : Ow} (hf : f 5 = [o]) : addE f 5 o = 8 := by
  unfold addE
  rw [if_neg (by omega), hf, if_pos (by simp)]
theorem alone_other {h : Int → List Ow} {f : Int → List Ow} {o q : Ow} (hh : h 5 = [o]) (hq : q ≠ o) : aloneB f h 5 q = false := by
  unfold aloneB
  rw [hh, decide_eq_false (by simp : ¬ ([o] : List Ow).length = 0), decide_eq_false (by simp [Ne.symm hq] : ¬ [o] = [q])]
  simp

end Go.Proofs.Ytononiedecpllaa
