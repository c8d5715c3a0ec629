import Derived.Test.YtdbohcdjamhdjaaV10
/- Package reach's Pages over whatever nodes. -/
set_option linter.unusedVariables false
namespace Go.Proofs.Ytdbohcdjamhdjaa
open Go.RowKit

/-- What Pages answers over whatever nodes. -/
def PzG (w : World) (L : List Int) : Bool → Ending → World → Prop
  | false, e, w' => e = .returned (.tuple #[.slice none 0 0, .int .i64 3]) ∧ KeptIn (· < w.heap.size) w w'
  | true, e, w' => PzS w L e w'
set_option maxRecDepth 100000 in
set_option maxHeartbeats 4000000 in
theorem rcPagesG {w : World} {s n cap : Nat} {a : Option Addr} {N : List Nd} {rs : List Int} {P : Int → Bool} {R : Bool} (h : Calls Try.prog 8 #[pgV s, .slice a n cap] w (RfG w N rs P R)) :
    Calls Try.prog 9 #[pgV s, .slice a n cap] w (PzG w (need9 N rs P) R) := by
  cases R with
  | true => exact rcPages h
  | false =>
    have HR := Lib.hid h
    unfold RfG pgV at HR
    unfold PzG pgV
    clear h
    go_enter Try.func9, Try.ntmps9
    go_wp2_with fail
    refine HR.out.mono ?_
    rintro e V1 ⟨rfl, hk1⟩
    have HE := Lib.hid hk1
    clear hk1
    go_wp2_with fail
    go_ret2
    exact ⟨rfl, HE.out⟩

end Go.Proofs.Ytdbohcdjamhdjaa
