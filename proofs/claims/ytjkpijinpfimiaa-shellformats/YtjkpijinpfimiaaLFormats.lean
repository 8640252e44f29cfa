/-
  ShellFormats, walked: Format writes what the document says, as far as power goes.
-/
import Derived.Test.YtjkpijinpfimiaaLFmb
import Derived.Test.YtjkpijinpfimiaaLFmc
import Derived.Test.YtjkpijinpfimiaaLFmd
namespace Go.Proofs.Ytjkpijinpfimiaa
open Go.RowKit
theorem formats_walk (A : Option Addr) (n c : Nat) (bs : List Nat) (id u pw : Int) (w : World) (hA : Arr w (· < w.heap.size) A n (fun i => bV (bs.getD i 0))) (hl : bs.length = n) (h256 : ∀ x ∈ bs, x < 256) (_hnil : A = none → n = 0 ∧ c = 0) (_wi : -9223372036854775808 ≤ id ∧ id ≤ 9223372036854775807) (_wu : -9223372036854775808 ≤ u ∧ u ≤ 9223372036854775807) (wp : -9223372036854775808 ≤ pw ∧ pw ≤ 9223372036854775807) :
    Calls Try.prog 4 #[.agg #[.slice A n c, .int .i64 id, .int .i64 u, .int .i64 pw]] w fun e w' => e = .returned (.bool true) ∧ New w w' := by
  by_cases hv : ((1 ≤ id ∧ id ≤ 65535) ∧ (1 ≤ u ∧ u ≤ 4))
  · by_cases h0 : 0 ≤ pw
    · by_cases h3 : pw < 3
      · exact formats_in A n c bs id u pw w hA hl h256 _hnil _wi _wu wp hv ⟨h0, h3⟩
      · exact formats_high A n c bs id u pw w hA hl h256 _hnil _wi _wu wp hv (by omega)
    · exact formats_low A n c bs id u pw w hA hl h256 _hnil _wi _wu wp hv (by omega)
  · exact formats_no A n c bs id u pw w hA hl h256 _hnil _wi _wu wp hv
end Go.Proofs.Ytjkpijinpfimiaa
