/-
  bits.Pack, one contract for every input.
-/
import Derived.Test.YtgnobaenlcbfjaaW2
namespace Go.Proofs.Ytgnobaenlcbfjaa
open Go.RowKit

theorem pack_no (a a' : Option Addr) (cap cap' : Nat) (ws vs : List Int) (w : World) (hl : ws.length ≤ 9223372036854775807)
    (hc : IntsAt w a ws) (hc' : IntsAt w a' vs) (hi : I64s vs) (h : ¬ (ws.length = vs.length ∧ SpanOk ws ∧ Fit ws vs)) :
    Calls Try.prog 24 #[.slice a ws.length cap, .slice a' vs.length cap'] w fun e w' => e = .returned (.tuple #[.int .u64 0, .int .i64 1]) ∧ w' = w := by
  by_cases h1 : ws.length = vs.length
  · by_cases h2 : SpanOk ws
    · exact pack_no_fit a a' cap cap' ws vs w hl h1 hc hc' hi h2 (fun h3 => h ⟨h1, h2, h3⟩)
    · exact pack_no_span a a' cap cap' ws vs w hl h1 hc h2
  · exact pack_no_len a a' cap cap' _ _ w h1
/-- A contract that takes the other slice's length as it is spelt. -/
theorem pack_len (a a' : Option Addr) (cap cap' n m : Nat) (ws vs : List Int) (w : World) (hn : n = ws.length) (hm : m = vs.length) (hl : ws.length ≤ 9223372036854775807) (hlen : ws.length = vs.length)
    (hc : IntsAt w a ws) (hc' : IntsAt w a' vs) (hi : I64s vs) (hs : SpanOk ws) (hf : Fit ws vs) :
    Calls Try.prog 24 #[.slice a n cap, .slice a' m cap'] w fun e w' => e = .returned (.tuple #[.int .u64 (packVal ws vs), .int .i64 0]) ∧ w' = w := by
  subst hn; subst hm
  exact pack_yes a a' cap cap' ws vs w hl hlen hc hc' hi hs hf

end Go.Proofs.Ytgnobaenlcbfjaa
