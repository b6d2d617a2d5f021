/- What a bit does to the counts of a byte: 2048 cases. -/
import Derived.Lib.BitFns
namespace Go.Proofs.YtilacnfcohlbnaaDoor
theorem bit0 : ∀ d < 256, ∀ j < 8, d / 2 ^ j % 2 = 0 → d % 2 ^ (j + 1) = d % 2 ^ j := by decide +kernel
theorem bit1a : ∀ d < 256, ∀ j < 8, d / 2 ^ j % 2 = 1 → Lib.onesCount (d % 2 ^ (j + 1)) = Lib.onesCount (d % 2 ^ j) + 1 := by decide +kernel
theorem bit1b : ∀ d < 256, ∀ j < 8, d / 2 ^ j % 2 = 1 → Lib.bitLen (d % 2 ^ (j + 1)) = j + 1 := by decide +kernel
theorem bit1c : ∀ d < 256, ∀ j < 8, d / 2 ^ j % 2 = 1 → d % 2 ^ (j + 1) ≠ 0 := by decide +kernel
theorem bit1d : ∀ d < 256, ∀ j < 8, d / 2 ^ j % 2 = 1 → d % 2 ^ j = 0 → Lib.trailingZeros8 (d % 2 ^ (j + 1)) = j := by decide +kernel
theorem bit1e : ∀ d < 256, ∀ j < 8, d / 2 ^ j % 2 = 1 → d % 2 ^ j ≠ 0 → Lib.trailingZeros8 (d % 2 ^ (j + 1)) = Lib.trailingZeros8 (d % 2 ^ j) := by decide +kernel
end Go.Proofs.YtilacnfcohlbnaaDoor
