/- A token has a byte at least, and lies in the text. -/
import Derived.Test.YtkjcbaikebdmmaaDoorJ9
namespace Go.Proofs.YtkjcbaikebdmmaaDoor
open Go.RowKit Go.BigM
theorem tokOf_pos {l : List UInt8} {k : Int} {t : ByteArray} {m : Nat} (h : tokOf l = some (k, t, m)) : 1 ≤ m := by
  unfold tokOf at h
  split at h
  · cases hb : boolOf l with
    | none => rw [hb] at h; cases h
    | some b => rw [hb] at h; injection h with h; injection h with _ h; injection h with _ h; omega
  · split at h
    · cases h
    · split at h
      · split at h
        · injection h with h; injection h with _ h; injection h with _ h; omega
        · cases h
      · split at h
        · cases h
        · injection h with h; injection h with _ h; injection h with _ h; omega
end Go.Proofs.YtkjcbaikebdmmaaDoor
