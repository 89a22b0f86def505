/- The document's blocks, as a type. -/
import Derived.Test.YtfbnidjcimcfoaaArenaMem
set_option linter.unusedVariables false
set_option linter.unusedSimpArgs false
namespace Go.Proofs.Ytfbnidjcimcfoaa
namespace Arn
open Go.RowKit Go.Maps
theorem info_blk : (Try.prog.info? 99).map (fun i => (i.zero, i.size, i.bytes)) = some (some (.agg #[.int .u64 0, .slice none 0 0]), 2, 32) := by kernel_rfl
theorem under_blks : Try.prog.underlying 28 = some (.slice 99) := by kernel_rfl
end Arn
end Go.Proofs.Ytfbnidjcimcfoaa
