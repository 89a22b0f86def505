/- The document's blocks, as a type. -/
import Derived.Test.YthnmnpjjpckeeaaArenaMem
set_option linter.unusedVariables false
set_option linter.unusedSimpArgs false
namespace Go.Proofs.Ythnmnpjjpckeeaa
namespace Arn
open Go.RowKit Go.Maps
theorem info_blk : (Try.prog.info? 92).map (fun i => (i.zero, i.size, i.bytes)) = some (some (.agg #[.int .u64 0, .slice none 0 0]), 2, 32) := by kernel_rfl
theorem under_blks : Try.prog.underlying 27 = some (.slice 92) := by kernel_rfl
end Arn
end Go.Proofs.Ythnmnpjjpckeeaa
