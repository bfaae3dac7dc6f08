/- Layer 2: the reference's field, as a row of the table. -/
import Derived.Test.YtiniicehfjgpgaaGreatRows
import Derived.WalkKit
namespace Go.Proofs.YtiniicehfjgpgaaGreat
open Go.RowKit
theorem infoRField : (Tryz.prog.info? 83).map (fun i => (i.zero, i.size, i.bytes)) = some (some (.agg #[.int .i64 0, .int .i64 0, .int .u64 0, .string ⟨#[]⟩]), 4, 40) := by kernel_rfl
end Go.Proofs.YtiniicehfjgpgaaGreat
