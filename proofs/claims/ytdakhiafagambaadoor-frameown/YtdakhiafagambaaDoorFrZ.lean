import Derived.Test.YtdakhiafagambaaDoorFrA
namespace Go.Proofs.YtdakhiafagambaaDoor
/-- the cells of a zero Reader -/
abbrev zRd : Array Value := #[.slice none 0 0, .int .i64 0]
end Go.Proofs.YtdakhiafagambaaDoor
