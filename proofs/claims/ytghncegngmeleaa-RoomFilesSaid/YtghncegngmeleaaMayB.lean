/- A name that may be. No program's function. -/
namespace Go.Proofs.Ytghncegngmeleaa
def mayB (n : List UInt8) : Bool := !n.isEmpty && (n != [46]) && (n != [46, 46]) && decide (n.length ≤ 255) && !n.contains 47 && !n.contains 0
end Go.Proofs.Ytghncegngmeleaa
