import Derived.Test.YtgckmkiiheaeaaaGreatDoorScanQ
namespace Go.Proofs.YtgckmkiiheaeaaaGreatDoor.Lx
def opens (t : List UInt8) : Bool := t == [40] || t == [91] || t == [123]
def closes (t : List UInt8) : Bool := t == [41] || t == [93] || t == [125]
def openAft (o : Int) (t : Tok) : Int := if t.kind = 5 then (if opens t.text = true then o + 1 else if closes t.text = true then max (o - 1) 0 else o) else o
def deepF : Int → List Tok → Option Int
 | _, [] => none
 | o, t :: r => if t.kind = 5 ∧ 40 < openAft o t then some t.pos else deepF (openAft o t) r
end Go.Proofs.YtgckmkiiheaeaaaGreatDoor.Lx
