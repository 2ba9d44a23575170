import Derived.Test.YtgckmkiiheaeaaaGreatDoorTxtP
namespace Go.Proofs.YtgckmkiiheaeaaaGreatDoor.Lx
def endT (ts : List Tok) (k : Int) : List Tok :=
 match ts.getLast? with
 | some t => if tokEnds t.kind t.text then ts ++ [⟨5, [59], 1, k⟩] else ts
 | none => ts
def nmK (t : List UInt8) : Int := if isWd t = true then 4 else 1
def nameF (l : List UInt8) (k : Nat) (ts : List Tok) : Sum Nat (Nat × List Tok) :=
 if 24 < runEnd isNam l k - k then .inl k else .inr (runEnd isNam l k, ts ++ [⟨nmK (sub l k (runEnd isNam l k)), sub l k (runEnd isNam l k), 0, k⟩])
def letAt (l : List UInt8) (k : Nat) : Bool := match l[k]? with | some c => isLet c | none => false
def numBad (t : List UInt8) : Bool := decide (18 < t.length) || (decide (1 < t.length) && t.head? == some 48)
def numF (l : List UInt8) (k : Nat) (ts : List Tok) : Sum Nat (Nat × List Tok) :=
 if numBad (sub l k (runEnd isDig l k)) = true then .inl k
 else if letAt l (runEnd isDig l k) = true then .inl (runEnd isDig l k)
 else .inr (runEnd isDig l k, ts ++ [⟨2, sub l k (runEnd isDig l k), numV (sub l k (runEnd isDig l k)), k⟩])
def textF (l : List UInt8) (k : Nat) (ts : List Tok) : Sum Nat (Nat × List Tok) :=
 match txt (l.drop (k + 1)) with
 | (none, n) => .inl (k + 1 + n)
 | (some m, n) => if 256 < m.length then .inl k else .inr (k + 1 + n, ts ++ [⟨3, m, 0, k⟩])
def markF (l : List UInt8) (k : Nat) (ts : List Tok) : Sum Nat (Nat × List Tok) :=
 if mLen (l.drop k) = 0 then .inl k else .inr (k + mLen (l.drop k), ts ++ [⟨5, sub l k (k + mLen (l.drop k)), 0, k⟩])
def partF (l : List UInt8) (k : Nat) (ts : List Tok) : Sum Nat (Nat × List Tok) :=
 match l[k]? with
 | none => .inl 0
 | some c =>
   if c = 32 ∨ c = 9 then .inr (k + 1, ts)
   else if c = 10 then .inr (k + 1, endT ts k)
   else if cmt l k = true then .inr (runEnd notNl l k, ts)
   else if isLet c = true then nameF l k ts
   else if isDig c = true then numF l k ts
   else if c = 34 then textF l k ts
   else markF l k ts
end Go.Proofs.YtgckmkiiheaeaaaGreatDoor.Lx
