import Derived.Test.YtimopcpbakanmaaGreatDoorP2f
set_option linter.all false
namespace Go.Proofs.YtimopcpbakanmaaGreatDoor
open Go Ex
theorem w117 : LawT [(s88, false), (s87, true)] (.ofNat 2) (.ofNat 0) (.ofNat 1) := fun τ => by kernel_rfl
theorem w118 : LawT [(s89, false), (s87, true)] (.ofNat 2) (.ofNat 0) (.ofNat 2) := fun τ => by kernel_rfl
theorem w119 : LawT [(s90, false), (s87, true)] (.ofNat 2) (.ofNat 0) (.ofNat 3) := fun τ => by kernel_rfl
theorem w120 : LawT [(s91, false), (s87, true)] (.ofNat 2) (.ofNat 0) (.ofNat 4) := fun τ => by kernel_rfl
theorem w121 : LawT [(s92, false), (s87, true)] (.ofNat 2) (.ofNat 0) (.ofNat 5) := fun τ => by kernel_rfl
theorem w122 (m : Nat) : LawT [] (.ofNat 2) (.ofNat 0) (.negSucc m) := fun τ => by kernel_rfl
theorem w123 (m : Nat) : LawT [] (.ofNat 2) (.ofNat 0) (.ofNat (Nat.succ (Nat.succ (Nat.succ (Nat.succ (Nat.succ (Nat.succ m))))))) := fun τ => by kernel_rfl
theorem w124 : LawT [(s93, false), (s87, true)] (.ofNat 2) (.ofNat 1) (.ofNat 0) := fun τ => by kernel_rfl
theorem w125 : LawT [(s94, false), (s87, true)] (.ofNat 2) (.ofNat 1) (.ofNat 1) := fun τ => by kernel_rfl
theorem w126 : LawT [(s95, false), (s87, true)] (.ofNat 2) (.ofNat 1) (.ofNat 2) := fun τ => by kernel_rfl
theorem w127 : LawT [(s96, false), (s87, true)] (.ofNat 2) (.ofNat 1) (.ofNat 3) := fun τ => by kernel_rfl
theorem w128 : LawT [(s97, false), (s87, true)] (.ofNat 2) (.ofNat 1) (.ofNat 4) := fun τ => by kernel_rfl
theorem w129 : LawT [(s98, false), (s87, true)] (.ofNat 2) (.ofNat 1) (.ofNat 5) := fun τ => by kernel_rfl
theorem w130 (m : Nat) : LawT [] (.ofNat 2) (.ofNat 1) (.negSucc m) := fun τ => by kernel_rfl
theorem w131 (m : Nat) : LawT [] (.ofNat 2) (.ofNat 1) (.ofNat (Nat.succ (Nat.succ (Nat.succ (Nat.succ (Nat.succ (Nat.succ m))))))) := fun τ => by kernel_rfl
theorem w132 : LawT [(s99, true), (s87, true)] (.ofNat 2) (.ofNat 2) (.ofNat 0) := fun τ => by kernel_rfl
theorem w133 : LawT [(s100, true), (s87, true)] (.ofNat 2) (.ofNat 2) (.ofNat 1) := fun τ => by kernel_rfl
theorem w134 : LawT [(s101, true), (s87, true)] (.ofNat 2) (.ofNat 2) (.ofNat 2) := fun τ => by kernel_rfl
theorem w135 : LawT [(s102, true), (s87, true)] (.ofNat 2) (.ofNat 2) (.ofNat 3) := fun τ => by kernel_rfl
theorem w136 : LawT [(s103, true), (s87, true)] (.ofNat 2) (.ofNat 2) (.ofNat 4) := fun τ => by kernel_rfl
theorem w137 : LawT [(s104, true), (s87, true)] (.ofNat 2) (.ofNat 2) (.ofNat 5) := fun τ => by kernel_rfl
theorem w138 (m : Nat) : LawT [] (.ofNat 2) (.ofNat 2) (.negSucc m) := fun τ => by kernel_rfl
theorem w139 (m : Nat) : LawT [] (.ofNat 2) (.ofNat 2) (.ofNat (Nat.succ (Nat.succ (Nat.succ (Nat.succ (Nat.succ (Nat.succ m))))))) := fun τ => by kernel_rfl
theorem w140 : LawT [(s105, false), (s87, true)] (.ofNat 2) (.ofNat 3) (.ofNat 0) := fun τ => by kernel_rfl
theorem w141 : LawT [(s106, false), (s87, true)] (.ofNat 2) (.ofNat 3) (.ofNat 1) := fun τ => by kernel_rfl
theorem w142 : LawT [(s107, false), (s87, true)] (.ofNat 2) (.ofNat 3) (.ofNat 2) := fun τ => by kernel_rfl
theorem w143 : LawT [(s108, false), (s87, true)] (.ofNat 2) (.ofNat 3) (.ofNat 3) := fun τ => by kernel_rfl
theorem w144 : LawT [(s109, false), (s87, true)] (.ofNat 2) (.ofNat 3) (.ofNat 4) := fun τ => by kernel_rfl
theorem w145 : LawT [(s110, false), (s87, true)] (.ofNat 2) (.ofNat 3) (.ofNat 5) := fun τ => by kernel_rfl
theorem w146 (m : Nat) : LawT [] (.ofNat 2) (.ofNat 3) (.negSucc m) := fun τ => by kernel_rfl
theorem w147 (m : Nat) : LawT [] (.ofNat 2) (.ofNat 3) (.ofNat (Nat.succ (Nat.succ (Nat.succ (Nat.succ (Nat.succ (Nat.succ m))))))) := fun τ => by kernel_rfl
theorem w148 : LawT [(s111, false), (s87, true)] (.ofNat 2) (.ofNat 4) (.ofNat 0) := fun τ => by kernel_rfl
theorem w149 : LawT [(s112, false), (s87, true)] (.ofNat 2) (.ofNat 4) (.ofNat 1) := fun τ => by kernel_rfl
theorem w150 : LawT [(s113, false), (s87, true)] (.ofNat 2) (.ofNat 4) (.ofNat 2) := fun τ => by kernel_rfl
theorem w151 : LawT [(s114, false), (s87, true)] (.ofNat 2) (.ofNat 4) (.ofNat 3) := fun τ => by kernel_rfl
theorem w152 : LawT [(s115, false), (s87, true)] (.ofNat 2) (.ofNat 4) (.ofNat 4) := fun τ => by kernel_rfl
theorem w153 : LawT [(s116, false), (s87, true)] (.ofNat 2) (.ofNat 4) (.ofNat 5) := fun τ => by kernel_rfl
theorem w154 (m : Nat) : LawT [] (.ofNat 2) (.ofNat 4) (.negSucc m) := fun τ => by kernel_rfl
theorem w155 (m : Nat) : LawT [] (.ofNat 2) (.ofNat 4) (.ofNat (Nat.succ (Nat.succ (Nat.succ (Nat.succ (Nat.succ (Nat.succ m))))))) := fun τ => by kernel_rfl
theorem w156 : LawT [(s117, false), (s87, true)] (.ofNat 2) (.ofNat 5) (.ofNat 0) := fun τ => by kernel_rfl
theorem w157 : LawT [(s118, false), (s87, true)] (.ofNat 2) (.ofNat 5) (.ofNat 1) := fun τ => by kernel_rfl
theorem w158 : LawT [(s119, false), (s87, true)] (.ofNat 2) (.ofNat 5) (.ofNat 2) := fun τ => by kernel_rfl
theorem w159 : LawT [(s120, false), (s87, true)] (.ofNat 2) (.ofNat 5) (.ofNat 3) := fun τ => by kernel_rfl
theorem w160 : LawT [(s121, false), (s87, true)] (.ofNat 2) (.ofNat 5) (.ofNat 4) := fun τ => by kernel_rfl
theorem w161 : LawT [(s122, false), (s87, true)] (.ofNat 2) (.ofNat 5) (.ofNat 5) := fun τ => by kernel_rfl
theorem w162 (m : Nat) : LawT [] (.ofNat 2) (.ofNat 5) (.negSucc m) := fun τ => by kernel_rfl
theorem w163 (m : Nat) : LawT [] (.ofNat 2) (.ofNat 5) (.ofNat (Nat.succ (Nat.succ (Nat.succ (Nat.succ (Nat.succ (Nat.succ m))))))) := fun τ => by kernel_rfl
theorem w164 : LawT [(s123, false), (s87, true)] (.ofNat 2) (.ofNat 6) (.ofNat 0) := fun τ => by kernel_rfl
theorem w165 : LawT [(s124, false), (s87, true)] (.ofNat 2) (.ofNat 6) (.ofNat 1) := fun τ => by kernel_rfl
theorem w166 : LawT [(s125, false), (s87, true)] (.ofNat 2) (.ofNat 6) (.ofNat 2) := fun τ => by kernel_rfl
theorem w167 : LawT [(s126, false), (s87, true)] (.ofNat 2) (.ofNat 6) (.ofNat 3) := fun τ => by kernel_rfl
theorem w168 : LawT [(s127, false), (s87, true)] (.ofNat 2) (.ofNat 6) (.ofNat 4) := fun τ => by kernel_rfl
theorem w169 : LawT [(s128, false), (s87, true)] (.ofNat 2) (.ofNat 6) (.ofNat 5) := fun τ => by kernel_rfl
theorem w170 (m : Nat) : LawT [] (.ofNat 2) (.ofNat 6) (.negSucc m) := fun τ => by kernel_rfl
theorem w171 (m : Nat) : LawT [] (.ofNat 2) (.ofNat 6) (.ofNat (Nat.succ (Nat.succ (Nat.succ (Nat.succ (Nat.succ (Nat.succ m))))))) := fun τ => by kernel_rfl
theorem w172 (m : Nat) (c : Int) : LawT [] (.ofNat 2) (.negSucc m) c := fun τ => by kernel_rfl
theorem w173 (m : Nat) (c : Int) : LawT [] (.ofNat 2) (.ofNat (Nat.succ (Nat.succ (Nat.succ (Nat.succ (Nat.succ (Nat.succ (Nat.succ m)))))))) c := fun τ => by kernel_rfl
theorem w174 : LawT [(s129, false), (s130, true)] (.ofNat 3) (.ofNat 0) (.ofNat 0) := fun τ => by kernel_rfl
theorem w175 : LawT [(s131, false), (s130, true)] (.ofNat 3) (.ofNat 0) (.ofNat 1) := fun τ => by kernel_rfl
theorem w176 : LawT [(s132, false), (s130, true)] (.ofNat 3) (.ofNat 0) (.ofNat 2) := fun τ => by kernel_rfl
theorem w177 : LawT [(s133, false), (s130, true)] (.ofNat 3) (.ofNat 0) (.ofNat 3) := fun τ => by kernel_rfl
theorem w178 : LawT [(s134, false), (s130, true)] (.ofNat 3) (.ofNat 0) (.ofNat 4) := fun τ => by kernel_rfl
theorem w179 : LawT [(s135, false), (s130, true)] (.ofNat 3) (.ofNat 0) (.ofNat 5) := fun τ => by kernel_rfl
theorem w180 (m : Nat) : LawT [] (.ofNat 3) (.ofNat 0) (.negSucc m) := fun τ => by kernel_rfl
theorem w181 (m : Nat) : LawT [] (.ofNat 3) (.ofNat 0) (.ofNat (Nat.succ (Nat.succ (Nat.succ (Nat.succ (Nat.succ (Nat.succ m))))))) := fun τ => by kernel_rfl
theorem w182 : LawT [(s136, false), (s130, true)] (.ofNat 3) (.ofNat 1) (.ofNat 0) := fun τ => by kernel_rfl
theorem w183 : LawT [(s137, false), (s130, true)] (.ofNat 3) (.ofNat 1) (.ofNat 1) := fun τ => by kernel_rfl
theorem w184 : LawT [(s138, false), (s130, true)] (.ofNat 3) (.ofNat 1) (.ofNat 2) := fun τ => by kernel_rfl
theorem w185 : LawT [(s139, false), (s130, true)] (.ofNat 3) (.ofNat 1) (.ofNat 3) := fun τ => by kernel_rfl
theorem w186 : LawT [(s140, false), (s130, true)] (.ofNat 3) (.ofNat 1) (.ofNat 4) := fun τ => by kernel_rfl
theorem w187 : LawT [(s141, false), (s130, true)] (.ofNat 3) (.ofNat 1) (.ofNat 5) := fun τ => by kernel_rfl
theorem w188 (m : Nat) : LawT [] (.ofNat 3) (.ofNat 1) (.negSucc m) := fun τ => by kernel_rfl
theorem w189 (m : Nat) : LawT [] (.ofNat 3) (.ofNat 1) (.ofNat (Nat.succ (Nat.succ (Nat.succ (Nat.succ (Nat.succ (Nat.succ m))))))) := fun τ => by kernel_rfl
theorem w190 : LawT [(s142, false), (s130, true)] (.ofNat 3) (.ofNat 2) (.ofNat 0) := fun τ => by kernel_rfl
theorem w191 : LawT [(s143, false), (s130, true)] (.ofNat 3) (.ofNat 2) (.ofNat 1) := fun τ => by kernel_rfl
theorem w192 : LawT [(s144, false), (s130, true)] (.ofNat 3) (.ofNat 2) (.ofNat 2) := fun τ => by kernel_rfl
theorem w193 : LawT [(s145, false), (s130, true)] (.ofNat 3) (.ofNat 2) (.ofNat 3) := fun τ => by kernel_rfl
theorem w194 : LawT [(s146, false), (s130, true)] (.ofNat 3) (.ofNat 2) (.ofNat 4) := fun τ => by kernel_rfl
theorem w195 : LawT [(s147, false), (s130, true)] (.ofNat 3) (.ofNat 2) (.ofNat 5) := fun τ => by kernel_rfl
theorem w196 (m : Nat) : LawT [] (.ofNat 3) (.ofNat 2) (.negSucc m) := fun τ => by kernel_rfl
theorem w197 (m : Nat) : LawT [] (.ofNat 3) (.ofNat 2) (.ofNat (Nat.succ (Nat.succ (Nat.succ (Nat.succ (Nat.succ (Nat.succ m))))))) := fun τ => by kernel_rfl
theorem w198 : LawT [(s148, true), (s130, true)] (.ofNat 3) (.ofNat 3) (.ofNat 0) := fun τ => by kernel_rfl
theorem w199 : LawT [(s149, true), (s130, true)] (.ofNat 3) (.ofNat 3) (.ofNat 1) := fun τ => by kernel_rfl
theorem w200 : LawT [(s150, true), (s130, true)] (.ofNat 3) (.ofNat 3) (.ofNat 2) := fun τ => by kernel_rfl
theorem w201 : LawT [(s151, true), (s130, true)] (.ofNat 3) (.ofNat 3) (.ofNat 3) := fun τ => by kernel_rfl
theorem w202 : LawT [(s152, true), (s130, true)] (.ofNat 3) (.ofNat 3) (.ofNat 4) := fun τ => by kernel_rfl
theorem w203 : LawT [(s153, true), (s130, true)] (.ofNat 3) (.ofNat 3) (.ofNat 5) := fun τ => by kernel_rfl
theorem w204 (m : Nat) : LawT [] (.ofNat 3) (.ofNat 3) (.negSucc m) := fun τ => by kernel_rfl
theorem w205 (m : Nat) : LawT [] (.ofNat 3) (.ofNat 3) (.ofNat (Nat.succ (Nat.succ (Nat.succ (Nat.succ (Nat.succ (Nat.succ m))))))) := fun τ => by kernel_rfl
theorem w206 : LawT [(s154, false), (s130, true)] (.ofNat 3) (.ofNat 4) (.ofNat 0) := fun τ => by kernel_rfl
theorem w207 : LawT [(s155, false), (s130, true)] (.ofNat 3) (.ofNat 4) (.ofNat 1) := fun τ => by kernel_rfl
theorem w208 : LawT [(s156, false), (s130, true)] (.ofNat 3) (.ofNat 4) (.ofNat 2) := fun τ => by kernel_rfl
theorem w209 : LawT [(s157, false), (s130, true)] (.ofNat 3) (.ofNat 4) (.ofNat 3) := fun τ => by kernel_rfl
theorem w210 : LawT [(s158, false), (s130, true)] (.ofNat 3) (.ofNat 4) (.ofNat 4) := fun τ => by kernel_rfl
theorem w211 : LawT [(s159, false), (s130, true)] (.ofNat 3) (.ofNat 4) (.ofNat 5) := fun τ => by kernel_rfl
theorem w212 (m : Nat) : LawT [] (.ofNat 3) (.ofNat 4) (.negSucc m) := fun τ => by kernel_rfl
theorem w213 (m : Nat) : LawT [] (.ofNat 3) (.ofNat 4) (.ofNat (Nat.succ (Nat.succ (Nat.succ (Nat.succ (Nat.succ (Nat.succ m))))))) := fun τ => by kernel_rfl
theorem w214 : LawT [(s160, false), (s130, true)] (.ofNat 3) (.ofNat 5) (.ofNat 0) := fun τ => by kernel_rfl
theorem w215 : LawT [(s161, false), (s130, true)] (.ofNat 3) (.ofNat 5) (.ofNat 1) := fun τ => by kernel_rfl
theorem w216 : LawT [(s162, false), (s130, true)] (.ofNat 3) (.ofNat 5) (.ofNat 2) := fun τ => by kernel_rfl
theorem w217 : LawT [(s163, false), (s130, true)] (.ofNat 3) (.ofNat 5) (.ofNat 3) := fun τ => by kernel_rfl
theorem w218 : LawT [(s164, false), (s130, true)] (.ofNat 3) (.ofNat 5) (.ofNat 4) := fun τ => by kernel_rfl
theorem w219 : LawT [(s165, false), (s130, true)] (.ofNat 3) (.ofNat 5) (.ofNat 5) := fun τ => by kernel_rfl
theorem w220 (m : Nat) : LawT [] (.ofNat 3) (.ofNat 5) (.negSucc m) := fun τ => by kernel_rfl
theorem w221 (m : Nat) : LawT [] (.ofNat 3) (.ofNat 5) (.ofNat (Nat.succ (Nat.succ (Nat.succ (Nat.succ (Nat.succ (Nat.succ m))))))) := fun τ => by kernel_rfl
theorem w222 : LawT [(s166, false), (s130, true)] (.ofNat 3) (.ofNat 6) (.ofNat 0) := fun τ => by kernel_rfl
theorem w223 : LawT [(s167, false), (s130, true)] (.ofNat 3) (.ofNat 6) (.ofNat 1) := fun τ => by kernel_rfl
theorem w224 : LawT [(s168, false), (s130, true)] (.ofNat 3) (.ofNat 6) (.ofNat 2) := fun τ => by kernel_rfl
theorem w225 : LawT [(s169, false), (s130, true)] (.ofNat 3) (.ofNat 6) (.ofNat 3) := fun τ => by kernel_rfl
theorem w226 : LawT [(s170, false), (s130, true)] (.ofNat 3) (.ofNat 6) (.ofNat 4) := fun τ => by kernel_rfl
theorem w227 : LawT [(s171, false), (s130, true)] (.ofNat 3) (.ofNat 6) (.ofNat 5) := fun τ => by kernel_rfl
theorem w228 (m : Nat) : LawT [] (.ofNat 3) (.ofNat 6) (.negSucc m) := fun τ => by kernel_rfl
theorem w229 (m : Nat) : LawT [] (.ofNat 3) (.ofNat 6) (.ofNat (Nat.succ (Nat.succ (Nat.succ (Nat.succ (Nat.succ (Nat.succ m))))))) := fun τ => by kernel_rfl
theorem w230 (m : Nat) (c : Int) : LawT [] (.ofNat 3) (.negSucc m) c := fun τ => by kernel_rfl
theorem w231 (m : Nat) (c : Int) : LawT [] (.ofNat 3) (.ofNat (Nat.succ (Nat.succ (Nat.succ (Nat.succ (Nat.succ (Nat.succ (Nat.succ m)))))))) c := fun τ => by kernel_rfl
theorem w232 : LawT [(s172, false), (s173, true)] (.ofNat 4) (.ofNat 0) (.ofNat 0) := fun τ => by kernel_rfl
theorem w233 : LawT [(s174, false), (s173, true)] (.ofNat 4) (.ofNat 0) (.ofNat 1) := fun τ => by kernel_rfl
end Go.Proofs.YtimopcpbakanmaaGreatDoor
