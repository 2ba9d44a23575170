import Derived.Test.YtimopcpbakanmaaGreatDoorP2f
set_option linter.all false
namespace Go.Proofs.YtimopcpbakanmaaGreatDoor
open Go Ex
theorem w234 : LawT [(s175, false), (s173, true)] (.ofNat 4) (.ofNat 0) (.ofNat 2) := fun τ => by kernel_rfl
theorem w235 : LawT [(s176, false), (s173, true)] (.ofNat 4) (.ofNat 0) (.ofNat 3) := fun τ => by kernel_rfl
theorem w236 : LawT [(s177, false), (s173, true)] (.ofNat 4) (.ofNat 0) (.ofNat 4) := fun τ => by kernel_rfl
theorem w237 : LawT [(s178, false), (s173, true)] (.ofNat 4) (.ofNat 0) (.ofNat 5) := fun τ => by kernel_rfl
theorem w238 (m : Nat) : LawT [] (.ofNat 4) (.ofNat 0) (.negSucc m) := fun τ => by kernel_rfl
theorem w239 (m : Nat) : LawT [] (.ofNat 4) (.ofNat 0) (.ofNat (Nat.succ (Nat.succ (Nat.succ (Nat.succ (Nat.succ (Nat.succ m))))))) := fun τ => by kernel_rfl
theorem w240 : LawT [(s179, false), (s173, true)] (.ofNat 4) (.ofNat 1) (.ofNat 0) := fun τ => by kernel_rfl
theorem w241 : LawT [(s180, false), (s173, true)] (.ofNat 4) (.ofNat 1) (.ofNat 1) := fun τ => by kernel_rfl
theorem w242 : LawT [(s181, false), (s173, true)] (.ofNat 4) (.ofNat 1) (.ofNat 2) := fun τ => by kernel_rfl
theorem w243 : LawT [(s182, false), (s173, true)] (.ofNat 4) (.ofNat 1) (.ofNat 3) := fun τ => by kernel_rfl
theorem w244 : LawT [(s183, false), (s173, true)] (.ofNat 4) (.ofNat 1) (.ofNat 4) := fun τ => by kernel_rfl
theorem w245 : LawT [(s184, false), (s173, true)] (.ofNat 4) (.ofNat 1) (.ofNat 5) := fun τ => by kernel_rfl
theorem w246 (m : Nat) : LawT [] (.ofNat 4) (.ofNat 1) (.negSucc m) := fun τ => by kernel_rfl
theorem w247 (m : Nat) : LawT [] (.ofNat 4) (.ofNat 1) (.ofNat (Nat.succ (Nat.succ (Nat.succ (Nat.succ (Nat.succ (Nat.succ m))))))) := fun τ => by kernel_rfl
theorem w248 : LawT [(s185, false), (s173, true)] (.ofNat 4) (.ofNat 2) (.ofNat 0) := fun τ => by kernel_rfl
theorem w249 : LawT [(s186, false), (s173, true)] (.ofNat 4) (.ofNat 2) (.ofNat 1) := fun τ => by kernel_rfl
theorem w250 : LawT [(s187, false), (s173, true)] (.ofNat 4) (.ofNat 2) (.ofNat 2) := fun τ => by kernel_rfl
theorem w251 : LawT [(s188, false), (s173, true)] (.ofNat 4) (.ofNat 2) (.ofNat 3) := fun τ => by kernel_rfl
theorem w252 : LawT [(s189, false), (s173, true)] (.ofNat 4) (.ofNat 2) (.ofNat 4) := fun τ => by kernel_rfl
theorem w253 : LawT [(s190, false), (s173, true)] (.ofNat 4) (.ofNat 2) (.ofNat 5) := fun τ => by kernel_rfl
theorem w254 (m : Nat) : LawT [] (.ofNat 4) (.ofNat 2) (.negSucc m) := fun τ => by kernel_rfl
theorem w255 (m : Nat) : LawT [] (.ofNat 4) (.ofNat 2) (.ofNat (Nat.succ (Nat.succ (Nat.succ (Nat.succ (Nat.succ (Nat.succ m))))))) := fun τ => by kernel_rfl
theorem w256 : LawT [(s191, false), (s173, true)] (.ofNat 4) (.ofNat 3) (.ofNat 0) := fun τ => by kernel_rfl
theorem w257 : LawT [(s192, false), (s173, true)] (.ofNat 4) (.ofNat 3) (.ofNat 1) := fun τ => by kernel_rfl
theorem w258 : LawT [(s193, false), (s173, true)] (.ofNat 4) (.ofNat 3) (.ofNat 2) := fun τ => by kernel_rfl
theorem w259 : LawT [(s194, false), (s173, true)] (.ofNat 4) (.ofNat 3) (.ofNat 3) := fun τ => by kernel_rfl
theorem w260 : LawT [(s195, false), (s173, true)] (.ofNat 4) (.ofNat 3) (.ofNat 4) := fun τ => by kernel_rfl
theorem w261 : LawT [(s196, false), (s173, true)] (.ofNat 4) (.ofNat 3) (.ofNat 5) := fun τ => by kernel_rfl
theorem w262 (m : Nat) : LawT [] (.ofNat 4) (.ofNat 3) (.negSucc m) := fun τ => by kernel_rfl
theorem w263 (m : Nat) : LawT [] (.ofNat 4) (.ofNat 3) (.ofNat (Nat.succ (Nat.succ (Nat.succ (Nat.succ (Nat.succ (Nat.succ m))))))) := fun τ => by kernel_rfl
theorem w264 : LawT [(s197, true), (s173, true)] (.ofNat 4) (.ofNat 4) (.ofNat 0) := fun τ => by kernel_rfl
theorem w265 : LawT [(s198, true), (s173, true)] (.ofNat 4) (.ofNat 4) (.ofNat 1) := fun τ => by kernel_rfl
theorem w266 : LawT [(s199, true), (s173, true)] (.ofNat 4) (.ofNat 4) (.ofNat 2) := fun τ => by kernel_rfl
theorem w267 : LawT [(s200, true), (s173, true)] (.ofNat 4) (.ofNat 4) (.ofNat 3) := fun τ => by kernel_rfl
theorem w268 : LawT [(s201, true), (s173, true)] (.ofNat 4) (.ofNat 4) (.ofNat 4) := fun τ => by kernel_rfl
theorem w269 : LawT [(s202, true), (s173, true)] (.ofNat 4) (.ofNat 4) (.ofNat 5) := fun τ => by kernel_rfl
theorem w270 (m : Nat) : LawT [] (.ofNat 4) (.ofNat 4) (.negSucc m) := fun τ => by kernel_rfl
theorem w271 (m : Nat) : LawT [] (.ofNat 4) (.ofNat 4) (.ofNat (Nat.succ (Nat.succ (Nat.succ (Nat.succ (Nat.succ (Nat.succ m))))))) := fun τ => by kernel_rfl
theorem w272 : LawT [(s203, false), (s173, true)] (.ofNat 4) (.ofNat 5) (.ofNat 0) := fun τ => by kernel_rfl
theorem w273 : LawT [(s204, false), (s173, true)] (.ofNat 4) (.ofNat 5) (.ofNat 1) := fun τ => by kernel_rfl
theorem w274 : LawT [(s205, false), (s173, true)] (.ofNat 4) (.ofNat 5) (.ofNat 2) := fun τ => by kernel_rfl
theorem w275 : LawT [(s206, false), (s173, true)] (.ofNat 4) (.ofNat 5) (.ofNat 3) := fun τ => by kernel_rfl
theorem w276 : LawT [(s207, false), (s173, true)] (.ofNat 4) (.ofNat 5) (.ofNat 4) := fun τ => by kernel_rfl
theorem w277 : LawT [(s208, false), (s173, true)] (.ofNat 4) (.ofNat 5) (.ofNat 5) := fun τ => by kernel_rfl
theorem w278 (m : Nat) : LawT [] (.ofNat 4) (.ofNat 5) (.negSucc m) := fun τ => by kernel_rfl
theorem w279 (m : Nat) : LawT [] (.ofNat 4) (.ofNat 5) (.ofNat (Nat.succ (Nat.succ (Nat.succ (Nat.succ (Nat.succ (Nat.succ m))))))) := fun τ => by kernel_rfl
theorem w280 : LawT [(s209, false), (s173, true)] (.ofNat 4) (.ofNat 6) (.ofNat 0) := fun τ => by kernel_rfl
theorem w281 : LawT [(s210, false), (s173, true)] (.ofNat 4) (.ofNat 6) (.ofNat 1) := fun τ => by kernel_rfl
theorem w282 : LawT [(s211, false), (s173, true)] (.ofNat 4) (.ofNat 6) (.ofNat 2) := fun τ => by kernel_rfl
theorem w283 : LawT [(s212, false), (s173, true)] (.ofNat 4) (.ofNat 6) (.ofNat 3) := fun τ => by kernel_rfl
theorem w284 : LawT [(s213, false), (s173, true)] (.ofNat 4) (.ofNat 6) (.ofNat 4) := fun τ => by kernel_rfl
theorem w285 : LawT [(s214, false), (s173, true)] (.ofNat 4) (.ofNat 6) (.ofNat 5) := fun τ => by kernel_rfl
theorem w286 (m : Nat) : LawT [] (.ofNat 4) (.ofNat 6) (.negSucc m) := fun τ => by kernel_rfl
theorem w287 (m : Nat) : LawT [] (.ofNat 4) (.ofNat 6) (.ofNat (Nat.succ (Nat.succ (Nat.succ (Nat.succ (Nat.succ (Nat.succ m))))))) := fun τ => by kernel_rfl
theorem w288 (m : Nat) (c : Int) : LawT [] (.ofNat 4) (.negSucc m) c := fun τ => by kernel_rfl
theorem w289 (m : Nat) (c : Int) : LawT [] (.ofNat 4) (.ofNat (Nat.succ (Nat.succ (Nat.succ (Nat.succ (Nat.succ (Nat.succ (Nat.succ m)))))))) c := fun τ => by kernel_rfl
theorem w290 : LawT [(s215, false), (s216, true)] (.ofNat 5) (.ofNat 0) (.ofNat 0) := fun τ => by kernel_rfl
theorem w291 : LawT [(s217, false), (s216, true)] (.ofNat 5) (.ofNat 0) (.ofNat 1) := fun τ => by kernel_rfl
theorem w292 : LawT [(s218, false), (s216, true)] (.ofNat 5) (.ofNat 0) (.ofNat 2) := fun τ => by kernel_rfl
theorem w293 : LawT [(s219, false), (s216, true)] (.ofNat 5) (.ofNat 0) (.ofNat 3) := fun τ => by kernel_rfl
theorem w294 : LawT [(s220, false), (s216, true)] (.ofNat 5) (.ofNat 0) (.ofNat 4) := fun τ => by kernel_rfl
theorem w295 : LawT [(s221, false), (s216, true)] (.ofNat 5) (.ofNat 0) (.ofNat 5) := fun τ => by kernel_rfl
theorem w296 (m : Nat) : LawT [] (.ofNat 5) (.ofNat 0) (.negSucc m) := fun τ => by kernel_rfl
theorem w297 (m : Nat) : LawT [] (.ofNat 5) (.ofNat 0) (.ofNat (Nat.succ (Nat.succ (Nat.succ (Nat.succ (Nat.succ (Nat.succ m))))))) := fun τ => by kernel_rfl
theorem w298 : LawT [(s222, false), (s216, true)] (.ofNat 5) (.ofNat 1) (.ofNat 0) := fun τ => by kernel_rfl
theorem w299 : LawT [(s223, false), (s216, true)] (.ofNat 5) (.ofNat 1) (.ofNat 1) := fun τ => by kernel_rfl
theorem w300 : LawT [(s224, false), (s216, true)] (.ofNat 5) (.ofNat 1) (.ofNat 2) := fun τ => by kernel_rfl
theorem w301 : LawT [(s225, false), (s216, true)] (.ofNat 5) (.ofNat 1) (.ofNat 3) := fun τ => by kernel_rfl
theorem w302 : LawT [(s226, false), (s216, true)] (.ofNat 5) (.ofNat 1) (.ofNat 4) := fun τ => by kernel_rfl
theorem w303 : LawT [(s227, false), (s216, true)] (.ofNat 5) (.ofNat 1) (.ofNat 5) := fun τ => by kernel_rfl
theorem w304 (m : Nat) : LawT [] (.ofNat 5) (.ofNat 1) (.negSucc m) := fun τ => by kernel_rfl
theorem w305 (m : Nat) : LawT [] (.ofNat 5) (.ofNat 1) (.ofNat (Nat.succ (Nat.succ (Nat.succ (Nat.succ (Nat.succ (Nat.succ m))))))) := fun τ => by kernel_rfl
theorem w306 : LawT [(s228, false), (s216, true)] (.ofNat 5) (.ofNat 2) (.ofNat 0) := fun τ => by kernel_rfl
theorem w307 : LawT [(s229, false), (s216, true)] (.ofNat 5) (.ofNat 2) (.ofNat 1) := fun τ => by kernel_rfl
theorem w308 : LawT [(s230, false), (s216, true)] (.ofNat 5) (.ofNat 2) (.ofNat 2) := fun τ => by kernel_rfl
theorem w309 : LawT [(s231, false), (s216, true)] (.ofNat 5) (.ofNat 2) (.ofNat 3) := fun τ => by kernel_rfl
theorem w310 : LawT [(s232, false), (s216, true)] (.ofNat 5) (.ofNat 2) (.ofNat 4) := fun τ => by kernel_rfl
theorem w311 : LawT [(s233, false), (s216, true)] (.ofNat 5) (.ofNat 2) (.ofNat 5) := fun τ => by kernel_rfl
theorem w312 (m : Nat) : LawT [] (.ofNat 5) (.ofNat 2) (.negSucc m) := fun τ => by kernel_rfl
theorem w313 (m : Nat) : LawT [] (.ofNat 5) (.ofNat 2) (.ofNat (Nat.succ (Nat.succ (Nat.succ (Nat.succ (Nat.succ (Nat.succ m))))))) := fun τ => by kernel_rfl
theorem w314 : LawT [(s234, false), (s216, true)] (.ofNat 5) (.ofNat 3) (.ofNat 0) := fun τ => by kernel_rfl
theorem w315 : LawT [(s235, false), (s216, true)] (.ofNat 5) (.ofNat 3) (.ofNat 1) := fun τ => by kernel_rfl
theorem w316 : LawT [(s236, false), (s216, true)] (.ofNat 5) (.ofNat 3) (.ofNat 2) := fun τ => by kernel_rfl
theorem w317 : LawT [(s237, false), (s216, true)] (.ofNat 5) (.ofNat 3) (.ofNat 3) := fun τ => by kernel_rfl
theorem w318 : LawT [(s238, false), (s216, true)] (.ofNat 5) (.ofNat 3) (.ofNat 4) := fun τ => by kernel_rfl
theorem w319 : LawT [(s239, false), (s216, true)] (.ofNat 5) (.ofNat 3) (.ofNat 5) := fun τ => by kernel_rfl
theorem w320 (m : Nat) : LawT [] (.ofNat 5) (.ofNat 3) (.negSucc m) := fun τ => by kernel_rfl
theorem w321 (m : Nat) : LawT [] (.ofNat 5) (.ofNat 3) (.ofNat (Nat.succ (Nat.succ (Nat.succ (Nat.succ (Nat.succ (Nat.succ m))))))) := fun τ => by kernel_rfl
theorem w322 : LawT [(s240, false), (s216, true)] (.ofNat 5) (.ofNat 4) (.ofNat 0) := fun τ => by kernel_rfl
theorem w323 : LawT [(s241, false), (s216, true)] (.ofNat 5) (.ofNat 4) (.ofNat 1) := fun τ => by kernel_rfl
theorem w324 : LawT [(s242, false), (s216, true)] (.ofNat 5) (.ofNat 4) (.ofNat 2) := fun τ => by kernel_rfl
theorem w325 : LawT [(s243, false), (s216, true)] (.ofNat 5) (.ofNat 4) (.ofNat 3) := fun τ => by kernel_rfl
theorem w326 : LawT [(s244, false), (s216, true)] (.ofNat 5) (.ofNat 4) (.ofNat 4) := fun τ => by kernel_rfl
theorem w327 : LawT [(s245, false), (s216, true)] (.ofNat 5) (.ofNat 4) (.ofNat 5) := fun τ => by kernel_rfl
theorem w328 (m : Nat) : LawT [] (.ofNat 5) (.ofNat 4) (.negSucc m) := fun τ => by kernel_rfl
theorem w329 (m : Nat) : LawT [] (.ofNat 5) (.ofNat 4) (.ofNat (Nat.succ (Nat.succ (Nat.succ (Nat.succ (Nat.succ (Nat.succ m))))))) := fun τ => by kernel_rfl
theorem w330 : LawT [(s246, true), (s216, true)] (.ofNat 5) (.ofNat 5) (.ofNat 0) := fun τ => by kernel_rfl
theorem w331 : LawT [(s247, true), (s216, true)] (.ofNat 5) (.ofNat 5) (.ofNat 1) := fun τ => by kernel_rfl
theorem w332 : LawT [(s248, true), (s216, true)] (.ofNat 5) (.ofNat 5) (.ofNat 2) := fun τ => by kernel_rfl
theorem w333 : LawT [(s249, true), (s216, true)] (.ofNat 5) (.ofNat 5) (.ofNat 3) := fun τ => by kernel_rfl
theorem w334 : LawT [(s250, true), (s216, true)] (.ofNat 5) (.ofNat 5) (.ofNat 4) := fun τ => by kernel_rfl
theorem w335 : LawT [(s251, true), (s216, true)] (.ofNat 5) (.ofNat 5) (.ofNat 5) := fun τ => by kernel_rfl
theorem w336 (m : Nat) : LawT [] (.ofNat 5) (.ofNat 5) (.negSucc m) := fun τ => by kernel_rfl
theorem w337 (m : Nat) : LawT [] (.ofNat 5) (.ofNat 5) (.ofNat (Nat.succ (Nat.succ (Nat.succ (Nat.succ (Nat.succ (Nat.succ m))))))) := fun τ => by kernel_rfl
theorem w338 : LawT [(s252, false), (s216, true)] (.ofNat 5) (.ofNat 6) (.ofNat 0) := fun τ => by kernel_rfl
theorem w339 : LawT [(s253, false), (s216, true)] (.ofNat 5) (.ofNat 6) (.ofNat 1) := fun τ => by kernel_rfl
theorem w340 : LawT [(s254, false), (s216, true)] (.ofNat 5) (.ofNat 6) (.ofNat 2) := fun τ => by kernel_rfl
theorem w341 : LawT [(s255, false), (s216, true)] (.ofNat 5) (.ofNat 6) (.ofNat 3) := fun τ => by kernel_rfl
theorem w342 : LawT [(s256, false), (s216, true)] (.ofNat 5) (.ofNat 6) (.ofNat 4) := fun τ => by kernel_rfl
theorem w343 : LawT [(s257, false), (s216, true)] (.ofNat 5) (.ofNat 6) (.ofNat 5) := fun τ => by kernel_rfl
theorem w344 (m : Nat) : LawT [] (.ofNat 5) (.ofNat 6) (.negSucc m) := fun τ => by kernel_rfl
theorem w345 (m : Nat) : LawT [] (.ofNat 5) (.ofNat 6) (.ofNat (Nat.succ (Nat.succ (Nat.succ (Nat.succ (Nat.succ (Nat.succ m))))))) := fun τ => by kernel_rfl
theorem w346 (m : Nat) (c : Int) : LawT [] (.ofNat 5) (.negSucc m) c := fun τ => by kernel_rfl
theorem w347 (m : Nat) (c : Int) : LawT [] (.ofNat 5) (.ofNat (Nat.succ (Nat.succ (Nat.succ (Nat.succ (Nat.succ (Nat.succ (Nat.succ m)))))))) c := fun τ => by kernel_rfl
theorem w348 : LawT [(s258, false), (s259, true)] (.ofNat 6) (.ofNat 0) (.ofNat 0) := fun τ => by kernel_rfl
theorem w349 : LawT [(s260, false), (s259, true)] (.ofNat 6) (.ofNat 0) (.ofNat 1) := fun τ => by kernel_rfl
theorem w350 : LawT [(s261, false), (s259, true)] (.ofNat 6) (.ofNat 0) (.ofNat 2) := fun τ => by kernel_rfl
end Go.Proofs.YtimopcpbakanmaaGreatDoor
