import Derived.Test.YtimopcpbakanmaaGreatDoorP2f
set_option linter.all false
namespace Go.Proofs.YtimopcpbakanmaaGreatDoor
open Go Ex
theorem w351 : LawT [(s262, false), (s259, true)] (.ofNat 6) (.ofNat 0) (.ofNat 3) := fun τ => by kernel_rfl
theorem w352 : LawT [(s263, false), (s259, true)] (.ofNat 6) (.ofNat 0) (.ofNat 4) := fun τ => by kernel_rfl
theorem w353 : LawT [(s264, false), (s259, true)] (.ofNat 6) (.ofNat 0) (.ofNat 5) := fun τ => by kernel_rfl
theorem w354 (m : Nat) : LawT [] (.ofNat 6) (.ofNat 0) (.negSucc m) := fun τ => by kernel_rfl
theorem w355 (m : Nat) : LawT [] (.ofNat 6) (.ofNat 0) (.ofNat (Nat.succ (Nat.succ (Nat.succ (Nat.succ (Nat.succ (Nat.succ m))))))) := fun τ => by kernel_rfl
theorem w356 : LawT [(s265, false), (s259, true)] (.ofNat 6) (.ofNat 1) (.ofNat 0) := fun τ => by kernel_rfl
theorem w357 : LawT [(s266, false), (s259, true)] (.ofNat 6) (.ofNat 1) (.ofNat 1) := fun τ => by kernel_rfl
theorem w358 : LawT [(s267, false), (s259, true)] (.ofNat 6) (.ofNat 1) (.ofNat 2) := fun τ => by kernel_rfl
theorem w359 : LawT [(s268, false), (s259, true)] (.ofNat 6) (.ofNat 1) (.ofNat 3) := fun τ => by kernel_rfl
theorem w360 : LawT [(s269, false), (s259, true)] (.ofNat 6) (.ofNat 1) (.ofNat 4) := fun τ => by kernel_rfl
theorem w361 : LawT [(s270, false), (s259, true)] (.ofNat 6) (.ofNat 1) (.ofNat 5) := fun τ => by kernel_rfl
theorem w362 (m : Nat) : LawT [] (.ofNat 6) (.ofNat 1) (.negSucc m) := fun τ => by kernel_rfl
theorem w363 (m : Nat) : LawT [] (.ofNat 6) (.ofNat 1) (.ofNat (Nat.succ (Nat.succ (Nat.succ (Nat.succ (Nat.succ (Nat.succ m))))))) := fun τ => by kernel_rfl
theorem w364 : LawT [(s271, false), (s259, true)] (.ofNat 6) (.ofNat 2) (.ofNat 0) := fun τ => by kernel_rfl
theorem w365 : LawT [(s272, false), (s259, true)] (.ofNat 6) (.ofNat 2) (.ofNat 1) := fun τ => by kernel_rfl
theorem w366 : LawT [(s273, false), (s259, true)] (.ofNat 6) (.ofNat 2) (.ofNat 2) := fun τ => by kernel_rfl
theorem w367 : LawT [(s274, false), (s259, true)] (.ofNat 6) (.ofNat 2) (.ofNat 3) := fun τ => by kernel_rfl
theorem w368 : LawT [(s275, false), (s259, true)] (.ofNat 6) (.ofNat 2) (.ofNat 4) := fun τ => by kernel_rfl
theorem w369 : LawT [(s276, false), (s259, true)] (.ofNat 6) (.ofNat 2) (.ofNat 5) := fun τ => by kernel_rfl
theorem w370 (m : Nat) : LawT [] (.ofNat 6) (.ofNat 2) (.negSucc m) := fun τ => by kernel_rfl
theorem w371 (m : Nat) : LawT [] (.ofNat 6) (.ofNat 2) (.ofNat (Nat.succ (Nat.succ (Nat.succ (Nat.succ (Nat.succ (Nat.succ m))))))) := fun τ => by kernel_rfl
theorem w372 : LawT [(s277, false), (s259, true)] (.ofNat 6) (.ofNat 3) (.ofNat 0) := fun τ => by kernel_rfl
theorem w373 : LawT [(s278, false), (s259, true)] (.ofNat 6) (.ofNat 3) (.ofNat 1) := fun τ => by kernel_rfl
theorem w374 : LawT [(s279, false), (s259, true)] (.ofNat 6) (.ofNat 3) (.ofNat 2) := fun τ => by kernel_rfl
theorem w375 : LawT [(s280, false), (s259, true)] (.ofNat 6) (.ofNat 3) (.ofNat 3) := fun τ => by kernel_rfl
theorem w376 : LawT [(s281, false), (s259, true)] (.ofNat 6) (.ofNat 3) (.ofNat 4) := fun τ => by kernel_rfl
theorem w377 : LawT [(s282, false), (s259, true)] (.ofNat 6) (.ofNat 3) (.ofNat 5) := fun τ => by kernel_rfl
theorem w378 (m : Nat) : LawT [] (.ofNat 6) (.ofNat 3) (.negSucc m) := fun τ => by kernel_rfl
theorem w379 (m : Nat) : LawT [] (.ofNat 6) (.ofNat 3) (.ofNat (Nat.succ (Nat.succ (Nat.succ (Nat.succ (Nat.succ (Nat.succ m))))))) := fun τ => by kernel_rfl
theorem w380 : LawT [(s283, false), (s259, true)] (.ofNat 6) (.ofNat 4) (.ofNat 0) := fun τ => by kernel_rfl
theorem w381 : LawT [(s284, false), (s259, true)] (.ofNat 6) (.ofNat 4) (.ofNat 1) := fun τ => by kernel_rfl
theorem w382 : LawT [(s285, false), (s259, true)] (.ofNat 6) (.ofNat 4) (.ofNat 2) := fun τ => by kernel_rfl
theorem w383 : LawT [(s286, false), (s259, true)] (.ofNat 6) (.ofNat 4) (.ofNat 3) := fun τ => by kernel_rfl
theorem w384 : LawT [(s287, false), (s259, true)] (.ofNat 6) (.ofNat 4) (.ofNat 4) := fun τ => by kernel_rfl
theorem w385 : LawT [(s288, false), (s259, true)] (.ofNat 6) (.ofNat 4) (.ofNat 5) := fun τ => by kernel_rfl
theorem w386 (m : Nat) : LawT [] (.ofNat 6) (.ofNat 4) (.negSucc m) := fun τ => by kernel_rfl
theorem w387 (m : Nat) : LawT [] (.ofNat 6) (.ofNat 4) (.ofNat (Nat.succ (Nat.succ (Nat.succ (Nat.succ (Nat.succ (Nat.succ m))))))) := fun τ => by kernel_rfl
theorem w388 : LawT [(s289, false), (s259, true)] (.ofNat 6) (.ofNat 5) (.ofNat 0) := fun τ => by kernel_rfl
theorem w389 : LawT [(s290, false), (s259, true)] (.ofNat 6) (.ofNat 5) (.ofNat 1) := fun τ => by kernel_rfl
theorem w390 : LawT [(s291, false), (s259, true)] (.ofNat 6) (.ofNat 5) (.ofNat 2) := fun τ => by kernel_rfl
theorem w391 : LawT [(s292, false), (s259, true)] (.ofNat 6) (.ofNat 5) (.ofNat 3) := fun τ => by kernel_rfl
theorem w392 : LawT [(s293, false), (s259, true)] (.ofNat 6) (.ofNat 5) (.ofNat 4) := fun τ => by kernel_rfl
theorem w393 : LawT [(s294, false), (s259, true)] (.ofNat 6) (.ofNat 5) (.ofNat 5) := fun τ => by kernel_rfl
theorem w394 (m : Nat) : LawT [] (.ofNat 6) (.ofNat 5) (.negSucc m) := fun τ => by kernel_rfl
theorem w395 (m : Nat) : LawT [] (.ofNat 6) (.ofNat 5) (.ofNat (Nat.succ (Nat.succ (Nat.succ (Nat.succ (Nat.succ (Nat.succ m))))))) := fun τ => by kernel_rfl
theorem w396 : LawT [(s295, true), (s259, true)] (.ofNat 6) (.ofNat 6) (.ofNat 0) := fun τ => by kernel_rfl
theorem w397 : LawT [(s296, true), (s259, true)] (.ofNat 6) (.ofNat 6) (.ofNat 1) := fun τ => by kernel_rfl
theorem w398 : LawT [(s297, true), (s259, true)] (.ofNat 6) (.ofNat 6) (.ofNat 2) := fun τ => by kernel_rfl
theorem w399 : LawT [(s298, true), (s259, true)] (.ofNat 6) (.ofNat 6) (.ofNat 3) := fun τ => by kernel_rfl
theorem w400 : LawT [(s299, true), (s259, true)] (.ofNat 6) (.ofNat 6) (.ofNat 4) := fun τ => by kernel_rfl
theorem w401 : LawT [(s300, true), (s259, true)] (.ofNat 6) (.ofNat 6) (.ofNat 5) := fun τ => by kernel_rfl
theorem w402 (m : Nat) : LawT [] (.ofNat 6) (.ofNat 6) (.negSucc m) := fun τ => by kernel_rfl
theorem w403 (m : Nat) : LawT [] (.ofNat 6) (.ofNat 6) (.ofNat (Nat.succ (Nat.succ (Nat.succ (Nat.succ (Nat.succ (Nat.succ m))))))) := fun τ => by kernel_rfl
theorem w404 (m : Nat) (c : Int) : LawT [] (.ofNat 6) (.negSucc m) c := fun τ => by kernel_rfl
theorem w405 (m : Nat) (c : Int) : LawT [] (.ofNat 6) (.ofNat (Nat.succ (Nat.succ (Nat.succ (Nat.succ (Nat.succ (Nat.succ (Nat.succ m)))))))) c := fun τ => by kernel_rfl
theorem w406 : LawT [(s301, false), (s302, false)] (.ofNat 7) (.ofNat 0) (.ofNat 0) := fun τ => by kernel_rfl
theorem w407 : LawT [(s303, false), (s302, false)] (.ofNat 7) (.ofNat 0) (.ofNat 1) := fun τ => by kernel_rfl
theorem w408 : LawT [(s304, false), (s302, false)] (.ofNat 7) (.ofNat 0) (.ofNat 2) := fun τ => by kernel_rfl
theorem w409 : LawT [(s305, false), (s302, false)] (.ofNat 7) (.ofNat 0) (.ofNat 3) := fun τ => by kernel_rfl
theorem w410 : LawT [(s306, false), (s302, false)] (.ofNat 7) (.ofNat 0) (.ofNat 4) := fun τ => by kernel_rfl
theorem w411 : LawT [(s307, false), (s302, false)] (.ofNat 7) (.ofNat 0) (.ofNat 5) := fun τ => by kernel_rfl
theorem w412 (m : Nat) : LawT [] (.ofNat 7) (.ofNat 0) (.negSucc m) := fun τ => by kernel_rfl
theorem w413 (m : Nat) : LawT [] (.ofNat 7) (.ofNat 0) (.ofNat (Nat.succ (Nat.succ (Nat.succ (Nat.succ (Nat.succ (Nat.succ m))))))) := fun τ => by kernel_rfl
theorem w414 : LawT [(s308, false), (s302, false)] (.ofNat 7) (.ofNat 1) (.ofNat 0) := fun τ => by kernel_rfl
theorem w415 : LawT [(s309, false), (s302, false)] (.ofNat 7) (.ofNat 1) (.ofNat 1) := fun τ => by kernel_rfl
theorem w416 : LawT [(s310, false), (s302, false)] (.ofNat 7) (.ofNat 1) (.ofNat 2) := fun τ => by kernel_rfl
theorem w417 : LawT [(s311, false), (s302, false)] (.ofNat 7) (.ofNat 1) (.ofNat 3) := fun τ => by kernel_rfl
theorem w418 : LawT [(s312, false), (s302, false)] (.ofNat 7) (.ofNat 1) (.ofNat 4) := fun τ => by kernel_rfl
theorem w419 : LawT [(s313, false), (s302, false)] (.ofNat 7) (.ofNat 1) (.ofNat 5) := fun τ => by kernel_rfl
theorem w420 (m : Nat) : LawT [] (.ofNat 7) (.ofNat 1) (.negSucc m) := fun τ => by kernel_rfl
theorem w421 (m : Nat) : LawT [] (.ofNat 7) (.ofNat 1) (.ofNat (Nat.succ (Nat.succ (Nat.succ (Nat.succ (Nat.succ (Nat.succ m))))))) := fun τ => by kernel_rfl
theorem w422 : LawT [(s314, false), (s302, false)] (.ofNat 7) (.ofNat 2) (.ofNat 0) := fun τ => by kernel_rfl
theorem w423 : LawT [(s315, false), (s302, false)] (.ofNat 7) (.ofNat 2) (.ofNat 1) := fun τ => by kernel_rfl
theorem w424 : LawT [(s316, false), (s302, false)] (.ofNat 7) (.ofNat 2) (.ofNat 2) := fun τ => by kernel_rfl
theorem w425 : LawT [(s317, false), (s302, false)] (.ofNat 7) (.ofNat 2) (.ofNat 3) := fun τ => by kernel_rfl
theorem w426 : LawT [(s318, false), (s302, false)] (.ofNat 7) (.ofNat 2) (.ofNat 4) := fun τ => by kernel_rfl
theorem w427 : LawT [(s319, false), (s302, false)] (.ofNat 7) (.ofNat 2) (.ofNat 5) := fun τ => by kernel_rfl
theorem w428 (m : Nat) : LawT [] (.ofNat 7) (.ofNat 2) (.negSucc m) := fun τ => by kernel_rfl
theorem w429 (m : Nat) : LawT [] (.ofNat 7) (.ofNat 2) (.ofNat (Nat.succ (Nat.succ (Nat.succ (Nat.succ (Nat.succ (Nat.succ m))))))) := fun τ => by kernel_rfl
theorem w430 : LawT [(s320, true), (s302, false)] (.ofNat 7) (.ofNat 3) (.ofNat 0) := fun τ => by kernel_rfl
theorem w431 : LawT [(s321, true), (s302, false)] (.ofNat 7) (.ofNat 3) (.ofNat 1) := fun τ => by kernel_rfl
theorem w432 : LawT [(s322, true), (s302, false)] (.ofNat 7) (.ofNat 3) (.ofNat 2) := fun τ => by kernel_rfl
theorem w433 : LawT [(s323, true), (s302, false)] (.ofNat 7) (.ofNat 3) (.ofNat 3) := fun τ => by kernel_rfl
theorem w434 : LawT [(s324, true), (s302, false)] (.ofNat 7) (.ofNat 3) (.ofNat 4) := fun τ => by kernel_rfl
theorem w435 : LawT [(s325, true), (s302, false)] (.ofNat 7) (.ofNat 3) (.ofNat 5) := fun τ => by kernel_rfl
theorem w436 (m : Nat) : LawT [] (.ofNat 7) (.ofNat 3) (.negSucc m) := fun τ => by kernel_rfl
theorem w437 (m : Nat) : LawT [] (.ofNat 7) (.ofNat 3) (.ofNat (Nat.succ (Nat.succ (Nat.succ (Nat.succ (Nat.succ (Nat.succ m))))))) := fun τ => by kernel_rfl
theorem w438 : LawT [(s326, true), (s302, false)] (.ofNat 7) (.ofNat 4) (.ofNat 0) := fun τ => by kernel_rfl
theorem w439 : LawT [(s327, true), (s302, false)] (.ofNat 7) (.ofNat 4) (.ofNat 1) := fun τ => by kernel_rfl
theorem w440 : LawT [(s328, true), (s302, false)] (.ofNat 7) (.ofNat 4) (.ofNat 2) := fun τ => by kernel_rfl
theorem w441 : LawT [(s329, true), (s302, false)] (.ofNat 7) (.ofNat 4) (.ofNat 3) := fun τ => by kernel_rfl
theorem w442 : LawT [(s330, true), (s302, false)] (.ofNat 7) (.ofNat 4) (.ofNat 4) := fun τ => by kernel_rfl
theorem w443 : LawT [(s331, true), (s302, false)] (.ofNat 7) (.ofNat 4) (.ofNat 5) := fun τ => by kernel_rfl
theorem w444 (m : Nat) : LawT [] (.ofNat 7) (.ofNat 4) (.negSucc m) := fun τ => by kernel_rfl
theorem w445 (m : Nat) : LawT [] (.ofNat 7) (.ofNat 4) (.ofNat (Nat.succ (Nat.succ (Nat.succ (Nat.succ (Nat.succ (Nat.succ m))))))) := fun τ => by kernel_rfl
theorem w446 : LawT [(s332, true), (s302, false)] (.ofNat 7) (.ofNat 5) (.ofNat 0) := fun τ => by kernel_rfl
theorem w447 : LawT [(s333, true), (s302, false)] (.ofNat 7) (.ofNat 5) (.ofNat 1) := fun τ => by kernel_rfl
theorem w448 : LawT [(s334, true), (s302, false)] (.ofNat 7) (.ofNat 5) (.ofNat 2) := fun τ => by kernel_rfl
theorem w449 : LawT [(s335, true), (s302, false)] (.ofNat 7) (.ofNat 5) (.ofNat 3) := fun τ => by kernel_rfl
theorem w450 : LawT [(s336, true), (s302, false)] (.ofNat 7) (.ofNat 5) (.ofNat 4) := fun τ => by kernel_rfl
theorem w451 : LawT [(s337, true), (s302, false)] (.ofNat 7) (.ofNat 5) (.ofNat 5) := fun τ => by kernel_rfl
theorem w452 (m : Nat) : LawT [] (.ofNat 7) (.ofNat 5) (.negSucc m) := fun τ => by kernel_rfl
theorem w453 (m : Nat) : LawT [] (.ofNat 7) (.ofNat 5) (.ofNat (Nat.succ (Nat.succ (Nat.succ (Nat.succ (Nat.succ (Nat.succ m))))))) := fun τ => by kernel_rfl
theorem w454 : LawT [(s338, true), (s302, false)] (.ofNat 7) (.ofNat 6) (.ofNat 0) := fun τ => by kernel_rfl
theorem w455 : LawT [(s339, true), (s302, false)] (.ofNat 7) (.ofNat 6) (.ofNat 1) := fun τ => by kernel_rfl
theorem w456 : LawT [(s340, true), (s302, false)] (.ofNat 7) (.ofNat 6) (.ofNat 2) := fun τ => by kernel_rfl
theorem w457 : LawT [(s341, true), (s302, false)] (.ofNat 7) (.ofNat 6) (.ofNat 3) := fun τ => by kernel_rfl
theorem w458 : LawT [(s342, true), (s302, false)] (.ofNat 7) (.ofNat 6) (.ofNat 4) := fun τ => by kernel_rfl
theorem w459 : LawT [(s343, true), (s302, false)] (.ofNat 7) (.ofNat 6) (.ofNat 5) := fun τ => by kernel_rfl
theorem w460 (m : Nat) : LawT [] (.ofNat 7) (.ofNat 6) (.negSucc m) := fun τ => by kernel_rfl
theorem w461 (m : Nat) : LawT [] (.ofNat 7) (.ofNat 6) (.ofNat (Nat.succ (Nat.succ (Nat.succ (Nat.succ (Nat.succ (Nat.succ m))))))) := fun τ => by kernel_rfl
theorem w462 (m : Nat) (c : Int) : LawT [] (.ofNat 7) (.negSucc m) c := fun τ => by kernel_rfl
theorem w463 (m : Nat) (c : Int) : LawT [] (.ofNat 7) (.ofNat (Nat.succ (Nat.succ (Nat.succ (Nat.succ (Nat.succ (Nat.succ (Nat.succ m)))))))) c := fun τ => by kernel_rfl
theorem w464 (m : Nat) (b : Int) (c : Int) : LawT [] (.negSucc m) b c := fun τ => by kernel_rfl
theorem w465 (m : Nat) (b : Int) (c : Int) : LawT [] (.ofNat (Nat.succ (Nat.succ (Nat.succ (Nat.succ (Nat.succ (Nat.succ (Nat.succ (Nat.succ m))))))))) b c := fun τ => by kernel_rfl
end Go.Proofs.YtimopcpbakanmaaGreatDoor
