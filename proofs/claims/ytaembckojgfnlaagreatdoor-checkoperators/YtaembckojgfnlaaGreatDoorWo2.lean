import Derived.Test.YtaembckojgfnlaaGreatDoorP2o
set_option linter.all false
namespace Go.Proofs.YtaembckojgfnlaaGreatDoor
open Go Ex
theorem w490 : LawT [(s470, false)] (.ofNat 4) (.ofNat 0) (.ofNat 2) := fun τ => by kernel_rfl
theorem w491 : LawT [(s471, false)] (.ofNat 4) (.ofNat 0) (.ofNat 3) := fun τ => by kernel_rfl
theorem w492 : LawT [(s472, false)] (.ofNat 4) (.ofNat 0) (.ofNat 4) := fun τ => by kernel_rfl
theorem w493 : LawT [(s473, false)] (.ofNat 4) (.ofNat 0) (.ofNat 5) := fun τ => by kernel_rfl
theorem w494 : LawT [(s474, false)] (.ofNat 4) (.ofNat 0) (.ofNat 6) := fun τ => by kernel_rfl
theorem w495 : LawT [(s475, false)] (.ofNat 4) (.ofNat 0) (.ofNat 7) := fun τ => by kernel_rfl
theorem w496 : LawT [(s476, false)] (.ofNat 4) (.ofNat 0) (.ofNat 8) := fun τ => by kernel_rfl
theorem w497 : LawT [(s477, false)] (.ofNat 4) (.ofNat 0) (.ofNat 9) := fun τ => by kernel_rfl
theorem w498 : LawT [(s478, false)] (.ofNat 4) (.ofNat 0) (.ofNat 10) := fun τ => by kernel_rfl
theorem w499 : LawT [(s479, false)] (.ofNat 4) (.ofNat 0) (.ofNat 11) := fun τ => by kernel_rfl
theorem w500 : LawT [(s480, false)] (.ofNat 4) (.ofNat 0) (.ofNat 12) := fun τ => by kernel_rfl
theorem w501 (m : Nat) : LawT [] (.ofNat 4) (.ofNat 0) (.negSucc m) := fun τ => by kernel_rfl
theorem w502 (m : Nat) : LawT [] (.ofNat 4) (.ofNat 0) (.ofNat (Nat.succ (Nat.succ (Nat.succ (Nat.succ (Nat.succ (Nat.succ (Nat.succ (Nat.succ (Nat.succ (Nat.succ (Nat.succ (Nat.succ (Nat.succ m)))))))))))))) := fun τ => by kernel_rfl
theorem w503 : LawT [(s481, false)] (.ofNat 4) (.ofNat 1) (.ofNat 0) := fun τ => by kernel_rfl
theorem w504 : LawT [(s482, false)] (.ofNat 4) (.ofNat 1) (.ofNat 1) := fun τ => by kernel_rfl
theorem w505 : LawT [(s483, false)] (.ofNat 4) (.ofNat 1) (.ofNat 2) := fun τ => by kernel_rfl
theorem w506 : LawT [(s484, false)] (.ofNat 4) (.ofNat 1) (.ofNat 3) := fun τ => by kernel_rfl
theorem w507 : LawT [(s485, false)] (.ofNat 4) (.ofNat 1) (.ofNat 4) := fun τ => by kernel_rfl
theorem w508 : LawT [(s486, false)] (.ofNat 4) (.ofNat 1) (.ofNat 5) := fun τ => by kernel_rfl
theorem w509 : LawT [(s487, false)] (.ofNat 4) (.ofNat 1) (.ofNat 6) := fun τ => by kernel_rfl
theorem w510 : LawT [(s488, false)] (.ofNat 4) (.ofNat 1) (.ofNat 7) := fun τ => by kernel_rfl
theorem w511 : LawT [(s489, false)] (.ofNat 4) (.ofNat 1) (.ofNat 8) := fun τ => by kernel_rfl
theorem w512 : LawT [(s490, false)] (.ofNat 4) (.ofNat 1) (.ofNat 9) := fun τ => by kernel_rfl
theorem w513 : LawT [(s491, false)] (.ofNat 4) (.ofNat 1) (.ofNat 10) := fun τ => by kernel_rfl
theorem w514 : LawT [(s492, false)] (.ofNat 4) (.ofNat 1) (.ofNat 11) := fun τ => by kernel_rfl
theorem w515 : LawT [(s493, false)] (.ofNat 4) (.ofNat 1) (.ofNat 12) := fun τ => by kernel_rfl
theorem w516 (m : Nat) : LawT [] (.ofNat 4) (.ofNat 1) (.negSucc m) := fun τ => by kernel_rfl
theorem w517 (m : Nat) : LawT [] (.ofNat 4) (.ofNat 1) (.ofNat (Nat.succ (Nat.succ (Nat.succ (Nat.succ (Nat.succ (Nat.succ (Nat.succ (Nat.succ (Nat.succ (Nat.succ (Nat.succ (Nat.succ (Nat.succ m)))))))))))))) := fun τ => by kernel_rfl
theorem w518 : LawT [(s494, false)] (.ofNat 4) (.ofNat 2) (.ofNat 0) := fun τ => by kernel_rfl
theorem w519 : LawT [(s495, false)] (.ofNat 4) (.ofNat 2) (.ofNat 1) := fun τ => by kernel_rfl
theorem w520 : LawT [(s496, false)] (.ofNat 4) (.ofNat 2) (.ofNat 2) := fun τ => by kernel_rfl
theorem w521 : LawT [(s497, false)] (.ofNat 4) (.ofNat 2) (.ofNat 3) := fun τ => by kernel_rfl
theorem w522 : LawT [(s498, false)] (.ofNat 4) (.ofNat 2) (.ofNat 4) := fun τ => by kernel_rfl
theorem w523 : LawT [(s499, false)] (.ofNat 4) (.ofNat 2) (.ofNat 5) := fun τ => by kernel_rfl
theorem w524 : LawT [(s500, false)] (.ofNat 4) (.ofNat 2) (.ofNat 6) := fun τ => by kernel_rfl
theorem w525 : LawT [(s501, false)] (.ofNat 4) (.ofNat 2) (.ofNat 7) := fun τ => by kernel_rfl
theorem w526 : LawT [(s502, false)] (.ofNat 4) (.ofNat 2) (.ofNat 8) := fun τ => by kernel_rfl
theorem w527 : LawT [(s503, false)] (.ofNat 4) (.ofNat 2) (.ofNat 9) := fun τ => by kernel_rfl
theorem w528 : LawT [(s504, false)] (.ofNat 4) (.ofNat 2) (.ofNat 10) := fun τ => by kernel_rfl
theorem w529 : LawT [(s505, false)] (.ofNat 4) (.ofNat 2) (.ofNat 11) := fun τ => by kernel_rfl
theorem w530 : LawT [(s506, false)] (.ofNat 4) (.ofNat 2) (.ofNat 12) := fun τ => by kernel_rfl
theorem w531 (m : Nat) : LawT [] (.ofNat 4) (.ofNat 2) (.negSucc m) := fun τ => by kernel_rfl
theorem w532 (m : Nat) : LawT [] (.ofNat 4) (.ofNat 2) (.ofNat (Nat.succ (Nat.succ (Nat.succ (Nat.succ (Nat.succ (Nat.succ (Nat.succ (Nat.succ (Nat.succ (Nat.succ (Nat.succ (Nat.succ (Nat.succ m)))))))))))))) := fun τ => by kernel_rfl
theorem w533 : LawT [(s507, false)] (.ofNat 4) (.ofNat 3) (.ofNat 0) := fun τ => by kernel_rfl
theorem w534 : LawT [(s508, false)] (.ofNat 4) (.ofNat 3) (.ofNat 1) := fun τ => by kernel_rfl
theorem w535 : LawT [(s509, false)] (.ofNat 4) (.ofNat 3) (.ofNat 2) := fun τ => by kernel_rfl
theorem w536 : LawT [(s510, false)] (.ofNat 4) (.ofNat 3) (.ofNat 3) := fun τ => by kernel_rfl
theorem w537 : LawT [(s511, false)] (.ofNat 4) (.ofNat 3) (.ofNat 4) := fun τ => by kernel_rfl
theorem w538 : LawT [(s512, false)] (.ofNat 4) (.ofNat 3) (.ofNat 5) := fun τ => by kernel_rfl
theorem w539 : LawT [(s513, false)] (.ofNat 4) (.ofNat 3) (.ofNat 6) := fun τ => by kernel_rfl
theorem w540 : LawT [(s514, false)] (.ofNat 4) (.ofNat 3) (.ofNat 7) := fun τ => by kernel_rfl
theorem w541 : LawT [(s515, false)] (.ofNat 4) (.ofNat 3) (.ofNat 8) := fun τ => by kernel_rfl
theorem w542 : LawT [(s516, false)] (.ofNat 4) (.ofNat 3) (.ofNat 9) := fun τ => by kernel_rfl
theorem w543 : LawT [(s517, false)] (.ofNat 4) (.ofNat 3) (.ofNat 10) := fun τ => by kernel_rfl
theorem w544 : LawT [(s518, false)] (.ofNat 4) (.ofNat 3) (.ofNat 11) := fun τ => by kernel_rfl
theorem w545 : LawT [(s519, false)] (.ofNat 4) (.ofNat 3) (.ofNat 12) := fun τ => by kernel_rfl
theorem w546 (m : Nat) : LawT [] (.ofNat 4) (.ofNat 3) (.negSucc m) := fun τ => by kernel_rfl
theorem w547 (m : Nat) : LawT [] (.ofNat 4) (.ofNat 3) (.ofNat (Nat.succ (Nat.succ (Nat.succ (Nat.succ (Nat.succ (Nat.succ (Nat.succ (Nat.succ (Nat.succ (Nat.succ (Nat.succ (Nat.succ (Nat.succ m)))))))))))))) := fun τ => by kernel_rfl
theorem w548 : LawT [(s520, false)] (.ofNat 4) (.ofNat 4) (.ofNat 0) := fun τ => by kernel_rfl
theorem w549 : LawT [(s521, false)] (.ofNat 4) (.ofNat 4) (.ofNat 1) := fun τ => by kernel_rfl
theorem w550 : LawT [(s522, false)] (.ofNat 4) (.ofNat 4) (.ofNat 2) := fun τ => by kernel_rfl
theorem w551 : LawT [(s523, false)] (.ofNat 4) (.ofNat 4) (.ofNat 3) := fun τ => by kernel_rfl
theorem w552 : LawT [(s524, false)] (.ofNat 4) (.ofNat 4) (.ofNat 4) := fun τ => by kernel_rfl
theorem w553 : LawT [(s525, false)] (.ofNat 4) (.ofNat 4) (.ofNat 5) := fun τ => by kernel_rfl
theorem w554 : LawT [(s526, false)] (.ofNat 4) (.ofNat 4) (.ofNat 6) := fun τ => by kernel_rfl
theorem w555 : LawT [(s527, false)] (.ofNat 4) (.ofNat 4) (.ofNat 7) := fun τ => by kernel_rfl
theorem w556 : LawT [(s528, false)] (.ofNat 4) (.ofNat 4) (.ofNat 8) := fun τ => by kernel_rfl
theorem w557 : LawT [(s529, false)] (.ofNat 4) (.ofNat 4) (.ofNat 9) := fun τ => by kernel_rfl
theorem w558 : LawT [(s530, false)] (.ofNat 4) (.ofNat 4) (.ofNat 10) := fun τ => by kernel_rfl
theorem w559 : LawT [(s531, false)] (.ofNat 4) (.ofNat 4) (.ofNat 11) := fun τ => by kernel_rfl
theorem w560 : LawT [(s532, false)] (.ofNat 4) (.ofNat 4) (.ofNat 12) := fun τ => by kernel_rfl
theorem w561 (m : Nat) : LawT [] (.ofNat 4) (.ofNat 4) (.negSucc m) := fun τ => by kernel_rfl
theorem w562 (m : Nat) : LawT [] (.ofNat 4) (.ofNat 4) (.ofNat (Nat.succ (Nat.succ (Nat.succ (Nat.succ (Nat.succ (Nat.succ (Nat.succ (Nat.succ (Nat.succ (Nat.succ (Nat.succ (Nat.succ (Nat.succ m)))))))))))))) := fun τ => by kernel_rfl
theorem w563 : LawT [(s533, false)] (.ofNat 4) (.ofNat 5) (.ofNat 0) := fun τ => by kernel_rfl
theorem w564 : LawT [(s534, false)] (.ofNat 4) (.ofNat 5) (.ofNat 1) := fun τ => by kernel_rfl
theorem w565 : LawT [(s535, false)] (.ofNat 4) (.ofNat 5) (.ofNat 2) := fun τ => by kernel_rfl
theorem w566 : LawT [(s536, false)] (.ofNat 4) (.ofNat 5) (.ofNat 3) := fun τ => by kernel_rfl
theorem w567 : LawT [(s537, false)] (.ofNat 4) (.ofNat 5) (.ofNat 4) := fun τ => by kernel_rfl
theorem w568 : LawT [(s538, false)] (.ofNat 4) (.ofNat 5) (.ofNat 5) := fun τ => by kernel_rfl
theorem w569 : LawT [(s539, false)] (.ofNat 4) (.ofNat 5) (.ofNat 6) := fun τ => by kernel_rfl
theorem w570 : LawT [(s540, false)] (.ofNat 4) (.ofNat 5) (.ofNat 7) := fun τ => by kernel_rfl
theorem w571 : LawT [(s541, false)] (.ofNat 4) (.ofNat 5) (.ofNat 8) := fun τ => by kernel_rfl
theorem w572 : LawT [(s542, false)] (.ofNat 4) (.ofNat 5) (.ofNat 9) := fun τ => by kernel_rfl
theorem w573 : LawT [(s543, false)] (.ofNat 4) (.ofNat 5) (.ofNat 10) := fun τ => by kernel_rfl
theorem w574 : LawT [(s544, false)] (.ofNat 4) (.ofNat 5) (.ofNat 11) := fun τ => by kernel_rfl
theorem w575 : LawT [(s545, false)] (.ofNat 4) (.ofNat 5) (.ofNat 12) := fun τ => by kernel_rfl
theorem w576 (m : Nat) : LawT [] (.ofNat 4) (.ofNat 5) (.negSucc m) := fun τ => by kernel_rfl
theorem w577 (m : Nat) : LawT [] (.ofNat 4) (.ofNat 5) (.ofNat (Nat.succ (Nat.succ (Nat.succ (Nat.succ (Nat.succ (Nat.succ (Nat.succ (Nat.succ (Nat.succ (Nat.succ (Nat.succ (Nat.succ (Nat.succ m)))))))))))))) := fun τ => by kernel_rfl
theorem w578 : LawT [(s546, false)] (.ofNat 4) (.ofNat 6) (.ofNat 0) := fun τ => by kernel_rfl
theorem w579 : LawT [(s547, false)] (.ofNat 4) (.ofNat 6) (.ofNat 1) := fun τ => by kernel_rfl
theorem w580 : LawT [(s548, false)] (.ofNat 4) (.ofNat 6) (.ofNat 2) := fun τ => by kernel_rfl
theorem w581 : LawT [(s549, false)] (.ofNat 4) (.ofNat 6) (.ofNat 3) := fun τ => by kernel_rfl
theorem w582 : LawT [(s550, false)] (.ofNat 4) (.ofNat 6) (.ofNat 4) := fun τ => by kernel_rfl
theorem w583 : LawT [(s551, false)] (.ofNat 4) (.ofNat 6) (.ofNat 5) := fun τ => by kernel_rfl
theorem w584 : LawT [(s552, false)] (.ofNat 4) (.ofNat 6) (.ofNat 6) := fun τ => by kernel_rfl
theorem w585 : LawT [(s553, false)] (.ofNat 4) (.ofNat 6) (.ofNat 7) := fun τ => by kernel_rfl
theorem w586 : LawT [(s554, false)] (.ofNat 4) (.ofNat 6) (.ofNat 8) := fun τ => by kernel_rfl
theorem w587 : LawT [(s555, false)] (.ofNat 4) (.ofNat 6) (.ofNat 9) := fun τ => by kernel_rfl
theorem w588 : LawT [(s556, false)] (.ofNat 4) (.ofNat 6) (.ofNat 10) := fun τ => by kernel_rfl
theorem w589 : LawT [(s557, false)] (.ofNat 4) (.ofNat 6) (.ofNat 11) := fun τ => by kernel_rfl
theorem w590 : LawT [(s558, false)] (.ofNat 4) (.ofNat 6) (.ofNat 12) := fun τ => by kernel_rfl
theorem w591 (m : Nat) : LawT [] (.ofNat 4) (.ofNat 6) (.negSucc m) := fun τ => by kernel_rfl
theorem w592 (m : Nat) : LawT [] (.ofNat 4) (.ofNat 6) (.ofNat (Nat.succ (Nat.succ (Nat.succ (Nat.succ (Nat.succ (Nat.succ (Nat.succ (Nat.succ (Nat.succ (Nat.succ (Nat.succ (Nat.succ (Nat.succ m)))))))))))))) := fun τ => by kernel_rfl
theorem w593 : LawT [(s559, false)] (.ofNat 4) (.ofNat 7) (.ofNat 0) := fun τ => by kernel_rfl
theorem w594 : LawT [(s560, false)] (.ofNat 4) (.ofNat 7) (.ofNat 1) := fun τ => by kernel_rfl
theorem w595 : LawT [(s561, false)] (.ofNat 4) (.ofNat 7) (.ofNat 2) := fun τ => by kernel_rfl
theorem w596 : LawT [(s562, false)] (.ofNat 4) (.ofNat 7) (.ofNat 3) := fun τ => by kernel_rfl
theorem w597 : LawT [(s563, false)] (.ofNat 4) (.ofNat 7) (.ofNat 4) := fun τ => by kernel_rfl
theorem w598 : LawT [(s564, true), (s565, true), (s566, false)] (.ofNat 4) (.ofNat 7) (.ofNat 5) := fun τ => by kernel_rfl
theorem w599 : LawT [(s567, true), (s568, true), (s569, false)] (.ofNat 4) (.ofNat 7) (.ofNat 6) := fun τ => by kernel_rfl
theorem w600 : LawT [(s570, false)] (.ofNat 4) (.ofNat 7) (.ofNat 7) := fun τ => by kernel_rfl
theorem w601 : LawT [(s571, false)] (.ofNat 4) (.ofNat 7) (.ofNat 8) := fun τ => by kernel_rfl
theorem w602 : LawT [(s572, false)] (.ofNat 4) (.ofNat 7) (.ofNat 9) := fun τ => by kernel_rfl
theorem w603 : LawT [(s573, false)] (.ofNat 4) (.ofNat 7) (.ofNat 10) := fun τ => by kernel_rfl
theorem w604 : LawT [(s574, false)] (.ofNat 4) (.ofNat 7) (.ofNat 11) := fun τ => by kernel_rfl
theorem w605 : LawT [(s575, false)] (.ofNat 4) (.ofNat 7) (.ofNat 12) := fun τ => by kernel_rfl
theorem w606 (m : Nat) : LawT [] (.ofNat 4) (.ofNat 7) (.negSucc m) := fun τ => by kernel_rfl
theorem w607 (m : Nat) : LawT [] (.ofNat 4) (.ofNat 7) (.ofNat (Nat.succ (Nat.succ (Nat.succ (Nat.succ (Nat.succ (Nat.succ (Nat.succ (Nat.succ (Nat.succ (Nat.succ (Nat.succ (Nat.succ (Nat.succ m)))))))))))))) := fun τ => by kernel_rfl
theorem w608 (m : Nat) (c : Int) : LawT [] (.ofNat 4) (.negSucc m) c := fun τ => by kernel_rfl
theorem w609 (m : Nat) (c : Int) : LawT [] (.ofNat 4) (.ofNat (Nat.succ (Nat.succ (Nat.succ (Nat.succ (Nat.succ (Nat.succ (Nat.succ (Nat.succ m))))))))) c := fun τ => by kernel_rfl
theorem w610 : LawT [(s576, false)] (.ofNat 5) (.ofNat 0) (.ofNat 0) := fun τ => by kernel_rfl
theorem w611 : LawT [(s577, false)] (.ofNat 5) (.ofNat 0) (.ofNat 1) := fun τ => by kernel_rfl
theorem w612 : LawT [(s578, false)] (.ofNat 5) (.ofNat 0) (.ofNat 2) := fun τ => by kernel_rfl
theorem w613 : LawT [(s579, false)] (.ofNat 5) (.ofNat 0) (.ofNat 3) := fun τ => by kernel_rfl
theorem w614 : LawT [(s580, false)] (.ofNat 5) (.ofNat 0) (.ofNat 4) := fun τ => by kernel_rfl
theorem w615 : LawT [(s581, false)] (.ofNat 5) (.ofNat 0) (.ofNat 5) := fun τ => by kernel_rfl
theorem w616 : LawT [(s582, false)] (.ofNat 5) (.ofNat 0) (.ofNat 6) := fun τ => by kernel_rfl
theorem w617 : LawT [(s583, false)] (.ofNat 5) (.ofNat 0) (.ofNat 7) := fun τ => by kernel_rfl
theorem w618 : LawT [(s584, false)] (.ofNat 5) (.ofNat 0) (.ofNat 8) := fun τ => by kernel_rfl
theorem w619 : LawT [(s585, false)] (.ofNat 5) (.ofNat 0) (.ofNat 9) := fun τ => by kernel_rfl
theorem w620 : LawT [(s586, false)] (.ofNat 5) (.ofNat 0) (.ofNat 10) := fun τ => by kernel_rfl
theorem w621 : LawT [(s587, false)] (.ofNat 5) (.ofNat 0) (.ofNat 11) := fun τ => by kernel_rfl
theorem w622 : LawT [(s588, false)] (.ofNat 5) (.ofNat 0) (.ofNat 12) := fun τ => by kernel_rfl
theorem w623 (m : Nat) : LawT [] (.ofNat 5) (.ofNat 0) (.negSucc m) := fun τ => by kernel_rfl
theorem w624 (m : Nat) : LawT [] (.ofNat 5) (.ofNat 0) (.ofNat (Nat.succ (Nat.succ (Nat.succ (Nat.succ (Nat.succ (Nat.succ (Nat.succ (Nat.succ (Nat.succ (Nat.succ (Nat.succ (Nat.succ (Nat.succ m)))))))))))))) := fun τ => by kernel_rfl
theorem w625 : LawT [(s589, false)] (.ofNat 5) (.ofNat 1) (.ofNat 0) := fun τ => by kernel_rfl
theorem w626 : LawT [(s590, false)] (.ofNat 5) (.ofNat 1) (.ofNat 1) := fun τ => by kernel_rfl
theorem w627 : LawT [(s591, false)] (.ofNat 5) (.ofNat 1) (.ofNat 2) := fun τ => by kernel_rfl
theorem w628 : LawT [(s592, false)] (.ofNat 5) (.ofNat 1) (.ofNat 3) := fun τ => by kernel_rfl
theorem w629 : LawT [(s593, false)] (.ofNat 5) (.ofNat 1) (.ofNat 4) := fun τ => by kernel_rfl
theorem w630 : LawT [(s594, false)] (.ofNat 5) (.ofNat 1) (.ofNat 5) := fun τ => by kernel_rfl
theorem w631 : LawT [(s595, false)] (.ofNat 5) (.ofNat 1) (.ofNat 6) := fun τ => by kernel_rfl
theorem w632 : LawT [(s596, false)] (.ofNat 5) (.ofNat 1) (.ofNat 7) := fun τ => by kernel_rfl
theorem w633 : LawT [(s597, false)] (.ofNat 5) (.ofNat 1) (.ofNat 8) := fun τ => by kernel_rfl
theorem w634 : LawT [(s598, false)] (.ofNat 5) (.ofNat 1) (.ofNat 9) := fun τ => by kernel_rfl
theorem w635 : LawT [(s599, false)] (.ofNat 5) (.ofNat 1) (.ofNat 10) := fun τ => by kernel_rfl
theorem w636 : LawT [(s600, false)] (.ofNat 5) (.ofNat 1) (.ofNat 11) := fun τ => by kernel_rfl
theorem w637 : LawT [(s601, false)] (.ofNat 5) (.ofNat 1) (.ofNat 12) := fun τ => by kernel_rfl
theorem w638 (m : Nat) : LawT [] (.ofNat 5) (.ofNat 1) (.negSucc m) := fun τ => by kernel_rfl
theorem w639 (m : Nat) : LawT [] (.ofNat 5) (.ofNat 1) (.ofNat (Nat.succ (Nat.succ (Nat.succ (Nat.succ (Nat.succ (Nat.succ (Nat.succ (Nat.succ (Nat.succ (Nat.succ (Nat.succ (Nat.succ (Nat.succ m)))))))))))))) := fun τ => by kernel_rfl
theorem w640 : LawT [(s602, false)] (.ofNat 5) (.ofNat 2) (.ofNat 0) := fun τ => by kernel_rfl
theorem w641 : LawT [(s603, false)] (.ofNat 5) (.ofNat 2) (.ofNat 1) := fun τ => by kernel_rfl
theorem w642 : LawT [(s604, false)] (.ofNat 5) (.ofNat 2) (.ofNat 2) := fun τ => by kernel_rfl
theorem w643 : LawT [(s605, false)] (.ofNat 5) (.ofNat 2) (.ofNat 3) := fun τ => by kernel_rfl
theorem w644 : LawT [(s606, false)] (.ofNat 5) (.ofNat 2) (.ofNat 4) := fun τ => by kernel_rfl
theorem w645 : LawT [(s607, false)] (.ofNat 5) (.ofNat 2) (.ofNat 5) := fun τ => by kernel_rfl
theorem w646 : LawT [(s608, false)] (.ofNat 5) (.ofNat 2) (.ofNat 6) := fun τ => by kernel_rfl
theorem w647 : LawT [(s609, false)] (.ofNat 5) (.ofNat 2) (.ofNat 7) := fun τ => by kernel_rfl
theorem w648 : LawT [(s610, false)] (.ofNat 5) (.ofNat 2) (.ofNat 8) := fun τ => by kernel_rfl
theorem w649 : LawT [(s611, false)] (.ofNat 5) (.ofNat 2) (.ofNat 9) := fun τ => by kernel_rfl
theorem w650 : LawT [(s612, false)] (.ofNat 5) (.ofNat 2) (.ofNat 10) := fun τ => by kernel_rfl
theorem w651 : LawT [(s613, false)] (.ofNat 5) (.ofNat 2) (.ofNat 11) := fun τ => by kernel_rfl
theorem w652 : LawT [(s614, false)] (.ofNat 5) (.ofNat 2) (.ofNat 12) := fun τ => by kernel_rfl
theorem w653 (m : Nat) : LawT [] (.ofNat 5) (.ofNat 2) (.negSucc m) := fun τ => by kernel_rfl
theorem w654 (m : Nat) : LawT [] (.ofNat 5) (.ofNat 2) (.ofNat (Nat.succ (Nat.succ (Nat.succ (Nat.succ (Nat.succ (Nat.succ (Nat.succ (Nat.succ (Nat.succ (Nat.succ (Nat.succ (Nat.succ (Nat.succ m)))))))))))))) := fun τ => by kernel_rfl
theorem w655 : LawT [(s615, false)] (.ofNat 5) (.ofNat 3) (.ofNat 0) := fun τ => by kernel_rfl
theorem w656 : LawT [(s616, false)] (.ofNat 5) (.ofNat 3) (.ofNat 1) := fun τ => by kernel_rfl
theorem w657 : LawT [(s617, false)] (.ofNat 5) (.ofNat 3) (.ofNat 2) := fun τ => by kernel_rfl
theorem w658 : LawT [(s618, false)] (.ofNat 5) (.ofNat 3) (.ofNat 3) := fun τ => by kernel_rfl
theorem w659 : LawT [(s619, false)] (.ofNat 5) (.ofNat 3) (.ofNat 4) := fun τ => by kernel_rfl
theorem w660 : LawT [(s620, false)] (.ofNat 5) (.ofNat 3) (.ofNat 5) := fun τ => by kernel_rfl
theorem w661 : LawT [(s621, false)] (.ofNat 5) (.ofNat 3) (.ofNat 6) := fun τ => by kernel_rfl
theorem w662 : LawT [(s622, false)] (.ofNat 5) (.ofNat 3) (.ofNat 7) := fun τ => by kernel_rfl
theorem w663 : LawT [(s623, false)] (.ofNat 5) (.ofNat 3) (.ofNat 8) := fun τ => by kernel_rfl
theorem w664 : LawT [(s624, false)] (.ofNat 5) (.ofNat 3) (.ofNat 9) := fun τ => by kernel_rfl
theorem w665 : LawT [(s625, false)] (.ofNat 5) (.ofNat 3) (.ofNat 10) := fun τ => by kernel_rfl
theorem w666 : LawT [(s626, false)] (.ofNat 5) (.ofNat 3) (.ofNat 11) := fun τ => by kernel_rfl
theorem w667 : LawT [(s627, false)] (.ofNat 5) (.ofNat 3) (.ofNat 12) := fun τ => by kernel_rfl
theorem w668 (m : Nat) : LawT [] (.ofNat 5) (.ofNat 3) (.negSucc m) := fun τ => by kernel_rfl
theorem w669 (m : Nat) : LawT [] (.ofNat 5) (.ofNat 3) (.ofNat (Nat.succ (Nat.succ (Nat.succ (Nat.succ (Nat.succ (Nat.succ (Nat.succ (Nat.succ (Nat.succ (Nat.succ (Nat.succ (Nat.succ (Nat.succ m)))))))))))))) := fun τ => by kernel_rfl
theorem w670 : LawT [(s628, false)] (.ofNat 5) (.ofNat 4) (.ofNat 0) := fun τ => by kernel_rfl
theorem w671 : LawT [(s629, false)] (.ofNat 5) (.ofNat 4) (.ofNat 1) := fun τ => by kernel_rfl
theorem w672 : LawT [(s630, false)] (.ofNat 5) (.ofNat 4) (.ofNat 2) := fun τ => by kernel_rfl
theorem w673 : LawT [(s631, false)] (.ofNat 5) (.ofNat 4) (.ofNat 3) := fun τ => by kernel_rfl
theorem w674 : LawT [(s632, false)] (.ofNat 5) (.ofNat 4) (.ofNat 4) := fun τ => by kernel_rfl
theorem w675 : LawT [(s633, false)] (.ofNat 5) (.ofNat 4) (.ofNat 5) := fun τ => by kernel_rfl
theorem w676 : LawT [(s634, false)] (.ofNat 5) (.ofNat 4) (.ofNat 6) := fun τ => by kernel_rfl
theorem w677 : LawT [(s635, false)] (.ofNat 5) (.ofNat 4) (.ofNat 7) := fun τ => by kernel_rfl
theorem w678 : LawT [(s636, false)] (.ofNat 5) (.ofNat 4) (.ofNat 8) := fun τ => by kernel_rfl
theorem w679 : LawT [(s637, false)] (.ofNat 5) (.ofNat 4) (.ofNat 9) := fun τ => by kernel_rfl
theorem w680 : LawT [(s638, false)] (.ofNat 5) (.ofNat 4) (.ofNat 10) := fun τ => by kernel_rfl
theorem w681 : LawT [(s639, false)] (.ofNat 5) (.ofNat 4) (.ofNat 11) := fun τ => by kernel_rfl
theorem w682 : LawT [(s640, false)] (.ofNat 5) (.ofNat 4) (.ofNat 12) := fun τ => by kernel_rfl
theorem w683 (m : Nat) : LawT [] (.ofNat 5) (.ofNat 4) (.negSucc m) := fun τ => by kernel_rfl
theorem w684 (m : Nat) : LawT [] (.ofNat 5) (.ofNat 4) (.ofNat (Nat.succ (Nat.succ (Nat.succ (Nat.succ (Nat.succ (Nat.succ (Nat.succ (Nat.succ (Nat.succ (Nat.succ (Nat.succ (Nat.succ (Nat.succ m)))))))))))))) := fun τ => by kernel_rfl
theorem w685 : LawT [(s641, false)] (.ofNat 5) (.ofNat 5) (.ofNat 0) := fun τ => by kernel_rfl
theorem w686 : LawT [(s642, false)] (.ofNat 5) (.ofNat 5) (.ofNat 1) := fun τ => by kernel_rfl
theorem w687 : LawT [(s643, false)] (.ofNat 5) (.ofNat 5) (.ofNat 2) := fun τ => by kernel_rfl
theorem w688 : LawT [(s644, false)] (.ofNat 5) (.ofNat 5) (.ofNat 3) := fun τ => by kernel_rfl
theorem w689 : LawT [(s645, false)] (.ofNat 5) (.ofNat 5) (.ofNat 4) := fun τ => by kernel_rfl
theorem w690 : LawT [(s646, true), (s647, true), (s648, false)] (.ofNat 5) (.ofNat 5) (.ofNat 5) := fun τ => by kernel_rfl
theorem w691 : LawT [(s649, true), (s650, true), (s651, false)] (.ofNat 5) (.ofNat 5) (.ofNat 6) := fun τ => by kernel_rfl
theorem w692 : LawT [(s652, false)] (.ofNat 5) (.ofNat 5) (.ofNat 7) := fun τ => by kernel_rfl
theorem w693 : LawT [(s653, false)] (.ofNat 5) (.ofNat 5) (.ofNat 8) := fun τ => by kernel_rfl
theorem w694 : LawT [(s654, false)] (.ofNat 5) (.ofNat 5) (.ofNat 9) := fun τ => by kernel_rfl
theorem w695 : LawT [(s655, false)] (.ofNat 5) (.ofNat 5) (.ofNat 10) := fun τ => by kernel_rfl
theorem w696 : LawT [(s656, false)] (.ofNat 5) (.ofNat 5) (.ofNat 11) := fun τ => by kernel_rfl
theorem w697 : LawT [(s657, false)] (.ofNat 5) (.ofNat 5) (.ofNat 12) := fun τ => by kernel_rfl
theorem w698 (m : Nat) : LawT [] (.ofNat 5) (.ofNat 5) (.negSucc m) := fun τ => by kernel_rfl
theorem w699 (m : Nat) : LawT [] (.ofNat 5) (.ofNat 5) (.ofNat (Nat.succ (Nat.succ (Nat.succ (Nat.succ (Nat.succ (Nat.succ (Nat.succ (Nat.succ (Nat.succ (Nat.succ (Nat.succ (Nat.succ (Nat.succ m)))))))))))))) := fun τ => by kernel_rfl
theorem w700 : LawT [(s658, false)] (.ofNat 5) (.ofNat 6) (.ofNat 0) := fun τ => by kernel_rfl
theorem w701 : LawT [(s659, false)] (.ofNat 5) (.ofNat 6) (.ofNat 1) := fun τ => by kernel_rfl
theorem w702 : LawT [(s660, false)] (.ofNat 5) (.ofNat 6) (.ofNat 2) := fun τ => by kernel_rfl
theorem w703 : LawT [(s661, false)] (.ofNat 5) (.ofNat 6) (.ofNat 3) := fun τ => by kernel_rfl
theorem w704 : LawT [(s662, false)] (.ofNat 5) (.ofNat 6) (.ofNat 4) := fun τ => by kernel_rfl
theorem w705 : LawT [(s663, false)] (.ofNat 5) (.ofNat 6) (.ofNat 5) := fun τ => by kernel_rfl
theorem w706 : LawT [(s664, false)] (.ofNat 5) (.ofNat 6) (.ofNat 6) := fun τ => by kernel_rfl
theorem w707 : LawT [(s665, false)] (.ofNat 5) (.ofNat 6) (.ofNat 7) := fun τ => by kernel_rfl
theorem w708 : LawT [(s666, false)] (.ofNat 5) (.ofNat 6) (.ofNat 8) := fun τ => by kernel_rfl
theorem w709 : LawT [(s667, false)] (.ofNat 5) (.ofNat 6) (.ofNat 9) := fun τ => by kernel_rfl
theorem w710 : LawT [(s668, false)] (.ofNat 5) (.ofNat 6) (.ofNat 10) := fun τ => by kernel_rfl
theorem w711 : LawT [(s669, false)] (.ofNat 5) (.ofNat 6) (.ofNat 11) := fun τ => by kernel_rfl
theorem w712 : LawT [(s670, false)] (.ofNat 5) (.ofNat 6) (.ofNat 12) := fun τ => by kernel_rfl
theorem w713 (m : Nat) : LawT [] (.ofNat 5) (.ofNat 6) (.negSucc m) := fun τ => by kernel_rfl
theorem w714 (m : Nat) : LawT [] (.ofNat 5) (.ofNat 6) (.ofNat (Nat.succ (Nat.succ (Nat.succ (Nat.succ (Nat.succ (Nat.succ (Nat.succ (Nat.succ (Nat.succ (Nat.succ (Nat.succ (Nat.succ (Nat.succ m)))))))))))))) := fun τ => by kernel_rfl
theorem w715 : LawT [(s671, false)] (.ofNat 5) (.ofNat 7) (.ofNat 0) := fun τ => by kernel_rfl
theorem w716 : LawT [(s672, false)] (.ofNat 5) (.ofNat 7) (.ofNat 1) := fun τ => by kernel_rfl
theorem w717 : LawT [(s673, false)] (.ofNat 5) (.ofNat 7) (.ofNat 2) := fun τ => by kernel_rfl
theorem w718 : LawT [(s674, false)] (.ofNat 5) (.ofNat 7) (.ofNat 3) := fun τ => by kernel_rfl
theorem w719 : LawT [(s675, false)] (.ofNat 5) (.ofNat 7) (.ofNat 4) := fun τ => by kernel_rfl
theorem w720 : LawT [(s676, true), (s677, true), (s678, false)] (.ofNat 5) (.ofNat 7) (.ofNat 5) := fun τ => by kernel_rfl
theorem w721 : LawT [(s679, true), (s680, true), (s681, false)] (.ofNat 5) (.ofNat 7) (.ofNat 6) := fun τ => by kernel_rfl
theorem w722 : LawT [(s682, false)] (.ofNat 5) (.ofNat 7) (.ofNat 7) := fun τ => by kernel_rfl
theorem w723 : LawT [(s683, false)] (.ofNat 5) (.ofNat 7) (.ofNat 8) := fun τ => by kernel_rfl
theorem w724 : LawT [(s684, false)] (.ofNat 5) (.ofNat 7) (.ofNat 9) := fun τ => by kernel_rfl
theorem w725 : LawT [(s685, false)] (.ofNat 5) (.ofNat 7) (.ofNat 10) := fun τ => by kernel_rfl
theorem w726 : LawT [(s686, false)] (.ofNat 5) (.ofNat 7) (.ofNat 11) := fun τ => by kernel_rfl
theorem w727 : LawT [(s687, false)] (.ofNat 5) (.ofNat 7) (.ofNat 12) := fun τ => by kernel_rfl
theorem w728 (m : Nat) : LawT [] (.ofNat 5) (.ofNat 7) (.negSucc m) := fun τ => by kernel_rfl
theorem w729 (m : Nat) : LawT [] (.ofNat 5) (.ofNat 7) (.ofNat (Nat.succ (Nat.succ (Nat.succ (Nat.succ (Nat.succ (Nat.succ (Nat.succ (Nat.succ (Nat.succ (Nat.succ (Nat.succ (Nat.succ (Nat.succ m)))))))))))))) := fun τ => by kernel_rfl
theorem w730 (m : Nat) (c : Int) : LawT [] (.ofNat 5) (.negSucc m) c := fun τ => by kernel_rfl
theorem w731 (m : Nat) (c : Int) : LawT [] (.ofNat 5) (.ofNat (Nat.succ (Nat.succ (Nat.succ (Nat.succ (Nat.succ (Nat.succ (Nat.succ (Nat.succ m))))))))) c := fun τ => by kernel_rfl
theorem w732 : LawT [(s688, false)] (.ofNat 6) (.ofNat 0) (.ofNat 0) := fun τ => by kernel_rfl
theorem w733 : LawT [(s689, false)] (.ofNat 6) (.ofNat 0) (.ofNat 1) := fun τ => by kernel_rfl
theorem w734 : LawT [(s690, false)] (.ofNat 6) (.ofNat 0) (.ofNat 2) := fun τ => by kernel_rfl
end Go.Proofs.YtaembckojgfnlaaGreatDoor
