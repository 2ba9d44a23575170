import Derived.Test.YtaembckojgfnlaaGreatDoorP2o
set_option linter.all false
namespace Go.Proofs.YtaembckojgfnlaaGreatDoor
open Go Ex
theorem w735 : LawT [(s691, false)] (.ofNat 6) (.ofNat 0) (.ofNat 3) := fun τ => by kernel_rfl
theorem w736 : LawT [(s692, false)] (.ofNat 6) (.ofNat 0) (.ofNat 4) := fun τ => by kernel_rfl
theorem w737 : LawT [(s693, false)] (.ofNat 6) (.ofNat 0) (.ofNat 5) := fun τ => by kernel_rfl
theorem w738 : LawT [(s694, false)] (.ofNat 6) (.ofNat 0) (.ofNat 6) := fun τ => by kernel_rfl
theorem w739 : LawT [(s695, false)] (.ofNat 6) (.ofNat 0) (.ofNat 7) := fun τ => by kernel_rfl
theorem w740 : LawT [(s696, false)] (.ofNat 6) (.ofNat 0) (.ofNat 8) := fun τ => by kernel_rfl
theorem w741 : LawT [(s697, false)] (.ofNat 6) (.ofNat 0) (.ofNat 9) := fun τ => by kernel_rfl
theorem w742 : LawT [(s698, false)] (.ofNat 6) (.ofNat 0) (.ofNat 10) := fun τ => by kernel_rfl
theorem w743 : LawT [(s699, false)] (.ofNat 6) (.ofNat 0) (.ofNat 11) := fun τ => by kernel_rfl
theorem w744 : LawT [(s700, false)] (.ofNat 6) (.ofNat 0) (.ofNat 12) := fun τ => by kernel_rfl
theorem w745 (m : Nat) : LawT [] (.ofNat 6) (.ofNat 0) (.negSucc m) := fun τ => by kernel_rfl
theorem w746 (m : Nat) : LawT [] (.ofNat 6) (.ofNat 0) (.ofNat (Nat.succ (Nat.succ (Nat.succ (Nat.succ (Nat.succ (Nat.succ (Nat.succ (Nat.succ (Nat.succ (Nat.succ (Nat.succ (Nat.succ (Nat.succ m)))))))))))))) := fun τ => by kernel_rfl
theorem w747 : LawT [(s701, false)] (.ofNat 6) (.ofNat 1) (.ofNat 0) := fun τ => by kernel_rfl
theorem w748 : LawT [(s702, false)] (.ofNat 6) (.ofNat 1) (.ofNat 1) := fun τ => by kernel_rfl
theorem w749 : LawT [(s703, false)] (.ofNat 6) (.ofNat 1) (.ofNat 2) := fun τ => by kernel_rfl
theorem w750 : LawT [(s704, false)] (.ofNat 6) (.ofNat 1) (.ofNat 3) := fun τ => by kernel_rfl
theorem w751 : LawT [(s705, false)] (.ofNat 6) (.ofNat 1) (.ofNat 4) := fun τ => by kernel_rfl
theorem w752 : LawT [(s706, false)] (.ofNat 6) (.ofNat 1) (.ofNat 5) := fun τ => by kernel_rfl
theorem w753 : LawT [(s707, false)] (.ofNat 6) (.ofNat 1) (.ofNat 6) := fun τ => by kernel_rfl
theorem w754 : LawT [(s708, false)] (.ofNat 6) (.ofNat 1) (.ofNat 7) := fun τ => by kernel_rfl
theorem w755 : LawT [(s709, false)] (.ofNat 6) (.ofNat 1) (.ofNat 8) := fun τ => by kernel_rfl
theorem w756 : LawT [(s710, false)] (.ofNat 6) (.ofNat 1) (.ofNat 9) := fun τ => by kernel_rfl
theorem w757 : LawT [(s711, false)] (.ofNat 6) (.ofNat 1) (.ofNat 10) := fun τ => by kernel_rfl
theorem w758 : LawT [(s712, false)] (.ofNat 6) (.ofNat 1) (.ofNat 11) := fun τ => by kernel_rfl
theorem w759 : LawT [(s713, false)] (.ofNat 6) (.ofNat 1) (.ofNat 12) := fun τ => by kernel_rfl
theorem w760 (m : Nat) : LawT [] (.ofNat 6) (.ofNat 1) (.negSucc m) := fun τ => by kernel_rfl
theorem w761 (m : Nat) : LawT [] (.ofNat 6) (.ofNat 1) (.ofNat (Nat.succ (Nat.succ (Nat.succ (Nat.succ (Nat.succ (Nat.succ (Nat.succ (Nat.succ (Nat.succ (Nat.succ (Nat.succ (Nat.succ (Nat.succ m)))))))))))))) := fun τ => by kernel_rfl
theorem w762 : LawT [(s714, false)] (.ofNat 6) (.ofNat 2) (.ofNat 0) := fun τ => by kernel_rfl
theorem w763 : LawT [(s715, false)] (.ofNat 6) (.ofNat 2) (.ofNat 1) := fun τ => by kernel_rfl
theorem w764 : LawT [(s716, false)] (.ofNat 6) (.ofNat 2) (.ofNat 2) := fun τ => by kernel_rfl
theorem w765 : LawT [(s717, false)] (.ofNat 6) (.ofNat 2) (.ofNat 3) := fun τ => by kernel_rfl
theorem w766 : LawT [(s718, false)] (.ofNat 6) (.ofNat 2) (.ofNat 4) := fun τ => by kernel_rfl
theorem w767 : LawT [(s719, false)] (.ofNat 6) (.ofNat 2) (.ofNat 5) := fun τ => by kernel_rfl
theorem w768 : LawT [(s720, false)] (.ofNat 6) (.ofNat 2) (.ofNat 6) := fun τ => by kernel_rfl
theorem w769 : LawT [(s721, false)] (.ofNat 6) (.ofNat 2) (.ofNat 7) := fun τ => by kernel_rfl
theorem w770 : LawT [(s722, false)] (.ofNat 6) (.ofNat 2) (.ofNat 8) := fun τ => by kernel_rfl
theorem w771 : LawT [(s723, false)] (.ofNat 6) (.ofNat 2) (.ofNat 9) := fun τ => by kernel_rfl
theorem w772 : LawT [(s724, false)] (.ofNat 6) (.ofNat 2) (.ofNat 10) := fun τ => by kernel_rfl
theorem w773 : LawT [(s725, false)] (.ofNat 6) (.ofNat 2) (.ofNat 11) := fun τ => by kernel_rfl
theorem w774 : LawT [(s726, false)] (.ofNat 6) (.ofNat 2) (.ofNat 12) := fun τ => by kernel_rfl
theorem w775 (m : Nat) : LawT [] (.ofNat 6) (.ofNat 2) (.negSucc m) := fun τ => by kernel_rfl
theorem w776 (m : Nat) : LawT [] (.ofNat 6) (.ofNat 2) (.ofNat (Nat.succ (Nat.succ (Nat.succ (Nat.succ (Nat.succ (Nat.succ (Nat.succ (Nat.succ (Nat.succ (Nat.succ (Nat.succ (Nat.succ (Nat.succ m)))))))))))))) := fun τ => by kernel_rfl
theorem w777 : LawT [(s727, false)] (.ofNat 6) (.ofNat 3) (.ofNat 0) := fun τ => by kernel_rfl
theorem w778 : LawT [(s728, false)] (.ofNat 6) (.ofNat 3) (.ofNat 1) := fun τ => by kernel_rfl
theorem w779 : LawT [(s729, false)] (.ofNat 6) (.ofNat 3) (.ofNat 2) := fun τ => by kernel_rfl
theorem w780 : LawT [(s730, false)] (.ofNat 6) (.ofNat 3) (.ofNat 3) := fun τ => by kernel_rfl
theorem w781 : LawT [(s731, false)] (.ofNat 6) (.ofNat 3) (.ofNat 4) := fun τ => by kernel_rfl
theorem w782 : LawT [(s732, false)] (.ofNat 6) (.ofNat 3) (.ofNat 5) := fun τ => by kernel_rfl
theorem w783 : LawT [(s733, false)] (.ofNat 6) (.ofNat 3) (.ofNat 6) := fun τ => by kernel_rfl
theorem w784 : LawT [(s734, false)] (.ofNat 6) (.ofNat 3) (.ofNat 7) := fun τ => by kernel_rfl
theorem w785 : LawT [(s735, false)] (.ofNat 6) (.ofNat 3) (.ofNat 8) := fun τ => by kernel_rfl
theorem w786 : LawT [(s736, false)] (.ofNat 6) (.ofNat 3) (.ofNat 9) := fun τ => by kernel_rfl
theorem w787 : LawT [(s737, false)] (.ofNat 6) (.ofNat 3) (.ofNat 10) := fun τ => by kernel_rfl
theorem w788 : LawT [(s738, false)] (.ofNat 6) (.ofNat 3) (.ofNat 11) := fun τ => by kernel_rfl
theorem w789 : LawT [(s739, false)] (.ofNat 6) (.ofNat 3) (.ofNat 12) := fun τ => by kernel_rfl
theorem w790 (m : Nat) : LawT [] (.ofNat 6) (.ofNat 3) (.negSucc m) := fun τ => by kernel_rfl
theorem w791 (m : Nat) : LawT [] (.ofNat 6) (.ofNat 3) (.ofNat (Nat.succ (Nat.succ (Nat.succ (Nat.succ (Nat.succ (Nat.succ (Nat.succ (Nat.succ (Nat.succ (Nat.succ (Nat.succ (Nat.succ (Nat.succ m)))))))))))))) := fun τ => by kernel_rfl
theorem w792 : LawT [(s740, false)] (.ofNat 6) (.ofNat 4) (.ofNat 0) := fun τ => by kernel_rfl
theorem w793 : LawT [(s741, false)] (.ofNat 6) (.ofNat 4) (.ofNat 1) := fun τ => by kernel_rfl
theorem w794 : LawT [(s742, false)] (.ofNat 6) (.ofNat 4) (.ofNat 2) := fun τ => by kernel_rfl
theorem w795 : LawT [(s743, false)] (.ofNat 6) (.ofNat 4) (.ofNat 3) := fun τ => by kernel_rfl
theorem w796 : LawT [(s744, false)] (.ofNat 6) (.ofNat 4) (.ofNat 4) := fun τ => by kernel_rfl
theorem w797 : LawT [(s745, false)] (.ofNat 6) (.ofNat 4) (.ofNat 5) := fun τ => by kernel_rfl
theorem w798 : LawT [(s746, false)] (.ofNat 6) (.ofNat 4) (.ofNat 6) := fun τ => by kernel_rfl
theorem w799 : LawT [(s747, false)] (.ofNat 6) (.ofNat 4) (.ofNat 7) := fun τ => by kernel_rfl
theorem w800 : LawT [(s748, false)] (.ofNat 6) (.ofNat 4) (.ofNat 8) := fun τ => by kernel_rfl
theorem w801 : LawT [(s749, false)] (.ofNat 6) (.ofNat 4) (.ofNat 9) := fun τ => by kernel_rfl
theorem w802 : LawT [(s750, false)] (.ofNat 6) (.ofNat 4) (.ofNat 10) := fun τ => by kernel_rfl
theorem w803 : LawT [(s751, false)] (.ofNat 6) (.ofNat 4) (.ofNat 11) := fun τ => by kernel_rfl
theorem w804 : LawT [(s752, false)] (.ofNat 6) (.ofNat 4) (.ofNat 12) := fun τ => by kernel_rfl
theorem w805 (m : Nat) : LawT [] (.ofNat 6) (.ofNat 4) (.negSucc m) := fun τ => by kernel_rfl
theorem w806 (m : Nat) : LawT [] (.ofNat 6) (.ofNat 4) (.ofNat (Nat.succ (Nat.succ (Nat.succ (Nat.succ (Nat.succ (Nat.succ (Nat.succ (Nat.succ (Nat.succ (Nat.succ (Nat.succ (Nat.succ (Nat.succ m)))))))))))))) := fun τ => by kernel_rfl
theorem w807 : LawT [(s753, false)] (.ofNat 6) (.ofNat 5) (.ofNat 0) := fun τ => by kernel_rfl
theorem w808 : LawT [(s754, false)] (.ofNat 6) (.ofNat 5) (.ofNat 1) := fun τ => by kernel_rfl
theorem w809 : LawT [(s755, false)] (.ofNat 6) (.ofNat 5) (.ofNat 2) := fun τ => by kernel_rfl
theorem w810 : LawT [(s756, false)] (.ofNat 6) (.ofNat 5) (.ofNat 3) := fun τ => by kernel_rfl
theorem w811 : LawT [(s757, false)] (.ofNat 6) (.ofNat 5) (.ofNat 4) := fun τ => by kernel_rfl
theorem w812 : LawT [(s758, false)] (.ofNat 6) (.ofNat 5) (.ofNat 5) := fun τ => by kernel_rfl
theorem w813 : LawT [(s759, false)] (.ofNat 6) (.ofNat 5) (.ofNat 6) := fun τ => by kernel_rfl
theorem w814 : LawT [(s760, false)] (.ofNat 6) (.ofNat 5) (.ofNat 7) := fun τ => by kernel_rfl
theorem w815 : LawT [(s761, false)] (.ofNat 6) (.ofNat 5) (.ofNat 8) := fun τ => by kernel_rfl
theorem w816 : LawT [(s762, false)] (.ofNat 6) (.ofNat 5) (.ofNat 9) := fun τ => by kernel_rfl
theorem w817 : LawT [(s763, false)] (.ofNat 6) (.ofNat 5) (.ofNat 10) := fun τ => by kernel_rfl
theorem w818 : LawT [(s764, false)] (.ofNat 6) (.ofNat 5) (.ofNat 11) := fun τ => by kernel_rfl
theorem w819 : LawT [(s765, false)] (.ofNat 6) (.ofNat 5) (.ofNat 12) := fun τ => by kernel_rfl
theorem w820 (m : Nat) : LawT [] (.ofNat 6) (.ofNat 5) (.negSucc m) := fun τ => by kernel_rfl
theorem w821 (m : Nat) : LawT [] (.ofNat 6) (.ofNat 5) (.ofNat (Nat.succ (Nat.succ (Nat.succ (Nat.succ (Nat.succ (Nat.succ (Nat.succ (Nat.succ (Nat.succ (Nat.succ (Nat.succ (Nat.succ (Nat.succ m)))))))))))))) := fun τ => by kernel_rfl
theorem w822 : LawT [(s766, false)] (.ofNat 6) (.ofNat 6) (.ofNat 0) := fun τ => by kernel_rfl
theorem w823 : LawT [(s767, false)] (.ofNat 6) (.ofNat 6) (.ofNat 1) := fun τ => by kernel_rfl
theorem w824 : LawT [(s768, false)] (.ofNat 6) (.ofNat 6) (.ofNat 2) := fun τ => by kernel_rfl
theorem w825 : LawT [(s769, false)] (.ofNat 6) (.ofNat 6) (.ofNat 3) := fun τ => by kernel_rfl
theorem w826 : LawT [(s770, false)] (.ofNat 6) (.ofNat 6) (.ofNat 4) := fun τ => by kernel_rfl
theorem w827 : LawT [(s771, false)] (.ofNat 6) (.ofNat 6) (.ofNat 5) := fun τ => by kernel_rfl
theorem w828 : LawT [(s772, false)] (.ofNat 6) (.ofNat 6) (.ofNat 6) := fun τ => by kernel_rfl
theorem w829 : LawT [(s773, false)] (.ofNat 6) (.ofNat 6) (.ofNat 7) := fun τ => by kernel_rfl
theorem w830 : LawT [(s774, false)] (.ofNat 6) (.ofNat 6) (.ofNat 8) := fun τ => by kernel_rfl
theorem w831 : LawT [(s775, false)] (.ofNat 6) (.ofNat 6) (.ofNat 9) := fun τ => by kernel_rfl
theorem w832 : LawT [(s776, false)] (.ofNat 6) (.ofNat 6) (.ofNat 10) := fun τ => by kernel_rfl
theorem w833 : LawT [(s777, false)] (.ofNat 6) (.ofNat 6) (.ofNat 11) := fun τ => by kernel_rfl
theorem w834 : LawT [(s778, false)] (.ofNat 6) (.ofNat 6) (.ofNat 12) := fun τ => by kernel_rfl
theorem w835 (m : Nat) : LawT [] (.ofNat 6) (.ofNat 6) (.negSucc m) := fun τ => by kernel_rfl
theorem w836 (m : Nat) : LawT [] (.ofNat 6) (.ofNat 6) (.ofNat (Nat.succ (Nat.succ (Nat.succ (Nat.succ (Nat.succ (Nat.succ (Nat.succ (Nat.succ (Nat.succ (Nat.succ (Nat.succ (Nat.succ (Nat.succ m)))))))))))))) := fun τ => by kernel_rfl
theorem w837 : LawT [(s779, false)] (.ofNat 6) (.ofNat 7) (.ofNat 0) := fun τ => by kernel_rfl
theorem w838 : LawT [(s780, false)] (.ofNat 6) (.ofNat 7) (.ofNat 1) := fun τ => by kernel_rfl
theorem w839 : LawT [(s781, false)] (.ofNat 6) (.ofNat 7) (.ofNat 2) := fun τ => by kernel_rfl
theorem w840 : LawT [(s782, false)] (.ofNat 6) (.ofNat 7) (.ofNat 3) := fun τ => by kernel_rfl
theorem w841 : LawT [(s783, false)] (.ofNat 6) (.ofNat 7) (.ofNat 4) := fun τ => by kernel_rfl
theorem w842 : LawT [(s784, true), (s785, true), (s786, false)] (.ofNat 6) (.ofNat 7) (.ofNat 5) := fun τ => by kernel_rfl
theorem w843 : LawT [(s787, true), (s788, true), (s789, false)] (.ofNat 6) (.ofNat 7) (.ofNat 6) := fun τ => by kernel_rfl
theorem w844 : LawT [(s790, false)] (.ofNat 6) (.ofNat 7) (.ofNat 7) := fun τ => by kernel_rfl
theorem w845 : LawT [(s791, false)] (.ofNat 6) (.ofNat 7) (.ofNat 8) := fun τ => by kernel_rfl
theorem w846 : LawT [(s792, false)] (.ofNat 6) (.ofNat 7) (.ofNat 9) := fun τ => by kernel_rfl
theorem w847 : LawT [(s793, false)] (.ofNat 6) (.ofNat 7) (.ofNat 10) := fun τ => by kernel_rfl
theorem w848 : LawT [(s794, false)] (.ofNat 6) (.ofNat 7) (.ofNat 11) := fun τ => by kernel_rfl
theorem w849 : LawT [(s795, false)] (.ofNat 6) (.ofNat 7) (.ofNat 12) := fun τ => by kernel_rfl
theorem w850 (m : Nat) : LawT [] (.ofNat 6) (.ofNat 7) (.negSucc m) := fun τ => by kernel_rfl
theorem w851 (m : Nat) : LawT [] (.ofNat 6) (.ofNat 7) (.ofNat (Nat.succ (Nat.succ (Nat.succ (Nat.succ (Nat.succ (Nat.succ (Nat.succ (Nat.succ (Nat.succ (Nat.succ (Nat.succ (Nat.succ (Nat.succ m)))))))))))))) := fun τ => by kernel_rfl
theorem w852 (m : Nat) (c : Int) : LawT [] (.ofNat 6) (.negSucc m) c := fun τ => by kernel_rfl
theorem w853 (m : Nat) (c : Int) : LawT [] (.ofNat 6) (.ofNat (Nat.succ (Nat.succ (Nat.succ (Nat.succ (Nat.succ (Nat.succ (Nat.succ (Nat.succ m))))))))) c := fun τ => by kernel_rfl
theorem w854 : LawT [(s796, false)] (.ofNat 7) (.ofNat 0) (.ofNat 0) := fun τ => by kernel_rfl
theorem w855 : LawT [(s797, false)] (.ofNat 7) (.ofNat 0) (.ofNat 1) := fun τ => by kernel_rfl
theorem w856 : LawT [(s798, false)] (.ofNat 7) (.ofNat 0) (.ofNat 2) := fun τ => by kernel_rfl
theorem w857 : LawT [(s799, false)] (.ofNat 7) (.ofNat 0) (.ofNat 3) := fun τ => by kernel_rfl
theorem w858 : LawT [(s800, false)] (.ofNat 7) (.ofNat 0) (.ofNat 4) := fun τ => by kernel_rfl
theorem w859 : LawT [(s801, false)] (.ofNat 7) (.ofNat 0) (.ofNat 5) := fun τ => by kernel_rfl
theorem w860 : LawT [(s802, false)] (.ofNat 7) (.ofNat 0) (.ofNat 6) := fun τ => by kernel_rfl
theorem w861 : LawT [(s803, false)] (.ofNat 7) (.ofNat 0) (.ofNat 7) := fun τ => by kernel_rfl
theorem w862 : LawT [(s804, false)] (.ofNat 7) (.ofNat 0) (.ofNat 8) := fun τ => by kernel_rfl
theorem w863 : LawT [(s805, false)] (.ofNat 7) (.ofNat 0) (.ofNat 9) := fun τ => by kernel_rfl
theorem w864 : LawT [(s806, false)] (.ofNat 7) (.ofNat 0) (.ofNat 10) := fun τ => by kernel_rfl
theorem w865 : LawT [(s807, false)] (.ofNat 7) (.ofNat 0) (.ofNat 11) := fun τ => by kernel_rfl
theorem w866 : LawT [(s808, false)] (.ofNat 7) (.ofNat 0) (.ofNat 12) := fun τ => by kernel_rfl
theorem w867 (m : Nat) : LawT [] (.ofNat 7) (.ofNat 0) (.negSucc m) := fun τ => by kernel_rfl
theorem w868 (m : Nat) : LawT [] (.ofNat 7) (.ofNat 0) (.ofNat (Nat.succ (Nat.succ (Nat.succ (Nat.succ (Nat.succ (Nat.succ (Nat.succ (Nat.succ (Nat.succ (Nat.succ (Nat.succ (Nat.succ (Nat.succ m)))))))))))))) := fun τ => by kernel_rfl
theorem w869 : LawT [(s809, false)] (.ofNat 7) (.ofNat 1) (.ofNat 0) := fun τ => by kernel_rfl
theorem w870 : LawT [(s810, false)] (.ofNat 7) (.ofNat 1) (.ofNat 1) := fun τ => by kernel_rfl
theorem w871 : LawT [(s811, false)] (.ofNat 7) (.ofNat 1) (.ofNat 2) := fun τ => by kernel_rfl
theorem w872 : LawT [(s812, false)] (.ofNat 7) (.ofNat 1) (.ofNat 3) := fun τ => by kernel_rfl
theorem w873 : LawT [(s813, false)] (.ofNat 7) (.ofNat 1) (.ofNat 4) := fun τ => by kernel_rfl
theorem w874 : LawT [(s814, false)] (.ofNat 7) (.ofNat 1) (.ofNat 5) := fun τ => by kernel_rfl
theorem w875 : LawT [(s815, false)] (.ofNat 7) (.ofNat 1) (.ofNat 6) := fun τ => by kernel_rfl
theorem w876 : LawT [(s816, false)] (.ofNat 7) (.ofNat 1) (.ofNat 7) := fun τ => by kernel_rfl
theorem w877 : LawT [(s817, false)] (.ofNat 7) (.ofNat 1) (.ofNat 8) := fun τ => by kernel_rfl
theorem w878 : LawT [(s818, false)] (.ofNat 7) (.ofNat 1) (.ofNat 9) := fun τ => by kernel_rfl
theorem w879 : LawT [(s819, false)] (.ofNat 7) (.ofNat 1) (.ofNat 10) := fun τ => by kernel_rfl
theorem w880 : LawT [(s820, false)] (.ofNat 7) (.ofNat 1) (.ofNat 11) := fun τ => by kernel_rfl
theorem w881 : LawT [(s821, false)] (.ofNat 7) (.ofNat 1) (.ofNat 12) := fun τ => by kernel_rfl
theorem w882 (m : Nat) : LawT [] (.ofNat 7) (.ofNat 1) (.negSucc m) := fun τ => by kernel_rfl
theorem w883 (m : Nat) : LawT [] (.ofNat 7) (.ofNat 1) (.ofNat (Nat.succ (Nat.succ (Nat.succ (Nat.succ (Nat.succ (Nat.succ (Nat.succ (Nat.succ (Nat.succ (Nat.succ (Nat.succ (Nat.succ (Nat.succ m)))))))))))))) := fun τ => by kernel_rfl
theorem w884 : LawT [(s822, false)] (.ofNat 7) (.ofNat 2) (.ofNat 0) := fun τ => by kernel_rfl
theorem w885 : LawT [(s823, false)] (.ofNat 7) (.ofNat 2) (.ofNat 1) := fun τ => by kernel_rfl
theorem w886 : LawT [(s824, false)] (.ofNat 7) (.ofNat 2) (.ofNat 2) := fun τ => by kernel_rfl
theorem w887 : LawT [(s825, false)] (.ofNat 7) (.ofNat 2) (.ofNat 3) := fun τ => by kernel_rfl
theorem w888 : LawT [(s826, false)] (.ofNat 7) (.ofNat 2) (.ofNat 4) := fun τ => by kernel_rfl
theorem w889 : LawT [(s827, false)] (.ofNat 7) (.ofNat 2) (.ofNat 5) := fun τ => by kernel_rfl
theorem w890 : LawT [(s828, false)] (.ofNat 7) (.ofNat 2) (.ofNat 6) := fun τ => by kernel_rfl
theorem w891 : LawT [(s829, false)] (.ofNat 7) (.ofNat 2) (.ofNat 7) := fun τ => by kernel_rfl
theorem w892 : LawT [(s830, false)] (.ofNat 7) (.ofNat 2) (.ofNat 8) := fun τ => by kernel_rfl
theorem w893 : LawT [(s831, false)] (.ofNat 7) (.ofNat 2) (.ofNat 9) := fun τ => by kernel_rfl
theorem w894 : LawT [(s832, false)] (.ofNat 7) (.ofNat 2) (.ofNat 10) := fun τ => by kernel_rfl
theorem w895 : LawT [(s833, false)] (.ofNat 7) (.ofNat 2) (.ofNat 11) := fun τ => by kernel_rfl
theorem w896 : LawT [(s834, false)] (.ofNat 7) (.ofNat 2) (.ofNat 12) := fun τ => by kernel_rfl
theorem w897 (m : Nat) : LawT [] (.ofNat 7) (.ofNat 2) (.negSucc m) := fun τ => by kernel_rfl
theorem w898 (m : Nat) : LawT [] (.ofNat 7) (.ofNat 2) (.ofNat (Nat.succ (Nat.succ (Nat.succ (Nat.succ (Nat.succ (Nat.succ (Nat.succ (Nat.succ (Nat.succ (Nat.succ (Nat.succ (Nat.succ (Nat.succ m)))))))))))))) := fun τ => by kernel_rfl
theorem w899 : LawT [(s835, false)] (.ofNat 7) (.ofNat 3) (.ofNat 0) := fun τ => by kernel_rfl
theorem w900 : LawT [(s836, false)] (.ofNat 7) (.ofNat 3) (.ofNat 1) := fun τ => by kernel_rfl
theorem w901 : LawT [(s837, false)] (.ofNat 7) (.ofNat 3) (.ofNat 2) := fun τ => by kernel_rfl
theorem w902 : LawT [(s838, false)] (.ofNat 7) (.ofNat 3) (.ofNat 3) := fun τ => by kernel_rfl
theorem w903 : LawT [(s839, false)] (.ofNat 7) (.ofNat 3) (.ofNat 4) := fun τ => by kernel_rfl
theorem w904 : LawT [(s840, true), (s841, true), (s842, false)] (.ofNat 7) (.ofNat 3) (.ofNat 5) := fun τ => by kernel_rfl
theorem w905 : LawT [(s843, true), (s844, true), (s845, false)] (.ofNat 7) (.ofNat 3) (.ofNat 6) := fun τ => by kernel_rfl
theorem w906 : LawT [(s846, false)] (.ofNat 7) (.ofNat 3) (.ofNat 7) := fun τ => by kernel_rfl
theorem w907 : LawT [(s847, false)] (.ofNat 7) (.ofNat 3) (.ofNat 8) := fun τ => by kernel_rfl
theorem w908 : LawT [(s848, false)] (.ofNat 7) (.ofNat 3) (.ofNat 9) := fun τ => by kernel_rfl
theorem w909 : LawT [(s849, false)] (.ofNat 7) (.ofNat 3) (.ofNat 10) := fun τ => by kernel_rfl
theorem w910 : LawT [(s850, false)] (.ofNat 7) (.ofNat 3) (.ofNat 11) := fun τ => by kernel_rfl
theorem w911 : LawT [(s851, false)] (.ofNat 7) (.ofNat 3) (.ofNat 12) := fun τ => by kernel_rfl
theorem w912 (m : Nat) : LawT [] (.ofNat 7) (.ofNat 3) (.negSucc m) := fun τ => by kernel_rfl
theorem w913 (m : Nat) : LawT [] (.ofNat 7) (.ofNat 3) (.ofNat (Nat.succ (Nat.succ (Nat.succ (Nat.succ (Nat.succ (Nat.succ (Nat.succ (Nat.succ (Nat.succ (Nat.succ (Nat.succ (Nat.succ (Nat.succ m)))))))))))))) := fun τ => by kernel_rfl
theorem w914 : LawT [(s852, false)] (.ofNat 7) (.ofNat 4) (.ofNat 0) := fun τ => by kernel_rfl
theorem w915 : LawT [(s853, false)] (.ofNat 7) (.ofNat 4) (.ofNat 1) := fun τ => by kernel_rfl
theorem w916 : LawT [(s854, false)] (.ofNat 7) (.ofNat 4) (.ofNat 2) := fun τ => by kernel_rfl
theorem w917 : LawT [(s855, false)] (.ofNat 7) (.ofNat 4) (.ofNat 3) := fun τ => by kernel_rfl
theorem w918 : LawT [(s856, false)] (.ofNat 7) (.ofNat 4) (.ofNat 4) := fun τ => by kernel_rfl
theorem w919 : LawT [(s857, true), (s858, true), (s859, false)] (.ofNat 7) (.ofNat 4) (.ofNat 5) := fun τ => by kernel_rfl
theorem w920 : LawT [(s860, true), (s861, true), (s862, false)] (.ofNat 7) (.ofNat 4) (.ofNat 6) := fun τ => by kernel_rfl
theorem w921 : LawT [(s863, false)] (.ofNat 7) (.ofNat 4) (.ofNat 7) := fun τ => by kernel_rfl
theorem w922 : LawT [(s864, false)] (.ofNat 7) (.ofNat 4) (.ofNat 8) := fun τ => by kernel_rfl
theorem w923 : LawT [(s865, false)] (.ofNat 7) (.ofNat 4) (.ofNat 9) := fun τ => by kernel_rfl
theorem w924 : LawT [(s866, false)] (.ofNat 7) (.ofNat 4) (.ofNat 10) := fun τ => by kernel_rfl
theorem w925 : LawT [(s867, false)] (.ofNat 7) (.ofNat 4) (.ofNat 11) := fun τ => by kernel_rfl
theorem w926 : LawT [(s868, false)] (.ofNat 7) (.ofNat 4) (.ofNat 12) := fun τ => by kernel_rfl
theorem w927 (m : Nat) : LawT [] (.ofNat 7) (.ofNat 4) (.negSucc m) := fun τ => by kernel_rfl
theorem w928 (m : Nat) : LawT [] (.ofNat 7) (.ofNat 4) (.ofNat (Nat.succ (Nat.succ (Nat.succ (Nat.succ (Nat.succ (Nat.succ (Nat.succ (Nat.succ (Nat.succ (Nat.succ (Nat.succ (Nat.succ (Nat.succ m)))))))))))))) := fun τ => by kernel_rfl
theorem w929 : LawT [(s869, false)] (.ofNat 7) (.ofNat 5) (.ofNat 0) := fun τ => by kernel_rfl
theorem w930 : LawT [(s870, false)] (.ofNat 7) (.ofNat 5) (.ofNat 1) := fun τ => by kernel_rfl
theorem w931 : LawT [(s871, false)] (.ofNat 7) (.ofNat 5) (.ofNat 2) := fun τ => by kernel_rfl
theorem w932 : LawT [(s872, false)] (.ofNat 7) (.ofNat 5) (.ofNat 3) := fun τ => by kernel_rfl
theorem w933 : LawT [(s873, false)] (.ofNat 7) (.ofNat 5) (.ofNat 4) := fun τ => by kernel_rfl
theorem w934 : LawT [(s874, true), (s875, true), (s876, false)] (.ofNat 7) (.ofNat 5) (.ofNat 5) := fun τ => by kernel_rfl
theorem w935 : LawT [(s877, true), (s878, true), (s879, false)] (.ofNat 7) (.ofNat 5) (.ofNat 6) := fun τ => by kernel_rfl
theorem w936 : LawT [(s880, false)] (.ofNat 7) (.ofNat 5) (.ofNat 7) := fun τ => by kernel_rfl
theorem w937 : LawT [(s881, false)] (.ofNat 7) (.ofNat 5) (.ofNat 8) := fun τ => by kernel_rfl
theorem w938 : LawT [(s882, false)] (.ofNat 7) (.ofNat 5) (.ofNat 9) := fun τ => by kernel_rfl
theorem w939 : LawT [(s883, false)] (.ofNat 7) (.ofNat 5) (.ofNat 10) := fun τ => by kernel_rfl
theorem w940 : LawT [(s884, false)] (.ofNat 7) (.ofNat 5) (.ofNat 11) := fun τ => by kernel_rfl
theorem w941 : LawT [(s885, false)] (.ofNat 7) (.ofNat 5) (.ofNat 12) := fun τ => by kernel_rfl
theorem w942 (m : Nat) : LawT [] (.ofNat 7) (.ofNat 5) (.negSucc m) := fun τ => by kernel_rfl
theorem w943 (m : Nat) : LawT [] (.ofNat 7) (.ofNat 5) (.ofNat (Nat.succ (Nat.succ (Nat.succ (Nat.succ (Nat.succ (Nat.succ (Nat.succ (Nat.succ (Nat.succ (Nat.succ (Nat.succ (Nat.succ (Nat.succ m)))))))))))))) := fun τ => by kernel_rfl
theorem w944 : LawT [(s886, false)] (.ofNat 7) (.ofNat 6) (.ofNat 0) := fun τ => by kernel_rfl
theorem w945 : LawT [(s887, false)] (.ofNat 7) (.ofNat 6) (.ofNat 1) := fun τ => by kernel_rfl
theorem w946 : LawT [(s888, false)] (.ofNat 7) (.ofNat 6) (.ofNat 2) := fun τ => by kernel_rfl
theorem w947 : LawT [(s889, false)] (.ofNat 7) (.ofNat 6) (.ofNat 3) := fun τ => by kernel_rfl
theorem w948 : LawT [(s890, false)] (.ofNat 7) (.ofNat 6) (.ofNat 4) := fun τ => by kernel_rfl
theorem w949 : LawT [(s891, true), (s892, true), (s893, false)] (.ofNat 7) (.ofNat 6) (.ofNat 5) := fun τ => by kernel_rfl
theorem w950 : LawT [(s894, true), (s895, true), (s896, false)] (.ofNat 7) (.ofNat 6) (.ofNat 6) := fun τ => by kernel_rfl
theorem w951 : LawT [(s897, false)] (.ofNat 7) (.ofNat 6) (.ofNat 7) := fun τ => by kernel_rfl
theorem w952 : LawT [(s898, false)] (.ofNat 7) (.ofNat 6) (.ofNat 8) := fun τ => by kernel_rfl
theorem w953 : LawT [(s899, false)] (.ofNat 7) (.ofNat 6) (.ofNat 9) := fun τ => by kernel_rfl
theorem w954 : LawT [(s900, false)] (.ofNat 7) (.ofNat 6) (.ofNat 10) := fun τ => by kernel_rfl
theorem w955 : LawT [(s901, false)] (.ofNat 7) (.ofNat 6) (.ofNat 11) := fun τ => by kernel_rfl
theorem w956 : LawT [(s902, false)] (.ofNat 7) (.ofNat 6) (.ofNat 12) := fun τ => by kernel_rfl
theorem w957 (m : Nat) : LawT [] (.ofNat 7) (.ofNat 6) (.negSucc m) := fun τ => by kernel_rfl
theorem w958 (m : Nat) : LawT [] (.ofNat 7) (.ofNat 6) (.ofNat (Nat.succ (Nat.succ (Nat.succ (Nat.succ (Nat.succ (Nat.succ (Nat.succ (Nat.succ (Nat.succ (Nat.succ (Nat.succ (Nat.succ (Nat.succ m)))))))))))))) := fun τ => by kernel_rfl
theorem w959 : LawT [(s903, false)] (.ofNat 7) (.ofNat 7) (.ofNat 0) := fun τ => by kernel_rfl
theorem w960 : LawT [(s904, false)] (.ofNat 7) (.ofNat 7) (.ofNat 1) := fun τ => by kernel_rfl
theorem w961 : LawT [(s905, false)] (.ofNat 7) (.ofNat 7) (.ofNat 2) := fun τ => by kernel_rfl
theorem w962 : LawT [(s906, false)] (.ofNat 7) (.ofNat 7) (.ofNat 3) := fun τ => by kernel_rfl
theorem w963 : LawT [(s907, false)] (.ofNat 7) (.ofNat 7) (.ofNat 4) := fun τ => by kernel_rfl
theorem w964 : LawT [(s908, false)] (.ofNat 7) (.ofNat 7) (.ofNat 5) := fun τ => by kernel_rfl
theorem w965 : LawT [(s909, false)] (.ofNat 7) (.ofNat 7) (.ofNat 6) := fun τ => by kernel_rfl
theorem w966 : LawT [(s910, false)] (.ofNat 7) (.ofNat 7) (.ofNat 7) := fun τ => by kernel_rfl
theorem w967 : LawT [(s911, false)] (.ofNat 7) (.ofNat 7) (.ofNat 8) := fun τ => by kernel_rfl
theorem w968 : LawT [(s912, false)] (.ofNat 7) (.ofNat 7) (.ofNat 9) := fun τ => by kernel_rfl
theorem w969 : LawT [(s913, false)] (.ofNat 7) (.ofNat 7) (.ofNat 10) := fun τ => by kernel_rfl
theorem w970 : LawT [(s914, false)] (.ofNat 7) (.ofNat 7) (.ofNat 11) := fun τ => by kernel_rfl
theorem w971 : LawT [(s915, false)] (.ofNat 7) (.ofNat 7) (.ofNat 12) := fun τ => by kernel_rfl
theorem w972 (m : Nat) : LawT [] (.ofNat 7) (.ofNat 7) (.negSucc m) := fun τ => by kernel_rfl
theorem w973 (m : Nat) : LawT [] (.ofNat 7) (.ofNat 7) (.ofNat (Nat.succ (Nat.succ (Nat.succ (Nat.succ (Nat.succ (Nat.succ (Nat.succ (Nat.succ (Nat.succ (Nat.succ (Nat.succ (Nat.succ (Nat.succ m)))))))))))))) := fun τ => by kernel_rfl
theorem w974 (m : Nat) (c : Int) : LawT [] (.ofNat 7) (.negSucc m) c := fun τ => by kernel_rfl
theorem w975 (m : Nat) (c : Int) : LawT [] (.ofNat 7) (.ofNat (Nat.succ (Nat.succ (Nat.succ (Nat.succ (Nat.succ (Nat.succ (Nat.succ (Nat.succ m))))))))) c := fun τ => by kernel_rfl
theorem w976 (m : Nat) (b : Int) (c : Int) : LawT [] (.negSucc m) b c := fun τ => by kernel_rfl
theorem w977 (m : Nat) (b : Int) (c : Int) : LawT [] (.ofNat (Nat.succ (Nat.succ (Nat.succ (Nat.succ (Nat.succ (Nat.succ (Nat.succ (Nat.succ m))))))))) b c := fun τ => by kernel_rfl
end Go.Proofs.YtaembckojgfnlaaGreatDoor
