import Derived.Test.YtaembckojgfnlaaGreatDoorP2o
set_option linter.all false
namespace Go.Proofs.YtaembckojgfnlaaGreatDoor
open Go Ex
theorem w0 : LawT [(s0, true), (s1, true), (s2, false)] (.ofNat 0) (.ofNat 0) (.ofNat 0) := fun τ => by kernel_rfl
theorem w1 : LawT [(s3, true), (s4, true), (s5, false)] (.ofNat 0) (.ofNat 0) (.ofNat 1) := fun τ => by kernel_rfl
theorem w2 : LawT [(s6, true), (s7, true), (s8, false)] (.ofNat 0) (.ofNat 0) (.ofNat 2) := fun τ => by kernel_rfl
theorem w3 : LawT [(s9, true), (s10, true), (s11, false)] (.ofNat 0) (.ofNat 0) (.ofNat 3) := fun τ => by kernel_rfl
theorem w4 : LawT [(s12, true), (s13, true), (s14, false)] (.ofNat 0) (.ofNat 0) (.ofNat 4) := fun τ => by kernel_rfl
theorem w5 : LawT [(s15, true), (s16, true), (s17, false)] (.ofNat 0) (.ofNat 0) (.ofNat 5) := fun τ => by kernel_rfl
theorem w6 : LawT [(s18, true), (s19, true), (s20, false)] (.ofNat 0) (.ofNat 0) (.ofNat 6) := fun τ => by kernel_rfl
theorem w7 : LawT [(s21, true), (s22, true), (s23, false)] (.ofNat 0) (.ofNat 0) (.ofNat 7) := fun τ => by kernel_rfl
theorem w8 : LawT [(s24, true), (s25, true), (s26, false)] (.ofNat 0) (.ofNat 0) (.ofNat 8) := fun τ => by kernel_rfl
theorem w9 : LawT [(s27, true), (s28, true), (s29, false)] (.ofNat 0) (.ofNat 0) (.ofNat 9) := fun τ => by kernel_rfl
theorem w10 : LawT [(s30, true), (s31, true), (s32, false)] (.ofNat 0) (.ofNat 0) (.ofNat 10) := fun τ => by kernel_rfl
theorem w11 : LawT [(s33, false)] (.ofNat 0) (.ofNat 0) (.ofNat 11) := fun τ => by kernel_rfl
theorem w12 : LawT [(s34, false)] (.ofNat 0) (.ofNat 0) (.ofNat 12) := fun τ => by kernel_rfl
theorem w13 (m : Nat) : LawT [] (.ofNat 0) (.ofNat 0) (.negSucc m) := fun τ => by kernel_rfl
theorem w14 (m : Nat) : LawT [] (.ofNat 0) (.ofNat 0) (.ofNat (Nat.succ (Nat.succ (Nat.succ (Nat.succ (Nat.succ (Nat.succ (Nat.succ (Nat.succ (Nat.succ (Nat.succ (Nat.succ (Nat.succ (Nat.succ m)))))))))))))) := fun τ => by kernel_rfl
theorem w15 : LawT [(s35, false)] (.ofNat 0) (.ofNat 1) (.ofNat 0) := fun τ => by kernel_rfl
theorem w16 : LawT [(s36, false)] (.ofNat 0) (.ofNat 1) (.ofNat 1) := fun τ => by kernel_rfl
theorem w17 : LawT [(s37, false)] (.ofNat 0) (.ofNat 1) (.ofNat 2) := fun τ => by kernel_rfl
theorem w18 : LawT [(s38, false)] (.ofNat 0) (.ofNat 1) (.ofNat 3) := fun τ => by kernel_rfl
theorem w19 : LawT [(s39, false)] (.ofNat 0) (.ofNat 1) (.ofNat 4) := fun τ => by kernel_rfl
theorem w20 : LawT [(s40, false)] (.ofNat 0) (.ofNat 1) (.ofNat 5) := fun τ => by kernel_rfl
theorem w21 : LawT [(s41, false)] (.ofNat 0) (.ofNat 1) (.ofNat 6) := fun τ => by kernel_rfl
theorem w22 : LawT [(s42, false)] (.ofNat 0) (.ofNat 1) (.ofNat 7) := fun τ => by kernel_rfl
theorem w23 : LawT [(s43, false)] (.ofNat 0) (.ofNat 1) (.ofNat 8) := fun τ => by kernel_rfl
theorem w24 : LawT [(s44, false)] (.ofNat 0) (.ofNat 1) (.ofNat 9) := fun τ => by kernel_rfl
theorem w25 : LawT [(s45, false)] (.ofNat 0) (.ofNat 1) (.ofNat 10) := fun τ => by kernel_rfl
theorem w26 : LawT [(s46, false)] (.ofNat 0) (.ofNat 1) (.ofNat 11) := fun τ => by kernel_rfl
theorem w27 : LawT [(s47, false)] (.ofNat 0) (.ofNat 1) (.ofNat 12) := fun τ => by kernel_rfl
theorem w28 (m : Nat) : LawT [] (.ofNat 0) (.ofNat 1) (.negSucc m) := fun τ => by kernel_rfl
theorem w29 (m : Nat) : LawT [] (.ofNat 0) (.ofNat 1) (.ofNat (Nat.succ (Nat.succ (Nat.succ (Nat.succ (Nat.succ (Nat.succ (Nat.succ (Nat.succ (Nat.succ (Nat.succ (Nat.succ (Nat.succ (Nat.succ m)))))))))))))) := fun τ => by kernel_rfl
theorem w30 : LawT [(s48, false)] (.ofNat 0) (.ofNat 2) (.ofNat 0) := fun τ => by kernel_rfl
theorem w31 : LawT [(s49, false)] (.ofNat 0) (.ofNat 2) (.ofNat 1) := fun τ => by kernel_rfl
theorem w32 : LawT [(s50, false)] (.ofNat 0) (.ofNat 2) (.ofNat 2) := fun τ => by kernel_rfl
theorem w33 : LawT [(s51, false)] (.ofNat 0) (.ofNat 2) (.ofNat 3) := fun τ => by kernel_rfl
theorem w34 : LawT [(s52, false)] (.ofNat 0) (.ofNat 2) (.ofNat 4) := fun τ => by kernel_rfl
theorem w35 : LawT [(s53, false)] (.ofNat 0) (.ofNat 2) (.ofNat 5) := fun τ => by kernel_rfl
theorem w36 : LawT [(s54, false)] (.ofNat 0) (.ofNat 2) (.ofNat 6) := fun τ => by kernel_rfl
theorem w37 : LawT [(s55, false)] (.ofNat 0) (.ofNat 2) (.ofNat 7) := fun τ => by kernel_rfl
theorem w38 : LawT [(s56, false)] (.ofNat 0) (.ofNat 2) (.ofNat 8) := fun τ => by kernel_rfl
theorem w39 : LawT [(s57, false)] (.ofNat 0) (.ofNat 2) (.ofNat 9) := fun τ => by kernel_rfl
theorem w40 : LawT [(s58, false)] (.ofNat 0) (.ofNat 2) (.ofNat 10) := fun τ => by kernel_rfl
theorem w41 : LawT [(s59, false)] (.ofNat 0) (.ofNat 2) (.ofNat 11) := fun τ => by kernel_rfl
theorem w42 : LawT [(s60, false)] (.ofNat 0) (.ofNat 2) (.ofNat 12) := fun τ => by kernel_rfl
theorem w43 (m : Nat) : LawT [] (.ofNat 0) (.ofNat 2) (.negSucc m) := fun τ => by kernel_rfl
theorem w44 (m : Nat) : LawT [] (.ofNat 0) (.ofNat 2) (.ofNat (Nat.succ (Nat.succ (Nat.succ (Nat.succ (Nat.succ (Nat.succ (Nat.succ (Nat.succ (Nat.succ (Nat.succ (Nat.succ (Nat.succ (Nat.succ m)))))))))))))) := fun τ => by kernel_rfl
theorem w45 : LawT [(s61, false)] (.ofNat 0) (.ofNat 3) (.ofNat 0) := fun τ => by kernel_rfl
theorem w46 : LawT [(s62, false)] (.ofNat 0) (.ofNat 3) (.ofNat 1) := fun τ => by kernel_rfl
theorem w47 : LawT [(s63, false)] (.ofNat 0) (.ofNat 3) (.ofNat 2) := fun τ => by kernel_rfl
theorem w48 : LawT [(s64, false)] (.ofNat 0) (.ofNat 3) (.ofNat 3) := fun τ => by kernel_rfl
theorem w49 : LawT [(s65, false)] (.ofNat 0) (.ofNat 3) (.ofNat 4) := fun τ => by kernel_rfl
theorem w50 : LawT [(s66, false)] (.ofNat 0) (.ofNat 3) (.ofNat 5) := fun τ => by kernel_rfl
theorem w51 : LawT [(s67, false)] (.ofNat 0) (.ofNat 3) (.ofNat 6) := fun τ => by kernel_rfl
theorem w52 : LawT [(s68, false)] (.ofNat 0) (.ofNat 3) (.ofNat 7) := fun τ => by kernel_rfl
theorem w53 : LawT [(s69, false)] (.ofNat 0) (.ofNat 3) (.ofNat 8) := fun τ => by kernel_rfl
theorem w54 : LawT [(s70, false)] (.ofNat 0) (.ofNat 3) (.ofNat 9) := fun τ => by kernel_rfl
theorem w55 : LawT [(s71, false)] (.ofNat 0) (.ofNat 3) (.ofNat 10) := fun τ => by kernel_rfl
theorem w56 : LawT [(s72, false)] (.ofNat 0) (.ofNat 3) (.ofNat 11) := fun τ => by kernel_rfl
theorem w57 : LawT [(s73, false)] (.ofNat 0) (.ofNat 3) (.ofNat 12) := fun τ => by kernel_rfl
theorem w58 (m : Nat) : LawT [] (.ofNat 0) (.ofNat 3) (.negSucc m) := fun τ => by kernel_rfl
theorem w59 (m : Nat) : LawT [] (.ofNat 0) (.ofNat 3) (.ofNat (Nat.succ (Nat.succ (Nat.succ (Nat.succ (Nat.succ (Nat.succ (Nat.succ (Nat.succ (Nat.succ (Nat.succ (Nat.succ (Nat.succ (Nat.succ m)))))))))))))) := fun τ => by kernel_rfl
theorem w60 : LawT [(s74, false)] (.ofNat 0) (.ofNat 4) (.ofNat 0) := fun τ => by kernel_rfl
theorem w61 : LawT [(s75, false)] (.ofNat 0) (.ofNat 4) (.ofNat 1) := fun τ => by kernel_rfl
theorem w62 : LawT [(s76, false)] (.ofNat 0) (.ofNat 4) (.ofNat 2) := fun τ => by kernel_rfl
theorem w63 : LawT [(s77, false)] (.ofNat 0) (.ofNat 4) (.ofNat 3) := fun τ => by kernel_rfl
theorem w64 : LawT [(s78, false)] (.ofNat 0) (.ofNat 4) (.ofNat 4) := fun τ => by kernel_rfl
theorem w65 : LawT [(s79, false)] (.ofNat 0) (.ofNat 4) (.ofNat 5) := fun τ => by kernel_rfl
theorem w66 : LawT [(s80, false)] (.ofNat 0) (.ofNat 4) (.ofNat 6) := fun τ => by kernel_rfl
theorem w67 : LawT [(s81, false)] (.ofNat 0) (.ofNat 4) (.ofNat 7) := fun τ => by kernel_rfl
theorem w68 : LawT [(s82, false)] (.ofNat 0) (.ofNat 4) (.ofNat 8) := fun τ => by kernel_rfl
theorem w69 : LawT [(s83, false)] (.ofNat 0) (.ofNat 4) (.ofNat 9) := fun τ => by kernel_rfl
theorem w70 : LawT [(s84, false)] (.ofNat 0) (.ofNat 4) (.ofNat 10) := fun τ => by kernel_rfl
theorem w71 : LawT [(s85, false)] (.ofNat 0) (.ofNat 4) (.ofNat 11) := fun τ => by kernel_rfl
theorem w72 : LawT [(s86, false)] (.ofNat 0) (.ofNat 4) (.ofNat 12) := fun τ => by kernel_rfl
theorem w73 (m : Nat) : LawT [] (.ofNat 0) (.ofNat 4) (.negSucc m) := fun τ => by kernel_rfl
theorem w74 (m : Nat) : LawT [] (.ofNat 0) (.ofNat 4) (.ofNat (Nat.succ (Nat.succ (Nat.succ (Nat.succ (Nat.succ (Nat.succ (Nat.succ (Nat.succ (Nat.succ (Nat.succ (Nat.succ (Nat.succ (Nat.succ m)))))))))))))) := fun τ => by kernel_rfl
theorem w75 : LawT [(s87, false)] (.ofNat 0) (.ofNat 5) (.ofNat 0) := fun τ => by kernel_rfl
theorem w76 : LawT [(s88, false)] (.ofNat 0) (.ofNat 5) (.ofNat 1) := fun τ => by kernel_rfl
theorem w77 : LawT [(s89, false)] (.ofNat 0) (.ofNat 5) (.ofNat 2) := fun τ => by kernel_rfl
theorem w78 : LawT [(s90, false)] (.ofNat 0) (.ofNat 5) (.ofNat 3) := fun τ => by kernel_rfl
theorem w79 : LawT [(s91, false)] (.ofNat 0) (.ofNat 5) (.ofNat 4) := fun τ => by kernel_rfl
theorem w80 : LawT [(s92, false)] (.ofNat 0) (.ofNat 5) (.ofNat 5) := fun τ => by kernel_rfl
theorem w81 : LawT [(s93, false)] (.ofNat 0) (.ofNat 5) (.ofNat 6) := fun τ => by kernel_rfl
theorem w82 : LawT [(s94, false)] (.ofNat 0) (.ofNat 5) (.ofNat 7) := fun τ => by kernel_rfl
theorem w83 : LawT [(s95, false)] (.ofNat 0) (.ofNat 5) (.ofNat 8) := fun τ => by kernel_rfl
theorem w84 : LawT [(s96, false)] (.ofNat 0) (.ofNat 5) (.ofNat 9) := fun τ => by kernel_rfl
theorem w85 : LawT [(s97, false)] (.ofNat 0) (.ofNat 5) (.ofNat 10) := fun τ => by kernel_rfl
theorem w86 : LawT [(s98, false)] (.ofNat 0) (.ofNat 5) (.ofNat 11) := fun τ => by kernel_rfl
theorem w87 : LawT [(s99, false)] (.ofNat 0) (.ofNat 5) (.ofNat 12) := fun τ => by kernel_rfl
theorem w88 (m : Nat) : LawT [] (.ofNat 0) (.ofNat 5) (.negSucc m) := fun τ => by kernel_rfl
theorem w89 (m : Nat) : LawT [] (.ofNat 0) (.ofNat 5) (.ofNat (Nat.succ (Nat.succ (Nat.succ (Nat.succ (Nat.succ (Nat.succ (Nat.succ (Nat.succ (Nat.succ (Nat.succ (Nat.succ (Nat.succ (Nat.succ m)))))))))))))) := fun τ => by kernel_rfl
theorem w90 : LawT [(s100, false)] (.ofNat 0) (.ofNat 6) (.ofNat 0) := fun τ => by kernel_rfl
theorem w91 : LawT [(s101, false)] (.ofNat 0) (.ofNat 6) (.ofNat 1) := fun τ => by kernel_rfl
theorem w92 : LawT [(s102, false)] (.ofNat 0) (.ofNat 6) (.ofNat 2) := fun τ => by kernel_rfl
theorem w93 : LawT [(s103, false)] (.ofNat 0) (.ofNat 6) (.ofNat 3) := fun τ => by kernel_rfl
theorem w94 : LawT [(s104, false)] (.ofNat 0) (.ofNat 6) (.ofNat 4) := fun τ => by kernel_rfl
theorem w95 : LawT [(s105, false)] (.ofNat 0) (.ofNat 6) (.ofNat 5) := fun τ => by kernel_rfl
theorem w96 : LawT [(s106, false)] (.ofNat 0) (.ofNat 6) (.ofNat 6) := fun τ => by kernel_rfl
theorem w97 : LawT [(s107, false)] (.ofNat 0) (.ofNat 6) (.ofNat 7) := fun τ => by kernel_rfl
theorem w98 : LawT [(s108, false)] (.ofNat 0) (.ofNat 6) (.ofNat 8) := fun τ => by kernel_rfl
theorem w99 : LawT [(s109, false)] (.ofNat 0) (.ofNat 6) (.ofNat 9) := fun τ => by kernel_rfl
theorem w100 : LawT [(s110, false)] (.ofNat 0) (.ofNat 6) (.ofNat 10) := fun τ => by kernel_rfl
theorem w101 : LawT [(s111, false)] (.ofNat 0) (.ofNat 6) (.ofNat 11) := fun τ => by kernel_rfl
theorem w102 : LawT [(s112, false)] (.ofNat 0) (.ofNat 6) (.ofNat 12) := fun τ => by kernel_rfl
theorem w103 (m : Nat) : LawT [] (.ofNat 0) (.ofNat 6) (.negSucc m) := fun τ => by kernel_rfl
theorem w104 (m : Nat) : LawT [] (.ofNat 0) (.ofNat 6) (.ofNat (Nat.succ (Nat.succ (Nat.succ (Nat.succ (Nat.succ (Nat.succ (Nat.succ (Nat.succ (Nat.succ (Nat.succ (Nat.succ (Nat.succ (Nat.succ m)))))))))))))) := fun τ => by kernel_rfl
theorem w105 : LawT [(s113, false)] (.ofNat 0) (.ofNat 7) (.ofNat 0) := fun τ => by kernel_rfl
theorem w106 : LawT [(s114, false)] (.ofNat 0) (.ofNat 7) (.ofNat 1) := fun τ => by kernel_rfl
theorem w107 : LawT [(s115, false)] (.ofNat 0) (.ofNat 7) (.ofNat 2) := fun τ => by kernel_rfl
theorem w108 : LawT [(s116, false)] (.ofNat 0) (.ofNat 7) (.ofNat 3) := fun τ => by kernel_rfl
theorem w109 : LawT [(s117, false)] (.ofNat 0) (.ofNat 7) (.ofNat 4) := fun τ => by kernel_rfl
theorem w110 : LawT [(s118, false)] (.ofNat 0) (.ofNat 7) (.ofNat 5) := fun τ => by kernel_rfl
theorem w111 : LawT [(s119, false)] (.ofNat 0) (.ofNat 7) (.ofNat 6) := fun τ => by kernel_rfl
theorem w112 : LawT [(s120, false)] (.ofNat 0) (.ofNat 7) (.ofNat 7) := fun τ => by kernel_rfl
theorem w113 : LawT [(s121, false)] (.ofNat 0) (.ofNat 7) (.ofNat 8) := fun τ => by kernel_rfl
theorem w114 : LawT [(s122, false)] (.ofNat 0) (.ofNat 7) (.ofNat 9) := fun τ => by kernel_rfl
theorem w115 : LawT [(s123, false)] (.ofNat 0) (.ofNat 7) (.ofNat 10) := fun τ => by kernel_rfl
theorem w116 : LawT [(s124, false)] (.ofNat 0) (.ofNat 7) (.ofNat 11) := fun τ => by kernel_rfl
theorem w117 : LawT [(s125, false)] (.ofNat 0) (.ofNat 7) (.ofNat 12) := fun τ => by kernel_rfl
theorem w118 (m : Nat) : LawT [] (.ofNat 0) (.ofNat 7) (.negSucc m) := fun τ => by kernel_rfl
theorem w119 (m : Nat) : LawT [] (.ofNat 0) (.ofNat 7) (.ofNat (Nat.succ (Nat.succ (Nat.succ (Nat.succ (Nat.succ (Nat.succ (Nat.succ (Nat.succ (Nat.succ (Nat.succ (Nat.succ (Nat.succ (Nat.succ m)))))))))))))) := fun τ => by kernel_rfl
theorem w120 (m : Nat) (c : Int) : LawT [] (.ofNat 0) (.negSucc m) c := fun τ => by kernel_rfl
theorem w121 (m : Nat) (c : Int) : LawT [] (.ofNat 0) (.ofNat (Nat.succ (Nat.succ (Nat.succ (Nat.succ (Nat.succ (Nat.succ (Nat.succ (Nat.succ m))))))))) c := fun τ => by kernel_rfl
theorem w122 : LawT [(s126, false)] (.ofNat 1) (.ofNat 0) (.ofNat 0) := fun τ => by kernel_rfl
theorem w123 : LawT [(s127, false)] (.ofNat 1) (.ofNat 0) (.ofNat 1) := fun τ => by kernel_rfl
theorem w124 : LawT [(s128, false)] (.ofNat 1) (.ofNat 0) (.ofNat 2) := fun τ => by kernel_rfl
theorem w125 : LawT [(s129, false)] (.ofNat 1) (.ofNat 0) (.ofNat 3) := fun τ => by kernel_rfl
theorem w126 : LawT [(s130, false)] (.ofNat 1) (.ofNat 0) (.ofNat 4) := fun τ => by kernel_rfl
theorem w127 : LawT [(s131, false)] (.ofNat 1) (.ofNat 0) (.ofNat 5) := fun τ => by kernel_rfl
theorem w128 : LawT [(s132, false)] (.ofNat 1) (.ofNat 0) (.ofNat 6) := fun τ => by kernel_rfl
theorem w129 : LawT [(s133, false)] (.ofNat 1) (.ofNat 0) (.ofNat 7) := fun τ => by kernel_rfl
theorem w130 : LawT [(s134, false)] (.ofNat 1) (.ofNat 0) (.ofNat 8) := fun τ => by kernel_rfl
theorem w131 : LawT [(s135, false)] (.ofNat 1) (.ofNat 0) (.ofNat 9) := fun τ => by kernel_rfl
theorem w132 : LawT [(s136, false)] (.ofNat 1) (.ofNat 0) (.ofNat 10) := fun τ => by kernel_rfl
theorem w133 : LawT [(s137, false)] (.ofNat 1) (.ofNat 0) (.ofNat 11) := fun τ => by kernel_rfl
theorem w134 : LawT [(s138, false)] (.ofNat 1) (.ofNat 0) (.ofNat 12) := fun τ => by kernel_rfl
theorem w135 (m : Nat) : LawT [] (.ofNat 1) (.ofNat 0) (.negSucc m) := fun τ => by kernel_rfl
theorem w136 (m : Nat) : LawT [] (.ofNat 1) (.ofNat 0) (.ofNat (Nat.succ (Nat.succ (Nat.succ (Nat.succ (Nat.succ (Nat.succ (Nat.succ (Nat.succ (Nat.succ (Nat.succ (Nat.succ (Nat.succ (Nat.succ m)))))))))))))) := fun τ => by kernel_rfl
theorem w137 : LawT [(s139, false)] (.ofNat 1) (.ofNat 1) (.ofNat 0) := fun τ => by kernel_rfl
theorem w138 : LawT [(s140, false)] (.ofNat 1) (.ofNat 1) (.ofNat 1) := fun τ => by kernel_rfl
theorem w139 : LawT [(s141, false)] (.ofNat 1) (.ofNat 1) (.ofNat 2) := fun τ => by kernel_rfl
theorem w140 : LawT [(s142, false)] (.ofNat 1) (.ofNat 1) (.ofNat 3) := fun τ => by kernel_rfl
theorem w141 : LawT [(s143, false)] (.ofNat 1) (.ofNat 1) (.ofNat 4) := fun τ => by kernel_rfl
theorem w142 : LawT [(s144, true), (s145, true), (s146, false)] (.ofNat 1) (.ofNat 1) (.ofNat 5) := fun τ => by kernel_rfl
theorem w143 : LawT [(s147, true), (s148, true), (s149, false)] (.ofNat 1) (.ofNat 1) (.ofNat 6) := fun τ => by kernel_rfl
theorem w144 : LawT [(s150, false)] (.ofNat 1) (.ofNat 1) (.ofNat 7) := fun τ => by kernel_rfl
theorem w145 : LawT [(s151, false)] (.ofNat 1) (.ofNat 1) (.ofNat 8) := fun τ => by kernel_rfl
theorem w146 : LawT [(s152, false)] (.ofNat 1) (.ofNat 1) (.ofNat 9) := fun τ => by kernel_rfl
theorem w147 : LawT [(s153, false)] (.ofNat 1) (.ofNat 1) (.ofNat 10) := fun τ => by kernel_rfl
theorem w148 : LawT [(s154, true), (s155, true), (s156, false)] (.ofNat 1) (.ofNat 1) (.ofNat 11) := fun τ => by kernel_rfl
theorem w149 : LawT [(s157, true), (s158, true), (s159, false)] (.ofNat 1) (.ofNat 1) (.ofNat 12) := fun τ => by kernel_rfl
theorem w150 (m : Nat) : LawT [] (.ofNat 1) (.ofNat 1) (.negSucc m) := fun τ => by kernel_rfl
theorem w151 (m : Nat) : LawT [] (.ofNat 1) (.ofNat 1) (.ofNat (Nat.succ (Nat.succ (Nat.succ (Nat.succ (Nat.succ (Nat.succ (Nat.succ (Nat.succ (Nat.succ (Nat.succ (Nat.succ (Nat.succ (Nat.succ m)))))))))))))) := fun τ => by kernel_rfl
theorem w152 : LawT [(s160, false)] (.ofNat 1) (.ofNat 2) (.ofNat 0) := fun τ => by kernel_rfl
theorem w153 : LawT [(s161, false)] (.ofNat 1) (.ofNat 2) (.ofNat 1) := fun τ => by kernel_rfl
theorem w154 : LawT [(s162, false)] (.ofNat 1) (.ofNat 2) (.ofNat 2) := fun τ => by kernel_rfl
theorem w155 : LawT [(s163, false)] (.ofNat 1) (.ofNat 2) (.ofNat 3) := fun τ => by kernel_rfl
theorem w156 : LawT [(s164, false)] (.ofNat 1) (.ofNat 2) (.ofNat 4) := fun τ => by kernel_rfl
theorem w157 : LawT [(s165, false)] (.ofNat 1) (.ofNat 2) (.ofNat 5) := fun τ => by kernel_rfl
theorem w158 : LawT [(s166, false)] (.ofNat 1) (.ofNat 2) (.ofNat 6) := fun τ => by kernel_rfl
theorem w159 : LawT [(s167, false)] (.ofNat 1) (.ofNat 2) (.ofNat 7) := fun τ => by kernel_rfl
theorem w160 : LawT [(s168, false)] (.ofNat 1) (.ofNat 2) (.ofNat 8) := fun τ => by kernel_rfl
theorem w161 : LawT [(s169, false)] (.ofNat 1) (.ofNat 2) (.ofNat 9) := fun τ => by kernel_rfl
theorem w162 : LawT [(s170, false)] (.ofNat 1) (.ofNat 2) (.ofNat 10) := fun τ => by kernel_rfl
theorem w163 : LawT [(s171, false)] (.ofNat 1) (.ofNat 2) (.ofNat 11) := fun τ => by kernel_rfl
theorem w164 : LawT [(s172, false)] (.ofNat 1) (.ofNat 2) (.ofNat 12) := fun τ => by kernel_rfl
theorem w165 (m : Nat) : LawT [] (.ofNat 1) (.ofNat 2) (.negSucc m) := fun τ => by kernel_rfl
theorem w166 (m : Nat) : LawT [] (.ofNat 1) (.ofNat 2) (.ofNat (Nat.succ (Nat.succ (Nat.succ (Nat.succ (Nat.succ (Nat.succ (Nat.succ (Nat.succ (Nat.succ (Nat.succ (Nat.succ (Nat.succ (Nat.succ m)))))))))))))) := fun τ => by kernel_rfl
theorem w167 : LawT [(s173, false)] (.ofNat 1) (.ofNat 3) (.ofNat 0) := fun τ => by kernel_rfl
theorem w168 : LawT [(s174, false)] (.ofNat 1) (.ofNat 3) (.ofNat 1) := fun τ => by kernel_rfl
theorem w169 : LawT [(s175, false)] (.ofNat 1) (.ofNat 3) (.ofNat 2) := fun τ => by kernel_rfl
theorem w170 : LawT [(s176, false)] (.ofNat 1) (.ofNat 3) (.ofNat 3) := fun τ => by kernel_rfl
theorem w171 : LawT [(s177, false)] (.ofNat 1) (.ofNat 3) (.ofNat 4) := fun τ => by kernel_rfl
theorem w172 : LawT [(s178, false)] (.ofNat 1) (.ofNat 3) (.ofNat 5) := fun τ => by kernel_rfl
theorem w173 : LawT [(s179, false)] (.ofNat 1) (.ofNat 3) (.ofNat 6) := fun τ => by kernel_rfl
theorem w174 : LawT [(s180, false)] (.ofNat 1) (.ofNat 3) (.ofNat 7) := fun τ => by kernel_rfl
theorem w175 : LawT [(s181, false)] (.ofNat 1) (.ofNat 3) (.ofNat 8) := fun τ => by kernel_rfl
theorem w176 : LawT [(s182, false)] (.ofNat 1) (.ofNat 3) (.ofNat 9) := fun τ => by kernel_rfl
theorem w177 : LawT [(s183, false)] (.ofNat 1) (.ofNat 3) (.ofNat 10) := fun τ => by kernel_rfl
theorem w178 : LawT [(s184, false)] (.ofNat 1) (.ofNat 3) (.ofNat 11) := fun τ => by kernel_rfl
theorem w179 : LawT [(s185, false)] (.ofNat 1) (.ofNat 3) (.ofNat 12) := fun τ => by kernel_rfl
theorem w180 (m : Nat) : LawT [] (.ofNat 1) (.ofNat 3) (.negSucc m) := fun τ => by kernel_rfl
theorem w181 (m : Nat) : LawT [] (.ofNat 1) (.ofNat 3) (.ofNat (Nat.succ (Nat.succ (Nat.succ (Nat.succ (Nat.succ (Nat.succ (Nat.succ (Nat.succ (Nat.succ (Nat.succ (Nat.succ (Nat.succ (Nat.succ m)))))))))))))) := fun τ => by kernel_rfl
theorem w182 : LawT [(s186, false)] (.ofNat 1) (.ofNat 4) (.ofNat 0) := fun τ => by kernel_rfl
theorem w183 : LawT [(s187, false)] (.ofNat 1) (.ofNat 4) (.ofNat 1) := fun τ => by kernel_rfl
theorem w184 : LawT [(s188, false)] (.ofNat 1) (.ofNat 4) (.ofNat 2) := fun τ => by kernel_rfl
theorem w185 : LawT [(s189, false)] (.ofNat 1) (.ofNat 4) (.ofNat 3) := fun τ => by kernel_rfl
theorem w186 : LawT [(s190, false)] (.ofNat 1) (.ofNat 4) (.ofNat 4) := fun τ => by kernel_rfl
theorem w187 : LawT [(s191, false)] (.ofNat 1) (.ofNat 4) (.ofNat 5) := fun τ => by kernel_rfl
theorem w188 : LawT [(s192, false)] (.ofNat 1) (.ofNat 4) (.ofNat 6) := fun τ => by kernel_rfl
theorem w189 : LawT [(s193, false)] (.ofNat 1) (.ofNat 4) (.ofNat 7) := fun τ => by kernel_rfl
theorem w190 : LawT [(s194, false)] (.ofNat 1) (.ofNat 4) (.ofNat 8) := fun τ => by kernel_rfl
theorem w191 : LawT [(s195, false)] (.ofNat 1) (.ofNat 4) (.ofNat 9) := fun τ => by kernel_rfl
theorem w192 : LawT [(s196, false)] (.ofNat 1) (.ofNat 4) (.ofNat 10) := fun τ => by kernel_rfl
theorem w193 : LawT [(s197, false)] (.ofNat 1) (.ofNat 4) (.ofNat 11) := fun τ => by kernel_rfl
theorem w194 : LawT [(s198, false)] (.ofNat 1) (.ofNat 4) (.ofNat 12) := fun τ => by kernel_rfl
theorem w195 (m : Nat) : LawT [] (.ofNat 1) (.ofNat 4) (.negSucc m) := fun τ => by kernel_rfl
theorem w196 (m : Nat) : LawT [] (.ofNat 1) (.ofNat 4) (.ofNat (Nat.succ (Nat.succ (Nat.succ (Nat.succ (Nat.succ (Nat.succ (Nat.succ (Nat.succ (Nat.succ (Nat.succ (Nat.succ (Nat.succ (Nat.succ m)))))))))))))) := fun τ => by kernel_rfl
theorem w197 : LawT [(s199, false)] (.ofNat 1) (.ofNat 5) (.ofNat 0) := fun τ => by kernel_rfl
theorem w198 : LawT [(s200, false)] (.ofNat 1) (.ofNat 5) (.ofNat 1) := fun τ => by kernel_rfl
theorem w199 : LawT [(s201, false)] (.ofNat 1) (.ofNat 5) (.ofNat 2) := fun τ => by kernel_rfl
theorem w200 : LawT [(s202, false)] (.ofNat 1) (.ofNat 5) (.ofNat 3) := fun τ => by kernel_rfl
theorem w201 : LawT [(s203, false)] (.ofNat 1) (.ofNat 5) (.ofNat 4) := fun τ => by kernel_rfl
theorem w202 : LawT [(s204, false)] (.ofNat 1) (.ofNat 5) (.ofNat 5) := fun τ => by kernel_rfl
theorem w203 : LawT [(s205, false)] (.ofNat 1) (.ofNat 5) (.ofNat 6) := fun τ => by kernel_rfl
theorem w204 : LawT [(s206, false)] (.ofNat 1) (.ofNat 5) (.ofNat 7) := fun τ => by kernel_rfl
theorem w205 : LawT [(s207, false)] (.ofNat 1) (.ofNat 5) (.ofNat 8) := fun τ => by kernel_rfl
theorem w206 : LawT [(s208, false)] (.ofNat 1) (.ofNat 5) (.ofNat 9) := fun τ => by kernel_rfl
theorem w207 : LawT [(s209, false)] (.ofNat 1) (.ofNat 5) (.ofNat 10) := fun τ => by kernel_rfl
theorem w208 : LawT [(s210, false)] (.ofNat 1) (.ofNat 5) (.ofNat 11) := fun τ => by kernel_rfl
theorem w209 : LawT [(s211, false)] (.ofNat 1) (.ofNat 5) (.ofNat 12) := fun τ => by kernel_rfl
theorem w210 (m : Nat) : LawT [] (.ofNat 1) (.ofNat 5) (.negSucc m) := fun τ => by kernel_rfl
theorem w211 (m : Nat) : LawT [] (.ofNat 1) (.ofNat 5) (.ofNat (Nat.succ (Nat.succ (Nat.succ (Nat.succ (Nat.succ (Nat.succ (Nat.succ (Nat.succ (Nat.succ (Nat.succ (Nat.succ (Nat.succ (Nat.succ m)))))))))))))) := fun τ => by kernel_rfl
theorem w212 : LawT [(s212, false)] (.ofNat 1) (.ofNat 6) (.ofNat 0) := fun τ => by kernel_rfl
theorem w213 : LawT [(s213, false)] (.ofNat 1) (.ofNat 6) (.ofNat 1) := fun τ => by kernel_rfl
theorem w214 : LawT [(s214, false)] (.ofNat 1) (.ofNat 6) (.ofNat 2) := fun τ => by kernel_rfl
theorem w215 : LawT [(s215, false)] (.ofNat 1) (.ofNat 6) (.ofNat 3) := fun τ => by kernel_rfl
theorem w216 : LawT [(s216, false)] (.ofNat 1) (.ofNat 6) (.ofNat 4) := fun τ => by kernel_rfl
theorem w217 : LawT [(s217, false)] (.ofNat 1) (.ofNat 6) (.ofNat 5) := fun τ => by kernel_rfl
theorem w218 : LawT [(s218, false)] (.ofNat 1) (.ofNat 6) (.ofNat 6) := fun τ => by kernel_rfl
theorem w219 : LawT [(s219, false)] (.ofNat 1) (.ofNat 6) (.ofNat 7) := fun τ => by kernel_rfl
theorem w220 : LawT [(s220, false)] (.ofNat 1) (.ofNat 6) (.ofNat 8) := fun τ => by kernel_rfl
theorem w221 : LawT [(s221, false)] (.ofNat 1) (.ofNat 6) (.ofNat 9) := fun τ => by kernel_rfl
theorem w222 : LawT [(s222, false)] (.ofNat 1) (.ofNat 6) (.ofNat 10) := fun τ => by kernel_rfl
theorem w223 : LawT [(s223, false)] (.ofNat 1) (.ofNat 6) (.ofNat 11) := fun τ => by kernel_rfl
theorem w224 : LawT [(s224, false)] (.ofNat 1) (.ofNat 6) (.ofNat 12) := fun τ => by kernel_rfl
theorem w225 (m : Nat) : LawT [] (.ofNat 1) (.ofNat 6) (.negSucc m) := fun τ => by kernel_rfl
theorem w226 (m : Nat) : LawT [] (.ofNat 1) (.ofNat 6) (.ofNat (Nat.succ (Nat.succ (Nat.succ (Nat.succ (Nat.succ (Nat.succ (Nat.succ (Nat.succ (Nat.succ (Nat.succ (Nat.succ (Nat.succ (Nat.succ m)))))))))))))) := fun τ => by kernel_rfl
theorem w227 : LawT [(s225, false)] (.ofNat 1) (.ofNat 7) (.ofNat 0) := fun τ => by kernel_rfl
theorem w228 : LawT [(s226, false)] (.ofNat 1) (.ofNat 7) (.ofNat 1) := fun τ => by kernel_rfl
theorem w229 : LawT [(s227, false)] (.ofNat 1) (.ofNat 7) (.ofNat 2) := fun τ => by kernel_rfl
theorem w230 : LawT [(s228, false)] (.ofNat 1) (.ofNat 7) (.ofNat 3) := fun τ => by kernel_rfl
theorem w231 : LawT [(s229, false)] (.ofNat 1) (.ofNat 7) (.ofNat 4) := fun τ => by kernel_rfl
theorem w232 : LawT [(s230, false)] (.ofNat 1) (.ofNat 7) (.ofNat 5) := fun τ => by kernel_rfl
theorem w233 : LawT [(s231, false)] (.ofNat 1) (.ofNat 7) (.ofNat 6) := fun τ => by kernel_rfl
theorem w234 : LawT [(s232, false)] (.ofNat 1) (.ofNat 7) (.ofNat 7) := fun τ => by kernel_rfl
theorem w235 : LawT [(s233, false)] (.ofNat 1) (.ofNat 7) (.ofNat 8) := fun τ => by kernel_rfl
theorem w236 : LawT [(s234, false)] (.ofNat 1) (.ofNat 7) (.ofNat 9) := fun τ => by kernel_rfl
theorem w237 : LawT [(s235, false)] (.ofNat 1) (.ofNat 7) (.ofNat 10) := fun τ => by kernel_rfl
theorem w238 : LawT [(s236, false)] (.ofNat 1) (.ofNat 7) (.ofNat 11) := fun τ => by kernel_rfl
theorem w239 : LawT [(s237, false)] (.ofNat 1) (.ofNat 7) (.ofNat 12) := fun τ => by kernel_rfl
theorem w240 (m : Nat) : LawT [] (.ofNat 1) (.ofNat 7) (.negSucc m) := fun τ => by kernel_rfl
theorem w241 (m : Nat) : LawT [] (.ofNat 1) (.ofNat 7) (.ofNat (Nat.succ (Nat.succ (Nat.succ (Nat.succ (Nat.succ (Nat.succ (Nat.succ (Nat.succ (Nat.succ (Nat.succ (Nat.succ (Nat.succ (Nat.succ m)))))))))))))) := fun τ => by kernel_rfl
theorem w242 (m : Nat) (c : Int) : LawT [] (.ofNat 1) (.negSucc m) c := fun τ => by kernel_rfl
theorem w243 (m : Nat) (c : Int) : LawT [] (.ofNat 1) (.ofNat (Nat.succ (Nat.succ (Nat.succ (Nat.succ (Nat.succ (Nat.succ (Nat.succ (Nat.succ m))))))))) c := fun τ => by kernel_rfl
theorem w244 : LawT [(s238, false)] (.ofNat 2) (.ofNat 0) (.ofNat 0) := fun τ => by kernel_rfl
end Go.Proofs.YtaembckojgfnlaaGreatDoor
