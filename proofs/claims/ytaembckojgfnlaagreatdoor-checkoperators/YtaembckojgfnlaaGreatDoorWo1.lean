import Derived.Test.YtaembckojgfnlaaGreatDoorP2o
set_option linter.all false
namespace Go.Proofs.YtaembckojgfnlaaGreatDoor
open Go Ex
theorem w245 : LawT [(s239, false)] (.ofNat 2) (.ofNat 0) (.ofNat 1) := fun τ => by kernel_rfl
theorem w246 : LawT [(s240, false)] (.ofNat 2) (.ofNat 0) (.ofNat 2) := fun τ => by kernel_rfl
theorem w247 : LawT [(s241, false)] (.ofNat 2) (.ofNat 0) (.ofNat 3) := fun τ => by kernel_rfl
theorem w248 : LawT [(s242, false)] (.ofNat 2) (.ofNat 0) (.ofNat 4) := fun τ => by kernel_rfl
theorem w249 : LawT [(s243, false)] (.ofNat 2) (.ofNat 0) (.ofNat 5) := fun τ => by kernel_rfl
theorem w250 : LawT [(s244, false)] (.ofNat 2) (.ofNat 0) (.ofNat 6) := fun τ => by kernel_rfl
theorem w251 : LawT [(s245, false)] (.ofNat 2) (.ofNat 0) (.ofNat 7) := fun τ => by kernel_rfl
theorem w252 : LawT [(s246, false)] (.ofNat 2) (.ofNat 0) (.ofNat 8) := fun τ => by kernel_rfl
theorem w253 : LawT [(s247, false)] (.ofNat 2) (.ofNat 0) (.ofNat 9) := fun τ => by kernel_rfl
theorem w254 : LawT [(s248, false)] (.ofNat 2) (.ofNat 0) (.ofNat 10) := fun τ => by kernel_rfl
theorem w255 : LawT [(s249, false)] (.ofNat 2) (.ofNat 0) (.ofNat 11) := fun τ => by kernel_rfl
theorem w256 : LawT [(s250, false)] (.ofNat 2) (.ofNat 0) (.ofNat 12) := fun τ => by kernel_rfl
theorem w257 (m : Nat) : LawT [] (.ofNat 2) (.ofNat 0) (.negSucc m) := fun τ => by kernel_rfl
theorem w258 (m : Nat) : LawT [] (.ofNat 2) (.ofNat 0) (.ofNat (Nat.succ (Nat.succ (Nat.succ (Nat.succ (Nat.succ (Nat.succ (Nat.succ (Nat.succ (Nat.succ (Nat.succ (Nat.succ (Nat.succ (Nat.succ m)))))))))))))) := fun τ => by kernel_rfl
theorem w259 : LawT [(s251, false)] (.ofNat 2) (.ofNat 1) (.ofNat 0) := fun τ => by kernel_rfl
theorem w260 : LawT [(s252, false)] (.ofNat 2) (.ofNat 1) (.ofNat 1) := fun τ => by kernel_rfl
theorem w261 : LawT [(s253, false)] (.ofNat 2) (.ofNat 1) (.ofNat 2) := fun τ => by kernel_rfl
theorem w262 : LawT [(s254, false)] (.ofNat 2) (.ofNat 1) (.ofNat 3) := fun τ => by kernel_rfl
theorem w263 : LawT [(s255, false)] (.ofNat 2) (.ofNat 1) (.ofNat 4) := fun τ => by kernel_rfl
theorem w264 : LawT [(s256, false)] (.ofNat 2) (.ofNat 1) (.ofNat 5) := fun τ => by kernel_rfl
theorem w265 : LawT [(s257, false)] (.ofNat 2) (.ofNat 1) (.ofNat 6) := fun τ => by kernel_rfl
theorem w266 : LawT [(s258, false)] (.ofNat 2) (.ofNat 1) (.ofNat 7) := fun τ => by kernel_rfl
theorem w267 : LawT [(s259, false)] (.ofNat 2) (.ofNat 1) (.ofNat 8) := fun τ => by kernel_rfl
theorem w268 : LawT [(s260, false)] (.ofNat 2) (.ofNat 1) (.ofNat 9) := fun τ => by kernel_rfl
theorem w269 : LawT [(s261, false)] (.ofNat 2) (.ofNat 1) (.ofNat 10) := fun τ => by kernel_rfl
theorem w270 : LawT [(s262, false)] (.ofNat 2) (.ofNat 1) (.ofNat 11) := fun τ => by kernel_rfl
theorem w271 : LawT [(s263, false)] (.ofNat 2) (.ofNat 1) (.ofNat 12) := fun τ => by kernel_rfl
theorem w272 (m : Nat) : LawT [] (.ofNat 2) (.ofNat 1) (.negSucc m) := fun τ => by kernel_rfl
theorem w273 (m : Nat) : LawT [] (.ofNat 2) (.ofNat 1) (.ofNat (Nat.succ (Nat.succ (Nat.succ (Nat.succ (Nat.succ (Nat.succ (Nat.succ (Nat.succ (Nat.succ (Nat.succ (Nat.succ (Nat.succ (Nat.succ m)))))))))))))) := fun τ => by kernel_rfl
theorem w274 : LawT [(s264, true), (s265, true), (s266, false)] (.ofNat 2) (.ofNat 2) (.ofNat 0) := fun τ => by kernel_rfl
theorem w275 : LawT [(s267, false)] (.ofNat 2) (.ofNat 2) (.ofNat 1) := fun τ => by kernel_rfl
theorem w276 : LawT [(s268, false)] (.ofNat 2) (.ofNat 2) (.ofNat 2) := fun τ => by kernel_rfl
theorem w277 : LawT [(s269, false)] (.ofNat 2) (.ofNat 2) (.ofNat 3) := fun τ => by kernel_rfl
theorem w278 : LawT [(s270, false)] (.ofNat 2) (.ofNat 2) (.ofNat 4) := fun τ => by kernel_rfl
theorem w279 : LawT [(s271, true), (s272, true), (s273, false)] (.ofNat 2) (.ofNat 2) (.ofNat 5) := fun τ => by kernel_rfl
theorem w280 : LawT [(s274, true), (s275, true), (s276, false)] (.ofNat 2) (.ofNat 2) (.ofNat 6) := fun τ => by kernel_rfl
theorem w281 : LawT [(s277, true), (s278, true), (s279, false)] (.ofNat 2) (.ofNat 2) (.ofNat 7) := fun τ => by kernel_rfl
theorem w282 : LawT [(s280, true), (s281, true), (s282, false)] (.ofNat 2) (.ofNat 2) (.ofNat 8) := fun τ => by kernel_rfl
theorem w283 : LawT [(s283, true), (s284, true), (s285, false)] (.ofNat 2) (.ofNat 2) (.ofNat 9) := fun τ => by kernel_rfl
theorem w284 : LawT [(s286, true), (s287, true), (s288, false)] (.ofNat 2) (.ofNat 2) (.ofNat 10) := fun τ => by kernel_rfl
theorem w285 : LawT [(s289, false)] (.ofNat 2) (.ofNat 2) (.ofNat 11) := fun τ => by kernel_rfl
theorem w286 : LawT [(s290, false)] (.ofNat 2) (.ofNat 2) (.ofNat 12) := fun τ => by kernel_rfl
theorem w287 (m : Nat) : LawT [] (.ofNat 2) (.ofNat 2) (.negSucc m) := fun τ => by kernel_rfl
theorem w288 (m : Nat) : LawT [] (.ofNat 2) (.ofNat 2) (.ofNat (Nat.succ (Nat.succ (Nat.succ (Nat.succ (Nat.succ (Nat.succ (Nat.succ (Nat.succ (Nat.succ (Nat.succ (Nat.succ (Nat.succ (Nat.succ m)))))))))))))) := fun τ => by kernel_rfl
theorem w289 : LawT [(s291, false)] (.ofNat 2) (.ofNat 3) (.ofNat 0) := fun τ => by kernel_rfl
theorem w290 : LawT [(s292, false)] (.ofNat 2) (.ofNat 3) (.ofNat 1) := fun τ => by kernel_rfl
theorem w291 : LawT [(s293, false)] (.ofNat 2) (.ofNat 3) (.ofNat 2) := fun τ => by kernel_rfl
theorem w292 : LawT [(s294, false)] (.ofNat 2) (.ofNat 3) (.ofNat 3) := fun τ => by kernel_rfl
theorem w293 : LawT [(s295, false)] (.ofNat 2) (.ofNat 3) (.ofNat 4) := fun τ => by kernel_rfl
theorem w294 : LawT [(s296, false)] (.ofNat 2) (.ofNat 3) (.ofNat 5) := fun τ => by kernel_rfl
theorem w295 : LawT [(s297, false)] (.ofNat 2) (.ofNat 3) (.ofNat 6) := fun τ => by kernel_rfl
theorem w296 : LawT [(s298, false)] (.ofNat 2) (.ofNat 3) (.ofNat 7) := fun τ => by kernel_rfl
theorem w297 : LawT [(s299, false)] (.ofNat 2) (.ofNat 3) (.ofNat 8) := fun τ => by kernel_rfl
theorem w298 : LawT [(s300, false)] (.ofNat 2) (.ofNat 3) (.ofNat 9) := fun τ => by kernel_rfl
theorem w299 : LawT [(s301, false)] (.ofNat 2) (.ofNat 3) (.ofNat 10) := fun τ => by kernel_rfl
theorem w300 : LawT [(s302, false)] (.ofNat 2) (.ofNat 3) (.ofNat 11) := fun τ => by kernel_rfl
theorem w301 : LawT [(s303, false)] (.ofNat 2) (.ofNat 3) (.ofNat 12) := fun τ => by kernel_rfl
theorem w302 (m : Nat) : LawT [] (.ofNat 2) (.ofNat 3) (.negSucc m) := fun τ => by kernel_rfl
theorem w303 (m : Nat) : LawT [] (.ofNat 2) (.ofNat 3) (.ofNat (Nat.succ (Nat.succ (Nat.succ (Nat.succ (Nat.succ (Nat.succ (Nat.succ (Nat.succ (Nat.succ (Nat.succ (Nat.succ (Nat.succ (Nat.succ m)))))))))))))) := fun τ => by kernel_rfl
theorem w304 : LawT [(s304, false)] (.ofNat 2) (.ofNat 4) (.ofNat 0) := fun τ => by kernel_rfl
theorem w305 : LawT [(s305, false)] (.ofNat 2) (.ofNat 4) (.ofNat 1) := fun τ => by kernel_rfl
theorem w306 : LawT [(s306, false)] (.ofNat 2) (.ofNat 4) (.ofNat 2) := fun τ => by kernel_rfl
theorem w307 : LawT [(s307, false)] (.ofNat 2) (.ofNat 4) (.ofNat 3) := fun τ => by kernel_rfl
theorem w308 : LawT [(s308, false)] (.ofNat 2) (.ofNat 4) (.ofNat 4) := fun τ => by kernel_rfl
theorem w309 : LawT [(s309, false)] (.ofNat 2) (.ofNat 4) (.ofNat 5) := fun τ => by kernel_rfl
theorem w310 : LawT [(s310, false)] (.ofNat 2) (.ofNat 4) (.ofNat 6) := fun τ => by kernel_rfl
theorem w311 : LawT [(s311, false)] (.ofNat 2) (.ofNat 4) (.ofNat 7) := fun τ => by kernel_rfl
theorem w312 : LawT [(s312, false)] (.ofNat 2) (.ofNat 4) (.ofNat 8) := fun τ => by kernel_rfl
theorem w313 : LawT [(s313, false)] (.ofNat 2) (.ofNat 4) (.ofNat 9) := fun τ => by kernel_rfl
theorem w314 : LawT [(s314, false)] (.ofNat 2) (.ofNat 4) (.ofNat 10) := fun τ => by kernel_rfl
theorem w315 : LawT [(s315, false)] (.ofNat 2) (.ofNat 4) (.ofNat 11) := fun τ => by kernel_rfl
theorem w316 : LawT [(s316, false)] (.ofNat 2) (.ofNat 4) (.ofNat 12) := fun τ => by kernel_rfl
theorem w317 (m : Nat) : LawT [] (.ofNat 2) (.ofNat 4) (.negSucc m) := fun τ => by kernel_rfl
theorem w318 (m : Nat) : LawT [] (.ofNat 2) (.ofNat 4) (.ofNat (Nat.succ (Nat.succ (Nat.succ (Nat.succ (Nat.succ (Nat.succ (Nat.succ (Nat.succ (Nat.succ (Nat.succ (Nat.succ (Nat.succ (Nat.succ m)))))))))))))) := fun τ => by kernel_rfl
theorem w319 : LawT [(s317, false)] (.ofNat 2) (.ofNat 5) (.ofNat 0) := fun τ => by kernel_rfl
theorem w320 : LawT [(s318, false)] (.ofNat 2) (.ofNat 5) (.ofNat 1) := fun τ => by kernel_rfl
theorem w321 : LawT [(s319, false)] (.ofNat 2) (.ofNat 5) (.ofNat 2) := fun τ => by kernel_rfl
theorem w322 : LawT [(s320, false)] (.ofNat 2) (.ofNat 5) (.ofNat 3) := fun τ => by kernel_rfl
theorem w323 : LawT [(s321, false)] (.ofNat 2) (.ofNat 5) (.ofNat 4) := fun τ => by kernel_rfl
theorem w324 : LawT [(s322, false)] (.ofNat 2) (.ofNat 5) (.ofNat 5) := fun τ => by kernel_rfl
theorem w325 : LawT [(s323, false)] (.ofNat 2) (.ofNat 5) (.ofNat 6) := fun τ => by kernel_rfl
theorem w326 : LawT [(s324, false)] (.ofNat 2) (.ofNat 5) (.ofNat 7) := fun τ => by kernel_rfl
theorem w327 : LawT [(s325, false)] (.ofNat 2) (.ofNat 5) (.ofNat 8) := fun τ => by kernel_rfl
theorem w328 : LawT [(s326, false)] (.ofNat 2) (.ofNat 5) (.ofNat 9) := fun τ => by kernel_rfl
theorem w329 : LawT [(s327, false)] (.ofNat 2) (.ofNat 5) (.ofNat 10) := fun τ => by kernel_rfl
theorem w330 : LawT [(s328, false)] (.ofNat 2) (.ofNat 5) (.ofNat 11) := fun τ => by kernel_rfl
theorem w331 : LawT [(s329, false)] (.ofNat 2) (.ofNat 5) (.ofNat 12) := fun τ => by kernel_rfl
theorem w332 (m : Nat) : LawT [] (.ofNat 2) (.ofNat 5) (.negSucc m) := fun τ => by kernel_rfl
theorem w333 (m : Nat) : LawT [] (.ofNat 2) (.ofNat 5) (.ofNat (Nat.succ (Nat.succ (Nat.succ (Nat.succ (Nat.succ (Nat.succ (Nat.succ (Nat.succ (Nat.succ (Nat.succ (Nat.succ (Nat.succ (Nat.succ m)))))))))))))) := fun τ => by kernel_rfl
theorem w334 : LawT [(s330, false)] (.ofNat 2) (.ofNat 6) (.ofNat 0) := fun τ => by kernel_rfl
theorem w335 : LawT [(s331, false)] (.ofNat 2) (.ofNat 6) (.ofNat 1) := fun τ => by kernel_rfl
theorem w336 : LawT [(s332, false)] (.ofNat 2) (.ofNat 6) (.ofNat 2) := fun τ => by kernel_rfl
theorem w337 : LawT [(s333, false)] (.ofNat 2) (.ofNat 6) (.ofNat 3) := fun τ => by kernel_rfl
theorem w338 : LawT [(s334, false)] (.ofNat 2) (.ofNat 6) (.ofNat 4) := fun τ => by kernel_rfl
theorem w339 : LawT [(s335, false)] (.ofNat 2) (.ofNat 6) (.ofNat 5) := fun τ => by kernel_rfl
theorem w340 : LawT [(s336, false)] (.ofNat 2) (.ofNat 6) (.ofNat 6) := fun τ => by kernel_rfl
theorem w341 : LawT [(s337, false)] (.ofNat 2) (.ofNat 6) (.ofNat 7) := fun τ => by kernel_rfl
theorem w342 : LawT [(s338, false)] (.ofNat 2) (.ofNat 6) (.ofNat 8) := fun τ => by kernel_rfl
theorem w343 : LawT [(s339, false)] (.ofNat 2) (.ofNat 6) (.ofNat 9) := fun τ => by kernel_rfl
theorem w344 : LawT [(s340, false)] (.ofNat 2) (.ofNat 6) (.ofNat 10) := fun τ => by kernel_rfl
theorem w345 : LawT [(s341, false)] (.ofNat 2) (.ofNat 6) (.ofNat 11) := fun τ => by kernel_rfl
theorem w346 : LawT [(s342, false)] (.ofNat 2) (.ofNat 6) (.ofNat 12) := fun τ => by kernel_rfl
theorem w347 (m : Nat) : LawT [] (.ofNat 2) (.ofNat 6) (.negSucc m) := fun τ => by kernel_rfl
theorem w348 (m : Nat) : LawT [] (.ofNat 2) (.ofNat 6) (.ofNat (Nat.succ (Nat.succ (Nat.succ (Nat.succ (Nat.succ (Nat.succ (Nat.succ (Nat.succ (Nat.succ (Nat.succ (Nat.succ (Nat.succ (Nat.succ m)))))))))))))) := fun τ => by kernel_rfl
theorem w349 : LawT [(s343, false)] (.ofNat 2) (.ofNat 7) (.ofNat 0) := fun τ => by kernel_rfl
theorem w350 : LawT [(s344, false)] (.ofNat 2) (.ofNat 7) (.ofNat 1) := fun τ => by kernel_rfl
theorem w351 : LawT [(s345, false)] (.ofNat 2) (.ofNat 7) (.ofNat 2) := fun τ => by kernel_rfl
theorem w352 : LawT [(s346, false)] (.ofNat 2) (.ofNat 7) (.ofNat 3) := fun τ => by kernel_rfl
theorem w353 : LawT [(s347, false)] (.ofNat 2) (.ofNat 7) (.ofNat 4) := fun τ => by kernel_rfl
theorem w354 : LawT [(s348, false)] (.ofNat 2) (.ofNat 7) (.ofNat 5) := fun τ => by kernel_rfl
theorem w355 : LawT [(s349, false)] (.ofNat 2) (.ofNat 7) (.ofNat 6) := fun τ => by kernel_rfl
theorem w356 : LawT [(s350, false)] (.ofNat 2) (.ofNat 7) (.ofNat 7) := fun τ => by kernel_rfl
theorem w357 : LawT [(s351, false)] (.ofNat 2) (.ofNat 7) (.ofNat 8) := fun τ => by kernel_rfl
theorem w358 : LawT [(s352, false)] (.ofNat 2) (.ofNat 7) (.ofNat 9) := fun τ => by kernel_rfl
theorem w359 : LawT [(s353, false)] (.ofNat 2) (.ofNat 7) (.ofNat 10) := fun τ => by kernel_rfl
theorem w360 : LawT [(s354, false)] (.ofNat 2) (.ofNat 7) (.ofNat 11) := fun τ => by kernel_rfl
theorem w361 : LawT [(s355, false)] (.ofNat 2) (.ofNat 7) (.ofNat 12) := fun τ => by kernel_rfl
theorem w362 (m : Nat) : LawT [] (.ofNat 2) (.ofNat 7) (.negSucc m) := fun τ => by kernel_rfl
theorem w363 (m : Nat) : LawT [] (.ofNat 2) (.ofNat 7) (.ofNat (Nat.succ (Nat.succ (Nat.succ (Nat.succ (Nat.succ (Nat.succ (Nat.succ (Nat.succ (Nat.succ (Nat.succ (Nat.succ (Nat.succ (Nat.succ m)))))))))))))) := fun τ => by kernel_rfl
theorem w364 (m : Nat) (c : Int) : LawT [] (.ofNat 2) (.negSucc m) c := fun τ => by kernel_rfl
theorem w365 (m : Nat) (c : Int) : LawT [] (.ofNat 2) (.ofNat (Nat.succ (Nat.succ (Nat.succ (Nat.succ (Nat.succ (Nat.succ (Nat.succ (Nat.succ m))))))))) c := fun τ => by kernel_rfl
theorem w366 : LawT [(s356, false)] (.ofNat 3) (.ofNat 0) (.ofNat 0) := fun τ => by kernel_rfl
theorem w367 : LawT [(s357, false)] (.ofNat 3) (.ofNat 0) (.ofNat 1) := fun τ => by kernel_rfl
theorem w368 : LawT [(s358, false)] (.ofNat 3) (.ofNat 0) (.ofNat 2) := fun τ => by kernel_rfl
theorem w369 : LawT [(s359, false)] (.ofNat 3) (.ofNat 0) (.ofNat 3) := fun τ => by kernel_rfl
theorem w370 : LawT [(s360, false)] (.ofNat 3) (.ofNat 0) (.ofNat 4) := fun τ => by kernel_rfl
theorem w371 : LawT [(s361, false)] (.ofNat 3) (.ofNat 0) (.ofNat 5) := fun τ => by kernel_rfl
theorem w372 : LawT [(s362, false)] (.ofNat 3) (.ofNat 0) (.ofNat 6) := fun τ => by kernel_rfl
theorem w373 : LawT [(s363, false)] (.ofNat 3) (.ofNat 0) (.ofNat 7) := fun τ => by kernel_rfl
theorem w374 : LawT [(s364, false)] (.ofNat 3) (.ofNat 0) (.ofNat 8) := fun τ => by kernel_rfl
theorem w375 : LawT [(s365, false)] (.ofNat 3) (.ofNat 0) (.ofNat 9) := fun τ => by kernel_rfl
theorem w376 : LawT [(s366, false)] (.ofNat 3) (.ofNat 0) (.ofNat 10) := fun τ => by kernel_rfl
theorem w377 : LawT [(s367, false)] (.ofNat 3) (.ofNat 0) (.ofNat 11) := fun τ => by kernel_rfl
theorem w378 : LawT [(s368, false)] (.ofNat 3) (.ofNat 0) (.ofNat 12) := fun τ => by kernel_rfl
theorem w379 (m : Nat) : LawT [] (.ofNat 3) (.ofNat 0) (.negSucc m) := fun τ => by kernel_rfl
theorem w380 (m : Nat) : LawT [] (.ofNat 3) (.ofNat 0) (.ofNat (Nat.succ (Nat.succ (Nat.succ (Nat.succ (Nat.succ (Nat.succ (Nat.succ (Nat.succ (Nat.succ (Nat.succ (Nat.succ (Nat.succ (Nat.succ m)))))))))))))) := fun τ => by kernel_rfl
theorem w381 : LawT [(s369, false)] (.ofNat 3) (.ofNat 1) (.ofNat 0) := fun τ => by kernel_rfl
theorem w382 : LawT [(s370, false)] (.ofNat 3) (.ofNat 1) (.ofNat 1) := fun τ => by kernel_rfl
theorem w383 : LawT [(s371, false)] (.ofNat 3) (.ofNat 1) (.ofNat 2) := fun τ => by kernel_rfl
theorem w384 : LawT [(s372, false)] (.ofNat 3) (.ofNat 1) (.ofNat 3) := fun τ => by kernel_rfl
theorem w385 : LawT [(s373, false)] (.ofNat 3) (.ofNat 1) (.ofNat 4) := fun τ => by kernel_rfl
theorem w386 : LawT [(s374, false)] (.ofNat 3) (.ofNat 1) (.ofNat 5) := fun τ => by kernel_rfl
theorem w387 : LawT [(s375, false)] (.ofNat 3) (.ofNat 1) (.ofNat 6) := fun τ => by kernel_rfl
theorem w388 : LawT [(s376, false)] (.ofNat 3) (.ofNat 1) (.ofNat 7) := fun τ => by kernel_rfl
theorem w389 : LawT [(s377, false)] (.ofNat 3) (.ofNat 1) (.ofNat 8) := fun τ => by kernel_rfl
theorem w390 : LawT [(s378, false)] (.ofNat 3) (.ofNat 1) (.ofNat 9) := fun τ => by kernel_rfl
theorem w391 : LawT [(s379, false)] (.ofNat 3) (.ofNat 1) (.ofNat 10) := fun τ => by kernel_rfl
theorem w392 : LawT [(s380, false)] (.ofNat 3) (.ofNat 1) (.ofNat 11) := fun τ => by kernel_rfl
theorem w393 : LawT [(s381, false)] (.ofNat 3) (.ofNat 1) (.ofNat 12) := fun τ => by kernel_rfl
theorem w394 (m : Nat) : LawT [] (.ofNat 3) (.ofNat 1) (.negSucc m) := fun τ => by kernel_rfl
theorem w395 (m : Nat) : LawT [] (.ofNat 3) (.ofNat 1) (.ofNat (Nat.succ (Nat.succ (Nat.succ (Nat.succ (Nat.succ (Nat.succ (Nat.succ (Nat.succ (Nat.succ (Nat.succ (Nat.succ (Nat.succ (Nat.succ m)))))))))))))) := fun τ => by kernel_rfl
theorem w396 : LawT [(s382, false)] (.ofNat 3) (.ofNat 2) (.ofNat 0) := fun τ => by kernel_rfl
theorem w397 : LawT [(s383, false)] (.ofNat 3) (.ofNat 2) (.ofNat 1) := fun τ => by kernel_rfl
theorem w398 : LawT [(s384, false)] (.ofNat 3) (.ofNat 2) (.ofNat 2) := fun τ => by kernel_rfl
theorem w399 : LawT [(s385, false)] (.ofNat 3) (.ofNat 2) (.ofNat 3) := fun τ => by kernel_rfl
theorem w400 : LawT [(s386, false)] (.ofNat 3) (.ofNat 2) (.ofNat 4) := fun τ => by kernel_rfl
theorem w401 : LawT [(s387, false)] (.ofNat 3) (.ofNat 2) (.ofNat 5) := fun τ => by kernel_rfl
theorem w402 : LawT [(s388, false)] (.ofNat 3) (.ofNat 2) (.ofNat 6) := fun τ => by kernel_rfl
theorem w403 : LawT [(s389, false)] (.ofNat 3) (.ofNat 2) (.ofNat 7) := fun τ => by kernel_rfl
theorem w404 : LawT [(s390, false)] (.ofNat 3) (.ofNat 2) (.ofNat 8) := fun τ => by kernel_rfl
theorem w405 : LawT [(s391, false)] (.ofNat 3) (.ofNat 2) (.ofNat 9) := fun τ => by kernel_rfl
theorem w406 : LawT [(s392, false)] (.ofNat 3) (.ofNat 2) (.ofNat 10) := fun τ => by kernel_rfl
theorem w407 : LawT [(s393, false)] (.ofNat 3) (.ofNat 2) (.ofNat 11) := fun τ => by kernel_rfl
theorem w408 : LawT [(s394, false)] (.ofNat 3) (.ofNat 2) (.ofNat 12) := fun τ => by kernel_rfl
theorem w409 (m : Nat) : LawT [] (.ofNat 3) (.ofNat 2) (.negSucc m) := fun τ => by kernel_rfl
theorem w410 (m : Nat) : LawT [] (.ofNat 3) (.ofNat 2) (.ofNat (Nat.succ (Nat.succ (Nat.succ (Nat.succ (Nat.succ (Nat.succ (Nat.succ (Nat.succ (Nat.succ (Nat.succ (Nat.succ (Nat.succ (Nat.succ m)))))))))))))) := fun τ => by kernel_rfl
theorem w411 : LawT [(s395, false)] (.ofNat 3) (.ofNat 3) (.ofNat 0) := fun τ => by kernel_rfl
theorem w412 : LawT [(s396, false)] (.ofNat 3) (.ofNat 3) (.ofNat 1) := fun τ => by kernel_rfl
theorem w413 : LawT [(s397, false)] (.ofNat 3) (.ofNat 3) (.ofNat 2) := fun τ => by kernel_rfl
theorem w414 : LawT [(s398, false)] (.ofNat 3) (.ofNat 3) (.ofNat 3) := fun τ => by kernel_rfl
theorem w415 : LawT [(s399, false)] (.ofNat 3) (.ofNat 3) (.ofNat 4) := fun τ => by kernel_rfl
theorem w416 : LawT [(s400, true), (s401, true), (s402, false)] (.ofNat 3) (.ofNat 3) (.ofNat 5) := fun τ => by kernel_rfl
theorem w417 : LawT [(s403, true), (s404, true), (s405, false)] (.ofNat 3) (.ofNat 3) (.ofNat 6) := fun τ => by kernel_rfl
theorem w418 : LawT [(s406, false)] (.ofNat 3) (.ofNat 3) (.ofNat 7) := fun τ => by kernel_rfl
theorem w419 : LawT [(s407, false)] (.ofNat 3) (.ofNat 3) (.ofNat 8) := fun τ => by kernel_rfl
theorem w420 : LawT [(s408, false)] (.ofNat 3) (.ofNat 3) (.ofNat 9) := fun τ => by kernel_rfl
theorem w421 : LawT [(s409, false)] (.ofNat 3) (.ofNat 3) (.ofNat 10) := fun τ => by kernel_rfl
theorem w422 : LawT [(s410, false)] (.ofNat 3) (.ofNat 3) (.ofNat 11) := fun τ => by kernel_rfl
theorem w423 : LawT [(s411, false)] (.ofNat 3) (.ofNat 3) (.ofNat 12) := fun τ => by kernel_rfl
theorem w424 (m : Nat) : LawT [] (.ofNat 3) (.ofNat 3) (.negSucc m) := fun τ => by kernel_rfl
theorem w425 (m : Nat) : LawT [] (.ofNat 3) (.ofNat 3) (.ofNat (Nat.succ (Nat.succ (Nat.succ (Nat.succ (Nat.succ (Nat.succ (Nat.succ (Nat.succ (Nat.succ (Nat.succ (Nat.succ (Nat.succ (Nat.succ m)))))))))))))) := fun τ => by kernel_rfl
theorem w426 : LawT [(s412, false)] (.ofNat 3) (.ofNat 4) (.ofNat 0) := fun τ => by kernel_rfl
theorem w427 : LawT [(s413, false)] (.ofNat 3) (.ofNat 4) (.ofNat 1) := fun τ => by kernel_rfl
theorem w428 : LawT [(s414, false)] (.ofNat 3) (.ofNat 4) (.ofNat 2) := fun τ => by kernel_rfl
theorem w429 : LawT [(s415, false)] (.ofNat 3) (.ofNat 4) (.ofNat 3) := fun τ => by kernel_rfl
theorem w430 : LawT [(s416, false)] (.ofNat 3) (.ofNat 4) (.ofNat 4) := fun τ => by kernel_rfl
theorem w431 : LawT [(s417, false)] (.ofNat 3) (.ofNat 4) (.ofNat 5) := fun τ => by kernel_rfl
theorem w432 : LawT [(s418, false)] (.ofNat 3) (.ofNat 4) (.ofNat 6) := fun τ => by kernel_rfl
theorem w433 : LawT [(s419, false)] (.ofNat 3) (.ofNat 4) (.ofNat 7) := fun τ => by kernel_rfl
theorem w434 : LawT [(s420, false)] (.ofNat 3) (.ofNat 4) (.ofNat 8) := fun τ => by kernel_rfl
theorem w435 : LawT [(s421, false)] (.ofNat 3) (.ofNat 4) (.ofNat 9) := fun τ => by kernel_rfl
theorem w436 : LawT [(s422, false)] (.ofNat 3) (.ofNat 4) (.ofNat 10) := fun τ => by kernel_rfl
theorem w437 : LawT [(s423, false)] (.ofNat 3) (.ofNat 4) (.ofNat 11) := fun τ => by kernel_rfl
theorem w438 : LawT [(s424, false)] (.ofNat 3) (.ofNat 4) (.ofNat 12) := fun τ => by kernel_rfl
theorem w439 (m : Nat) : LawT [] (.ofNat 3) (.ofNat 4) (.negSucc m) := fun τ => by kernel_rfl
theorem w440 (m : Nat) : LawT [] (.ofNat 3) (.ofNat 4) (.ofNat (Nat.succ (Nat.succ (Nat.succ (Nat.succ (Nat.succ (Nat.succ (Nat.succ (Nat.succ (Nat.succ (Nat.succ (Nat.succ (Nat.succ (Nat.succ m)))))))))))))) := fun τ => by kernel_rfl
theorem w441 : LawT [(s425, false)] (.ofNat 3) (.ofNat 5) (.ofNat 0) := fun τ => by kernel_rfl
theorem w442 : LawT [(s426, false)] (.ofNat 3) (.ofNat 5) (.ofNat 1) := fun τ => by kernel_rfl
theorem w443 : LawT [(s427, false)] (.ofNat 3) (.ofNat 5) (.ofNat 2) := fun τ => by kernel_rfl
theorem w444 : LawT [(s428, false)] (.ofNat 3) (.ofNat 5) (.ofNat 3) := fun τ => by kernel_rfl
theorem w445 : LawT [(s429, false)] (.ofNat 3) (.ofNat 5) (.ofNat 4) := fun τ => by kernel_rfl
theorem w446 : LawT [(s430, false)] (.ofNat 3) (.ofNat 5) (.ofNat 5) := fun τ => by kernel_rfl
theorem w447 : LawT [(s431, false)] (.ofNat 3) (.ofNat 5) (.ofNat 6) := fun τ => by kernel_rfl
theorem w448 : LawT [(s432, false)] (.ofNat 3) (.ofNat 5) (.ofNat 7) := fun τ => by kernel_rfl
theorem w449 : LawT [(s433, false)] (.ofNat 3) (.ofNat 5) (.ofNat 8) := fun τ => by kernel_rfl
theorem w450 : LawT [(s434, false)] (.ofNat 3) (.ofNat 5) (.ofNat 9) := fun τ => by kernel_rfl
theorem w451 : LawT [(s435, false)] (.ofNat 3) (.ofNat 5) (.ofNat 10) := fun τ => by kernel_rfl
theorem w452 : LawT [(s436, false)] (.ofNat 3) (.ofNat 5) (.ofNat 11) := fun τ => by kernel_rfl
theorem w453 : LawT [(s437, false)] (.ofNat 3) (.ofNat 5) (.ofNat 12) := fun τ => by kernel_rfl
theorem w454 (m : Nat) : LawT [] (.ofNat 3) (.ofNat 5) (.negSucc m) := fun τ => by kernel_rfl
theorem w455 (m : Nat) : LawT [] (.ofNat 3) (.ofNat 5) (.ofNat (Nat.succ (Nat.succ (Nat.succ (Nat.succ (Nat.succ (Nat.succ (Nat.succ (Nat.succ (Nat.succ (Nat.succ (Nat.succ (Nat.succ (Nat.succ m)))))))))))))) := fun τ => by kernel_rfl
theorem w456 : LawT [(s438, false)] (.ofNat 3) (.ofNat 6) (.ofNat 0) := fun τ => by kernel_rfl
theorem w457 : LawT [(s439, false)] (.ofNat 3) (.ofNat 6) (.ofNat 1) := fun τ => by kernel_rfl
theorem w458 : LawT [(s440, false)] (.ofNat 3) (.ofNat 6) (.ofNat 2) := fun τ => by kernel_rfl
theorem w459 : LawT [(s441, false)] (.ofNat 3) (.ofNat 6) (.ofNat 3) := fun τ => by kernel_rfl
theorem w460 : LawT [(s442, false)] (.ofNat 3) (.ofNat 6) (.ofNat 4) := fun τ => by kernel_rfl
theorem w461 : LawT [(s443, false)] (.ofNat 3) (.ofNat 6) (.ofNat 5) := fun τ => by kernel_rfl
theorem w462 : LawT [(s444, false)] (.ofNat 3) (.ofNat 6) (.ofNat 6) := fun τ => by kernel_rfl
theorem w463 : LawT [(s445, false)] (.ofNat 3) (.ofNat 6) (.ofNat 7) := fun τ => by kernel_rfl
theorem w464 : LawT [(s446, false)] (.ofNat 3) (.ofNat 6) (.ofNat 8) := fun τ => by kernel_rfl
theorem w465 : LawT [(s447, false)] (.ofNat 3) (.ofNat 6) (.ofNat 9) := fun τ => by kernel_rfl
theorem w466 : LawT [(s448, false)] (.ofNat 3) (.ofNat 6) (.ofNat 10) := fun τ => by kernel_rfl
theorem w467 : LawT [(s449, false)] (.ofNat 3) (.ofNat 6) (.ofNat 11) := fun τ => by kernel_rfl
theorem w468 : LawT [(s450, false)] (.ofNat 3) (.ofNat 6) (.ofNat 12) := fun τ => by kernel_rfl
theorem w469 (m : Nat) : LawT [] (.ofNat 3) (.ofNat 6) (.negSucc m) := fun τ => by kernel_rfl
theorem w470 (m : Nat) : LawT [] (.ofNat 3) (.ofNat 6) (.ofNat (Nat.succ (Nat.succ (Nat.succ (Nat.succ (Nat.succ (Nat.succ (Nat.succ (Nat.succ (Nat.succ (Nat.succ (Nat.succ (Nat.succ (Nat.succ m)))))))))))))) := fun τ => by kernel_rfl
theorem w471 : LawT [(s451, false)] (.ofNat 3) (.ofNat 7) (.ofNat 0) := fun τ => by kernel_rfl
theorem w472 : LawT [(s452, false)] (.ofNat 3) (.ofNat 7) (.ofNat 1) := fun τ => by kernel_rfl
theorem w473 : LawT [(s453, false)] (.ofNat 3) (.ofNat 7) (.ofNat 2) := fun τ => by kernel_rfl
theorem w474 : LawT [(s454, false)] (.ofNat 3) (.ofNat 7) (.ofNat 3) := fun τ => by kernel_rfl
theorem w475 : LawT [(s455, false)] (.ofNat 3) (.ofNat 7) (.ofNat 4) := fun τ => by kernel_rfl
theorem w476 : LawT [(s456, true), (s457, true), (s458, false)] (.ofNat 3) (.ofNat 7) (.ofNat 5) := fun τ => by kernel_rfl
theorem w477 : LawT [(s459, true), (s460, true), (s461, false)] (.ofNat 3) (.ofNat 7) (.ofNat 6) := fun τ => by kernel_rfl
theorem w478 : LawT [(s462, false)] (.ofNat 3) (.ofNat 7) (.ofNat 7) := fun τ => by kernel_rfl
theorem w479 : LawT [(s463, false)] (.ofNat 3) (.ofNat 7) (.ofNat 8) := fun τ => by kernel_rfl
theorem w480 : LawT [(s464, false)] (.ofNat 3) (.ofNat 7) (.ofNat 9) := fun τ => by kernel_rfl
theorem w481 : LawT [(s465, false)] (.ofNat 3) (.ofNat 7) (.ofNat 10) := fun τ => by kernel_rfl
theorem w482 : LawT [(s466, false)] (.ofNat 3) (.ofNat 7) (.ofNat 11) := fun τ => by kernel_rfl
theorem w483 : LawT [(s467, false)] (.ofNat 3) (.ofNat 7) (.ofNat 12) := fun τ => by kernel_rfl
theorem w484 (m : Nat) : LawT [] (.ofNat 3) (.ofNat 7) (.negSucc m) := fun τ => by kernel_rfl
theorem w485 (m : Nat) : LawT [] (.ofNat 3) (.ofNat 7) (.ofNat (Nat.succ (Nat.succ (Nat.succ (Nat.succ (Nat.succ (Nat.succ (Nat.succ (Nat.succ (Nat.succ (Nat.succ (Nat.succ (Nat.succ (Nat.succ m)))))))))))))) := fun τ => by kernel_rfl
theorem w486 (m : Nat) (c : Int) : LawT [] (.ofNat 3) (.negSucc m) c := fun τ => by kernel_rfl
theorem w487 (m : Nat) (c : Int) : LawT [] (.ofNat 3) (.ofNat (Nat.succ (Nat.succ (Nat.succ (Nat.succ (Nat.succ (Nat.succ (Nat.succ (Nat.succ m))))))))) c := fun τ => by kernel_rfl
theorem w488 : LawT [(s468, false)] (.ofNat 4) (.ofNat 0) (.ofNat 0) := fun τ => by kernel_rfl
theorem w489 : LawT [(s469, false)] (.ofNat 4) (.ofNat 0) (.ofNat 1) := fun τ => by kernel_rfl
end Go.Proofs.YtaembckojgfnlaaGreatDoor
