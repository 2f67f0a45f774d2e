import Derived.Test.YtcboiapggnmpfaaGreatDoorQbw
import Derived.Test.YtcboiapggnmpfaaGreatDoorQbv
namespace Go.Proofs.YtcboiapggnmpfaaGreatDoor
set_option maxRecDepth 100000
set_option maxHeartbeats 4000000
set_option linter.unusedSimpArgs false
set_option linter.unusedVariables false
open Go.RowKit
theorem small_w0 (w:World):Calls Tryz.prog 24 #[.int .i64 0] w fun e w'=>e=.returned (.string (numS 0))∧w'=w:=by
 go_enter Tryz.func24,Tryz.ntmps24
 go_wp2
 go_ret
 exact ⟨by kernel_rfl,rfl⟩
theorem small_w1 (w:World):Calls Tryz.prog 24 #[.int .i64 1] w fun e w'=>e=.returned (.string (numS 1))∧w'=w:=by
 go_enter Tryz.func24,Tryz.ntmps24
 go_wp2
 go_ret
 exact ⟨by kernel_rfl,rfl⟩
theorem small_w2 (w:World):Calls Tryz.prog 24 #[.int .i64 2] w fun e w'=>e=.returned (.string (numS 2))∧w'=w:=by
 go_enter Tryz.func24,Tryz.ntmps24
 go_wp2
 go_ret
 exact ⟨by kernel_rfl,rfl⟩
theorem small_w3 (w:World):Calls Tryz.prog 24 #[.int .i64 3] w fun e w'=>e=.returned (.string (numS 3))∧w'=w:=by
 go_enter Tryz.func24,Tryz.ntmps24
 go_wp2
 go_ret
 exact ⟨by kernel_rfl,rfl⟩
theorem small_w4 (w:World):Calls Tryz.prog 24 #[.int .i64 4] w fun e w'=>e=.returned (.string (numS 4))∧w'=w:=by
 go_enter Tryz.func24,Tryz.ntmps24
 go_wp2
 go_ret
 exact ⟨by kernel_rfl,rfl⟩
theorem small_w5 (w:World):Calls Tryz.prog 24 #[.int .i64 5] w fun e w'=>e=.returned (.string (numS 5))∧w'=w:=by
 go_enter Tryz.func24,Tryz.ntmps24
 go_wp2
 go_ret
 exact ⟨by kernel_rfl,rfl⟩
theorem small_w6 (w:World):Calls Tryz.prog 24 #[.int .i64 6] w fun e w'=>e=.returned (.string (numS 6))∧w'=w:=by
 go_enter Tryz.func24,Tryz.ntmps24
 go_wp2
 go_ret
 exact ⟨by kernel_rfl,rfl⟩
theorem small_w7 (w:World):Calls Tryz.prog 24 #[.int .i64 7] w fun e w'=>e=.returned (.string (numS 7))∧w'=w:=by
 go_enter Tryz.func24,Tryz.ntmps24
 go_wp2
 go_ret
 exact ⟨by kernel_rfl,rfl⟩
theorem small_w8 (w:World):Calls Tryz.prog 24 #[.int .i64 8] w fun e w'=>e=.returned (.string (numS 8))∧w'=w:=by
 go_enter Tryz.func24,Tryz.ntmps24
 go_wp2
 go_ret
 exact ⟨by kernel_rfl,rfl⟩
theorem small_w9 (w:World):Calls Tryz.prog 24 #[.int .i64 9] w fun e w'=>e=.returned (.string (numS 9))∧w'=w:=by
 go_enter Tryz.func24,Tryz.ntmps24
 go_wp2
 go_ret
 exact ⟨by kernel_rfl,rfl⟩
theorem small_w10 (w:World):Calls Tryz.prog 24 #[.int .i64 10] w fun e w'=>e=.returned (.string (numS 10))∧w'=w:=by
 go_enter Tryz.func24,Tryz.ntmps24
 go_wp2
 go_ret
 exact ⟨by kernel_rfl,rfl⟩
theorem small_w11 (w:World):Calls Tryz.prog 24 #[.int .i64 11] w fun e w'=>e=.returned (.string (numS 11))∧w'=w:=by
 go_enter Tryz.func24,Tryz.ntmps24
 go_wp2
 go_ret
 exact ⟨by kernel_rfl,rfl⟩
theorem small_w12 (w:World):Calls Tryz.prog 24 #[.int .i64 12] w fun e w'=>e=.returned (.string (numS 12))∧w'=w:=by
 go_enter Tryz.func24,Tryz.ntmps24
 go_wp2
 go_ret
 exact ⟨by kernel_rfl,rfl⟩
theorem small_w13 (w:World):Calls Tryz.prog 24 #[.int .i64 13] w fun e w'=>e=.returned (.string (numS 13))∧w'=w:=by
 go_enter Tryz.func24,Tryz.ntmps24
 go_wp2
 go_ret
 exact ⟨by kernel_rfl,rfl⟩
theorem small_w14 (w:World):Calls Tryz.prog 24 #[.int .i64 14] w fun e w'=>e=.returned (.string (numS 14))∧w'=w:=by
 go_enter Tryz.func24,Tryz.ntmps24
 go_wp2
 go_ret
 exact ⟨by kernel_rfl,rfl⟩
theorem small_w15 (w:World):Calls Tryz.prog 24 #[.int .i64 15] w fun e w'=>e=.returned (.string (numS 15))∧w'=w:=by
 go_enter Tryz.func24,Tryz.ntmps24
 go_wp2
 go_ret
 exact ⟨by kernel_rfl,rfl⟩
theorem small_w16 (w:World):Calls Tryz.prog 24 #[.int .i64 16] w fun e w'=>e=.returned (.string (numS 16))∧w'=w:=by
 go_enter Tryz.func24,Tryz.ntmps24
 go_wp2
 go_ret
 exact ⟨by kernel_rfl,rfl⟩
theorem small_w17 (w:World):Calls Tryz.prog 24 #[.int .i64 17] w fun e w'=>e=.returned (.string (numS 17))∧w'=w:=by
 go_enter Tryz.func24,Tryz.ntmps24
 go_wp2
 go_ret
 exact ⟨by kernel_rfl,rfl⟩
theorem small_w18 (w:World):Calls Tryz.prog 24 #[.int .i64 18] w fun e w'=>e=.returned (.string (numS 18))∧w'=w:=by
 go_enter Tryz.func24,Tryz.ntmps24
 go_wp2
 go_ret
 exact ⟨by kernel_rfl,rfl⟩
theorem small_w19 (w:World):Calls Tryz.prog 24 #[.int .i64 19] w fun e w'=>e=.returned (.string (numS 19))∧w'=w:=by
 go_enter Tryz.func24,Tryz.ntmps24
 go_wp2
 go_ret
 exact ⟨by kernel_rfl,rfl⟩
theorem small_w20 (w:World):Calls Tryz.prog 24 #[.int .i64 20] w fun e w'=>e=.returned (.string (numS 20))∧w'=w:=by
 go_enter Tryz.func24,Tryz.ntmps24
 go_wp2
 go_ret
 exact ⟨by kernel_rfl,rfl⟩
theorem small_w21 (w:World):Calls Tryz.prog 24 #[.int .i64 21] w fun e w'=>e=.returned (.string (numS 21))∧w'=w:=by
 go_enter Tryz.func24,Tryz.ntmps24
 go_wp2
 go_ret
 exact ⟨by kernel_rfl,rfl⟩
theorem small_w22 (w:World):Calls Tryz.prog 24 #[.int .i64 22] w fun e w'=>e=.returned (.string (numS 22))∧w'=w:=by
 go_enter Tryz.func24,Tryz.ntmps24
 go_wp2
 go_ret
 exact ⟨by kernel_rfl,rfl⟩
theorem small_w23 (w:World):Calls Tryz.prog 24 #[.int .i64 23] w fun e w'=>e=.returned (.string (numS 23))∧w'=w:=by
 go_enter Tryz.func24,Tryz.ntmps24
 go_wp2
 go_ret
 exact ⟨by kernel_rfl,rfl⟩
theorem small_w24 (w:World):Calls Tryz.prog 24 #[.int .i64 24] w fun e w'=>e=.returned (.string (numS 24))∧w'=w:=by
 go_enter Tryz.func24,Tryz.ntmps24
 go_wp2
 go_ret
 exact ⟨by kernel_rfl,rfl⟩
theorem small_w25 (w:World):Calls Tryz.prog 24 #[.int .i64 25] w fun e w'=>e=.returned (.string (numS 25))∧w'=w:=by
 go_enter Tryz.func24,Tryz.ntmps24
 go_wp2
 go_ret
 exact ⟨by kernel_rfl,rfl⟩
theorem small_w26 (w:World):Calls Tryz.prog 24 #[.int .i64 26] w fun e w'=>e=.returned (.string (numS 26))∧w'=w:=by
 go_enter Tryz.func24,Tryz.ntmps24
 go_wp2
 go_ret
 exact ⟨by kernel_rfl,rfl⟩
theorem small_w27 (w:World):Calls Tryz.prog 24 #[.int .i64 27] w fun e w'=>e=.returned (.string (numS 27))∧w'=w:=by
 go_enter Tryz.func24,Tryz.ntmps24
 go_wp2
 go_ret
 exact ⟨by kernel_rfl,rfl⟩
theorem small_w28 (w:World):Calls Tryz.prog 24 #[.int .i64 28] w fun e w'=>e=.returned (.string (numS 28))∧w'=w:=by
 go_enter Tryz.func24,Tryz.ntmps24
 go_wp2
 go_ret
 exact ⟨by kernel_rfl,rfl⟩
theorem small_w29 (w:World):Calls Tryz.prog 24 #[.int .i64 29] w fun e w'=>e=.returned (.string (numS 29))∧w'=w:=by
 go_enter Tryz.func24,Tryz.ntmps24
 go_wp2
 go_ret
 exact ⟨by kernel_rfl,rfl⟩
theorem small_w30 (w:World):Calls Tryz.prog 24 #[.int .i64 30] w fun e w'=>e=.returned (.string (numS 30))∧w'=w:=by
 go_enter Tryz.func24,Tryz.ntmps24
 go_wp2
 go_ret
 exact ⟨by kernel_rfl,rfl⟩
theorem small_w31 (w:World):Calls Tryz.prog 24 #[.int .i64 31] w fun e w'=>e=.returned (.string (numS 31))∧w'=w:=by
 go_enter Tryz.func24,Tryz.ntmps24
 go_wp2
 go_ret
 exact ⟨by kernel_rfl,rfl⟩
theorem small_w32 (w:World):Calls Tryz.prog 24 #[.int .i64 32] w fun e w'=>e=.returned (.string (numS 32))∧w'=w:=by
 go_enter Tryz.func24,Tryz.ntmps24
 go_wp2
 go_ret
 exact ⟨by kernel_rfl,rfl⟩
theorem small_w33 (w:World):Calls Tryz.prog 24 #[.int .i64 33] w fun e w'=>e=.returned (.string (numS 33))∧w'=w:=by
 go_enter Tryz.func24,Tryz.ntmps24
 go_wp2
 go_ret
 exact ⟨by kernel_rfl,rfl⟩
theorem small_w34 (w:World):Calls Tryz.prog 24 #[.int .i64 34] w fun e w'=>e=.returned (.string (numS 34))∧w'=w:=by
 go_enter Tryz.func24,Tryz.ntmps24
 go_wp2
 go_ret
 exact ⟨by kernel_rfl,rfl⟩
theorem small_w35 (w:World):Calls Tryz.prog 24 #[.int .i64 35] w fun e w'=>e=.returned (.string (numS 35))∧w'=w:=by
 go_enter Tryz.func24,Tryz.ntmps24
 go_wp2
 go_ret
 exact ⟨by kernel_rfl,rfl⟩
theorem small_w36 (w:World):Calls Tryz.prog 24 #[.int .i64 36] w fun e w'=>e=.returned (.string (numS 36))∧w'=w:=by
 go_enter Tryz.func24,Tryz.ntmps24
 go_wp2
 go_ret
 exact ⟨by kernel_rfl,rfl⟩
theorem small_w37 (w:World):Calls Tryz.prog 24 #[.int .i64 37] w fun e w'=>e=.returned (.string (numS 37))∧w'=w:=by
 go_enter Tryz.func24,Tryz.ntmps24
 go_wp2
 go_ret
 exact ⟨by kernel_rfl,rfl⟩
theorem small_w38 (w:World):Calls Tryz.prog 24 #[.int .i64 38] w fun e w'=>e=.returned (.string (numS 38))∧w'=w:=by
 go_enter Tryz.func24,Tryz.ntmps24
 go_wp2
 go_ret
 exact ⟨by kernel_rfl,rfl⟩
theorem small_w39 (w:World):Calls Tryz.prog 24 #[.int .i64 39] w fun e w'=>e=.returned (.string (numS 39))∧w'=w:=by
 go_enter Tryz.func24,Tryz.ntmps24
 go_wp2
 go_ret
 exact ⟨by kernel_rfl,rfl⟩
theorem small_w40 (w:World):Calls Tryz.prog 24 #[.int .i64 40] w fun e w'=>e=.returned (.string (numS 40))∧w'=w:=by
 go_enter Tryz.func24,Tryz.ntmps24
 go_wp2
 go_ret
 exact ⟨by kernel_rfl,rfl⟩
theorem small_w41 (w:World):Calls Tryz.prog 24 #[.int .i64 41] w fun e w'=>e=.returned (.string (numS 41))∧w'=w:=by
 go_enter Tryz.func24,Tryz.ntmps24
 go_wp2
 go_ret
 exact ⟨by kernel_rfl,rfl⟩
theorem small_w42 (w:World):Calls Tryz.prog 24 #[.int .i64 42] w fun e w'=>e=.returned (.string (numS 42))∧w'=w:=by
 go_enter Tryz.func24,Tryz.ntmps24
 go_wp2
 go_ret
 exact ⟨by kernel_rfl,rfl⟩
theorem small_w43 (w:World):Calls Tryz.prog 24 #[.int .i64 43] w fun e w'=>e=.returned (.string (numS 43))∧w'=w:=by
 go_enter Tryz.func24,Tryz.ntmps24
 go_wp2
 go_ret
 exact ⟨by kernel_rfl,rfl⟩
theorem small_w44 (w:World):Calls Tryz.prog 24 #[.int .i64 44] w fun e w'=>e=.returned (.string (numS 44))∧w'=w:=by
 go_enter Tryz.func24,Tryz.ntmps24
 go_wp2
 go_ret
 exact ⟨by kernel_rfl,rfl⟩
theorem small_w45 (w:World):Calls Tryz.prog 24 #[.int .i64 45] w fun e w'=>e=.returned (.string (numS 45))∧w'=w:=by
 go_enter Tryz.func24,Tryz.ntmps24
 go_wp2
 go_ret
 exact ⟨by kernel_rfl,rfl⟩
theorem small_w46 (w:World):Calls Tryz.prog 24 #[.int .i64 46] w fun e w'=>e=.returned (.string (numS 46))∧w'=w:=by
 go_enter Tryz.func24,Tryz.ntmps24
 go_wp2
 go_ret
 exact ⟨by kernel_rfl,rfl⟩
theorem small_w47 (w:World):Calls Tryz.prog 24 #[.int .i64 47] w fun e w'=>e=.returned (.string (numS 47))∧w'=w:=by
 go_enter Tryz.func24,Tryz.ntmps24
 go_wp2
 go_ret
 exact ⟨by kernel_rfl,rfl⟩
theorem small_w48 (w:World):Calls Tryz.prog 24 #[.int .i64 48] w fun e w'=>e=.returned (.string (numS 48))∧w'=w:=by
 go_enter Tryz.func24,Tryz.ntmps24
 go_wp2
 go_ret
 exact ⟨by kernel_rfl,rfl⟩
theorem small_w49 (w:World):Calls Tryz.prog 24 #[.int .i64 49] w fun e w'=>e=.returned (.string (numS 49))∧w'=w:=by
 go_enter Tryz.func24,Tryz.ntmps24
 go_wp2
 go_ret
 exact ⟨by kernel_rfl,rfl⟩
theorem small_w50 (w:World):Calls Tryz.prog 24 #[.int .i64 50] w fun e w'=>e=.returned (.string (numS 50))∧w'=w:=by
 go_enter Tryz.func24,Tryz.ntmps24
 go_wp2
 go_ret
 exact ⟨by kernel_rfl,rfl⟩
theorem small_w51 (w:World):Calls Tryz.prog 24 #[.int .i64 51] w fun e w'=>e=.returned (.string (numS 51))∧w'=w:=by
 go_enter Tryz.func24,Tryz.ntmps24
 go_wp2
 go_ret
 exact ⟨by kernel_rfl,rfl⟩
theorem small_w52 (w:World):Calls Tryz.prog 24 #[.int .i64 52] w fun e w'=>e=.returned (.string (numS 52))∧w'=w:=by
 go_enter Tryz.func24,Tryz.ntmps24
 go_wp2
 go_ret
 exact ⟨by kernel_rfl,rfl⟩
theorem small_w53 (w:World):Calls Tryz.prog 24 #[.int .i64 53] w fun e w'=>e=.returned (.string (numS 53))∧w'=w:=by
 go_enter Tryz.func24,Tryz.ntmps24
 go_wp2
 go_ret
 exact ⟨by kernel_rfl,rfl⟩
theorem small_w54 (w:World):Calls Tryz.prog 24 #[.int .i64 54] w fun e w'=>e=.returned (.string (numS 54))∧w'=w:=by
 go_enter Tryz.func24,Tryz.ntmps24
 go_wp2
 go_ret
 exact ⟨by kernel_rfl,rfl⟩
theorem small_w55 (w:World):Calls Tryz.prog 24 #[.int .i64 55] w fun e w'=>e=.returned (.string (numS 55))∧w'=w:=by
 go_enter Tryz.func24,Tryz.ntmps24
 go_wp2
 go_ret
 exact ⟨by kernel_rfl,rfl⟩
theorem small_w56 (w:World):Calls Tryz.prog 24 #[.int .i64 56] w fun e w'=>e=.returned (.string (numS 56))∧w'=w:=by
 go_enter Tryz.func24,Tryz.ntmps24
 go_wp2
 go_ret
 exact ⟨by kernel_rfl,rfl⟩
theorem small_w57 (w:World):Calls Tryz.prog 24 #[.int .i64 57] w fun e w'=>e=.returned (.string (numS 57))∧w'=w:=by
 go_enter Tryz.func24,Tryz.ntmps24
 go_wp2
 go_ret
 exact ⟨by kernel_rfl,rfl⟩
theorem small_w58 (w:World):Calls Tryz.prog 24 #[.int .i64 58] w fun e w'=>e=.returned (.string (numS 58))∧w'=w:=by
 go_enter Tryz.func24,Tryz.ntmps24
 go_wp2
 go_ret
 exact ⟨by kernel_rfl,rfl⟩
theorem small_w59 (w:World):Calls Tryz.prog 24 #[.int .i64 59] w fun e w'=>e=.returned (.string (numS 59))∧w'=w:=by
 go_enter Tryz.func24,Tryz.ntmps24
 go_wp2
 go_ret
 exact ⟨by kernel_rfl,rfl⟩
theorem small_num:∀d:Nat,d<60→∀w:World,Calls Tryz.prog 24 #[.int .i64 (d:Int)] w fun e w'=>e=.returned (.string (numS d))∧w'=w:=by
 intro d hd
 match d,hd with
 | 0,_=>exact small_w0
 | 1,_=>exact small_w1
 | 2,_=>exact small_w2
 | 3,_=>exact small_w3
 | 4,_=>exact small_w4
 | 5,_=>exact small_w5
 | 6,_=>exact small_w6
 | 7,_=>exact small_w7
 | 8,_=>exact small_w8
 | 9,_=>exact small_w9
 | 10,_=>exact small_w10
 | 11,_=>exact small_w11
 | 12,_=>exact small_w12
 | 13,_=>exact small_w13
 | 14,_=>exact small_w14
 | 15,_=>exact small_w15
 | 16,_=>exact small_w16
 | 17,_=>exact small_w17
 | 18,_=>exact small_w18
 | 19,_=>exact small_w19
 | 20,_=>exact small_w20
 | 21,_=>exact small_w21
 | 22,_=>exact small_w22
 | 23,_=>exact small_w23
 | 24,_=>exact small_w24
 | 25,_=>exact small_w25
 | 26,_=>exact small_w26
 | 27,_=>exact small_w27
 | 28,_=>exact small_w28
 | 29,_=>exact small_w29
 | 30,_=>exact small_w30
 | 31,_=>exact small_w31
 | 32,_=>exact small_w32
 | 33,_=>exact small_w33
 | 34,_=>exact small_w34
 | 35,_=>exact small_w35
 | 36,_=>exact small_w36
 | 37,_=>exact small_w37
 | 38,_=>exact small_w38
 | 39,_=>exact small_w39
 | 40,_=>exact small_w40
 | 41,_=>exact small_w41
 | 42,_=>exact small_w42
 | 43,_=>exact small_w43
 | 44,_=>exact small_w44
 | 45,_=>exact small_w45
 | 46,_=>exact small_w46
 | 47,_=>exact small_w47
 | 48,_=>exact small_w48
 | 49,_=>exact small_w49
 | 50,_=>exact small_w50
 | 51,_=>exact small_w51
 | 52,_=>exact small_w52
 | 53,_=>exact small_w53
 | 54,_=>exact small_w54
 | 55,_=>exact small_w55
 | 56,_=>exact small_w56
 | 57,_=>exact small_w57
 | 58,_=>exact small_w58
 | 59,_=>exact small_w59
 | (d+60),hd=>omega
theorem itoaP_any (d:Nat) (hd:d<60) (w:World):Calls Tryz.prog 7 #[.int .i64 (d:Int)] w fun e w'=>e=.returned (.string (numS d))∧w'=w:=by
 have HS:Hid (∀w:World,Calls Tryz.prog 24 #[.int .i64 (d:Int)] w fun e w'=>e=.returned (.string (numS d))∧w'=w):=small_num d hd
 have hd0:(0:Int)≤(d:Int):=by omega
 have hd1:(d:Int)<100:=by omega
 generalize numS d=S at *
 have H0:Hid (Calls Tryz.prog 19 #[.int .i64 (d:Int),.int .i64 10] w fun e w'=>e=.returned (.string S)∧w'=w):=by
  show Calls _ _ _ _ _
  go_enter Tryz.func19,Tryz.ntmps19
  go_wp2_with fail
  refine (HS.out _).mono ?_
  rintro e w1 ⟨rfl,rfl⟩
  go_wp2
  go_ret
  exact ⟨rfl,rfl⟩
 have H1:Hid (Calls Tryz.prog 13 #[.int .i64 (d:Int)] w fun e w'=>e=.returned (.string S)∧w'=w):=by
  show Calls _ _ _ _ _
  go_enter Tryz.func13,Tryz.ntmps13
  go_wp2_with fail
  refine H0.out.mono ?_
  rintro e w1 ⟨rfl,rfl⟩
  go_wp2
  go_ret
  exact ⟨rfl,rfl⟩
 go_enter Tryz.func7,Tryz.ntmps7
 go_wp2_with fail
 refine H1.out.mono ?_
 rintro e w1 ⟨rfl,rfl⟩
 go_wp2
 go_ret
 exact ⟨rfl,rfl⟩
theorem prow_snoc (L:List Evt) (n d:Int) (i:Nat) (e:Evt) (k:Nat):prow L n d i e (k+1)=prow L n d i e k++(if pcond L n d e k=true then [⟨(k:Int),(i:Int),(k:Int),-1,-1,-1⟩] else []):=by
 unfold prow
 rw [List.range_succ,List.filter_append,List.map_append]
 congr 1
 by_cases h:pcond L n d e k=true
 ·rw [if_pos h];simp [h]
 ·rw [if_neg h];simp [h]
theorem prow_len (L:List Evt) (n d:Int) (i:Nat) (e:Evt) (k:Nat):(prow L n d i e k).length≤k:=by
 unfold prow
 rw [List.length_map]
 exact Nat.le_trans (List.length_filter_le _ _) (by simp)
theorem prow_no {L:List Evt} {n d:Int} {i:Nat} {e:Evt} (h:¬e.kind=1) (k:Nat):prow L n d i e k=[]:=by
 unfold prow
 rw [List.map_eq_nil_iff,List.filter_eq_nil_iff]
 intro j _
 unfold pcond
 split
 ·simp [h]
 ·simp
theorem prow_ok (L:List Evt) (n d:Int) {i:Nat} (e:Evt) {k:Nat} (hi:i≤1000) (hk:k≤1000):∀m∈prow L n d i e k,MtOk m:=by
 intro m hm
 obtain ⟨j,hj,rfl⟩:=List.mem_map.1 hm
 have hj2:j<k:=List.mem_range.1 (List.mem_filter.1 hj).1
 constructor <;> (unfold In64;first|(show _∧_;dsimp only;omega)|omega)
theorem p_outs {sc:List Int} {n d:Int} (hd:0≤d) {L:List Evt} (hL:GoesE sc 0 L) (hl:L.length≤40) :
  outS sc (pcode n d) (beginsS (pcode n d)) 200 200 ⟨[],0,0,false⟩ L=(List.range L.length).map (fun i=>prow L n d i (evD L i) i):=by
 apply List.ext_getElem?
 intro i
 by_cases hi:i<L.length
 ·obtain ⟨e,he⟩:∃e,L[i]? = some e:=⟨L[i],by simp [hi]⟩
  rw [p_out hd hL hl he,List.getElem?_map,List.getElem?_range hi]
  simp [evD,he]
 ·rw [List.getElem?_eq_none (by rw [outS_len];omega),List.getElem?_eq_none (by simp;omega)]
theorem mtsC_get0 (l:List Mt):∀(i j:Nat) (x:Mt),l[i]? = some x→j<6→(mtsC l)[i*6+j]? = (mtC x)[j]?:=by
 induction l with
 | nil=>intro i j x h;simp at h
 | cons y r ih =>
  intro i j x h hj
  have e:mtsC (y::r)=mtC y++mtsC r:=by simp [mtsC]
  have hl:(mtC y).length=6:=rfl
  rw [e]
  cases i with
  | zero=>simp at h;subst h;rw [List.getElem?_append_left (by omega)];simp
  | succ i =>
   simp at h
   rw [List.getElem?_append_right (by omega),hl]
   have:(i+1)*6+j - 6=i*6+j:=by omega
   rw [this];exact ih i j x h hj
theorem mts_of0 {w:World} {base:Nat} {mp:Option Addr} {mc:Nat} {l:List Mt} (h:w.ownsRow base 35 6 (.slice mp l.length mc) l.length (mtsC l)):MtsP w mp l:=by
 intro hne
 obtain ⟨g,c',e⟩:=owns_some h (List.length_pos_iff.2 hne)
 simp only [Value.slice.injEq,true_and] at e
 obtain ⟨rfl,rfl⟩:=e
 refine ⟨g,rfl,(h.lt g rfl).2,?_⟩
 intro i x hx j v hv
 have hj:j<6:=by have:=(List.getElem?_eq_some_iff.1 hv).1;simpa [mtC] using this
 exact owns_cell h (i*6+j) (by rw [mtsC_get0 l i j x hx hj];exact hv)
theorem sameAll_same (p p':Option Addr) (cap cap' B B':Nat) (hs hs':List (Value×List Mt)) (w:World) (hm:Mds w B (.slice p hs.length cap) hs) (hm':Mds w B' (.slice p' hs.length cap') hs') (he:hs.map (·.2)=hs'.map (·.2)) (hL:hs.length≤1000) (hok:∀x∈hs,x.2.length≤1000∧∀m∈x.2,MtOk m) :
  Calls Tryz.prog 9 #[.slice p hs.length cap,.slice p' hs.length cap'] w fun e w'=>e=.returned (.bool true)∧Nw w w':=by
 have hll:hs.length=hs'.length:=by have:=congrArg List.length he;simpa using this
 have HM:Hid (Mds w B (.slice p hs.length cap) hs):=hm
 have HM':Hid (Mds w B' (.slice p' hs.length cap') hs'):=hm'
 have HE:Hid (hs.map (·.2)=hs'.map (·.2)):=he
 have HLL:Hid (hs.length=hs'.length):=hll
 have HOK:Hid (∀x∈hs,x.2.length≤1000∧∀m∈x.2,MtOk m):=hok
 clear hm hm' he hok hll
 go_enter Tryz.func9,Tryz.ntmps9
 go_wp2
 go_loopg [5] hs.length (fun m v5 wr=>∃i:Nat,v5=.int .i64 i∧m=hs.length - i∧i≤hs.length∧Nw w wr)
 case atStart=>exact ⟨0,rfl,rfl,by omega,Kp.refl _ _⟩
 case round =>
  obtain ⟨i,rfl,hmm,hil,hN⟩:=hrel
  have HMM:Hid (_=hs.length - i):=hmm
  have HN:Hid (Nw w wr):=hN
  clear hmm
  by_cases hi:i<hs.length
  ·obtain ⟨x,hx⟩:∃x,hs[i]? = some x:=⟨hs[i],by simp [hi]⟩
   obtain ⟨x',hx'⟩:∃x',hs'[i]? = some x':=⟨hs'[i]'(by rw [←HLL.out];exact hi),by simp [←HLL.out,hi]⟩
   obtain ⟨mv,ml⟩:=x
   obtain ⟨mv',ml'⟩:=x'
   have hml:ml'=ml:=by
    have h1:(hs.map (·.2))[i]? = some ml:=by simp [hx]
    rw [HE.out] at h1
    simp [hx'] at h1
    exact h1
   subst hml
   have hme:=HM.out.each _ (List.mem_of_getElem? hx)
   have hme':=HM'.out.each _ (List.mem_of_getElem? hx')
   simp only at hme hme'
   obtain ⟨mp,mc,e2⟩:=ownsLenX hme
   obtain ⟨mp',mc',e2'⟩:=ownsLenX hme'
   subst e2
   subst e2'
   have hrow:=HM.out.row
   have hrow':=HM'.out.row
   obtain ⟨ga,ca,e3⟩:=owns_some hrow (by omega)
   rw [←HLL.out] at hrow'
   obtain ⟨gb,cb,e3'⟩:=owns_some hrow' (by omega)
   simp only [Value.slice.injEq,true_and] at e3 e3'
   obtain ⟨rfl,rfl⟩:=e3
   obtain ⟨rfl,rfl⟩:=e3'
   have HCA:Hid (∀W,Nw wr W→W.cell? ⟨ga,i,none⟩=some (.slice mp ml'.length mc)):=by
    intro W kW
    exact owns_cell (owns_kp hrow (HN.out.trans kW) (fun _ _ h=>h)) i (by simp [hx])
   have HCB:Hid (∀W,Nw wr W→W.cell? ⟨gb,i,none⟩=some (.slice mp' ml'.length mc')):=by
    intro W kW
    exact owns_cell (owns_kp hrow' (HN.out.trans kW) (fun _ _ h=>h)) i (by simp [hx'])
   obtain ⟨hok1,hok2⟩:=HOK.out _ (List.mem_of_getElem? hx)
   simp only at hok1 hok2
   have HSM:Hid (∀W,Nw wr W→Calls Tryz.prog 17 #[.slice mp ml'.length mc,.slice mp' ml'.length mc'] W fun e w'=>e=.returned (.bool true)∧Nw W w'):=fun W kW =>
    sameM_same mp mp' mc mc' ml' W (mts_of0 (owns_kp hme (HN.out.trans kW) (fun _ _ h=>h))) (mts_of0 (owns_kp hme' (HN.out.trans kW) (fun _ _ h=>h))) (by omega) hok2
   clear hme hme' hrow hrow' hx hx' hok1 hok2 hN
   have hii:(i:Int)<hs.length:=by omega
   have hz:0≤(i:Int):=by omega
   go_wp2
   refine wp_region_held_drew (S:=fun W=>Nw wr W) (by kernel_rfl) ((Kp.refl _ _).drew) (fun hHeld => ?_)
   refine tM 0 rfl (fun W hSW=>by (try dsimp only at hSW);go_simp;rw []) hHeld ?_
   refine tM 1 rfl (fun W hSW=>by (try dsimp only at hSW);go_simp;rw []) hHeld ?_
   refine tM 2 rfl (fun W hSW=>by (try dsimp only at hSW);go_simp;rw []) hHeld ?_
   refine tM 3 rfl (fun W hSW=>by (try dsimp only at hSW);have hq:=HCA.out W hSW;go_simp;rw []) hHeld ?_
   refine tM 4 rfl (fun W hSW=>by (try dsimp only at hSW);go_simp;rw []) hHeld ?_
   refine tM 5 rfl (fun W hSW=>by (try dsimp only at hSW);go_simp;rw []) hHeld ?_
   refine tM 6 rfl (fun W hSW=>by (try dsimp only at hSW);go_simp;rw []) hHeld ?_
   refine tM 7 rfl (fun W hSW=>by (try dsimp only at hSW);have hq:=HCB.out W hSW;go_simp;rw []) hHeld ?_
   refine wpAnyH_ready (rs:=[8]) (by kernel_rfl) (by simp) ?_
   refine consL rfl (fun K hK => ?_) AllReadyH.nil
   go_simp
   refine (HSM.out _ ((Kp.refl _ _).drew)).mono ?_
   rintro e2 w2 ⟨rfl,k2⟩
   have k8:Nw wr w2:=((Kp.refl _ _).drew).trans k2
   try dsimp only
   refine hK.out _ _ k8 (fun _ => ?_)
   clear hK K
   try simp only [Act.put,sA,sZ,sS]
   refine tM 9 rfl (fun W hSW=>by (try dsimp only at hSW);go_simp;rw []) k8 ?_
   refine wpAnyH_done (by kernel_rfl) ?_ _
   have K8:Hid (Nw w w2):=HN.out.trans k8
   clear k8 k2 HSM HCA HCB
   go_wp2
   go_roundg (hs.length - (i+1))
   case measure=>rw [HMM.out];omega
   case rel=>exact ⟨i+1,by simp,rfl,by omega,K8.out⟩
  ·have hii:¬(i:Int)<hs.length:=by omega
   go_wp2
   go_ret
   exact ⟨rfl,HN.out⟩
end Go.Proofs.YtcboiapggnmpfaaGreatDoor
