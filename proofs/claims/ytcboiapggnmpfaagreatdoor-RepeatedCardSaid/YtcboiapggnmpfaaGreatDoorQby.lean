import Derived.Test.YtcboiapggnmpfaaGreatDoorQbx
namespace Go.Proofs.YtcboiapggnmpfaaGreatDoor
set_option maxRecDepth 100000
set_option maxHeartbeats 16000000
set_option linter.unusedSimpArgs false
set_option linter.unusedVariables false
open Go.RowKit
theorem Tryz.sizeS17:(Tryz.prog.info? 50).map (·.size)=some 17:=by kernel_rfl
theorem size_smallR:(Tryz.prog.info? 50).map (·.size)=some smallR.toArray.size:=by
 have e:smallR.toArray.size=17:=by simp [smallR]
 rw [e];exact Tryz.sizeS17
theorem smallR_one:∀u∈smallR,u.oneCell'=true:=by
 intro u hu
 simp only [smallR,List.mem_cons,List.not_mem_nil,or_false] at hu
 have:∃n:ByteArray,u=.string n:=by
  rcases hu with h|h|h|h|h|h|h|h|h|h|h|h|h|h|h|h|h <;> exact ⟨_,h⟩
 obtain ⟨n,rfl⟩:=this
 rfl
theorem smallR_any (c:Int) (w:World) (hc:In64 c):Calls Tryz.prog 10 #[.int .i64 c] w fun e w'=>∃s,e=.returned (.string s)∧(s.size≤100∧repAllB s=true)∧Nw w w':=by
 have HP:Hid (∀W,Calls Tryz.prog 6 #[.int .i64 c,.int .i64 17] W fun e w'=>e=.returned (.int .i64 (pickK c 17))∧w'=W):=fun W=>pickK_any c 17 W hc (by omega) (by omega)
 obtain ⟨k,hk⟩:∃k:Nat,pickK c 17=k:=⟨(pickK c 17).toNat,by have:=pickK_lt (c:=c) (n:=17) (by omega);omega⟩
 have hk10:k<17:=by have:=pickK_lt (c:=c) (n:=17) (by omega);omega
 rw [hk] at HP
 obtain ⟨s,hs,hN⟩:=smallR_at k hk10
 have HN:Hid ((s.size≤100∧repAllB s=true)):=hN
 have hB0:Bx (w.alloc (.cells #[.string ⟨#[]⟩,.string ⟨#[]⟩,.string ⟨#[]⟩,.string ⟨#[]⟩,.string ⟨#[]⟩,.string ⟨#[]⟩,.string ⟨#[]⟩,.string ⟨#[]⟩,.string ⟨#[]⟩,.string ⟨#[]⟩,.string ⟨#[]⟩,.string ⟨#[]⟩,.string ⟨#[]⟩,.string ⟨#[]⟩,.string ⟨#[]⟩,.string ⟨#[]⟩,.string ⟨#[]⟩] 50)) w.heap.size [.string ⟨#[]⟩,.string ⟨#[]⟩,.string ⟨#[]⟩,.string ⟨#[]⟩,.string ⟨#[]⟩,.string ⟨#[]⟩,.string ⟨#[]⟩,.string ⟨#[]⟩,.string ⟨#[]⟩,.string ⟨#[]⟩,.string ⟨#[]⟩,.string ⟨#[]⟩,.string ⟨#[]⟩,.string ⟨#[]⟩,.string ⟨#[]⟩,.string ⟨#[]⟩,.string ⟨#[]⟩]:=Bx.new w [.string ⟨#[]⟩,.string ⟨#[]⟩,.string ⟨#[]⟩,.string ⟨#[]⟩,.string ⟨#[]⟩,.string ⟨#[]⟩,.string ⟨#[]⟩,.string ⟨#[]⟩,.string ⟨#[]⟩,.string ⟨#[]⟩,.string ⟨#[]⟩,.string ⟨#[]⟩,.string ⟨#[]⟩,.string ⟨#[]⟩,.string ⟨#[]⟩,.string ⟨#[]⟩,.string ⟨#[]⟩] 50
 have hl0:([.string ⟨#[]⟩,.string ⟨#[]⟩,.string ⟨#[]⟩,.string ⟨#[]⟩,.string ⟨#[]⟩,.string ⟨#[]⟩,.string ⟨#[]⟩,.string ⟨#[]⟩,.string ⟨#[]⟩,.string ⟨#[]⟩,.string ⟨#[]⟩,.string ⟨#[]⟩,.string ⟨#[]⟩,.string ⟨#[]⟩,.string ⟨#[]⟩,.string ⟨#[]⟩,.string ⟨#[]⟩]:List Value).length=smallR.length:=rfl
 have HT0:Hid ((w.alloc (.cells #[.string ⟨#[]⟩,.string ⟨#[]⟩,.string ⟨#[]⟩,.string ⟨#[]⟩,.string ⟨#[]⟩,.string ⟨#[]⟩,.string ⟨#[]⟩,.string ⟨#[]⟩,.string ⟨#[]⟩,.string ⟨#[]⟩,.string ⟨#[]⟩,.string ⟨#[]⟩,.string ⟨#[]⟩,.string ⟨#[]⟩,.string ⟨#[]⟩,.string ⟨#[]⟩,.string ⟨#[]⟩] 50)).there w.heap.size 0 smallR.toArray.size):=hB0.there hl0
 have HB:Hid (Bx ((w.alloc (.cells #[.string ⟨#[]⟩,.string ⟨#[]⟩,.string ⟨#[]⟩,.string ⟨#[]⟩,.string ⟨#[]⟩,.string ⟨#[]⟩,.string ⟨#[]⟩,.string ⟨#[]⟩,.string ⟨#[]⟩,.string ⟨#[]⟩,.string ⟨#[]⟩,.string ⟨#[]⟩,.string ⟨#[]⟩,.string ⟨#[]⟩,.string ⟨#[]⟩,.string ⟨#[]⟩,.string ⟨#[]⟩] 50)).setCells w.heap.size 0 smallR.toArray.toList) w.heap.size smallR):=hB0.put hl0
 have HK:Hid (Nw w ((w.alloc (.cells #[.string ⟨#[]⟩,.string ⟨#[]⟩,.string ⟨#[]⟩,.string ⟨#[]⟩,.string ⟨#[]⟩,.string ⟨#[]⟩,.string ⟨#[]⟩,.string ⟨#[]⟩,.string ⟨#[]⟩,.string ⟨#[]⟩,.string ⟨#[]⟩,.string ⟨#[]⟩,.string ⟨#[]⟩,.string ⟨#[]⟩,.string ⟨#[]⟩,.string ⟨#[]⟩,.string ⟨#[]⟩] 50)).setCells w.heap.size 0 smallR.toArray.toList)):=((Kp.refl _ w).alloc _).trans' (kp_setCells _ 0 _) (by intro b hb h;omega)
 have hcell:=HB.out.cell hs
 have hki:(k:Int)<17:=by omega
 clear hk hs hN HB hB0 hl0
 go_enter Tryz.func10,Tryz.ntmps10
 go_wp2_with (first|(with_reducible (show Go.wpList _ _ _ ({ dst:=_,op:=Op.store 50 _ _,type:=_,pos:=_,after:=_,guard:=_ }::_) _ _);refine wpList_store_mid rfl 50 _ _ rfl w.heap.size 0 smallR.toArray rfl rfl HT0.out size_smallR (all_oneCell_toArray smallR_one) ?_;generalize (w.alloc (.cells #[.string ⟨#[]⟩,.string ⟨#[]⟩,.string ⟨#[]⟩,.string ⟨#[]⟩,.string ⟨#[]⟩,.string ⟨#[]⟩,.string ⟨#[]⟩,.string ⟨#[]⟩,.string ⟨#[]⟩,.string ⟨#[]⟩,.string ⟨#[]⟩,.string ⟨#[]⟩,.string ⟨#[]⟩,.string ⟨#[]⟩,.string ⟨#[]⟩,.string ⟨#[]⟩,.string ⟨#[]⟩] 50)).setCells w.heap.size 0 smallR.toArray.toList=W1 at *)|fail)
 refine (HP.out _).mono ?_
 rintro e1 w1 ⟨rfl,rfl⟩
 go_wp2
 go_ret
 exact ⟨s,rfl,HN.out,HK.out⟩
theorem evsR_get2 (l:List Evt):∀(i j:Nat) (x:Evt),l[i]? = some x→j<5→(evsR l)[i*5+j]? = (evC5 x)[j]?:=by
 induction l with
 | nil=>intro i j x h;simp at h
 | cons y r ih =>
  intro i j x h hj
  have e:evsR (y::r)=evC5 y++evsR r:=by simp [evsR]
  have hl:(evC5 y).length=5:=rfl
  rw [e]
  cases i with
  | zero=>simp at h;subst h;rw [List.getElem?_append_left (by omega)];simp
  | succ i =>
   simp at h
   rw [List.getElem?_append_right (by omega),hl]
   have:(i+1)*5+j - 5=i*5+j:=by omega
   rw [this];exact ih i j x h hj
theorem Eb.evs2 {W0 wr:World} {lp:Option Addr} {n c:Nat} {L:List Evt} (h:Eb W0 wr (.slice lp n c) L):EvsP wr lp L∧(∀g,lp=some ⟨g,0,none⟩→g<wr.heap.size):=by
 refine ⟨?_,?_⟩
 ·intro hne
  obtain ⟨g,c',e⟩:=owns_some h.own (List.length_pos_iff.2 hne)
  simp only [Value.slice.injEq] at e
  obtain ⟨rfl,rfl,rfl⟩:=e
  refine ⟨g,rfl,(h.own.lt g rfl).2,?_⟩
  intro i x hx j v hv
  have hj:j<5:=by have:=(List.getElem?_eq_some_iff.1 hv).1;simpa [evC5] using this
  exact owns_cell h.own (i*5+j) (by rw [evsR_get2 L i j x hx hj];exact hv)
 ·intro g e
  subst e
  exact (h.own.lt g rfl).2
theorem Mds.nw2 {w w':World} {B:Nat} {v:Value} {hs:List (Value×List Mt)} (h:Mds w B v hs) (k:Nw w w'):Mds w' B v hs:=h.kp k (fun _ _ _ h=>h)
theorem tmsS_size (p:ByteArray):∀n,(tmsS p n).size=n*(p.size+2):=by
 intro n
 induction n with
 | zero=>rw [Nat.zero_mul];rfl
 | succ n ih =>
  simp only [tmsS,ByteArray.size_append,ih]
  have e1:(⟨#[40]⟩:ByteArray).size=1:=rfl
  have e2:(⟨#[41]⟩:ByteArray).size=1:=rfl
  rw [e1,e2,Nat.succ_mul]
  omega
theorem tms_le (p:ByteArray) (hp:p.size≤100) (n:Nat) (hn:n≤10):(tmsS p n).size≤1020:=by
 rw [tmsS_size]
 have:n*(p.size+2)≤10*102:=Nat.mul_le_mul hn (by omega)
 omega
theorem orS_le (p:ByteArray) (hp:p.size≤100) (n:Nat) (hn:n≤3):∀j,j≤3→(orS p n j).size≤1100*(j+1):=by
 intro j
 induction j with
 | zero=>intro _;have:=tms_le p hp n (by omega);simp only [orS];omega
 | succ j ih =>
  intro hj
  have h1:=ih (by omega)
  have h2:=tms_le p hp (n+1+j) (by omega)
  simp only [orS,ByteArray.size_append]
  have e1:(⟨#[124]⟩:ByteArray).size=1:=rfl
  rw [e1]
  omega
theorem times_any (p:ByteArray) (n:Nat) (w:World) (hp:p.size≤100) (hn:n≤10):Calls Tryz.prog 11 #[.string p,.int .i64 (n:Int)] w fun e w'=>e=.returned (.string (tmsS p n))∧w'=w:=by
 have HP:Hid (p.size≤100):=hp
 go_enter Tryz.func11,Tryz.ntmps11
 go_wp2
 go_loopg [5,6] n (fun m v5 v6 wr=>∃i:Nat,v5=.string (tmsS p i)∧v6=.int .i64 (i:Int)∧m=n - i∧i≤n∧wr=w)
 case atStart=>exact ⟨0,rfl,rfl,rfl,by omega,rfl⟩
 case round =>
  obtain ⟨i,rfl,rfl,hm,hin,rfl⟩:=hrel
  have HM:Hid (_=n - i):=hm
  clear hm
  by_cases hi:i<n
  ·have hii:(i:Int)<n:=by omega
   have hsz:=tms_le p HP.out i (by omega)
   have HNX:Hid (tmsS p i++⟨#[40]⟩++p++⟨#[41]⟩=tmsS p (i+1)):=rfl
   generalize tmsS p i=T at *
   have h1:¬9223372036854775807<T.size+1:=by omega
   have h2:¬9223372036854775807<T.size+1+p.size:=by omega
   have h3:¬9223372036854775807<T.size+1+p.size+1:=by omega
   clear hsz
   go_wp2
   go_roundg (n - (i+1))
   case measure=>rw [HM.out];omega
   case rel=>exact ⟨i+1,by rw [←HNX.out],by simp,rfl,by omega,rfl⟩
  ·have hii:¬(i:Int)<n:=by omega
   have ei:i=n:=by omega
   subst ei
   go_wp2
   go_ret
   exact ⟨rfl,rfl⟩
theorem small_d0 (w:World):Calls Tryz.prog 24 #[.int .i64 0] w fun e w'=>e=.returned (.string (digS 0))∧w'=w:=by
 go_enter Tryz.func24,Tryz.ntmps24
 go_wp2
 go_ret
 exact ⟨by kernel_rfl,rfl⟩
theorem itoa_d0 (w:World):Calls Tryz.prog 7 #[.int .i64 0] w fun e w'=>e=.returned (.string (digS 0))∧w'=w:=by
 have H0:Hid (Calls Tryz.prog 19 #[.int .i64 0,.int .i64 10] w fun e w'=>e=.returned (.string (digS 0))∧w'=w):=by
  show Calls _ _ _ _ _
  go_enter Tryz.func19,Tryz.ntmps19
  go_wp2_with fail
  refine (small_d0 _).mono ?_
  rintro e w1 ⟨rfl,rfl⟩
  go_wp2
  go_ret
  exact ⟨rfl,rfl⟩
 have H1:Hid (Calls Tryz.prog 13 #[.int .i64 0] w fun e w'=>e=.returned (.string (digS 0))∧w'=w):=by
  show Calls _ _ _ _ _
  go_enter Tryz.func13,Tryz.ntmps13
  go_wp2_with fail
  refine H0.out.mono ?_
  rintro e w1 ⟨rfl,rfl⟩
  go_wp2
  go_ret
  exact ⟨rfl,rfl⟩
 go_enter Tryz.func7,Tryz.ntmps7
 go_wp2_with fail
 refine H1.out.mono ?_
 rintro e w1 ⟨rfl,rfl⟩
 go_wp2
 go_ret
 exact ⟨rfl,rfl⟩
theorem small_d1 (w:World):Calls Tryz.prog 24 #[.int .i64 1] w fun e w'=>e=.returned (.string (digS 1))∧w'=w:=by
 go_enter Tryz.func24,Tryz.ntmps24
 go_wp2
 go_ret
 exact ⟨by kernel_rfl,rfl⟩
theorem itoa_d1 (w:World):Calls Tryz.prog 7 #[.int .i64 1] w fun e w'=>e=.returned (.string (digS 1))∧w'=w:=by
 have H0:Hid (Calls Tryz.prog 19 #[.int .i64 1,.int .i64 10] w fun e w'=>e=.returned (.string (digS 1))∧w'=w):=by
  show Calls _ _ _ _ _
  go_enter Tryz.func19,Tryz.ntmps19
  go_wp2_with fail
  refine (small_d1 _).mono ?_
  rintro e w1 ⟨rfl,rfl⟩
  go_wp2
  go_ret
  exact ⟨rfl,rfl⟩
 have H1:Hid (Calls Tryz.prog 13 #[.int .i64 1] w fun e w'=>e=.returned (.string (digS 1))∧w'=w):=by
  show Calls _ _ _ _ _
  go_enter Tryz.func13,Tryz.ntmps13
  go_wp2_with fail
  refine H0.out.mono ?_
  rintro e w1 ⟨rfl,rfl⟩
  go_wp2
  go_ret
  exact ⟨rfl,rfl⟩
 go_enter Tryz.func7,Tryz.ntmps7
 go_wp2_with fail
 refine H1.out.mono ?_
 rintro e w1 ⟨rfl,rfl⟩
 go_wp2
 go_ret
 exact ⟨rfl,rfl⟩
theorem small_d2 (w:World):Calls Tryz.prog 24 #[.int .i64 2] w fun e w'=>e=.returned (.string (digS 2))∧w'=w:=by
 go_enter Tryz.func24,Tryz.ntmps24
 go_wp2
 go_ret
 exact ⟨by kernel_rfl,rfl⟩
theorem itoa_d2 (w:World):Calls Tryz.prog 7 #[.int .i64 2] w fun e w'=>e=.returned (.string (digS 2))∧w'=w:=by
 have H0:Hid (Calls Tryz.prog 19 #[.int .i64 2,.int .i64 10] w fun e w'=>e=.returned (.string (digS 2))∧w'=w):=by
  show Calls _ _ _ _ _
  go_enter Tryz.func19,Tryz.ntmps19
  go_wp2_with fail
  refine (small_d2 _).mono ?_
  rintro e w1 ⟨rfl,rfl⟩
  go_wp2
  go_ret
  exact ⟨rfl,rfl⟩
 have H1:Hid (Calls Tryz.prog 13 #[.int .i64 2] w fun e w'=>e=.returned (.string (digS 2))∧w'=w):=by
  show Calls _ _ _ _ _
  go_enter Tryz.func13,Tryz.ntmps13
  go_wp2_with fail
  refine H0.out.mono ?_
  rintro e w1 ⟨rfl,rfl⟩
  go_wp2
  go_ret
  exact ⟨rfl,rfl⟩
 go_enter Tryz.func7,Tryz.ntmps7
 go_wp2_with fail
 refine H1.out.mono ?_
 rintro e w1 ⟨rfl,rfl⟩
 go_wp2
 go_ret
 exact ⟨rfl,rfl⟩
theorem small_d3 (w:World):Calls Tryz.prog 24 #[.int .i64 3] w fun e w'=>e=.returned (.string (digS 3))∧w'=w:=by
 go_enter Tryz.func24,Tryz.ntmps24
 go_wp2
 go_ret
 exact ⟨by kernel_rfl,rfl⟩
theorem itoa_d3 (w:World):Calls Tryz.prog 7 #[.int .i64 3] w fun e w'=>e=.returned (.string (digS 3))∧w'=w:=by
 have H0:Hid (Calls Tryz.prog 19 #[.int .i64 3,.int .i64 10] w fun e w'=>e=.returned (.string (digS 3))∧w'=w):=by
  show Calls _ _ _ _ _
  go_enter Tryz.func19,Tryz.ntmps19
  go_wp2_with fail
  refine (small_d3 _).mono ?_
  rintro e w1 ⟨rfl,rfl⟩
  go_wp2
  go_ret
  exact ⟨rfl,rfl⟩
 have H1:Hid (Calls Tryz.prog 13 #[.int .i64 3] w fun e w'=>e=.returned (.string (digS 3))∧w'=w):=by
  show Calls _ _ _ _ _
  go_enter Tryz.func13,Tryz.ntmps13
  go_wp2_with fail
  refine H0.out.mono ?_
  rintro e w1 ⟨rfl,rfl⟩
  go_wp2
  go_ret
  exact ⟨rfl,rfl⟩
 go_enter Tryz.func7,Tryz.ntmps7
 go_wp2_with fail
 refine H1.out.mono ?_
 rintro e w1 ⟨rfl,rfl⟩
 go_wp2
 go_ret
 exact ⟨rfl,rfl⟩
theorem itoa_any (n:Nat) (hn:n≤3) (w:World):Calls Tryz.prog 7 #[.int .i64 (n:Int)] w fun e w'=>e=.returned (.string (digS n))∧w'=w:=by
 rcases (show n=0∨n=1∨n=2∨n=3 by omega) with rfl|rfl|rfl|rfl
 ·exact itoa_d0 w
 ·exact itoa_d1 w
 ·exact itoa_d2 w
 ·exact itoa_d3 w
theorem repeated_any (p:Option Addr) (cap:Nat) (ns:List Int) (a lo hi:Int) (w:World) (hp:NumsP w p ns) (h64:∀n∈ns,In64 n) (hl:ns.length≤maxLen) (ha:In64 a) (hlo:In64 lo) (hhi:In64 hi) :
  Calls Tryz.prog 4 #[.slice p ns.length cap,.int .i64 a,.int .i64 lo,.int .i64 hi] w fun e w'=>e=.returned (.bool true)∧Nw w w':=by
 have HST:Hid (Calls Tryz.prog 5 #[.slice p ns.length cap,.int .i64 12] w fun e w'=>∃v,e=.returned v∧Eb w w' v (strTo ns (min ns.length 12)).1):=stream_any p cap 12 ns w hp h64 hl (by omega)
 have HL12:Hid ((strTo ns (min ns.length 12)).1.length≤12):=by show _≤_;rw [strTo_len ns _ (by omega)];omega
 have HLE:Hid (∀e∈(strTo ns (min ns.length 12)).1,EvOk e):=str_ok ns h64 _ (by omega)
 have HLG:Hid (GoesE (bI ⟨#[49,49,49]⟩) 0 (strTo ns (min ns.length 12)).1):=str_goes ns _ (by omega)
 generalize (strTo ns (min ns.length 12)).1=L at HST HL12 HLE HLG
 clear hp h64 hl
 obtain ⟨h0,hh0⟩:∃h0:Nat,pickK hi 3=h0:=⟨(pickK hi 3).toNat,by have:=pickK_lt (c:=hi) (n:=3) (by omega);omega⟩
 have hh3:h0<3:=by have:=pickK_lt (c:=hi) (n:=3) (by omega);omega
 have HP1:Hid (∀W,Calls Tryz.prog 6 #[.int .i64 hi,.int .i64 3] W fun e w'=>e=.returned (.int .i64 (h0:Int))∧w'=W):=fun W=>by
  have:=pickK_any hi 3 W hhi (by omega) (by omega)
  rw [hh0] at this
  exact this
 obtain ⟨hh,hhe⟩:∃hh:Nat,hh=1+h0:=⟨_,rfl⟩
 have hsum:(1:Int)+(h0:Int)=(hh:Int):=by omega
 have hh1:1≤hh∧hh≤3:=by omega
 obtain ⟨n,hn⟩:∃n:Nat,pickK lo ((hh:Int)+1)=n:=⟨(pickK lo ((hh:Int)+1)).toNat,by have:=pickK_lt (c:=lo) (n:=(hh:Int)+1) (by omega);omega⟩
 have hnh:n≤hh:=by have:=pickK_lt (c:=lo) (n:=(hh:Int)+1) (by omega);omega
 have HP2:Hid (∀W,Calls Tryz.prog 6 #[.int .i64 lo,.int .i64 ((hh:Int)+1)] W fun e w'=>e=.returned (.int .i64 (n:Int))∧w'=W):=fun W=>by
  have:=pickK_any lo ((hh:Int)+1) W hlo (by omega) (by omega)
  rw [hn] at this
  exact this
 clear hn hh0 hhe
 have hw1:IntKind.i64.wrap ((hh:Int)+1)=(hh:Int)+1:=IntWalk.i64_in _ (by omega)
 have hw2:IntKind.i64.wrap ((1:Int)+(h0:Int))=(hh:Int):=by rw [hsum];exact IntWalk.i64_in _ (by omega)
 go_enter Tryz.func4,Tryz.ntmps4
 go_wp2_with fail
 refine HST.out.mono ?_
 rintro e1 w1 ⟨lv,rfl,hE⟩
 obtain ⟨lp,lc,rfl⟩:=ownsLenX hE.own
 obtain ⟨hev,hge⟩:=hE.evs2
 have HE1:Hid (∀W,Nw w1 W→EvsP W lp L):=fun W kW=>hev.kp kW (fun _ _ h=>h)
 have HGE1:Hid (∀W,Nw w1 W→∀g,lp=some ⟨g,0,none⟩→g<W.heap.size):=fun W kW g e=>Nat.lt_of_lt_of_le (hge g e) kW.size
 have K1:Hid (Nw w w1):=hE.nw
 clear hE hev hge HST
 go_wp2_with fail
 refine (smallR_any a w1 ha).mono ?_
 rintro e2 w2 ⟨s,rfl,⟨hsz,hrep⟩,k2⟩
 have K2:Hid (Nw w1 w2):=k2
 have HR:Hid (RepT s n hh):=repAll_at hrep hh1.1 hh1.2 hnh
 have HSZ:Hid (s.size≤100):=hsz
 clear k2 hrep hsz
 go_wp2_with fail
 refine (HP1.out _).mono ?_
 rintro e3 w3 ⟨rfl,rfl⟩
 go_wp2_with fail
 refine (HP2.out _).mono ?_
 rintro e4 w4 ⟨rfl,rfl⟩
 have HI1:Hid (Calls Tryz.prog 7 #[.int .i64 (n:Int)] w4 fun e w'=>e=.returned (.string (digS n))∧w'=w4):=itoa_any n (by omega) w4
 have HI2:Hid (Calls Tryz.prog 7 #[.int .i64 (hh:Int)] w4 fun e w'=>e=.returned (.string (digS hh))∧w'=w4):=itoa_any hh (by omega) w4
 have hd1:(digS n).size=1:=rfl
 have hd2:(digS hh).size=1:=rfl
 obtain ⟨D1,hD1⟩:∃D1,digS n=D1:=⟨_,rfl⟩
 obtain ⟨D2,hD2⟩:∃D2,digS hh=D2:=⟨_,rfl⟩
 have HD:Hid (digS n=D1∧digS hh=D2):=⟨hD1,hD2⟩
 rw [hD1] at HI1 hd1
 rw [hD2] at HI2 hd2
 clear hD1 hD2
 go_wp2_with fail
 refine HI1.out.mono ?_
 rintro e5 w5 ⟨rfl,rfl⟩
 go_wp2_with fail
 refine HI2.out.mono ?_
 rintro e6 w6 ⟨rfl,rfl⟩
 have HTM:Hid (∀(m:Nat) W,m≤10→Calls Tryz.prog 11 #[.string s,.int .i64 (m:Int)] W fun e w'=>e=.returned (.string (tmsS s m))∧w'=W):=fun m W hm=>times_any s m W HSZ.out hm
 have HTR:Hid (∃c0 c1:List In,PatK (repS s n hh) c0 L∧PatK (orS s (max n 1) (hh - max n 1)) c1 L∧outS (bI ⟨#[49,49,49]⟩) c1 (beginsS c1) 200 200 ⟨[],0,0,false⟩ L=outS (bI ⟨#[49,49,49]⟩) c0 (beginsS c0) 200 200 ⟨[],0,0,false⟩ L∧∀l∈outS (bI ⟨#[49,49,49]⟩) c0 (beginsS c0) 200 200 ⟨[],0,0,false⟩ L,l.length≤1000∧∀m∈l,MtOk m):=by
  obtain ⟨c0,c1,h⟩:=HR.out
  exact ⟨c0,c1,h L HLG.out HL12.out⟩
 clear HI1 HI2 HR HP1 HP2
 by_cases hn0:n=0
 ·have hn0i:(n:Int)=0:=by omega
  have hmx:max n 1=1:=by omega
  have HMX:Hid (max n 1=1):=hmx
  clear hmx
  have hnn:1≤3∧1≤hh∧1≤1:=by omega
  go_wp2_with fail
  refine (HTM.out 1 _ (by omega)).mono ?_
  rintro e7 w7 ⟨rfl,rfl⟩
  have hwn:IntKind.i64.wrap ((1:Nat)+1:Int)=(1:Nat)+1:=IntWalk.i64_in _ (by omega)
  go_wp2
  go_loopg [14,15] (hh - 1) (fun m v14 v15 wr=>∃j i:Nat,v14=.string (orS s 1 j)∧v15=.int .i64 (i:Int)∧i=1+1+j∧m=hh - 1 - j∧j≤hh - 1∧wr=w7)
  case atStart=>exact ⟨0,1+1,rfl,by simp,rfl,rfl,by omega,rfl⟩
  case round =>
   obtain ⟨j,i,rfl,rfl,hij,hm,hjl,rfl⟩:=hrel
   have HM:Hid (_=hh - 1 - j):=hm
   have HIJ:Hid (i=1+1+j):=hij
   clear hm hij
   by_cases hi:i≤hh
   ·have hii:(i:Int)≤hh:=by omega
    have hso:=orS_le s HSZ.out 1 (by omega) j (by have:=HIJ.out;omega)
    have hst:=tms_le s HSZ.out i (by omega)
    have HNX:Hid (orS s 1 j++⟨#[124]⟩++tmsS s i=orS s 1 (j+1)):=by show _=_;rw [HIJ.out];rfl
    have HTI:Hid (Calls Tryz.prog 11 #[.string s,.int .i64 (i:Int)] wr fun e w'=>e=.returned (.string (tmsS s i))∧w'=wr):=HTM.out i wr (by omega)
    generalize orS s 1 j=T at *
    generalize tmsS s i=U at *
    have h1:¬9223372036854775807<T.size+1:=by omega
    have h2:¬9223372036854775807<T.size+1+U.size:=by omega
    clear hso hst
    go_wp2_with fail
    refine HTI.out.mono ?_
    rintro e8 w8 ⟨rfl,rfl⟩
    go_wp2
    go_roundg (hh - 1 - (j+1))
    case measure=>rw [HM.out];have:=HIJ.out;omega
    case rel=>exact ⟨j+1,i+1,by rw [←HNX.out],by simp,by have:=HIJ.out;omega,rfl,by have:=HIJ.out;omega,rfl⟩
   ·have hii:¬(i:Int)≤hh:=by omega
    have ej:j=hh - 1:=by have:=HIJ.out;omega
    obtain ⟨c0,c1,q0,q1,oe,oo⟩:=HTR.out
    rw [HMX.out] at q1
    have HLn:L.length≤1000:=by have:=HL12.out;omega
    have eR:repS s n hh=⟨#[40]⟩++s++⟨#[41]⟩++(⟨#[123]⟩++D1++D2++⟨#[125]⟩):=by unfold repS;rw [HD.out.1,HD.out.2]
    rw [eR] at q0
    rw [ej]
    have HF0:Hid (∀W,Nw w1 W→Calls Tryz.prog 8 #[.string (⟨#[40]⟩++s++⟨#[41]⟩++(⟨#[123]⟩++D1++D2++⟨#[125]⟩)),.slice lp L.length lc] W fun e w'=>∃v hs,e=.returned (.tuple #[v,.bool true])∧Mds w' W.heap.size v hs∧hs.map (·.2)=outS (bI ⟨#[49,49,49]⟩) c0 (beginsS c0) 200 200 ⟨[],0,0,false⟩ L∧Nw W w'):=fun W kW=>found_any _ _ lp lc L W q0 (HE1.out W kW) (HGE1.out W kW) HLn HLE.out
    have HF1:Hid (∀W,Nw w1 W→Calls Tryz.prog 8 #[.string (orS s 1 (hh - 1)),.slice lp L.length lc] W fun e w'=>∃v hs,e=.returned (.tuple #[v,.bool true])∧Mds w' W.heap.size v hs∧hs.map (·.2)=outS (bI ⟨#[49,49,49]⟩) c0 (beginsS c0) 200 200 ⟨[],0,0,false⟩ L∧Nw W w'):=fun W kW=>by
     have:=found_any _ _ lp lc L W q1 (HE1.out W kW) (HGE1.out W kW) HLn HLE.out
     rw [oe] at this;exact this
    have HAW:Hid (∀W,Nw w1 W→Calls Tryz.prog 12 #[.slice lp L.length lc] W fun e w'=>e=.returned (.bool true)∧Nw W w'):=fun W kW=>awake_any lp lc L W (HE1.out W kW) (HGE1.out W kW) HLn HLE.out HLG.out
    have HOO:Hid (∀l∈outS (bI ⟨#[49,49,49]⟩) c0 (beginsS c0) 200 200 ⟨[],0,0,false⟩ L,l.length≤1000∧∀m∈l,MtOk m):=oo
    have HLO:Hid ((outS (bI ⟨#[49,49,49]⟩) c0 (beginsS c0) 200 200 ⟨[],0,0,false⟩ L).length=L.length):=outS_len _ _ _ _ _ _ _
    clear q0 q1 oe oo HE1 HGE1 eR ej HTR
    generalize outS (bI ⟨#[49,49,49]⟩) c0 (beginsS c0) 200 200 ⟨[],0,0,false⟩ L=O at HF0 HF1 HOO HLO
    generalize orS s 1 (hh - 1)=T at *
    have hs:=HSZ.out
    have z1:¬9223372036854775807<1+s.size:=by omega
    have z2:¬9223372036854775807<1+s.size+1:=by omega
    have z3:¬9223372036854775807<1+s.size+1+(1+D1.size+D2.size+1):=by omega
    have z4:¬9223372036854775807<1+s.size+1+4:=by omega
    clear hs
    have HL2:Hid (L.length≤1000):=HLn
    clear HLn
    go_wp2_with fail
    refine (HF0.out _ K2.out).mono ?_
    rintro e9 w8 ⟨v0,hs0,rfl,hm0,ho0,k8⟩
    obtain ⟨vp0,vc0,rfl⟩:=ownsLenX hm0.row
    have M0:Hid (Mds w8 wr.heap.size (.slice vp0 hs0.length vc0) hs0):=hm0
    have HO0:Hid (hs0.map (·.2)=O):=ho0
    have K8:Hid (Nw w1 w8):=K2.out.trans k8
    clear hm0 ho0 k8 HF0
    go_wp2_with fail
    refine (HF1.out _ K8.out).mono ?_
    rintro e10 w9 ⟨v1,hs1,rfl,hm1,ho1,k9⟩
    have hn1:hs1.length=hs0.length:=by have h1:=congrArg List.length ho1;have h2:=congrArg List.length HO0.out;simp at h1 h2;omega
    obtain ⟨vp1,vc1,rfl⟩:=ownsLenX hm1.row
    have M1:Hid (Mds w9 w8.heap.size (.slice vp1 hs0.length vc1) hs1):=by rw [hn1] at hm1;exact hm1
    rw [hn1]
    have HO1:Hid (hs1.map (·.2)=O):=ho1
    have K9:Hid (Nw w1 w9):=K8.out.trans k9
    have K89:Hid (Nw w8 w9):=k9
    clear hm1 ho1 k9 HF1 hn1
    go_wp2_with fail
    refine (HAW.out _ K9.out).mono ?_
    rintro e11 w10 ⟨rfl,k10⟩
    have HH:Hid (hs0.length≤1000):=by show _≤_;have h2:=congrArg List.length HO0.out;simp at h2;rw [h2,HLO.out];exact HL2.out
    have HX:Hid (∀x∈hs0,x.2.length≤1000∧∀m∈x.2,MtOk m):=by
     intro x hx
     exact HOO.out _ (by rw [←HO0.out];exact List.mem_map.2 ⟨x,hx,rfl⟩)
    have HS1:Hid (Calls Tryz.prog 9 #[.slice vp0 hs0.length vc0,.slice vp1 hs0.length vc1] w10 fun e w'=>e=.returned (.bool true)∧Nw w10 w'):=sameAll_same vp0 vp1 vc0 vc1 _ _ hs0 hs1 w10 (M0.out.nw2 (K89.out.trans k10)) (M1.out.nw2 k10) (by rw [HO0.out,HO1.out]) HH.out HX.out
    have K10:Hid (Nw w w10):=K1.out.trans (K9.out.trans k10)
    clear k10 HAW M0 M1
    go_wp2_with fail
    refine HS1.out.mono ?_
    rintro e12 w11 ⟨rfl,k11⟩
    have K11:Hid (Nw w w11):=K10.out.trans k11
    clear k11 HS1
    go_wp2
    go_ret
    exact ⟨rfl,K11.out⟩
 ·have hn0i:¬(n:Int)=0:=by omega
  have hmx:max n 1=n:=by omega
  have HMX:Hid (max n 1=n):=hmx
  clear hmx
  have hnn:n≤3∧n≤hh∧1≤n:=by omega
  go_wp2_with fail
  refine (HTM.out n _ (by omega)).mono ?_
  rintro e7 w7 ⟨rfl,rfl⟩
  have hwn:IntKind.i64.wrap ((n:Nat)+1:Int)=(n:Nat)+1:=IntWalk.i64_in _ (by omega)
  go_wp2
  go_loopg [14,15] (hh - n) (fun m v14 v15 wr=>∃j i:Nat,v14=.string (orS s n j)∧v15=.int .i64 (i:Int)∧i=n+1+j∧m=hh - n - j∧j≤hh - n∧wr=w7)
  case atStart=>exact ⟨0,n+1,rfl,by simp,rfl,rfl,by omega,rfl⟩
  case round =>
   obtain ⟨j,i,rfl,rfl,hij,hm,hjl,rfl⟩:=hrel
   have HM:Hid (_=hh - n - j):=hm
   have HIJ:Hid (i=n+1+j):=hij
   clear hm hij
   by_cases hi:i≤hh
   ·have hii:(i:Int)≤hh:=by omega
    have hso:=orS_le s HSZ.out n (by omega) j (by have:=HIJ.out;omega)
    have hst:=tms_le s HSZ.out i (by omega)
    have HNX:Hid (orS s n j++⟨#[124]⟩++tmsS s i=orS s n (j+1)):=by show _=_;rw [HIJ.out];rfl
    have HTI:Hid (Calls Tryz.prog 11 #[.string s,.int .i64 (i:Int)] wr fun e w'=>e=.returned (.string (tmsS s i))∧w'=wr):=HTM.out i wr (by omega)
    generalize orS s n j=T at *
    generalize tmsS s i=U at *
    have h1:¬9223372036854775807<T.size+1:=by omega
    have h2:¬9223372036854775807<T.size+1+U.size:=by omega
    clear hso hst
    go_wp2_with fail
    refine HTI.out.mono ?_
    rintro e8 w8 ⟨rfl,rfl⟩
    go_wp2
    go_roundg (hh - n - (j+1))
    case measure=>rw [HM.out];have:=HIJ.out;omega
    case rel=>exact ⟨j+1,i+1,by rw [←HNX.out],by simp,by have:=HIJ.out;omega,rfl,by have:=HIJ.out;omega,rfl⟩
   ·have hii:¬(i:Int)≤hh:=by omega
    have ej:j=hh - n:=by have:=HIJ.out;omega
    obtain ⟨c0,c1,q0,q1,oe,oo⟩:=HTR.out
    rw [HMX.out] at q1
    have HLn:L.length≤1000:=by have:=HL12.out;omega
    have eR:repS s n hh=⟨#[40]⟩++s++⟨#[41]⟩++(⟨#[123]⟩++D1++D2++⟨#[125]⟩):=by unfold repS;rw [HD.out.1,HD.out.2]
    rw [eR] at q0
    rw [ej]
    have HF0:Hid (∀W,Nw w1 W→Calls Tryz.prog 8 #[.string (⟨#[40]⟩++s++⟨#[41]⟩++(⟨#[123]⟩++D1++D2++⟨#[125]⟩)),.slice lp L.length lc] W fun e w'=>∃v hs,e=.returned (.tuple #[v,.bool true])∧Mds w' W.heap.size v hs∧hs.map (·.2)=outS (bI ⟨#[49,49,49]⟩) c0 (beginsS c0) 200 200 ⟨[],0,0,false⟩ L∧Nw W w'):=fun W kW=>found_any _ _ lp lc L W q0 (HE1.out W kW) (HGE1.out W kW) HLn HLE.out
    have HF1:Hid (∀W,Nw w1 W→Calls Tryz.prog 8 #[.string (orS s n (hh - n)),.slice lp L.length lc] W fun e w'=>∃v hs,e=.returned (.tuple #[v,.bool true])∧Mds w' W.heap.size v hs∧hs.map (·.2)=outS (bI ⟨#[49,49,49]⟩) c0 (beginsS c0) 200 200 ⟨[],0,0,false⟩ L∧Nw W w'):=fun W kW=>by
     have:=found_any _ _ lp lc L W q1 (HE1.out W kW) (HGE1.out W kW) HLn HLE.out
     rw [oe] at this;exact this
    have HAW:Hid (∀W,Nw w1 W→Calls Tryz.prog 12 #[.slice lp L.length lc] W fun e w'=>e=.returned (.bool true)∧Nw W w'):=fun W kW=>awake_any lp lc L W (HE1.out W kW) (HGE1.out W kW) HLn HLE.out HLG.out
    have HOO:Hid (∀l∈outS (bI ⟨#[49,49,49]⟩) c0 (beginsS c0) 200 200 ⟨[],0,0,false⟩ L,l.length≤1000∧∀m∈l,MtOk m):=oo
    have HLO:Hid ((outS (bI ⟨#[49,49,49]⟩) c0 (beginsS c0) 200 200 ⟨[],0,0,false⟩ L).length=L.length):=outS_len _ _ _ _ _ _ _
    clear q0 q1 oe oo HE1 HGE1 eR ej HTR
    generalize outS (bI ⟨#[49,49,49]⟩) c0 (beginsS c0) 200 200 ⟨[],0,0,false⟩ L=O at HF0 HF1 HOO HLO
    generalize orS s n (hh - n)=T at *
    have hs:=HSZ.out
    have z1:¬9223372036854775807<1+s.size:=by omega
    have z2:¬9223372036854775807<1+s.size+1:=by omega
    have z3:¬9223372036854775807<1+s.size+1+(1+D1.size+D2.size+1):=by omega
    have z4:¬9223372036854775807<1+s.size+1+4:=by omega
    clear hs
    have HL2:Hid (L.length≤1000):=HLn
    clear HLn
    go_wp2_with fail
    refine (HF0.out _ K2.out).mono ?_
    rintro e9 w8 ⟨v0,hs0,rfl,hm0,ho0,k8⟩
    obtain ⟨vp0,vc0,rfl⟩:=ownsLenX hm0.row
    have M0:Hid (Mds w8 wr.heap.size (.slice vp0 hs0.length vc0) hs0):=hm0
    have HO0:Hid (hs0.map (·.2)=O):=ho0
    have K8:Hid (Nw w1 w8):=K2.out.trans k8
    clear hm0 ho0 k8 HF0
    go_wp2_with fail
    refine (HF1.out _ K8.out).mono ?_
    rintro e10 w9 ⟨v1,hs1,rfl,hm1,ho1,k9⟩
    have hn1:hs1.length=hs0.length:=by have h1:=congrArg List.length ho1;have h2:=congrArg List.length HO0.out;simp at h1 h2;omega
    obtain ⟨vp1,vc1,rfl⟩:=ownsLenX hm1.row
    have M1:Hid (Mds w9 w8.heap.size (.slice vp1 hs0.length vc1) hs1):=by rw [hn1] at hm1;exact hm1
    rw [hn1]
    have HO1:Hid (hs1.map (·.2)=O):=ho1
    have K9:Hid (Nw w1 w9):=K8.out.trans k9
    have K89:Hid (Nw w8 w9):=k9
    clear hm1 ho1 k9 HF1 hn1
    go_wp2_with fail
    refine (HAW.out _ K9.out).mono ?_
    rintro e11 w10 ⟨rfl,k10⟩
    have HH:Hid (hs0.length≤1000):=by show _≤_;have h2:=congrArg List.length HO0.out;simp at h2;rw [h2,HLO.out];exact HL2.out
    have HX:Hid (∀x∈hs0,x.2.length≤1000∧∀m∈x.2,MtOk m):=by
     intro x hx
     exact HOO.out _ (by rw [←HO0.out];exact List.mem_map.2 ⟨x,hx,rfl⟩)
    have HS1:Hid (Calls Tryz.prog 9 #[.slice vp0 hs0.length vc0,.slice vp1 hs0.length vc1] w10 fun e w'=>e=.returned (.bool true)∧Nw w10 w'):=sameAll_same vp0 vp1 vc0 vc1 _ _ hs0 hs1 w10 (M0.out.nw2 (K89.out.trans k10)) (M1.out.nw2 k10) (by rw [HO0.out,HO1.out]) HH.out HX.out
    have K10:Hid (Nw w w10):=K1.out.trans (K9.out.trans k10)
    clear k10 HAW M0 M1
    go_wp2_with fail
    refine HS1.out.mono ?_
    rintro e12 w11 ⟨rfl,k11⟩
    have K11:Hid (Nw w w11):=K10.out.trans k11
    clear k11 HS1
    go_wp2
    go_ret
    exact ⟨rfl,K11.out⟩
end Go.Proofs.YtcboiapggnmpfaaGreatDoor
