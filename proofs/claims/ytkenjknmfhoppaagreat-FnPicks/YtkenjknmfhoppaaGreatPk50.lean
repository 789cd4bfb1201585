import Derived.Test.YtkenjknmfhoppaaGreatPk48
namespace Go.Proofs.YtkenjknmfhoppaaGreat
open Go.RowKit
set_option linter.unusedVariables false
set_option maxHeartbeats 6400000
set_option maxRecDepth 20000
def SrcB (u:World) (a:Option Addr) (m c:Nat) (ys:List Int):Prop:=(a=none∧m=0∧c=0∧ys=[])∨∃q,a=some q∧ys.length=m∧∀j v,(ys.map (Value.int .u8))[j]?=some v->u.cell? (q.add j)=some v
theorem SrcB.keep {u v:World} {a:Option Addr} {m c:Nat} {ys:List Int} (h:SrcB u a m c ys) (b:Bw u v):SrcB v a m c ys:=by
 rcases h with h | ⟨q,h1,h2,h3⟩
 ·exact .inl h
 ·refine .inr ⟨q,h1,h2,fun j x hx=>?_⟩;have h4:=h3 j x hx;refine (b.cell ?_).trans h4;unfold World.cell? at h4;cases e:u.heap[(q.add j).block]? with
  | none=>rw [e] at h4;cases h4
  | some o=>exact (Array.getElem?_eq_some_iff.1 e).1
theorem SrcB.len {u:World} {a:Option Addr} {m c:Nat} {ys:List Int} (h:SrcB u a m c ys):ys.length=m:=by
 rcases h with ⟨_,h,_,rfl⟩ | ⟨q,h1,h2,h3⟩
 ·rw [h];rfl
 ·exact h2
theorem SrcB.of_row {w:World} {a:Option Addr} {len cap:Nat} {zs:List Int}
 (h:(a=none∧len=0∧cap=0∧zs=[])∨
   ∃x,a=some x∧len<=cap∧cap<=maxLen∧zs.length=cap∧(∀i,i<zs.length->w.cell? (x.add i)=some (.int .u8 (zs.getD i 0)))∧∀n∈zs,(Lit.int .u8 n).wf=true):SrcB w a len cap (zs.take len):=by
 rcases h with ⟨h1,h2,h3,h4⟩ | ⟨x,h1,h2,h3,h4,h5,h6⟩
 ·exact .inl ⟨h1,h2,h3,by rw [h4];simp⟩
 ·refine .inr ⟨x,h1,by simp;omega,fun j v hv=>?_⟩;simp only [List.getElem?_map,Option.map_eq_some_iff] at hv;obtain ⟨z,hz,rfl⟩:=hv;have hj:=(List.getElem?_eq_some_iff.1 hz).1;simp only [List.length_take] at hj;rw [List.getElem?_take_of_lt (by omega)] at hz;rw [h5 j (by omega),List.getD_eq_getElem?_getD,hz];rfl
theorem FP {P:Program} (w:World) {ops:Array Oper} {rest:List Oper} {o:Oper} {a:Act} {Q:Exit->Act->World->Prop} (hgd:o.guard=none) (s x:Operand) (t:TypeId)
 (ho:o.op=.call { callee:=.builtin .append,args:=#[s,x],argTypes:=#[t,t] }) (e:TypeId) (ht:P.underlying t=some (.slice e))
 (hi:(P.info? e).map (fun i=>(i.zero,i.size,i.bytes))=some (some (.int .u8 0),1,1))
 (base g n cap:Nat) (zs:List Int) (hs:a.eval s=SL g n cap) (hown:OwnB e w base g n cap zs)
 (src:Option Addr) (m c:Nat) (ys:List Int) (hx:a.eval x=.slice src m c) (hy:SrcB w src m c ys) (hbd:n+m<=2147483648)
 (B:Nat) (W:World) (hb:Below B W w) (hB:B<=base)
 (h:∀g' cap' w',OwnB e w' base g' (n+m) cap' (zs++ys)->Below B W w'->wpList P ops Q rest (a.put o.dst (SL g' (n+m) cap')) w'):wpList P ops Q (o::rest) a w:=by
 have hl:=hy.len;have f:=hown.facts;rcases hy with ⟨rfl,rfl,rfl,rfl⟩ | ⟨q,rfl,h2,h3⟩
 ·refine hU w hgd s x t ho e ht (.int .u8 0) 1 1 hi rfl (by decide) base g n cap _ hs hown none 0 0 [] hx (fun _=>⟨rfl,rfl⟩) (fun q h=>by cases h) ⟨rfl,.inl rfl⟩ (by simp) (by omega) (by omega) B W hb hB ?_;intro g' cap' w' h1 h2;exact h g' cap' w' (by unfold OwnB;rw [List.append_nil];rw [List.append_nil] at h1;exact h1) h2
 ·obtain ⟨i0,hi,hz0,hz1,hz2⟩:=info_parts hi;refine wpList_append_own w hgd s x t ho base e i0 (.int .u8 0) 1 1 ht hi hz0 hz1 hz2 rfl (by decide) _ n _ hs hown q m c (ys.map (Value.int .u8)) hx (by simp [hl]) h3 (tZ _) (by unfold maxLen;omega) (by omega) (by omega) ?_;intro v' w' h1 h2 h3;obtain ⟨g',cap',rfl,o4⟩:=OwnB.of_append h1 h3;exact h g' cap' w' o4 (OwnB.grown hb hown h2 hB)
theorem xr {zs:List Int} {i:Nat} (h:zs.length<=i):zs[i]?.getD 0=0:=by rw [List.getElem?_eq_none h];rfl
theorem FQ (zs:List Int) (j:Nat):(List.range (j+1)).map (atM zs)=(List.range j).map (atM zs)++[zs[j]?.getD 0]:=by
 rw [List.range_succ,List.map_append];rfl
theorem zN (a:Option Addr) (n c:Nat) (zs:List Int) (a1:Option Addr) (m c1:Nat) (ms:List Int) (w:World) (hB:Byt w a n zs) (hn:n<=1048576) (hM:SrcB w a1 m c1 ms) (hm:m<=1048576):
 Calls Tryz.prog 13 #[.slice a n c,.slice a1 m c1] w fun e v=>∃g nn cp,e=.returned (SL g nn cp)∧OwnB 5 v w.heap.size g nn cp (hdM zs++ms)∧nn<=16777216∧Bw w v:=by
 obtain ⟨h1,h2,h3⟩:=hB;have b87:=h2 87;obtain ⟨R,hR⟩:∃R:Nat,zs[87]?.getD 0=(R:Int):=⟨(zs[87]?.getD 0).toNat,by omega⟩;rw [hR] at b87;obtain ⟨E,hE⟩:∃E,pkE zs R 88=E:=⟨_,rfl⟩;have hEb:E<=88+258*R:=by rw [<-hE];exact Ia h2 R 88
 have HE:=hid hE;have HH:Hid (hdM zs=(List.range E).map (atM zs)):=by
  show _=_;unfold hdM;rw [show (atM zs 87).toNat=R by unfold atM;rw [hR];rfl,hE]
 have HR:=hid hR;have HM:=hid hM;clear hE hM hR;go_enter Tryz.func13,Tryz.ntmps13;go_upto_if 13 with fail;go_cut [6] from 14 to 17 (fun s wx=>s=VI R∧w=wx)
 case first=>
  by_cases h87:87<n
  ·rcases h3 with h3 | ⟨b,off,rfl,hbw,hc⟩
   ·omega
   have g1:=hc 87 h87;rw [HR.out] at g1;clear hc;go_wp2;go_meet
   case rel=>exact ⟨rfl,rfl⟩
  ·have h0:(R:Int)=0:=by rw [<-HR.out];exact xr (by omega)
   go_wp2;go_meet
   case rel=>exact ⟨by rw [h0],rfl⟩
 case rest=>
 obtain ⟨rfl,rfl⟩:=hcut;go_wp2
 go_loop [5,7] (fun ii kk=>∃i k q:Nat,k+q=R∧ii=VI i∧kk=VI k∧pkE zs q i=E∧i<=88+258*k) (fun _ kk=>R-(intOf kk).toNat)
 case atStart=>exact ⟨88,0,R,by omega,rfl,rfl,HE.out,by omega⟩
 case round=>
 obtain ⟨i,k,q,hk,rfl,rfl,hp,hi⟩:=hrel;have HP:=hid hp;clear hp;by_cases hlt:k<R
 ·obtain ⟨q,rfl⟩:∃r,q=r+1:=⟨q-1,by omega⟩;have bz:=h2 (i+2);obtain ⟨z,hz⟩:∃z:Nat,zs[i+2]?.getD 0=(z:Int):=⟨(zs[i+2]?.getD 0).toNat,by omega⟩;have HN:Hid (pkE zs q (i+3+z)=E):=by
   show _=_;rw [<-HP.out,pkE,atM,hz];rfl
  have HZ:=hid hz;rw [hz] at bz;clear hz;by_cases hin:i+2<n
  ·rcases h3 with h3 | ⟨b,off,rfl,hbw,hc⟩
   ·omega
   have g1:=hc (i+2) hin;rw [HZ.out] at g1;clear hc;go_wp2
   go_round
   case rel=>exact ⟨i+3+z,k+1,q,by omega,by go_num,by go_num,HN.out,by omega⟩
   case measure=>simp [intOf];omega
  ·obtain rfl:z=0:=by have:=HZ.out.symm.trans (xr (by omega));omega
   go_wp2
   go_round
   case rel=>exact ⟨i+3,k+1,q,by omega,by go_num,by go_num,HN.out,by omega⟩
   case measure=>simp [intOf];omega
 obtain ⟨rfl,rfl⟩:k=R∧q=0:=by omega
 obtain rfl:i=E:=HP.out;clear HP hlt hk HE;have o0:OwnB 5 (w.alloc (Obj.cells #[] 5)) w.heap.size w.heap.size 0 0 []:=OwnB.new 5 w [] 0 rfl (by decide);have n0:=(Below.refl w.heap.size w).alloc nle (Obj.cells #[] 5);go_upto_region 13 with fail;generalize w.alloc (Obj.cells #[] 5)=w0 at o0 n0 |-;go_wp2;go_loopw [9,10] (fun vv ii wr=>∃g cp j:Nat,j<=i∧vv=SL g j cp∧ii=VI j∧OwnB 5 wr w.heap.size g j cp ((List.range j).map (atM zs))∧Bw w wr) (fun _ ii _=>i-(intOf ii).toNat)
 case atStart=>exact ⟨_,_,0,by omega,rfl,rfl,o0,n0⟩
 case round=>
 clear o0 n0;obtain ⟨g,cp,j,hj,rfl,rfl,o1,n1⟩:=hrel;by_cases hlt:j<i
 ·have bz:=h2 j;have hrg:=FQ zs j;obtain ⟨z,hz⟩:∃z,zs[j]?.getD 0=z:=⟨_,rfl⟩;rw [hz] at bz hrg;have HZ:=hid hz;have HG:=hid hrg;clear hz hrg;have n2:Below w.heap.size w (wr.alloc (Obj.cells #[Value.int .u8 z] 5)):=n1.alloc n1.size _;have o3:=o1.keep ((Below.refl wr.heap.size wr).alloc nle (Obj.cells #[Value.int .u8 z] 5)) o1.facts.2.2.1;have y3:=rS wr 5 z bz;by_cases hin:j<n
  ·rcases h3 with h3 | ⟨b,off,rfl,hbw,hc⟩
   ·omega
   have g1:=(n1.cell (p:=AD b (off+j)) hbw).trans (hc j hin);rw [HZ.out] at g1;have lb:b<wr.heap.size:=ltl hbw n1.size;clear hc;go_wp2_with (at_builtin;refine eQ _ rfl _ _ 22 rfl 5 Tryz.underlying22 Tryz.infoB w.heap.size _ _ _ _ rfl o3 wr.heap.size 0 1 1 [z] rfl y3 (by omega) w.heap.size w n2 nle ?_;intro g4 cp4 x4 o4 n4;clear o3 y3 n2);go_roundw
   case rel=>exact ⟨g4,cp4,j+1,by omega,rfl,by go_num,by rw [HG.out];exact o4,n4⟩
   case measure=>simp [intOf];omega
  ·obtain rfl:z=0:=by rw [<-HZ.out];exact xr (by omega)
   go_wp2_with (at_builtin;refine eQ _ rfl _ _ 22 rfl 5 Tryz.underlying22 Tryz.infoB w.heap.size _ _ _ _ rfl o3 wr.heap.size 0 1 1 [0] rfl y3 (by omega) w.heap.size w n2 nle ?_;intro g4 cp4 x4 o4 n4;clear o3 y3 n2);go_roundw
   case rel=>exact ⟨g4,cp4,j+1,by omega,rfl,by go_num,by rw [HG.out];exact o4,n4⟩
   case measure=>simp [intOf];omega
 obtain rfl:j=i:=by omega
 have m1:=HM.out.keep n1;rw [<-HH.out] at o1;clear h3 HH;go_wp2_with (at_builtin;refine FP _ rfl _ _ 22 rfl 5 Tryz.underlying22 Tryz.infoB w.heap.size _ _ _ _ rfl o1 a1 m c1 ms rfl m1 (by omega) w.heap.size w n1 nle ?_;intro g4 cp4 x4 o4 n4);go_ret;exact ⟨g4,_,cp4,rfl,o4,by omega,n4⟩
section
attribute [local go_sem ↓] Go.wp_at_zero Go.wp_at_succ
theorem GF {Z:List Int} {x:Value} {u:World} {a1:Option Addr} {m c1:Nat} {ms:List Int} (h:BI 20000 Z x u) (hM:SrcB u a1 m c1 ms) (hm:m<=1048576) (hb:∀i:Nat,0<=ms[i]?.getD 0∧ms[i]?.getD 0<=255):
 Calls Tryz.prog 13 #[x,.slice a1 m c1] u fun e v=>(∃g n c,e=.returned (SL g n c)∧BI 16777216 (hdM Z++ms) (SL g n c) v)∧Bw u v:=by
 have hz:=h.bd;obtain ⟨a,n,c,rfl,h2,h3,h4⟩:=h;refine (zN a n c Z a1 m c1 ms u h4 (by omega) hM hm).mono ?_;rintro e v ⟨g,nn,cp,h5,h6,h7,h8⟩;refine ⟨⟨g,nn,cp,h5,_,nn,cp,rfl,h7,h6.facts.2.2.2.1,h6.byt (Fp (dc fun y hy=>?_) hb)⟩,h8⟩;simp only [hdM,List.mem_map] at hy;obtain ⟨j,_,rfl⟩:=hy;exact hz j
theorem Ar (a0:Option Addr) (len0 cap0:Nat) (zs:List Int) (a1:Option Addr) (len1 cap1:Nat) (ms:List Int) (w:World) (hB:Byt w a0 len0 zs) (hM:SrcB w a1 len1 cap1 ms) (hb:∀i:Nat,0<=ms[i]?.getD 0∧ms[i]?.getD 0<=255) (hc1:len1<=9223372036854775807) (hc0:len0<=9223372036854775807):
 Calls Tryz.prog 4 #[.slice a0 len0 cap0,.slice a1 len1 cap1] w fun e w'=>e=.returned (.bool true)∧Bw w w':=by
 by_cases hlen:len0<=1048576
 ·by_cases hlen1:len1<=1048576
  ·have CD:=hid fun (u:World) (hu:Bw w u)=>EG (cap0:=cap0) (hB.keep hu) hlen;have CO:=hid fun (u:World) (x:Value) (hu:Bw w u) (h:BI 20000 (sT zs) x u)=>GF h (hM.keep hu) hlen1 hb;generalize sT zs=Z at CD CO;clear hB hM hc0 hc1;go_enter Tryz.func4,Tryz.ntmps4;go_wp2_with fail;refine (CD.out w brf).mono ?_;rintro e v1 ⟨⟨_,rfl,a3,n3,c3,rfl,b3⟩,n1⟩;have i1:Hid (BI 20000 Z (.slice a3 n3 c3) v1):=⟨_,_,_,rfl,b3⟩;clear b3;have HB:=hid i1.out.bd;have HP:=hid (sS Z);have OS:=hid (AG Z ms);have HD:=hid fun (h:∀i:Nat,0<=(hdM Z++ms)[i]?.getD 0∧(hdM Z++ms)[i]?.getD 0<=255)=>yx (zs:=Z) h OS.out.1 OS.out.2;have DD:Hid (um (hdM Z++ms)=um Z):=by
    show _=_;unfold um;rw [OS.out.1,zJ _ _ _ _ _ OS.out.2]
   obtain ⟨hrb,hm0⟩:=Bu HB.out;have HRB:=hid hrb;generalize (eM true (bq Z) (aI Z)).1=evs at *;generalize (eM true (bq Z) (aI Z)).2=hh at *;clear hrb HB OS;go_wp2_with fail;refine (CD.out v1 n1).mono ?_;rintro e v2 ⟨⟨x2,rfl,i2⟩,n2⟩;have CO2:=hid (CO.out v2 x2 (bst n1 n2) i2);clear i2 CO CD;go_wp2_with fail;refine CO2.out.mono ?_;rintro e v3 ⟨⟨g,n5,c5,rfl,i3⟩,n23⟩;have n13:=bst n2 n23;have CS:=hid (EI (i1.out.keep n13));have CI:=hid fun (u:World) (hu:Bw v3 u)=>EH (i3.keep hu);have HDD:=hid (HD.out i3.bd);have CR:=hid fun (h:uO false (hdM Z++ms) evs hh) (u:World) (hu:Bw v3 u)=>As (plain:=false) (i3.keep hu) h;have CT:=hid fun (u:World) (hu:Bw v3 u)=>EJ (i1.out.keep (bst n13 hu)) HP.out;rw [DD.out] at CI;generalize um Z=D at *;obtain ⟨x,y⟩:=D;simp only at CS CI HDD;have A3:=bst n1 n13;clear n1 n2 n23 n13 i3 CO2 HD DD HP i1;go_wp2_with fail;refine CS.out.mono ?_;rintro e v4 ⟨rfl,n4⟩;obtain ⟨v5,hs5,H5,l5,n5'⟩:=Bv v4 x y;have HS5:=hid hs5;have n35:=bst n4 n5';clear hs5 n4 n5' CS;go_upto_region 6 with (first | ((with_reducible refine ax ?_ ?_ HS5.out ?_);(exact rfl);(exact rfl)));clear HS5;have HLw:=hid fun u (hu:Bw v5 u)=>yy (ah H5 hu).out;have hF:=bdr v5;refine az (Bw v5) 3 ?_;refine ao 0 24 (SL g n5 c5) rfl hF ?_;refine ao 2 26 _ rfl hF ?_ (hy:=fun u hu=>aK rfl (HLw.out u hu))
   go_frame
   refine cW 1 25 rfl ((CI.out _ (bst n35 hF)).mono ?_);rintro e v6 ⟨rfl,n6⟩;have b6:=bst hF n6;refine ⟨_,rfl,fun _=>b6,?_⟩
   go_frame
   refine kU 3 rfl ?_;have HNE:=Kv x y v6;have H6:=ah H5 b6;have n36:=bst n35 b6;have l6:=hpl H6.out;clear H5 HLw hF b6 n6 CI n35;cases x
   ·have c0:=ab H6.out 0 (v:=.bool false) rfl;go_wp2;go_ret;exact ⟨rfl,bst A3 n36⟩
   ·have c0:=ab H6.out 0 (v:=.bool true) rfl;have CR2:=hid (CR.out (HDD.out rfl));clear HDD CR;go_wp2_with fail;refine (CR2.out v6 n36).mono ?_;rintro e v7 ⟨⟨y7,rfl,j7⟩,n7⟩;have J7:=hid j7;clear j7 c0;go_wp2_with fail;refine (CT.out v7 (bst n36 n7)).mono ?_;rintro e v8 ⟨⟨y8,rfl,j8⟩,n8⟩;have CL:=hid (Iv (J7.out.keep n8) j8 HRB.out hm0);clear j8;go_wp2_with fail;refine CL.out.mono ?_;rintro e v9 ⟨rfl,n9⟩;go_wp2;go_ret;exact ⟨rfl,bst A3 (bst n36 (bst n7 (bst n8 n9)))⟩
  ·go_enter Tryz.func4,Tryz.ntmps4;go_wp2;go_ret;exact ⟨rfl,brf⟩
 ·go_enter Tryz.func4,Tryz.ntmps4;go_wp2;go_ret;exact ⟨rfl,brf⟩
end
end Go.Proofs.YtkenjknmfhoppaaGreat
