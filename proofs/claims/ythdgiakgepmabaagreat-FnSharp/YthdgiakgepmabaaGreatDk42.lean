import Derived.Test.YthdgiakgepmabaaGreatDk41
namespace Go.Proofs.YthdgiakgepmabaaGreat
open Go.RowKit
set_option linter.unusedVariables false
set_option maxHeartbeats 6400000
set_option maxRecDepth 20000
section
attribute [local go_sem ↓] Go.wp_at_zero Go.wp_at_succ
theorem GD {α:Type} {ys:List α} (h:ys.length=7):∃a b c d e f g,ys=[a,b,c,d,e,f,g]:=by
 rcases ys with _ | ⟨a,_ | ⟨b,_ | ⟨c,_ | ⟨d,_ | ⟨e,_ | ⟨f,_ | ⟨g,_ | ⟨k,ys⟩⟩⟩⟩⟩⟩⟩⟩ <;> simp at h;exact ⟨a,b,c,d,e,f,g,rfl⟩
theorem su {u:World} {ea:Option Addr} {q:PtrM} {evs:List EvM} {h:HartM} {x a:Int} (k:RsR u ea q evs h) (hr:h.regs=xT x a):∃rb ro,q.ar=some (AD rb ro)∧rb<u.heap.size∧u.cell? (AD rb (ro+6))=some (VU x):=by
 have h1:=k.regs;rw [hr] at h1;rcases h1.2 with h2 | ⟨b,o,h3,h4,h5⟩
 ·cases h2
 ·exact ⟨b,o,h3,h4,h5 6 (VU x) rfl⟩
theorem Gd {u:World} {g:Nat} {a b c d e f k:Int} (h:Blk 5 u g [a,b,c,d,e,f,k]) (hz:∀z∈[a,b,c,d,e,f,k],0<=z∧z<=255):ByI [d,e,f,k] (.slice (some (AD g 3)) 4 4) u:=by
 refine ⟨g,3,4,4,rfl,by decide,rfl,bU fun z m=>hz z (List.mem_of_mem_drop (i:=3) m),.inr ⟨g,3,rfl,h.lt,fun i hi=>?_⟩⟩;have h4:i<4:=hi;have:=h.cell (3+i) (by show _<7;omega);rcases i with _ | _ | _ | _ | i
 ·exact this
 ·exact this
 ·exact this
 ·exact this
 ·omega
theorem HOk.ln {h:HartM} (k:HOk h):h.mem.length<=1048576∧0<h.mem.length:=by
 have h1:=k.v.size;simp only [ez,decide_eq_true_eq] at h1;omega
theorem lds {v:World} {b i n m:Nat} {a:Option Addr} (h:v.cell? (AD b i)=some (.slice a n m)):(Instr.loadAt 32 (PT b i)).run Tryz.prog v=.ok (.slice a n m) v:=by go_simp
theorem zB (a0:Option Addr) (len0 cap0:Nat) (zs:List Int) (w:World) (hB:Byt w a0 len0 zs) (hlc:len0<=cap0) (hcm:cap0<=9223372036854775807):
 Calls Tryz.prog 4 #[.slice a0 len0 cap0] w fun e w'=>e=.returned (.bool true)∧Bw w w':=by
 by_cases hlen:len0<=1048576
 ·obtain ⟨v0,E0,n0,H0,l0⟩:=al1 w #[.int .u8 7,.int .u8 9,.int .u8 0,.int .u8 0,.int .u8 0,.int .u8 0,.int .u8 0] 5;have HB:=hid hB;clear hB;go_enter Tryz.func4,Tryz.ntmps4;go_upto_region 4 with fail;rw [E0.out];clear E0;go_wp2;go_loopw [4] (fun ii wr=>∃(k:Nat) (ys:List Int),k<=7∧ii=VI k∧ys.length=7∧(∀z∈ys,0<=z∧z<=255)∧Blk 5 wr w.heap.size ys∧Bw w wr) (fun ii _=>7-(intOf ii).toNat)
  case atStart=>exact ⟨0,[7,9,0,0,0,0,0],by omega,rfl,rfl,by decide,H0.out,n0⟩
  case round=>
  obtain ⟨k,ys,hk,rfl,hyl,hyb,hbk,hn⟩:=hrel;clear H0 n0 l0;have HYB:=hid hyb;clear hyb;have lb:=hbk.lt;by_cases hlt:k<7∧k<len0
  ·obtain ⟨hk7,hkl⟩:=hlt;have g2:=hbk.cell k (by omega);have g3:=hbk.free k;obtain ⟨b,o,rfl,hb,hc⟩:∃b off,a0=some (AD b off)∧b<w.heap.size∧w.cell? (AD b (off+k))=some (.int .u8 (zs[k]?.getD 0)):=by
    rcases HB.out.2.2 with h | ⟨b,off,h1,h2,h3⟩
    ·omega
    ·exact ⟨b,off,h1,h2,h3 k (by have:=HB.out.1;omega)⟩
   have hzb:=HB.out.2.1 k;have c1:=Below.cell2 hn hc hb;have hbn:b≠w.heap.size:=by omega
   generalize zs[k]?.getD 0=z at *;have q1:decide ((k:Int)<7)=true:=by simp;omega
   have q2:decide ((k:Int)<(len0:Int))=true:=by simp;omega
   clear hc;go_wp2;go_roundw
   case rel=>exact ⟨k+1,ys.set k z,by omega,by go_num,by simp [hyl],fun y hy=>(List.mem_or_eq_of_mem_set hy).elim (HYB.out y) (fun e=>e ▸ hzb),hbk.store k z,hn.setCell nle _⟩
   case measure=>simp [intOf];omega
  ·go_upto_region 5 with fail;go_cut [25] from 5 to 5 (fun s25 wx=>s25=.bool false∧wx=wr)
   case first=>
    by_cases h7:k<7
    ·have q1:decide ((k:Int)<7)=true:=by simp;omega
     have q2:decide ((k:Int)<(len0:Int))=false:=by simp;omega
     go_wp2;go_meet;exact ⟨by simp;omega,rfl⟩
    ·have q1:decide ((k:Int)<7)=false:=by simp;omega
     go_wp2;go_meet;exact ⟨rfl,rfl⟩
   obtain ⟨rfl,rfl⟩:=hcut;obtain ⟨a,b,c,d,e,f,g,rfl⟩:=GD hyl;clear hyl hlt hk HB;have BX:Hid (Blk 5 wc w.heap.size [a,b,c,d,e,f,g]):=hbk;have ha:0<=a∧a<=255:=HYB.out a (by simp);have hb:0<=b∧b<=255:=HYB.out b (by simp);have hc:0<=c∧c<=255:=HYB.out c (by simp);obtain ⟨A,rfl⟩:∃A:Nat,(A:Int)=a:=⟨a.toNat,by omega⟩;obtain ⟨B,rfl⟩:∃B:Nat,(B:Int)=b:=⟨b.toNat,by omega⟩;have HN:=hid hn;clear hn hbk;generalize wc=v at *;have HL0:Hid (∀u,Bw v u->(Instr.loadAt 5 (PT w.heap.size 0)).run Tryz.prog u=.ok (.int .u8 A) u):=fun u hu=>ld8 (Below.cell2 hu (BX.out.cell 0 (by show _<7;omega)) lb);have HL1:Hid (∀u,Bw v u->(Instr.loadAt 5 (PT w.heap.size 1)).run Tryz.prog u=.ok (.int .u8 B) u):=fun u hu=>ld8 (Below.cell2 hu (BX.out.cell 1 (by show _<7;omega)) lb);have S0:Hid (∀z∈([]:List Int),0<=z∧z<=255):=by show ∀_,_;simp
   have S1:Hid (∀z∈([0,0,0]:List Int),0<=z∧z<=255):=by show ∀_,_;decide
   have S2:Hid (∀z∈([0,0,128]:List Int),0<=z∧z<=255):=by show ∀_,_;decide
   have C0:=hid fun (x:Value) (u:World) (h:ByI [] x u)=>uT (how:=0) ha hb (.inl rfl) S0.out (by decide) h;have C1:=hid fun (x:Value) (u:World) (h:ByI [0,0,0] x u)=>uT (how:=0) ha hb (.inl rfl) S1.out (by decide) h;have C2:=hid fun (x:Value) (u:World) (h:ByI [0,0,128] x u)=>uT (how:=0) ha hb (.inl rfl) S2.out (by decide) h;have D0:=hid fun (x:Value) (u:World) (h:ByI (gI A B 0 []) x u)=>De h;have D1:=hid fun (x:Value) (u:World) (h:ByI (gI A B 0 [0,0,0]) x u)=>uS (plain:=false) h;have D2:=hid fun (x:Value) (u:World) (h:ByI (gI A B 0 [0,0,128]) x u)=>uS (plain:=false) h;have K1:=hid (zk false (bU (uR ha hb (.inl rfl) S1.out)));have K2:=hid (zk false (bU (uR ha hb (.inl rfl) S2.out)));have R1:=hid (Fi A B);have R2:=hid (Fj A B);rw [Fh A B] at D0;generalize gI A B 0 []=z0 at C0 D0;generalize hz1:gI A B 0 [0,0,0]=z1 at C1 D1 K1 R1;generalize hz2:gI A B 0 [0,0,128]=z2 at C2 D2 K2 R2;clear hz1 hz2;generalize (eI false (bE z1) (aJ z1)).1=e1 at *;generalize (eI false (bE z1) (aJ z1)).2=h1 at *;generalize (eI false (bE z2) (aJ z2)).1=e2 at *;generalize (eI false (bE z2) (aJ z2)).2=h2 at *;go_upto_region 8 with fail;have hF:=bdr v;refine ax (Bw v) 10 ?_;refine aj 0 35 (SL w.heap.size 7 7) rfl hF ?_
   go_frame
   refine aj 1 36 (PT w.heap.size 0) rfl hF ?_
   go_frame
   refine aj 2 37 _ rfl hF ?_ (hy:=fun u hu=>aD rfl (HL0.out u hu));refine aj 3 38 (SL w.heap.size 7 7) rfl hF ?_
   go_frame
   refine aj 4 39 (PT w.heap.size 1) rfl hF ?_
   go_frame
   refine aj 5 40 _ rfl hF ?_ (hy:=fun u hu=>aD rfl (HL1.out u hu))
   go_frame
   refine mt 6 7 8 9 41 42 43 5 (Z:=#[.bool false,VI 0]) (T:=24) (fun u=>SL u.heap.size 0 0) (fun u=>u.alloc (.cells #[] 5)) (fun x=>#[.int .u8 A,.int .u8 B,VI 0,x]) (fun x=>#[x]) (ByI []) (ByI z0) (fun y _=>y=.agg #[.bool false,VI ((2:Nat):Int)]) rfl rfl rfl rfl rfl (fun u hu=>bst hF hu) (fun _ _ _ h k=>h.keep k) (fun _ _ _ h k=>h.keep k) (fun _ _ _ h _=>h) (fun u hu=>Df u _ [] 0 rfl rfl S0.out (by decide)) (fun x u _ h=>C0.out x u h) (fun x u _ h=>D0.out x u h) ?_;rintro x y z p1 u hz hp hq hbu;have hbv:=bst hF hbu;replace hp:v.heap.size<=p1:=hp;subst hz;obtain ⟨v1,HS,B1,hS⟩:=tY (x:=false) (y:=2) hq;have n1:Bw v v1:=hS v hp hbv
   go_frame
   refine dz 10 5 43 rfl HS ?_;refine dc ?_;clear HS hS hq hbu hbv hF hp;have HV:=hid n1;clear C0 D0 S0;go_upto_region 9 with fail;have hF:=bdr v1;refine ax (Bw v1) 10 ?_;refine aj 0 44 (SL w.heap.size 7 7) rfl hF ?_
   go_frame
   refine aj 1 45 (PT w.heap.size 0) rfl hF ?_
   go_frame
   refine aj 2 46 _ rfl hF ?_ (hy:=fun u hu=>aD rfl (HL0.out u (bst HV.out hu)));refine aj 3 47 (SL w.heap.size 7 7) rfl hF ?_
   go_frame
   refine aj 4 48 (PT w.heap.size 1) rfl hF ?_
   go_frame
   refine aj 5 49 _ rfl hF ?_ (hy:=fun u hu=>aD rfl (HL1.out u (bst HV.out hu)))
   go_frame
   refine mt 6 7 8 9 50 51 52 6 (Z:=kQ) (T:=35) (fun u=>SL u.heap.size 3 3) (fun u=>u.alloc (.cells #[.int .u8 0,.int .u8 0,.int .u8 0] 5)) (fun x=>#[.int .u8 A,.int .u8 B,VI 0,x]) (fun x=>#[x,.bool false]) (ByI [0,0,0]) (ByI z1) (RunI e1 h1) rfl rfl rfl rfl rfl (fun u hu=>bst hF hu) (fun _ _ _ h k=>h.keep k) (fun _ _ _ h k=>h.keep k) (fun _ _ _ h k=>h.keep k) (fun u hu=>Df u _ [0,0,0] 3 rfl rfl S1.out (by decide)) (fun x u _ h=>C1.out x u h) (fun x u _ h=>D1.out x u h) ?_;rintro x y z p2 u hz hp hq hbu;have hbv:=bst hF hbu;replace hp:v1.heap.size<=p2:=hp;obtain ⟨v2,HS,rb,hS⟩:=my hq hz K1.out.1.mem;have B2:=hid rb;have n2:Bw v1 v2:=hS v1 hp hbv
   go_frame
   refine dz 10 6 52 rfl HS ?_;refine dc ?_;clear HS hS hq hbu hbv hF hp rb hz;replace HV:=hid (bst HV.out n2);replace B1:=ah B1 n2;clear C1 D1 S1 n1 n2;go_upto_region 10 with fail;have hF:=bdr v2;refine ax (Bw v2) 10 ?_;refine aj 0 53 (SL w.heap.size 7 7) rfl hF ?_
   go_frame
   refine aj 1 54 (PT w.heap.size 0) rfl hF ?_
   go_frame
   refine aj 2 55 _ rfl hF ?_ (hy:=fun u hu=>aD rfl (HL0.out u (bst HV.out hu)));refine aj 3 56 (SL w.heap.size 7 7) rfl hF ?_
   go_frame
   refine aj 4 57 (PT w.heap.size 1) rfl hF ?_
   go_frame
   refine aj 5 58 _ rfl hF ?_ (hy:=fun u hu=>aD rfl (HL1.out u (bst HV.out hu)))
   go_frame
   refine mt 6 7 8 9 59 60 61 7 (Z:=kQ) (T:=35) (fun u=>SL u.heap.size 3 3) (fun u=>u.alloc (.cells #[.int .u8 0,.int .u8 0,.int .u8 128] 5)) (fun x=>#[.int .u8 A,.int .u8 B,VI 0,x]) (fun x=>#[x,.bool false]) (ByI [0,0,128]) (ByI z2) (RunI e2 h2) rfl rfl rfl rfl rfl (fun u hu=>bst hF hu) (fun _ _ _ h k=>h.keep k) (fun _ _ _ h k=>h.keep k) (fun _ _ _ h k=>h.keep k) (fun u hu=>Df u _ [0,0,128] 3 rfl rfl S2.out (by decide)) (fun x u _ h=>C2.out x u h) (fun x u _ h=>D2.out x u h) ?_;rintro x y z p3 u hz hp hq hbu;have hbv:=bst hF hbu;replace hp:v2.heap.size<=p3:=hp;obtain ⟨v3,HS,rb,hS⟩:=my hq hz K2.out.1.mem;have B3:=hid rb;have n3:Bw v2 v3:=hS v2 hp hbv
   go_frame
   refine dz 10 7 61 rfl HS ?_;refine dc ?_;clear HS hS hq hbu hbv hF hp rb hz;replace HV:=hid (bst HV.out n3);replace B1:=ah B1 n3;replace B2:=hid (B2.out.keep n3);clear C2 D2 S2 n3;go_upto_region 11 with fail;go_cut [102] from 11 to 11 (fun s102 wx=>s102=.bool false∧Bw v3 wx)
   case first=>
    obtain ⟨ge,ec,q,hx1,hx2⟩:=B2.out;obtain ⟨rb,ro,hr1,hr2,hr3⟩:=su hx2 R1.out;obtain ⟨ge',ec',q',hy1,hy2⟩:=B3.out;obtain ⟨sb,so,hs1,hs2,hs3⟩:=su hy2 R2.out;have d0:=ab B1.out 0 (v:=.bool false) rfl;have d1:=ab B1.out 1 (v:=VI 2) rfl;have f2:=ab hx1 2 (v:=.slice (some (AD rb ro)) 8 q.cr) (by rw [<-hr1];show some (Value.slice _ h1.regs.length _)=_;rw [R1.out];rfl);have g2:=ab hy1 2 (v:=.slice (some (AD sb so)) 8 q'.cr) (by rw [<-hs1];show some (Value.slice _ h2.regs.length _)=_;rw [R2.out];rfl);have x0:=Below.cell2 HV.out (BX.out.cell 0 (by show _<7;omega)) lb;have x1:=Below.cell2 HV.out (BX.out.cell 1 (by show _<7;omega)) lb;replace x0:v3.cell? (AD w.heap.size 0)=some (.int .u8 A):=x0;replace x1:v3.cell? (AD w.heap.size 1)=some (.int .u8 B):=x1;clear hx1 hx2 hy1 hy2 hr1 hs1 HL0 HL1 B1 B2 B3 BX HN K1 K2 R1 R2 HYB;go_quiet (fail);go_wp2;go_meet;exact ⟨rfl,ou _ _⟩
   obtain ⟨rfl,nc⟩:=hcut;replace HV:=hid (bst HV.out nc);clear B1 B2 B3 nc K1 K2 R1 R2;generalize wc=v4 at *;go_upto_region 13 with fail;go_cut [8] from 13 to 13 (fun s8 wx=>∃how:Int,s8=VI how∧(how=1∨how=2∨how=3∨how=4)∧wx=v4)
   case first=>
    have x2:v4.cell? (AD w.heap.size 2)=some (.int .u8 c):=Below.cell2 HV.out (BX.out.cell 2 (by show _<7;omega)) lb;clear BX HYB HN HL0 HL1 HV;go_wp2;go_meet;exact ⟨1+c%4,by go_num,by omega,rfl⟩
   obtain ⟨how,rfl,hh,hw⟩:=hcut;subst hw;generalize wc=v4 at *;have SP:Hid (∀z∈[d,e,f,g],0<=z∧z<=255):=fun z m=>HYB.out z (List.mem_of_mem_drop (i:=3) m);have HP:=hid fun (u:World) (hu:Bw v u)=>(Gd BX.out HYB.out).keep hu;obtain ⟨E1,evs,hM,kM,E2,E3,hreg⟩:=Fm (Fl A B how [d,e,f,g] hh rfl) rfl SP.out;have C4:=hid fun (x:Value) (u:World) (h:ByI [d,e,f,g] x u)=>uT ha hb (.inr hh) SP.out (show 4<=255 by decide) h;have D4:=hid fun (x:Value) (u:World) (h:ByI (gI A B how [d,e,f,g]) x u)=>De h;have D5:Hid (∀(x:Value) (u:World),ByI (gI A B how [d,e,f,g]) x u->Calls Tryz.prog 11 #[x,.bool false] u fun e v=>(∃y,e=.returned y∧RunI evs hM y v)∧Bw u v):=fun x u h=>by
    have:=uS (plain:=false) h;rw [E3] at this;exact this.mono fun e v ⟨⟨y,h1,base,ge,ec,q,h2,h3⟩,h4⟩=>⟨⟨y,h1,base,ge,ec,q,h2,h3.ev,h3.mem,h3.regs⟩,h4⟩
   have D6:Hid (∀(x:Value) (u:World),ByI (gI A B how [d,e,f,g]) x u->Calls Tryz.prog 11 #[x,.bool true] u fun e v=>(∃y,e=.returned y∧RunI evs hM y v)∧Bw u v):=fun x u h=>by
    have:=uS (plain:=true) h;rw [E2] at this;exact this
   have KM:=zk true (bU (uR ha hb (.inr hh) SP.out));rw [E2] at KM;rw [E1] at D4;have KK:Hid (HOk hM∧evs.length<=20000):=KM;have HR:=hid hreg;generalize gI A B how [d,e,f,g]=zz at C4 D4 D5 D6;clear E1 E2 E3 KM hreg;go_upto_region 14 with fail;have hF:=bdr v4;refine ax (Bw v4) 12 ?_;refine aj 0 109 (SL w.heap.size 7 7) rfl hF ?_
   go_frame
   refine aj 1 110 (PT w.heap.size 0) rfl hF ?_
   go_frame
   refine aj 2 111 _ rfl hF ?_ (hy:=fun u hu=>aD rfl (HL0.out u (bst HV.out hu)));refine aj 3 112 (SL w.heap.size 7 7) rfl hF ?_
   go_frame
   refine aj 4 113 (PT w.heap.size 1) rfl hF ?_
   go_frame
   refine aj 5 114 _ rfl hF ?_ (hy:=fun u hu=>aD rfl (HL1.out u (bst HV.out hu)));refine aj 6 115 (VI how) rfl hF ?_;refine aj 7 116 (SL w.heap.size 7 7) rfl hF ?_
   go_frame
   refine mt 8 9 10 11 117 118 119 9 (Z:=#[.bool false,VI 0]) (T:=24) (fun _=>.slice (some (AD w.heap.size 3)) 4 4) (fun u=>u) (fun x=>#[.int .u8 A,.int .u8 B,VI how,x]) (fun x=>#[x]) (ByI [d,e,f,g]) (ByI zz) (fun y _=>y=.agg #[.bool true,VI ((4:Nat):Int)]) rfl rfl rfl rfl rfl (fun u hu=>bst hF hu) (fun _ _ _ h k=>h.keep k) (fun _ _ _ h k=>h.keep k) (fun _ _ _ h _=>h) (fun u hu=>⟨HP.out u (bst HV.out (bst hF hu)),Below.refl _ _⟩) (fun x u _ h=>C4.out x u h) (fun x u _ h=>D4.out x u h) ?_;rintro x y z p5 u hz hp hq hbu;have hbv:=bst hF hbu;replace hp:v4.heap.size<=p5:=hp;subst hz;obtain ⟨v5,HS,B5,hS⟩:=tY (x:=true) (y:=4) hq;have n5:Bw v4 v5:=hS v4 hp hbv
   go_frame
   refine dz 12 9 119 rfl HS ?_;refine dc ?_;clear HS hS hq hbu hbv hF hp;replace HV:=hid (bst HV.out n5);clear D4;go_upto_region 15 with fail;have hF:=bdr v5;refine ax (Bw v5) 12 ?_;refine aj 0 120 (SL w.heap.size 7 7) rfl hF ?_
   go_frame
   refine aj 1 121 (PT w.heap.size 0) rfl hF ?_
   go_frame
   refine aj 2 122 _ rfl hF ?_ (hy:=fun u hu=>aD rfl (HL0.out u (bst HV.out hu)));refine aj 3 123 (SL w.heap.size 7 7) rfl hF ?_
   go_frame
   refine aj 4 124 (PT w.heap.size 1) rfl hF ?_
   go_frame
   refine aj 5 125 _ rfl hF ?_ (hy:=fun u hu=>aD rfl (HL1.out u (bst HV.out hu)));refine aj 6 126 (VI how) rfl hF ?_;refine aj 7 127 (SL w.heap.size 7 7) rfl hF ?_
   go_frame
   refine mt 8 9 10 11 128 129 130 10 (Z:=kQ) (T:=35) (fun _=>.slice (some (AD w.heap.size 3)) 4 4) (fun u=>u) (fun x=>#[.int .u8 A,.int .u8 B,VI how,x]) (fun x=>#[x,.bool false]) (ByI [d,e,f,g]) (ByI zz) (RunI evs hM) rfl rfl rfl rfl rfl (fun u hu=>bst hF hu) (fun _ _ _ h k=>h.keep k) (fun _ _ _ h k=>h.keep k) (fun _ _ _ h k=>h.keep k) (fun u hu=>⟨HP.out u (bst HV.out (bst hF hu)),Below.refl _ _⟩) (fun x u _ h=>C4.out x u h) (fun x u _ h=>D5.out x u h) ?_;rintro x y z p6 u hz hp hq hbu;have hbv:=bst hF hbu;replace hp:v5.heap.size<=p6:=hp;obtain ⟨v6,HS,rb,hS⟩:=my hq hz KK.out.1.mem;have B6:=hid rb;have n6:Bw v5 v6:=hS v5 hp hbv
   go_frame
   refine dz 12 10 130 rfl HS ?_;refine dc ?_;clear HS hS hq hbu hbv hF hp rb hz;replace HV:=hid (bst HV.out n6);replace B5:=ah B5 n6;clear D5 n5 n6;go_upto_region 16 with fail;have hF:=bdr v6;refine ax (Bw v6) 12 ?_;refine aj 0 131 (SL w.heap.size 7 7) rfl hF ?_
   go_frame
   refine aj 1 132 (PT w.heap.size 0) rfl hF ?_
   go_frame
   refine aj 2 133 _ rfl hF ?_ (hy:=fun u hu=>aD rfl (HL0.out u (bst HV.out hu)));refine aj 3 134 (SL w.heap.size 7 7) rfl hF ?_
   go_frame
   refine aj 4 135 (PT w.heap.size 1) rfl hF ?_
   go_frame
   refine aj 5 136 _ rfl hF ?_ (hy:=fun u hu=>aD rfl (HL1.out u (bst HV.out hu)));refine aj 6 137 (VI how) rfl hF ?_;refine aj 7 138 (SL w.heap.size 7 7) rfl hF ?_
   go_frame
   refine mt 8 9 10 11 139 140 141 11 (Z:=kQ) (T:=35) (fun _=>.slice (some (AD w.heap.size 3)) 4 4) (fun u=>u) (fun x=>#[.int .u8 A,.int .u8 B,VI how,x]) (fun x=>#[x,.bool true]) (ByI [d,e,f,g]) (ByI zz) (RunI evs hM) rfl rfl rfl rfl rfl (fun u hu=>bst hF hu) (fun _ _ _ h k=>h.keep k) (fun _ _ _ h k=>h.keep k) (fun _ _ _ h k=>h.keep k) (fun u hu=>⟨HP.out u (bst HV.out (bst hF hu)),Below.refl _ _⟩) (fun x u _ h=>C4.out x u h) (fun x u _ h=>D6.out x u h) ?_;rintro x y z p7 u hz hp hq hbu;have hbv:=bst hF hbu;replace hp:v6.heap.size<=p7:=hp;obtain ⟨v7,HS,rb,hS⟩:=my hq hz KK.out.1.mem;have B7:=hid rb;have n7:Bw v6 v7:=hS v6 hp hbv
   go_frame
   refine dz 12 11 141 rfl HS ?_;refine dc ?_;clear HS hS hq hbu hbv hF hp rb hz;replace HV:=hid (bst HV.out n7);replace B5:=ah B5 n7;replace B6:=hid (B6.out.keep n7);clear C4 D6 n7 HP SP;obtain ⟨ge,ec,q,hx1,hx2⟩:=B6.out;obtain ⟨ge',ec',q',hy1,hy2⟩:=B7.out;obtain ⟨rb,ro,hr1,hr2,hr3⟩:=su hx2 HR.out;have c2:(dw (some (AD ge 0)) evs.length ec q hM)[2]?=some (.slice (some (AD rb ro)) 8 q.cr):=by rw [<-hr1];show some (Value.slice _ hM.regs.length _)=_;rw [HR.out];rfl
   have EQ:Hid (∀u,Bw v7 u->Calls Tryz.prog 12 #[.agg (dw (some (AD ge 0)) evs.length ec q hM),.agg (dw (some (AD ge' 0)) evs.length ec' q' hM)] u fun e w'=>e=.returned (.bool true)∧Bw u w'):=fun u hu=>tG _ _ ec ec' q q' evs hM u (hx2.keep hu) (hy2.keep hu) ⟨by have:=KK.out.2;omega,KK.out.1.ln.1,by rw [HR.out];exact (show 8<=1048576 by decide)⟩ KK.out.1.ln.2;have HG:=hid fun u (hu:Bw v7 u)=>xF (V:=dw (some (AD ge 0)) evs.length ec q hM) rfl (ae hx1 hu (hpl hx1));have HH:=hid fun u (hu:Bw v7 u)=>xF (V:=dw (some (AD ge' 0)) evs.length ec' q' hM) rfl (ae hy1 hu (hpl hy1));have HD0:=hid fun u (hu:Bw v7 u)=>ldb (ab (ah B5 hu).out 0 (v:=.bool true) rfl);have HD1:=hid fun u (hu:Bw v7 u)=>ldi (ab (ah B5 hu).out 1 (v:=VI 4) rfl);have HS2:=hid fun u (hu:Bw v7 u)=>lds (ab (ae hx1 hu (hpl hx1)) 2 c2);have HR6:=hid fun u (hu:Bw v7 u)=>ldu (Below.cell2 hu hr3 hr2);have HX1:=hid fun u (hu:Bw v7 u)=>HL1.out u (bst HV.out hu);clear hx1 hx2 hy1 hy2 hr1 hr3 c2 B5 B6 B7 KK HR HL0 HL1 BX HYB;generalize dw (some (AD ge 0)) evs.length ec q hM=G6 at *;generalize dw (some (AD ge' 0)) evs.length ec' q' hM=G7 at *;go_upto_region 17 with fail;have hF:=bdr v7;refine ax (Bw v7) 29 ?_;refine aj 0 142 (PT p5 0) rfl hF ?_
   go_frame
   refine aj 1 143 _ rfl hF ?_ (hy:=fun u hu=>aD rfl (HD0.out u hu));refine aj 2 144 (.bool true) rfl hF ?_;refine aj 3 145 (PT p5 1) rfl hF ?_
   go_frame
   refine aj 4 146 _ rfl hF ?_ (hy:=fun u hu=>aD rfl (HD1.out u hu));refine aj 5 147 (.bool true) rfl hF ?_;refine aj 6 148 (.bool true) rfl hF ?_;refine aj 7 149 (.bool true) rfl hF ?_
   go_frame
   refine aj 8 150 _ rfl hF ?_ (hy:=fun u hu=>aD rfl (HG.out u hu));refine aj 9 151 _ rfl hF ?_ (hy:=fun u hu=>aD rfl (HH.out u hu))
   go_frame
   refine du 10 152 rfl ((EQ.out _ hF).mono ?_);rintro e' va ⟨rfl,na⟩;have ba:=bst hF na;refine ⟨_,rfl,fun _=>ba,?_⟩
   go_frame
   refine aj 11 153 (.bool true) rfl ba ?_;refine aj 12 154 (.bool true) rfl ba ?_;refine aj 13 155 (PT p6 2) rfl ba ?_
   go_frame
   refine aj 14 156 _ rfl ba ?_ (hy:=fun u hu=>aD rfl (HS2.out u hu));refine aj 15 157 (VI 8) rfl ba ?_;refine aj 16 158 (.bool true) rfl ba ?_;refine aj 17 159 (.bool true) rfl ba ?_;refine aj 18 160 (.bool true) rfl ba ?_;refine aj 19 161 (PT p6 2) rfl ba ?_
   go_frame
   refine aj 20 162 _ rfl ba ?_ (hy:=fun u hu=>aD rfl (HS2.out u hu))
   go_frame
   refine aj 21 163 (PT rb (ro+6)) rfl ba ?_ (hy:=fun u hu=>by go_simp)
   go_frame
   refine aj 22 164 _ rfl ba ?_ (hy:=fun u hu=>aD rfl (HR6.out u hu));refine aj 23 165 (SL w.heap.size 7 7) rfl ba ?_
   go_frame
   refine aj 24 166 (PT w.heap.size 1) rfl ba ?_
   go_frame
   refine aj 25 167 _ rfl ba ?_ (hy:=fun u hu=>aD rfl (HX1.out u hu))
   go_frame
   refine aj 26 168 (VU B) rfl ba ?_ (hy:=fun u hu=>by go_simp;rw [IntKind.wrap_u64];omega)
   go_frame
   refine aj 27 169 (.bool true) rfl ba ?_ (hy:=fun u hu=>by go_simp);refine aj 28 170 (.bool true) rfl ba ?_
   go_frame
   refine kB 29 rfl ?_;go_wp2;go_ret;exact ⟨rfl,bst HN.out (bst HV.out ba)⟩
 ·go_enter Tryz.func4,Tryz.ntmps4;go_wp2;go_ret;exact ⟨rfl,Below.refl _ _⟩
end
end Go.Proofs.YthdgiakgepmabaaGreat
