import Derived.Test.YtgnnmgfgfihljaaGreatPk48
namespace Go.Proofs.YtgnnmgfgfihljaaGreat
open Go.RowKit
set_option linter.unusedVariables false
set_option maxHeartbeats 6400000
set_option maxRecDepth 20000
section
open Go.RowKit Go.Joins Go.ChangeShapes Go.WideShapes Go.ChangeAt
theorem Bv:Tryz.prog.cellsOf 31=21:=by kernel_rfl
theorem AM {α:Type} {cs:Array α} (h:cs.size=21):∃c0 c1 c2 c3 c4 c5 c6 c7 c8 c9 c10 c11 c12 c13 c14 c15 c16 c17 c18 c19 c20,cs=#[c0,c1,c2,c3,c4,c5,c6,c7,c8,c9,c10,c11,c12,c13,c14,c15,c16,c17,c18,c19,c20]:=by
 obtain ⟨l⟩:=cs
 match l,h with
 | [c0,c1,c2,c3,c4,c5,c6,c7,c8,c9,c10,c11,c12,c13,c14,c15,c16,c17,c18,c19,c20],_=>exact ⟨c0,c1,c2,c3,c4,c5,c6,c7,c8,c9,c10,c11,c12,c13,c14,c15,c16,c17,c18,c19,c20,rfl⟩
section
variable {H:Type} {enc:TypeId × Value->H} {w:World} {base:Nat} {spare:Nat->Bool} {held:Bool} {fuel:Nat} {v:Value} {x:DataW H × List MemPlace}
theorem wK (h:DataW.trod enc Tryz.prog w base spare held fuel 22 [v]=some x):∃a cap zs,v=.slice a zs.length cap∧Byt w a zs.length zs∧zs.length<=cap∧(cap:Int)<=9223372036854775807:=by
 rcases open_ints Tryz.underlying22 Tryz.underlying5 (by kernel_rfl) h with ⟨hcs,_⟩ | ⟨a,len,cap,zs,hcs,_,hl,hm,hz,_,hcell,hwz⟩
 ·simp at hcs;subst hcs;exact ⟨none,0,[],rfl,⟨rfl,fun i=>by simp,.inl rfl⟩,nle,by simp⟩
 ·simp at hcs;subst hcs;have hlz:len<=zs.length:=by rw [hz];split <;> omega
  have hlen:(zs.take len).length=len:=by rw [List.length_take];omega
  refine ⟨some a,cap,zs.take len,by rw [hlen],?_,by rw [hlen];exact hl,by unfold maxLen at hm;omega⟩;rw [hlen];refine ⟨hlen,fun i=>?_,?_⟩
  ·by_cases hi:i<len
   ·rw [List.getElem?_take_of_lt hi];have hi':i<zs.length:=by omega
    have:=bounds_u8 (hwz zs[i] (List.getElem_mem hi'));rw [List.getElem?_eq_getElem hi'];exact this
   ·rw [List.getElem?_eq_none (by rw [hlen];omega)];simp
  ·by_cases h0:len=0
   ·exact .inl h0
   ·obtain ⟨b,off,spot⟩:=a;have hc:=hcell 0 (by omega);have hspot:spot=none:=by simpa [Addr.add] using World.cell?_spot hc
    subst hspot;refine .inr ⟨b,off,rfl,?_,fun i hi=>?_⟩
    ·have hc0:w.cell? ⟨b,off,none⟩=some (.int .u8 (zs.getD 0 0)):=by simpa [Addr.add] using hc
     unfold World.cell? at hc0;split at hc0
     ·next he=>exact (hpl he)
     ·cases hc0
    ·have:=hcell i (by omega);rw [wu] at this;rw [this,List.getElem?_take_of_lt hi,List.getD_eq_getElem?_getD]
theorem yr (h:DataW.trod enc Tryz.prog w base spare held fuel 23 [v]=some x):∃a cap zs,v=.slice a zs.length cap∧RowC w a zs.length 1 (cH zs)∧zs.length<=cap∧(cap:Int)<=9223372036854775807∧nj zs:=by
 rcases open_ints Tryz.underlying23 Tryz.underlying24 (by kernel_rfl) h with ⟨hcs,_⟩ | ⟨a,len,cap,zs,hcs,_,hl,hm,hz,_,hcell,hwz⟩
 ·simp at hcs;subst hcs;exact ⟨none,0,[],rfl,RowC.nil _ _ _,nle,by simp,fun i=>by simp⟩
 ·simp at hcs;subst hcs;have hlz:len<=zs.length:=by rw [hz];split <;> omega
  have hlen:(zs.take len).length=len:=by rw [List.length_take];omega
  refine ⟨some a,cap,zs.take len,by rw [hlen],?_,by rw [hlen];exact hl,by unfold maxLen at hm;omega,fun i=>?_⟩
  rotate_left
  ·by_cases hi:i<len
   ·rw [List.getElem?_take_of_lt hi];have hi':i<zs.length:=by omega
    have:=bounds_u64 (hwz zs[i] (List.getElem_mem hi'));rw [List.getElem?_eq_getElem hi'];exact this
   ·rw [List.getElem?_eq_none (by rw [hlen];omega)];simp
  rw [hlen];refine ⟨by rw [qW,hlen];omega,?_⟩;by_cases h0:len=0
  ·exact .inl h0
  ·obtain ⟨b,off,spot⟩:=a;have hc:=hcell 0 (by omega);have hspot:spot=none:=by simpa [Addr.add] using World.cell?_spot hc
   subst hspot;refine .inr ⟨b,off,rfl,?_,fun i u hu=>?_⟩
   ·have hc0:w.cell? ⟨b,off,none⟩=some (.int .u64 (zs.getD 0 0)):=by simpa [Addr.add] using hc
    unfold World.cell? at hc0;split at hc0
    ·next he=>exact (hpl he)
    ·cases hc0
   ·have hi:i<len:=by
     have:=(List.getElem?_eq_some_iff.1 hu).1;rw [qW,hlen] at this;exact this
    have:=hcell i (by omega);rw [wu] at this;rw [this];rw [cH,List.getElem?_map,List.getElem?_take_of_lt hi,List.getElem?_eq_getElem (show i<zs.length by omega)] at hu;simp at hu;subst hu;simp [List.getD_eq_getElem?_getD,List.getElem?_eq_getElem (show i<zs.length by omega)]
end
structure HNum (h:HartM):Prop where
 regs:nj h.regs
 pc:inU h.pc
 satp:inU h.satp
 tvec:inU h.tvec
 epc:inU h.epc
 tval:inU h.tval
theorem HartIn.hok {w:World} {p:PtrM} {h:HartM} (k:HartIn w p h) (n:HNum h) (hv:cJ h=true):HOk h:=by
 obtain ⟨a1,c1,a2,c2,a3,c3,he,t1,t2,t3⟩:=k.ks;exact ⟨hv,k.mem.2.1,n.regs,n.pc,n.satp,n.tvec,n.epc,n.tval,t1.ok,t2.ok,t3.ok⟩
theorem en {H:Type} {xs:List (DataW H × List MemPlace)} {i:Nat} (hl:xs.length=13) (hi:i<13):xs[i]?=some (xs[i]'(by omega)):=List.getElem?_eq_getElem (by omega)
set_option maxRecDepth 100000 in
theorem yt {H:Type} {enc:TypeId × Value->H} {w:World} {base b0:Nat} {spare:Nat->Bool} {held:Bool} {r:Reach} {v:Value} {d:DataW H} {p:List MemPlace}
 (hv:Value.okWide Tryz.prog w r b0 31 v) (h:DataW.Trod enc Tryz.prog w base spare held 31 v d p):
 ∃(q:PtrM) (h:HartM),v=.agg (ah q h)∧HartArg w q h∧((h.mem.length:Int)<=9223372036854775807∧(h.regs.length:Int)<=9223372036854775807∧(h.k.i.es.length:Int)<=9223372036854775807∧(h.k.d.es.length:Int)<=9223372036854775807∧(h.k.p.es.length:Int)<=9223372036854775807)∧(0<=h.satp∧h.satp<=18446744073709551615)∧0<=h.tvec∧HNum h:=by
 obtain ⟨cs,rfl,hsz⟩:=okWide_struct Tryz.underlying31 hv;obtain ⟨q0,q1,q2,q3,q4,q5,q6,q7,q8,q9,q10,q11,q12,q13,q14,q15,q16,q17,q18,q19,q20,rfl⟩:=AM (hsz.trans Bv);obtain ⟨fuel,hf⟩:=h;obtain ⟨xs,n,_,_,_,hlen,hx⟩:=DataW.trod_struct Tryz.underlying31 hf;replace hlen:xs.length=13:=hlen;have h0:DataW.trod enc Tryz.prog w base spare held n 22 [q0]=_:=(hx 0 _ rfl).trans (en hlen (by omega));have h1:DataW.trod enc Tryz.prog w base spare held n 23 [q1]=_:=(hx 1 _ rfl).trans (en hlen (by omega));have h2:DataW.trod enc Tryz.prog w base spare held n 24 [q2]=_:=(hx 2 _ rfl).trans (en hlen (by omega));have h3:DataW.trod enc Tryz.prog w base spare held n 2 [q3]=_:=(hx 3 _ rfl).trans (en hlen (by omega));have h4:DataW.trod enc Tryz.prog w base spare held n 4 [q4]=_:=(hx 4 _ rfl).trans (en hlen (by omega));have h5:DataW.trod enc Tryz.prog w base spare held n 4 [q5]=_:=(hx 5 _ rfl).trans (en hlen (by omega));have h6:DataW.trod enc Tryz.prog w base spare held n 24 [q6]=_:=(hx 6 _ rfl).trans (en hlen (by omega));have h7:DataW.trod enc Tryz.prog w base spare held n 24 [q7]=_:=(hx 7 _ rfl).trans (en hlen (by omega));have h8:DataW.trod enc Tryz.prog w base spare held n 24 [q8]=_:=(hx 8 _ rfl).trans (en hlen (by omega));have h9:DataW.trod enc Tryz.prog w base spare held n 2 [q9]=_:=(hx 9 _ rfl).trans (en hlen (by omega));have h10:DataW.trod enc Tryz.prog w base spare held n 2 [q10]=_:=(hx 10 _ rfl).trans (en hlen (by omega));have h11:DataW.trod enc Tryz.prog w base spare held n 24 [q11]=_:=(hx 11 _ rfl).trans (en hlen (by omega));have h12:DataW.trod enc Tryz.prog w base spare held n 29 [q12,q13,q14,q15,q16,q17,q18,q19,q20]=_:=(hx 12 _ rfl).trans (en hlen (by omega));obtain ⟨a0,c0,zs,rfl,m1,m2,m3⟩:=wK h0;obtain ⟨a1,c1,ys,rfl,r1,r2,r3,r4⟩:=yr h1;obtain ⟨i2,f2,_,w2⟩:=DataW.trod_int Tryz.underlying24 h2;obtain ⟨i3,f3,_,w3⟩:=DataW.trod_int Tryz.underlying2 h3;obtain ⟨i4,f4,_⟩:=DataW.trod_bool Tryz.underlying4 h4;obtain ⟨i5,f5,_⟩:=DataW.trod_bool Tryz.underlying4 h5;obtain ⟨i6,f6,_,w6⟩:=DataW.trod_int Tryz.underlying24 h6;obtain ⟨i7,f7,_,w7⟩:=DataW.trod_int Tryz.underlying24 h7;obtain ⟨i8,f8,_,w8⟩:=DataW.trod_int Tryz.underlying24 h8;obtain ⟨i9,f9,_,w9⟩:=DataW.trod_int Tryz.underlying2 h9;obtain ⟨i10,f10,_,w10⟩:=DataW.trod_int Tryz.underlying2 h10;obtain ⟨i11,f11,_,w11⟩:=DataW.trod_int Tryz.underlying24 h11;simp at f2 f3 f4 f5 f6 f7 f8 f9 f10 f11;subst f2 f3 f4 f5 f6 f7 f8 f9 f10 f11;obtain ⟨y0,y1,y2,n',_,_,t0,t1,t2⟩:=Go.Deep.trod_struct3 Tryz.underlying29 h12;have t0':DataW.trod enc Tryz.prog w base spare held n' 27 [q12,q13,q14]=some y0:=t0;have t1':DataW.trod enc Tryz.prog w base spare held n' 27 [q15,q16,q17]=some y1:=t1;have t2':DataW.trod enc Tryz.prog w base spare held n' 27 [q18,q19,q20]=some y2:=t2;obtain ⟨ti,b1,d1,e1,k1⟩:=mY t0';obtain ⟨td,b2,d2,e2,k2⟩:=mY t1';obtain ⟨tp,b3,d3,e3,k3⟩:=mY t2';simp only [List.cons.injEq,and_true] at e1 e2 e3;obtain ⟨rfl,rfl,rfl⟩:=e1;obtain ⟨rfl,rfl,rfl⟩:=e2;obtain ⟨rfl,rfl,rfl⟩:=e3;have l1:=k1.2.2.2.2;have l2:=k2.2.2.2.2;have l3:=k3.2.2.2.2;exact ⟨⟨a0,c0,a1,c1,b1,d1,b2,d2,b3,d3⟩,⟨zs,ys,i2,i3,i4,i5,i6,i7,i8,i9,i10,i11,⟨ti,td,tp⟩⟩,rfl,⟨m1,r1,k1,k2,k3⟩,⟨by show (zs.length:Int)<=_;omega,by show (ys.length:Int)<=_;omega,by show (ti.es.length:Int)<=_;omega,by show (td.es.length:Int)<=_;omega,by show (tp.es.length:Int)<=_;omega⟩,bounds_u64 w6,(bounds_u64 w7).1,⟨r4,bounds_u64 w2,bounds_u64 w6,bounds_u64 w7,bounds_u64 w8,bounds_u64 w11⟩⟩
end
abbrev p0M:PtrM:=⟨none,0,none,0,none,0,none,0,none,0⟩
abbrev h0M:HartM:=⟨[],[],0,0,false,false,0,0,0,0,0,0,⟨⟨0,0,[]⟩,⟨0,0,[]⟩,⟨0,0,[]⟩⟩⟩
def cT (plain:Bool) (pick:Int) (h:HartM):Bool × Int × Int × HartM:=
 if cJ h=true∧0<=pick∧pick<=255 then (true,(ew plain pick h).cause,(ew plain pick h).tval,(ew plain pick h).h) else (false,0,0,h0M)
abbrev jP (base:Nat) (w:World) (q:PtrM) (h:HartM):Prop:=HartO base w q h (ja h.mem) (cH h.regs) (az h.k.i.es) (az h.k.d.es) (az h.k.p.es)
theorem qh (base:Nat) (w:World):jP base w p0M h0M:=
 ⟨⟨rfl,.inl ⟨rfl,rfl⟩⟩,⟨rfl,.inl ⟨rfl,rfl⟩⟩,⟨rfl,.inl ⟨rfl,rfl⟩⟩,⟨rfl,.inl ⟨rfl,rfl⟩⟩,⟨rfl,.inl ⟨rfl,rfl⟩⟩,fun g h=>by simp [Value.ownBlock] at h,fun g h=>by simp [Value.ownBlock] at h,fun g h=>by simp [Value.ownBlock] at h⟩
theorem uy {base gm:Nat} {h:HartM} {e:Ending} {w':World} (k:sM base gm h e w') (hm:Blk 5 w' gm h.mem) (hl:h.mem.length<=1048576) {B:Nat} (hB:B<=base) (hg:B<=gm):∃q,e=.returned (.agg (ah q h))∧jP B w' q h:=by
 obtain ⟨gr,cr,g1,c1,g2,c2,g3,c3,rfl,o,o1,o2,o3,n12,n13,n23⟩:=k;exact ⟨_,rfl,ua hm hg hl,aK o hB,aK o1 hB,aK o2 hB,aK o3 hB,iQ n12,iQ n13,iQ n23⟩
theorem HartO.lower {base b':Nat} {w:World} {p:PtrM} {h:HartM} {cm cr c1 c2 c3:List Value} (k:HartO base w p h cm cr c1 c2 c3) (hb:b'<=base):HartO b' w p h cm cr c1 c2 c3:=
 ⟨aK k.mem hb,aK k.regs hb,aK k.r1 hb,aK k.r2 hb,aK k.r3 hb,k.d12,k.d13,k.d23⟩
theorem uz (p:PtrM) (h:HartM) (plain:Bool) (pick:Int) (w:World) (hi:HartIn w p h) (hl:h.mem.length<=1048576) (hn:HNum h) (hno:¬(cJ h=true∧0<=pick∧pick<=255)):
 Calls Tryz.prog 8 #[.agg (ah p h),.bool plain,.int .i64 pick] w fun e w'=>e=.returned (.agg el)∧Below w.heap.size w w':=by
 have SA:(ah p h).size=21:=rfl;have hk:cJ h=true->decide (0<=pick∧pick<=255)=false:=fun hv=>by
  rw [decide_eq_false_iff_not];exact fun hq=>hno ⟨hv,hq⟩
 have CK:Hid (∀u:World,Calls Tryz.prog 30 #[.int .i64 pick] u fun e w'=>e=.returned (.bool (decide (0<=pick∧pick<=255)))∧w'=u):=fun u=>mx pick u;have CM:Hid (∀u,Below w.heap.size w u->Calls Tryz.prog 29 #[.agg (ah p h),.bool plain] u fun e w'=>(∃mv,e=.returned (.tuple #[.pointer mv,.bool (cJ h)]))∧Below u.heap.size u w'):=fun u hu=>by
  rcases Bool.eq_false_or_eq_true (cJ h) with hv | hv
  ·rw [hv];refine (mR plain p h u (hi.keep hu) hl hn.satp.1 hn.satp.2 hn.tvec.1 (hi.hok hn hv)).mono ?_;rintro e w' ⟨⟨m,O,X,PI,PA,base,rfl,_⟩,n⟩;exact ⟨⟨_,rfl⟩,n⟩
  ·rw [hv];refine (tJ plain p h u (hi.keep hu) hl hn.satp.1 hn.satp.2 hn.tvec.1 hv).mono ?_;rintro e w' ⟨rfl,n⟩;exact ⟨⟨_,rfl⟩,n⟩
 clear hi hl hn hno;obtain ⟨V,hV⟩:∃V,cJ h=V:=⟨_,rfl⟩;rw [hV] at CM hk;clear hV;generalize ah p h=A at *;generalize decide (0<=pick∧pick<=255)=kq at *;go_enter Tryz.func8,Tryz.ntmps8;go_upto_region 1 with fail;have F:=eu w A el 39 41;generalize (w.alloc (Obj.cells A 39)).alloc (Obj.cells el 41)=u0 at F |-;obtain ⟨h3,h6,l1,nB⟩:=F;have H3:Hid _:=h3;have H6:Hid _:=h6;clear h3 h6;have J:Hid _:=aT (P:=Tryz.prog) (T:=39) H3.out Tryz.underlying39 rfl (by rw [SA];exact dP);go_wp2_with (first | ((with_reducible refine aI ?_ J.out ?_);(exact rfl)));refine (CM.out u0 nB).mono ?_;rintro e u1 ⟨⟨mv,rfl⟩,k1⟩;replace nB:=Below.step nB k1 (Nat.le_refl _);replace H6:=ab H6 k1;clear k1 J H3;have HS:Hid _:=bB (P:=Tryz.prog) (T:=41) (V:=el) H6.out rz rfl tX;have e1:=aX (V:=el) H6.out rfl;have e2:=aS (show w.heap.size<=w.heap.size+1 by omega) el.toList 0 _ nB;have FIN:Hid (∀{R:Ending->World->Prop} {a:Act},a.tmps[6]?=some (.pointer (some ⟨w.heap.size+1,0,none⟩))->a.defers=[]->R (.returned (.agg el)) (u1.setCells (w.heap.size+1) 0 el.toList)->bodyPost Tryz.prog Tryz.f8 R .ret a (u1.setCells (w.heap.size+1) 0 el.toList)):=fun h1 h2 h3=>dx (b:=w.heap.size+1) Tryz.results8 h1 (bx (P:=Tryz.prog) e1 Tryz.underlying41 rfl rz) h2 h3;cases V
 ·go_wp2_with (first | ((with_reducible refine aH ?_ ?_ HS.out ?_);(exact rfl);(exact rfl)));exact FIN.out rfl rfl ⟨rfl,e2⟩
 ·have hq:=hk rfl;subst hq;clear hk;go_wp2_with fail;refine (CK.out u1).mono ?_;rintro e _ ⟨rfl,rfl⟩;go_wp2_with (first | ((with_reducible refine aH ?_ ?_ HS.out ?_);(exact rfl);(exact rfl)));exact FIN.out rfl rfl ⟨rfl,e2⟩
theorem BN:(Tryz.prog.info? 75).map (·.size)=some 2:=by kernel_rfl
theorem uA (p:PtrM) (h:HartM) (plain:Bool) (pick:Int) (w:World) (hi:HartIn w p h) (hl:h.mem.length<=1048576) (hk:HOk h) (hp:0<=pick∧pick<=255):
 Calls Tryz.prog 8 #[.agg (ah p h),.bool plain,.int .i64 pick] w fun e w'=>(∃q,e=.returned (.agg (dN true (ew plain pick h).cause (ew plain pick h).tval q (ew plain pick h).h))∧jP w.heap.size w' q (ew plain pick h).h)∧Below w.heap.size w w':=by
 have SA:(ah p h).size=21:=rfl;have CK:Hid (∀u:World,Calls Tryz.prog 30 #[.int .i64 pick] u fun e w'=>e=.returned (.bool true)∧w'=u):=fun u=>by
  have:=mx pick u;rw [decide_eq_true hp] at this;exact this
 have CM:Hid (∀u,Below w.heap.size w u->Calls Tryz.prog 29 #[.agg (ah p h),.bool plain] u fun e w'=>Bj plain h u e w'∧Below u.heap.size u w'):=fun u hu=>mR plain p h u (hi.keep hu) hl hk.satp.1 hk.satp.2 hk.tvec.1 hk;have HK:Hid (HOk h):=hk;clear hi hl hk;obtain ⟨SM,hSM⟩:∃SM,ew plain pick h=SM:=⟨_,rfl⟩;have HSM:Hid (ew plain pick h=SM):=hSM;rw [hSM];have HRO:Hid (HOk SM.h):=by rw [<-hSM];exact (ug plain hp HK.out).h
 clear hSM;generalize ah p h=A at *;go_enter Tryz.func8,Tryz.ntmps8;go_upto_region 1 with fail;have F:=eu w A el 39 41;generalize (w.alloc (Obj.cells A 39)).alloc (Obj.cells el 41)=u0 at F |-;obtain ⟨h3,h6,l1,nB⟩:=F;have H3:Hid _:=h3;have H6:Hid _:=h6;clear h3 h6;have J:Hid _:=aT (P:=Tryz.prog) (T:=39) H3.out Tryz.underlying39 rfl (by rw [SA];exact dP);go_wp2_with (first | ((with_reducible refine aI ?_ J.out ?_);(exact rfl)));refine (CM.out u0 nB).mono ?_;rintro e u1 ⟨⟨m,O,X,PI,PA,base,rfl,kw,hP,hI,hO,hbs,hgi,hgd,hgp⟩,k1⟩;have K1:Hid (MW u1 O X m (.slice none 0 0) h []):=kw;have HP:Hid (Path m plain base X PI PA):=hP;have HI1:Hid (PI h.k u1):=hI;have HO:Hid (∀i,O i->u0.heap.size<=i):=hO;have hbb:=kw.lt;have CS:Hid (Calls Tryz.prog 31 #[.pointer (some ⟨m.b,0,none⟩),.int .i64 pick] u1 (mN plain pick h O X m (PA pick) u1)):=BG (hP.ok pick h hp) hp u1 kw hI HK.out;have s1:=k1.size;replace nB:=Below.step nB k1 (Nat.le_refl _);replace H6:=ab H6 k1;clear k1 J H3 kw hP hI hO CM;go_wp2_with fail;refine (CK.out u1).mono ?_;rintro e w1 ⟨rfl,rfl⟩;go_wp2_with fail;refine CS.out.mono ?_;rintro e u2 ⟨rfl,O',ov',ol',kw2,kp2,hO2,hA2⟩;rw [HSM.out] at kw2 hA2 |-;have hI2:=HP.out.next pick u2 SM hA2;have K2:Hid (MW u2 O' X m ov' SM.h ol'):=kw2;have R2:Hid (RowsAt u2 base m.gi m.gd m.gp SM.h.k):=HP.out.rows SM.h.k u2 hI2;have HO2:Hid (∀i,O' i->u0.heap.size<=i):=fun i hi=>by
  by_cases hlt:i<w1.heap.size
  ·exact HO.out i (hO2 i hlt hi)
  ·omega
 have H62:Hid (u2.heap[w.heap.size+1]?=some (.cells el 41 (0,0))):=kp2.heap H6.out (fun hh=>by have:=HO.out _ hh;omega);have n2:Below w.heap.size w u2:=kp2.below nB nB.size (fun i hi=>by have:=HO.out i hi;omega);have s2:=kp2.size;clear kw2 kp2 hO2 hA2 hI2 H6 nB K1 HI1 HO HP CS CK;have a9:=bL u2 #[.int .i64 0,.int .u64 0] 75;have HS9:Hid _:=bB (P:=Tryz.prog) (T:=75) (V:=#[.int .i64 SM.cause,.int .u64 SM.tval]) a9.1 BN rfl (by simp [Value.oneCell']);have e9:=aX (V:=#[.int .i64 SM.cause,.int .u64 SM.tval]) a9.1 rfl;have n9:=aS (Nat.le_refl _) (#[Value.int .i64 SM.cause,.int .u64 SM.tval]:Array Value).toList 0 _ a9.2.2;go_upto_region 5 with (first | ((with_reducible refine aH ?_ ?_ HS9.out ?_);(exact rfl);(exact rfl)));generalize (u2.alloc (Obj.cells #[.int .i64 0,.int .u64 0] 75)).setCells u2.heap.size 0 (#[Value.int .i64 SM.cause,.int .u64 SM.tval]:Array Value).toList=u3 at e9 n9 HS9 |-;have HT:Hid (u3.heap[u2.heap.size]?=some (.cells #[.int .i64 SM.cause,.int .u64 SM.tval] 75 (0,0))):=e9;have K3:Hid (MW u3 O' X m ov' SM.h ol'):=K2.out.low n9;have R3:Hid (RowsAt u3 base m.gi m.gd m.gp SM.h.k):=R2.out.keep n9;have H63:=ab H62 n9;have n3:=Below.step n2 n9 (Nat.le_refl _);have s3:=n9.size;have hk3:=HRO.out.ks;clear HS9 e9 n9 a9 K2 R2 H62 n2;have nD:=bdr u3;have CH:Hid (Calls Tryz.prog 32 #[.pointer (some ⟨m.b,0,none⟩)] u3.drew fun e w'=>sM u3.drew.heap.size m.gm SM.h e w'∧Below u3.drew.heap.size u3.drew w'):=Bk base u3.drew (K3.out.low nD) (R3.out.keep nD) ⟨hgi,hgd,hgp⟩ ⟨hk3.1.2.2.2,hk3.2.1.2.2.2,hk3.2.2.2.2.2⟩;have HL0:Hid (∀u:World,u.heap[u2.heap.size]?=some (.cells #[.int .i64 SM.cause,.int .u64 SM.tval] 75 (0,0))->(Instr.loadAt 2 (.pointer (some ⟨u2.heap.size,0,none⟩))).run Tryz.prog u=.ok (.int .i64 SM.cause) u):=fun u hu=>by
  have h1:=aa hu 0 (v:=.int .i64 SM.cause) rfl;go_simp
 have HL1:Hid (∀u:World,u.heap[u2.heap.size]?=some (.cells #[.int .i64 SM.cause,.int .u64 SM.tval] 75 (0,0))->(Instr.loadAt 24 (.pointer (some ⟨u2.heap.size,1,none⟩))).run Tryz.prog u=.ok (.int .u64 SM.tval) u):=fun u hu=>by
  have h1:=aa hu 1 (v:=.int .u64 SM.tval) rfl;go_simp
 have hF:u3.drew.heap[u2.heap.size]?=some (.cells #[.int .i64 SM.cause,.int .u64 SM.tval] 75 (0,0)):=HT.out;refine aO (fun u=>u.heap[u2.heap.size]?=some (.cells #[.int .i64 SM.cause,.int .u64 SM.tval] 75 (0,0))) 6 (by kernel_rfl) ?_;refine aq 0 27 (.pointer (some ⟨u2.heap.size,0,none⟩)) rfl (by kernel_rfl) (by kernel_rfl) (by kernel_rfl) (by kernel_rfl) rfl (by kernel_rfl) (fun _ _ _ h=>h) (by kernel_rfl) (fun u hu=>by kernel_rfl) hF (by kernel_rfl) ?_;simp only [Act.put,List.setIfInBounds_toArray,List.set_cons_succ,List.set_cons_zero];refine aq 1 28 (.int .i64 SM.cause) rfl (by kernel_rfl) (by kernel_rfl) (by kernel_rfl) (by kernel_rfl) rfl (by kernel_rfl) (fun _ _ _ h=>h) (by kernel_rfl) (fun u hu=>bF rfl (HL0.out u hu)) hF (by kernel_rfl) ?_;simp only [Act.put,List.setIfInBounds_toArray,List.set_cons_succ,List.set_cons_zero];refine aq 2 29 (.pointer (some ⟨u2.heap.size,1,none⟩)) rfl (by kernel_rfl) (by kernel_rfl) (by kernel_rfl) (by kernel_rfl) rfl (by kernel_rfl) (fun _ _ _ h=>h) (by kernel_rfl) (fun u hu=>by kernel_rfl) hF (by kernel_rfl) ?_;simp only [Act.put,List.setIfInBounds_toArray,List.set_cons_succ,List.set_cons_zero];refine aq 3 30 (.int .u64 SM.tval) rfl (by kernel_rfl) (by kernel_rfl) (by kernel_rfl) (by kernel_rfl) rfl (by kernel_rfl) (fun _ _ _ h=>h) (by kernel_rfl) (fun u hu=>bF rfl (HL1.out u hu)) hF (by kernel_rfl) ?_;simp only [Act.put,List.setIfInBounds_toArray,List.set_cons_succ,List.set_cons_zero];refine aq 4 31 (.pointer (some ⟨m.b,0,none⟩)) rfl (by kernel_rfl) (by kernel_rfl) (by kernel_rfl) (by kernel_rfl) rfl (by kernel_rfl) (fun _ _ _ h=>h) (by kernel_rfl) (fun u hu=>by kernel_rfl) hF (by kernel_rfl) ?_;simp only [Act.put,List.setIfInBounds_toArray,List.set_cons_succ,List.set_cons_zero];refine ck 5 32 (by kernel_rfl) rfl (by kernel_rfl) (by kernel_rfl) (f:=32) (args:=#[.pointer (some ⟨m.b,0,none⟩)]) (by kernel_rfl) ?_;refine CH.out.mono ?_;rintro e u4 ⟨hgot,k4⟩;have k4':Below u3.heap.size u3 u4:=Below.step nD k4 (Nat.le_refl _);have hgm:=HO2.out _ K3.out.om;have hz3:u3.drew.heap.size=u3.heap.size:=rfl;obtain ⟨q,rfl,ow⟩:=uy hgot (K3.out.low k4').mem (by have:=K3.out.len;omega) (B:=u0.heap.size) (by omega) (by omega);refine .inl ⟨_,rfl,fun _=>(ab HT k4').out,?_⟩;simp only [Act.put,List.setIfInBounds_toArray,List.set_cons_succ,List.set_cons_zero];have OW:Hid _:=ow;have H64:=ab H63 k4';have n4:=Below.step n3 k4' (Nat.le_refl _);clear ow hgot k4 k4' CH HL0 HL1 hF nD HT K3 R3 H63 n3;refine eH 6 33 (w':=u4) (.agg (dN true SM.cause SM.tval q SM.h)) (by kernel_rfl) rfl (by kernel_rfl) (by kernel_rfl) (by kernel_rfl) (fun h=>by simp at h) ?_;simp only [Act.put,List.setIfInBounds_toArray,List.set_cons_succ,List.set_cons_zero];obtain ⟨RA,hRA⟩:∃RA,dN true SM.cause SM.tval q SM.h=RA:=⟨_,rfl⟩;have hs24:RA.size=24:=by rw [<-hRA];rfl
 have hone:RA.all (·.oneCell')=true:=by rw [<-hRA];exact mr _ _ _ _ _
 rw [hRA];refine cz 7 rfl (T:=41) (x:=.tmp 6) (y:=.tmp 33) (by kernel_rfl) (by kernel_rfl) (by kernel_rfl) (by kernel_rfl) (b:=w.heap.size+1) (off:=0) (by kernel_rfl) (by kernel_rfl) (bB (P:=Tryz.prog) (T:=41) (V:=RA) H64.out (by rw [hs24];exact rz) (by rw [hs24];rfl) hone) (.inl (by kernel_rfl)) ?_;refine cf (by kernel_rfl) ?_ _;have e1:=aX (V:=RA) H64.out (by rw [hs24];rfl);have e2:=aS (show w.heap.size<=w.heap.size+1 by omega) RA.toList 0 _ n4;have gS:=aM (w.heap.size+1) RA.toList 0 u4 u4 (au u4 _);go_wp2_with fail;refine dx (b:=w.heap.size+1) Tryz.results8 rfl (bx (P:=Tryz.prog) e1 Tryz.underlying41 rfl (by rw [hs24];exact rz)) rfl ?_;exact ⟨⟨q,by rw [<-hRA],(OW.out.gb gS (by omega)).lower (by omega)⟩,e2⟩
end Go.Proofs.YtgnnmgfgfihljaaGreat
