import Derived.Test.YthdgiakgepmabaaGreatDk05
import Derived.Test.YthdgiakgepmabaaGreatDk04
namespace Go.Proofs.YthdgiakgepmabaaGreat
open Go.RowKit
set_option linter.unusedVariables false
set_option maxHeartbeats 6400000
set_option maxRecDepth 20000
theorem vW (n level va:Int) (w:World) (hv0:0<=va) (hv1:va<=18446744073709551615) (hl:level=0∨level=1∨level=2) (hn0:0<=n) (hn1:n<17592186044416):
 Calls Tryz.prog 177 #[VU n,VI level,VU va] w fun e w'=>e=.returned (VU (64*n+8*da va level))∧∃q,w'=w.drewN q:=by
 obtain ⟨ix,hix⟩:∃ix,da va level=ix:=⟨_,rfl⟩;have hib:=re va level;have HI:=hid hix;have HE:Hid (n*64+ix*8=64*n+8*ix):=show _=_ by omega
 rw [hix] at hib |-;clear hix;go_enter Tryz.func177,Tryz.ntmps177;go_wp2_with fail;refine (Ee va level w hv0 hv1 hl).mono ?_;rintro e w' ⟨rfl,nq,rfl⟩;rw [HI.out];go_wp2;go_ret;exact ⟨dN HE.out,nq,rfl⟩
theorem yE (a:Option Addr) (len cap:Nat) (addr:Int) (w:World) (hl:len<=1048576) (h0:0<=addr) (h1:addr<=18446744073709551615) (hg:dO len addr 8=false):
 Calls Tryz.prog 188 #[.slice a len cap,VU addr] w fun e w'=>e=.returned (.tuple #[VU 0,.bool false])∧w'=w:=by
 have HG:=hid hg;clear hg;go_enter Tryz.func188,Tryz.ntmps188;go_wp2_with (go_at_call 189;refine (tZ _ _ _ _ _ _ hl h0 h1 (by omega)).mono ?_;rintro e w' ⟨rfl,rfl⟩;rw [HG.out]);exact bodyPost_ret (v:=.tuple #[VU 0,.bool false]) (by simp [results,Tryz.results188,go_sem]) rfl ⟨rfl,rfl⟩
theorem zV (a:Option Addr) (len cap:Nat) (zs:List Int) (addr:Int) (w:World) (h:Byt w a len zs) (hl:len<=1048576) (h0:0<=addr) (h1:addr<=18446744073709551615) (hg:dO len addr 8=true):
 Calls Tryz.prog 188 #[.slice a len cap,VU addr] w fun e w'=>e=.returned (.tuple #[VU (rdV zs addr 8),.bool true])∧w'=w:=by
 have hz:=h.1;have hv:rdV zs addr 8=num ((zs.drop addr.toNat).take 8):=by simp [rdV,hz,hg]
 rw [hv];have hg':=hg;simp only [dO,decide_eq_true_eq] at hg';obtain ⟨hn,hn1,hn2⟩:=hg';obtain ⟨k,rfl⟩:=Int.eq_ofNat_of_zero_le h0;obtain ⟨b,off,rfl⟩:∃b off,a=some (AD b off):=by
  rcases h.2.2 with hy | ⟨b,off,rfl,hb,hcl⟩
  ·omega
  ·exact ⟨b,off,rfl⟩
 have HG:=hid hg;have HC:=Cel.of_byt h;clear hg hv h;rw [Int.toNat_natCast];go_enter Tryz.func188,Tryz.ntmps188;go_wp2_with (first
  | (go_at_call 189;refine (tZ _ _ _ _ _ _ hl h0 h1 (by omega)).mono ?_;rintro e w' ⟨rfl,rfl⟩;rw [HG.out])
  | (go_at_call 190;refine (Bk b off len cap k zs _ HC (by omega) hl).mono ?_;rintro e w' ⟨rfl,rfl⟩))
 exact bodyPost_ret (v:=.tuple #[VU (num ((zs.drop k).take 8)),.bool true]) (by simp [results,Tryz.results188,go_sem]) rfl ⟨rfl,rfl⟩
theorem GI (w:World):(Instr.typeAssert (.iface 260 (.agg #[])) 251 260 true).run Tryz.prog w=.ok (.tuple #[.agg #[],.bool true]) w:=by kernel_rfl
theorem GJ (w:World):(Instr.typeAssert (.iface 261 (.agg #[])) 251 260 true).run Tryz.prog w=.ok (.tuple #[.agg #[],.bool false]) w:=by kernel_rfl
theorem GK (w:World):(Instr.typeAssert (.iface 261 (.agg #[])) 251 261 true).run Tryz.prog w=.ok (.tuple #[.agg #[],.bool true]) w:=by kernel_rfl
theorem GL (w:World):(Instr.typeAssert .nilIface 251 260 true).run Tryz.prog w=.ok (.tuple #[.agg #[],.bool false]) w:=by kernel_rfl
theorem GM (w:World):(Instr.typeAssert .nilIface 251 261 true).run Tryz.prog w=.ok (.tuple #[.agg #[],.bool false]) w:=by kernel_rfl
def cu (code:Int):Value:=if code=1 then .nilIface else if code=2 then .iface 260 (.agg #[]) else .iface 261 (.agg #[])
theorem vo (kind:Int) (w:World):Calls Tryz.prog 138 #[VI kind] w fun e w'=>e=.returned (VI (eU kind))∧w'=w:=by
 by_cases k0:kind=0
 ·subst k0;go_enter Tryz.func138,Tryz.ntmps138;go_wp2;go_ret;exact ⟨rfl,rfl⟩
 have k0':(kind == 0)=false:=by simpa using k0
 by_cases k1:kind=1
 ·subst k1;go_enter Tryz.func138,Tryz.ntmps138;go_wp2;go_ret;exact ⟨rfl,rfl⟩
 have k1':(kind == 1)=false:=by simpa using k1
 have HE:Hid (eU kind=15):=by show _=_;rw [eU,if_neg k0,if_neg k1]
 clear k0 k1;go_enter Tryz.func138,Tryz.ntmps138;go_wp2;go_ret;exact ⟨cx HE.out.symm,rfl⟩
theorem lT (kind:Int) (w:World):Calls Tryz.prog 130 #[VI kind] w fun e w'=>e=.returned (VI (bO kind))∧w'=w:=by
 by_cases k0:kind=0
 ·subst k0;go_enter Tryz.func130,Tryz.ntmps130;go_wp2;go_ret;exact ⟨rfl,rfl⟩
 have k0':(kind == 0)=false:=by simpa using k0
 by_cases k1:kind=1
 ·subst k1;go_enter Tryz.func130,Tryz.ntmps130;go_wp2;go_ret;exact ⟨rfl,rfl⟩
 have k1':(kind == 1)=false:=by simpa using k1
 have HE:Hid (bO kind=7):=by show _=_;rw [bO,if_neg k0,if_neg k1]
 clear k0 k1;go_enter Tryz.func130,Tryz.ntmps130;go_wp2;go_ret;exact ⟨cx HE.out.symm,rfl⟩
theorem sD (c kind:Int) (w:World) (hc:c=1∨c=2∨c=3):
 Calls Tryz.prog 132 #[cu c,VI kind] w fun e w'=>e=.returned (VI (if c=1 then 0 else if c=2 then eU kind else bO kind))∧w'=w:=by
 have t1:=GI;have t2:=GJ;have t3:=GK;have t4:=GL;have t5:=GM;rcases hc with rfl | rfl | rfl;all_goals
  simp only [cu,if_pos,Int.reduceEq];go_enter Tryz.func132,Tryz.ntmps132;go_wp2_with (first
   | (go_at_call 138;refine (vo kind _).mono ?_;rintro e w' ⟨rfl,rfl⟩)
   | (go_at_call 130;refine (lT kind _).mono ?_;rintro e w' ⟨rfl,rfl⟩))
  go_ret;exact ⟨rfl,rfl⟩
def tJ (acc:List aP) (r:Int × Int × Int × List aP):Int × Int × Int × List aP:=(r.1,r.2.1,r.2.2.1,acc++r.2.2.2)
theorem uk (zs:List Int) (va:Int) (k:Nat) (n:Int) (h:dO zs.length (64*n+8*da va k) 8=false):bu zs va k n=(3,(k:Int),0,[]):=by
 unfold bu;rw [if_pos h]
theorem ul (zs:List Int) (va:Int) (k:Nat) (n:Int) (h:dO zs.length (64*n+8*da va k) 8=true) (hk:aU (rdV zs (64*n+8*da va k) 8) k=0):bu zs va k n=(2,(k:Int),0,[]):=by
 unfold bu;rw [if_neg (by rw [h];simp),if_pos hk]
theorem sE (zs:List Int) (va:Int) (k:Nat) (n:Int) (h:dO zs.length (64*n+8*da va k) 8=true) (hk:aU (rdV zs (64*n+8*da va k) 8) k=2):bu zs va k n=(1,(k:Int),rdV zs (64*n+8*da va k) 8,[((k:Int),64*n+8*da va k,rdV zs (64*n+8*da va k) 8)]):=by
 unfold bu;rw [if_neg (by rw [h];simp),if_neg (by rw [hk];decide),if_pos hk]
theorem sF (zs:List Int) (va:Int) (k:Nat) (n:Int) (h:dO zs.length (64*n+8*da va ((k+1:Nat):Int)) 8=true) (hk:aU (rdV zs (64*n+8*da va ((k+1:Nat):Int)) 8) ((k+1:Nat):Int)=1):
 bu zs va (k+1) n=tJ [(((k+1:Nat):Int),64*n+8*da va ((k+1:Nat):Int),rdV zs (64*n+8*da va ((k+1:Nat):Int)) 8)] (bu zs va k (dA (rdV zs (64*n+8*da va ((k+1:Nat):Int)) 8))):=by
 rw [bu,if_neg (by rw [h];simp),if_neg (by rw [hk];decide),if_neg (by rw [hk];decide)];rfl
theorem DC (a b:List aP) (r:Int × Int × Int × List aP):tJ a (tJ b r)=tJ (a++b) r:=by
 simp [tJ]
def zE (base:Nat) (w':World) (e:Ending) (r:Int × Int × Int × List aP):Prop:=
 ∃ra rc,e=.returned (.tuple #[.agg #[VI r.2.1,VU r.2.2.1,.slice ra r.2.2.2.length rc],cu r.1])∧w'.ownsRow base 118 3 (.slice ra r.2.2.2.length rc) r.2.2.2.length (cj r.2.2.2)
def Au (w:World) (p:Nat):Nat:=match w.cell? (AD p 0) with
 | some v=>(intOf v).toNat
 | none=>0
def SrcAt (w:World) (sv:Value) (zs:List Int):Prop:=
 ∃d x a len cap,sv=.iface d x∧(∀u,Bw w u->(method 417 d x "loop.example/s0051/impl.entryAt").run Tryz.prog u=.ok (188,.slice a len cap) u)∧Byt w a len zs∧len<=1048576
theorem SrcAt.keep {w w':World} {sv:Value} {zs:List Int} (h:SrcAt w sv zs) (hb:Bw w w'):SrcAt w' sv zs:=by
 obtain ⟨d,x,a,len,cap,rfl,hm,hB,hl⟩:=h;exact ⟨d,x,a,len,cap,rfl,fun u hu=>hm u (bst hb hu),hB.keep hb,hl⟩
theorem SrcAt.bd {w:World} {sv:Value} {zs:List Int} (h:SrcAt w sv zs):∀i:Nat,0<=zs[i]?.getD 0∧zs[i]?.getD 0<=255:=by
 obtain ⟨d,x,a,len,cap,rfl,hm,hB,hl⟩:=h;exact hB.2.1
theorem jc:∀a b:List aP,cj (a++b)=cj a++cj b
 | [],b=>rfl
 | r::a,b=>by simp [cj,jc a b]
theorem oW (sv:Value) (zs:List Int) (va n:Int) (l:Nat) (w:World) (hB:SrcAt w sv zs) (hl:l<=2) (hv0:0<=va) (hv1:va<=18446744073709551615) (hn0:0<=n) (hn1:n<17592186044416):
 Calls Tryz.prog 170 #[sv,VU n,VI l,VU va] w fun e w'=>zE w.heap.size w' e (bu zs va l n)∧Bw w w':=by
 obtain ⟨dT,xS,a,len,cap,rfl,hm,hB,hlen⟩:=hB;have hz:=hB.1;have hzb:=hB.2.1;have HB:=hid hB;have HMt:Hid _:=hm;obtain ⟨X,hX⟩:∃X,bu zs va l n=X:=⟨_,rfl⟩;have HX:Hid (X=tJ [] (bu zs va l n)):=by show _=_;rw [<-hX];rfl
 rw [hX];clear hX hB hm;have s0:Hid (((w.alloc (Obj.cells #[VI 0,VU 0,SN] 284)).alloc (Obj.cells #[VI l,VU 0,SN] 284)).heap[w.heap.size+1]?=some (.cells #[VI l,VU 0,SN] 284 (0,0))):=by
  have:=fC (w.alloc (Obj.cells #[VI 0,VU 0,SN] 284)) (Obj.cells #[VI l,VU 0,SN] 284);simp only [World.size_alloc] at this;exact this
 have r0:Hid (((w.alloc (Obj.cells #[VI 0,VU 0,SN] 284)).alloc (Obj.cells #[VI l,VU 0,SN] 284)).heap[w.heap.size]?=some (.cells #[VI 0,VU 0,SN] 284 (0,0))):=by
  show _=_;rw [yw _ _ (by simp)];exact fC w _
 have b0:Bw w ((w.alloc (Obj.cells #[VI 0,VU 0,SN] 284)).alloc (Obj.cells #[VI l,VU 0,SN] 284)):=((Below.refl w.heap.size w).alloc nle _).alloc (by simp) _;go_enter Tryz.func170,Tryz.ntmps170;go_wp2;go_loopw [1] (fun tt wr=>∃(k:Nat) (n':Int) (ra:Option Addr) (rc:Nat) (acc:List aP),k<=l∧tt=VU n'∧0<=n'∧n'<17592186044416∧acc.length+k<=2∧wr.heap[w.heap.size+1]?=some (.cells #[VI k,VU 0,.slice ra acc.length rc] 284 (0,0))∧
  wr.heap[w.heap.size]?=some (.cells #[VI 0,VU 0,SN] 284 (0,0))∧wr.ownsRow (w.heap.size+2) 118 3 (.slice ra acc.length rc) acc.length (cj acc)∧Hid (X=tJ acc (bu zs va k n'))∧Bw w wr) (fun _ wr=>Au wr (w.heap.size+1))
 case atStart=>exact ⟨l,n,none,0,[],nle,rfl,hn0,hn1,by simpa using hl,s0.out,r0.out,World.ownsRow_nil _ _ _ _,HX,b0⟩
 case round=>
  clear s0 r0 b0 HX hn0 hn1;obtain ⟨k,n',ra,rc,acc,hk,rfl,hn0,hn1,hac,hS,hR,hO,HX,hb⟩:=hrel;have HS:=hid hS;have HR:=hid hR;have HO:=hid hO;have hlt:=(hpl hS);have HM:Hid (Au wr (w.heap.size+1)=k):=by
   show _=_;rw [Au,(aF hS).1.1];rfl
  obtain ⟨⟨c0,c1,c2⟩,e0,e1,e2⟩:=aF hS;clear hS hR hO;obtain ⟨ix,hix⟩:∃ix,da va (k:Int)=ix:=⟨_,rfl⟩;have hib:=re va (k:Int);rw [hix] at hib;obtain ⟨rv,hrv⟩:∃rv,rdV zs (64*n'+8*ix) 8=rv:=⟨_,rfl⟩;have hrb:=nH zs (64*n'+8*ix) 8 (by omega) hzb;rw [hrv] at hrb;have HI:=hid hix;have HV:Hid (rdV zs (64*n'+8*ix) 8=rv):=hrv;clear hix hrv;go_wp2_with fail;refine (vW n' k va wr hv0 hv1 (by omega) hn0 hn1).mono ?_;rintro e w' ⟨rfl,nq,rfl⟩;rw [HI.out];have HS1:Hid ((wr.drewN nq).heap[w.heap.size+1]?=some (.cells #[VI k,VU 0,.slice ra acc.length rc] 284 (0,0))):=HS;have HR1:Hid ((wr.drewN nq).heap[w.heap.size]?=some (.cells #[VI 0,VU 0,SN] 284 (0,0))):=HR;have HO1:Hid ((wr.drewN nq).ownsRow (w.heap.size+2) 118 3 (.slice ra acc.length rc) acc.length (cj acc)):=HO;have hlt1:w.heap.size+1<(wr.drewN nq).heap.size:=hlt;have hb1:Bw w (wr.drewN nq):=below_drewN hb nq;generalize wr.drewN nq=v1 at HS1 HR1 HO1 hlt1 hb1 |-;clear c0 c1 c2 e0 e1 e2 HS HR HO hlt hb;obtain ⟨⟨c0,c1,c2⟩,e0,e1,e2⟩:=aF HS1.out;obtain ⟨⟨d0,d1,d2⟩,f0,f1,f2⟩:=aF HR1.out;have hm:=HMt.out v1 hb1;cases hg:dO len (64*n'+8*ix) 8
  ·have HG:Hid (dO len (64*n'+8*ix) 8=false):=hg;clear hg;go_wp2_with fail;refine (yE a len cap (64*n'+8*ix) v1 hlen (by omega) (by omega) HG.out).mono ?_;rintro e w' ⟨rfl,rfl⟩;go_wp2_with fail;have hX:X=(3,(k:Int),0,acc):=by
    rw [HX.out,uk zs va k n' (by rw [hz,HI.out];exact HG.out)];simp [tJ]
   refine bodyPost_ret (v:=.tuple #[.agg #[VI k,VU 0,.slice ra acc.length rc],.iface 261 (.agg #[])]) (by simp [results,Tryz.results170,go_sem,d0,d1,d2]) rfl ?_;rw [hX];exact ⟨⟨ra,rc,rfl,bS (aE HO1.out (gb3 _ w.heap.size _ _ _) (by omega)) (by omega)⟩,kz hb1 nle _ _ _⟩
  ·have HG:Hid (dO len (64*n'+8*ix) 8=true):=hg;clear hg;go_wp2_with fail;refine (zV a len cap zs (64*n'+8*ix) v1 (HB.out.keep hb1) hlen (by omega) (by omega) HG.out).mono ?_;rintro e w' ⟨rfl,rfl⟩;rw [HV.out];rcases mC rv (k:Int) with hkd | hkd | hkd
   ·have HK:Hid (aU rv (k:Int)=0):=hkd;clear hkd;go_wp2_with fail;refine (oV rv k _ hrb.1 hrb.2).mono ?_;rintro e w' ⟨rfl,rfl⟩;rw [HK.out];go_wp2_with fail;have hX:X=(2,(k:Int),0,acc):=by
     rw [HX.out,ul zs va k n' (by rw [hz,HI.out];exact HG.out) (by rw [HI.out,HV.out];exact HK.out)];simp [tJ]
    refine bodyPost_ret (v:=.tuple #[.agg #[VI k,VU 0,.slice ra acc.length rc],.iface 260 (.agg #[])]) (by simp [results,Tryz.results170,go_sem,d0,d1,d2]) rfl ?_;rw [hX];exact ⟨⟨ra,rc,rfl,bS (aE HO1.out (gb3 _ w.heap.size _ _ _) (by omega)) (by omega)⟩,kz hb1 nle _ _ _⟩
   ·have HK:Hid (aU rv (k:Int)=1):=hkd;clear hkd;go_wp2_with fail;refine (oV rv k _ hrb.1 hrb.2).mono ?_;rintro e v3 ⟨rfl,rfl⟩;rw [HK.out];have n4:=(Below.refl v3.heap.size v3).alloc nle (Obj.cells #[VI k,VU (64*n'+8*ix),VU rv] 118);have HS4:Hid ((v3.alloc (Obj.cells #[VI k,VU (64*n'+8*ix),VU rv] 118)).heap[w.heap.size+1]?=some (.cells #[VI k,VU 0,.slice ra acc.length rc] 284 (0,0))):=ae HS1.out n4 hlt1;have HR4:Hid ((v3.alloc (Obj.cells #[VI k,VU (64*n'+8*ix),VU rv] 118)).heap[w.heap.size]?=some (.cells #[VI 0,VU 0,SN] 284 (0,0))):=ae HR1.out n4 (by omega);have HO4:Hid ((v3.alloc (Obj.cells #[VI k,VU (64*n'+8*ix),VU rv] 118)).ownsRow (w.heap.size+2) 118 3 (.slice ra acc.length rc) acc.length (cj acc)):=aq HO1.out n4;have HW4:Hid (RowC (v3.alloc (Obj.cells #[VI k,VU (64*n'+8*ix),VU rv] 118)) (some (AD v3.heap.size 0)) 1 3 (cj [((k:Int),64*n'+8*ix,rv)])):=(OwnC.new 118 3 v3 (cj [((k:Int),64*n'+8*ix,rv)]) 1 (by rfl) (by decide)).row;have l4:v3.heap.size<(v3.alloc (Obj.cells #[VI k,VU (64*n'+8*ix),VU rv] 118)).heap.size:=by simp
    have b4:Bw w (v3.alloc (Obj.cells #[VI k,VU (64*n'+8*ix),VU rv] 118)):=hb1.alloc (by omega) _;go_wp2_with (at_builtin;refine me _ rfl (.tmp 43) (.tmp 49) 112 rfl 118 Tryz.underlying112 (.agg #[VI 0,VU 0,VU 0]) 3 24 Tryz.infoRec rfl (by decide) (w.heap.size+2) acc.length _ (cj acc) rfl HO4.out v3.heap.size 0 1 1 (cj [((k:Int),64*n'+8*ix,rv)]) rfl (by omega) HW4.out (mB _) (by omega) (by omega) (by omega) (w.heap.size+2) _ brf nle ?_;intro g5 cp5 v5 o5 n5;have HO5:Hid (v5.ownsRow (w.heap.size+2) 118 3 (SL g5 (acc.length+1) cp5) (acc.length+1) (cj acc++cj [((k:Int),64*n'+8*ix,rv)])):=o5;have HS5:Hid (v5.heap[w.heap.size+1]?=some (.cells #[VI k,VU 0,.slice ra acc.length rc] 284 (0,0))):=(n5.block _ (by omega)).trans HS4.out;have HR5:Hid (v5.heap[w.heap.size]?=some (.cells #[VI 0,VU 0,SN] 284 (0,0))):=(n5.block _ (by omega)).trans HR4.out;have b5:Bw w v5:=b4.trans (n5.mono (by omega));have l5:=n5.size;clear c0 c1 c2 e0 e1 e2 d0 d1 d2 f0 f1 f2 o5;obtain ⟨⟨c0,c1,c2⟩,e0,e1,e2⟩:=aF HS5.out;obtain ⟨⟨d0,d1,d2⟩,f0,f1,f2⟩:=aF HR5.out;clear n5 n4 HS4 HR4 HO4 HW4 b4 HS1 HR1 HO1);have HS6:Hid ((v5.setCell ⟨w.heap.size+1,2,none⟩ (SL g5 (acc.length+1) cp5)).heap[w.heap.size+1]?=some (.cells #[VI k,VU 0,SL g5 (acc.length+1) cp5] 284 (0,0))):=FR HS5.out;have m6:=au (ao v5 (some (w.heap.size+1))) 2 (SL g5 (acc.length+1) cp5);have HR6:Hid ((v5.setCell ⟨w.heap.size+1,2,none⟩ (SL g5 (acc.length+1) cp5)).heap[w.heap.size]?=some (.cells #[VI 0,VU 0,SN] 284 (0,0))):=aA HR5.out m6 (by omega);have HO6:Hid ((v5.setCell ⟨w.heap.size+1,2,none⟩ (SL g5 (acc.length+1) cp5)).ownsRow (w.heap.size+2) 118 3 (SL g5 (acc.length+1) cp5) (acc.length+1) (cj acc++cj [((k:Int),64*n'+8*ix,rv)])):=aE HO5.out m6 (by omega);have b6:=b5.setCell (p:=⟨w.heap.size+1,2,none⟩) (by show w.heap.size<=w.heap.size+1;omega) (SL g5 (acc.length+1) cp5);refine (vi rv _ hrb.1 hrb.2).mono ?_;rintro e w' ⟨rfl,rfl⟩;generalize v5.setCell ⟨w.heap.size+1,2,none⟩ (SL g5 (acc.length+1) cp5)=v6 at HS6 HR6 HO6 b6 |-;clear c0 c1 c2 e0 e1 e2 d0 d1 d2 f0 f1 f2 m6 HS5 HR5 HO5 b5;obtain ⟨⟨c0,c1,c2⟩,e0,e1,e2⟩:=aF HS6.out;have hpb:=vd rv;obtain ⟨pp,hpp⟩:∃pp,dA rv=pp:=⟨_,rfl⟩;have HP:Hid (dA rv=pp):=hpp;rw [hpp] at hpb |-;clear hpp;obtain ⟨k',rfl⟩:∃k',k=k'+1:=by
     cases k with
     | zero=>exact absurd HK.out (jq _)
     | succ k'=>exact ⟨k',rfl⟩
    go_wp2;go_roundw
    case rel=>
     refine ⟨k',pp,some (AD g5 0),cp5,acc++[(((k'+1:Nat):Int),64*n'+8*ix,rv)],by omega,rfl,hpb.1,hpb.2,by simp;omega,?_,?_,?_,?_,?_⟩
     ·rw [show (acc++[(((k'+1:Nat):Int),64*n'+8*ix,rv)]).length=acc.length+1 by simp,show ((k':Nat):Int)=((k'+1:Nat):Int)-1 by omega];exact FQ HS6.out
     ·exact aA HR6.out (au (ao v6 (some (w.heap.size+1))) 0 _) (by omega)
     ·rw [show (acc++[(((k'+1:Nat):Int),64*n'+8*ix,rv)]).length=acc.length+1 by simp,jc];exact aE HO6.out (au (ao v6 (some (w.heap.size+1))) 0 _) (by omega)
     ·show _=_;rw [HX.out,sF zs va k' n' (by rw [hz,HI.out];exact HG.out) (by rw [HI.out,HV.out];exact HK.out),DC,HI.out,HV.out,HP.out]
     ·exact b6.setCell (p:=⟨w.heap.size+1,0,none⟩) (by show w.heap.size<=w.heap.size+1;omega) _
    case measure=>
     rw [HM.out,Au,(aF (FQ HS6.out)).1.1];simp [intOf]
   ·have HK:Hid (aU rv (k:Int)=2):=hkd;clear hkd;go_wp2_with fail;refine (oV rv k _ hrb.1 hrb.2).mono ?_;rintro e v3 ⟨rfl,rfl⟩;rw [HK.out];have n4:=(Below.refl v3.heap.size v3).alloc nle (Obj.cells #[VI k,VU (64*n'+8*ix),VU rv] 118);have HS4:=hid (ae HS1.out n4 hlt1);have HR4:=hid (ae HR1.out n4 (by omega));have HO4:=hid (aq HO1.out n4);have HW4:=hid ((OwnC.new 118 3 v3 (cj [((k:Int),64*n'+8*ix,rv)]) 1 (by rfl) (by decide)).row);have l4:v3.heap.size<(v3.alloc (Obj.cells #[VI k,VU (64*n'+8*ix),VU rv] 118)).heap.size:=by simp
    have b4:Bw w (v3.alloc (Obj.cells #[VI k,VU (64*n'+8*ix),VU rv] 118)):=hb1.alloc (by omega) _;go_wp2_with (at_builtin;refine me _ rfl (.tmp 43) (.tmp 49) 112 rfl 118 Tryz.underlying112 (.agg #[VI 0,VU 0,VU 0]) 3 24 Tryz.infoRec rfl (by decide) (w.heap.size+2) acc.length _ (cj acc) rfl HO4.out v3.heap.size 0 1 1 (cj [((k:Int),64*n'+8*ix,rv)]) rfl (by omega) HW4.out (mB _) (by omega) (by omega) (by omega) (w.heap.size+2) _ brf nle ?_;intro g5 cp5 v5 o5 n5;have HO5:Hid (v5.ownsRow (w.heap.size+2) 118 3 (SL g5 (acc.length+1) cp5) (acc.length+1) (cj acc++cj [((k:Int),64*n'+8*ix,rv)])):=o5;have HS5:Hid (v5.heap[w.heap.size+1]?=some (.cells #[VI k,VU 0,.slice ra acc.length rc] 284 (0,0))):=(n5.block _ (by omega)).trans HS4.out;have HR5:Hid (v5.heap[w.heap.size]?=some (.cells #[VI 0,VU 0,SN] 284 (0,0))):=(n5.block _ (by omega)).trans HR4.out;have b5:Bw w v5:=b4.trans (n5.mono (by omega));have l5:=n5.size;clear c0 c1 c2 e0 e1 e2 d0 d1 d2 f0 f1 f2 o5;obtain ⟨⟨c0,c1,c2⟩,e0,e1,e2⟩:=aF HS5.out;obtain ⟨⟨d0,d1,d2⟩,f0,f1,f2⟩:=aF HR5.out;clear n5 n4 HS4 HR4 HO4 HW4 b4 HS1 HR1 HO1);have hX:X=(1,(k:Int),rv,acc++[((k:Int),64*n'+8*ix,rv)]):=by
     rw [HX.out,sE zs va k n' (by rw [hz,HI.out];exact HG.out) (by rw [HI.out,HV.out];exact HK.out),HI.out,HV.out];rfl
    refine bodyPost_ret (v:=.tuple #[.agg #[VI k,VU rv,SL g5 (acc.length+1) cp5],.nilIface]) (by simp [results,Tryz.results170,go_sem,d0,d1,d2]) rfl ?_;rw [hX];refine ⟨⟨some (AD g5 0),cp5,?_,?_⟩,kz ((b5.setCell (p:=⟨w.heap.size+1,2,none⟩) (by show w.heap.size<=w.heap.size+1;omega) _).setCell (p:=⟨w.heap.size+1,1,none⟩) (by show w.heap.size<=w.heap.size+1;omega) _) nle _ _ _⟩
    ·simp [cu]
    ·rw [show (acc++[((k:Int),64*n'+8*ix,rv)]).length=acc.length+1 by simp,jc];exact bS (aE (aE HO5.out (au (au (ao v5 (some (w.heap.size+1))) 2 _) 1 _) (by omega)) (gb3 _ w.heap.size _ _ _) (by omega)) (by omega)
theorem pe (va l:Int) (hl:l=0∨l=1∨l=2):0<=dP va l∧dP va l<=511:=by
 rcases hl with rfl | rfl | rfl <;> simp only [dP] <;> (try simp) <;> omega
theorem FA {t:TlbM} {p:Bool} {va asid l:Int} {q:Nat} {x:EntM} (hv:aY t p=true) (hx:t.es[q]?=some x) (hh:jJ va asid l x=true):(q:Int)/t.ways=dP va l%t.sets:=by
 have hp:=iM hv q x hx;simp only [jJ,ko,Bool.and_eq_true,beq_iff_eq] at hh;obtain ⟨h1,⟨h2,h3⟩,_⟩:=hh;simp only [dh,Bool.or_eq_true,Bool.and_eq_true,beq_iff_eq] at hp;rcases hp with hp | hp
 ·rw [h2] at hp;simp at hp
 ·rw [<-hp.2,h3,h1]
theorem yk {t:TlbM} {p:Bool} (hv:aY t p=true):(t.sets=1∨t.sets=2∨t.sets=4∨t.sets=8)∧1<=t.ways∧t.ways<=4∧(t.es.length:Int)=t.sets*t.ways:=fS hv
theorem vR {t:TlbM} {p:Bool} {va asid l:Int} {q f:Nat} {x:EntM} (hv:aY t p=true) (hx:t.es[q]?=some x) (hf:(f:Int)=dP va l%t.sets*t.ways) (hq:q<f∨(f:Int)+t.ways<=q):jJ va asid l x=false:=by
 cases hh:jJ va asid l x
 ·rfl
 ·exfalso;have h1:=FA hv hx hh;obtain ⟨_,w1,w4,_⟩:=yk hv;rw [<-h1] at hf;rcases (show t.ways=1∨t.ways=2∨t.ways=3∨t.ways=4 by omega) with hw | hw | hw | hw <;> rw [hw] at hf hq <;> omega
theorem BY {t:TlbM} {p:Bool} {va asid l:Int} {f:Nat} (hv:aY t p=true) (hf:(f:Int)=dP va l%t.sets*t.ways)
 (h:∀(j:Nat) x,(j:Int)<t.ways->t.es[f+j]?=some x->jJ va asid l x=false):dU va asid l 0 t.es=none:=by
 refine rG va asid l t.es 0 (fun j x hx=>?_);by_cases h1:j<f
 ·exact vR hv hx hf (.inl h1)
 ·by_cases h2:(f:Int)+t.ways<=j
  ·exact vR hv hx hf (.inr h2)
  ·exact h (j-f) x (by omega) (by rw [show f+(j-f)=j by omega];exact hx)
theorem BZ {t:TlbM} {p:Bool} {va asid l:Int} {f k:Nat} {x:EntM} (hv:aY t p=true) (hf:(f:Int)=dP va l%t.sets*t.ways) (hx:t.es[f+k]?=some x) (hh:jJ va asid l x=true)
 (h:∀(j:Nat) y,j<k->t.es[f+j]?=some y->jJ va asid l y=false):dU va asid l 0 t.es=some (f+k,x):=by
 have:=rH va asid l t.es 0 (f+k) x hx hh (fun j y hj hy=>by
  by_cases h1:j<f
  ·exact vR hv hy hf (.inl h1)
  ·exact h (j-f) y (by omega) (by rw [show f+(j-f)=j by omega];exact hy))
 rw [Nat.zero_add] at this;exact this
theorem uu (va asid l:Int):∀(es:List EntM) (i k:Nat) (x:EntM),dU va asid l i es=some (k,x)->∃j,k=i+j∧es[j]?=some x∧jJ va asid l x=true
 | [],i,k,x,h=>by cases h
 | e::r,i,k,x,h=>by
  rw [dU] at h;split at h
  ·rename_i hh;cases h;exact ⟨0,rfl,rfl,hh⟩
  ·obtain ⟨j,rfl,h2,h3⟩:=uu va asid l r (i+1) k x h;exact ⟨j+1,by omega,by simpa using h2,h3⟩
theorem mK (t:TlbM) (va asid:Int) (h:(bX t va asid).1=true):∃(k:Nat) (x:EntM),t.es[k]?=some x∧(bX t va asid).2.1=(k:Int)∧(bX t va asid).2.2.1=x.level∧(bX t va asid).2.2.2=x.pte∧ko x va asid=true∧x.valid=true:=by
 have key:∀(l:Int) (k:Nat) (x:EntM),dU va asid l 0 t.es=some (k,x)->t.es[k]?=some x∧l=x.level∧ko x va asid=true∧x.valid=true:=by
  intro l k x hf;obtain ⟨j,rfl,h2,h3⟩:=uu va asid l t.es 0 k x hf;simp only [jJ,Bool.and_eq_true,beq_iff_eq] at h3;have hv:x.valid=true:=by
   have:=h3.2;simp only [ko,Bool.and_eq_true] at this;exact this.1.1
  exact ⟨by rw [Nat.zero_add];exact h2,h3.1.symm,h3.2,hv⟩
 unfold bX at h |-;split at h
 ·cases h
 ·rename_i he;rw [if_neg he];cases h0:dU va asid 0 0 t.es with
  | some y=>
   obtain ⟨k,x⟩:=y;obtain ⟨a1,a2,a3,a4⟩:=key 0 k x h0;exact ⟨k,x,a1,by simp [iD],by simp [iD,<-a2],by simp [iD],a3,a4⟩
  | none=>
   cases h1:dU va asid 1 0 t.es with
   | some y=>
    obtain ⟨k,x⟩:=y;obtain ⟨a1,a2,a3,a4⟩:=key 1 k x h1;exact ⟨k,x,a1,by simp [iD],by simp [iD,<-a2],by simp [iD],a3,a4⟩
   | none=>
    cases h2:dU va asid 2 0 t.es with
    | some y=>
     obtain ⟨k,x⟩:=y;obtain ⟨a1,a2,a3,a4⟩:=key 2 k x h2;exact ⟨k,x,a1,by simp [iD],by simp [iD,<-a2],by simp [iD],a3,a4⟩
    | none=>
     rw [h0,h1,h2] at h;simp [iD] at h
def rZ (r:Int × Int × Int × List aP) (k:Nat) (ps:List aP):Prop:=
 (∀p∈ps,aU p.2.2 p.1=1∧0<=p.1∧p.1<=k∧0<=p.2.2∧p.2.2<=18446744073709551615)∧
 ((r.1=1∧(∃ad,r.2.2.2=ps++[(r.2.1,ad,r.2.2.1)])∧aU r.2.2.1 r.2.1=2∧0<=r.2.1∧r.2.1<=k∧0<=r.2.2.1∧r.2.2.1<=18446744073709551615)∨((r.1=2∨r.1=3)∧r.2.2.2=ps∧r.2.2.1=0))
theorem sa (level:Int):aU 0 level≠2:=by
 unfold aU;split
 ·decide
 ·simp [bJ];split <;> omega
theorem jL (zs:List Int) (va:Int) (hz:∀i:Nat,0<=zs[i]?.getD 0∧zs[i]?.getD 0<=255):∀(k:Nat) (n:Int),∃ps,rZ (bu zs va k n) k ps∧ps.length<=k
 | k,n=>by
  cases hg:dO zs.length (64*n+8*da va k) 8
  ·rw [uk zs va k n hg];exact ⟨[],⟨by simp,.inr ⟨.inr rfl,rfl,rfl⟩⟩,by simp⟩
  ·have hb:=nH zs (64*n+8*da va k) 8 (by omega) hz;rcases mC (rdV zs (64*n+8*da va k) 8) (k:Int) with hk | hk | hk
   ·rw [ul zs va k n hg hk];exact ⟨[],⟨by simp,.inr ⟨.inl rfl,rfl,rfl⟩⟩,by simp⟩
   ·cases k with
    | zero=>exact absurd hk (jq _)
    | succ k'=>
     rw [sF zs va k' n hg hk];obtain ⟨ps,⟨h1,h2⟩,h3⟩:=jL zs va hz k' (dA (rdV zs (64*n+8*da va ((k'+1:Nat):Int)) 8));refine ⟨(((k'+1:Nat):Int),64*n+8*da va ((k'+1:Nat):Int),rdV zs (64*n+8*da va ((k'+1:Nat):Int)) 8)::ps,⟨?_,?_⟩,by simp;omega⟩
     ·intro p hp;rcases List.mem_cons.1 hp with rfl | hp
      ·exact ⟨hk,by simp only;omega,by simp only;omega,hb.1,hb.2⟩
      ·obtain ⟨q1,q2,q3,q4⟩:=h1 p hp;exact ⟨q1,q2,by omega,q4⟩
     ·simp only [tJ];rcases h2 with ⟨e1,⟨ad,e2⟩,e3,e4,e5,e6⟩ | ⟨e1,e2,e3⟩
      ·exact .inl ⟨e1,⟨ad,by rw [e2];rfl⟩,e3,e4,by omega,e6⟩
      ·exact .inr ⟨e1,by rw [e2];rfl,e3⟩
   ·rw [sE zs va k n hg hk];exact ⟨[],⟨by simp,.inl ⟨rfl,⟨_,rfl⟩,hk,by simp only;omega,Int.le_refl _,hb.1,hb.2⟩⟩,by simp⟩
theorem qC (zs:List Int) (root va:Int) (hz:∀i:Nat,0<=zs[i]?.getD 0∧zs[i]?.getD 0<=255):∃ps,rZ (bD zs root va) 2 ps∧ps.length<=2:=by
 unfold bD;split
 ·exact ⟨[],⟨by simp,.inr ⟨.inl rfl,rfl,rfl⟩⟩,by simp⟩
 ·exact jL zs va hz 2 _
theorem zq {r:Int × Int × Int × List aP} {k k':Nat} {ps:List aP} (h:rZ r k ps) (hk:k<=k'):rZ r k' ps:=by
 obtain ⟨h1,h2⟩:=h;refine ⟨fun p hp=>?_,?_⟩
 ·obtain ⟨q1,q2,q3,q4⟩:=h1 p hp;exact ⟨q1,q2,by omega,q4⟩
 ·rcases h2 with ⟨e1,e2,e3,e4,e5,e6⟩ | h2
  ·exact .inl ⟨e1,e2,e3,e4,by omega,e6⟩
  ·exact .inr h2
theorem mV (zs:List Int) (satp va:Int) (t:TlbM) (asid:Int) (ht:aY t true=true) (hz:∀i:Nat,0<=zs[i]?.getD 0∧zs[i]?.getD 0<=255):∃ps,rZ (aX zs satp va (bX t va asid)) 2 ps∧ps.length<=2:=by
 unfold aX;split
 ·rename_i hf;obtain ⟨q,x,h1,h2,h3,h4,h5,h6⟩:=mK t va asid hf;have hl:=eZ (dS ht) q x h1 h6;have hle:((bX t va asid).2.2.1-1).toNat<=2:=by rw [h3];omega
  obtain ⟨ps,a1,a2⟩:=jL zs va hz ((bX t va asid).2.2.1-1).toNat (dA (bX t va asid).2.2.2);exact ⟨ps,zq a1 hle,by omega⟩
 ·exact qC zs satp va hz
theorem lQ (va satp pick:Int):∀(a b:List aP) (p:TlbM),db va satp pick (a++b) p=db va satp pick b (db va satp pick a p)
 | [],b,p=>rfl
 | r::a,b,p=>by
  rw [List.cons_append,db,db];exact lQ va satp pick a b _
theorem kH (t:TlbM) (e:EntM) (pick:Int):(eE t e pick).es.length=t.es.length∧(eE t e pick).sets=t.sets∧(eE t e pick).ways=t.ways:=by
 unfold eE;split
 ·simp
 ·exact ⟨rfl,rfl,rfl⟩
theorem sd (va satp pick:Int):∀(rs:List aP) (p:TlbM),(db va satp pick rs p).es.length=p.es.length∧(db va satp pick rs p).sets=p.sets∧(db va satp pick rs p).ways=p.ways
 | [],p=>⟨rfl,rfl,rfl⟩
 | r::rs,p=>by
  rw [db];have ih:=sd va satp pick rs (if aU r.2.2 r.1=1 then eE p (iL r.1 va satp r.2.2) pick else p);split at ih
  ·rename_i hk;rw [if_pos hk];have h:=kH p (iL r.1 va satp r.2.2) pick;exact ⟨ih.1.trans h.1,ih.2.1.trans h.2.1,ih.2.2.trans h.2.2⟩
  ·rename_i hk;rw [if_neg hk];exact ih
theorem zr {r:Int × Int × Int × List aP} {k:Nat} {ps:List aP} (va satp pick:Int) (p:TlbM) (h:rZ r k ps):db va satp pick r.2.2.2 p=db va satp pick ps p:=by
 rcases h.2 with ⟨_,⟨ad,e⟩,hk,_⟩ | ⟨_,e,_⟩
 ·rw [e,lQ];rw [db,db,if_neg (by simp only;omega)]
 ·rw [e]
theorem FN (t:TlbM) (va asid:Int) (he:∀e∈t.es,iH e) (h:(bX t va asid).1=true):(0<=(bX t va asid).2.2.2∧(bX t va asid).2.2.2<=18446744073709551615)∧(-9223372036854775808<=(bX t va asid).2.2.1∧(bX t va asid).2.2.1<=9223372036854775807):=by
 obtain ⟨k,x,hx,_,hl,hp,_⟩:=mK t va asid h;have hk:=he x (List.mem_of_getElem? hx);rw [hl,hp];exact ⟨hk.2.2.2,hk.1⟩
theorem uo (zs:List Int) (root va:Int):(bD zs root va).2.2.2.length<=3:=by
 unfold bD;split
 ·simp
 ·exact mI zs va 2 _
structure WalkLim (r:Int × Int × Int × List aP):Prop where
 len:r.2.2.2.length<=3
 pte:0<=r.2.2.1∧r.2.2.1<=18446744073709551615
 level:0<=r.2.1∧r.2.1<=2
 recs:∀x∈r.2.2.2,(0<=x.1∧x.1<=2)∧0<=x.2.2∧x.2.2<=18446744073709551615
theorem oh {r:Int × Int × Int × List aP} {ps:List aP} (h:rZ r 2 ps):∀x∈r.2.2.2,(0<=x.1∧x.1<=2)∧0<=x.2.2∧x.2.2<=18446744073709551615:=by
 obtain ⟨h1,h2⟩:=h;intro x hx;rcases h2 with ⟨_,⟨ad,e⟩,_,e4,e5,e6,e7⟩ | ⟨_,e,_⟩
 ·rw [e] at hx;rcases List.mem_append.1 hx with hx | hx
  ·obtain ⟨_,q2,q3,q4,q5⟩:=h1 x hx;exact ⟨⟨q2,by omega⟩,q4,q5⟩
  ·have:x=(r.2.1,ad,r.2.2.1):=by simpa using hx
   subst this;exact ⟨⟨e4,by omega⟩,e6,e7⟩
 ·rw [e] at hx;obtain ⟨_,q2,q3,q4,q5⟩:=h1 x hx;exact ⟨⟨q2,by omega⟩,q4,q5⟩
theorem vM (zs:List Int) (satp va:Int) (t:TlbM) (asid:Int) (ht:aY t true=true) (he:∀e∈t.es,iH e) (hz:∀i:Nat,0<=zs[i]?.getD 0∧zs[i]?.getD 0<=255):
 ((bX t va asid).1=true->∃l:Nat,(bX t va asid).2.2.1=(l:Int)+1∧l<=1∧0<=(bX t va asid).2.2.2∧(bX t va asid).2.2.2<=18446744073709551615∧aX zs satp va (bX t va asid)=bu zs va l (dA (bX t va asid).2.2.2))∧
 ((bX t va asid).1=false->aX zs satp va (bX t va asid)=bD zs satp va)∧WalkLim (aX zs satp va (bX t va asid)):=by
 obtain ⟨ps,hs,_⟩:=mV zs satp va t asid ht hz;cases hf:(bX t va asid).1
 ·have e:aX zs satp va (bX t va asid)=bD zs satp va:=by rw [aX,if_neg (by rw [hf];simp)]
  have hb:=sJ zs satp va hz;refine ⟨fun h=>(by cases h),fun _=>e,?_⟩;have hr:=oh hs;rw [e] at hr |-;exact ⟨uo zs satp va,⟨hb.1,hb.2.1⟩,hb.2.2,hr⟩
 ·obtain ⟨q,x,h1,h2,h3,h4,h5,h6⟩:=mK t va asid hf;have hl:=eZ (dS ht) q x h1 h6;have hpl:=iM ht q x h1;have hlim:=(FN t va asid he hf).1;have hk1:x.level≠0:=by
   intro h0;have hg:bB x true=true:=by
    simp only [dh,Bool.or_eq_true,Bool.and_eq_true] at hpl;have h7:bB x true=true∧x.tag%t.sets=q/t.ways:=by simpa [h6] using hpl
    exact h7.1
   have:=qd hg;rw [h0] at this;exact jq _ this
  have e:aX zs satp va (bX t va asid)=bu zs va ((bX t va asid).2.2.1-1).toNat (dA (bX t va asid).2.2.2):=by rw [aX,if_pos hf]
  have hb:=sI zs va hz ((bX t va asid).2.2.1-1).toNat (dA (bX t va asid).2.2.2) (by rw [h3];omega);refine ⟨fun _=>⟨((bX t va asid).2.2.1-1).toNat,by rw [h3];omega,by rw [h3];omega,hlim.1,hlim.2,e⟩,fun h=>(by cases h),?_⟩;have hr:=oh hs;have hln:=mI zs va ((bX t va asid).2.2.1-1).toNat (dA (bX t va asid).2.2.2);rw [e] at hr |-;exact ⟨by rw [h3] at hln |-;omega,⟨hb.1,hb.2.1⟩,hb.2.2,hr⟩
section
attribute [local go_sem ↓] Go.wp_at_zero Go.wp_at_succ
theorem Tryz.infoEnt:(Tryz.prog.info? 154).map (fun i=>(i.zero,i.size,i.bytes))=some (some (.agg #[.bool false,VI 0,VU 0,VU 0,.bool false,VU 0]),6,48):=by kernel_rfl
theorem pM:∀es:List EntM,∀u∈co es,u.oneCell'=true
 | [],u,h=>by simp [co] at h
 | e::r,u,h=>by
  simp only [co,List.mem_append] at h;rcases h with h | h
  ·simp [nY] at h;rcases h with rfl | rfl | rfl | rfl | rfl | rfl <;> rfl
  ·exact pM r u h
def TlbOwn (base:Nat) (w:World) (v:Value) (t:TlbM):Prop:=
 ∃g cap,v=.agg #[VI t.sets,VI t.ways,SL g t.es.length cap]∧w.ownsRow base 154 6 (SL g t.es.length cap) t.es.length (co t.es)
theorem nv (v:Value) (t:TlbM) (w:World) (h:TlbAt w v t):
 Calls Tryz.prog 66 #[v] w fun e w'=>(∃x,e=.returned x∧TlbOwn w.heap.size w' x t)∧Bw w w':=by
 have HT:=hid h;obtain ⟨a,cap,rfl,hr,_,_,_,hl,hlc,hcm,hnil,hsp⟩:=h;obtain ⟨sets,ways,es⟩:=t;obtain ⟨n,hn⟩:∃n,es.length=n:=⟨_,rfl⟩;simp only at hr hl hlc hnil |-;rw [hn] at hr hl hlc hnil |-;obtain ⟨v1,Ev1,n1,H1,H2,l1⟩:=al2 w #[VI sets,VI ways,.slice a n cap] #[VI 0,VI 0,SN] 40 40;have HR1:=hid (hr.keep n1);have HN:=hid hnil;have HSp:=hid hsp;clear hr hnil hsp HT;go_enter Tryz.func66,Tryz.ntmps66;go_wp2_with fail;rw [Ev1.out];clear Ev1;obtain ⟨⟨c0,c1,c2⟩,_,_,_⟩:=aF H1.out;obtain ⟨⟨d0,d1,d2⟩,e0,e1,e2⟩:=aF H2.out;have ne1:v1.heap.size≠w.heap.size:=by omega
 have ne2:w.heap.size≠v1.heap.size:=by omega
 have ne3:v1.heap.size≠w.heap.size+1:=by omega
 have ne4:w.heap.size+1≠v1.heap.size:=by omega
 have n2:=((Below.refl v1.heap.size v1).alloc nle (Obj.cells #[] 154)).drew;go_region_held3 (fun w'=>w'.cell? (AD w.heap.size 0)=some (VI sets)∧w'.cell? (AD w.heap.size 1)=some (VI ways)∧w'.cell? (AD w.heap.size 2)=some (.slice a n cap)) (go_keep)
  (first
   | (refine mT _ (by rfl) (.tmp 7) (.tmp 9) 38 (by rfl) 154 Tryz.underlying38 (.agg #[.bool false,VI 0,VU 0,VU 0,.bool false,VU 0]) 6 48 Tryz.infoEnt (by rfl) (by decide) v1.heap.size v1.heap.size 0 0 [] (by rfl) (OwnC.new 154 6 v1.drew [] 0 (by rfl) (by decide)) a n cap (co es) (by rfl) HN.out HSp.out (RowC.keep HR1.out n2) (pM es) (by omega) (by omega) v1.heap.size v1 n2 nle ?_;intro g3 c3 v3 o3 n3;have k1:=aF (ae H1.out n3 (by omega));have k2:=aF (ae H2.out n3 l1);obtain ⟨⟨q0,q1,q2⟩,_,_,_⟩:=k1;obtain ⟨⟨j0,j1,j2⟩,i0,i1,i2⟩:=k2;have l3:=n3.size;have O3:Hid (OwnC 154 6 v3 v1.heap.size g3 (0+n) c3 ([]++co es)):=o3;clear o3))
 go_wp2_with fail;have O4:v3.ownsRow v1.heap.size 154 6 (SL g3 n c3) n (co es):=by
  have:=O3.out;rw [Nat.zero_add,List.nil_append] at this;exact this
 refine bodyPost_ret (v:=.agg #[VI sets,VI ways,SL g3 n c3]) (by simp [results,Tryz.results66,go_sem,j0,j1,j2]) rfl ⟨⟨_,rfl,g3,c3,by rw [hn],?_⟩,kz (bst n1 n3) (by omega) _ _ _⟩;rw [hn];exact bS (aE O4 (gb3 v3 (w.heap.size+1) _ _ _) l1) (by omega)
theorem TlbOwn.row {base:Nat} {w:World} {v:Value} {t:TlbM} (h:TlbOwn base w v t):∃g cap,v=.agg #[VI t.sets,VI t.ways,SL g t.es.length cap]∧RowC w (some (AD g 0)) t.es.length 6 (co t.es)∧base<=g∧g<w.heap.size:=by
 obtain ⟨g,cap,rfl,ho⟩:=h;have:=cQ ho;exact ⟨g,cap,rfl,eC ho,this.2.1,this.2.2⟩
theorem TlbOwn.keep {base:Nat} {w w':World} {v:Value} {t:TlbM} (h:TlbOwn base w v t) (hb:Bw w w'):TlbOwn base w' v t:=by
 obtain ⟨g,cap,rfl,ho⟩:=h;exact ⟨g,cap,rfl,aq ho hb⟩
def fQ (t:TlbM):Prop:=
 (∀e∈t.es,iH e)∧(-9223372036854775808<=t.sets∧t.sets<=9223372036854775807)∧(-9223372036854775808<=t.ways∧t.ways<=9223372036854775807)∧t.es.length<=1048576
theorem TlbAt.ok {w:World} {v:Value} {t:TlbM} (h:TlbAt w v t):fQ t:=by
 obtain ⟨a,cap,_,_,h1,h2,h3,h4,_⟩:=h;exact ⟨h1,h2,h3,h4⟩
theorem TlbOwn.at {base:Nat} {w:World} {v:Value} {t:TlbM} (h:TlbOwn base w v t) (hk:fQ t):TlbAt w v t:=by
 obtain ⟨g,cap,rfl,ho⟩:=h;have hr:=eC ho;rcases ho.2 with ⟨h2,_⟩ | ⟨g',cap',cur,h2,hb,hg,hc1,hc2,_⟩
 ·cases h2
 ·cases h2;exact ⟨some (AD g 0),cap,rfl,hr,hk.1,hk.2.1,hk.2.2.1,hk.2.2.2,hc1,by unfold maxLen at hc2;omega,(by intro h;cases h),(by intro q hq;cases hq;rfl)⟩
end
theorem Am (level va satp pte:Int) (hl:0<=level∧level<=2) (hp:0<=pte∧pte<=18446744073709551615):iH (iL level va satp pte):=by
 have ht:=pe va level (by omega);refine ⟨⟨by simp only [iL];omega,by simp only [iL];omega⟩,⟨ht.1,?_⟩,?_,hp⟩
 ·simp only [iL];omega
 ·simp only [iL,aN];omega
theorem ue {t:TlbM} {e:EntM} (pick:Int) (ht:fQ t) (he:iH e):fQ (eE t e pick):=by
 obtain ⟨l1,l2,l3⟩:=kH t e pick;obtain ⟨h1,h2,h3,h4⟩:=ht;refine ⟨?_,by rw [l2];exact h2,by rw [l3];exact h3,by rw [l1];exact h4⟩;unfold eE;split
 ·intro x hx;simp only at hx;rcases List.mem_or_eq_of_mem_set hx with hx | rfl
  ·exact h1 x hx
  ·exact he
 ·exact h1
theorem An (va satp pick:Int):∀(rs:List aP) (p:TlbM),fQ p->(∀x∈rs,(0<=x.1∧x.1<=2)∧0<=x.2.2∧x.2.2<=18446744073709551615)->fQ (db va satp pick rs p)
 | [],p,h,_=>h
 | r::rs,p,h,hx=>by
  rw [db];refine An va satp pick rs _ ?_ fun x hx'=>hx x (List.mem_cons_of_mem _ hx');have hr:=hx r (List.mem_cons_self ..);split
  ·exact ue pick h (Am _ _ _ _ hr.1 hr.2)
  ·exact h
end Go.Proofs.YthdgiakgepmabaaGreat
