import Derived.Test.YthdgiakgepmabaaGreatDk27
namespace Go.Proofs.YthdgiakgepmabaaGreat
open Go.RowKit
set_option linter.unusedVariables false
set_option maxHeartbeats 6400000
set_option maxRecDepth 20000
section
attribute [local go_sem ↓] Go.wp_at_zero Go.wp_at_succ
def cy (p:PtrM) (pa:Option Addr) (pc:Nat) (h:HartM) (ps:List Int):Array Value:=#[.slice p.am h.mem.length p.cm,.slice p.ar h.regs.length p.cr,VU h.pc,VI h.mode,.bool h.sum,.bool h.mxr,VU h.satp,VU h.tvec,VU h.epc,VI h.emode,VI h.cause,VU h.tval,
 VI h.k.i.sets,VI h.k.i.ways,.slice p.a1 h.k.i.es.length p.c1,VI h.k.d.sets,VI h.k.d.ways,.slice p.a2 h.k.d.es.length p.c2,VI h.k.p.sets,VI h.k.p.ways,.slice p.a3 h.k.p.es.length p.c3,.slice pa ps.length pc]
def cL (zs:List Int):List Value:=zs.map (Value.int .i64)
theorem qS (p:PtrM) (pa:Option Addr) (pc:Nat) (h:HartM) (ps:List Int):(cy p pa pc h ps).size=22:=rfl
theorem jH (p:PtrM) (pa:Option Addr) (pc:Nat) (h:HartM) (ps:List Int):(cy p pa pc h ps).all (·.oneCell')=true:=by
 simp [cy,Value.oneCell']
theorem li:(Tryz.prog.info? 47).map (·.size)=some 22:=by kernel_rfl
theorem jf:fm.size=22:=rfl
theorem Ep {v v1:World} {r:Option Nat} (h:Bw v v1):v.grownBy v1 r:=⟨h.os,h.tape,h.output,h.size,fun k hk _=>h.block k hk⟩
theorem DecIn.gb {w u v:World} {hb:Nat} {p p':PtrM} {h h':HartM} (d:DecIn w u hb p h) (g:u.grownBy v (some hb)) (hx:v.heap[hb]?=some (.cells (ak p' h') 44 (0,0))) (hm:p'.am=p.am∧p'.cm=p.cm∧h'.mem=h.mem) (hk:p'.a1=p.a1∧p'.c1=p.c1∧p'.a2=p.a2∧p'.c2=p.c2∧p'.a3=p.a3∧p'.c3=p.c3∧h'.k=h.k):DecIn w v hb p' h':=by
 obtain ⟨x,h1,h2,h3⟩:=d.ks;have hl:=d.low;have hl2:=d.lt;refine ⟨hx,aA d.res g (by omega),d.low,?_,⟨x,h1,?_,h3.trans ⟨g.os,g.tape,g.output,g.size,fun k hk=>g.block k (by omega) (by simp;omega)⟩⟩,d.below.trans ⟨g.os,g.tape,g.output,g.size,fun k hk=>g.block k (by omega) (by simp;omega)⟩⟩
 ·rw [hm.1,hm.2.1,hm.2.2];exact cP d.mem d.box (by decide) g
 ·unfold KRows at h2 |-;rw [hk.1,hk.2.1,hk.2.2.1,hk.2.2.2.1,hk.2.2.2.2.1,hk.2.2.2.2.2.1,hk.2.2.2.2.2.2];exact h2
theorem Tryz.infoI:(Tryz.prog.info? 2).map (fun i=>(i.zero,i.size,i.bytes))=some (some (VI 0),1,8):=by kernel_rfl
def pH (w:World) (h:HartM) (ps:List Int):Ending->World->Prop:=fun e w'=>(∃p pa pc,e=.returned (.agg (cy p pa pc h ps))∧HartIn w' p h∧(∀q,some q∈be p->w.heap.size<=q.block)∧w'.ownsRow w.heap.size 2 1 (.slice pa ps.length pc) ps.length (cL ps))∧Bw w w'
structure DecEnd (w v:World) (hb:Nat) (q:PtrM) (h:HartM):Prop where
 box:v.heap[hb]?=some (.cells (ak q h) 44 (0,0))
 res:v.heap[w.heap.size]?=some (.cells fm 47 (0,0))
 low:w.heap.size<hb
 mem:v.ownsRow (hb+1) 5 1 (.slice q.am h.mem.length q.cm) h.mem.length (eh h.mem)
 memb:∀z∈h.mem,0<=z∧z<=255
 regs:v.ownsRow (hb+1) 33 1 (.slice q.ar h.regs.length q.cr) h.regs.length (cW h.regs)
 ks:KRows (w.heap.size+1) v q h.k
 below:Bw w v
theorem Er (a:Option Addr) (len cap:Nat) (zs:List Int) (w:World) (hB:Byt w a len zs) (hl:len<=1048576) (v:World) (hb size n:Nat) (p:PtrM) (u5 u15 u16 u17 u18 u19 u20 u21 u22 u23 u24 u25 u26 u27 u28 u29 u30 u31 u32 u33 u34 u35 u36 u37 u38 u39 u40 u41 u42 u43 u44 u45 u46 u47 u48 u49 u50 u51 u52 u53 u54 u55 u56 u57 u58 u59 u60 u61 u62 u63 u64 u65 u66 u67 u68 u69 u70 u71 u72 u73 u74 u75 u76 u77 u78 u79 u80 u81 u82 u83 u84 u85:Value) (pcv md sav tvv:Int) (smv mxv:Bool) (kv:KM) (hko:kOk kv) (hD:DecIn w v hb p (⟨List.replicate size 0,[],pcv,md,smv,mxv,sav,tvv,0,md,0,0,kv⟩:HartM)) (har:p.ar=none) (hcr:p.cr=0) (hsz:64<=size∧size<=4096) (hn:n<=20000)
 (R:Ending->World->Prop) (H2:∀(v9:World) (q:PtrM) (mem:List Int) (i:Nat) (u5 u7 u9 u10 u11 u12 u15 u16 u17 u18 u19 u20 u21 u22 u23 u24 u25 u26 u27 u28 u29 u30 u31 u32 u33 u34 u35 u36 u37 u38 u39 u40 u41 u42 u43 u44 u45 u46 u47 u48 u49 u50 u51 u52 u53 u54 u55 u56 u57 u58 u59 u60 u61 u62 u63 u64 u65 u66 u67 u68 u69 u70 u71 u72 u73 u74 u75 u76 u77 u78 u79 u80 u81 u82 u83 u84 u85 u86 u87 u88 u89 u90 u91 u92 u93 u94 u95 u96 u97 u98 u99 u100 u101 u102 u103 u104 u105 u106 u107 u108 u109 u110 u111 u112 u113 u114 u115 u116 u117 u118 u119 u120 u121 u122 u123 u124 u125 u126 u127 u128 u129 u130 u131 u132 u133 u134 u135 u136 u137 u138 u139 u140 u141 u142 u143 u144 u145 u146 u147:Value),DecEnd w v9 hb q (⟨mem,jD zs,pcv,md,smv,mxv,sav,tvv,0,md,0,0,kv⟩:HartM)->mem.length=size->i<=65878->iV zs (atM zs 87).toNat 88 (List.replicate size 0)=(mem,i)->
  ∀K:Act->World->Prop,(∀aa ww,(df 19 (eM Tryz.f13)).wp Tryz.prog (bodyPost Tryz.prog Tryz.f13 R) aa ww->K aa ww)->(eg (df 18 (eM Tryz.f13))).wp Tryz.prog (Exit.then K (bodyPost Tryz.prog Tryz.f13 R)) ⟨#[.slice a len cap,undef,PT w.heap.size 0,PT hb 0,VI (size:Nat),u5,VI (n:Nat),u7,VI (i:Nat),u9,u10,u11,u12,undef,undef,u15,u16,u17,u18,u19,u20,u21,u22,u23,u24,u25,u26,u27,u28,u29,u30,u31,u32,u33,u34,u35,u36,u37,u38,u39,u40,u41,u42,u43,u44,u45,u46,u47,u48,u49,u50,u51,u52,u53,u54,u55,u56,u57,u58,u59,u60,u61,u62,u63,u64,u65,u66,u67,u68,u69,u70,u71,u72,u73,u74,u75,u76,u77,u78,u79,u80,u81,u82,u83,u84,u85,u86,u87,u88,u89,u90,u91,u92,u93,u94,u95,u96,u97,u98,u99,u100,u101,u102,u103,u104,u105,u106,u107,u108,u109,u110,u111,u112,u113,u114,u115,u116,u117,u118,u119,u120,u121,u122,u123,u124,u125,u126,u127,u128,u129,u130,u131,u132,u133,u134,u135,u136,u137,u138,u139,u140,u141,u142,u143,u144,u145,u146,u147,undef,undef,undef,undef,undef,undef,undef,undef,undef,undef,undef,undef,undef,undef,undef,undef,undef,undef],[]⟩ v9)
 (K:Act->World->Prop) (hK:∀aa ww,(df 15 (eM Tryz.f13)).wp Tryz.prog (bodyPost Tryz.prog Tryz.f13 R) aa ww->K aa ww):
 (eg (df 14 (eM Tryz.f13))).wp Tryz.prog (Exit.then K (bodyPost Tryz.prog Tryz.f13 R)) ⟨#[.slice a len cap,undef,PT w.heap.size 0,PT hb 0,VI (size:Nat),u5,VI (n:Nat),undef,undef,undef,undef,undef,undef,undef,undef,u15,u16,u17,u18,u19,u20,u21,u22,u23,u24,u25,u26,u27,u28,u29,u30,u31,u32,u33,u34,u35,u36,u37,u38,u39,u40,u41,u42,u43,u44,u45,u46,u47,u48,u49,u50,u51,u52,u53,u54,u55,u56,u57,u58,u59,u60,u61,u62,u63,u64,u65,u66,u67,u68,u69,u70,u71,u72,u73,u74,u75,u76,u77,u78,u79,u80,u81,u82,u83,u84,u85,undef,undef,undef,undef,undef,undef,undef,undef,undef,undef,undef,undef,undef,undef,undef,undef,undef,undef,undef,undef,undef,undef,undef,undef,undef,undef,undef,undef,undef,undef,undef,undef,undef,undef,undef,undef,undef,undef,undef,undef,undef,undef,undef,undef,undef,undef,undef,undef,undef,undef,undef,undef,undef,undef,undef,undef,undef,undef,undef,undef,undef,undef,undef,undef,undef,undef,undef,undef,undef,undef,undef,undef,undef,undef,undef,undef,undef,undef,undef,undef],[]⟩ v:=by
 obtain ⟨Q,hQ⟩:∃Q,bodyPost Tryz.prog Tryz.f13 R=Q:=⟨_,rfl⟩;rw [hQ] at hK H2 |-;have HQ:Hid _:=hQ;clear hQ;simp only [eg,df,eM,Tryz.f13,Option.getD] at hK |-;have HQp:Hid (∀x (a:Act) d z w,Q (.panic x) (a.put d z) w->Q (.panic x) a w):=by
  show ∀x (a:Act) d z w,Q (.panic x) (a.put d z) w->Q (.panic x) a w;rw [<-HQ.out];exact fun _ _ d _ _ h=>by cases d <;> exact h
 have HD:=hid hD;have HH2:Hid _:=H2;have HB:Hid _:=hB;have HAt:=hid fun (i:Nat) (u:World) (hi:i<=1073741824) (hu:Bw w u)=>py a len cap zs i u (Byt.keep HB.out hu) hl (by omega);have HLg:=hid fun (i:Nat) (u:World) (hi:i<=1073741824) (hu:Bw w u)=>sg a len cap zs i u (Byt.keep HB.out hu) hl hi;have HAb:=hid fun i=>pS hB.2.1 i;clear hB hko hD H2;obtain ⟨hsz1,hsz2⟩:=hsz;have hlo:=HD.out.low;have hlt:=HD.out.lt;have kk1:=ab HD.out.box 1 (show (ak p (⟨List.replicate size 0,[],pcv,md,smv,mxv,sav,tvv,0,md,0,0,kv⟩:HartM))[1]?=some (.slice p.ar 0 p.cr) from rfl);have ff1:=ap HD.out.box 1;have n1:=(Below.refl (v.setCell (AD hb 1) (SL v.heap.size 1 1)).heap.size (v.setCell (AD hb 1) (SL v.heap.size 1 1))).alloc nle (Obj.cells #[VU 0] 33);have hsS:(v.setCell (AD hb 1) (SL v.heap.size 1 1)).heap.size=v.heap.size:=by simp
 have G2:Hid _:=dY (au (ao v (some hb)) 1 (SL v.heap.size 1 1)) (Ep n1);have B2:=hid (ae (cf HD.out.box 1 _) n1 (by omega));have O2:Hid (OwnC 33 1 ((v.setCell (AD hb 1) (SL v.heap.size 1 1)).alloc (Obj.cells #[VU 0] 33)) v.heap.size v.heap.size 1 1 (cW (0::(List.range 0).map fun j=>cw zs (31+8*j)))):=by
  have:=OwnC.new 33 1 (v.setCell (AD hb 1) (SL v.heap.size 1 1)) [VU 0] 1 rfl (by decide);rw [hsS] at this;exact this
 go_upto_region 21 with fail;clear kk1 ff1;generalize (v.setCell (AD hb 1) (SL v.heap.size 1 1)).alloc (Obj.cells #[VU 0] 33)=v2 at G2 B2 O2 |-;clear n1 hsS;go_wp2;go_loopw [7] (fun rv wr=>∃(t g c:Nat),t<=7∧rv=VI ((t+1:Nat):Int)∧v.grownBy wr (some hb)∧wr.heap[hb]?=some (.cells (ak (⟨p.am,p.cm,some (AD g 0),c,p.a1,p.c1,p.a2,p.c2,p.a3,p.c3⟩:PtrM) (⟨List.replicate size 0,(0::(List.range t).map fun j=>cw zs (31+8*j)),pcv,md,smv,mxv,sav,tvv,0,md,0,0,kv⟩:HartM)) 44 (0,0))∧OwnC 33 1 wr v.heap.size g (t+1) c (cW (0::(List.range t).map fun j=>cw zs (31+8*j)))) (fun rv _=>9-(intOf rv).toNat)
 case atStart=>exact ⟨0,_,_,Nat.zero_le _,rfl,G2.out,B2.out,O2.out⟩
 case round=>
  clear G2 B2 O2;obtain ⟨t,g,c,ht,rfl,hG,hBx,hO⟩:=hrel;have HG:Hid _:=hG;have HBx:Hid _:=hBx;have HO:Hid _:=hO;have hgs:=hG.size;have c1:(ak (⟨p.am,p.cm,some (AD g 0),c,p.a1,p.c1,p.a2,p.c2,p.a3,p.c3⟩:PtrM) (⟨List.replicate size 0,(0::(List.range t).map fun j=>cw zs (31+8*j)),pcv,md,smv,mxv,sav,tvv,0,md,0,0,kv⟩:HartM))[1]?=some (SL g (t+1) c):=by
   show some (SL g (0::(List.range t).map fun j=>cw zs (31+8*j)).length c)=_;simp
  have hwr:=HD.out.below.trans ⟨hG.os,hG.tape,hG.output,hG.size,fun k hk=>hG.block k (by omega) (by simp;omega)⟩;have hlw:hb<wr.heap.size:=by omega
  clear hG hBx hO;by_cases ht7:t<7
  ·go_upto_region 24 with fail;obtain ⟨L,hL⟩:∃L,cw zs (31+8*t)=L:=⟨_,rfl⟩;have HLl:Hid _:=hL;clear hL;have HL1:Hid (∀u:World,u.heap[hb]?=some (.cells (ak (⟨p.am,p.cm,some (AD g 0),c,p.a1,p.c1,p.a2,p.c2,p.a3,p.c3⟩:PtrM) (⟨List.replicate size 0,(0::(List.range t).map fun j=>cw zs (31+8*j)),pcv,md,smv,mxv,sav,tvv,0,md,0,0,kv⟩:HartM)) 44 (0,0))->(Instr.loadAt 32 (PT hb 1)).run Tryz.prog u=.ok (SL g (t+1) c) u):=fun u hu=>by
    have h1:=ab hu 1 c1;go_simp
   have HW8:Hid (IntKind.i64.wrap (8*((t+1:Nat):Int))=((8*(t+1):Nat):Int)):=(IntKind.wrap_i64 _).trans (by omega);have HW9:Hid (IntKind.i64.wrap (23+((8*(t+1):Nat):Int))=((31+8*t:Nat):Int)):=(IntKind.wrap_i64 _).trans (by omega);have HBo:Hid (∀(u:World),Below v.heap.size wr u->u.heap[hb]?=some (.cells (ak (⟨p.am,p.cm,some (AD g 0),c,p.a1,p.c1,p.a2,p.c2,p.a3,p.c3⟩:PtrM) (⟨List.replicate size 0,(0::(List.range t).map fun j=>cw zs (31+8*j)),pcv,md,smv,mxv,sav,tvv,0,md,0,0,kv⟩:HartM)) 44 (0,0))):=fun u hu=>(hu.block hb (by omega)).trans HBx.out;generalize hBX:ak (⟨p.am,p.cm,some (AD g 0),c,p.a1,p.c1,p.a2,p.c2,p.a3,p.c3⟩:PtrM) (⟨List.replicate size 0,(0::(List.range t).map fun j=>cw zs (31+8*j)),pcv,md,smv,mxv,sav,tvv,0,md,0,0,kv⟩:HartM)=BX at HL1 HBo c1;have HBX:Hid _:=hBX;clear hBX;have hF:wr.drew.heap[hb]?=some (.cells BX 44 (0,0)):=HBo.out wr (brf);have nD:=bdr wr;refine ax (fun u=>u.heap[hb]?=some (.cells BX 44 (0,0))) 10 ?_;refine aj 0 92 (PT hb 1) rfl hF ?_ (hQ:=hqp HQp)
   go_frame
   refine aj 1 93 (SL g (t+1) c) rfl hF ?_ (hQ:=hqp HQp) (hy:=fun u hu=>aD rfl (HL1.out u hu));refine aj 2 94 (.slice a len cap) rfl hF ?_ (hQ:=hqp HQp);refine aj 3 95 (VI ((t+1:Nat):Int)) rfl hF ?_ (hQ:=hqp HQp)
   go_frame
   refine aj 4 96 (VI ((8*(t+1):Nat):Int)) rfl hF ?_ (hQ:=hqp HQp) (hy:=fun u hu=>(by go_simp;exact (IntKind.wrap_i64 _).trans (by omega)))
   go_frame
   refine aj 5 97 (VI ((31+8*t:Nat):Int)) rfl hF ?_ (hQ:=hqp HQp) (hy:=fun u hu=>(by go_simp;exact (IntKind.wrap_i64 _).trans (by omega)))
   go_frame
   refine du 6 98 rfl (f:=28) (args:=#[.slice a len cap,VI ((31+8*t:Nat):Int)]) ?_;refine (HLg.out (31+8*t) wr.drew (by omega) hwr.drew).mono ?_;rintro e v6 ⟨rfl,m6'⟩;have m6:Bw wr v6:=bst nD m6';rw [HLl.out];refine ⟨_,rfl,fun _=>HBo.out v6 (m6.mono hgs),?_⟩
   go_frame
   have m7:=(Below.refl v6.heap.size v6).alloc nle (Obj.cells #[VU L] 33);have m67:=bst m6 m7;refine iR 7 99 (SL v6.heap.size 1 1) (w':=v6.alloc (Obj.cells #[VU L] 33)) rfl (fun _=>HBo.out _ (m67.mono hgs)) ?_ (he:=by go_simp)
   go_frame
   have O7:=aq HO.out m67;have W7:RowC (v6.alloc (Obj.cells #[VU L] 33)) (some (AD v6.heap.size 0)) 1 1 (cW [L]):=(OwnC.new 33 1 v6 (cW [L]) 1 (by rfl) (by decide)).row;have s7:=m67.size;refine qE 8 100 (by kernel_rfl) rfl (by kernel_rfl) (by kernel_rfl) (.tmp 93) (.tmp 99) 32 (by kernel_rfl) 33 Tryz.underlying32 (VU 0) 1 8 Tryz.infoU rfl (by decide) v.heap.size (t+1) _ (cW (0::(List.range t).map fun j=>cw zs (31+8*j))) (by kernel_rfl) O7 v6.heap.size 0 1 1 (cW [L]) (by kernel_rfl) (by omega) W7 (pQ _) (by omega) (by omega) (by omega) v.heap.size _ brf nle ?_;intro g8 c8 v8 o8 m8;have B8:=HBo.out v8 ((m67.mono hgs).trans m8);refine ⟨fun _=>B8,?_⟩
   go_frame
   refine fN 9 101 (PT hb 1) rfl (.inr B8) ?_ (hQ:=hqp HQp)
   go_frame
   have HSt:Hid ((Instr.storeAt 32 (PT hb 1) (SL g8 (t+1+1) c8)).run Tryz.prog v8=.ok () (v8.setCell (AD hb 1) (SL g8 (t+1+1) c8))):=by
    have h1:=ab B8 1 c1;have h2:=ap B8 1;show _=_;go_simp
   refine dz 10 101 100 rfl HSt.out ?_;refine dc ?_;go_wp2_with fail;have hg8:v.heap.size<=g8:=(dG o8 (AD g8 0) rfl).1;refine ⟨⟨t+1,g8,c8,by omega,by go_num,?_,?_,?_⟩,?_⟩
   ·refine au ?_ 1 _;have hG:=HG.out;exact ⟨m8.os.trans (m67.os.trans hG.os),m8.tape.trans (m67.tape.trans hG.tape),m8.output.trans (m67.output.trans hG.output),by have:=m8.size;omega,fun k hk hne=>(m8.block k hk).trans ((m67.block k (by omega)).trans (hG.block k hk hne))⟩
   ·have e:ak (⟨p.am,p.cm,some (AD g8 0),c8,p.a1,p.c1,p.a2,p.c2,p.a3,p.c3⟩:PtrM) (⟨List.replicate size 0,(0::(List.range (t+1)).map fun j=>cw zs (31+8*j)),pcv,md,smv,mxv,sav,tvv,0,md,0,0,kv⟩:HartM)=(ak (⟨p.am,p.cm,some (AD g 0),c,p.a1,p.c1,p.a2,p.c2,p.a3,p.c3⟩:PtrM) (⟨List.replicate size 0,(0::(List.range t).map fun j=>cw zs (31+8*j)),pcv,md,smv,mxv,sav,tvv,0,md,0,0,kv⟩:HartM)).setIfInBounds 1 (SL g8 (0::(List.range (t+1)).map fun j=>cw zs (31+8*j)).length c8):=rfl;rw [e,HBX.out,show (0::(List.range (t+1)).map fun j=>cw zs (31+8*j)).length=t+1+1 by simp];exact cf B8 1 _
   ·have:=OwnC.gb o8 (au (ao v8 (some hb)) 1 (SL g8 (t+1+1) c8)) (by omega);have e:cW (0::(List.range t).map fun j=>cw zs (31+8*j))++cW [L]=cW (0::(List.range (t+1)).map fun j=>cw zs (31+8*j)):=by
     rw [ij,HLl.out];simp [cW]
    rw [e] at this;exact this
   ·simp [intOf];omega
  ·have ht':t=7:=by omega
   subst ht';have D3:Hid (DecIn w wr hb (⟨p.am,p.cm,some (AD g 0),c,p.a1,p.c1,p.a2,p.c2,p.a3,p.c3⟩:PtrM) (⟨List.replicate size 0,(0::(List.range 7).map fun j=>cw zs (31+8*j)),pcv,md,smv,mxv,sav,tvv,0,md,0,0,kv⟩:HartM)):=HD.out.gb HG.out HBx.out ⟨rfl,rfl,rfl⟩ ⟨rfl,rfl,rfl,rfl,rfl,rfl,rfl⟩;clear c1;go_upto_region 26 with fail;obtain ⟨cnt,hcnt,hcb⟩:∃cnt:Nat,atM zs 87=cnt∧cnt<=255:=⟨(atM zs 87).toNat,by have:=HAb.out 87;omega,by have:=HAb.out 87;omega⟩;have HCn:Hid _:=hcnt;clear hcnt;go_wp2_with fail;refine (HAt.out 87 wr (by omega) hwr).mono ?_;rintro e v' ⟨rfl,hv'⟩;rw [hv',HCn.out];clear hv' v';rw [HCn.out,Int.toNat_natCast] at HH2;obtain ⟨gm,cm,ham⟩:∃gm cm,p.am=some (AD gm 0)∧p.cm=cm:=by
    rcases D3.out.mem.2 with ⟨h1,h2⟩ | ⟨gm,cm,cur,h1,_⟩
    ·exfalso;rw [List.length_replicate] at h2;omega
    ·simp only [Value.slice.injEq] at h1;exact ⟨gm,cm,h1.1,h1.2.2⟩
   obtain ⟨ham,rfl⟩:=ham;have HAm:Hid _:=ham;have OM:Hid (OwnC 5 1 wr (hb+1) gm size p.cm (eh (List.replicate size 0))):=by
    have:=D3.out.mem;simp only [List.length_replicate] at this;rw [ham] at this;exact this
   clear ham;have hgm:=(dG OM.out (AD gm 0) rfl);obtain ⟨hgm1,hgm2⟩:=hgm;simp only at hgm1 hgm2;go_wp2_with fail;generalize wr=v3 at *;go_loopw [8,9] (fun iv rv wr=>∃(r i:Nat) (mem:List Int),iv=VI i∧rv=VI r∧r<=255∧i+258*r<=65878∧iV zs cnt 88 (List.replicate size 0)=iV zs r i mem∧mem.length=size∧(∀z∈mem,0<=z∧z<=255)∧OwnC 5 1 wr (hb+1) gm size p.cm (eh mem)∧v3.grownBy wr (some gm)) (fun _ rv _=>(intOf rv).toNat)
   case atStart=>exact ⟨cnt,88,_,rfl,rfl,hcb,by omega,rfl,List.length_replicate,fun z hz=>by rw [(List.mem_replicate.1 hz).2];omega,OM.out,ao _ _⟩
   case round=>
    clear OM;obtain ⟨r,i,mem,rfl,rfl,hr,hi,hrun,hml,hmb,hOm,hGm⟩:=hrel;have HRun:Hid _:=hrun;have HMb:Hid _:=hmb;have HOm:Hid _:=hOm;have HGm:Hid _:=hGm;have hgs3:=hGm.size;have hwq:Bw w wr:=hwr.trans ⟨hGm.os,hGm.tape,hGm.output,hGm.size,fun k hk=>hGm.block k (by omega) (by simp;omega)⟩;clear hrun hmb hOm hGm;by_cases hr0:0<r
    ·obtain ⟨r',rfl⟩:∃r',r=r'+1:=⟨r-1,by omega⟩;obtain ⟨A,hA⟩:∃A:Nat,qN zs i=A:=⟨_,rfl⟩;obtain ⟨y1,hy1⟩:∃y,atM zs i=y:=⟨_,rfl⟩;obtain ⟨y2,hy2⟩:∃y,atM zs (i+1)=y:=⟨_,rfl⟩;obtain ⟨m,hm⟩:∃m:Nat,atM zs (i+2)=m:=⟨(atM zs (i+2)).toNat,by have:=HAb.out (i+2);omega⟩;have b1:=HAb.out i;have b2:=HAb.out (i+1);have b3:=HAb.out (i+2);rw [hy1] at b1;rw [hy2] at b2;rw [hm] at b3;have hAy:y1+256*y2=(A:Int):=by rw [<-hA];unfold qN;rw [hy1,hy2];omega
     have hA2:A<=65535:=by omega
     have hm2:m<=255:=by omega
     have HA:Hid _:=hA;have Hy1:Hid _:=hy1;have Hy2:Hid _:=hy2;have Hm:Hid _:=hm;clear hA hy1 hy2 hm;obtain ⟨b11,b12⟩:=b1;obtain ⟨b21,b22⟩:=b2;clear b3;go_upto_region 29 with fail;go_wp2_with fail;refine (HAt.out i wr (by omega) hwq).mono ?_;rintro e v' ⟨rfl,hv'⟩;rw [hv',Hy1.out];clear hv' v';go_wp2_with fail;refine (HAt.out (i+1) wr (by omega) hwq).mono ?_;rintro e v' ⟨rfl,hv'⟩;rw [hv',Hy2.out];clear hv' v';go_upto_region 30 with fail;go_wp2_with fail;refine (HAt.out (i+2) wr (by omega) hwq).mono ?_;rintro e v' ⟨rfl,hv'⟩;rw [hv',Hm.out];clear hv' v';go_upto_region 32 with fail;clear b11 b12 b21 b22;go_wp2_with fail;generalize wr=vq at *;go_loopw [12] (fun kv wr=>∃(k:Nat) (mk:List Int),kv=VI k∧k<=m∧lE zs m (i+3) A mem=lE zs (m-k) (i+3+k) (A+k) mk∧mk.length=size∧(∀z∈mk,0<=z∧z<=255)∧OwnC 5 1 wr (hb+1) gm size p.cm (eh mk)∧v3.grownBy wr (some gm)) (fun kv _=>m-(intOf kv).toNat)
     case atStart=>exact ⟨0,mem,rfl,Nat.zero_le _,rfl,hml,HMb.out,HOm.out,HGm.out⟩
     case round=>
      clear HOm HGm hwq hgs3;obtain ⟨k,mk,rfl,hk,hlay,hmkl,hmkb,hOk,hGk⟩:=hrel;have HLay:Hid _:=hlay;have HMk:Hid _:=hmkb;have HOk:Hid _:=hOk;have HGk:Hid _:=hGk;have hgs4:=hGk.size;have hwk:Bw w wr:=hwr.trans ⟨hGk.os,hGk.tape,hGk.output,hGk.size,fun j hj=>hGk.block j (by omega) (by simp;omega)⟩;clear hlay hmkb hOk hGk;by_cases hkm:k<m
      ·by_cases hAk:A+k<size
       ·go_upto_region 36 with fail;obtain ⟨z,hz⟩:∃z,atM zs (i+3+k)=z:=⟨_,rfl⟩;have HZ:Hid _:=hz;have bz:=HAb.out (i+3+k);rw [hz] at bz;obtain ⟨hz1,hz2⟩:=bz;clear hz;have HBk:Hid (wr.heap[hb]?=some (.cells (ak (⟨p.am,p.cm,some (AD g 0),c,p.a1,p.c1,p.a2,p.c2,p.a3,p.c3⟩:PtrM) (⟨List.replicate size 0,(0::(List.range 7).map fun j=>cw zs (31+8*j)),pcv,md,smv,mxv,sav,tvv,0,md,0,0,kv⟩:HartM)) 44 (0,0))):=aA D3.out.box HGk.out (by omega);have c0:(ak (⟨p.am,p.cm,some (AD g 0),c,p.a1,p.c1,p.a2,p.c2,p.a3,p.c3⟩:PtrM) (⟨List.replicate size 0,(0::(List.range 7).map fun j=>cw zs (31+8*j)),pcv,md,smv,mxv,sav,tvv,0,md,0,0,kv⟩:HartM))[0]?=some (SL gm size p.cm):=by
         show some (Value.slice p.am (List.replicate size (0:Int)).length p.cm)=_;rw [HAm.out,List.length_replicate]
        generalize ak (⟨p.am,p.cm,some (AD g 0),c,p.a1,p.c1,p.a2,p.c2,p.a3,p.c3⟩:PtrM) (⟨List.replicate size 0,(0::(List.range 7).map fun j=>cw zs (31+8*j)),pcv,md,smv,mxv,sav,tvv,0,md,0,0,kv⟩:HartM)=BX at HBk c0;have HL0:Hid (∀u:World,u.heap[hb]?=some (.cells BX 44 (0,0))->(Instr.loadAt 22 (PT hb 0)).run Tryz.prog u=.ok (SL gm size p.cm) u):=fun u hu=>by
         have h1:=ab hu 0 c0;go_simp
        have hF:wr.drew.heap[hb]?=some (.cells BX 44 (0,0)):=HBk.out;have OD:Hid (OwnC 5 1 wr.drew (hb+1) gm size p.cm (eh mk)):=sW HOk.out;refine ax (fun u=>u.heap[hb]?=some (.cells BX 44 (0,0))) 12 ?_;refine aj 0 133 (PT hb 0) rfl hF ?_ (hQ:=hqp HQp)
        go_frame
        refine aj 1 134 (SL gm size p.cm) rfl hF ?_ (hQ:=hqp HQp) (hy:=fun u hu=>aD rfl (HL0.out u hu));refine aj 2 135 (VI (A:Nat)) rfl hF ?_ (hQ:=hqp HQp);refine aj 3 136 (VI (k:Nat)) rfl hF ?_ (hQ:=hqp HQp)
        go_frame
        refine aj 4 137 (VI ((A+k:Nat):Int)) rfl hF ?_ (hQ:=hqp HQp) (hy:=fun u hu=>(by go_simp;try exact (IntKind.wrap_i64 _).trans (by omega)));refine aj 5 138 (.slice a len cap) rfl hF ?_ (hQ:=hqp HQp);refine aj 6 139 (VI ((i:Int)+3)) rfl hF ?_ (hQ:=hqp HQp);refine aj 7 140 (VI (k:Nat)) rfl hF ?_ (hQ:=hqp HQp)
        go_frame
        refine aj 8 141 (VI ((i+3+k:Nat):Int)) rfl hF ?_ (hQ:=hqp HQp) (hy:=fun u hu=>(by go_simp;try exact (IntKind.wrap_i64 _).trans (by omega)))
        go_frame
        refine du 9 142 rfl (f:=27) (args:=#[.slice a len cap,VI ((i+3+k:Nat):Int)]) ?_;refine (HAt.out (i+3+k) wr.drew (by omega) hwk.drew).mono ?_;rintro e v' ⟨rfl,hv'⟩;rw [hv',HZ.out];clear hv' v';refine ⟨_,rfl,fun _=>hF,?_⟩
        go_frame
        refine fN 10 143 (.int .u8 z) rfl (.inr hF) ?_ (hQ:=hqp HQp) (hy:=fun u=>(by go_simp;show z%256=z;omega))
        go_frame
        refine fN 11 144 (.pointer (some ⟨gm,A+k,none⟩)) rfl (.inr hF) ?_ (hQ:=hqp HQp) (hy:=fun u=>(by have h1:=hAk;go_simp;rw [if_pos (by omega),show ((A:Int)+(k:Int)).toNat=A+k by omega]))
        go_frame
        have HSt:Hid ((Instr.storeAt 5 (.pointer (some ⟨gm,A+k,none⟩)) (.int .u8 z)).run Tryz.prog wr.drew=.ok () (wr.drew.setCell ⟨gm,A+k,none⟩ (.int .u8 z))):=by
         have h1:=aQ OD.out (A+k) (.int .u8 (mk[A+k]?.getD 0)) (by
          have:A+k<mk.length:=by omega
          simp [eh,this])
         have h2:=bL OD.out (A+k);show _=_;go_simp
        refine dz 12 144 143 rfl HSt.out ?_;refine dc ?_;have OS:Hid (OwnC 5 1 (wr.drew.setCell ⟨gm,A+k,none⟩ (.int .u8 z)) (hb+1) gm size p.cm (eh (mk.set (A+k) z))):=by
         have:=br OD.out (A+k) (.int .u8 z);rw [show (eh mk).set (A+k) (.int .u8 z)=eh (mk.set (A+k) z) by simp [eh,List.map_set]] at this;exact this
        have GS:Hid _:=au (dY HGk.out (Ep (r:=some gm) ((Below.refl wr.heap.size wr).drew))) (A+k) (.int .u8 z);clear HSt OD hF HL0 HBk;go_wp2_with fail;refine ⟨⟨k+1,mk.set (A+k) z,by go_num,by omega,?_,by rw [List.length_set];exact hmkl,?_,OS.out,GS.out⟩,?_⟩
        ·rw [HLay.out,show m-k=(m-(k+1))+1 by omega,lE,if_pos (by omega),HZ.out];rfl
        ·intro y hy;rcases List.mem_or_eq_of_mem_set hy with h | h
         ·exact HMk.out y h
         ·subst h;exact ⟨hz1,hz2⟩
        ·simp [intOf];omega
       ·go_wp2_with fail;refine ⟨⟨k+1,mk,by go_num,by omega,?_,hmkl,HMk.out,HOk.out,HGk.out⟩,?_⟩
        ·rw [HLay.out,show m-k=(m-(k+1))+1 by omega,lE,if_neg (by omega)];rfl
        ·simp [intOf];omega
      ·have hkm':k=m:=by omega
       subst hkm';go_wp2_with fail;refine ⟨⟨r',i+3+k,mk,by go_num,by go_num,by omega,by omega,?_,hmkl,HMk.out,HOk.out,HGk.out⟩,?_⟩
       ·rw [HRun.out,iV,HA.out,Hm.out,Int.toNat_natCast,HLay.out,Nat.sub_self,lE]
       ·simp [intOf]
    ·have hr0':r=0:=by omega
     subst hr0';have hrm:iV zs cnt 88 (List.replicate size 0)=(mem,i):=HRun.out;go_upto_region 38 with fail;have hrg:(0::(List.range 7).map fun j=>cw zs (31+8*j))=jD zs:=rfl;have hgv:gm<v.heap.size:=by
      have hm0:=HD.out.mem;rw [HAm.out] at hm0;exact (dG hm0 (AD gm 0) rfl).2
     have hg1:v.heap.size<=g:=(dG HO.out (AD g 0) rfl).1;have HE:DecEnd w wr hb (⟨p.am,p.cm,some (AD g 0),c,p.a1,p.c1,p.a2,p.c2,p.a3,p.c3⟩:PtrM) (⟨mem,jD zs,pcv,md,smv,mxv,sav,tvv,0,md,0,0,kv⟩:HartM):=by
      have hG:=HGm.out;refine ⟨?_,aA D3.out.res hG (by omega),hlo,?_,HMb.out,?_,?_,hwq⟩
      ·have:=aA D3.out.box hG (by omega);rw [hrg] at this;have e:ak (⟨p.am,p.cm,some (AD g 0),c,p.a1,p.c1,p.a2,p.c2,p.a3,p.c3⟩:PtrM) (⟨List.replicate size 0,(jD zs),pcv,md,smv,mxv,sav,tvv,0,md,0,0,kv⟩:HartM)=ak (⟨p.am,p.cm,some (AD g 0),c,p.a1,p.c1,p.a2,p.c2,p.a3,p.c3⟩:PtrM) (⟨mem,jD zs,pcv,md,smv,mxv,sav,tvv,0,md,0,0,kv⟩:HartM):=by
        unfold ak;simp only [List.length_replicate,hml]
       rw [<-e];exact this
      ·simp only [HAm.out,hml];exact HOm.out
      ·have:=OwnC.gb HO.out hG (by omega);rw [hrg] at this;exact bS this (by omega)
      ·obtain ⟨x,h1,h2,h3⟩:=D3.out.ks;have hb3:=h3.trans ⟨hG.os,hG.tape,hG.output,hG.size,fun k hk=>hG.block k (by omega) (by simp;omega)⟩;rw [<-h1] at hb3;exact h2.keep hb3
     refine HH2.out wr (⟨p.am,p.cm,some (AD g 0),c,p.a1,p.c1,p.a2,p.c2,p.a3,p.c3⟩:PtrM) mem i _ _ _ _ _ _ _ _ _ _ _ _ _ _ _ _ _ _ _ _ _ _ _ _ _ _ _ _ _ _ _ _ _ _ _ _ _ _ _ _ _ _ _ _ _ _ _ _ _ _ _ _ _ _ _ _ _ _ _ _ _ _ _ _ _ _ _ _ _ _ _ _ _ _ _ _ _ _ _ _ _ _ _ _ _ _ _ _ _ _ _ _ _ _ _ _ _ _ _ _ _ _ _ _ _ _ _ _ _ _ _ _ _ _ _ _ _ _ _ _ _ _ _ _ _ _ _ _ _ _ _ _ _ _ _ _ _ _ _ HE hml (by omega) hrm _ (by assumption)
end
section
attribute [local go_sem ↓] Go.wp_at_zero Go.wp_at_succ
theorem yX (zs:List Int):∀u∈cL zs,u.oneCell'=true:=by
 intro u hu;simp only [cL,List.mem_map] at hu;obtain ⟨z,_,rfl⟩:=hu;rfl
theorem DecEnd.above {w v:World} {hb:Nat} {q:PtrM} {h:HartM} (d:DecEnd w v hb q h):∀x,some x∈be q->w.heap.size+1<=x.block:=by
 intro x hx;have:=d.low;simp only [be,List.mem_cons,List.not_mem_nil,or_false] at hx;rcases hx with hx | hx | hx | hx | hx
 ·have:=(dG d.mem x hx.symm).1;omega
 ·have:=(dG d.regs x hx.symm).1;omega
 ·exact (d.ks.ptrs x (.inl hx.symm)).1
 ·exact (d.ks.ptrs x (.inr (.inl hx.symm))).1
 ·exact (d.ks.ptrs x (.inr (.inr hx.symm))).1
theorem lH {e:TypeId} {size base n c:Nat} {w:World} {a:Option Addr} {cs:List Value} (h:w.ownsRow base e size (.slice a n c) n cs) (hn:0<n):∃g,a=some (AD g 0):=by
 rcases h.2 with ⟨_,h2⟩ | ⟨g,cap,cur,h1,_⟩
 ·omega
 ·simp only [Value.slice.injEq] at h1;exact ⟨g,h1.1⟩
theorem DecEnd.hart {w v:World} {hb:Nat} {q:PtrM} {h:HartM} (d:DecEnd w v hb q h) (hk:kOk h.k) (hm:0<h.mem.length) (hr:0<h.regs.length):HartIn v q h∧∀x,some x∈be q->w.heap.size<=x.block:=by
 obtain ⟨g1,e1⟩:=lH d.mem hm;obtain ⟨g2,e2⟩:=lH d.regs hr;have om:=d.mem;have og:=d.regs;rw [e1] at om;rw [e2] at og;have f1:=OwnC.facts om;have f2:=OwnC.facts og;refine ⟨⟨?_,?_,eC d.regs,?_,?_,d.ks.at hk,?_⟩,fun x hx=>by have:=d.above x hx;omega⟩
 ·rw [e1];exact OwnB.byt (e:=5) (base:=hb+1) om (bU d.memb)
 ·simp only [maxLen] at f1;omega
 ·simp only [maxLen] at f2;omega
 ·rw [e2];exact ⟨fun h0=>(by cases h0),fun x hx=>(by cases hx;rfl)⟩
 ·intro x hx;simp only [be,List.mem_cons,List.not_mem_nil,or_false] at hx;rcases hx with hx | hx | hx | hx | hx
  ·exact (dG d.mem x hx.symm).2
  ·exact (dG d.regs x hx.symm).2
  ·exact (d.ks.ptrs x (.inl hx.symm)).2
  ·exact (d.ks.ptrs x (.inr (.inl hx.symm))).2
  ·exact (d.ks.ptrs x (.inr (.inr hx.symm))).2
theorem EC (a:Option Addr) (len cap:Nat) (zs:List Int) (w:World) (hB:Byt w a len zs) (hl:len<=1048576) (v:World) (hb size n i:Nat) (q:PtrM) (h:HartM) (u5 u7 u9 u10 u11 u12 u15 u16 u17 u18 u19 u20 u21 u22 u23 u24 u25 u26 u27 u28 u29 u30 u31 u32 u33 u34 u35 u36 u37 u38 u39 u40 u41 u42 u43 u44 u45 u46 u47 u48 u49 u50 u51 u52 u53 u54 u55 u56 u57 u58 u59 u60 u61 u62 u63 u64 u65 u66 u67 u68 u69 u70 u71 u72 u73 u74 u75 u76 u77 u78 u79 u80 u81 u82 u83 u84 u85 u86 u87 u88 u89 u90 u91 u92 u93 u94 u95 u96 u97 u98 u99 u100 u101 u102 u103 u104 u105 u106 u107 u108 u109 u110 u111 u112 u113 u114 u115 u116 u117 u118 u119 u120 u121 u122 u123 u124 u125 u126 u127 u128 u129 u130 u131 u132 u133 u134 u135 u136 u137 u138 u139 u140 u141 u142 u143 u144 u145 u146 u147:Value) (hE:DecEnd w v hb q h) (hn:n<=20000) (hi:i<=65878) (hko:kOk h.k) (hml:0<h.mem.length) (hrl:0<h.regs.length) (ps:List Int) (hps:ps=((List.range n).map fun j=>atM zs (i+j)))
 (K:Act->World->Prop) (hK:∀aa ww,(df 19 (eM Tryz.f13)).wp Tryz.prog (bodyPost Tryz.prog Tryz.f13 (pH w h ps)) aa ww->K aa ww):
 (eg (df 18 (eM Tryz.f13))).wp Tryz.prog (Exit.then K (bodyPost Tryz.prog Tryz.f13 (pH w h ps))) ⟨#[.slice a len cap,undef,PT w.heap.size 0,PT hb 0,VI (size:Nat),u5,VI (n:Nat),u7,VI (i:Nat),u9,u10,u11,u12,undef,undef,u15,u16,u17,u18,u19,u20,u21,u22,u23,u24,u25,u26,u27,u28,u29,u30,u31,u32,u33,u34,u35,u36,u37,u38,u39,u40,u41,u42,u43,u44,u45,u46,u47,u48,u49,u50,u51,u52,u53,u54,u55,u56,u57,u58,u59,u60,u61,u62,u63,u64,u65,u66,u67,u68,u69,u70,u71,u72,u73,u74,u75,u76,u77,u78,u79,u80,u81,u82,u83,u84,u85,u86,u87,u88,u89,u90,u91,u92,u93,u94,u95,u96,u97,u98,u99,u100,u101,u102,u103,u104,u105,u106,u107,u108,u109,u110,u111,u112,u113,u114,u115,u116,u117,u118,u119,u120,u121,u122,u123,u124,u125,u126,u127,u128,u129,u130,u131,u132,u133,u134,u135,u136,u137,u138,u139,u140,u141,u142,u143,u144,u145,u146,u147,undef,undef,undef,undef,undef,undef,undef,undef,undef,undef,undef,undef,undef,undef,undef,undef,undef,undef],[]⟩ v:=by
 obtain ⟨Q,hQ⟩:∃Q,bodyPost Tryz.prog Tryz.f13 (pH w h ps)=Q:=⟨_,rfl⟩;rw [hQ] at hK |-;have HQ:Hid _:=hQ;clear hQ;simp only [eg,df,eM,Tryz.f13,Option.getD] at hK |-;have HQp:Hid (∀x (a:Act) d z w,Q (.panic x) (a.put d z) w->Q (.panic x) a w):=by
  show ∀x (a:Act) d z w,Q (.panic x) (a.put d z) w->Q (.panic x) a w;rw [<-HQ.out];exact fun _ _ d _ _ h=>by cases d <;> exact h
 have HE:Hid _:=hE;have HPs:Hid _:=hps;have HKo:Hid _:=hko;have HB:Hid _:=hB;have HAt:Hid (∀(i:Nat) (u:World),i<=1073741824->Bw w u->Calls Tryz.prog 27 #[.slice a len cap,VI i] u fun e w'=>e=.returned (VI (atM zs i))∧w'=u):=fun i u hi hu=>py a len cap zs i u (Byt.keep HB.out hu) hl (by omega);clear hB hps hko hE;have hlo:=HE.out.low;have hlt:hb<v.heap.size:=(hpl HE.out.box);have hHs:=et q h;have HLv:Hid ((Instr.loadAt 44 (PT hb 0)).run Tryz.prog v=.ok (.agg #[.slice q.am h.mem.length q.cm,.slice q.ar h.regs.length q.cr,VU h.pc,VI h.mode,.bool h.sum,.bool h.mxr,VU h.satp,VU h.tvec,VU h.epc,VI h.emode,VI h.cause,VU h.tval,VI h.k.i.sets,VI h.k.i.ways,.slice q.a1 h.k.i.es.length q.c1,VI h.k.d.sets,VI h.k.d.ways,.slice q.a2 h.k.d.es.length q.c2,VI h.k.p.sets,VI h.k.p.ways,.slice q.a3 h.k.p.es.length q.c3]) v):=aW (P:=Tryz.prog) (T:=44) HE.out.box Tryz.underlying44 rfl (by rw [hHs];exact fy);have a9:=bF v fm 47;have hS9:=qS q none 0 h [];have HS9:Hid _:=aR (P:=Tryz.prog) (T:=47) (V:=cy q none 0 h []) a9.1 (by rw [hS9];exact li) (by rw [hS9,jf]) (jH _ _ _ _ _);have HB9:Hid _:=aI (V:=cy q none 0 h []) a9.1 (by rw [hS9,jf]);have n9:=aK (Nat.le_refl v.heap.size) (cy q none 0 h []).toList 0 _ a9.2.2;have s9:((v.alloc (Obj.cells fm 47)).setCells v.heap.size 0 (cy q none 0 h []).toList).heap.size=v.heap.size+1:=by rw [cF,a9.2.1]
 have HAg:Hid (cy q none 0 h []=#[.slice q.am h.mem.length q.cm,.slice q.ar h.regs.length q.cr,VU h.pc,VI h.mode,.bool h.sum,.bool h.mxr,VU h.satp,VU h.tvec,VU h.epc,VI h.emode,VI h.cause,VU h.tval,VI h.k.i.sets,VI h.k.i.ways,.slice q.a1 h.k.i.es.length q.c1,VI h.k.d.sets,VI h.k.d.ways,.slice q.a2 h.k.d.es.length q.c2,VI h.k.p.sets,VI h.k.p.ways,.slice q.a3 h.k.p.es.length q.c3,SN]):=rfl;clear a9;go_upto_region 39 with (first
  | ((with_reducible refine bj ?_ HLv.out ?_);(exact rfl))
  | ((with_reducible refine az ?_ ?_ HS9.out ?_);(exact rfl);(exact rfl)))
 have hw9:=bst HE.out.below n9;have HE9:Hid (DecEnd w ((v.alloc (Obj.cells fm 47)).setCells v.heap.size 0 (cy q none 0 h []).toList) hb q h):=
  ⟨ae HE.out.box n9 hlt,ae HE.out.res n9 (by omega),HE.out.low,aq HE.out.mem n9,HE.out.memb,aq HE.out.regs n9,HE.out.ks.keep n9,hw9⟩
 generalize (v.alloc (Obj.cells fm 47)).setCells v.heap.size 0 (cy q none 0 h []).toList=v9 at HB9 s9 hw9 HE9 |-;clear HS9 HLv n9 HAg HE;generalize hsb:v.heap.size=sb at HB9 s9 hlt |-;clear hsb;go_wp2;go_loopw [14] (fun kv wr=>∃(k:Nat) (pa:Option Addr) (pc:Nat),k<=n∧kv=VI k∧v9.grownBy wr (some sb)∧wr.heap[sb]?=some (.cells (cy q pa pc h ((List.range k).map fun j=>atM zs (i+j))) 47 (0,0))∧wr.ownsRow (sb+1) 2 1 (.slice pa k pc) k (cL ((List.range k).map fun j=>atM zs (i+j)))) (fun kv _=>n-(intOf kv).toNat)
 case atStart=>exact ⟨0,none,0,Nat.zero_le _,rfl,ao _ _,HB9.out,World.ownsRow_nil _ _ _ _⟩
 case round=>
  obtain ⟨k,pa,pc,hk,rfl,hG,hBx,hO⟩:=hrel;have HG:Hid _:=hG;have HBx:Hid _:=hBx;have HO:Hid _:=hO;have hgs:=hG.size;have c21:(cy q pa pc h ((List.range k).map fun j=>atM zs (i+j)))[21]?=some (.slice pa k pc):=by
   show some (Value.slice pa ((List.range k).map fun j=>atM zs (i+j)).length pc)=_;simp
  have hwr:Bw w wr:=hw9.trans ⟨hG.os,hG.tape,hG.output,hG.size,fun j hj=>hG.block j (by omega) (by simp;omega)⟩;clear hG hBx hO;by_cases hkn:k<n
  ·go_upto_region 42 with fail;obtain ⟨z,hz⟩:∃z,atM zs (i+k)=z:=⟨_,rfl⟩;have HZ:Hid _:=hz;clear hz;have HL1:Hid (∀u:World,u.heap[sb]?=some (.cells (cy q pa pc h ((List.range k).map fun j=>atM zs (i+j))) 47 (0,0))->(Instr.loadAt 45 (PT sb 21)).run Tryz.prog u=.ok (.slice pa k pc) u):=fun u hu=>by
    have h1:=ab hu 21 c21;go_simp
   have HBo:Hid (∀(u:World),Below (sb+1) wr u->u.heap[sb]?=some (.cells (cy q pa pc h ((List.range k).map fun j=>atM zs (i+j))) 47 (0,0))):=fun u hu=>(hu.block sb (by omega)).trans HBx.out;have HEq:Hid (∀pa' pc',cy q pa' pc' h ((List.range (k+1)).map fun j=>atM zs (i+j))=(cy q pa pc h ((List.range k).map fun j=>atM zs (i+j))).setIfInBounds 21 (.slice pa' ((List.range (k+1)).map fun j=>atM zs (i+j)).length pc')):=fun pa' pc'=>rfl;generalize cy q pa pc h ((List.range k).map fun j=>atM zs (i+j))=BX at HL1 HBo c21 HEq;have hF:wr.drew.heap[sb]?=some (.cells BX 47 (0,0)):=HBo.out wr brf;refine ax (fun u=>u.heap[sb]?=some (.cells BX 47 (0,0))) 10 ?_;refine aj 0 155 (PT sb 21) rfl hF ?_ (hQ:=hqp HQp)
   go_frame
   refine aj 1 156 (.slice pa k pc) rfl hF ?_ (hQ:=hqp HQp) (hy:=fun u hu=>aD rfl (HL1.out u hu));refine aj 2 157 (.slice a len cap) rfl hF ?_ (hQ:=hqp HQp);refine aj 3 158 (VI (i:Nat)) rfl hF ?_ (hQ:=hqp HQp);refine aj 4 159 (VI (k:Nat)) rfl hF ?_ (hQ:=hqp HQp)
   go_frame
   refine aj 5 160 (VI ((i+k:Nat):Int)) rfl hF ?_ (hQ:=hqp HQp) (hy:=fun u hu=>(by go_simp;try exact (IntKind.wrap_i64 _).trans (by omega)))
   go_frame
   refine du 6 161 rfl (f:=27) (args:=#[.slice a len cap,VI ((i+k:Nat):Int)]) ?_;refine (HAt.out (i+k) wr.drew (by omega) hwr.drew).mono ?_;rintro e v' ⟨rfl,hv'⟩;rw [hv',HZ.out];clear hv' v';refine ⟨_,rfl,fun _=>hF,?_⟩
   go_frame
   have m7:=(Below.refl wr.drew.heap.size wr.drew).alloc nle (Obj.cells #[VI z] 2);have m67:Bw wr (wr.drew.alloc (Obj.cells #[VI z] 2)):=bst (brf).drew m7;have hs67:sb+1<=wr.heap.size:=by omega
   refine iR 7 162 (SL wr.drew.heap.size 1 1) (w':=wr.drew.alloc (Obj.cells #[VI z] 2)) rfl (fun _=>HBo.out _ (m67.mono hs67)) ?_ (he:=by go_simp)
   go_frame
   have O7:=aq HO.out m67;have W7:RowC (wr.drew.alloc (Obj.cells #[VI z] 2)) (some (AD wr.drew.heap.size 0)) 1 1 (cL [z]):=(OwnC.new 2 1 wr.drew (cL [z]) 1 (by rfl) (by decide)).row;have s7:=m67.size;refine qE 8 163 (by kernel_rfl) rfl (by kernel_rfl) (by kernel_rfl) (.tmp 156) (.tmp 162) 45 (by kernel_rfl) 2 Tryz.underlying45 (VI 0) 1 8 Tryz.infoI rfl (by decide) (sb+1) k _ (cL ((List.range k).map fun j=>atM zs (i+j))) (by kernel_rfl) O7 wr.drew.heap.size 0 1 1 (cL [z]) (by kernel_rfl) (by omega) W7 (yX _) (by omega) (by omega) (by omega) (sb+1) _ brf nle ?_;intro g8 c8 v8 o8 m8;have B8:=HBo.out v8 ((m67.mono hs67).trans m8);refine ⟨fun _=>B8,?_⟩
   go_frame
   refine fN 9 164 (PT sb 21) rfl (.inr B8) ?_ (hQ:=hqp HQp)
   go_frame
   have HSt:Hid ((Instr.storeAt 45 (PT sb 21) (SL g8 (k+1) c8)).run Tryz.prog v8=.ok () (v8.setCell (AD sb 21) (SL g8 (k+1) c8))):=by
    have h1:=ab B8 21 c21;have h2:=ap B8 21;show _=_;go_simp
   refine dz 10 164 163 rfl HSt.out ?_;refine dc ?_;go_wp2_with fail;have hg8:sb+1<=g8:=(dG o8 (AD g8 0) rfl).1;refine ⟨⟨k+1,some (AD g8 0),c8,by omega,by go_num,?_,?_,?_⟩,?_⟩
   ·refine au ?_ 21 _;have hG:=HG.out;exact ⟨m8.os.trans (m67.os.trans hG.os),m8.tape.trans (m67.tape.trans hG.tape),m8.output.trans (m67.output.trans hG.output),by have:=m8.size;omega,fun j hj hne=>(m8.block j (by omega)).trans ((m67.block j (by omega)).trans (hG.block j hj hne))⟩
   ·rw [HEq.out,show ((List.range (k+1)).map fun j=>atM zs (i+j)).length=k+1 by simp];exact cf B8 21 _
   ·have:=OwnC.gb o8 (au (ao v8 (some sb)) 21 (SL g8 (k+1) c8)) (by omega);have e:cL ((List.range k).map fun j=>atM zs (i+j))++cL [z]=cL ((List.range (k+1)).map fun j=>atM zs (i+j)):=by
     rw [ij,HZ.out];simp [cL]
    rw [e] at this;exact this
   ·simp [intOf];omega
  ·have hkn':k=n:=by omega
   subst hkn';have HEf:Hid (DecEnd w wr hb q h):=by
    have hG:=HG.out;have hE:=HE9.out;exact ⟨aA hE.box hG (by omega),aA hE.res hG (by omega),hE.low,cP hE.mem HB9.out (by decide) hG,hE.memb,cP hE.regs HB9.out (by decide) hG,hE.ks.set HB9.out (by decide) hG,hwr⟩
   go_upto_region 43 with fail;have hS:=qS q pa pc h ((List.range k).map fun j=>atM zs (i+j));have hR:=HEf.out.res;have HLd:Hid _:=aW (P:=Tryz.prog) (T:=47) HBx.out Tryz.underlying47 rfl (by rw [hS];exact li);have HSr:Hid _:=aR (P:=Tryz.prog) (T:=47) (V:=cy q pa pc h ((List.range k).map fun j=>atM zs (i+j))) hR (by rw [hS];exact li) (by rw [hS,jf]) (jH _ _ _ _ _);have e1:=aI (V:=cy q pa pc h ((List.range k).map fun j=>atM zs (i+j))) hR (by rw [hS,jf]);have gR:=aH w.heap.size (cy q pa pc h ((List.range k).map fun j=>atM zs (i+j))).toList 0 wr wr (ao wr _);have nR:=aK (Nat.le_refl w.heap.size) (cy q pa pc h ((List.range k).map fun j=>atM zs (i+j))).toList 0 wr hwr;have HOf:Hid ((wr.setCells w.heap.size 0 (cy q pa pc h ((List.range k).map fun j=>atM zs (i+j))).toList).ownsRow (sb+1) 2 1 (.slice pa k pc) k (cL ((List.range k).map fun j=>atM zs (i+j)))):=aE HO.out gR (by omega);have HEg:Hid _:=(HEf.out.hart HKo.out hml hrl);go_wp2_with (first
    | ((with_reducible refine bj ?_ HLd.out ?_);(exact rfl))
    | ((with_reducible refine az ?_ ?_ HSr.out ?_);(exact rfl);(exact rfl)))
   rw [<-HQ.out];refine dE (b:=w.heap.size) Tryz.results13 rfl (bC (P:=Tryz.prog) e1 Tryz.underlying47 rfl (by rw [hS];exact li)) rfl ?_;rw [HPs.out];refine ⟨⟨q,pa,pc,rfl,HEg.out.1.gb gR (fun x hx=>by have:=HEf.out.above x hx;omega),HEg.out.2,?_⟩,nR⟩;have:=bS HOf.out (show w.heap.size<=sb+1 by omega);simp only [List.length_map,List.length_range];exact this
theorem rF (a:Option Addr) (len cap:Nat) (zs:List Int) (w:World) (hB:Byt w a len zs) (hl:len<=1048576):
 Calls Tryz.prog 13 #[.slice a len cap] w (pH w (aJ zs) (bE zs)):=by
 have hb:=hB.2.1;refine Bl a len cap zs w hB hl _ ?_;intro v hb' size n p u5 u15 u16 u17 u18 u19 u20 u21 u22 u23 u24 u25 u26 u27 u28 u29 u30 u31 u32 u33 u34 u35 u36 u37 u38 u39 u40 u41 u42 u43 u44 u45 u46 u47 u48 u49 u50 u51 u52 u53 u54 u55 u56 u57 u58 u59 u60 u61 u62 u63 u64 u65 u66 u67 u68 u69 u70 u71 u72 u73 u74 u75 u76 u77 u78 u79 u80 u81 u82 u83 u84 u85 hD har hcr hsz hn K hK;have h3:=pS hb 3;have hsz':64<=size∧size<=4096:=by omega
 have hko:kOk ⟨ac (atM zs 0),ac (atM zs 1),ac (atM zs 2)⟩:=⟨jY _,jY _,jY _⟩;have hn2:n<=20000:=by rw [hn];unfold iU;omega
 refine Er a len cap zs w hB hl v hb' size n p u5 u15 u16 u17 u18 u19 u20 u21 u22 u23 u24 u25 u26 u27 u28 u29 u30 u31 u32 u33 u34 u35 u36 u37 u38 u39 u40 u41 u42 u43 u44 u45 u46 u47 u48 u49 u50 u51 u52 u53 u54 u55 u56 u57 u58 u59 u60 u61 u62 u63 u64 u65 u66 u67 u68 u69 u70 u71 u72 u73 u74 u75 u76 u77 u78 u79 u80 u81 u82 u83 u84 u85 _ _ _ _ _ _ _ hko hD har hcr hsz' hn2 _ ?_ K hK;intro v9 q mem i u5 u7 u9 u10 u11 u12 u15 u16 u17 u18 u19 u20 u21 u22 u23 u24 u25 u26 u27 u28 u29 u30 u31 u32 u33 u34 u35 u36 u37 u38 u39 u40 u41 u42 u43 u44 u45 u46 u47 u48 u49 u50 u51 u52 u53 u54 u55 u56 u57 u58 u59 u60 u61 u62 u63 u64 u65 u66 u67 u68 u69 u70 u71 u72 u73 u74 u75 u76 u77 u78 u79 u80 u81 u82 u83 u84 u85 u86 u87 u88 u89 u90 u91 u92 u93 u94 u95 u96 u97 u98 u99 u100 u101 u102 u103 u104 u105 u106 u107 u108 u109 u110 u111 u112 u113 u114 u115 u116 u117 u118 u119 u120 u121 u122 u123 u124 u125 u126 u127 u128 u129 u130 u131 u132 u133 u134 u135 u136 u137 u138 u139 u140 u141 u142 u143 u144 u145 u146 u147 hE hml hi hrun K2 hK2;have hmem:qU zs=(mem,i):=by unfold qU;rw [<-hsz];exact hrun
 have hX:aJ zs=⟨mem,jD zs,cw zs 7,bQ (atM zs 4),atM zs 4/4%2 == 1,atM zs 4/8%2 == 1,if de (cw zs 23)=true then cw zs 23 else 0,cw zs 15/4*4,0,bQ (atM zs 4),0,0,⟨ac (atM zs 0),ac (atM zs 1),ac (atM zs 2)⟩⟩:=by
  unfold aJ;rw [hmem]
 have hps:bE zs=((List.range n).map fun j=>atM zs (i+j)):=by
  unfold bE;rw [hmem,<-hn]
 rw [hX,hps] at hK2 |-;exact EC a len cap zs w hB hl v9 hb' size n i q _ u5 u7 u9 u10 u11 u12 u15 u16 u17 u18 u19 u20 u21 u22 u23 u24 u25 u26 u27 u28 u29 u30 u31 u32 u33 u34 u35 u36 u37 u38 u39 u40 u41 u42 u43 u44 u45 u46 u47 u48 u49 u50 u51 u52 u53 u54 u55 u56 u57 u58 u59 u60 u61 u62 u63 u64 u65 u66 u67 u68 u69 u70 u71 u72 u73 u74 u75 u76 u77 u78 u79 u80 u81 u82 u83 u84 u85 u86 u87 u88 u89 u90 u91 u92 u93 u94 u95 u96 u97 u98 u99 u100 u101 u102 u103 u104 u105 u106 u107 u108 u109 u110 u111 u112 u113 u114 u115 u116 u117 u118 u119 u120 u121 u122 u123 u124 u125 u126 u127 u128 u129 u130 u131 u132 u133 u134 u135 u136 u137 u138 u139 u140 u141 u142 u143 u144 u145 u146 u147 hE hn2 hi hko (by show 0<mem.length;omega) (by show 0<(jD zs).length;simp [jD]) _ rfl K2 hK2
end
theorem By {e:TypeId} {size base n:Nat} {w w':World} {s t:Value} {cs:List Value} (h:w.ownsRow base e size s n cs) (hg:w.grownBy w' t.ownBlock) (ha:∀g,s.ownBlock=some g->t.ownBlock=some g->False):w'.ownsRow base e size s n cs:=by
 refine h.kept hg ?_;cases hs:s.ownBlock with
 | none=>exact .inl rfl
 | some g=>exact .inr fun he=>ha g hs he.symm
theorem mE {w w':World} {g:Nat} {o:Obj} {s:Value} (h:w.heap[g]?=some o) (hg:w.grownBy w' s.ownBlock) (hn:s.ownBlock≠some g):w'.heap[g]?=some o:=
 (hg.block g (hpl h) (fun e=>hn e.symm)).trans h
theorem sk {e e':TypeId} {size size' base base' n n':Nat} {w:World} {s s':Value} {cs cs':List Value} (h:w.ownsRow base e size s n cs) (h':w.ownsRow base' e' size' s' n' cs') (he:e≠e'):∀g,s.ownBlock=some g->s'.ownBlock=some g->False:=by
 intro g h1 h2;rcases h'.2 with ⟨h3,_⟩ | ⟨g',cap,cur,h3,_,h4,_⟩
 ·rw [h3] at h2;simp [Value.ownBlock] at h2
 ·rw [h3] at h2;simp only [Value.ownBlock] at h2;have hg:=Option.some.inj h2;subst hg;exact bY h h4 (Ne.symm he) h1
theorem sq (v:World) (V:Array Value) (hs:V.size=22) (h1:V.all (·.oneCell')=true):
 ∃v',(Instr.storeAt 47 (PT v.heap.size 0) (.agg V)).run Tryz.prog (v.alloc (Obj.cells fm 47))=.ok () v'∧v'.heap[v.heap.size]?=some (.cells V 47 (0,0))∧v.heap.size<v'.heap.size∧Bw v v':=by
 have a:=bF v fm 47;refine ⟨_,aR (P:=Tryz.prog) (T:=47) a.1 (by rw [hs];exact li) (by rw [hs];rfl) h1,aI a.1 (by rw [hs];rfl),?_,?_⟩
 ·rw [cF,a.2.1];exact Nat.lt_succ_self _
 ·exact aK nle _ _ _ a.2.2
theorem Bz {P:Program} {ops:Array Oper} {Q:Exit->Act->World->Prop} {rest:List Oper} {a:Act} {d:Tmp} {T ty:TypeId} {x:Operand} {pos:String} {af:Array Edge} {g:Option (Nat × Bool)} {w:World} {b o:Nat} {V:Value} (hw:Region.wanted { dst:=some d,op:=.load T x,type:=ty,pos:=pos,after:=af,guard:=g } (yielded ops a.tmps)=true) (hx:a.eval x=PT b o) (hl:(Instr.loadAt T (PT b o)).run P w=.ok V w)
 (h:wpList P ops Q rest (a.put (some d) V) w):wpList P ops Q ({ dst:=some d,op:=.load T x,type:=ty,pos:=pos,after:=af,guard:=g }::rest) a w:=
 wpList_step fun K hK=>by
  rw [if_pos hw];unfold Oper.wp execOp;simp only [hx,Sem.run_bind,hl,Result.andThen_ok,Sem.run_pure];exact hK _ _ h
theorem BA (v:World) (V:Array Value) (hs:V.size=21) (h1:V.all (·.oneCell')=true):
 ∃v',(Instr.storeAt 44 (PT v.heap.size 0) (.agg V)).run Tryz.prog (v.alloc (Obj.cells fw 44))=.ok () v'∧v'.heap[v.heap.size]?=some (.cells V 44 (0,0))∧v.heap.size<v'.heap.size∧Bw v v':=by
 have a:=bF v fw 44;refine ⟨_,aR (P:=Tryz.prog) (T:=44) a.1 (by rw [hs];exact fy) (by rw [hs];rfl) h1,aI a.1 (by rw [hs];rfl),?_,?_⟩
 ·rw [cF,a.2.1];exact Nat.lt_succ_self _
 ·exact aK nle _ _ _ a.2.2
theorem pW {v:World} {g:Nat} {V:Array Value} (hs:V.size=21) (h:v.heap[g]?=some (.cells V 44 (0,0))):(Instr.loadAt 44 (PT g 0)).run Tryz.prog v=.ok (.agg V) v:=
 aW h Tryz.underlying44 rfl (by rw [hs];exact fy)
end Go.Proofs.YthdgiakgepmabaaGreat
