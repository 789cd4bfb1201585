import Derived.Test.YtkenjknmfhoppaaGreatSk41
namespace Go.Proofs.YtkenjknmfhoppaaGreat
open Go.RowKit
set_option linter.unusedVariables false
set_option maxHeartbeats 6400000
set_option maxRecDepth 20000
section
attribute [local go_sem ↓] Go.wp_at_zero Go.wp_at_succ
def cS (p:PtrM) (pa:Option Addr) (pc:Nat) (h:HartM) (ps:List Int):Array Value:=#[.slice p.am h.mem.length p.cm,.slice p.ar h.regs.length p.cr,VU h.pc,VI h.mode,.bool h.sum,.bool h.mxr,VU h.satp,VU h.tvec,VU h.epc,VI h.emode,VI h.cause,VU h.tval,
 VI h.k.i.sets,VI h.k.i.ways,.slice p.a1 h.k.i.es.length p.c1,VI h.k.d.sets,VI h.k.d.ways,.slice p.a2 h.k.d.es.length p.c2,VI h.k.p.sets,VI h.k.p.ways,.slice p.a3 h.k.p.es.length p.c3,.slice pa ps.length pc]
def dE (zs:List Int):List Value:=zs.map (Value.int .i64)
theorem rp (p:PtrM) (pa:Option Addr) (pc:Nat) (h:HartM) (ps:List Int):(cS p pa pc h ps).size=22:=rfl
theorem lA (p:PtrM) (pa:Option Addr) (pc:Nat) (h:HartM) (ps:List Int):(cS p pa pc h ps).all (·.oneCell')=true:=by
 simp [cS,Value.oneCell']
theorem lC:(Tryz.prog.info? 46).map (·.size)=some 22:=by kernel_rfl
theorem jm:fD.size=22:=rfl
theorem DN {v v1:World} {r:Option Nat} (h:Bw v v1):v.grownBy v1 r:=⟨h.os,h.tape,h.output,h.size,fun k hk _=>h.block k hk⟩
theorem DecIn.gb {w u v:World} {hb:Nat} {p p':PtrM} {h h':HartM} (d:DecIn w u hb p h) (g:u.grownBy v (some hb)) (hx:v.heap[hb]?=some (.cells (ak p' h') 43 (0,0))) (hm:p'.am=p.am∧p'.cm=p.cm∧h'.mem=h.mem) (hk:p'.a1=p.a1∧p'.c1=p.c1∧p'.a2=p.a2∧p'.c2=p.c2∧p'.a3=p.a3∧p'.c3=p.c3∧h'.k=h.k):DecIn w v hb p' h':=by
 obtain ⟨x,h1,h2,h3⟩:=d.ks;have hl:=d.low;have hl2:=d.lt;refine ⟨hx,aB d.res g (by omega),d.low,?_,⟨x,h1,?_,h3.trans ⟨g.os,g.tape,g.output,g.size,fun k hk=>g.block k (by omega) (by simp;omega)⟩⟩,d.below.trans ⟨g.os,g.tape,g.output,g.size,fun k hk=>g.block k (by omega) (by simp;omega)⟩⟩
 ·rw [hm.1,hm.2.1,hm.2.2];exact dV d.mem d.box (by decide) g
 ·unfold KRows at h2 |-;rw [hk.1,hk.2.1,hk.2.2.1,hk.2.2.2.1,hk.2.2.2.2.1,hk.2.2.2.2.2.1,hk.2.2.2.2.2.2];exact h2
theorem Tryz.infoI:(Tryz.prog.info? 2).map (fun i=>(i.zero,i.size,i.bytes))=some (some (VI 0),1,8):=by kernel_rfl
def rM (w:World) (h:HartM) (ps:List Int):Ending->World->Prop:=fun e w'=>(∃p pa pc,e=.returned (.agg (cS p pa pc h ps))∧HartIn w' p h∧(∀q,some q∈aV p->w.heap.size<=q.block)∧w'.ownsRow w.heap.size 2 1 (.slice pa ps.length pc) ps.length (dE ps))∧Bw w w'
structure DecEnd (w v:World) (hb:Nat) (q:PtrM) (h:HartM):Prop where
 box:v.heap[hb]?=some (.cells (ak q h) 43 (0,0))
 res:v.heap[w.heap.size]?=some (.cells fD 46 (0,0))
 low:w.heap.size<hb
 mem:v.ownsRow (hb+1) 5 1 (.slice q.am h.mem.length q.cm) h.mem.length (ex h.mem)
 memb:∀z∈h.mem,0<=z∧z<=255
 regs:v.ownsRow (hb+1) 29 1 (.slice q.ar h.regs.length q.cr) h.regs.length (cF h.regs)
 ks:KRows (w.heap.size+1) v q h.k
 below:Bw w v
theorem DO (a:Option Addr) (len cap:Nat) (zs:List Int) (w:World) (hB:Byt w a len zs) (hl:len<=1048576) (v:World) (hb size n:Nat) (p:PtrM) (u5 u15 u16 u17 u18 u19 u20 u21 u22 u23 u24 u25 u26 u27 u28 u29 u30 u31 u32 u33 u34 u35 u36 u37 u38 u39 u40 u41 u42 u43 u44 u45 u46 u47 u48 u49 u50 u51 u52 u53 u54 u55 u56 u57 u58 u59 u60 u61 u62 u63 u64 u65 u66 u67 u68 u69 u70 u71 u72 u73 u74 u75 u76 u77 u78 u79 u80 u81 u82 u83 u84 u85:Value) (pcv md sav tvv:Int) (smv mxv:Bool) (kv:KM) (hko:kOk kv) (hD:DecIn w v hb p (⟨List.replicate size 0,[],pcv,md,smv,mxv,sav,tvv,0,md,0,0,kv⟩:HartM)) (har:p.ar=none) (hcr:p.cr=0) (hsz:64<=size∧size<=4096) (hn:n<=20000)
 (R:Ending->World->Prop) (H2:∀(v9:World) (q:PtrM) (mem:List Int) (i:Nat) (u5 u7 u9 u10 u11 u12 u15 u16 u17 u18 u19 u20 u21 u22 u23 u24 u25 u26 u27 u28 u29 u30 u31 u32 u33 u34 u35 u36 u37 u38 u39 u40 u41 u42 u43 u44 u45 u46 u47 u48 u49 u50 u51 u52 u53 u54 u55 u56 u57 u58 u59 u60 u61 u62 u63 u64 u65 u66 u67 u68 u69 u70 u71 u72 u73 u74 u75 u76 u77 u78 u79 u80 u81 u82 u83 u84 u85 u86 u87 u88 u89 u90 u91 u92 u93 u94 u95 u96 u97 u98 u99 u100 u101 u102 u103 u104 u105 u106 u107 u108 u109 u110 u111 u112 u113 u114 u115 u116 u117 u118 u119 u120 u121 u122 u123 u124 u125 u126 u127 u128 u129 u130 u131 u132 u133 u134 u135 u136 u137 u138 u139 u140 u141 u142 u143 u144 u145 u146 u147:Value),DecEnd w v9 hb q (⟨mem,jK zs,pcv,md,smv,mxv,sav,tvv,0,md,0,0,kv⟩:HartM)->mem.length=size->i<=65878->jc zs (atM zs 87).toNat 88 (List.replicate size 0)=(mem,i)->
  ∀K:Act->World->Prop,(∀aa ww,(dl 19 (eS Tryz.f15)).wp Tryz.prog (bodyPost Tryz.prog Tryz.f15 R) aa ww->K aa ww)->(el (dl 18 (eS Tryz.f15))).wp Tryz.prog (Exit.then K (bodyPost Tryz.prog Tryz.f15 R)) ⟨#[.slice a len cap,undef,PT w.heap.size 0,PT hb 0,VI (size:Nat),u5,VI (n:Nat),u7,VI (i:Nat),u9,u10,u11,u12,undef,undef,u15,u16,u17,u18,u19,u20,u21,u22,u23,u24,u25,u26,u27,u28,u29,u30,u31,u32,u33,u34,u35,u36,u37,u38,u39,u40,u41,u42,u43,u44,u45,u46,u47,u48,u49,u50,u51,u52,u53,u54,u55,u56,u57,u58,u59,u60,u61,u62,u63,u64,u65,u66,u67,u68,u69,u70,u71,u72,u73,u74,u75,u76,u77,u78,u79,u80,u81,u82,u83,u84,u85,u86,u87,u88,u89,u90,u91,u92,u93,u94,u95,u96,u97,u98,u99,u100,u101,u102,u103,u104,u105,u106,u107,u108,u109,u110,u111,u112,u113,u114,u115,u116,u117,u118,u119,u120,u121,u122,u123,u124,u125,u126,u127,u128,u129,u130,u131,u132,u133,u134,u135,u136,u137,u138,u139,u140,u141,u142,u143,u144,u145,u146,u147,undef,undef,undef,undef,undef,undef,undef,undef,undef,undef,undef,undef,undef,undef,undef,undef,undef,undef],[]⟩ v9)
 (K:Act->World->Prop) (hK:∀aa ww,(dl 15 (eS Tryz.f15)).wp Tryz.prog (bodyPost Tryz.prog Tryz.f15 R) aa ww->K aa ww):
 (el (dl 14 (eS Tryz.f15))).wp Tryz.prog (Exit.then K (bodyPost Tryz.prog Tryz.f15 R)) ⟨#[.slice a len cap,undef,PT w.heap.size 0,PT hb 0,VI (size:Nat),u5,VI (n:Nat),undef,undef,undef,undef,undef,undef,undef,undef,u15,u16,u17,u18,u19,u20,u21,u22,u23,u24,u25,u26,u27,u28,u29,u30,u31,u32,u33,u34,u35,u36,u37,u38,u39,u40,u41,u42,u43,u44,u45,u46,u47,u48,u49,u50,u51,u52,u53,u54,u55,u56,u57,u58,u59,u60,u61,u62,u63,u64,u65,u66,u67,u68,u69,u70,u71,u72,u73,u74,u75,u76,u77,u78,u79,u80,u81,u82,u83,u84,u85,undef,undef,undef,undef,undef,undef,undef,undef,undef,undef,undef,undef,undef,undef,undef,undef,undef,undef,undef,undef,undef,undef,undef,undef,undef,undef,undef,undef,undef,undef,undef,undef,undef,undef,undef,undef,undef,undef,undef,undef,undef,undef,undef,undef,undef,undef,undef,undef,undef,undef,undef,undef,undef,undef,undef,undef,undef,undef,undef,undef,undef,undef,undef,undef,undef,undef,undef,undef,undef,undef,undef,undef,undef,undef,undef,undef,undef,undef,undef,undef],[]⟩ v:=by
 obtain ⟨Q,hQ⟩:∃Q,bodyPost Tryz.prog Tryz.f15 R=Q:=⟨_,rfl⟩;rw [hQ] at hK H2 |-;have HQ:Hid _:=hQ;clear hQ;simp only [el,dl,eS,Tryz.f15,Option.getD] at hK |-;have HQp:Hid (∀x (a:Act) d z w,Q (.panic x) (a.put d z) w->Q (.panic x) a w):=by
  show ∀x (a:Act) d z w,Q (.panic x) (a.put d z) w->Q (.panic x) a w;rw [<-HQ.out];exact fun _ _ d _ _ h=>by cases d <;> exact h
 have HD:=hid hD;have HH2:Hid _:=H2;have HB:Hid _:=hB;have HAt:=hid fun (i:Nat) (u:World) (hi:i<=1073741824) (hu:Bw w u)=>pZ a len cap zs i u (Byt.keep HB.out hu) hl (by omega);have HLg:=hid fun (i:Nat) (u:World) (hi:i<=1073741824) (hu:Bw w u)=>sC a len cap zs i u (Byt.keep HB.out hu) hl hi;have HAb:=hid fun i=>qu hB.2.1 i;clear hB hko hD H2;obtain ⟨hsz1,hsz2⟩:=hsz;have hlo:=HD.out.low;have hlt:=HD.out.lt;have kk1:=ab HD.out.box 1 (show (ak p (⟨List.replicate size 0,[],pcv,md,smv,mxv,sav,tvv,0,md,0,0,kv⟩:HartM))[1]?=some (.slice p.ar 0 p.cr) from rfl);have ff1:=az HD.out.box 1;have n1:=(Below.refl (v.setCell (AD hb 1) (SL v.heap.size 1 1)).heap.size (v.setCell (AD hb 1) (SL v.heap.size 1 1))).alloc nle (Obj.cells #[VU 0] 29);have hsS:(v.setCell (AD hb 1) (SL v.heap.size 1 1)).heap.size=v.heap.size:=by simp
 have G2:Hid _:=dY (aq (aw v (some hb)) 1 (SL v.heap.size 1 1)) (DN n1);have B2:=hid (ag (co HD.out.box 1 _) n1 (by omega));have O2:Hid (OwnC 29 1 ((v.setCell (AD hb 1) (SL v.heap.size 1 1)).alloc (Obj.cells #[VU 0] 29)) v.heap.size v.heap.size 1 1 (cF (0::(List.range 0).map fun j=>cz zs (31+8*j)))):=by
  have:=OwnC.new 29 1 (v.setCell (AD hb 1) (SL v.heap.size 1 1)) [VU 0] 1 rfl (by decide);rw [hsS] at this;exact this
 go_upto_region 21 with fail;clear kk1 ff1;generalize (v.setCell (AD hb 1) (SL v.heap.size 1 1)).alloc (Obj.cells #[VU 0] 29)=v2 at G2 B2 O2 |-;clear n1 hsS;go_wp2;go_loopw [7] (fun rv wr=>∃(t g c:Nat),t<=7∧rv=VI ((t+1:Nat):Int)∧v.grownBy wr (some hb)∧wr.heap[hb]?=some (.cells (ak (⟨p.am,p.cm,some (AD g 0),c,p.a1,p.c1,p.a2,p.c2,p.a3,p.c3⟩:PtrM) (⟨List.replicate size 0,(0::(List.range t).map fun j=>cz zs (31+8*j)),pcv,md,smv,mxv,sav,tvv,0,md,0,0,kv⟩:HartM)) 43 (0,0))∧OwnC 29 1 wr v.heap.size g (t+1) c (cF (0::(List.range t).map fun j=>cz zs (31+8*j)))) (fun rv _=>9-(intOf rv).toNat)
 case atStart=>exact ⟨0,_,_,Nat.zero_le _,rfl,G2.out,B2.out,O2.out⟩
 case round=>
  clear G2 B2 O2;obtain ⟨t,g,c,ht,rfl,hG,hBx,hO⟩:=hrel;have HG:Hid _:=hG;have HBx:Hid _:=hBx;have HO:Hid _:=hO;have hgs:=hG.size;have c1:(ak (⟨p.am,p.cm,some (AD g 0),c,p.a1,p.c1,p.a2,p.c2,p.a3,p.c3⟩:PtrM) (⟨List.replicate size 0,(0::(List.range t).map fun j=>cz zs (31+8*j)),pcv,md,smv,mxv,sav,tvv,0,md,0,0,kv⟩:HartM))[1]?=some (SL g (t+1) c):=by
   show some (SL g (0::(List.range t).map fun j=>cz zs (31+8*j)).length c)=_;simp
  have hwr:=HD.out.below.trans ⟨hG.os,hG.tape,hG.output,hG.size,fun k hk=>hG.block k (by omega) (by simp;omega)⟩;have hlw:hb<wr.heap.size:=by omega
  clear hG hBx hO;by_cases ht7:t<7
  ·go_upto_region 24 with fail;obtain ⟨L,hL⟩:∃L,cz zs (31+8*t)=L:=⟨_,rfl⟩;have HLl:Hid _:=hL;clear hL;have HL1:Hid (∀u:World,u.heap[hb]?=some (.cells (ak (⟨p.am,p.cm,some (AD g 0),c,p.a1,p.c1,p.a2,p.c2,p.a3,p.c3⟩:PtrM) (⟨List.replicate size 0,(0::(List.range t).map fun j=>cz zs (31+8*j)),pcv,md,smv,mxv,sav,tvv,0,md,0,0,kv⟩:HartM)) 43 (0,0))->(Instr.loadAt 28 (PT hb 1)).run Tryz.prog u=.ok (SL g (t+1) c) u):=fun u hu=>by
    have h1:=ab hu 1 c1;go_simp
   have HW8:Hid (IntKind.i64.wrap (8*((t+1:Nat):Int))=((8*(t+1):Nat):Int)):=(IntKind.wrap_i64 _).trans (by omega);have HW9:Hid (IntKind.i64.wrap (23+((8*(t+1):Nat):Int))=((31+8*t:Nat):Int)):=(IntKind.wrap_i64 _).trans (by omega);have HBo:Hid (∀(u:World),Below v.heap.size wr u->u.heap[hb]?=some (.cells (ak (⟨p.am,p.cm,some (AD g 0),c,p.a1,p.c1,p.a2,p.c2,p.a3,p.c3⟩:PtrM) (⟨List.replicate size 0,(0::(List.range t).map fun j=>cz zs (31+8*j)),pcv,md,smv,mxv,sav,tvv,0,md,0,0,kv⟩:HartM)) 43 (0,0))):=fun u hu=>(hu.block hb (by omega)).trans HBx.out;generalize hBX:ak (⟨p.am,p.cm,some (AD g 0),c,p.a1,p.c1,p.a2,p.c2,p.a3,p.c3⟩:PtrM) (⟨List.replicate size 0,(0::(List.range t).map fun j=>cz zs (31+8*j)),pcv,md,smv,mxv,sav,tvv,0,md,0,0,kv⟩:HartM)=BX at HL1 HBo c1;have HBX:Hid _:=hBX;clear hBX;have hF:wr.drew.heap[hb]?=some (.cells BX 43 (0,0)):=HBo.out wr (brf);have nD:=bdr wr;refine aN (fun u=>u.heap[hb]?=some (.cells BX 43 (0,0))) 10 ?_;refine ax 0 92 (PT hb 1) rfl hF ?_ (hQ:=hqp HQp)
   go_frame
   refine ax 1 93 (SL g (t+1) c) rfl hF ?_ (hQ:=hqp HQp) (hy:=fun u hu=>aU rfl (HL1.out u hu));refine ax 2 94 (.slice a len cap) rfl hF ?_ (hQ:=hqp HQp);refine ax 3 95 (VI ((t+1:Nat):Int)) rfl hF ?_ (hQ:=hqp HQp)
   go_frame
   refine ax 4 96 (VI ((8*(t+1):Nat):Int)) rfl hF ?_ (hQ:=hqp HQp) (hy:=fun u hu=>(by go_simp;exact (IntKind.wrap_i64 _).trans (by omega)))
   go_frame
   refine ax 5 97 (VI ((31+8*t:Nat):Int)) rfl hF ?_ (hQ:=hqp HQp) (hy:=fun u hu=>(by go_simp;exact (IntKind.wrap_i64 _).trans (by omega)))
   go_frame
   refine dN 6 98 rfl (f:=42) (args:=#[.slice a len cap,VI ((31+8*t:Nat):Int)]) ?_;refine (HLg.out (31+8*t) wr.drew (by omega) hwr.drew).mono ?_;rintro e v6 ⟨rfl,m6'⟩;have m6:Bw wr v6:=bst nD m6';rw [HLl.out];refine ⟨_,rfl,fun _=>HBo.out v6 (m6.mono hgs),?_⟩
   go_frame
   have m7:=(Below.refl v6.heap.size v6).alloc nle (Obj.cells #[VU L] 29);have m67:=bst m6 m7;refine ik 7 99 (SL v6.heap.size 1 1) (w':=v6.alloc (Obj.cells #[VU L] 29)) rfl (fun _=>HBo.out _ (m67.mono hgs)) ?_ (he:=by go_simp)
   go_frame
   have O7:=aj HO.out m67;have W7:RowC (v6.alloc (Obj.cells #[VU L] 29)) (some (AD v6.heap.size 0)) 1 1 (cF [L]):=(OwnC.new 29 1 v6 (cF [L]) 1 (by rfl) (by decide)).row;have s7:=m67.size;refine qV 8 100 (by kernel_rfl) rfl (by kernel_rfl) (by kernel_rfl) (.tmp 93) (.tmp 99) 28 (by kernel_rfl) 29 Tryz.underlying28 (VU 0) 1 8 Tryz.infoU rfl (by decide) v.heap.size (t+1) _ (cF (0::(List.range t).map fun j=>cz zs (31+8*j))) (by kernel_rfl) O7 v6.heap.size 0 1 1 (cF [L]) (by kernel_rfl) (by omega) W7 (qm _) (by omega) (by omega) (by omega) v.heap.size _ brf nle ?_;intro g8 c8 v8 o8 m8;have B8:=HBo.out v8 ((m67.mono hgs).trans m8);refine ⟨fun _=>B8,?_⟩
   go_frame
   refine fw 9 101 (PT hb 1) rfl (.inr B8) ?_ (hQ:=hqp HQp)
   go_frame
   have HSt:Hid ((Instr.storeAt 28 (PT hb 1) (SL g8 (t+1+1) c8)).run Tryz.prog v8=.ok () (v8.setCell (AD hb 1) (SL g8 (t+1+1) c8))):=by
    have h1:=ab B8 1 c1;have h2:=az B8 1;show _=_;go_simp
   refine dO 10 101 100 rfl HSt.out ?_;refine dt ?_;go_wp2_with fail;have hg8:v.heap.size<=g8:=(dK o8 (AD g8 0) rfl).1;refine ⟨⟨t+1,g8,c8,by omega,by go_num,?_,?_,?_⟩,?_⟩
   ·refine aq ?_ 1 _;have hG:=HG.out;exact ⟨m8.os.trans (m67.os.trans hG.os),m8.tape.trans (m67.tape.trans hG.tape),m8.output.trans (m67.output.trans hG.output),by have:=m8.size;omega,fun k hk hne=>(m8.block k hk).trans ((m67.block k (by omega)).trans (hG.block k hk hne))⟩
   ·have e:ak (⟨p.am,p.cm,some (AD g8 0),c8,p.a1,p.c1,p.a2,p.c2,p.a3,p.c3⟩:PtrM) (⟨List.replicate size 0,(0::(List.range (t+1)).map fun j=>cz zs (31+8*j)),pcv,md,smv,mxv,sav,tvv,0,md,0,0,kv⟩:HartM)=(ak (⟨p.am,p.cm,some (AD g 0),c,p.a1,p.c1,p.a2,p.c2,p.a3,p.c3⟩:PtrM) (⟨List.replicate size 0,(0::(List.range t).map fun j=>cz zs (31+8*j)),pcv,md,smv,mxv,sav,tvv,0,md,0,0,kv⟩:HartM)).setIfInBounds 1 (SL g8 (0::(List.range (t+1)).map fun j=>cz zs (31+8*j)).length c8):=rfl;rw [e,HBX.out,show (0::(List.range (t+1)).map fun j=>cz zs (31+8*j)).length=t+1+1 by simp];exact co B8 1 _
   ·have:=OwnC.gb o8 (aq (aw v8 (some hb)) 1 (SL g8 (t+1+1) c8)) (by omega);have e:cF (0::(List.range t).map fun j=>cz zs (31+8*j))++cF [L]=cF (0::(List.range (t+1)).map fun j=>cz zs (31+8*j)):=by
     rw [iF,HLl.out];simp [cF]
    rw [e] at this;exact this
   ·simp [intOf];omega
  ·have ht':t=7:=by omega
   subst ht';have D3:Hid (DecIn w wr hb (⟨p.am,p.cm,some (AD g 0),c,p.a1,p.c1,p.a2,p.c2,p.a3,p.c3⟩:PtrM) (⟨List.replicate size 0,(0::(List.range 7).map fun j=>cz zs (31+8*j)),pcv,md,smv,mxv,sav,tvv,0,md,0,0,kv⟩:HartM)):=HD.out.gb HG.out HBx.out ⟨rfl,rfl,rfl⟩ ⟨rfl,rfl,rfl,rfl,rfl,rfl,rfl⟩;clear c1;go_upto_region 26 with fail;obtain ⟨cnt,hcnt,hcb⟩:∃cnt:Nat,atM zs 87=cnt∧cnt<=255:=⟨(atM zs 87).toNat,by have:=HAb.out 87;omega,by have:=HAb.out 87;omega⟩;have HCn:Hid _:=hcnt;clear hcnt;go_wp2_with fail;refine (HAt.out 87 wr (by omega) hwr).mono ?_;rintro e v' ⟨rfl,hv'⟩;rw [hv',HCn.out];clear hv' v';rw [HCn.out,Int.toNat_natCast] at HH2;obtain ⟨gm,cm,ham⟩:∃gm cm,p.am=some (AD gm 0)∧p.cm=cm:=by
    rcases D3.out.mem.2 with ⟨h1,h2⟩ | ⟨gm,cm,cur,h1,_⟩
    ·exfalso;rw [List.length_replicate] at h2;omega
    ·simp only [Value.slice.injEq] at h1;exact ⟨gm,cm,h1.1,h1.2.2⟩
   obtain ⟨ham,rfl⟩:=ham;have HAm:Hid _:=ham;have OM:Hid (OwnC 5 1 wr (hb+1) gm size p.cm (ex (List.replicate size 0))):=by
    have:=D3.out.mem;simp only [List.length_replicate] at this;rw [ham] at this;exact this
   clear ham;have hgm:=(dK OM.out (AD gm 0) rfl);obtain ⟨hgm1,hgm2⟩:=hgm;simp only at hgm1 hgm2;go_wp2_with fail;generalize wr=v3 at *;go_loopw [8,9] (fun iv rv wr=>∃(r i:Nat) (mem:List Int),iv=VI i∧rv=VI r∧r<=255∧i+258*r<=65878∧jc zs cnt 88 (List.replicate size 0)=jc zs r i mem∧mem.length=size∧(∀z∈mem,0<=z∧z<=255)∧OwnC 5 1 wr (hb+1) gm size p.cm (ex mem)∧v3.grownBy wr (some gm)) (fun _ rv _=>(intOf rv).toNat)
   case atStart=>exact ⟨cnt,88,_,rfl,rfl,hcb,by omega,rfl,List.length_replicate,fun z hz=>by rw [(List.mem_replicate.1 hz).2];omega,OM.out,aw _ _⟩
   case round=>
    clear OM;obtain ⟨r,i,mem,rfl,rfl,hr,hi,hrun,hml,hmb,hOm,hGm⟩:=hrel;have HRun:Hid _:=hrun;have HMb:Hid _:=hmb;have HOm:Hid _:=hOm;have HGm:Hid _:=hGm;have hgs3:=hGm.size;have hwq:Bw w wr:=hwr.trans ⟨hGm.os,hGm.tape,hGm.output,hGm.size,fun k hk=>hGm.block k (by omega) (by simp;omega)⟩;clear hrun hmb hOm hGm;by_cases hr0:0<r
    ·obtain ⟨r',rfl⟩:∃r',r=r'+1:=⟨r-1,by omega⟩;obtain ⟨A,hA⟩:∃A:Nat,rh zs i=A:=⟨_,rfl⟩;obtain ⟨y1,hy1⟩:∃y,atM zs i=y:=⟨_,rfl⟩;obtain ⟨y2,hy2⟩:∃y,atM zs (i+1)=y:=⟨_,rfl⟩;obtain ⟨m,hm⟩:∃m:Nat,atM zs (i+2)=m:=⟨(atM zs (i+2)).toNat,by have:=HAb.out (i+2);omega⟩;have b1:=HAb.out i;have b2:=HAb.out (i+1);have b3:=HAb.out (i+2);rw [hy1] at b1;rw [hy2] at b2;rw [hm] at b3;have hAy:y1+256*y2=(A:Int):=by rw [<-hA];unfold rh;rw [hy1,hy2];omega
     have hA2:A<=65535:=by omega
     have hm2:m<=255:=by omega
     have HA:Hid _:=hA;have Hy1:Hid _:=hy1;have Hy2:Hid _:=hy2;have Hm:Hid _:=hm;clear hA hy1 hy2 hm;obtain ⟨b11,b12⟩:=b1;obtain ⟨b21,b22⟩:=b2;clear b3;go_upto_region 29 with fail;go_wp2_with fail;refine (HAt.out i wr (by omega) hwq).mono ?_;rintro e v' ⟨rfl,hv'⟩;rw [hv',Hy1.out];clear hv' v';go_wp2_with fail;refine (HAt.out (i+1) wr (by omega) hwq).mono ?_;rintro e v' ⟨rfl,hv'⟩;rw [hv',Hy2.out];clear hv' v';go_upto_region 30 with fail;go_wp2_with fail;refine (HAt.out (i+2) wr (by omega) hwq).mono ?_;rintro e v' ⟨rfl,hv'⟩;rw [hv',Hm.out];clear hv' v';go_upto_region 32 with fail;clear b11 b12 b21 b22;go_wp2_with fail;generalize wr=vq at *;go_loopw [12] (fun kv wr=>∃(k:Nat) (mk:List Int),kv=VI k∧k<=m∧lM zs m (i+3) A mem=lM zs (m-k) (i+3+k) (A+k) mk∧mk.length=size∧(∀z∈mk,0<=z∧z<=255)∧OwnC 5 1 wr (hb+1) gm size p.cm (ex mk)∧v3.grownBy wr (some gm)) (fun kv _=>m-(intOf kv).toNat)
     case atStart=>exact ⟨0,mem,rfl,Nat.zero_le _,rfl,hml,HMb.out,HOm.out,HGm.out⟩
     case round=>
      clear HOm HGm hwq hgs3;obtain ⟨k,mk,rfl,hk,hlay,hmkl,hmkb,hOk,hGk⟩:=hrel;have HLay:Hid _:=hlay;have HMk:Hid _:=hmkb;have HOk:Hid _:=hOk;have HGk:Hid _:=hGk;have hgs4:=hGk.size;have hwk:Bw w wr:=hwr.trans ⟨hGk.os,hGk.tape,hGk.output,hGk.size,fun j hj=>hGk.block j (by omega) (by simp;omega)⟩;clear hlay hmkb hOk hGk;by_cases hkm:k<m
      ·by_cases hAk:A+k<size
       ·go_upto_region 36 with fail;obtain ⟨z,hz⟩:∃z,atM zs (i+3+k)=z:=⟨_,rfl⟩;have HZ:Hid _:=hz;have bz:=HAb.out (i+3+k);rw [hz] at bz;obtain ⟨hz1,hz2⟩:=bz;clear hz;have HBk:Hid (wr.heap[hb]?=some (.cells (ak (⟨p.am,p.cm,some (AD g 0),c,p.a1,p.c1,p.a2,p.c2,p.a3,p.c3⟩:PtrM) (⟨List.replicate size 0,(0::(List.range 7).map fun j=>cz zs (31+8*j)),pcv,md,smv,mxv,sav,tvv,0,md,0,0,kv⟩:HartM)) 43 (0,0))):=aB D3.out.box HGk.out (by omega);have c0:(ak (⟨p.am,p.cm,some (AD g 0),c,p.a1,p.c1,p.a2,p.c2,p.a3,p.c3⟩:PtrM) (⟨List.replicate size 0,(0::(List.range 7).map fun j=>cz zs (31+8*j)),pcv,md,smv,mxv,sav,tvv,0,md,0,0,kv⟩:HartM))[0]?=some (SL gm size p.cm):=by
         show some (Value.slice p.am (List.replicate size (0:Int)).length p.cm)=_;rw [HAm.out,List.length_replicate]
        generalize ak (⟨p.am,p.cm,some (AD g 0),c,p.a1,p.c1,p.a2,p.c2,p.a3,p.c3⟩:PtrM) (⟨List.replicate size 0,(0::(List.range 7).map fun j=>cz zs (31+8*j)),pcv,md,smv,mxv,sav,tvv,0,md,0,0,kv⟩:HartM)=BX at HBk c0;have HL0:Hid (∀u:World,u.heap[hb]?=some (.cells BX 43 (0,0))->(Instr.loadAt 22 (PT hb 0)).run Tryz.prog u=.ok (SL gm size p.cm) u):=fun u hu=>by
         have h1:=ab hu 0 c0;go_simp
        have hF:wr.drew.heap[hb]?=some (.cells BX 43 (0,0)):=HBk.out;have OD:Hid (OwnC 5 1 wr.drew (hb+1) gm size p.cm (ex mk)):=ky HOk.out;refine aN (fun u=>u.heap[hb]?=some (.cells BX 43 (0,0))) 12 ?_;refine ax 0 133 (PT hb 0) rfl hF ?_ (hQ:=hqp HQp)
        go_frame
        refine ax 1 134 (SL gm size p.cm) rfl hF ?_ (hQ:=hqp HQp) (hy:=fun u hu=>aU rfl (HL0.out u hu));refine ax 2 135 (VI (A:Nat)) rfl hF ?_ (hQ:=hqp HQp);refine ax 3 136 (VI (k:Nat)) rfl hF ?_ (hQ:=hqp HQp)
        go_frame
        refine ax 4 137 (VI ((A+k:Nat):Int)) rfl hF ?_ (hQ:=hqp HQp) (hy:=fun u hu=>(by go_simp;try exact (IntKind.wrap_i64 _).trans (by omega)));refine ax 5 138 (.slice a len cap) rfl hF ?_ (hQ:=hqp HQp);refine ax 6 139 (VI ((i:Int)+3)) rfl hF ?_ (hQ:=hqp HQp);refine ax 7 140 (VI (k:Nat)) rfl hF ?_ (hQ:=hqp HQp)
        go_frame
        refine ax 8 141 (VI ((i+3+k:Nat):Int)) rfl hF ?_ (hQ:=hqp HQp) (hy:=fun u hu=>(by go_simp;try exact (IntKind.wrap_i64 _).trans (by omega)))
        go_frame
        refine dN 9 142 rfl (f:=41) (args:=#[.slice a len cap,VI ((i+3+k:Nat):Int)]) ?_;refine (HAt.out (i+3+k) wr.drew (by omega) hwk.drew).mono ?_;rintro e v' ⟨rfl,hv'⟩;rw [hv',HZ.out];clear hv' v';refine ⟨_,rfl,fun _=>hF,?_⟩
        go_frame
        refine fw 10 143 (.int .u8 z) rfl (.inr hF) ?_ (hQ:=hqp HQp) (hy:=fun u=>(by go_simp;show z%256=z;omega))
        go_frame
        refine fw 11 144 (.pointer (some ⟨gm,A+k,none⟩)) rfl (.inr hF) ?_ (hQ:=hqp HQp) (hy:=fun u=>(by have h1:=hAk;go_simp;rw [if_pos (by omega),show ((A:Int)+(k:Int)).toNat=A+k by omega]))
        go_frame
        have HSt:Hid ((Instr.storeAt 5 (.pointer (some ⟨gm,A+k,none⟩)) (.int .u8 z)).run Tryz.prog wr.drew=.ok () (wr.drew.setCell ⟨gm,A+k,none⟩ (.int .u8 z))):=by
         have h1:=aE OD.out (A+k) (.int .u8 (mk[A+k]?.getD 0)) (by
          have:A+k<mk.length:=by omega
          simp [ex,this])
         have h2:=aQ OD.out (A+k);show _=_;go_simp
        refine dO 12 144 143 rfl HSt.out ?_;refine dt ?_;have OS:Hid (OwnC 5 1 (wr.drew.setCell ⟨gm,A+k,none⟩ (.int .u8 z)) (hb+1) gm size p.cm (ex (mk.set (A+k) z))):=by
         have:=aF OD.out (A+k) (.int .u8 z);rw [show (ex mk).set (A+k) (.int .u8 z)=ex (mk.set (A+k) z) by simp [ex,List.map_set]] at this;exact this
        have GS:Hid _:=aq (dY HGk.out (DN (r:=some gm) ((Below.refl wr.heap.size wr).drew))) (A+k) (.int .u8 z);clear HSt OD hF HL0 HBk;go_wp2_with fail;refine ⟨⟨k+1,mk.set (A+k) z,by go_num,by omega,?_,by rw [List.length_set];exact hmkl,?_,OS.out,GS.out⟩,?_⟩
        ·rw [HLay.out,show m-k=(m-(k+1))+1 by omega,lM,if_pos (by omega),HZ.out];rfl
        ·intro y hy;rcases List.mem_or_eq_of_mem_set hy with h | h
         ·exact HMk.out y h
         ·subst h;exact ⟨hz1,hz2⟩
        ·simp [intOf];omega
       ·go_wp2_with fail;refine ⟨⟨k+1,mk,by go_num,by omega,?_,hmkl,HMk.out,HOk.out,HGk.out⟩,?_⟩
        ·rw [HLay.out,show m-k=(m-(k+1))+1 by omega,lM,if_neg (by omega)];rfl
        ·simp [intOf];omega
      ·have hkm':k=m:=by omega
       subst hkm';go_wp2_with fail;refine ⟨⟨r',i+3+k,mk,by go_num,by go_num,by omega,by omega,?_,hmkl,HMk.out,HOk.out,HGk.out⟩,?_⟩
       ·rw [HRun.out,jc,HA.out,Hm.out,Int.toNat_natCast,HLay.out,Nat.sub_self,lM]
       ·simp [intOf]
    ·have hr0':r=0:=by omega
     subst hr0';have hrm:jc zs cnt 88 (List.replicate size 0)=(mem,i):=HRun.out;go_upto_region 38 with fail;have hrg:(0::(List.range 7).map fun j=>cz zs (31+8*j))=jK zs:=rfl;have hgv:gm<v.heap.size:=by
      have hm0:=HD.out.mem;rw [HAm.out] at hm0;exact (dK hm0 (AD gm 0) rfl).2
     have hg1:v.heap.size<=g:=(dK HO.out (AD g 0) rfl).1;have HE:DecEnd w wr hb (⟨p.am,p.cm,some (AD g 0),c,p.a1,p.c1,p.a2,p.c2,p.a3,p.c3⟩:PtrM) (⟨mem,jK zs,pcv,md,smv,mxv,sav,tvv,0,md,0,0,kv⟩:HartM):=by
      have hG:=HGm.out;refine ⟨?_,aB D3.out.res hG (by omega),hlo,?_,HMb.out,?_,?_,hwq⟩
      ·have:=aB D3.out.box hG (by omega);rw [hrg] at this;have e:ak (⟨p.am,p.cm,some (AD g 0),c,p.a1,p.c1,p.a2,p.c2,p.a3,p.c3⟩:PtrM) (⟨List.replicate size 0,(jK zs),pcv,md,smv,mxv,sav,tvv,0,md,0,0,kv⟩:HartM)=ak (⟨p.am,p.cm,some (AD g 0),c,p.a1,p.c1,p.a2,p.c2,p.a3,p.c3⟩:PtrM) (⟨mem,jK zs,pcv,md,smv,mxv,sav,tvv,0,md,0,0,kv⟩:HartM):=by
        unfold ak;simp only [List.length_replicate,hml]
       rw [<-e];exact this
      ·simp only [HAm.out,hml];exact HOm.out
      ·have:=OwnC.gb HO.out hG (by omega);rw [hrg] at this;exact aJ this (by omega)
      ·obtain ⟨x,h1,h2,h3⟩:=D3.out.ks;have hb3:=h3.trans ⟨hG.os,hG.tape,hG.output,hG.size,fun k hk=>hG.block k (by omega) (by simp;omega)⟩;rw [<-h1] at hb3;exact h2.keep hb3
     refine HH2.out wr (⟨p.am,p.cm,some (AD g 0),c,p.a1,p.c1,p.a2,p.c2,p.a3,p.c3⟩:PtrM) mem i _ _ _ _ _ _ _ _ _ _ _ _ _ _ _ _ _ _ _ _ _ _ _ _ _ _ _ _ _ _ _ _ _ _ _ _ _ _ _ _ _ _ _ _ _ _ _ _ _ _ _ _ _ _ _ _ _ _ _ _ _ _ _ _ _ _ _ _ _ _ _ _ _ _ _ _ _ _ _ _ _ _ _ _ _ _ _ _ _ _ _ _ _ _ _ _ _ _ _ _ _ _ _ _ _ _ _ _ _ _ _ _ _ _ _ _ _ _ _ _ _ _ _ _ _ _ _ _ _ _ _ _ _ _ _ _ _ _ _ HE hml (by omega) hrm _ (by assumption)
end
theorem Be {e:TypeId} {size base n:Nat} {w w':World} {s t:Value} {cs:List Value} (h:w.ownsRow base e size s n cs) (hg:w.grownBy w' t.ownBlock) (ha:∀g,s.ownBlock=some g->t.ownBlock=some g->False):w'.ownsRow base e size s n cs:=by
 refine h.kept hg ?_;cases hs:s.ownBlock with
 | none=>exact .inl rfl
 | some g=>exact .inr fun he=>ha g hs he.symm
theorem mU {w w':World} {g:Nat} {o:Obj} {s:Value} (h:w.heap[g]?=some o) (hg:w.grownBy w' s.ownBlock) (hn:s.ownBlock≠some g):w'.heap[g]?=some o:=
 (hg.block g (hpl h) (fun e=>hn e.symm)).trans h
theorem zq {e e':TypeId} {size size' base base' n n':Nat} {w:World} {s s':Value} {cs cs':List Value} (h:w.ownsRow base e size s n cs) (h':w.ownsRow base' e' size' s' n' cs') (he:e≠e'):∀g,s.ownBlock=some g->s'.ownBlock=some g->False:=by
 intro g h1 h2;rcases h'.2 with ⟨h3,_⟩ | ⟨g',cap,cur,h3,_,h4,_⟩
 ·rw [h3] at h2;simp [Value.ownBlock] at h2
 ·rw [h3] at h2;simp only [Value.ownBlock] at h2;have hg:=Option.some.inj h2;subst hg;exact eg h h4 (Ne.symm he) h1
theorem xH (v:World) (V:Array Value) (hs:V.size=22) (h1:V.all (·.oneCell')=true):
 ∃v',(Instr.storeAt 46 (PT v.heap.size 0) (.agg V)).run Tryz.prog (v.alloc (Obj.cells fD 46))=.ok () v'∧v'.heap[v.heap.size]?=some (.cells V 46 (0,0))∧v.heap.size<v'.heap.size∧Bw v v':=by
 have a:=cw v fD 46;refine ⟨_,bq (P:=Tryz.prog) (T:=46) a.1 (by rw [hs];exact lC) (by rw [hs];rfl) h1,aT a.1 (by rw [hs];rfl),?_,?_⟩
 ·rw [cV,a.2.1];exact Nat.lt_succ_self _
 ·exact aS nle _ _ _ a.2.2
theorem uz {P:Program} {ops:Array Oper} {Q:Exit->Act->World->Prop} {rest:List Oper} {a:Act} {d:Tmp} {T ty:TypeId} {x:Operand} {pos:String} {af:Array Edge} {g:Option (Nat × Bool)} {w:World} {b o:Nat} {V:Value} (hw:Region.wanted { dst:=some d,op:=.load T x,type:=ty,pos:=pos,after:=af,guard:=g } (yielded ops a.tmps)=true) (hx:a.eval x=PT b o) (hl:(Instr.loadAt T (PT b o)).run P w=.ok V w)
 (h:wpList P ops Q rest (a.put (some d) V) w):wpList P ops Q ({ dst:=some d,op:=.load T x,type:=ty,pos:=pos,after:=af,guard:=g }::rest) a w:=
 wpList_step fun K hK=>by
  rw [if_pos hw];unfold Oper.wp execOp;simp only [hx,Sem.run_bind,hl,Result.andThen_ok,Sem.run_pure];exact hK _ _ h
theorem uA (v:World) (V:Array Value) (hs:V.size=21) (h1:V.all (·.oneCell')=true):
 ∃v',(Instr.storeAt 43 (PT v.heap.size 0) (.agg V)).run Tryz.prog (v.alloc (Obj.cells fN 43))=.ok () v'∧v'.heap[v.heap.size]?=some (.cells V 43 (0,0))∧v.heap.size<v'.heap.size∧Bw v v':=by
 have a:=cw v fN 43;refine ⟨_,bq (P:=Tryz.prog) (T:=43) a.1 (by rw [hs];exact eM) (by rw [hs];rfl) h1,aT a.1 (by rw [hs];rfl),?_,?_⟩
 ·rw [cV,a.2.1];exact Nat.lt_succ_self _
 ·exact aS nle _ _ _ a.2.2
theorem uB {v:World} {g:Nat} {V:Array Value} (hs:V.size=21) (h:v.heap[g]?=some (.cells V 43 (0,0))):(Instr.loadAt 43 (PT g 0)).run Tryz.prog v=.ok (.agg V) v:=
 bf h Tryz.underlying43 rfl (by rw [hs];exact eM)
section
attribute [local go_sem ↓] Go.wp_at_zero Go.wp_at_succ
def iX (h:HartM):Prop:=((h.mem.length:Int)%64=0∧64<=(h.mem.length:Int)∧(h.mem.length:Int)<=4096)∧(h.regs.length:Int)=8∧h.regs[0]?.getD 0=0∧(0<=h.mode∧h.mode<=2)∧(0<=h.emode∧h.emode<=2)∧dh h.satp=true∧h.tvec%4=0∧(0<=h.cause∧h.cause<=63)
theorem iS (h:HartM):(fh h.mem.length && iN h)=true↔iX h:=by
 simp only [fh,iN,iX,Bool.and_eq_true,decide_eq_true_eq,beq_iff_eq];constructor
 ·rintro ⟨⟨a,b,c⟩,⟨⟨⟨⟨⟨⟨d,e⟩,f⟩,g⟩,i⟩,j⟩,k⟩⟩;exact ⟨⟨by omega,by omega,by omega⟩,by omega,e,f,g,i,j,k⟩
 ·rintro ⟨⟨a,b,c⟩,d,e,f,g,i,j,k⟩;exact ⟨⟨by omega,by omega,by omega⟩,⟨⟨⟨⟨⟨⟨by omega,e⟩,f⟩,g⟩,i⟩,j⟩,k⟩⟩
theorem uk {w:World} {a:Option Addr} {xs:List Int} (h:RowC w a xs.length 1 (cF xs)) (h8:xs.length=8):∃b off,a=some (AD b off)∧b<w.heap.size∧w.cell? (AD b off)=some (VU (xs[0]?.getD 0)):=by
 rcases h.2 with h0 | ⟨b,off,rfl,hlt,hc⟩
 ·omega
 ·refine ⟨b,off,rfl,hlt,?_⟩;have:=hc 0 (VU (xs[0]?.getD 0)) (by
   have:0<xs.length:=by omega
   simp [cF,geg this])
  simpa using this
theorem rq (p:PtrM) (h:HartM) (w:World) (hi:HartIn w p h) (s0:0<=h.satp) (s1:h.satp<=18446744073709551615) (t0:0<=h.tvec) (h8:h.regs.length=8):
 Calls Tryz.prog 48 #[.agg (ak p h)] w fun e w'=>e=.returned (.bool (gI h))∧Bw w w':=by
 have F:=cw w (ak p h) 43;have A0:Hid ((ak p h)[0]?=some (.slice p.am h.mem.length p.cm)):=by show _=_;rfl
 have A1:Hid ((ak p h)[1]?=some (.slice p.ar h.regs.length p.cr)):=by show _=_;rfl
 have A3:Hid ((ak p h)[3]?=some (VI h.mode)):=by show _=_;rfl
 have A6:Hid ((ak p h)[6]?=some (VU h.satp)):=by show _=_;rfl
 have A7:Hid ((ak p h)[7]?=some (VU h.tvec)):=by show _=_;rfl
 have A9:Hid ((ak p h)[9]?=some (VI h.emode)):=by show _=_;rfl
 have A10:Hid ((ak p h)[10]?=some (VI h.cause)):=by show _=_;rfl
 have KP:Hid (((ak p h).toList.drop 12).take 9=(kA p h.k).toList):=by show _=_;rfl
 obtain ⟨R,hR⟩:∃R,gI h=R:=⟨_,rfl⟩;have HF:Hid (R=true->iX h∧bJ h.k=true):=fun hr=>by
  rw [<-hR,gI,Bool.and_eq_true] at hr;exact ⟨(iS h).1 hr.1,hr.2⟩
 have HT:Hid (iX h->bJ h.k=true->R=true):=fun h1 h2=>by
  rw [<-hR,gI,Bool.and_eq_true];exact ⟨(iS h).2 h1,h2⟩
 unfold iX at HF HT;rw [hR];have S1:=hid fun u=>jl h.satp u s0 s1;have S2:=hid fun u (hu:Bw w u)=>ed _ h.k u (hi.ks.keep hu);obtain ⟨rb,ro,hra,rlt,rc⟩:=uk hi.regs h8;have g8:(h.regs.length:Int)=8:=by omega
 rw [hra] at A1;clear hi hR h8;generalize ak p h=A at *;generalize h.mem.length=n at *;generalize h.regs.length=m at *;generalize h.regs[0]?.getD 0=r0 at *;go_enter Tryz.func48,Tryz.ntmps48;go_upto_region 1 with fail;generalize (w.alloc (Obj.cells A 43))=u0 at F |-;obtain ⟨f1,hz,nB⟩:=F;have H1:Hid _:=f1;clear f1;have m8:m=8:=by omega
 subst m8;have x0:=(nB.cell (by exact rlt)).trans rc;clear rc;have c0:=ab H1.out 0 A0.out;have c1:=ab H1.out 1 A1.out;have c3:=ab H1.out 3 A3.out;have c6:=ab H1.out 6 A6.out;have c7:=ab H1.out 7 A7.out;have c9:=ab H1.out 9 A9.out;have c10:=ab H1.out 10 A10.out;go_wp2_with fail
 any_goals (
  go_ret;refine ⟨?_,nB⟩;have hq:R=false:=(by
   cases R with
   | false=>rfl
   | true=>
    obtain ⟨⟨⟨q1,q2,q3⟩,q4,q5,⟨q6,q7⟩,⟨q8,q9⟩,q10,q11,⟨q12,q13⟩⟩,q14⟩:=HF.out rfl;first
    | (exfalso;omega)
    | (rw [hs] at q10;cases q10)
    | (rw [hs] at q14;cases q14))
  subst hq;exact rfl)
 refine (S1.out u0).mono ?_;rintro e u1 ⟨rfl,k1⟩;replace nB:=bst nB k1;replace H1:=ah H1 k1;clear c0 c1 c3 c6 c7 c9 c10 x0 k1;have c7:=ab H1.out 7 A7.out;have c10:=ab H1.out 10 A10.out;have J1:Hid _:=de (P:=Tryz.prog) (T:=41) H1.out Tryz.underlying41 rfl (o:=12) (kA p h.k).toList kI KP.out rfl;rw [show (kA p h.k).toList.toArray=kA p h.k from rfl] at J1;generalize kA p h.k=KA at *;rcases Bool.eq_false_or_eq_true (dh h.satp) with hs | hs
 rotate_left 1
 ·rw [hs];go_wp2_with fail
  any_goals (
   go_ret;refine ⟨?_,nB⟩;have hq:R=false:=(by
    cases R with
    | false=>rfl
    | true=>
     obtain ⟨⟨⟨q1,q2,q3⟩,q4,q5,⟨q6,q7⟩,⟨q8,q9⟩,q10,q11,⟨q12,q13⟩⟩,q14⟩:=HF.out rfl;first
     | (exfalso;omega)
     | (rw [hs] at q10;cases q10)
     | (rw [hs] at q14;cases q14))
   subst hq;exact rfl)
 have HS:=hid hs;rw [hs];clear hs;go_wp2_with (first | ((with_reducible refine uz ?_ ?_ J1.out ?_);(exact rfl);(exact rfl)))
 any_goals (
  go_ret;refine ⟨?_,nB⟩;have hq:R=false:=(by
   cases R with
   | false=>rfl
   | true=>
    obtain ⟨⟨⟨q1,q2,q3⟩,q4,q5,⟨q6,q7⟩,⟨q8,q9⟩,q10,q11,⟨q12,q13⟩⟩,q14⟩:=HF.out rfl;first
    | (exfalso;omega)
    | (rw [hs] at q10;cases q10)
    | (rw [hs] at q14;cases q14))
  subst hq;exact rfl)
 refine (S2.out u1 nB).mono ?_;rintro e u2 ⟨rfl,k2⟩;replace nB:=bst nB k2;clear c7 c10 k2 H1 J1;have HG:Hid (bJ h.k=R):=by
  show _=_;rcases Bool.eq_false_or_eq_true (bJ h.k) with hg | hg
  ·rw [hg];exact (HT.out ⟨⟨by assumption,by assumption,by assumption⟩,by omega,by omega,⟨by omega,by omega⟩,⟨by omega,by omega⟩,HS.out,by omega,⟨by omega,by omega⟩⟩ hg).symm
  ·rw [hg];cases R with
   | false=>rfl
   | true=>have:=(HF.out rfl).2;rw [hg] at this;cases this
 rw [HG.out];go_wp2;go_ret;exact ⟨rfl,nB⟩
theorem rr (p:PtrM) (h:HartM) (w:World) (hi:HartIn w p h) (s0:0<=h.satp) (s1:h.satp<=18446744073709551615) (t0:0<=h.tvec) (h8:¬h.regs.length=8):
 Calls Tryz.prog 48 #[.agg (ak p h)] w fun e w'=>e=.returned (.bool (gI h))∧Bw w w':=by
 have F:=cw w (ak p h) 43;have A0:Hid ((ak p h)[0]?=some (.slice p.am h.mem.length p.cm)):=by show _=_;rfl
 have A1:Hid ((ak p h)[1]?=some (.slice p.ar h.regs.length p.cr)):=by show _=_;rfl
 have A3:Hid ((ak p h)[3]?=some (VI h.mode)):=by show _=_;rfl
 have A6:Hid ((ak p h)[6]?=some (VU h.satp)):=by show _=_;rfl
 have A7:Hid ((ak p h)[7]?=some (VU h.tvec)):=by show _=_;rfl
 have A9:Hid ((ak p h)[9]?=some (VI h.emode)):=by show _=_;rfl
 have A10:Hid ((ak p h)[10]?=some (VI h.cause)):=by show _=_;rfl
 have KP:Hid (((ak p h).toList.drop 12).take 9=(kA p h.k).toList):=by show _=_;rfl
 obtain ⟨R,hR⟩:∃R,gI h=R:=⟨_,rfl⟩;have HF:Hid (R=true->iX h∧bJ h.k=true):=fun hr=>by
  rw [<-hR,gI,Bool.and_eq_true] at hr;exact ⟨(iS h).1 hr.1,hr.2⟩
 have HT:Hid (iX h->bJ h.k=true->R=true):=fun h1 h2=>by
  rw [<-hR,gI,Bool.and_eq_true];exact ⟨(iS h).2 h1,h2⟩
 unfold iX at HF HT;rw [hR];have S1:=hid fun u=>jl h.satp u s0 s1;have S2:=hid fun u (hu:Bw w u)=>ed _ h.k u (hi.ks.keep hu);have g8:¬(h.regs.length:Int)=8:=by omega
 clear hi hR h8;generalize ak p h=A at *;generalize h.mem.length=n at *;generalize h.regs.length=m at *;generalize h.regs[0]?.getD 0=r0 at *;go_enter Tryz.func48,Tryz.ntmps48;go_upto_region 1 with fail;generalize (w.alloc (Obj.cells A 43))=u0 at F |-;obtain ⟨f1,hz,nB⟩:=F;have H1:Hid _:=f1;clear f1;have c0:=ab H1.out 0 A0.out;have c1:=ab H1.out 1 A1.out;have c3:=ab H1.out 3 A3.out;have c6:=ab H1.out 6 A6.out;have c7:=ab H1.out 7 A7.out;have c9:=ab H1.out 9 A9.out;have c10:=ab H1.out 10 A10.out;go_wp2_with fail
 any_goals (
  go_ret;refine ⟨?_,nB⟩;have hq:R=false:=(by
   cases R with
   | false=>rfl
   | true=>
    obtain ⟨⟨⟨q1,q2,q3⟩,q4,q5,⟨q6,q7⟩,⟨q8,q9⟩,q10,q11,⟨q12,q13⟩⟩,q14⟩:=HF.out rfl;first
    | (exfalso;omega)
    | (rw [hs] at q10;cases q10)
    | (rw [hs] at q14;cases q14))
  subst hq;exact rfl)
theorem pC (p:PtrM) (h:HartM) (w:World) (hi:HartIn w p h) (s0:0<=h.satp) (s1:h.satp<=18446744073709551615) (t0:0<=h.tvec):
 Calls Tryz.prog 48 #[.agg (ak p h)] w fun e w'=>e=.returned (.bool (gI h))∧Bw w w':=by
 by_cases h8:h.regs.length=8
 ·exact rq p h w hi s0 s1 t0 h8
 ·exact rr p h w hi s0 s1 t0 h8
theorem nZ (n:Nat) (w:World) (hl:n<=1048576):Calls Tryz.prog 109 #[VI n] w fun e w'=>e=.returned (.bool (fh n))∧w'=w:=by
 obtain ⟨R,hR⟩:∃R,fh n=R:=⟨_,rfl⟩;have HF:Hid (R=true↔((n:Int)%64=0∧64<=(n:Int)∧(n:Int)<=4096)):=by
  show _↔_;rw [<-hR,fh,decide_eq_true_eq];omega
 rw [hR];clear hR;go_enter Tryz.func109,Tryz.ntmps109;go_wp2_with fail;all_goals (
  go_ret;refine ⟨?_,rfl⟩;have q:=HF.out;cases R with
  | false=>simp at q |- <;> omega
  | true=>simp at q |- <;> omega)
end
section
attribute [local go_sem ↓] Go.wp_at_zero Go.wp_at_succ
def nI (b:Bool) (c t:Int) (p:PtrM) (h:HartM):Array Value:=#[.bool b,VI c,VU t,.slice p.am h.mem.length p.cm,.slice p.ar h.regs.length p.cr,VU h.pc,VI h.mode,.bool h.sum,.bool h.mxr,VU h.satp,VU h.tvec,VU h.epc,VI h.emode,VI h.cause,VU h.tval,VI h.k.i.sets,VI h.k.i.ways,.slice p.a1 h.k.i.es.length p.c1,VI h.k.d.sets,VI h.k.d.ways,.slice p.a2 h.k.d.es.length p.c2,VI h.k.p.sets,VI h.k.p.ways,.slice p.a3 h.k.p.es.length p.c3]
abbrev wJ:Array Value:=#[.bool false,VI 0,VU 0,SN,SN,VU 0,VI 0,.bool false,.bool false,VU 0,VU 0,VU 0,VI 0,VI 0,VU 0,VI 0,VI 0,SN,VI 0,VI 0,SN,VI 0,VI 0,SN]
theorem vo (b:Bool) (c t:Int) (p:PtrM) (h:HartM):(nI b c t p h).all (·.oneCell')=true:=by simp [nI,Value.oneCell']
theorem Ch (p:PtrM) (al:Option Addr) (cl:Nat) (plain:Bool) (pick:Int) (r:RunM):((aM p al cl plain pick r).toList.drop 0).take 21=(ak p r.h).toList:=rfl
theorem Ci:(Tryz.prog.info? 50).map (·.size)=some 24:=by kernel_rfl
theorem wK {plain:Bool} (hO:PlO plain) (p:PtrM) (h:HartM) (pick:Int) (w:World) (hi:HartIn w p h) (hk:HOk h) (hp0:0<=pick) (hp1:pick<=255):
 Calls Tryz.prog 18 #[.agg (ak p h),.bool plain,VI pick] w fun e w'=>(∃q,e=.returned (.agg (nI true (fQ plain pick h).cause (fQ plain pick h).tval q (fQ plain pick h).h))∧HartIn w' q (fQ plain pick h).h∧∀x,some x∈aV q->w.heap.size<=x.block)∧Bw w w':=by
 have CV:Hid (∀u,Bw w u->Calls Tryz.prog 48 #[.agg (ak p h)] u fun e w'=>e=.returned (.bool true)∧Bw u w'):=fun u hu=>by
  have:=pC p h u (hi.keep hu) hk.satp.1 hk.satp.2 hk.tvec.1;rw [hk.valid] at this;exact this
 have CS:=hid fun u (hu:Bw w u)=>zf hO p h pick u (hi.keep hu) hk ⟨hp0,hp1⟩;have SA:(ak p h).size=21:=rfl;clear hi hk;generalize fQ plain pick h=X at *;generalize ak p h=A at *;go_enter Tryz.func18,Tryz.ntmps18;go_upto_region 1 with fail;have F:=jI w A wJ 43 50;generalize (w.alloc (Obj.cells A 43)).alloc (Obj.cells wJ 50)=u0 at F |-;obtain ⟨h3,h6,l1,nB⟩:=F;have lz:w.heap.size+1<u0.heap.size:=by omega
 have H3:Hid _:=h3;have H6:Hid _:=h6;clear h3 h6 l1;have J:Hid _:=bf (P:=Tryz.prog) (T:=43) H3.out Tryz.underlying43 rfl (by rw [SA];exact eM);go_wp2_with (first | ((with_reducible refine ba ?_ J.out ?_);(exact rfl)));refine (CV.out u0 nB).mono ?_;rintro e u1 ⟨rfl,k1⟩;replace nB:=bst nB k1;replace H3:=ah H3 k1;replace H6:=ah H6 k1;replace lz:=ltl lz k1.size;clear k1 J;have J:Hid _:=bf (P:=Tryz.prog) (T:=43) H3.out Tryz.underlying43 rfl (by rw [SA];exact eM);go_wp2_with (first | ((with_reducible refine ba ?_ J.out ?_);(exact rfl)));refine (CS.out u1 nB).mono ?_;rintro e u2 ⟨⟨q,al,cl,rfl,hI,hq,_⟩,k2⟩;replace nB:=bst nB k2;replace H6:=ah H6 k2;have lz2:=ltl lz k2.size;have HI:Hid _:=hI.h;have HQ:Hid (∀x,some x∈aV q->w.heap.size+2<=x.block):=fun x hx=>by have:=hq x hx;omega
 clear k2 J H3 hI hq;have RA:(aM q al cl plain pick X).size=31:=rfl;have RO:=dv q al cl plain pick X;have R23:Hid ((aM q al cl plain pick X)[23]?=some (VI X.cause)):=by show _=_;rfl
 have R24:Hid ((aM q al cl plain pick X)[24]?=some (VU X.tval)):=by show _=_;rfl
 have R0:Hid _:=Ch q al cl plain pick X;generalize aM q al cl plain pick X=RR at *;have a7:=cw u2 eH 61;have HS7:Hid _:=bq (P:=Tryz.prog) (T:=61) (V:=RR) a7.1 (by rw [RA];exact dm) (by rw [RA,aX]) RO;have e7:Hid _:=aT (V:=RR) a7.1 (by rw [RA,aX]);have n7:=aS nle RR.toList 0 _ a7.2.2;have l7:((u2.alloc (Obj.cells eH 61)).setCells u2.heap.size 0 RR.toList).heap.size=u2.heap.size+1:=by rw [cV,a7.2.1]
 go_upto_region 4 with (first | ((with_reducible refine aL ?_ ?_ HS7.out ?_);(exact rfl);(exact rfl)));generalize (u2.alloc (Obj.cells eH 61)).setCells u2.heap.size 0 RR.toList=u3 at e7 n7 l7 |-;replace nB:=bst nB n7;replace H6:=ah H6 n7;replace HI:Hid _:=HI.out.keep n7;have lz3:w.heap.size+1<u3.heap.size:=by omega
 have c23:=ab e7.out 23 R23.out;have c24:=ab e7.out 24 R24.out;have J7:Hid _:=de (P:=Tryz.prog) (T:=43) e7.out Tryz.underlying43 rfl (o:=0) (ak q X.h).toList eM R0.out rfl;rw [show (ak q X.h).toList.toArray=#[.slice q.am X.h.mem.length q.cm,.slice q.ar X.h.regs.length q.cr,VU X.h.pc,VI X.h.mode,.bool X.h.sum,.bool X.h.mxr,VU X.h.satp,VU X.h.tvec,VU X.h.epc,VI X.h.emode,VI X.h.cause,VU X.h.tval,VI X.h.k.i.sets,VI X.h.k.i.ways,.slice q.a1 X.h.k.i.es.length q.c1,VI X.h.k.d.sets,VI X.h.k.d.ways,.slice q.a2 X.h.k.d.es.length q.c2,VI X.h.k.p.sets,VI X.h.k.p.ways,.slice q.a3 X.h.k.p.es.length q.c3] from rfl] at J7;have HS:Hid _:=bq (P:=Tryz.prog) (T:=50) (V:=nI true X.cause X.tval q X.h) H6.out Ci rfl (vo _ _ _ _ _);have e1:=aT (V:=nI true X.cause X.tval q X.h) H6.out rfl;have e2:=aS (show w.heap.size<=w.heap.size+1 by omega) (nI true X.cause X.tval q X.h).toList 0 _ nB;have gS:=aH (w.heap.size+1) (nI true X.cause X.tval q X.h).toList 0 u3 u3 (aw u3 _);clear l7 n7 a7;go_wp2_with (first | ((with_reducible refine ba ?_ J7.out ?_);(exact rfl)) | ((with_reducible refine aL ?_ ?_ HS.out ?_);(exact rfl);(exact rfl)));refine dx (b:=w.heap.size+1) Tryz.results18 rfl (bw (P:=Tryz.prog) e1 Tryz.underlying50 rfl Ci) rfl ?_;refine ⟨⟨q,rfl,HI.out.gb gS (fun x hx=>?_),fun x hx=>?_⟩,e2⟩
 ·have:=HQ.out x hx;omega
 ·have:=HQ.out x hx;omega
end
end Go.Proofs.YtkenjknmfhoppaaGreat
