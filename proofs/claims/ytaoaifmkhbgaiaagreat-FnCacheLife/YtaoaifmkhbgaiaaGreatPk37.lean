import Derived.Test.YtaoaifmkhbgaiaaGreatPk36
import Derived.Test.YtaoaifmkhbgaiaaGreatPk11
namespace Go.Proofs.YtaoaifmkhbgaiaaGreat
open Go.RowKit
set_option linter.unusedVariables false
attribute [local go_sem ↓] Go.wp_at_zero Go.wp_at_succ
def dg (p:PtrM) (pa:Option Addr) (pc:Nat) (h:HartM) (ps:List Int):Array Value:=#[.slice p.am h.mem.length p.cm,.slice p.ar h.regs.length p.cr,.int .u64 h.pc,.int .i64 h.mode,.bool h.sum,.bool h.mxr,.int .u64 h.satp,.int .u64 h.tvec,.int .u64 h.epc,.int .i64 h.emode,.int .i64 h.cause,.int .u64 h.tval,
 .int .i64 h.k.i.sets,.int .i64 h.k.i.ways,.slice p.a1 h.k.i.es.length p.c1,.int .i64 h.k.d.sets,.int .i64 h.k.d.ways,.slice p.a2 h.k.d.es.length p.c2,.int .i64 h.k.p.sets,.int .i64 h.k.p.ways,.slice p.a3 h.k.p.es.length p.c3,.slice pa ps.length pc]
def fN (zs:List Int):List Value:=zs.map (Value.int .i64)
theorem qD (p:PtrM) (pa:Option Addr) (pc:Nat) (h:HartM) (ps:List Int):(dg p pa pc h ps).size=22:=rfl
theorem oo (p:PtrM) (pa:Option Addr) (pc:Nat) (h:HartM) (ps:List Int):(dg p pa pc h ps).all (·.oneCell')=true:=by
 simp [dg,Value.oneCell']
theorem pF:(Tryz.prog.info? 51).map (·.size)=some 22:=by kernel_rfl
theorem iP:fG.size=22:=rfl
theorem zU {v v1:World} {r:Option Nat} (h:Below v.heap.size v v1):v.grownBy v1 r:=⟨h.os,h.tape,h.output,h.size,fun k hk _=>h.block k hk⟩
theorem DecIn.gb {w u v:World} {hb:Nat} {p p':PtrM} {h h':HartM} (d:DecIn w u hb p h) (g:u.grownBy v (some hb)) (hx:v.heap[hb]?=some (.cells (aD p' h') 48 (0,0))) (hm:p'.am=p.am∧p'.cm=p.cm∧h'.mem=h.mem) (hk:p'.a1=p.a1∧p'.c1=p.c1∧p'.a2=p.a2∧p'.c2=p.c2∧p'.a3=p.a3∧p'.c3=p.c3∧h'.k=h.k):DecIn w v hb p' h':=by
 obtain ⟨x,h1,h2,h3⟩:=d.ks;have hl:=d.low;have hl2:=d.lt;refine ⟨hx,av d.res g (by omega),d.low,?_,⟨x,h1,?_,h3.trans ⟨g.os,g.tape,g.output,g.size,fun k hk=>g.block k (by omega) (by simp;omega)⟩⟩,d.below.trans ⟨g.os,g.tape,g.output,g.size,fun k hk=>g.block k (by omega) (by simp;omega)⟩⟩
 ·rw [hm.1,hm.2.1,hm.2.2];exact bT d.mem d.box (by decide) g
 ·unfold KRows at h2 ⊢;rw [hk.1,hk.2.1,hk.2.2.1,hk.2.2.2.1,hk.2.2.2.2.1,hk.2.2.2.2.2.1,hk.2.2.2.2.2.2];exact h2
theorem Tryz.infoI:(Tryz.prog.info? 2).map (fun i=>(i.zero,i.size,i.bytes))=some (some (.int .i64 0),1,8):=by kernel_rfl
def mN (w:World) (h:HartM) (ps:List Int):Ending→World→Prop:=fun e w'=>(∃p pa pc,e=.returned (.agg (dg p pa pc h ps))∧HartIn w' p h∧(∀q,some q∈aQ p→w.heap.size≤q.block)∧w'.ownsRow w.heap.size 2 1 (.slice pa ps.length pc) ps.length (fN ps))∧Below w.heap.size w w'
structure DecEnd (w v:World) (hb:Nat) (q:PtrM) (h:HartM):Prop where
 box:v.heap[hb]?=some (.cells (aD q h) 48 (0,0))
 res:v.heap[w.heap.size]?=some (.cells fG 51 (0,0))
 low:w.heap.size<hb
 mem:v.ownsRow (hb+1) 5 1 (.slice q.am h.mem.length q.cm) h.mem.length (ig h.mem)
 memb:∀z∈h.mem,0≤z∧z≤255
 regs:v.ownsRow (hb+1) 23 1 (.slice q.ar h.regs.length q.cr) h.regs.length (fx h.regs)
 ks:KRows (w.heap.size+1) v q h.k
 below:Below w.heap.size w v
set_option maxRecDepth 20000 in
set_option maxHeartbeats 1200000 in
theorem zV (a:Option Addr) (len cap:Nat) (zs:List Int) (w:World) (hB:Byt w a len zs) (hl:len≤1048576) (v:World) (hb size n:Nat) (p:PtrM) (u5 u15 u16 u17 u18 u19 u20 u21 u22 u23 u24 u25 u26 u27 u28 u29 u30 u31 u32 u33 u34 u35 u36 u37 u38 u39 u40 u41 u42 u43 u44 u45 u46 u47 u48 u49 u50 u51 u52 u53 u54 u55 u56 u57 u58 u59 u60 u61 u62 u63 u64 u65 u66 u67 u68 u69 u70 u71 u72 u73 u74 u75 u76 u77 u78 u79 u80 u81 u82 u83 u84 u85:Value) (pcv md sav tvv:Int) (smv mxv:Bool) (kv:KM) (hko:kOk kv) (hD:DecIn w v hb p (⟨List.replicate size 0,[],pcv,md,smv,mxv,sav,tvv,0,md,0,0,kv⟩:HartM)) (har:p.ar=none) (hcr:p.cr=0) (hsz:64≤size∧size≤4096) (hn:n≤20000)
 (R:Ending→World→Prop) (H2:∀(v9:World) (q:PtrM) (mem:List Int) (i:Nat) (u5 u7 u9 u10 u11 u12 u15 u16 u17 u18 u19 u20 u21 u22 u23 u24 u25 u26 u27 u28 u29 u30 u31 u32 u33 u34 u35 u36 u37 u38 u39 u40 u41 u42 u43 u44 u45 u46 u47 u48 u49 u50 u51 u52 u53 u54 u55 u56 u57 u58 u59 u60 u61 u62 u63 u64 u65 u66 u67 u68 u69 u70 u71 u72 u73 u74 u75 u76 u77 u78 u79 u80 u81 u82 u83 u84 u85 u86 u87 u88 u89 u90 u91 u92 u93 u94 u95 u96 u97 u98 u99 u100 u101 u102 u103 u104 u105 u106 u107 u108 u109 u110 u111 u112 u113 u114 u115 u116 u117 u118 u119 u120 u121 u122 u123 u124 u125 u126 u127 u128 u129 u130 u131 u132 u133 u134 u135 u136 u137 u138 u139 u140 u141 u142 u143 u144 u145 u146 u147:Value),DecEnd w v9 hb q (⟨mem,jX zs,pcv,md,smv,mxv,sav,tvv,0,md,0,0,kv⟩:HartM)→mem.length=size→i≤65878→ma zs (atM zs 87).toNat 88 (List.replicate size 0)=(mem,i)→
  ∀K:Act→World→Prop,(∀aa ww,(dn 19 (eF Tryz.f15)).wp Tryz.prog (bodyPost Tryz.prog Tryz.f15 R) aa ww→K aa ww)→(eo (dn 18 (eF Tryz.f15))).wp Tryz.prog (Exit.then K (bodyPost Tryz.prog Tryz.f15 R)) ⟨#[.slice a len cap,undef,.pointer (some ⟨w.heap.size,0,none⟩),.pointer (some ⟨hb,0,none⟩),.int .i64 (size:Nat),u5,.int .i64 (n:Nat),u7,.int .i64 (i:Nat),u9,u10,u11,u12,undef,undef,u15,u16,u17,u18,u19,u20,u21,u22,u23,u24,u25,u26,u27,u28,u29,u30,u31,u32,u33,u34,u35,u36,u37,u38,u39,u40,u41,u42,u43,u44,u45,u46,u47,u48,u49,u50,u51,u52,u53,u54,u55,u56,u57,u58,u59,u60,u61,u62,u63,u64,u65,u66,u67,u68,u69,u70,u71,u72,u73,u74,u75,u76,u77,u78,u79,u80,u81,u82,u83,u84,u85,u86,u87,u88,u89,u90,u91,u92,u93,u94,u95,u96,u97,u98,u99,u100,u101,u102,u103,u104,u105,u106,u107,u108,u109,u110,u111,u112,u113,u114,u115,u116,u117,u118,u119,u120,u121,u122,u123,u124,u125,u126,u127,u128,u129,u130,u131,u132,u133,u134,u135,u136,u137,u138,u139,u140,u141,u142,u143,u144,u145,u146,u147,undef,undef,undef,undef,undef,undef,undef,undef,undef,undef,undef,undef,undef,undef,undef,undef,undef,undef],[]⟩ v9)
 (K:Act→World→Prop) (hK:∀aa ww,(dn 15 (eF Tryz.f15)).wp Tryz.prog (bodyPost Tryz.prog Tryz.f15 R) aa ww→K aa ww):
 (eo (dn 14 (eF Tryz.f15))).wp Tryz.prog (Exit.then K (bodyPost Tryz.prog Tryz.f15 R)) ⟨#[.slice a len cap,undef,.pointer (some ⟨w.heap.size,0,none⟩),.pointer (some ⟨hb,0,none⟩),.int .i64 (size:Nat),u5,.int .i64 (n:Nat),undef,undef,undef,undef,undef,undef,undef,undef,u15,u16,u17,u18,u19,u20,u21,u22,u23,u24,u25,u26,u27,u28,u29,u30,u31,u32,u33,u34,u35,u36,u37,u38,u39,u40,u41,u42,u43,u44,u45,u46,u47,u48,u49,u50,u51,u52,u53,u54,u55,u56,u57,u58,u59,u60,u61,u62,u63,u64,u65,u66,u67,u68,u69,u70,u71,u72,u73,u74,u75,u76,u77,u78,u79,u80,u81,u82,u83,u84,u85,undef,undef,undef,undef,undef,undef,undef,undef,undef,undef,undef,undef,undef,undef,undef,undef,undef,undef,undef,undef,undef,undef,undef,undef,undef,undef,undef,undef,undef,undef,undef,undef,undef,undef,undef,undef,undef,undef,undef,undef,undef,undef,undef,undef,undef,undef,undef,undef,undef,undef,undef,undef,undef,undef,undef,undef,undef,undef,undef,undef,undef,undef,undef,undef,undef,undef,undef,undef,undef,undef,undef,undef,undef,undef,undef,undef,undef,undef,undef,undef],[]⟩ v:=by
 obtain ⟨Q,hQ⟩:∃Q,bodyPost Tryz.prog Tryz.f15 R=Q:=⟨_,rfl⟩;rw [hQ] at hK H2 ⊢;have HQ:Hid _:=hQ;clear hQ;simp only [eo,dn,eF,Tryz.f15,Option.getD] at hK ⊢;have HQp:Hid (∀x (a:Act) d z w,Q (.panic x) (a.put d z) w→Q (.panic x) a w):=by
  show ∀x (a:Act) d z w,Q (.panic x) (a.put d z) w→Q (.panic x) a w;rw [←HQ.out];exact fun _ _ d _ _ h=>by cases d <;> exact h
 have HD:Hid (DecIn w v hb p (⟨List.replicate size 0,[],pcv,md,smv,mxv,sav,tvv,0,md,0,0,kv⟩:HartM)):=hD;have HH2:Hid _:=H2;have HB:Hid _:=hB;have HAt:Hid (∀(i:Nat) (u:World),i≤1073741824→Below w.heap.size w u→Calls Tryz.prog 63 #[.slice a len cap,.int .i64 i] u fun e w'=>e=.returned (.int .i64 (atM zs i))∧w'=u):=fun i u hi hu=>pr a len cap zs i u (Byt.keep HB.out hu) hl (by omega);have HLg:Hid (∀(i:Nat) (u:World),i≤1073741824→Below w.heap.size w u→Calls Tryz.prog 64 #[.slice a len cap,.int .i64 i] u fun e w'=>e=.returned (.int .u64 (cW zs i))∧Below u.heap.size u w'):=fun i u hi hu=>rx a len cap zs i u (Byt.keep HB.out hu) hl hi;have HAb:Hid (∀i,0≤atM zs i∧atM zs i≤255):=fun i=>pO hB.2.1 i;clear hB hko hD H2;obtain ⟨hsz1,hsz2⟩:=hsz;have hlo:=HD.out.low;have hlt:=HD.out.lt;have kk1:=ag HD.out.box 1 (show (aD p (⟨List.replicate size 0,[],pcv,md,smv,mxv,sav,tvv,0,md,0,0,kv⟩:HartM))[1]?=some (.slice p.ar 0 p.cr) from rfl);have ff1:=aA HD.out.box 1;have n1:=(Below.refl (v.setCell ⟨hb,1,none⟩ (.slice (some ⟨v.heap.size,0,none⟩) 1 1)).heap.size (v.setCell ⟨hb,1,none⟩ (.slice (some ⟨v.heap.size,0,none⟩) 1 1))).alloc (Nat.le_refl _) (Obj.cells #[.int .u64 0] 23);have hsS:(v.setCell ⟨hb,1,none⟩ (.slice (some ⟨v.heap.size,0,none⟩) 1 1)).heap.size=v.heap.size:=by simp
 have G2:Hid _:=fs (ax (aE v (some hb)) 1 (.slice (some ⟨v.heap.size,0,none⟩) 1 1)) (zU n1);have B2:Hid (((v.setCell ⟨hb,1,none⟩ (.slice (some ⟨v.heap.size,0,none⟩) 1 1)).alloc (Obj.cells #[.int .u64 0] 23)).heap[hb]?=some (.cells (aD (⟨p.am,p.cm,some ⟨v.heap.size,0,none⟩,1,p.a1,p.c1,p.a2,p.c2,p.a3,p.c3⟩:PtrM) (⟨List.replicate size 0,(0::(List.range 0).map fun j=>cW zs (31+8*j)),pcv,md,smv,mxv,sav,tvv,0,md,0,0,kv⟩:HartM)) 48 (0,0))):=ab (da HD.out.box 1 _) n1 (by omega);have O2:Hid (OwnC 23 1 ((v.setCell ⟨hb,1,none⟩ (.slice (some ⟨v.heap.size,0,none⟩) 1 1)).alloc (Obj.cells #[.int .u64 0] 23)) v.heap.size v.heap.size 1 1 (fx (0::(List.range 0).map fun j=>cW zs (31+8*j)))):=by
  have:=OwnC.new 23 1 (v.setCell ⟨hb,1,none⟩ (.slice (some ⟨v.heap.size,0,none⟩) 1 1)) [.int .u64 0] 1 rfl (by decide);rw [hsS] at this;exact this
 go_upto_region 21 with fail;clear kk1 ff1;generalize (v.setCell ⟨hb,1,none⟩ (.slice (some ⟨v.heap.size,0,none⟩) 1 1)).alloc (Obj.cells #[.int .u64 0] 23)=v2 at G2 B2 O2 ⊢;clear n1 hsS;go_wp2_with fail;go_loopw [7] (fun rv wr=>∃(t g c:Nat),t≤7∧rv=.int .i64 ((t+1:Nat):Int)∧v.grownBy wr (some hb)∧wr.heap[hb]?=some (.cells (aD (⟨p.am,p.cm,some ⟨g,0,none⟩,c,p.a1,p.c1,p.a2,p.c2,p.a3,p.c3⟩:PtrM) (⟨List.replicate size 0,(0::(List.range t).map fun j=>cW zs (31+8*j)),pcv,md,smv,mxv,sav,tvv,0,md,0,0,kv⟩:HartM)) 48 (0,0))∧OwnC 23 1 wr v.heap.size g (t+1) c (fx (0::(List.range t).map fun j=>cW zs (31+8*j)))) (fun rv _=>9-(intOf rv).toNat)
 case atStart=>exact ⟨0,_,_,Nat.zero_le _,rfl,G2.out,B2.out,O2.out⟩
 case round=>
  clear G2 B2 O2;obtain ⟨t,g,c,ht,rfl,hG,hBx,hO⟩:=hrel;have HG:Hid _:=hG;have HBx:Hid _:=hBx;have HO:Hid _:=hO;have hgs:=hG.size;have c1:(aD (⟨p.am,p.cm,some ⟨g,0,none⟩,c,p.a1,p.c1,p.a2,p.c2,p.a3,p.c3⟩:PtrM) (⟨List.replicate size 0,(0::(List.range t).map fun j=>cW zs (31+8*j)),pcv,md,smv,mxv,sav,tvv,0,md,0,0,kv⟩:HartM))[1]?=some (.slice (some ⟨g,0,none⟩) (t+1) c):=by
   show some (Value.slice (some ⟨g,0,none⟩) (0::(List.range t).map fun j=>cW zs (31+8*j)).length c)=_;simp
  have hwr:Below w.heap.size w wr:=HD.out.below.trans ⟨hG.os,hG.tape,hG.output,hG.size,fun k hk=>hG.block k (by omega) (by simp;omega)⟩;have hlw:hb<wr.heap.size:=by omega
  clear hG hBx hO;by_cases ht7:t<7
  ·go_upto_region 24 with fail;obtain ⟨L,hL⟩:∃L,cW zs (31+8*t)=L:=⟨_,rfl⟩;have HLl:Hid _:=hL;clear hL;have HL1:Hid (∀u:World,u.heap[hb]?=some (.cells (aD (⟨p.am,p.cm,some ⟨g,0,none⟩,c,p.a1,p.c1,p.a2,p.c2,p.a3,p.c3⟩:PtrM) (⟨List.replicate size 0,(0::(List.range t).map fun j=>cW zs (31+8*j)),pcv,md,smv,mxv,sav,tvv,0,md,0,0,kv⟩:HartM)) 48 (0,0))→(Instr.loadAt 46 (.pointer (some ⟨hb,1,none⟩))).run Tryz.prog u=.ok (.slice (some ⟨g,0,none⟩) (t+1) c) u):=fun u hu=>by
    have h1:=ag hu 1 c1;go_simp
   have HW8:Hid (IntKind.i64.wrap (8*((t+1:Nat):Int))=((8*(t+1):Nat):Int)):=(IntKind.wrap_i64 _).trans (by omega);have HW9:Hid (IntKind.i64.wrap (23+((8*(t+1):Nat):Int))=((31+8*t:Nat):Int)):=(IntKind.wrap_i64 _).trans (by omega);have HBo:Hid (∀(u:World),Below v.heap.size wr u→u.heap[hb]?=some (.cells (aD (⟨p.am,p.cm,some ⟨g,0,none⟩,c,p.a1,p.c1,p.a2,p.c2,p.a3,p.c3⟩:PtrM) (⟨List.replicate size 0,(0::(List.range t).map fun j=>cW zs (31+8*j)),pcv,md,smv,mxv,sav,tvv,0,md,0,0,kv⟩:HartM)) 48 (0,0))):=fun u hu=>(hu.block hb (by omega)).trans HBx.out;generalize hBX:aD (⟨p.am,p.cm,some ⟨g,0,none⟩,c,p.a1,p.c1,p.a2,p.c2,p.a3,p.c3⟩:PtrM) (⟨List.replicate size 0,(0::(List.range t).map fun j=>cW zs (31+8*j)),pcv,md,smv,mxv,sav,tvv,0,md,0,0,kv⟩:HartM)=BX at HL1 HBo c1;have HBX:Hid _:=hBX;clear hBX;have hF:wr.drew.heap[hb]?=some (.cells BX 48 (0,0)):=HBo.out wr ((Below.refl _ _));have nD:Below wr.heap.size wr wr.drew:=(Below.refl _ _).drew;refine ba (fun u=>u.heap[hb]?=some (.cells BX 48 (0,0))) 10 (by kernel_rfl) ?_;refine ah 0 92 (.pointer (some ⟨hb,1,none⟩)) rfl (by kernel_rfl) (by kernel_rfl) (by kernel_rfl) (by kernel_rfl) rfl (by kernel_rfl) (fun _ _ _ h=>HQp.out _ _ _ _ _ h) (by kernel_rfl) (fun u hu=>by kernel_rfl) hF (by kernel_rfl) ?_;simp only [Act.put,List.setIfInBounds_toArray,List.set_cons_succ,List.set_cons_zero];refine ah 1 93 (.slice (some ⟨g,0,none⟩) (t+1) c) rfl (by kernel_rfl) (by kernel_rfl) (by kernel_rfl) (by kernel_rfl) rfl (by kernel_rfl) (fun _ _ _ h=>HQp.out _ _ _ _ _ h) (by kernel_rfl) (fun u hu=>aM rfl (HL1.out u hu)) hF (by kernel_rfl) ?_;simp only [Act.put,List.setIfInBounds_toArray,List.set_cons_succ,List.set_cons_zero];refine ah 2 94 (.slice a len cap) rfl (by kernel_rfl) (by kernel_rfl) (by kernel_rfl) (by kernel_rfl) rfl (by kernel_rfl) (fun _ _ _ h=>HQp.out _ _ _ _ _ h) (by kernel_rfl) (fun u hu=>by kernel_rfl) hF (by kernel_rfl) ?_;simp only [Act.put,List.setIfInBounds_toArray,List.set_cons_succ,List.set_cons_zero];refine ah 3 95 (.int .i64 ((t+1:Nat):Int)) rfl (by kernel_rfl) (by kernel_rfl) (by kernel_rfl) (by kernel_rfl) rfl (by kernel_rfl) (fun _ _ _ h=>HQp.out _ _ _ _ _ h) (by kernel_rfl) (fun u hu=>by kernel_rfl) hF (by kernel_rfl) ?_;simp only [Act.put,List.setIfInBounds_toArray,List.set_cons_succ,List.set_cons_zero];refine ah 4 96 (.int .i64 ((8*(t+1):Nat):Int)) rfl (by kernel_rfl) (by kernel_rfl) (by kernel_rfl) (by kernel_rfl) rfl (by kernel_rfl) (fun _ _ _ h=>HQp.out _ _ _ _ _ h) (by kernel_rfl) (fun u hu=>(by go_simp;exact (IntKind.wrap_i64 _).trans (by omega))) hF (by kernel_rfl) ?_;simp only [Act.put,List.setIfInBounds_toArray,List.set_cons_succ,List.set_cons_zero];refine ah 5 97 (.int .i64 ((31+8*t:Nat):Int)) rfl (by kernel_rfl) (by kernel_rfl) (by kernel_rfl) (by kernel_rfl) rfl (by kernel_rfl) (fun _ _ _ h=>HQp.out _ _ _ _ _ h) (by kernel_rfl) (fun u hu=>(by go_simp;exact (IntKind.wrap_i64 _).trans (by omega))) hF (by kernel_rfl) ?_;simp only [Act.put,List.setIfInBounds_toArray,List.set_cons_succ,List.set_cons_zero];refine be 6 98 (by kernel_rfl) rfl (by kernel_rfl) (by kernel_rfl) (f:=64) (args:=#[.slice a len cap,.int .i64 ((31+8*t:Nat):Int)]) (by kernel_rfl) ?_;refine (HLg.out (31+8*t) wr.drew (by omega) hwr.drew).mono ?_;rintro e v6 ⟨rfl,m6'⟩;have m6:Below wr.heap.size wr v6:=Below.step nD m6' (Nat.le_refl _);rw [HLl.out];refine ⟨_,rfl,fun _=>HBo.out v6 (m6.mono hgs),?_⟩;simp only [Act.put,List.setIfInBounds_toArray,List.set_cons_succ,List.set_cons_zero];have m7:=(Below.refl v6.heap.size v6).alloc (Nat.le_refl _) (Obj.cells #[.int .u64 L] 23);have m67:=Below.step m6 m7 (Nat.le_refl _);refine ei 7 99 (.slice (some ⟨v6.heap.size,0,none⟩) 1 1) (w':=v6.alloc (Obj.cells #[.int .u64 L] 23)) (by kernel_rfl) rfl (by kernel_rfl) (by kernel_rfl) (by go_simp) (fun _=>HBo.out _ (m67.mono hgs)) ?_;simp only [Act.put,List.setIfInBounds_toArray,List.set_cons_succ,List.set_cons_zero];have O7:=aj HO.out m67;have W7:RowC (v6.alloc (Obj.cells #[.int .u64 L] 23)) (some ⟨v6.heap.size,0,none⟩) 1 1 (fx [L]):=(OwnC.new 23 1 v6 (fx [L]) 1 (by rfl) (by decide)).row;have s7:=m67.size;refine qr 8 100 (by kernel_rfl) rfl (by kernel_rfl) (by kernel_rfl) (.tmp 93) (.tmp 99) 46 (by kernel_rfl) 23 Tryz.underlying46 (.int .u64 0) 1 8 Tryz.infoU rfl (by decide) v.heap.size (t+1) _ (fx (0::(List.range t).map fun j=>cW zs (31+8*j))) (by kernel_rfl) O7 v6.heap.size 0 1 1 (fx [L]) (by kernel_rfl) (by omega) W7 (pL _) (by omega) (by omega) (by omega) v.heap.size _ (Below.refl _ _) (Nat.le_refl _) ?_;intro g8 c8 v8 o8 m8;have B8:=HBo.out v8 ((m67.mono hgs).trans m8);refine ⟨fun _=>B8,?_⟩;simp only [Act.put,List.setIfInBounds_toArray,List.set_cons_succ,List.set_cons_zero];refine dD 9 101 (.pointer (some ⟨hb,1,none⟩)) rfl (by kernel_rfl) (by kernel_rfl) (by kernel_rfl) (by kernel_rfl) rfl (fun _ _ _ h=>HQp.out _ _ _ _ _ h) (by kernel_rfl) (fun u=>by kernel_rfl) (.inr B8) (by kernel_rfl) ?_;simp only [Act.put,List.setIfInBounds_toArray,List.set_cons_succ,List.set_cons_zero];have HSt:Hid ((Instr.storeAt 46 (.pointer (some ⟨hb,1,none⟩)) (.slice (some ⟨g8,0,none⟩) (t+1+1) c8)).run Tryz.prog v8=.ok () (v8.setCell ⟨hb,1,none⟩ (.slice (some ⟨g8,0,none⟩) (t+1+1) c8))):=by
    have h1:=ag B8 1 c1;have h2:=aA B8 1;show _=_;go_simp
   refine bB 10 rfl (T:=46) (x:=.tmp 101) (y:=.tmp 100) (by kernel_rfl) (by kernel_rfl) (by kernel_rfl) (by kernel_rfl) (b:=hb) (off:=1) (by kernel_rfl) (by kernel_rfl) HSt.out (.inl (by kernel_rfl)) ?_;refine bQ (by kernel_rfl) ?_ _;go_wp2_with fail;have hg8:v.heap.size≤g8:=(gj o8 ⟨g8,0,none⟩ rfl).1;refine ⟨⟨t+1,g8,c8,by omega,by go_num,?_,?_,?_⟩,?_⟩
   ·refine ax ?_ 1 _;have hG:=HG.out;exact ⟨m8.os.trans (m67.os.trans hG.os),m8.tape.trans (m67.tape.trans hG.tape),m8.output.trans (m67.output.trans hG.output),by have:=m8.size;omega,fun k hk hne=>(m8.block k hk).trans ((m67.block k (by omega)).trans (hG.block k hk hne))⟩
   ·have e:aD (⟨p.am,p.cm,some ⟨g8,0,none⟩,c8,p.a1,p.c1,p.a2,p.c2,p.a3,p.c3⟩:PtrM) (⟨List.replicate size 0,(0::(List.range (t+1)).map fun j=>cW zs (31+8*j)),pcv,md,smv,mxv,sav,tvv,0,md,0,0,kv⟩:HartM)=(aD (⟨p.am,p.cm,some ⟨g,0,none⟩,c,p.a1,p.c1,p.a2,p.c2,p.a3,p.c3⟩:PtrM) (⟨List.replicate size 0,(0::(List.range t).map fun j=>cW zs (31+8*j)),pcv,md,smv,mxv,sav,tvv,0,md,0,0,kv⟩:HartM)).setIfInBounds 1 (.slice (some ⟨g8,0,none⟩) (0::(List.range (t+1)).map fun j=>cW zs (31+8*j)).length c8):=rfl;rw [e,HBX.out,show (0::(List.range (t+1)).map fun j=>cW zs (31+8*j)).length=t+1+1 by simp];exact da B8 1 _
   ·have:=OwnC.gb o8 (ax (aE v8 (some hb)) 1 (.slice (some ⟨g8,0,none⟩) (t+1+1) c8)) (by omega);have e:fx (0::(List.range t).map fun j=>cW zs (31+8*j))++fx [L]=fx (0::(List.range (t+1)).map fun j=>cW zs (31+8*j)):=by
     rw [nj,HLl.out];simp [fx]
    rw [e] at this;exact this
   ·simp [intOf];omega
  ·have ht':t=7:=by omega
   subst ht';have D3:Hid (DecIn w wr hb (⟨p.am,p.cm,some ⟨g,0,none⟩,c,p.a1,p.c1,p.a2,p.c2,p.a3,p.c3⟩:PtrM) (⟨List.replicate size 0,(0::(List.range 7).map fun j=>cW zs (31+8*j)),pcv,md,smv,mxv,sav,tvv,0,md,0,0,kv⟩:HartM)):=HD.out.gb HG.out HBx.out ⟨rfl,rfl,rfl⟩ ⟨rfl,rfl,rfl,rfl,rfl,rfl,rfl⟩;clear c1;go_upto_region 26 with fail;obtain ⟨cnt,hcnt,hcb⟩:∃cnt:Nat,atM zs 87=cnt∧cnt≤255:=⟨(atM zs 87).toNat,by have:=HAb.out 87;omega,by have:=HAb.out 87;omega⟩;have HCn:Hid _:=hcnt;clear hcnt;go_wp2_with fail;refine (HAt.out 87 wr (by omega) hwr).mono ?_;rintro e v' ⟨rfl,hv'⟩;rw [hv',HCn.out];clear hv' v';rw [HCn.out,Int.toNat_natCast] at HH2;obtain ⟨gm,cm,ham⟩:∃gm cm,p.am=some ⟨gm,0,none⟩∧p.cm=cm:=by
    rcases D3.out.mem.2 with ⟨h1,h2⟩ | ⟨gm,cm,cur,h1,_⟩
    ·exfalso;rw [List.length_replicate] at h2;omega
    ·simp only [Value.slice.injEq] at h1;exact ⟨gm,cm,h1.1,h1.2.2⟩
   obtain ⟨ham,rfl⟩:=ham;have HAm:Hid _:=ham;have OM:Hid (OwnC 5 1 wr (hb+1) gm size p.cm (ig (List.replicate size 0))):=by
    have:=D3.out.mem;simp only [List.length_replicate] at this;rw [ham] at this;exact this
   clear ham;have hgm:=(gj OM.out ⟨gm,0,none⟩ rfl);obtain ⟨hgm1,hgm2⟩:=hgm;simp only at hgm1 hgm2;go_wp2_with fail;generalize wr=v3 at *;go_loopw [8,9] (fun iv rv wr=>∃(r i:Nat) (mem:List Int),iv=.int .i64 i∧rv=.int .i64 r∧r≤255∧i+258*r≤65878∧ma zs cnt 88 (List.replicate size 0)=ma zs r i mem∧mem.length=size∧(∀z∈mem,0≤z∧z≤255)∧OwnC 5 1 wr (hb+1) gm size p.cm (ig mem)∧v3.grownBy wr (some gm)) (fun _ rv _=>(intOf rv).toNat)
   case atStart=>exact ⟨cnt,88,_,rfl,rfl,hcb,by omega,rfl,List.length_replicate,fun z hz=>by rw [(List.mem_replicate.1 hz).2];omega,OM.out,aE _ _⟩
   case round=>
    clear OM;obtain ⟨r,i,mem,rfl,rfl,hr,hi,hrun,hml,hmb,hOm,hGm⟩:=hrel;have HRun:Hid _:=hrun;have HMb:Hid _:=hmb;have HOm:Hid _:=hOm;have HGm:Hid _:=hGm;have hgs3:=hGm.size;have hwq:Below w.heap.size w wr:=hwr.trans ⟨hGm.os,hGm.tape,hGm.output,hGm.size,fun k hk=>hGm.block k (by omega) (by simp;omega)⟩;clear hrun hmb hOm hGm;by_cases hr0:0<r
    ·obtain ⟨r',rfl⟩:∃r',r=r'+1:=⟨r-1,by omega⟩;obtain ⟨A,hA⟩:∃A:Nat,xX zs i=A:=⟨_,rfl⟩;obtain ⟨y1,hy1⟩:∃y,atM zs i=y:=⟨_,rfl⟩;obtain ⟨y2,hy2⟩:∃y,atM zs (i+1)=y:=⟨_,rfl⟩;obtain ⟨m,hm⟩:∃m:Nat,atM zs (i+2)=m:=⟨(atM zs (i+2)).toNat,by have:=HAb.out (i+2);omega⟩;have b1:=HAb.out i;have b2:=HAb.out (i+1);have b3:=HAb.out (i+2);rw [hy1] at b1;rw [hy2] at b2;rw [hm] at b3;have hAy:y1+256*y2=(A:Int):=by rw [←hA];unfold xX;rw [hy1,hy2];omega
     have hA2:A≤65535:=by omega
     have hm2:m≤255:=by omega
     have HA:Hid _:=hA;have Hy1:Hid _:=hy1;have Hy2:Hid _:=hy2;have Hm:Hid _:=hm;clear hA hy1 hy2 hm;obtain ⟨b11,b12⟩:=b1;obtain ⟨b21,b22⟩:=b2;clear b3;go_upto_region 29 with fail;go_wp2_with fail;refine (HAt.out i wr (by omega) hwq).mono ?_;rintro e v' ⟨rfl,hv'⟩;rw [hv',Hy1.out];clear hv' v';go_wp2_with fail;refine (HAt.out (i+1) wr (by omega) hwq).mono ?_;rintro e v' ⟨rfl,hv'⟩;rw [hv',Hy2.out];clear hv' v';go_upto_region 30 with fail;go_wp2_with fail;refine (HAt.out (i+2) wr (by omega) hwq).mono ?_;rintro e v' ⟨rfl,hv'⟩;rw [hv',Hm.out];clear hv' v';go_upto_region 32 with fail;clear b11 b12 b21 b22;go_wp2_with fail;generalize wr=vq at *;go_loopw [12] (fun kv wr=>∃(k:Nat) (mk:List Int),kv=.int .i64 k∧k≤m∧sN zs m (i+3) A mem=sN zs (m-k) (i+3+k) (A+k) mk∧mk.length=size∧(∀z∈mk,0≤z∧z≤255)∧OwnC 5 1 wr (hb+1) gm size p.cm (ig mk)∧v3.grownBy wr (some gm)) (fun kv _=>m-(intOf kv).toNat)
     case atStart=>exact ⟨0,mem,rfl,Nat.zero_le _,rfl,hml,HMb.out,HOm.out,HGm.out⟩
     case round=>
      clear HOm HGm hwq hgs3;obtain ⟨k,mk,rfl,hk,hlay,hmkl,hmkb,hOk,hGk⟩:=hrel;have HLay:Hid _:=hlay;have HMk:Hid _:=hmkb;have HOk:Hid _:=hOk;have HGk:Hid _:=hGk;have hgs4:=hGk.size;have hwk:Below w.heap.size w wr:=hwr.trans ⟨hGk.os,hGk.tape,hGk.output,hGk.size,fun j hj=>hGk.block j (by omega) (by simp;omega)⟩;clear hlay hmkb hOk hGk;by_cases hkm:k<m
      ·by_cases hAk:A+k<size
       ·go_upto_region 36 with fail;obtain ⟨z,hz⟩:∃z,atM zs (i+3+k)=z:=⟨_,rfl⟩;have HZ:Hid _:=hz;have bz:=HAb.out (i+3+k);rw [hz] at bz;obtain ⟨hz1,hz2⟩:=bz;clear hz;have HBk:Hid (wr.heap[hb]?=some (.cells (aD (⟨p.am,p.cm,some ⟨g,0,none⟩,c,p.a1,p.c1,p.a2,p.c2,p.a3,p.c3⟩:PtrM) (⟨List.replicate size 0,(0::(List.range 7).map fun j=>cW zs (31+8*j)),pcv,md,smv,mxv,sav,tvv,0,md,0,0,kv⟩:HartM)) 48 (0,0))):=av D3.out.box HGk.out (by omega);have c0:(aD (⟨p.am,p.cm,some ⟨g,0,none⟩,c,p.a1,p.c1,p.a2,p.c2,p.a3,p.c3⟩:PtrM) (⟨List.replicate size 0,(0::(List.range 7).map fun j=>cW zs (31+8*j)),pcv,md,smv,mxv,sav,tvv,0,md,0,0,kv⟩:HartM))[0]?=some (.slice (some ⟨gm,0,none⟩) size p.cm):=by
         show some (Value.slice p.am (List.replicate size (0:Int)).length p.cm)=_;rw [HAm.out,List.length_replicate]
        generalize aD (⟨p.am,p.cm,some ⟨g,0,none⟩,c,p.a1,p.c1,p.a2,p.c2,p.a3,p.c3⟩:PtrM) (⟨List.replicate size 0,(0::(List.range 7).map fun j=>cW zs (31+8*j)),pcv,md,smv,mxv,sav,tvv,0,md,0,0,kv⟩:HartM)=BX at HBk c0;have HL0:Hid (∀u:World,u.heap[hb]?=some (.cells BX 48 (0,0))→(Instr.loadAt 22 (.pointer (some ⟨hb,0,none⟩))).run Tryz.prog u=.ok (.slice (some ⟨gm,0,none⟩) size p.cm) u):=fun u hu=>by
         have h1:=ag hu 0 c0;go_simp
        have hF:wr.drew.heap[hb]?=some (.cells BX 48 (0,0)):=HBk.out;have OD:Hid (OwnC 5 1 wr.drew (hb+1) gm size p.cm (ig mk)):=jR HOk.out;refine ba (fun u=>u.heap[hb]?=some (.cells BX 48 (0,0))) 12 (by kernel_rfl) ?_;refine ah 0 133 (.pointer (some ⟨hb,0,none⟩)) rfl (by kernel_rfl) (by kernel_rfl) (by kernel_rfl) (by kernel_rfl) rfl (by kernel_rfl) (fun _ _ _ h=>HQp.out _ _ _ _ _ h) (by kernel_rfl) (fun u hu=>by kernel_rfl) hF (by kernel_rfl) ?_;simp only [Act.put,List.setIfInBounds_toArray,List.set_cons_succ,List.set_cons_zero];refine ah 1 134 (.slice (some ⟨gm,0,none⟩) size p.cm) rfl (by kernel_rfl) (by kernel_rfl) (by kernel_rfl) (by kernel_rfl) rfl (by kernel_rfl) (fun _ _ _ h=>HQp.out _ _ _ _ _ h) (by kernel_rfl) (fun u hu=>aM rfl (HL0.out u hu)) hF (by kernel_rfl) ?_;simp only [Act.put,List.setIfInBounds_toArray,List.set_cons_succ,List.set_cons_zero];refine ah 2 135 (.int .i64 (A:Nat)) rfl (by kernel_rfl) (by kernel_rfl) (by kernel_rfl) (by kernel_rfl) rfl (by kernel_rfl) (fun _ _ _ h=>HQp.out _ _ _ _ _ h) (by kernel_rfl) (fun u hu=>by kernel_rfl) hF (by kernel_rfl) ?_;simp only [Act.put,List.setIfInBounds_toArray,List.set_cons_succ,List.set_cons_zero];refine ah 3 136 (.int .i64 (k:Nat)) rfl (by kernel_rfl) (by kernel_rfl) (by kernel_rfl) (by kernel_rfl) rfl (by kernel_rfl) (fun _ _ _ h=>HQp.out _ _ _ _ _ h) (by kernel_rfl) (fun u hu=>by kernel_rfl) hF (by kernel_rfl) ?_;simp only [Act.put,List.setIfInBounds_toArray,List.set_cons_succ,List.set_cons_zero];refine ah 4 137 (.int .i64 ((A+k:Nat):Int)) rfl (by kernel_rfl) (by kernel_rfl) (by kernel_rfl) (by kernel_rfl) rfl (by kernel_rfl) (fun _ _ _ h=>HQp.out _ _ _ _ _ h) (by kernel_rfl) (fun u hu=>(by go_simp;try exact (IntKind.wrap_i64 _).trans (by omega))) hF (by kernel_rfl) ?_;simp only [Act.put,List.setIfInBounds_toArray,List.set_cons_succ,List.set_cons_zero];refine ah 5 138 (.slice a len cap) rfl (by kernel_rfl) (by kernel_rfl) (by kernel_rfl) (by kernel_rfl) rfl (by kernel_rfl) (fun _ _ _ h=>HQp.out _ _ _ _ _ h) (by kernel_rfl) (fun u hu=>by kernel_rfl) hF (by kernel_rfl) ?_;simp only [Act.put,List.setIfInBounds_toArray,List.set_cons_succ,List.set_cons_zero];refine ah 6 139 (.int .i64 ((i:Int)+3)) rfl (by kernel_rfl) (by kernel_rfl) (by kernel_rfl) (by kernel_rfl) rfl (by kernel_rfl) (fun _ _ _ h=>HQp.out _ _ _ _ _ h) (by kernel_rfl) (fun u hu=>by kernel_rfl) hF (by kernel_rfl) ?_;simp only [Act.put,List.setIfInBounds_toArray,List.set_cons_succ,List.set_cons_zero];refine ah 7 140 (.int .i64 (k:Nat)) rfl (by kernel_rfl) (by kernel_rfl) (by kernel_rfl) (by kernel_rfl) rfl (by kernel_rfl) (fun _ _ _ h=>HQp.out _ _ _ _ _ h) (by kernel_rfl) (fun u hu=>by kernel_rfl) hF (by kernel_rfl) ?_;simp only [Act.put,List.setIfInBounds_toArray,List.set_cons_succ,List.set_cons_zero];refine ah 8 141 (.int .i64 ((i+3+k:Nat):Int)) rfl (by kernel_rfl) (by kernel_rfl) (by kernel_rfl) (by kernel_rfl) rfl (by kernel_rfl) (fun _ _ _ h=>HQp.out _ _ _ _ _ h) (by kernel_rfl) (fun u hu=>(by go_simp;try exact (IntKind.wrap_i64 _).trans (by omega))) hF (by kernel_rfl) ?_;simp only [Act.put,List.setIfInBounds_toArray,List.set_cons_succ,List.set_cons_zero];refine be 9 142 (by kernel_rfl) rfl (by kernel_rfl) (by kernel_rfl) (f:=63) (args:=#[.slice a len cap,.int .i64 ((i+3+k:Nat):Int)]) (by kernel_rfl) ?_;refine (HAt.out (i+3+k) wr.drew (by omega) hwk.drew).mono ?_;rintro e v' ⟨rfl,hv'⟩;rw [hv',HZ.out];clear hv' v';refine ⟨_,rfl,fun _=>hF,?_⟩;simp only [Act.put,List.setIfInBounds_toArray,List.set_cons_succ,List.set_cons_zero];refine dD 10 143 (.int .u8 z) rfl (by kernel_rfl) (by kernel_rfl) (by kernel_rfl) (by kernel_rfl) rfl (fun _ _ _ h=>HQp.out _ _ _ _ _ h) (by kernel_rfl) (fun u=>(by go_simp;show z%256=z;omega)) (.inr hF) (by kernel_rfl) ?_;simp only [Act.put,List.setIfInBounds_toArray,List.set_cons_succ,List.set_cons_zero];refine dD 11 144 (.pointer (some ⟨gm,A+k,none⟩)) rfl (by kernel_rfl) (by kernel_rfl) (by kernel_rfl) (by kernel_rfl) rfl (fun _ _ _ h=>HQp.out _ _ _ _ _ h) (by kernel_rfl) (fun u=>(by have h1:=hAk;go_simp;rw [if_pos (by omega),show ((A:Int)+(k:Int)).toNat=A+k by omega])) (.inr hF) (by kernel_rfl) ?_;simp only [Act.put,List.setIfInBounds_toArray,List.set_cons_succ,List.set_cons_zero];have HSt:Hid ((Instr.storeAt 5 (.pointer (some ⟨gm,A+k,none⟩)) (.int .u8 z)).run Tryz.prog wr.drew=.ok () (wr.drew.setCell ⟨gm,A+k,none⟩ (.int .u8 z))):=by
         have h1:=aI OD.out (A+k) (.int .u8 (mk[A+k]?.getD 0)) (by
          have:A+k<mk.length:=by omega
          simp [ig,this])
         have h2:=aP OD.out (A+k);show _=_;go_simp
        refine bB 12 rfl (T:=5) (x:=.tmp 144) (y:=.tmp 143) (by kernel_rfl) (by kernel_rfl) (by kernel_rfl) (by kernel_rfl) (b:=gm) (off:=A+k) (by kernel_rfl) (by kernel_rfl) HSt.out (.inl (by kernel_rfl)) ?_;refine bQ (by kernel_rfl) ?_ _;have OS:Hid (OwnC 5 1 (wr.drew.setCell ⟨gm,A+k,none⟩ (.int .u8 z)) (hb+1) gm size p.cm (ig (mk.set (A+k) z))):=by
         have:=aJ OD.out (A+k) (.int .u8 z);rw [show (ig mk).set (A+k) (.int .u8 z)=ig (mk.set (A+k) z) by simp [ig,List.map_set]] at this;exact this
        have GS:Hid _:=ax (fs HGk.out (zU (r:=some gm) ((Below.refl wr.heap.size wr).drew))) (A+k) (.int .u8 z);clear HSt OD hF HL0 HBk;go_wp2_with fail;refine ⟨⟨k+1,mk.set (A+k) z,by go_num,by omega,?_,by rw [List.length_set];exact hmkl,?_,OS.out,GS.out⟩,?_⟩
        ·rw [HLay.out,show m-k=(m-(k+1))+1 by omega,sN,if_pos (by omega),HZ.out];rfl
        ·intro y hy;rcases List.mem_or_eq_of_mem_set hy with h | h
         ·exact HMk.out y h
         ·subst h;exact ⟨hz1,hz2⟩
        ·simp [intOf];omega
       ·go_wp2_with fail;refine ⟨⟨k+1,mk,by go_num,by omega,?_,hmkl,HMk.out,HOk.out,HGk.out⟩,?_⟩
        ·rw [HLay.out,show m-k=(m-(k+1))+1 by omega,sN,if_neg (by omega)];rfl
        ·simp [intOf];omega
      ·have hkm':k=m:=by omega
       subst hkm';go_wp2_with fail;refine ⟨⟨r',i+3+k,mk,by go_num,by go_num,by omega,by omega,?_,hmkl,HMk.out,HOk.out,HGk.out⟩,?_⟩
       ·rw [HRun.out,ma,HA.out,Hm.out,Int.toNat_natCast,HLay.out,Nat.sub_self,sN]
       ·simp [intOf]
    ·have hr0':r=0:=by omega
     subst hr0';have hrm:ma zs cnt 88 (List.replicate size 0)=(mem,i):=HRun.out;go_upto_region 38 with fail;have hrg:(0::(List.range 7).map fun j=>cW zs (31+8*j))=jX zs:=rfl;have hgv:gm<v.heap.size:=by
      have hm0:=HD.out.mem;rw [HAm.out] at hm0;exact (gj hm0 ⟨gm,0,none⟩ rfl).2
     have hg1:v.heap.size≤g:=(gj HO.out ⟨g,0,none⟩ rfl).1;have HE:DecEnd w wr hb (⟨p.am,p.cm,some ⟨g,0,none⟩,c,p.a1,p.c1,p.a2,p.c2,p.a3,p.c3⟩:PtrM) (⟨mem,jX zs,pcv,md,smv,mxv,sav,tvv,0,md,0,0,kv⟩:HartM):=by
      have hG:=HGm.out;refine ⟨?_,av D3.out.res hG (by omega),hlo,?_,HMb.out,?_,?_,hwq⟩
      ·have:=av D3.out.box hG (by omega);rw [hrg] at this;have e:aD (⟨p.am,p.cm,some ⟨g,0,none⟩,c,p.a1,p.c1,p.a2,p.c2,p.a3,p.c3⟩:PtrM) (⟨List.replicate size 0,(jX zs),pcv,md,smv,mxv,sav,tvv,0,md,0,0,kv⟩:HartM)=aD (⟨p.am,p.cm,some ⟨g,0,none⟩,c,p.a1,p.c1,p.a2,p.c2,p.a3,p.c3⟩:PtrM) (⟨mem,jX zs,pcv,md,smv,mxv,sav,tvv,0,md,0,0,kv⟩:HartM):=by
        unfold aD;simp only [List.length_replicate,hml]
       rw [←e];exact this
      ·simp only [HAm.out,hml];exact HOm.out
      ·have:=OwnC.gb HO.out hG (by omega);rw [hrg] at this;exact aT this (by omega)
      ·obtain ⟨x,h1,h2,h3⟩:=D3.out.ks;have hb3:Below hb x wr:=h3.trans ⟨hG.os,hG.tape,hG.output,hG.size,fun k hk=>hG.block k (by omega) (by simp;omega)⟩;rw [←h1] at hb3;exact h2.keep hb3
     refine HH2.out wr (⟨p.am,p.cm,some ⟨g,0,none⟩,c,p.a1,p.c1,p.a2,p.c2,p.a3,p.c3⟩:PtrM) mem i _ _ _ _ _ _ _ _ _ _ _ _ _ _ _ _ _ _ _ _ _ _ _ _ _ _ _ _ _ _ _ _ _ _ _ _ _ _ _ _ _ _ _ _ _ _ _ _ _ _ _ _ _ _ _ _ _ _ _ _ _ _ _ _ _ _ _ _ _ _ _ _ _ _ _ _ _ _ _ _ _ _ _ _ _ _ _ _ _ _ _ _ _ _ _ _ _ _ _ _ _ _ _ _ _ _ _ _ _ _ _ _ _ _ _ _ _ _ _ _ _ _ _ _ _ _ _ _ _ _ _ _ _ _ _ _ _ _ _ HE hml (by omega) hrm _ (by assumption)
end Go.Proofs.YtaoaifmkhbgaiaaGreat

namespace Go.Proofs.YtaoaifmkhbgaiaaGreat
set_option linter.unusedVariables false
theorem qi (y:Int):((aC y).sets=1∨(aC y).sets=2∨(aC y).sets=4∨(aC y).sets=8)∧(1≤(aC y).ways∧(aC y).ways≤4)∧((aC y).es.length:Int)=(aC y).sets*(aC y).ways∧(aC y).es.length≤32:=by
 have hm:y%4=0∨y%4=1∨y%4=2∨y%4=3:=by omega
 have hw:y/4%4=0∨y/4%4=1∨y/4%4=2∨y/4%4=3:=by omega
 unfold aC;rcases hm with h | h | h | h <;> rcases hw with k | k | k | k <;> rw [h,k] <;> simp only [List.length_replicate] <;> decide
theorem jH (y:Int):ex (aC y):=by
 obtain ⟨h1,h2,h3,h4⟩:=qi y;refine ⟨?_,by omega,by omega,by omega⟩;intro e he;unfold aC at he;have:=(List.mem_replicate.1 he).2;subst this;simp [dq,cL]
theorem uE (y:Int) (p:Bool):aG (aC y) p=true:=by
 obtain ⟨h1,h2,h3,h4⟩:=qi y;unfold aG;rw [Bool.and_eq_true];refine ⟨by simp only [ip,decide_eq_true_eq];exact ⟨h1,h2.1,h2.2,h3⟩,fS _ p _ 0 (fun j x hx=>?_)⟩;have hm:x∈(aC y).es:=List.mem_of_getElem? hx;unfold aC at hm;have:=(List.mem_replicate.1 hm).2;subst this;simp [cx,cL]
theorem wE (b:List Int) (hb:∀i:Nat,0≤b[i]?.getD 0∧b[i]?.getD 0≤255):∀(m i a:Nat) (mem:List Int),(∀z∈mem,0≤z∧z≤255)→(sN b m i a mem).length=mem.length∧∀z∈sN b m i a mem,0≤z∧z≤255
 | 0,i,a,mem,h=>⟨rfl,h⟩
 | m+1,i,a,mem,h=>by
  rw [sN];split
  ·have:=wE b hb m (i+1) (a+1) (mem.set a (atM b i)) (fun z hz=>by
    rcases List.mem_or_eq_of_mem_set hz with hz | rfl
    ·exact h z hz
    ·exact hb i)
   rw [List.length_set] at this;exact this
  ·exact wE b hb m (i+1) (a+1) mem h
theorem xC (b:List Int) (hb:∀i:Nat,0≤b[i]?.getD 0∧b[i]?.getD 0≤255):∀(n i:Nat) (mem:List Int),(∀z∈mem,0≤z∧z≤255)→(ma b n i mem).1.length=mem.length∧∀z∈(ma b n i mem).1,0≤z∧z≤255
 | 0,i,mem,h=>⟨rfl,h⟩
 | n+1,i,mem,h=>by
  have h1:=wE b hb (atM b (i+2)).toNat (i+3) (xX b i) mem h;have h2:=xC b hb n (i+3+(atM b (i+2)).toNat) _ h1.2;rw [ma];exact ⟨h2.1.trans h1.1,h2.2⟩
theorem qK {zs:List Int} (h:∀i:Nat,0≤zs[i]?.getD 0∧zs[i]?.getD 0≤255) (i:Nat):inU (cW zs i):=by
 unfold cW;have:=pJ ((List.range 8).map fun k=>atM zs (i+k)) 8 (fun z hz=>by
  simp only [List.mem_map] at hz;obtain ⟨j,_,rfl⟩:=hz;exact h _) (by simp)
 unfold inU;omega
theorem tW {zs:List Int} (h:∀i:Nat,0≤zs[i]?.getD 0∧zs[i]?.getD 0≤255):HOk (fc zs):=by
 have h3:=h 3;have hm:=xC zs h (atM zs 87).toNat 88 (List.replicate (64*(1+(atM zs 3%64).toNat)) 0) (fun z hz=>by rw [(List.mem_replicate.1 hz).2];omega);rw [List.length_replicate] at hm;have hmode:0≤jW (atM zs 4)∧jW (atM zs 4)≤2:=by
  unfold jW;split <;> omega
 have hsat:eM (if eM (cW zs 23)=true then cW zs 23 else 0)=true:=by
  split
  ·assumption
  ·rfl
 refine ⟨(er _).2 ⟨?_,?_,?_,hmode,hmode,hsat,?_,?_,?_⟩,?_,?_,qK h 7,?_,?_,?_,?_,⟨jH _,jH _,jH _⟩⟩
 ·show sd (vV zs).1.length=true;unfold vV;rw [hm.1];simp only [sd,decide_eq_true_eq];have:(atM zs 3%64).toNat≤63:=by omega
  omega
 ·simp [fc,jX]
 ·rfl
 ·show (cW zs 15/4*4)%4=0;omega
 ·show 0≤(0:Int)∧(0:Int)≤63;omega
 ·show aV ⟨aC (atM zs 0),aC (atM zs 1),aC (atM zs 2)⟩=true;simp only [aV,uE,Bool.and_self]
 ·show gn (vV zs).1;intro i;unfold vV;cases hx:(ma zs (atM zs 87).toNat 88 (List.replicate (64*(1+(atM zs 3%64).toNat)) 0)).1[i]? with
  | none=>exact ⟨by simp,by simp⟩
  | some x=>
   have:=hm.2 x (List.mem_of_getElem? hx);simpa using this
 ·show re (jX zs);intro i;cases hx:(jX zs)[i]? with
  | none=>exact ⟨by simp,by simp⟩
  | some x=>
   have hmem:=List.mem_of_getElem? hx;simp only [jX,List.mem_cons,List.mem_map] at hmem;have:inU x:=by
    rcases hmem with rfl | ⟨j,_,rfl⟩
    ·simp [inU]
    ·exact qK h _
   simpa [inU] using this
 ·show inU (if eM (cW zs 23)=true then cW zs 23 else 0);split
  ·exact qK h 23
  ·simp [inU]
 ·show inU (cW zs 15/4*4);have:=qK h 15;unfold inU at this ⊢;omega
 ·show inU 0;simp [inU]
 ·show inU 0;simp [inU]
end Go.Proofs.YtaoaifmkhbgaiaaGreat
