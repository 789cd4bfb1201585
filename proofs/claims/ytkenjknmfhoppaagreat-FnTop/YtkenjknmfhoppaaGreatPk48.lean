import Derived.Test.YtkenjknmfhoppaaGreatPk29
import Derived.Test.YtkenjknmfhoppaaGreatPk30
import Derived.Test.YtkenjknmfhoppaaGreatPk47
import Derived.Test.YtkenjknmfhoppaaGreatPk46
import Derived.Test.YtkenjknmfhoppaaGreatPk43
namespace Go.Proofs.YtkenjknmfhoppaaGreat
open Go.RowKit
set_option linter.unusedVariables false
set_option maxHeartbeats 6400000
set_option maxRecDepth 20000
def BI (N:Nat) (zs:List Int) (x:Value) (u:World):Prop:=∃a n c,x=.slice a n c∧n<=N∧n<=c∧Byt u a n zs
theorem BI.keep {N:Nat} {zs:List Int} {x:Value} {u v:World} (h:BI N zs x u) (b:Bw u v):BI N zs x v:=by
 obtain ⟨a,n,c,h1,h2,h3,h4⟩:=h;exact ⟨a,n,c,h1,h2,h3,h4.keep b⟩
theorem BI.wide {zs:List Int} {x:Value} {u:World} (h:BI 20000 zs x u):BI 16777216 zs x u:=by
 obtain ⟨a,n,c,h1,h2,h3,h4⟩:=h;exact ⟨a,n,c,h1,by omega,h3,h4⟩
theorem BI.bd {N:Nat} {zs:List Int} {x:Value} {u:World} (h:BI N zs x u) (i:Nat):0<=zs[i]?.getD 0∧zs[i]?.getD 0<=255:=by
 obtain ⟨a,n,c,h1,h2,h3,h4⟩:=h;exact h4.2.1 i
def RI (evs:List EvM) (hh:HartM) (y:Value) (u:World):Prop:=∃ea ec q,y=.agg (dG ea evs.length ec q hh)∧RsR u ea q evs hh
theorem RI.keep {evs:List EvM} {hh:HartM} {x:Value} {u v:World} (h:RI evs hh x u) (b:Bw u v):RI evs hh x v:=by
 obtain ⟨a,n,c,h1,h2⟩:=h;exact ⟨a,n,c,h1,h2.keep b⟩
def uO (plain:Bool) (zs:List Int) (evs:List EvM) (hh:HartM):Prop:=(eM plain (bq zs) (aI zs)).1=evs∧∃k',(eM plain (bq zs) (aI zs)).2=withK hh k'
def um (zs:List Int):Bool × Nat:=jV (bq zs) (aI zs) [] 0
section
variable {zs:List Int} {x y:Value} {u:World} {plain:Bool} {evs:List EvM} {hh:HartM}
theorem EG {a0:Option Addr} {len0 cap0:Nat} (h:Byt u a0 len0 zs) (hl:len0<=1048576):Calls Tryz.prog 8 #[.slice a0 len0 cap0] u fun e v=>(∃y,e=.returned y∧BI 20000 (sT zs) y v)∧Bw u v:=
 (C6 a0 len0 cap0 zs u h hl).mono fun e v ⟨g,nn,cp,h1,h2,h3,h4,h5⟩=>⟨⟨_,h1,_,nn,cp,rfl,h4,h2.facts.2.2.2.1,h2.byt h3⟩,h5⟩
theorem EH (h:BI 16777216 zs x u):Calls Tryz.prog 9 #[x] u fun e v=>e=.returned (.agg #[.bool (um zs).1,VI (um zs).2])∧Bw u v:=by
 obtain ⟨a,n,c,rfl,h2,h3,h4⟩:=h;exact ym a n c zs u h4 h2
theorem EI (h:BI 20000 zs x u):Calls Tryz.prog 7 #[x] u fun e v=>e=.returned (.agg #[.bool (um zs).1,VI (um zs).2])∧Bw u v:=by
 obtain ⟨a,n,c,rfl,h2,h3,h4⟩:=h;exact zY a n c zs u h4 (by omega)
theorem EJ (h:BI 20000 zs x u) (s:uO true zs evs hh):Calls Tryz.prog 10 #[x,.bool true] u fun e v=>(∃y,e=.returned y∧RI evs hh y v)∧Bw u v:=by
 obtain ⟨a,n,c,rfl,h2,h3,h4⟩:=h;refine (ze a n c zs true yr u h4 (by omega)).mono ?_;obtain ⟨s1,k',s2⟩:=s;rw [s1,s2];rintro e v ⟨⟨ea,ec,q,h5,h6,h7⟩,h8⟩;exact ⟨⟨_,h5,ea,ec,q,rfl,h6,h7.mem,h7.regs⟩,h8⟩
theorem As (h:BI 16777216 zs x u) (s:uO plain zs evs hh):Calls Tryz.prog 12 #[x,.bool plain] u fun e v=>(∃y,e=.returned y∧RI evs hh y v)∧Bw u v:=by
 obtain ⟨a,n,c,rfl,h2,h3,h4⟩:=h;obtain ⟨_,_,rk⟩:=zZ plain (bq zs) (aI zs) (la h4.2.1) (jO h4.2.1);have hm:=rk.mem;refine (yJ a n c zs plain u h4 h2).mono ?_;obtain ⟨s1,k',s2⟩:=s;rw [s2] at hm;rw [s1,s2];rintro e v ⟨⟨ge,ec,q,h5,h6⟩,h8⟩;have h9:=RsO.read h6 hm;exact ⟨⟨_,h5,_,ec,q,rfl,h9.ev,h9.mem,h9.regs⟩,h8⟩
theorem Iv (h:RI evs hh x u) (h':RI evs hh y u) (hb:RsB evs hh) (h0:0<hh.mem.length):Calls Tryz.prog 11 #[x,y] u fun e v=>e=.returned (.bool true)∧Bw u v:=by
 obtain ⟨a,n,c,rfl,h2⟩:=h;obtain ⟨a',n',c',rfl,h2'⟩:=h';exact ut a a' n n' c c' evs hh u h2 h2' hb h0
theorem sS (zs:List Int):uO true zs (eM true (bq zs) (aI zs)).1 (eM true (bq zs) (aI zs)).2:=⟨rfl,(eM true (bq zs) (aI zs)).2.k,rfl⟩
theorem yx {ys:List Int} (hb:∀i:Nat,0<=ys[i]?.getD 0∧ys[i]?.getD 0<=255) (hh:aI ys=aI zs) (hl:(bq ys).length=(bq zs).length) (hd:(um zs).1=true):uO false ys (eM true (bq zs) (aI zs)).1 (eM true (bq zs) (aI zs)).2:=by
 have ok:=la hb;unfold uO;rw [hh] at ok |-;exact Ez (bq zs) (bq ys) (aI zs) (aI zs).k [] 0 hl (jO hb) ok.v.ks (GV zs) ⟨ok.v.mode,ok.v.emode⟩ hd
theorem Bu (hb:∀i:Nat,0<=zs[i]?.getD 0∧zs[i]?.getD 0<=255):RsB (eM true (bq zs) (aI zs)).1 (eM true (bq zs) (aI zs)).2∧0<(eM true (bq zs) (aI zs)).2.mem.length:=by
 obtain ⟨_,el,rk⟩:=zZ true (bq zs) (aI zs) (la hb) (jO hb);have h1:=rk.v.size;have h2:=rk.v.regs;have h3:=qZ zs;simp only [eR,decide_eq_true_eq] at h1;exact ⟨⟨by omega,by omega,by omega⟩,by omega⟩
end
theorem Bv (v:World) (x:Bool) (y:Int):∃v',(Instr.storeAt 24 (PT v.heap.size 0) (.agg #[.bool x,VI y])).run Tryz.prog (v.alloc (Obj.cells #[.bool false,VI 0] 24))=.ok () v'∧Hid (v'.heap[v.heap.size]?=some (.cells #[.bool x,VI y] 24 (0,0)))∧v.heap.size<v'.heap.size∧Bw v v':=by
 have a:=bX v #[.bool false,VI 0] 24;refine ⟨_,aR (P:=Tryz.prog) (T:=24) a.1 vN rfl (by simp [Value.oneCell']),aH a.1 rfl,?_,aJ nle _ _ _ a.2.2⟩;rw [cJ,a.2.1];exact Nat.lt_succ_self _
theorem Kv (x:Bool) (y:Int) (u:World):(binOp .neq 24 (.agg #[.bool x,VI y]) (.agg #[.bool x,VI y])).run Tryz.prog u=.ok (.bool false) u:=by
 cases x <;> go_simp
theorem yy {v:World} {b:Nat} {x:Bool} {y:Int} (h:v.heap[b]?=some (.cells #[.bool x,VI y] 24 (0,0))):(Instr.loadAt 24 (PT b 0)).run Tryz.prog v=.ok (.agg #[.bool x,VI y]) v:=
 aT h Tryz.underlying24 rfl vN
end Go.Proofs.YtkenjknmfhoppaaGreat
