import Derived.Test.YtfgogedgolgnaaaGreatZk03
namespace Go.Proofs.YtfgogedgolgnaaaGreat
open Go.RowKit
set_option linter.unusedVariables false
set_option maxHeartbeats 6400000
set_option maxRecDepth 20000
theorem ai {v:World} {p:Nat} {T:TypeId} {a b c:Value} (h:v.heap[p]?=some (.cells #[a,b,c] T (0,0))):
 (v.cell? ⟨p,0,none⟩=some a∧v.cell? ⟨p,1,none⟩=some b∧v.cell? ⟨p,2,none⟩=some c)∧v.frozen? ⟨p,0,none⟩=false∧v.frozen? ⟨p,1,none⟩=false∧v.frozen? ⟨p,2,none⟩=false:=by
 simp [World.cell?,World.frozen?,h]
theorem mg {v:World} {p:Nat} {T:TypeId} {a b c u:Value} (h:v.heap[p]?=some (.cells #[a,b,c] T (0,0))):(v.setCell ⟨p,0,none⟩ u).heap[p]?=some (.cells #[u,b,c] T (0,0)):=by
 simp [World.setCell,Array.getElem?_modify,h]
theorem mE {v:World} {p:Nat} {T:TypeId} {a b c u:Value} (h:v.heap[p]?=some (.cells #[a,b,c] T (0,0))):(v.setCell ⟨p,2,none⟩ u).heap[p]?=some (.cells #[a,b,u] T (0,0)):=by
 simp [World.setCell,Array.getElem?_modify,h]
theorem gb3 (v:World) (g:Nat) (x y z:Value):v.grownBy (((v.setCell ⟨g,0,none⟩ x).setCell ⟨g,1,none⟩ y).setCell ⟨g,2,none⟩ z) (some g):=
 aj (aj (aj (aO v (some g)) 0 x) 1 y) 2 z
theorem cA {B:Nat} {a w:World} {g:Nat} (h:Below B a w) (hg:B<=g) (x y z:Value):Below B a (((w.setCell ⟨g,0,none⟩ x).setCell ⟨g,1,none⟩ y).setCell ⟨g,2,none⟩ z):=
 ((h.setCell (p:=⟨g,0,none⟩) hg x).setCell (p:=⟨g,1,none⟩) hg y).setCell (p:=⟨g,2,none⟩) hg z
theorem ax {e:TypeId} {size:Nat} {w:World} {base base' n:Nat} {v:Value} {cs:List Value} (h:w.ownsRow base e size v n cs) (hb:base'<=base):w.ownsRow base' e size v n cs:=by
 obtain ⟨h1,h2⟩:=h;refine ⟨h1,?_⟩;rcases h2 with h2 | ⟨g,cap,cur,h2,hb',r⟩
 ·exact .inl h2
 ·exact .inr ⟨g,cap,cur,h2,by omega,r⟩
theorem bg {e:TypeId} {size:Nat} {w w':World} {base n r:Nat} {v:Value} {cs:List Value} (h:w.ownsRow base e size v n cs) (hg:w.grownBy w' (some r)) (hr:r<base):w'.ownsRow base e size v n cs:=by
 refine h.kept hg ?_;rcases h.2 with ⟨rfl,_⟩ | ⟨g,cap,cur,rfl,hb',_⟩
 ·exact .inl rfl
 ·refine .inr ?_;simp [Value.ownBlock];omega
theorem ae {e:TypeId} {size:Nat} {w w':World} {base n:Nat} {v:Value} {cs:List Value} (h:w.ownsRow base e size v n cs) (hb:Below w.heap.size w w'):w'.ownsRow base e size v n cs:=by
 obtain ⟨h1,h2⟩:=h;refine ⟨h1,?_⟩;rcases h2 with h2 | ⟨g,cap,cur,h2,hb',hg,r⟩
 ·exact .inl h2
 ·refine .inr ⟨g,cap,cur,h2,hb',?_,r⟩;exact aC hg hb (Array.getElem?_eq_some_iff.1 hg).1
theorem jo {P:Program} (w:World) {o:Oper} {a:Act} {K:Act->World->Prop} {Q:Exit->Act->World->Prop} (s x:Operand) (t:TypeId)
 (ho:o.op=.call { callee:=.builtin .append,args:=#[s,x],argTypes:=#[t,t] }) (e:TypeId) (ht:P.underlying t=some (.slice e)) (z:Value) (size bytes:Nat)
 (hi:(P.info? e).map (fun i=>(i.zero,i.size,i.bytes))=some (some z,size,bytes)) (hzs:z.cells.size=size) (hsz:0<size)
 (base n:Nat) (v:Value) (cs:List Value) (hs:a.eval s=v) (hown:w.ownsRow base e size v n cs)
 (b off m c:Nat) (ys:List Value) (hx:a.eval x=.slice (some ⟨b,off,none⟩) m c) (hm:0<m) (hy:RowC w (some ⟨b,off,none⟩) m size ys) (h1:∀u∈ys,u.oneCell'=true)
 (hbd:(n+m)*bytes<=140737488355328) (hbd':n+m<=9223372036854775807)
 (hbw:base<=w.heap.size) (B:Nat) (W:World) (hb:Below B W w) (hB:B<=base)
 (h:∀g' cap' w',w'.ownsRow base e size (.slice (some ⟨g',0,none⟩) (n+m) cap') (n+m) (cs++ys)->Below B W w'->K (a.put o.dst (.slice (some ⟨g',0,none⟩) (n+m) cap')) w'):o.wp P a w K Q:=by
 obtain ⟨i0,hi,hz0,hz1,hz2⟩:=info_parts hi;refine wp_append_own w s x t ho base e i0 z size bytes ht hi hz0 hz1 hz2 hzs hsz v n _ hs hown ⟨b,off,none⟩ m c ys hx hy.1 (kg hy) h1 (by unfold maxLen;omega) hbd (by omega) ?_;intro v' w' h1 h2 h3;have hbl:Below B W w':=hb.grown h2 (by omega) (fun k hk=>by have:=(hown.lt k hk).1;omega);rcases h1.2 with ⟨e1,e2⟩ | ⟨g,cap,cur,e1,r⟩
 ·omega
 ·subst e1;exact h g cap w' h1 hbl
theorem jp {P:Program} (w:World) {ops:Array Oper} {rest:List Oper} {o:Oper} {a:Act} {Q:Exit->Act->World->Prop} (hgd:o.guard=none) (s x:Operand) (t:TypeId)
 (ho:o.op=.call { callee:=.builtin .append,args:=#[s,x],argTypes:=#[t,t] }) (e:TypeId) (ht:P.underlying t=some (.slice e)) (z:Value) (size bytes:Nat)
 (hi:(P.info? e).map (fun i=>(i.zero,i.size,i.bytes))=some (some z,size,bytes)) (hzs:z.cells.size=size) (hsz:0<size)
 (base n:Nat) (v:Value) (cs:List Value) (hs:a.eval s=v) (hown:w.ownsRow base e size v n cs)
 (b off m c:Nat) (ys:List Value) (hx:a.eval x=.slice (some ⟨b,off,none⟩) m c) (hm:0<m) (hy:RowC w (some ⟨b,off,none⟩) m size ys) (h1:∀u∈ys,u.oneCell'=true)
 (hbd:(n+m)*bytes<=140737488355328) (hbd':n+m<=9223372036854775807)
 (hbw:base<=w.heap.size) (B:Nat) (W:World) (hb:Below B W w) (hB:B<=base)
 (h:∀g' cap' w',w'.ownsRow base e size (.slice (some ⟨g',0,none⟩) (n+m) cap') (n+m) (cs++ys)->Below B W w'->wpList P ops Q rest (a.put o.dst (.slice (some ⟨g',0,none⟩) (n+m) cap')) w'):wpList P ops Q (o::rest) a w:=
 wpList_plain hgd fun _ hK=>jo w s x t ho e ht z size bytes hi hzs hsz base n v cs hs hown b off m c ys hx hm hy h1 hbd hbd' hbw B W hb hB fun g' cap' w' h2 h3=>hK _ _ (h g' cap' w' h2 h3)
theorem dd {e:TypeId} {size:Nat} {w:World} {base n:Nat} {v:Value} {cs:List Value} (h:w.ownsRow base e size v n cs):w.drew.ownsRow base e size v n cs:=h
def CurAt (e:TypeId) (w:World) (g m:Nat) (cs:List Value):Prop:=cs.length=m∧∃cur,w.heap[g]?=some (.cells cur e (0,0))∧cur.toList.take m=cs
theorem CurAt.lt {e:TypeId} {w:World} {g m:Nat} {cs:List Value} (h:CurAt e w g m cs):g<w.heap.size:=by
 obtain ⟨_,cur,h2,_⟩:=h;exact (Array.getElem?_eq_some_iff.1 h2).1
theorem CurAt.cell {e:TypeId} {w:World} {g m:Nat} {cs:List Value} (h:CurAt e w g m cs) (j:Nat) (u:Value) (hj:cs[j]?=some u):w.cell? ⟨g,j,none⟩=some u:=by
 obtain ⟨h1,cur,h2,h3⟩:=h;subst h3;rw [List.getElem?_take] at hj;split at hj
 ·simp only [World.cell?,h2];simpa using hj
 ·cases hj
theorem CurAt.free {e:TypeId} {w:World} {g m:Nat} {cs:List Value} (h:CurAt e w g m cs) (j:Nat):w.frozen? ⟨g,j,none⟩=false:=by
 obtain ⟨h1,cur,h2,h3⟩:=h;simp [World.frozen?,h2]
theorem CurAt.store {e:TypeId} {w:World} {g m:Nat} {cs:List Value} (h:CurAt e w g m cs) (j:Nat) (u:Value):CurAt e (w.setCell ⟨g,j,none⟩ u) g m (cs.set j u):=by
 obtain ⟨h1,cur,h2,h3⟩:=h;refine ⟨by simpa using h1,cur.setIfInBounds j u,by simp [World.setCell,Array.getElem?_modify,h2],?_⟩;subst h3;rw [Array.toList_setIfInBounds,List.take_set]
theorem CurAt.gb {e:TypeId} {w w':World} {g m r:Nat} {cs:List Value} (h:CurAt e w g m cs) (hg:w.grownBy w' (some r)) (hne:g≠r):CurAt e w' g m cs:=by
 obtain ⟨h1,cur,h2,h3⟩:=h;exact ⟨h1,cur,aV h2 hg hne,h3⟩
theorem CurAt.of_own {e:TypeId} {size:Nat} {w:World} {base g n cap:Nat} {cs:List Value} (h:w.ownsRow base e size (.slice (some ⟨g,0,none⟩) n cap) n cs):CurAt e w g (n*size) cs∧base<=g:=by
 obtain ⟨h1,h2⟩:=h;rcases h2 with ⟨h2,_⟩ | ⟨g',cap',cur,h2,hb,hg,_,_,_,ht⟩
 ·cases h2
 ·cases h2;exact ⟨⟨h1,cur,hg,ht⟩,hb⟩
theorem bW {e:TypeId} {size:Nat} {w:World} {base n:Nat} {a:Option Addr} {cap:Nat} {cs:List Value} (h:w.ownsRow base e size (.slice a n cap) n cs):RowC w a n size cs:=by
 cases a with
 | none=>
  obtain ⟨h1,h2⟩:=h;rcases h2 with ⟨_,h2⟩ | ⟨g',cap',cur,h2,_⟩
  ·subst h2;exact ⟨h1,.inl rfl⟩
  ·cases h2
 | some q=>
  have hq:q=⟨q.block,0,none⟩:=by
   obtain ⟨h1,h2⟩:=h;rcases h2 with ⟨h2,_⟩ | ⟨g',cap',cur,h2,_⟩
   ·cases h2
   ·cases h2;rfl
  rw [hq] at h |-;have:=CurAt.of_own h;refine ⟨h.1,.inr ⟨q.block,0,rfl,this.1.lt,fun i u hu=>?_⟩⟩;rw [Nat.zero_add];exact this.1.cell i u hu
theorem aE {e:TypeId} {size:Nat} {w:World} {base n cap:Nat} {q:Addr} {cs:List Value} (h:w.ownsRow base e size (.slice (some q) n cap) n cs):q=⟨q.block,0,none⟩∧base<=q.block∧q.block<w.heap.size:=by
 rcases h.2 with ⟨h2,_⟩ | ⟨g',cap',cur,h2,hb,hg,_⟩
 ·cases h2
 ·cases h2;exact ⟨rfl,hb,(Array.getElem?_eq_some_iff.1 hg).1⟩
theorem bR {a b c:World} {r:Option Nat} (h:a.grownBy b r) (k:b.grownBy c r):a.grownBy c r:=
 ⟨k.os.trans h.os,k.tape.trans h.tape,k.output.trans h.output,Nat.le_trans h.size k.size,fun i hi hn=>(k.block i (Nat.lt_of_lt_of_le hi h.size) hn).trans (h.block i hi hn)⟩
theorem aa {w w':World} {b:Nat} {o:Obj} (h:Hid (w.heap[b]?=some o)) (n:Below w.heap.size w w'):Hid (w'.heap[b]?=some o):=aC h.out n (Array.getElem?_eq_some_iff.1 h.out).1
def dY (es:List EntM) (first:Nat):Nat->Nat->Option Nat
 | _,0=>none
 | w,left+1=>if (es[first+w]?.getD aZ).valid=false then some w else dY es first (w+1) left
section
attribute [local go_sem ↓] Go.wp_at_zero Go.wp_at_succ
theorem Tryz.infoEnt:(Tryz.prog.info? 74).map (fun i=>(i.zero,i.size,i.bytes))=some (some (.agg #[.bool false,.int .i64 0,.int .u64 0,.int .u64 0,.bool false,.int .u64 0]),6,48):=by kernel_rfl
theorem gQ:∀es:List EntM,∀u∈al es,u.oneCell'=true
 | [],u,h=>by simp [al] at h
 | e::r,u,h=>by
  simp only [al,List.mem_append] at h;rcases h with h | h
  ·simp [cJ] at h;rcases h with rfl | rfl | rfl | rfl | rfl | rfl <;> rfl
  ·exact gQ r u h
def TlbOwn (base:Nat) (w:World) (v:Value) (t:TlbM):Prop:=
 ∃g cap,v=.agg #[.int .i64 t.sets,.int .i64 t.ways,.slice (some ⟨g,0,none⟩) t.es.length cap]∧w.ownsRow base 74 6 (.slice (some ⟨g,0,none⟩) t.es.length cap) t.es.length (al t.es)
theorem dA (v:Value) (t:TlbM) (w:World) (h:TlbAt w v t):
 Calls Tryz.prog 45 #[v] w fun e w'=>(∃x,e=.returned x∧TlbOwn w.heap.size w' x t)∧Below w.heap.size w w':=by
 have HT:Hid (TlbAt w v t):=h;obtain ⟨a,cap,rfl,hr,_,_,_,hl,hlc,hcm,hnil,hsp⟩:=h;obtain ⟨sets,ways,es⟩:=t;obtain ⟨n,hn⟩:∃n,es.length=n:=⟨_,rfl⟩;simp only at hr hl hlc hnil |-;rw [hn] at hr hl hlc hnil |-;have n1:=((Below.refl w.heap.size w).alloc (Nat.le_refl _) (Obj.cells #[.int .i64 sets,.int .i64 ways,.slice a n cap] 34)).alloc (by simp) (Obj.cells #[.int .i64 0,.int .i64 0,.slice none 0 0] 34);have HR1:Hid (RowC ((w.alloc (Obj.cells #[.int .i64 sets,.int .i64 ways,.slice a n cap] 34)).alloc (Obj.cells #[.int .i64 0,.int .i64 0,.slice none 0 0] 34)) a n 6 (al es)):=hr.keep n1;have H1:Hid (((w.alloc (Obj.cells #[.int .i64 sets,.int .i64 ways,.slice a n cap] 34)).alloc (Obj.cells #[.int .i64 0,.int .i64 0,.slice none 0 0] 34)).heap[w.heap.size]?=some (.cells #[.int .i64 sets,.int .i64 ways,.slice a n cap] 34 (0,0))):=by
  show _=_;rw [heap_alloc_old _ _ (by simp)];exact heap_alloc_new w _
 have H2:Hid (((w.alloc (Obj.cells #[.int .i64 sets,.int .i64 ways,.slice a n cap] 34)).alloc (Obj.cells #[.int .i64 0,.int .i64 0,.slice none 0 0] 34)).heap[w.heap.size+1]?=some (.cells #[.int .i64 0,.int .i64 0,.slice none 0 0] 34 (0,0))):=by
  have:=heap_alloc_new (w.alloc (Obj.cells #[.int .i64 sets,.int .i64 ways,.slice a n cap] 34)) (Obj.cells #[.int .i64 0,.int .i64 0,.slice none 0 0] 34);simp only [World.size_alloc] at this;exact this
 have l1:w.heap.size+1<((w.alloc (Obj.cells #[.int .i64 sets,.int .i64 ways,.slice a n cap] 34)).alloc (Obj.cells #[.int .i64 0,.int .i64 0,.slice none 0 0] 34)).heap.size:=by simp
 have HN:Hid (a=none->n=0∧cap=0):=hnil;have HSp:Hid (∀q,a=some q->q.spot=none):=hsp;clear hr hnil hsp HT;go_enter Tryz.func45,Tryz.ntmps45;go_wp2_with fail;generalize ((w.alloc (Obj.cells #[.int .i64 sets,.int .i64 ways,.slice a n cap] 34)).alloc (Obj.cells #[.int .i64 0,.int .i64 0,.slice none 0 0] 34))=v1 at n1 HR1 H1 H2 l1 |-;obtain ⟨⟨c0,c1,c2⟩,_,_,_⟩:=ai H1.out;obtain ⟨⟨d0,d1,d2⟩,e0,e1,e2⟩:=ai H2.out;have ne1:v1.heap.size≠w.heap.size:=by omega
 have ne2:w.heap.size≠v1.heap.size:=by omega
 have ne3:v1.heap.size≠w.heap.size+1:=by omega
 have ne4:w.heap.size+1≠v1.heap.size:=by omega
 have n2:Below v1.heap.size v1 (v1.alloc (Obj.cells #[] 74)).drew:=((Below.refl v1.heap.size v1).alloc (Nat.le_refl _) (Obj.cells #[] 74)).drew;go_region_held3 (fun w'=>w'.cell? ⟨w.heap.size,0,none⟩=some (.int .i64 sets)∧w'.cell? ⟨w.heap.size,1,none⟩=some (.int .i64 ways)∧w'.cell? ⟨w.heap.size,2,none⟩=some (.slice a n cap)) (go_keep)
  (first
   | (refine et _ (by rfl) (.tmp 7) (.tmp 9) 32 (by rfl) 74 Tryz.underlying32 (.agg #[.bool false,.int .i64 0,.int .u64 0,.int .u64 0,.bool false,.int .u64 0]) 6 48 Tryz.infoEnt (by rfl) (by decide) v1.heap.size v1.heap.size 0 0 [] (by rfl) (OwnC.new 74 6 v1.drew [] 0 (by rfl) (by decide)) a n cap (al es) (by rfl) HN.out HSp.out (RowC.keep HR1.out n2) (gQ es) (by omega) (by omega) v1.heap.size v1 n2 (Nat.le_refl _) ?_;intro g3 c3 v3 o3 n3;have k1:=ai (aC H1.out n3 (by omega));have k2:=ai (aC H2.out n3 l1);obtain ⟨⟨q0,q1,q2⟩,_,_,_⟩:=k1;obtain ⟨⟨j0,j1,j2⟩,i0,i1,i2⟩:=k2;have l3:=n3.size;have O3:Hid (OwnC 74 6 v3 v1.heap.size g3 (0+n) c3 ([]++al es)):=o3;clear o3))
 go_wp2_with fail;have O4:v3.ownsRow v1.heap.size 74 6 (.slice (some ⟨g3,0,none⟩) n c3) n (al es):=by
  have:=O3.out;rw [Nat.zero_add,List.nil_append] at this;exact this
 refine bodyPost_ret (v:=.agg #[.int .i64 sets,.int .i64 ways,.slice (some ⟨g3,0,none⟩) n c3]) (by simp [results,Tryz.results45,go_sem,j0,j1,j2]) rfl ⟨⟨_,rfl,g3,c3,by rw [hn],?_⟩,cA (Below.step n1 n3 (Nat.le_refl _)) (by omega) _ _ _⟩;rw [hn];exact ax (bg O4 (gb3 v3 (w.heap.size+1) _ _ _) l1) (by omega)
theorem TlbOwn.row {base:Nat} {w:World} {v:Value} {t:TlbM} (h:TlbOwn base w v t):∃g cap,v=.agg #[.int .i64 t.sets,.int .i64 t.ways,.slice (some ⟨g,0,none⟩) t.es.length cap]∧RowC w (some ⟨g,0,none⟩) t.es.length 6 (al t.es)∧base<=g∧g<w.heap.size:=by
 obtain ⟨g,cap,rfl,ho⟩:=h;have:=aE ho;exact ⟨g,cap,rfl,bW ho,this.2.1,this.2.2⟩
theorem TlbOwn.keep {base:Nat} {w w':World} {v:Value} {t:TlbM} (h:TlbOwn base w v t) (hb:Below w.heap.size w w'):TlbOwn base w' v t:=by
 obtain ⟨g,cap,rfl,ho⟩:=h;exact ⟨g,cap,rfl,ae ho hb⟩
def cy (t:TlbM):Prop:=
 (∀e∈t.es,bf e)∧(-9223372036854775808<=t.sets∧t.sets<=9223372036854775807)∧(-9223372036854775808<=t.ways∧t.ways<=9223372036854775807)∧t.es.length<=1048576
theorem TlbAt.ok {w:World} {v:Value} {t:TlbM} (h:TlbAt w v t):cy t:=by
 obtain ⟨a,cap,_,_,h1,h2,h3,h4,_⟩:=h;exact ⟨h1,h2,h3,h4⟩
theorem TlbOwn.at {base:Nat} {w:World} {v:Value} {t:TlbM} (h:TlbOwn base w v t) (hk:cy t):TlbAt w v t:=by
 obtain ⟨g,cap,rfl,ho⟩:=h;have hr:=bW ho;rcases ho.2 with ⟨h2,_⟩ | ⟨g',cap',cur,h2,hb,hg,hc1,hc2,_⟩
 ·cases h2
 ·cases h2;exact ⟨some ⟨g,0,none⟩,cap,rfl,hr,hk.1,hk.2.1,hk.2.2.1,hk.2.2.2,hc1,by unfold maxLen at hc2;omega,(by intro h;cases h),(by intro q hq;cases hq;rfl)⟩
end
section
attribute [local go_sem ↓] Go.wp_at_zero Go.wp_at_succ
theorem jD (b off:Nat) (cap:Nat) (ways:Int) (es:List EntM) (n:Nat) (p:Bool) (w:World) (hr:RowC w (some ⟨b,off,none⟩) n 6 (al es)) (he:∀e∈es,bf e) (hl:n<=1048576) (hN:es.length=n)
 (hw:1<=ways) (hw':ways<=4) (hn:(n:Int)=1*ways):
  Calls Tryz.prog 44 #[.agg #[.int .i64 1,.int .i64 ways,.slice (some ⟨b,off,none⟩) n cap],.bool p] w fun e w'=>e=.returned (.bool (bq ⟨1,ways,es⟩ p 0 es))∧Below w.heap.size w w':=by
 have a1:=bm w #[.int .i64 1,.int .i64 ways,.slice (some ⟨b,off,none⟩) n cap] 34;have hn':((n:Int) != ways)=false:=by rw [bne_eq_false_iff_eq];omega
 have HN:Hid (es.length=n):=hN;have HR:Hid (RowC w (some ⟨b,off,none⟩) n 6 (al es)):=hr;have HE:Hid (∀e∈es,bf e):=he;obtain ⟨R,hR⟩:∃R,bq ⟨1,ways,es⟩ p 0 es=R:=⟨_,rfl⟩;rw [hR];have HP:Hid (bq ⟨1,ways,es⟩ p 0 es=R):=hR;clear hN hr he hn hR;go_enter Tryz.func44,Tryz.ntmps44;go_wp2_with fail;generalize w.alloc (Obj.cells #[.int .i64 1,.int .i64 ways,.slice (some ⟨b,off,none⟩) n cap] 34)=v1 at a1 |-;obtain ⟨l1,c1,n1⟩:=a1;have c10:v1.cell? ⟨w.heap.size,0,none⟩=some (.int .i64 1):=c1 0;have c11:v1.cell? ⟨w.heap.size,1,none⟩=some (.int .i64 ways):=c1 1;have c12:v1.cell? ⟨w.heap.size,2,none⟩=some (.slice (some ⟨b,off,none⟩) n cap):=c1 2;clear c1;go_loopw [5] (fun i wr=>∃k:Nat,k<=n∧i=.int .i64 k∧(∀j x,j<k->es[j]?=some x->aB ⟨1,ways,es⟩ p j x=true)∧Below v1.heap.size v1 wr) (fun i _=>n-(intOf i).toNat)
 case atStart=>exact ⟨0,Nat.zero_le _,rfl,fun j x hj=>absurd hj (by omega),Below.refl _ _⟩
 case round=>
  obtain ⟨k,hk,rfl,hall,hb⟩:=hrel;have HA:Hid (∀j x,j<k->es[j]?=some x->aB ⟨1,ways,es⟩ p j x=true):=hall;clear hall;have d10:=Below.cell2 hb c10 l1;have d11:=Below.cell2 hb c11 l1;have d12:=Below.cell2 hb c12 l1;have l2:w.heap.size<wr.heap.size:=Nat.lt_of_lt_of_le l1 hb.size;have n1r:=Below.step n1 hb (Nat.le_refl _);by_cases hlt:k<n
  ·have hx:∃x:EntM,es[k]?=some x:=⟨_,List.getElem?_eq_getElem (by have:=HN.out;omega)⟩;obtain ⟨⟨v,lv,tg,asd,gl,pt⟩,hx⟩:=hx;have hok:bf ⟨v,lv,tg,asd,gl,pt⟩:=HE.out _ (List.mem_of_getElem? hx);have HRr:=RowC.keep HR.out n1r;have g0:wr.cell? ⟨b,off+k*6,none⟩=some (.bool v):=aL HRr HN.out k _ hx 0 _ (by omega) rfl;have g1:wr.cell? ⟨b,off+k*6+1,none⟩=some (.int .i64 lv):=aL HRr HN.out k _ hx 1 _ (by omega) rfl;have g2:wr.cell? ⟨b,off+k*6+2,none⟩=some (.int .u64 tg):=aL HRr HN.out k _ hx 2 _ (by omega) rfl;have g3:wr.cell? ⟨b,off+k*6+3,none⟩=some (.int .u64 asd):=aL HRr HN.out k _ hx 3 _ (by omega) rfl;have g4:wr.cell? ⟨b,off+k*6+4,none⟩=some (.bool gl):=aL HRr HN.out k _ hx 4 _ (by omega) rfl;have g5:wr.cell? ⟨b,off+k*6+5,none⟩=some (.int .u64 pt):=aL HRr HN.out k _ hx 5 _ (by omega) rfl;have HX:Hid (es[k]?=some ⟨v,lv,tg,asd,gl,pt⟩):=hx;have HPf:Hid (aB ⟨1,ways,es⟩ p k ⟨v,lv,tg,asd,gl,pt⟩=false->false=R):=fun h=>by rw [<-HP.out];exact (bL _ p es 0 k _ hx (by rw [Nat.zero_add];exact h)).symm
   have HPt:Hid (aB ⟨1,ways,es⟩ p k ⟨v,lv,tg,asd,gl,pt⟩=true->∀j x,j<k+1->es[j]?=some x->aB ⟨1,ways,es⟩ p j x=true):=fun h j x hj hx'=>by
    by_cases e:j=k
    ·subst e;rw [hx] at hx';cases hx';exact h
    ·exact HA.out j x (by omega) hx'
   clear hx HRr;have a2:=bm wr #[.bool v,.int .i64 lv,.int .u64 tg,.int .u64 asd,.bool gl,.int .u64 pt] 74;go_wp2_with fail;generalize wr.alloc (Obj.cells #[.bool v,.int .i64 lv,.int .u64 tg,.int .u64 asd,.bool gl,.int .u64 pt] 74)=v2 at a2 |-;obtain ⟨l3,c2,n2⟩:=a2;have k0:=af (c2 0) l3;have k1:=af (c2 1) l3;have k2:=af (c2 2) l3;have k3:=af (c2 3) l3;have k4:=af (c2 4) l3;have k5:=af (c2 5) l3;have j0:=af (Below.cell2 n2 d10 l2) (Nat.lt_trans l2 l3);have j1:=af (Below.cell2 n2 d11 l2) (Nat.lt_trans l2 l3);have hb2:=Below.step hb n2 (Nat.le_refl _);have n12:=Below.step n1 hb2 (Nat.le_refl _);have ne:=aT v2;clear c2 d10 d11 d12 hb n2 g0 g1 g2 g3 g4 g5 c10 c11 c12 n1r;obtain ⟨gd,hgd⟩:∃gd,ay ⟨v,lv,tg,asd,gl,pt⟩ p=gd:=⟨_,rfl⟩;have HGd:Hid (∀u:Lies v2,Calls Tryz.prog 56 #[cV ⟨v,lv,tg,asd,gl,pt⟩,.bool p] u.w fun e w'=>e=.returned (.bool gd)∧Below u.w.heap.size u.w w'):=fun u=>by
    have:=ce ⟨v,lv,tg,asd,gl,pt⟩ p u.w hok;rw [hgd] at this;exact this
   have HGv:Hid (ay ⟨v,lv,tg,asd,gl,pt⟩ p=gd):=hgd;clear hgd;cases v
   ·have hgf:gd=false:=by rw [<-HGv.out];simp [ay]
    subst hgf;by_cases q1n:¬(lv=0)
    ·have q1:(lv == 0)=false:=by simpa using q1n
     have HQ:Hid ((lv == 0)=false):=q1;clear q1n;refine am (by kernel_rfl) (by kernel_rfl) ?_;repeat (go_big_quiet_step ((go_at_call 56;exact ao _ (HGd.out _))))
     refine wpQuiet_nil ?_;rintro _ ⟨u,rfl⟩;go_wp2_with fail;go_ret;exact ⟨ah (HPf.out (by simp [aB,HGv.out,HQ.out])),Below.step n12 u.h (Nat.le_refl _)⟩
    have q1z:lv=0:=Decidable.not_not.1 q1n;subst q1z;clear q1n;by_cases q2n:¬(tg=0)
    ·have q2:(tg == 0)=false:=by simpa using q2n
     have HQ:Hid ((tg == 0)=false):=q2;clear q2n;refine am (by kernel_rfl) (by kernel_rfl) ?_;repeat (go_big_quiet_step ((go_at_call 56;exact ao _ (HGd.out _))))
     refine wpQuiet_nil ?_;rintro _ ⟨u,rfl⟩;go_wp2_with fail;go_ret;exact ⟨ah (HPf.out (by simp [aB,HGv.out,HQ.out])),Below.step n12 u.h (Nat.le_refl _)⟩
    have q2z:tg=0:=Decidable.not_not.1 q2n;subst q2z;clear q2n;by_cases q3n:¬(asd=0)
    ·have q3:(asd == 0)=false:=by simpa using q3n
     have HQ:Hid ((asd == 0)=false):=q3;clear q3n;refine am (by kernel_rfl) (by kernel_rfl) ?_;repeat (go_big_quiet_step ((go_at_call 56;exact ao _ (HGd.out _))))
     refine wpQuiet_nil ?_;rintro _ ⟨u,rfl⟩;go_wp2_with fail;go_ret;exact ⟨ah (HPf.out (by simp [aB,HGv.out,HQ.out])),Below.step n12 u.h (Nat.le_refl _)⟩
    have q3z:asd=0:=Decidable.not_not.1 q3n;subst q3z;clear q3n;cases hgl:gl
    ·subst hgl;by_cases q5n:¬(pt=0)
     ·have q5:(pt == 0)=false:=by simpa using q5n
      have HQ:Hid ((pt == 0)=false):=q5;clear q5n;refine am (by kernel_rfl) (by kernel_rfl) ?_;repeat (go_big_quiet_step ((go_at_call 56;exact ao _ (HGd.out _))))
      refine wpQuiet_nil ?_;rintro _ ⟨u,rfl⟩;go_wp2_with fail;go_ret;exact ⟨ah (HPf.out (by simp [aB,HGv.out,HQ.out])),Below.step n12 u.h (Nat.le_refl _)⟩
     have q5z:pt=0:=Decidable.not_not.1 q5n;subst q5z;clear q5n;refine am (by kernel_rfl) (by kernel_rfl) ?_;repeat (go_big_quiet_step ((go_at_call 56;exact ao _ (HGd.out _))))
     refine wpQuiet_nil ?_;rintro _ ⟨u,rfl⟩;go_wp2_with fail;go_roundw
     case rel=>exact ⟨k+1,by omega,by go_num,HPt.out (by simp [aB]),Below.step hb2 u.h (Nat.le_refl _)⟩
     case measure=>simp [intOf];omega
    ·subst hgl;refine am (by kernel_rfl) (by kernel_rfl) ?_;repeat (go_big_quiet_step ((go_at_call 56;exact ao _ (HGd.out _))))
     refine wpQuiet_nil ?_;rintro _ ⟨u,rfl⟩;go_wp2_with fail;go_ret;exact ⟨ah (HPf.out (by simp [aB,HGv.out])),Below.step n12 u.h (Nat.le_refl _)⟩
   ·cases gd
    ·
     refine am (by kernel_rfl) (by kernel_rfl) ?_;repeat (go_big_quiet_step ((go_at_call 56;exact ao _ (HGd.out _))))
     refine wpQuiet_nil ?_;rintro _ ⟨u,rfl⟩;go_wp2_with fail;go_ret;exact ⟨ah (HPf.out (by simp [aB,HGv.out])),Below.step n12 u.h (Nat.le_refl _)⟩
    ·have htg:tg<512:=dV HGv.out;have htg0:0<=tg:=hok.2.1.1;have hd0:0<=(k:Int)/ways:=Int.ediv_nonneg (by omega) (by omega);have hd1:(k:Int)/ways<=1048576:=Int.le_trans (Int.ediv_le_self _ (by omega)) (by omega);by_cases hq:tg%1=(k:Int)/ways
     ·have hq':((0:Int) != (k:Int)/ways)=false:=by rw [bne_eq_false_iff_eq];omega
      have HQ:Hid (tg%1=(k:Int)/ways):=hq;clear hq;refine am (by kernel_rfl) (by kernel_rfl) ?_;repeat (go_big_quiet_step ((go_at_call 56;exact ao _ (HGd.out _))))
      refine wpQuiet_nil ?_;rintro _ ⟨u,rfl⟩;go_wp2_with fail;go_roundw
      case rel=>exact ⟨k+1,by omega,by go_num,HPt.out (by simp [aB,HGv.out,HQ.out]),Below.step hb2 u.h (Nat.le_refl _)⟩
      case measure=>simp [intOf];omega
     ·have hq':((0:Int) != (k:Int)/ways)=true:=by rw [bne_iff_ne];omega
      have HQ:Hid (¬tg%1=(k:Int)/ways):=hq;clear hq;refine am (by kernel_rfl) (by kernel_rfl) ?_;repeat (go_big_quiet_step ((go_at_call 56;exact ao _ (HGd.out _))))
      refine wpQuiet_nil ?_;rintro _ ⟨u,rfl⟩;go_wp2_with fail;go_ret;exact ⟨ah (HPf.out (by have hz:=HQ.out;rw [Int.emod_one] at hz;simp [aB,hz])),Below.step n12 u.h (Nat.le_refl _)⟩
  ·have hkn:k=n:=by omega
   subst hkn;have HT:Hid (true=R):=by
    show true=R;rw [<-HP.out];exact (bI _ p es 0 (fun j x hx=>by rw [Nat.zero_add];exact HA.out j x (by have h1:=(List.getElem?_eq_some_iff.1 hx).1;have h2:=HN.out;omega) hx)).symm
   clear c10 c11 c12 n1 d10 d11;go_wp2_with fail;go_ret;exact ⟨ah HT.out,n1r⟩
end
section
attribute [local go_sem ↓] Go.wp_at_zero Go.wp_at_succ
theorem jf (b off:Nat) (cap:Nat) (ways:Int) (es:List EntM) (n:Nat) (p:Bool) (w:World) (hr:RowC w (some ⟨b,off,none⟩) n 6 (al es)) (he:∀e∈es,bf e) (hl:n<=1048576) (hN:es.length=n)
 (hw:1<=ways) (hw':ways<=4) (hn:(n:Int)=2*ways):
  Calls Tryz.prog 44 #[.agg #[.int .i64 2,.int .i64 ways,.slice (some ⟨b,off,none⟩) n cap],.bool p] w fun e w'=>e=.returned (.bool (bq ⟨2,ways,es⟩ p 0 es))∧Below w.heap.size w w':=by
 have a1:=bm w #[.int .i64 2,.int .i64 ways,.slice (some ⟨b,off,none⟩) n cap] 34;have hn':((n:Int) != 2*ways)=false:=by rw [bne_eq_false_iff_eq];omega
 have HN:Hid (es.length=n):=hN;have HR:Hid (RowC w (some ⟨b,off,none⟩) n 6 (al es)):=hr;have HE:Hid (∀e∈es,bf e):=he;obtain ⟨R,hR⟩:∃R,bq ⟨2,ways,es⟩ p 0 es=R:=⟨_,rfl⟩;rw [hR];have HP:Hid (bq ⟨2,ways,es⟩ p 0 es=R):=hR;clear hN hr he hn hR;go_enter Tryz.func44,Tryz.ntmps44;go_wp2_with fail;generalize w.alloc (Obj.cells #[.int .i64 2,.int .i64 ways,.slice (some ⟨b,off,none⟩) n cap] 34)=v1 at a1 |-;obtain ⟨l1,c1,n1⟩:=a1;have c10:v1.cell? ⟨w.heap.size,0,none⟩=some (.int .i64 2):=c1 0;have c11:v1.cell? ⟨w.heap.size,1,none⟩=some (.int .i64 ways):=c1 1;have c12:v1.cell? ⟨w.heap.size,2,none⟩=some (.slice (some ⟨b,off,none⟩) n cap):=c1 2;clear c1;go_loopw [5] (fun i wr=>∃k:Nat,k<=n∧i=.int .i64 k∧(∀j x,j<k->es[j]?=some x->aB ⟨2,ways,es⟩ p j x=true)∧Below v1.heap.size v1 wr) (fun i _=>n-(intOf i).toNat)
 case atStart=>exact ⟨0,Nat.zero_le _,rfl,fun j x hj=>absurd hj (by omega),Below.refl _ _⟩
 case round=>
  obtain ⟨k,hk,rfl,hall,hb⟩:=hrel;have HA:Hid (∀j x,j<k->es[j]?=some x->aB ⟨2,ways,es⟩ p j x=true):=hall;clear hall;have d10:=Below.cell2 hb c10 l1;have d11:=Below.cell2 hb c11 l1;have d12:=Below.cell2 hb c12 l1;have l2:w.heap.size<wr.heap.size:=Nat.lt_of_lt_of_le l1 hb.size;have n1r:=Below.step n1 hb (Nat.le_refl _);by_cases hlt:k<n
  ·have hx:∃x:EntM,es[k]?=some x:=⟨_,List.getElem?_eq_getElem (by have:=HN.out;omega)⟩;obtain ⟨⟨v,lv,tg,asd,gl,pt⟩,hx⟩:=hx;have hok:bf ⟨v,lv,tg,asd,gl,pt⟩:=HE.out _ (List.mem_of_getElem? hx);have HRr:=RowC.keep HR.out n1r;have g0:wr.cell? ⟨b,off+k*6,none⟩=some (.bool v):=aL HRr HN.out k _ hx 0 _ (by omega) rfl;have g1:wr.cell? ⟨b,off+k*6+1,none⟩=some (.int .i64 lv):=aL HRr HN.out k _ hx 1 _ (by omega) rfl;have g2:wr.cell? ⟨b,off+k*6+2,none⟩=some (.int .u64 tg):=aL HRr HN.out k _ hx 2 _ (by omega) rfl;have g3:wr.cell? ⟨b,off+k*6+3,none⟩=some (.int .u64 asd):=aL HRr HN.out k _ hx 3 _ (by omega) rfl;have g4:wr.cell? ⟨b,off+k*6+4,none⟩=some (.bool gl):=aL HRr HN.out k _ hx 4 _ (by omega) rfl;have g5:wr.cell? ⟨b,off+k*6+5,none⟩=some (.int .u64 pt):=aL HRr HN.out k _ hx 5 _ (by omega) rfl;have HX:Hid (es[k]?=some ⟨v,lv,tg,asd,gl,pt⟩):=hx;have HPf:Hid (aB ⟨2,ways,es⟩ p k ⟨v,lv,tg,asd,gl,pt⟩=false->false=R):=fun h=>by rw [<-HP.out];exact (bL _ p es 0 k _ hx (by rw [Nat.zero_add];exact h)).symm
   have HPt:Hid (aB ⟨2,ways,es⟩ p k ⟨v,lv,tg,asd,gl,pt⟩=true->∀j x,j<k+1->es[j]?=some x->aB ⟨2,ways,es⟩ p j x=true):=fun h j x hj hx'=>by
    by_cases e:j=k
    ·subst e;rw [hx] at hx';cases hx';exact h
    ·exact HA.out j x (by omega) hx'
   clear hx HRr;have a2:=bm wr #[.bool v,.int .i64 lv,.int .u64 tg,.int .u64 asd,.bool gl,.int .u64 pt] 74;go_wp2_with fail;generalize wr.alloc (Obj.cells #[.bool v,.int .i64 lv,.int .u64 tg,.int .u64 asd,.bool gl,.int .u64 pt] 74)=v2 at a2 |-;obtain ⟨l3,c2,n2⟩:=a2;have k0:=af (c2 0) l3;have k1:=af (c2 1) l3;have k2:=af (c2 2) l3;have k3:=af (c2 3) l3;have k4:=af (c2 4) l3;have k5:=af (c2 5) l3;have j0:=af (Below.cell2 n2 d10 l2) (Nat.lt_trans l2 l3);have j1:=af (Below.cell2 n2 d11 l2) (Nat.lt_trans l2 l3);have hb2:=Below.step hb n2 (Nat.le_refl _);have n12:=Below.step n1 hb2 (Nat.le_refl _);have ne:=aT v2;clear c2 d10 d11 d12 hb n2 g0 g1 g2 g3 g4 g5 c10 c11 c12 n1r;obtain ⟨gd,hgd⟩:∃gd,ay ⟨v,lv,tg,asd,gl,pt⟩ p=gd:=⟨_,rfl⟩;have HGd:Hid (∀u:Lies v2,Calls Tryz.prog 56 #[cV ⟨v,lv,tg,asd,gl,pt⟩,.bool p] u.w fun e w'=>e=.returned (.bool gd)∧Below u.w.heap.size u.w w'):=fun u=>by
    have:=ce ⟨v,lv,tg,asd,gl,pt⟩ p u.w hok;rw [hgd] at this;exact this
   have HGv:Hid (ay ⟨v,lv,tg,asd,gl,pt⟩ p=gd):=hgd;clear hgd;cases v
   ·have hgf:gd=false:=by rw [<-HGv.out];simp [ay]
    subst hgf;by_cases q1n:¬(lv=0)
    ·have q1:(lv == 0)=false:=by simpa using q1n
     have HQ:Hid ((lv == 0)=false):=q1;clear q1n;refine am (by kernel_rfl) (by kernel_rfl) ?_;repeat (go_big_quiet_step ((go_at_call 56;exact ao _ (HGd.out _))))
     refine wpQuiet_nil ?_;rintro _ ⟨u,rfl⟩;go_wp2_with fail;go_ret;exact ⟨ah (HPf.out (by simp [aB,HGv.out,HQ.out])),Below.step n12 u.h (Nat.le_refl _)⟩
    have q1z:lv=0:=Decidable.not_not.1 q1n;subst q1z;clear q1n;by_cases q2n:¬(tg=0)
    ·have q2:(tg == 0)=false:=by simpa using q2n
     have HQ:Hid ((tg == 0)=false):=q2;clear q2n;refine am (by kernel_rfl) (by kernel_rfl) ?_;repeat (go_big_quiet_step ((go_at_call 56;exact ao _ (HGd.out _))))
     refine wpQuiet_nil ?_;rintro _ ⟨u,rfl⟩;go_wp2_with fail;go_ret;exact ⟨ah (HPf.out (by simp [aB,HGv.out,HQ.out])),Below.step n12 u.h (Nat.le_refl _)⟩
    have q2z:tg=0:=Decidable.not_not.1 q2n;subst q2z;clear q2n;by_cases q3n:¬(asd=0)
    ·have q3:(asd == 0)=false:=by simpa using q3n
     have HQ:Hid ((asd == 0)=false):=q3;clear q3n;refine am (by kernel_rfl) (by kernel_rfl) ?_;repeat (go_big_quiet_step ((go_at_call 56;exact ao _ (HGd.out _))))
     refine wpQuiet_nil ?_;rintro _ ⟨u,rfl⟩;go_wp2_with fail;go_ret;exact ⟨ah (HPf.out (by simp [aB,HGv.out,HQ.out])),Below.step n12 u.h (Nat.le_refl _)⟩
    have q3z:asd=0:=Decidable.not_not.1 q3n;subst q3z;clear q3n;cases hgl:gl
    ·subst hgl;by_cases q5n:¬(pt=0)
     ·have q5:(pt == 0)=false:=by simpa using q5n
      have HQ:Hid ((pt == 0)=false):=q5;clear q5n;refine am (by kernel_rfl) (by kernel_rfl) ?_;repeat (go_big_quiet_step ((go_at_call 56;exact ao _ (HGd.out _))))
      refine wpQuiet_nil ?_;rintro _ ⟨u,rfl⟩;go_wp2_with fail;go_ret;exact ⟨ah (HPf.out (by simp [aB,HGv.out,HQ.out])),Below.step n12 u.h (Nat.le_refl _)⟩
     have q5z:pt=0:=Decidable.not_not.1 q5n;subst q5z;clear q5n;refine am (by kernel_rfl) (by kernel_rfl) ?_;repeat (go_big_quiet_step ((go_at_call 56;exact ao _ (HGd.out _))))
     refine wpQuiet_nil ?_;rintro _ ⟨u,rfl⟩;go_wp2_with fail;go_roundw
     case rel=>exact ⟨k+1,by omega,by go_num,HPt.out (by simp [aB]),Below.step hb2 u.h (Nat.le_refl _)⟩
     case measure=>simp [intOf];omega
    ·subst hgl;refine am (by kernel_rfl) (by kernel_rfl) ?_;repeat (go_big_quiet_step ((go_at_call 56;exact ao _ (HGd.out _))))
     refine wpQuiet_nil ?_;rintro _ ⟨u,rfl⟩;go_wp2_with fail;go_ret;exact ⟨ah (HPf.out (by simp [aB,HGv.out])),Below.step n12 u.h (Nat.le_refl _)⟩
   ·cases gd
    ·
     refine am (by kernel_rfl) (by kernel_rfl) ?_;repeat (go_big_quiet_step ((go_at_call 56;exact ao _ (HGd.out _))))
     refine wpQuiet_nil ?_;rintro _ ⟨u,rfl⟩;go_wp2_with fail;go_ret;exact ⟨ah (HPf.out (by simp [aB,HGv.out])),Below.step n12 u.h (Nat.le_refl _)⟩
    ·have htg:tg<512:=dV HGv.out;have htg0:0<=tg:=hok.2.1.1;have hd0:0<=(k:Int)/ways:=Int.ediv_nonneg (by omega) (by omega);have hd1:(k:Int)/ways<=1048576:=Int.le_trans (Int.ediv_le_self _ (by omega)) (by omega);by_cases hq:tg%2=(k:Int)/ways
     ·have hq':(tg%2 != (k:Int)/ways)=false:=by rw [bne_eq_false_iff_eq];exact hq
      have HQ:Hid (tg%2=(k:Int)/ways):=hq;clear hq;refine am (by kernel_rfl) (by kernel_rfl) ?_;repeat (go_big_quiet_step ((go_at_call 56;exact ao _ (HGd.out _))))
      refine wpQuiet_nil ?_;rintro _ ⟨u,rfl⟩;go_wp2_with fail;go_roundw
      case rel=>exact ⟨k+1,by omega,by go_num,HPt.out (by simp [aB,HGv.out,HQ.out]),Below.step hb2 u.h (Nat.le_refl _)⟩
      case measure=>simp [intOf];omega
     ·have hq':(tg%2 != (k:Int)/ways)=true:=by rw [bne_iff_ne];exact hq
      have HQ:Hid (¬tg%2=(k:Int)/ways):=hq;clear hq;refine am (by kernel_rfl) (by kernel_rfl) ?_;repeat (go_big_quiet_step ((go_at_call 56;exact ao _ (HGd.out _))))
      refine wpQuiet_nil ?_;rintro _ ⟨u,rfl⟩;go_wp2_with fail;go_ret;exact ⟨ah (HPf.out (by simp [aB,HQ.out])),Below.step n12 u.h (Nat.le_refl _)⟩
  ·have hkn:k=n:=by omega
   subst hkn;have HT:Hid (true=R):=by
    show true=R;rw [<-HP.out];exact (bI _ p es 0 (fun j x hx=>by rw [Nat.zero_add];exact HA.out j x (by have h1:=(List.getElem?_eq_some_iff.1 hx).1;have h2:=HN.out;omega) hx)).symm
   clear c10 c11 c12 n1 d10 d11;go_wp2_with fail;go_ret;exact ⟨ah HT.out,n1r⟩
end
section
attribute [local go_sem ↓] Go.wp_at_zero Go.wp_at_succ
theorem jv (b off:Nat) (cap:Nat) (ways:Int) (es:List EntM) (n:Nat) (p:Bool) (w:World) (hr:RowC w (some ⟨b,off,none⟩) n 6 (al es)) (he:∀e∈es,bf e) (hl:n<=1048576) (hN:es.length=n)
 (hw:1<=ways) (hw':ways<=4) (hn:(n:Int)=8*ways):
  Calls Tryz.prog 44 #[.agg #[.int .i64 8,.int .i64 ways,.slice (some ⟨b,off,none⟩) n cap],.bool p] w fun e w'=>e=.returned (.bool (bq ⟨8,ways,es⟩ p 0 es))∧Below w.heap.size w w':=by
 have a1:=bm w #[.int .i64 8,.int .i64 ways,.slice (some ⟨b,off,none⟩) n cap] 34;have hn':((n:Int) != 8*ways)=false:=by rw [bne_eq_false_iff_eq];omega
 have HN:Hid (es.length=n):=hN;have HR:Hid (RowC w (some ⟨b,off,none⟩) n 6 (al es)):=hr;have HE:Hid (∀e∈es,bf e):=he;obtain ⟨R,hR⟩:∃R,bq ⟨8,ways,es⟩ p 0 es=R:=⟨_,rfl⟩;rw [hR];have HP:Hid (bq ⟨8,ways,es⟩ p 0 es=R):=hR;clear hN hr he hn hR;go_enter Tryz.func44,Tryz.ntmps44;go_wp2_with fail;generalize w.alloc (Obj.cells #[.int .i64 8,.int .i64 ways,.slice (some ⟨b,off,none⟩) n cap] 34)=v1 at a1 |-;obtain ⟨l1,c1,n1⟩:=a1;have c10:v1.cell? ⟨w.heap.size,0,none⟩=some (.int .i64 8):=c1 0;have c11:v1.cell? ⟨w.heap.size,1,none⟩=some (.int .i64 ways):=c1 1;have c12:v1.cell? ⟨w.heap.size,2,none⟩=some (.slice (some ⟨b,off,none⟩) n cap):=c1 2;clear c1;go_loopw [5] (fun i wr=>∃k:Nat,k<=n∧i=.int .i64 k∧(∀j x,j<k->es[j]?=some x->aB ⟨8,ways,es⟩ p j x=true)∧Below v1.heap.size v1 wr) (fun i _=>n-(intOf i).toNat)
 case atStart=>exact ⟨0,Nat.zero_le _,rfl,fun j x hj=>absurd hj (by omega),Below.refl _ _⟩
 case round=>
  obtain ⟨k,hk,rfl,hall,hb⟩:=hrel;have HA:Hid (∀j x,j<k->es[j]?=some x->aB ⟨8,ways,es⟩ p j x=true):=hall;clear hall;have d10:=Below.cell2 hb c10 l1;have d11:=Below.cell2 hb c11 l1;have d12:=Below.cell2 hb c12 l1;have l2:w.heap.size<wr.heap.size:=Nat.lt_of_lt_of_le l1 hb.size;have n1r:=Below.step n1 hb (Nat.le_refl _);by_cases hlt:k<n
  ·have hx:∃x:EntM,es[k]?=some x:=⟨_,List.getElem?_eq_getElem (by have:=HN.out;omega)⟩;obtain ⟨⟨v,lv,tg,asd,gl,pt⟩,hx⟩:=hx;have hok:bf ⟨v,lv,tg,asd,gl,pt⟩:=HE.out _ (List.mem_of_getElem? hx);have HRr:=RowC.keep HR.out n1r;have g0:wr.cell? ⟨b,off+k*6,none⟩=some (.bool v):=aL HRr HN.out k _ hx 0 _ (by omega) rfl;have g1:wr.cell? ⟨b,off+k*6+1,none⟩=some (.int .i64 lv):=aL HRr HN.out k _ hx 1 _ (by omega) rfl;have g2:wr.cell? ⟨b,off+k*6+2,none⟩=some (.int .u64 tg):=aL HRr HN.out k _ hx 2 _ (by omega) rfl;have g3:wr.cell? ⟨b,off+k*6+3,none⟩=some (.int .u64 asd):=aL HRr HN.out k _ hx 3 _ (by omega) rfl;have g4:wr.cell? ⟨b,off+k*6+4,none⟩=some (.bool gl):=aL HRr HN.out k _ hx 4 _ (by omega) rfl;have g5:wr.cell? ⟨b,off+k*6+5,none⟩=some (.int .u64 pt):=aL HRr HN.out k _ hx 5 _ (by omega) rfl;have HX:Hid (es[k]?=some ⟨v,lv,tg,asd,gl,pt⟩):=hx;have HPf:Hid (aB ⟨8,ways,es⟩ p k ⟨v,lv,tg,asd,gl,pt⟩=false->false=R):=fun h=>by rw [<-HP.out];exact (bL _ p es 0 k _ hx (by rw [Nat.zero_add];exact h)).symm
   have HPt:Hid (aB ⟨8,ways,es⟩ p k ⟨v,lv,tg,asd,gl,pt⟩=true->∀j x,j<k+1->es[j]?=some x->aB ⟨8,ways,es⟩ p j x=true):=fun h j x hj hx'=>by
    by_cases e:j=k
    ·subst e;rw [hx] at hx';cases hx';exact h
    ·exact HA.out j x (by omega) hx'
   clear hx HRr;have a2:=bm wr #[.bool v,.int .i64 lv,.int .u64 tg,.int .u64 asd,.bool gl,.int .u64 pt] 74;go_wp2_with fail;generalize wr.alloc (Obj.cells #[.bool v,.int .i64 lv,.int .u64 tg,.int .u64 asd,.bool gl,.int .u64 pt] 74)=v2 at a2 |-;obtain ⟨l3,c2,n2⟩:=a2;have k0:=af (c2 0) l3;have k1:=af (c2 1) l3;have k2:=af (c2 2) l3;have k3:=af (c2 3) l3;have k4:=af (c2 4) l3;have k5:=af (c2 5) l3;have j0:=af (Below.cell2 n2 d10 l2) (Nat.lt_trans l2 l3);have j1:=af (Below.cell2 n2 d11 l2) (Nat.lt_trans l2 l3);have hb2:=Below.step hb n2 (Nat.le_refl _);have n12:=Below.step n1 hb2 (Nat.le_refl _);have ne:=aT v2;clear c2 d10 d11 d12 hb n2 g0 g1 g2 g3 g4 g5 c10 c11 c12 n1r;obtain ⟨gd,hgd⟩:∃gd,ay ⟨v,lv,tg,asd,gl,pt⟩ p=gd:=⟨_,rfl⟩;have HGd:Hid (∀u:Lies v2,Calls Tryz.prog 56 #[cV ⟨v,lv,tg,asd,gl,pt⟩,.bool p] u.w fun e w'=>e=.returned (.bool gd)∧Below u.w.heap.size u.w w'):=fun u=>by
    have:=ce ⟨v,lv,tg,asd,gl,pt⟩ p u.w hok;rw [hgd] at this;exact this
   have HGv:Hid (ay ⟨v,lv,tg,asd,gl,pt⟩ p=gd):=hgd;clear hgd;cases v
   ·have hgf:gd=false:=by rw [<-HGv.out];simp [ay]
    subst hgf;by_cases q1n:¬(lv=0)
    ·have q1:(lv == 0)=false:=by simpa using q1n
     have HQ:Hid ((lv == 0)=false):=q1;clear q1n;refine am (by kernel_rfl) (by kernel_rfl) ?_;repeat (go_big_quiet_step ((go_at_call 56;exact ao _ (HGd.out _))))
     refine wpQuiet_nil ?_;rintro _ ⟨u,rfl⟩;go_wp2_with fail;go_ret;exact ⟨ah (HPf.out (by simp [aB,HGv.out,HQ.out])),Below.step n12 u.h (Nat.le_refl _)⟩
    have q1z:lv=0:=Decidable.not_not.1 q1n;subst q1z;clear q1n;by_cases q2n:¬(tg=0)
    ·have q2:(tg == 0)=false:=by simpa using q2n
     have HQ:Hid ((tg == 0)=false):=q2;clear q2n;refine am (by kernel_rfl) (by kernel_rfl) ?_;repeat (go_big_quiet_step ((go_at_call 56;exact ao _ (HGd.out _))))
     refine wpQuiet_nil ?_;rintro _ ⟨u,rfl⟩;go_wp2_with fail;go_ret;exact ⟨ah (HPf.out (by simp [aB,HGv.out,HQ.out])),Below.step n12 u.h (Nat.le_refl _)⟩
    have q2z:tg=0:=Decidable.not_not.1 q2n;subst q2z;clear q2n;by_cases q3n:¬(asd=0)
    ·have q3:(asd == 0)=false:=by simpa using q3n
     have HQ:Hid ((asd == 0)=false):=q3;clear q3n;refine am (by kernel_rfl) (by kernel_rfl) ?_;repeat (go_big_quiet_step ((go_at_call 56;exact ao _ (HGd.out _))))
     refine wpQuiet_nil ?_;rintro _ ⟨u,rfl⟩;go_wp2_with fail;go_ret;exact ⟨ah (HPf.out (by simp [aB,HGv.out,HQ.out])),Below.step n12 u.h (Nat.le_refl _)⟩
    have q3z:asd=0:=Decidable.not_not.1 q3n;subst q3z;clear q3n;cases hgl:gl
    ·subst hgl;by_cases q5n:¬(pt=0)
     ·have q5:(pt == 0)=false:=by simpa using q5n
      have HQ:Hid ((pt == 0)=false):=q5;clear q5n;refine am (by kernel_rfl) (by kernel_rfl) ?_;repeat (go_big_quiet_step ((go_at_call 56;exact ao _ (HGd.out _))))
      refine wpQuiet_nil ?_;rintro _ ⟨u,rfl⟩;go_wp2_with fail;go_ret;exact ⟨ah (HPf.out (by simp [aB,HGv.out,HQ.out])),Below.step n12 u.h (Nat.le_refl _)⟩
     have q5z:pt=0:=Decidable.not_not.1 q5n;subst q5z;clear q5n;refine am (by kernel_rfl) (by kernel_rfl) ?_;repeat (go_big_quiet_step ((go_at_call 56;exact ao _ (HGd.out _))))
     refine wpQuiet_nil ?_;rintro _ ⟨u,rfl⟩;go_wp2_with fail;go_roundw
     case rel=>exact ⟨k+1,by omega,by go_num,HPt.out (by simp [aB]),Below.step hb2 u.h (Nat.le_refl _)⟩
     case measure=>simp [intOf];omega
    ·subst hgl;refine am (by kernel_rfl) (by kernel_rfl) ?_;repeat (go_big_quiet_step ((go_at_call 56;exact ao _ (HGd.out _))))
     refine wpQuiet_nil ?_;rintro _ ⟨u,rfl⟩;go_wp2_with fail;go_ret;exact ⟨ah (HPf.out (by simp [aB,HGv.out])),Below.step n12 u.h (Nat.le_refl _)⟩
   ·cases gd
    ·
     refine am (by kernel_rfl) (by kernel_rfl) ?_;repeat (go_big_quiet_step ((go_at_call 56;exact ao _ (HGd.out _))))
     refine wpQuiet_nil ?_;rintro _ ⟨u,rfl⟩;go_wp2_with fail;go_ret;exact ⟨ah (HPf.out (by simp [aB,HGv.out])),Below.step n12 u.h (Nat.le_refl _)⟩
    ·have htg:tg<512:=dV HGv.out;have htg0:0<=tg:=hok.2.1.1;have hd0:0<=(k:Int)/ways:=Int.ediv_nonneg (by omega) (by omega);have hd1:(k:Int)/ways<=1048576:=Int.le_trans (Int.ediv_le_self _ (by omega)) (by omega);by_cases hq:tg%8=(k:Int)/ways
     ·have hq':(tg%8 != (k:Int)/ways)=false:=by rw [bne_eq_false_iff_eq];exact hq
      have HQ:Hid (tg%8=(k:Int)/ways):=hq;clear hq;refine am (by kernel_rfl) (by kernel_rfl) ?_;repeat (go_big_quiet_step ((go_at_call 56;exact ao _ (HGd.out _))))
      refine wpQuiet_nil ?_;rintro _ ⟨u,rfl⟩;go_wp2_with fail;go_roundw
      case rel=>exact ⟨k+1,by omega,by go_num,HPt.out (by simp [aB,HGv.out,HQ.out]),Below.step hb2 u.h (Nat.le_refl _)⟩
      case measure=>simp [intOf];omega
     ·have hq':(tg%8 != (k:Int)/ways)=true:=by rw [bne_iff_ne];exact hq
      have HQ:Hid (¬tg%8=(k:Int)/ways):=hq;clear hq;refine am (by kernel_rfl) (by kernel_rfl) ?_;repeat (go_big_quiet_step ((go_at_call 56;exact ao _ (HGd.out _))))
      refine wpQuiet_nil ?_;rintro _ ⟨u,rfl⟩;go_wp2_with fail;go_ret;exact ⟨ah (HPf.out (by simp [aB,HQ.out])),Below.step n12 u.h (Nat.le_refl _)⟩
  ·have hkn:k=n:=by omega
   subst hkn;have HT:Hid (true=R):=by
    show true=R;rw [<-HP.out];exact (bI _ p es 0 (fun j x hx=>by rw [Nat.zero_add];exact HA.out j x (by have h1:=(List.getElem?_eq_some_iff.1 hx).1;have h2:=HN.out;omega) hx)).symm
   clear c10 c11 c12 n1 d10 d11;go_wp2_with fail;go_ret;exact ⟨ah HT.out,n1r⟩
end
end Go.Proofs.YtfgogedgolgnaaaGreat
