import PyProof.Rows.All
import KE.KDictSum
import KE.KFromBytes
import KE.KIsAll
import KE.KItem
import KE.KSetDisp
import OpenK.ZHead
import PySem.Challenge.RW_onewithin_k44_whole_more_hands
open Option renaming bind_eq_some_iff→Yaa,map_eq_some_iff→Yao,bind_some→YaP,map_some→Ybk,isSome_iff_exists→Ybm
open PySem.W renaming Frag→Yab,kitOne→Yaj,keepIn→Ya6,findIn→Ybd,kia_one→Ybj,nsIn→YbV,codeIn→YbW,specialIn→Yb2,methodObj→Yb3,fnOf→Yb4
open List renaming getElem?_eq_some_iff→Yac,getElem?_eq_getElem→Yaf,size_toArray→Yag,length_map→Yak,getElem?_map→Yam,getElem?_set_ne→Yap,replicate→Yaq,getElem?_append_left→Yar,mem_cons_of_mem→Yas,range→Yau,getElem?_append_right→Yav,mem_cons_self→Yaw,mem_of_getElem?→Yay,getElem?_set_self→YaA,mem_cons→YaB,lookup_cons→YaD,mem_append_right→YaF,length_cons→YaH,mem_singleton→YaI,replicate_succ→YaJ,map_cons→YaK,getElem?_eq_none_iff→YaM,mem_range→YaN,length_append→YaQ,mem_map→YaR,flatten_cons→YaT,getElem?_cons_zero→YaW,all_eq_true→YaX,filterMap_cons→Ya0,append_assoc→Ya2,nodup_cons→Ya3,map_append→Ya4,getD_eq_getElem?_getD→Ya5,length_nil→Ya9,any_cons→Yba,getElem?_cons_succ→Ybb,length_take→Ybe,take_length→Ybf,take_of_length_le→Ybg,mem_append→Ybh,length_set→Ybi,flatMap_cons→Ybl,sum_cons→Ybn,append_nil→Ybo,countP_append→Ybr,filter_append→Ybs,ext_getElem?→Ybt,mem_iff_getElem→Ybx,take_succ_cons→YbA,mem_filter→YbB,nil_append→YbC,drop_eq_getElem_cons→YbD,map_map→YbG,set_cons_succ→YbH,set_cons_zero→YbI,foldl→YbK,reverse_cons→YbL,length_drop→YbM,any_eq_true→YbN,countP_cons→YbO,getElem?_toArray→YbQ,foldl_cons→YbR,range_succ→YbU,all_cons→Yb0
open Nat renaming le_refl→Yad,lt_of_lt_of_le→Yax,le_trans→YaC,ne_of_lt→YaL,lt_irrefl→YaO,zero_le→YaU,zero_add→Ybv,le_of_lt→YbE,le_of_eq→YbF,beq→YbJ,lt_trans→YbS,le_succ→YbX,log2_lt→YbY
open PySem.Heap renaming get?_push_of_some→Yae,lt_size→Yat,get?_push_size→Yaz,get?_update_other→YaV,get?_update_self→Ya7,size_push→Ybu
open PySem.Str renaming ofString→Yah
open PySem.Challenge renaming pw_onewithin_k44_whole_more_hands→Yai,rw_onewithin_k44_whole_more_hands→Ya1
open Bool renaming false_ne_true→Yal,and_eq_true→Yan,and_eq_true_iff→YaG,not_eq_true'→YaZ,or_eq_true→Ya8,eq_iff_iff→Ybp,false_eq_true→Ybq,or_eq_false_iff→Ybw,false_or→Yb1
open PyProof.Rows renaming slot_tuple_getitem→YaE,callWith_type1→YaS
open Int renaming toNat_natCast→YaY,fdiv_eq_ediv_of_nonneg→Ybz,natCast_mul→YbT,emod_lt_of_pos→YbZ
open Array renaming length_toList→Ybc,getElem?_eq_some_iff→Yby,getElem?_toList→YbP
namespace Py
open PySem PySem.W PyProof.Rows
inductive Tr where
 |lf|nd (o:Obj) (l r:Tr)
noncomputable def Tr.get (t:Tr):Nat→Option Obj:=
 Tr.rec (motive:=fun _=>Nat→Option Obj) (fun _=>none) (fun o _ _ gl gr n=>cond (YbJ n (nat_lit 0)) (some o) (cond (YbJ (Nat.mod n (nat_lit 2)) (nat_lit 0)) (gr (Nat.pred (Nat.div n (nat_lit 2)))) (gl (Nat.div n (nat_lit 2))))) t
noncomputable def Tr.put (o:Obj) (t:Tr):Nat→Tr:=
 Tr.rec (motive:=fun _=>Nat→Tr) (fun _=>.nd o .lf .lf) (fun p l r pl pr n=>cond (YbJ n (nat_lit 0)) (.nd o l r) (cond (YbJ (Nat.mod n (nat_lit 2)) (nat_lit 0)) (.nd p l (pr (Nat.pred (Nat.div n (nat_lit 2))))) (.nd p (pl (Nat.div n (nat_lit 2))) r))) t
theorem Tr.get_nd (o:Obj) (l r:Tr) (n:Nat):(Tr.nd o l r).get n=if n=0 then some o else if n % 2=0 then r.get (n / 2-1) else l.get (n / 2):=by
 show cond (YbJ n 0) (some o) (cond (YbJ (n % 2) 0) (r.get (n / 2).pred) (l.get (n / 2)))=_
 by_cases h:n=0
 ·subst h;rfl
 ·rw [if_neg h,show YbJ n 0=false from by cases n with|zero=>exact absurd rfl h|succ n=>rfl]
  by_cases g:n % 2=0
  ·rw [if_pos g,g];rfl
  ·rw [if_neg g,show n % 2=1 by omega];rfl
theorem Tr.put_nd (p o:Obj) (l r:Tr) (n:Nat):(Tr.nd o l r).put p n=if n=0 then .nd p l r else if n % 2=0 then .nd o l (r.put p (n / 2-1)) else .nd o (l.put p (n / 2)) r:=by
 show cond (YbJ n 0) (Tr.nd p l r) (cond (YbJ (n % 2) 0) (.nd o l (r.put p (n / 2).pred)) (.nd o (l.put p (n / 2)) r))=_
 by_cases h:n=0
 ·subst h;rfl
 ·rw [if_neg h,show YbJ n 0=false from by cases n with|zero=>exact absurd rfl h|succ n=>rfl]
  by_cases g:n % 2=0
  ·rw [if_pos g,g];rfl
  ·rw [if_neg g,show n % 2=1 by omega];rfl
theorem Tr.get_put (o:Obj):∀(t:Tr) (n m:Nat),(∀j<n,(t.get j).isSome=true)→(t.put o n).get m=if m=n then some o else t.get m
 | .lf,n,m,h=>by
  have:n=0:=by
   cases n with
   |zero=>rfl
   |succ n=>exact absurd (h 0 (Nat.succ_pos n)) (by simp [Tr.get])
  subst this
  show (Tr.nd o .lf .lf).get m=_
  rw [Tr.get_nd]
  by_cases hm:m=0
  ·rw [if_pos hm,if_pos hm]
  ·rw [if_neg hm,if_neg hm];split<;>rfl
 | .nd p l r,n,m,h=>by
  rw [Tr.put_nd,Tr.get_nd p l r m]
  by_cases hn:n=0
  ·rw [if_pos hn,Tr.get_nd]
   by_cases hm:m=0
   ·rw [if_pos hm,if_pos (hm.trans hn.symm)]
   ·simp only [hm,hn,if_false]
  ·rw [if_neg hn]
   by_cases h2:n % 2=0
   ·rw [if_pos h2,Tr.get_nd]
    have ih:=Tr.get_put o r (n / 2-1) (m / 2-1) (fun j hj=>by
     have:=h (2*j+2) (by omega)
     rw [Tr.get_nd,if_neg (by omega),if_pos (by omega)] at this
     rw [show (2*j+2) / 2-1=j by omega] at this;exact this)
    by_cases hm:m=0
    ·rw [if_pos hm,if_pos hm,if_neg (fun e=>hn (e.symm.trans hm))]
    ·rw [if_neg hm,if_neg hm]
     by_cases g:m % 2=0
     ·rw [if_pos g,if_pos g,ih]
      by_cases e:m=n
      ·rw [if_pos e,if_pos (by rw [e])]
      ·rw [if_neg e,if_neg (by omega)]
     ·rw [if_neg g,if_neg g,if_neg (by intro e;rw [e] at g;exact g h2)]
   ·rw [if_neg h2,Tr.get_nd]
    have ih:=Tr.get_put o l (n / 2) (m / 2) (fun j hj=>by
     have:=h (2*j+1) (by omega)
     rw [Tr.get_nd,if_neg (by omega),if_neg (by omega)] at this
     rw [show (2*j+1) / 2=j by omega] at this;exact this)
    by_cases hm:m=0
    ·rw [if_pos hm,if_pos hm,if_neg (fun e=>hn (e.symm.trans hm))]
    ·rw [if_neg hm,if_neg hm]
     by_cases g:m % 2=0
     ·rw [if_pos g,if_pos g,if_neg (by intro e;rw [e] at g;exact h2 g)]
     ·rw [if_neg g,if_neg g,ih]
      by_cases e:m=n
      ·rw [if_pos e,if_pos (by rw [e])]
      ·rw [if_neg e,if_neg (by omega)]
noncomputable def Tr.is (t:Tr) (n:Nat) (h:Heap):Prop:=n=h.objs.size∧∀a,t.get a=h.objs[a]?
noncomputable def alive:Option Obj→Option Obj
 |some ⟨_,_,.freed,_⟩=>none
 |o=>o
theorem ZiH (h:Heap) (a:Addr):alive h.objs[a]?=h.get? a:=by
 unfold alive Heap.get?
 rfl
theorem Tr.is.get {t:Tr} {n:Nat} {h:Heap} (R:t.is n h) (a:Addr):alive (t.get a)=h.get? a:=by rw [R.2,ZiH]
theorem Tr.is.below {t:Tr} {n:Nat} {h:Heap} (R:t.is n h) {m:Nat} (hm:m≤n):∀j<m,(t.get j).isSome=true:=fun j hj=>by
 rw [R.2,Array.getElem?_eq_getElem (by rw [←R.1];omega)];rfl
theorem Tr.is.push {t:Tr} {n:Nat} {h:Heap} (R:t.is n h) (o:Obj):(t.put o n).is n.succ (h.push o):=by
 obtain⟨objs,life⟩:=h
 obtain⟨r1,r2⟩:=R
 refine⟨by show n+1=(objs.push o).size;rw [Array.size_push];exact congrArg (· +1) r1,fun a=>?_⟩
 rw [Tr.get_put o t n a (Tr.is.below (h:=⟨objs,life⟩) ⟨r1,r2⟩ (Yad _)),r2]
 show _=(objs.push o)[a]?
 rw [Array.getElem?_push,←show n=objs.size from r1]
theorem Tr.is.update {t:Tr} {n:Nat} {h:Heap} (R:t.is n h) {a:Addr} {o:Obj} (e:t.get a=some o) (f:Obj→Obj):(t.put (f o) a).is n (h.update a f):=by
 obtain⟨objs,life⟩:=h
 have ha:a<objs.size:=by
  have:=R.2 a
  rw [e] at this
  exact(Yby.mp this.symm).1
 refine⟨by show n=(objs.modify a f).size;rw [Array.size_modify];exact R.1,fun b=>?_⟩
 rw [Tr.get_put _ t a b (R.below (by rw [R.1];exact YbE ha)),R.2]
 show _=(objs.modify a f)[b]?
 rw [Array.getElem?_modify]
 by_cases hb:b=a
 ·subst hb
  rw [if_pos rfl,if_pos rfl]
  have:=R.2 b
  rw [e] at this
  rw [show objs[b]?=some o from this.symm];rfl
 ·rw [if_neg hb,if_neg (Ne.symm hb)]
noncomputable def still (t:Thread):Bool:=match t.cur with
 | .pure _| .rule .. | .at .. | .point .. | .fresh .. | .ask .. | .call .. | .handled .. | .stack .. =>true
 |_=>false
theorem ZnU {o:Outcome} {s s':Shared} {t':Thread} (e:finish o s=.go s' t'):False:=by
 unfold finish at e
 split at e<;>cases e
theorem Zd5 {den:Code→Sem Fin} {p:Program} {w:World} {h:Heap} {s s':Shared} {t t':Thread} (z:still t=true) (e:step den p w {s with heap:={}} t=.go s' t'):step den p w {s with heap:=h} t=.go {s' with heap:=h} t':=by
 obtain⟨heap,gens,drawn,toks,os⟩:=s
 obtain⟨cur,code,pos,stack⟩:=t
 have go:∀{a:Shared} {b:Thread},Step.go a b=Step.go s' t'→∀{r},r=Step.go {a with heap:=h} b→r=.go {s' with heap:=h} t':=fun q _ hr=>by
  obtain⟨rfl,rfl⟩:=Step.go.inj q
  exact hr
 cases cur with
 |pure r=>
  cases r with
  |again c=>exact go e rfl
  |done f=>
   cases stack with
   |nil=>exact(ZnU e).elim
   |cons x st=>cases x<;>exact go e rfl
 |rule _ _=>exact go e rfl
 |«at» _ _=>exact go e rfl
 |point _ _=>exact go e rfl
 |fresh _=>exact go e rfl
 |ask _=>exact go e rfl
 |call _ _ _ _ _=>exact go e rfl
 |handled _ _=>exact go e rfl
 |stack _=>exact go e rfl
 |_=>cases z
theorem Zho {den:Code→Sem Fin} {p:Program} {w:World} {h:Heap} {g:Array GenState} {d:Drawn} {tk:Nat} {os:OsState} {a:Addr} {x:Option Value} {k:Obj→Sem Fin} {c:Code} {po:Pos} {st:List Frame} {o:Obj} (ho:h.get? a=some o):step den p w ⟨h,g,d,tk,os⟩ ⟨.load a x k,c,po,st⟩=.go ⟨h,g,d,tk,os⟩ ⟨k o,c,po,st⟩:=by
 show (match h.get? a with|some o=>Step.go ⟨h,g,d,tk,os⟩ ⟨k o,c,po,st⟩|none=>.halt (.stuck (if a<h.objs.size then "load: the object has been freed" else "load: no object at this address")) ⟨h,g,d,tk,os⟩)=_
 rw [ho]
theorem ZiM {den:Code→Sem Fin} {p:Program} {w:World} {h:Heap} {g:Array GenState} {d:Drawn} {tk:Nat} {os:OsState} {o:Obj} {k:Addr→Sem Fin} {c:Code} {po:Pos} {st:List Frame}:step den p w ⟨h,g,d,tk,os⟩ ⟨.alloc o k,c,po,st⟩=.go ⟨h.push o,g,d,tk,os⟩ ⟨k h.objs.size,c,po,st⟩:=rfl
theorem ZgU {den:Code→Sem Fin} {p:Program} {w:World} {h:Heap} {g:Array GenState} {d:Drawn} {tk:Nat} {os:OsState} {a:Addr} {k:Option Obj→Sem Fin} {c:Code} {po:Pos} {st:List Frame}:step den p w ⟨h,g,d,tk,os⟩ ⟨.loadIfAlive a k,c,po,st⟩=.go ⟨h,g,d,tk,os⟩ ⟨k (h.get? a),c,po,st⟩:=rfl
theorem ZiL {den:Code→Sem Fin} {p:Program} {w:World} {h:Heap} {g:Array GenState} {d:Drawn} {tk:Nat} {os:OsState} {a:Addr} {x:Option Value} {f:Obj→Obj} {k:Unit→Sem Fin} {c:Code} {po:Pos} {st:List Frame} (ho:(h.get? a).isSome=true):step den p w ⟨h,g,d,tk,os⟩ ⟨.update a x f k,c,po,st⟩=.go ⟨h.update a f,g,d,tk,os⟩ ⟨k (),c,po,st⟩:=if_pos ho
noncomputable def fTurn (tb:String→Option Builtin) (p:Program) (w:World) (n₀:Nat) (ann:Option Value) (ih:Tr→Nat→Shared→Thread→Option (Tr×Nat×Shared)) (t:Tr) (n:Nat) (s:Shared) (th:Thread):Option (Tr×Nat×Shared):=
 match through th with
 |true=>some (t,n,s)
 |false=>match stepOk n₀ ann th with
  |false=>none
  |true=>match th with
   |⟨.load a _ k,c,po,st⟩=>(match alive (t.get a) with|some o=>ih t n s ⟨k o,c,po,st⟩|none=>none)
   |⟨.update a _ f k,c,po,st⟩=>(match alive (t.get a) with|some o=>ih (t.put (f o) a) n s ⟨k (),c,po,st⟩|none=>none)
   |⟨.alloc o k,c,po,st⟩=>ih (t.put o n) n.succ s ⟨k n,c,po,st⟩
   |⟨.loadIfAlive a k,c,po,st⟩=>ih t n s ⟨k (alive (t.get a)),c,po,st⟩
   |th=>match still th with
    |false=>none
    |true=>match step (denote tb) p w s th with
     | .go s' th'=>ih t n s' th'
     | .halt _ _=>none
noncomputable def fRun (tb:String→Option Builtin) (p:Program) (w:World) (n₀:Nat) (ann:Option Value) (N:Nat):Tr→Nat→Shared→Thread→Option (Tr×Nat×Shared):=
 Nat.rec (motive:=fun _=>Tr→Nat→Shared→Thread→Option (Tr×Nat×Shared)) (fun _ _ _ _=>none) (fun _ ih=>fTurn tb p w n₀ ann ih) N
theorem ZcS {tb:String→Option Builtin} {p:Program} {w:World} {n₀:Nat} {ann:Option Value}:∀(N:Nat) (t:Tr) (n:Nat) (s:Shared) (h:Heap) (th:Thread) (t':Tr) (n':Nat) (s':Shared),s.heap={}→t.is n h→
  fRun tb p w n₀ ann N t n s th=some (t',n',s')→∃h',t'.is n' h'∧h'.life=h.life∧topRun tb p w n₀ ann N {s with heap:=h} th=some {s' with heap:=h'}
 |0,t,n,s,h,th,t',n',s',e0,R,e=>by cases e
 |N+1,t,n,s,h,th,t',n',s',e0,R,e=>by
  have e1:fRun tb p w n₀ ann (N+1) t n s th=fTurn tb p w n₀ ann (fRun tb p w n₀ ann N) t n s th:=rfl
  rw [e1] at e
  unfold fTurn at e
  unfold topRun
  cases ht:through th with
  |true=>
   rw [ht] at e
   cases e
   exact⟨h,R,rfl,rfl⟩
  |false=>
   rw [ht] at e
   simp only at e⊢
   cases hk:stepOk n₀ ann th with
   |false=>rw [hk] at e;cases e
   |true=>
    rw [hk] at e
    simp only at e⊢
    obtain⟨heap,gens,drawn,toks,os⟩:=s
    cases e0
    split at e
    ·rename_i a _ k c po st
     rw [R.get] at e
     cases ho:h.get? a with
     |none=>rw [ho] at e;cases e
     |some o=>
      rw [ho] at e
      rw [Zho ho]
      exact ZcS N t n ⟨{},gens,drawn,toks,os⟩ h _ t' n' s' rfl R e
    ·rename_i a _ f k c po st
     cases ho:t.get a with
     |none=>rw [ho] at e;cases e
     |some o=>
      rw [ho] at e
      cases ha:alive (some o) with
      |none=>rw [ha] at e;cases e
      |some o'=>
       rw [ha] at e
       have hoo:o'=o:=by
        unfold alive at ha
        split at ha
        ·cases ha
        ·exact(Option.some.inj ha).symm
       subst hoo
       have hg:(h.get? a).isSome=true:=by rw [←R.get,ho,ha];rfl
       rw [ZiL hg]
       obtain⟨h',r1,r2,r3⟩:=ZcS N (t.put (f o') a) n ⟨{},gens,drawn,toks,os⟩ (h.update a f) _ t' n' s' rfl (R.update ho f) e
       exact⟨h',r1,r2,r3⟩
    ·rename_i o k c po st
     rw [ZiM]
     obtain⟨h',r1,r2,r3⟩:=ZcS N (t.put o n) n.succ ⟨{},gens,drawn,toks,os⟩ (h.push o) _ t' n' s' rfl (R.push o) e
     exact⟨h',r1,r2,by rw [←R.1];exact r3⟩
    ·rename_i a k c po st
     rw [R.get] at e
     rw [ZgU]
     exact ZcS N t n ⟨{},gens,drawn,toks,os⟩ h _ t' n' s' rfl R e
    ·split at e
     ·cases e
     ·rename_i hz
      split at e
      ·rename_i s2 th2 hs
       have z:=Zd5 (h:=h) (s:=⟨{},gens,drawn,toks,os⟩) hz hs
       rw [show step (denote tb) p w ⟨h,gens,drawn,toks,os⟩ th=.go {s2 with heap:=h} th2 from z]
       have hh:s2.heap={}:=by
        have z2:=Zd5 (h:={}) (s:=⟨{},gens,drawn,toks,os⟩) hz hs
        rw [show step (denote tb) p w ⟨{},gens,drawn,toks,os⟩ th=_ from hs] at z2
        exact congrArg Shared.heap (Step.go.inj z2).1
       exact ZcS N t n s2 h th2 t' n' s' hh R e
      ·cases e
noncomputable def Tr.ofL (l:List Obj):Tr×Nat:=List.rec (motive:=fun _=>Tr→Nat→Tr×Nat) (fun t n=>(t,n)) (fun o _ ih t n=>ih (t.put o n) n.succ) l .lf (nat_lit 0)
theorem Tr.ofL_go (life:Life):∀(l pre:List Obj) (t:Tr) (n:Nat),t.is n ⟨⟨pre⟩,life⟩→(let r:=List.rec (motive:=fun _=>Tr→Nat→Tr×Nat) (fun t n=>(t,n)) (fun o _ ih t n=>ih (t.put o n) n.succ) l t n;r.1.is r.2 ⟨⟨pre++l⟩,life⟩)
 | [],pre,t,n,R=>by rw [Ybo];exact R
 |o::l,pre,t,n,R=>by
  have q:=Tr.ofL_go life l (pre++[o]) (t.put o n) n.succ (by
   have:=R.push o
   rw [show (⟨⟨pre⟩,life⟩:Heap).push o=⟨⟨pre++[o]⟩,life⟩ from by show (⟨Array.push ⟨pre⟩ o,life⟩:Heap)=_;rw [List.push_toArray]] at this
   exact this)
  rw [Ya2] at q
  exact q
theorem Tr.ofL_is (h:Heap):(Tr.ofL h.objs.toList).1.is (Tr.ofL h.objs.toList).2 h:=by
 obtain⟨⟨l⟩,life⟩:=h
 have:=Tr.ofL_go life l [] .lf 0 ⟨rfl,fun a=>by show none=_;simp⟩
 exact this
noncomputable def Tr.list (t:Tr) (n:Nat):List Obj:=Nat.rec (motive:=fun _=>List Obj→List Obj) (fun l=>l) (fun m ih l=>match t.get m with|some o=>ih (o::l)|none=>ih l) n []
theorem Tr.list_go {t:Tr} {l:List Obj} (R:∀a,t.get a=l[a]?):∀(n:Nat) (r:List Obj),n≤l.length→Nat.rec (motive:=fun _=>List Obj→List Obj) (fun l=>l) (fun m ih l=>match t.get m with|some o=>ih (o::l)|none=>ih l) n r=l.take n++r
 |0,r,_=>rfl
 |n+1,r,h=>by
  have e:t.get n=some l[n]:=by rw [R,Yaf (by omega)]
  have:=Tr.list_go R n (l[n]::r) (by omega)
  show (match t.get n with|some o=>_|none=>_)=_
  rw [e]
  show Nat.rec (motive:=fun _=>List Obj→List Obj) (fun l=>l) (fun m ih l=>match t.get m with|some o=>ih (o::l)|none=>ih l) n (l[n]::r)=_
  rw [this,List.take_succ_eq_append_getElem (by omega:n<l.length),Ya2];rfl
theorem Tr.list_is {t:Tr} {n:Nat} {h:Heap} (R:t.is n h):t.list n=h.objs.toList:=by
 have:=Tr.list_go (t:=t) (l:=h.objs.toList) (fun a=>by rw [R.2,YbP]) n [] (by rw [R.1];simp)
 unfold Tr.list
 rw [this,Ybo,R.1]
 exact Ybg (by simp)
noncomputable def fTop (tb:String→Option Builtin) (p:Program) (w:World) (N:Nat):Shared→Option Shared
 |⟨h,g,d,tk,os⟩=>match h.isNs mainGlobals&&g.size==0 with
  | true => (match fRun tb p w h.objs.size (h.nsMap mainGlobals "__annotations__") N (Tr.ofL h.objs.toList).1 (Tr.ofL h.objs.toList).2 ⟨{}, g, d, tk, os⟩ (topStub p) with
   | some (t, n, s) => (match s with
    | ⟨_, g', d', tk', os'⟩ => (fun s₁ : Shared => match staticsOk (importedModules p.main.body) h s₁.heap && namesBound p s₁.heap && gensDone s₁ && laidKept h s₁.heap with
     |true=>some s₁
     |false=>none) ⟨⟨⟨t.list n⟩,h.life⟩,g',d',tk',os'⟩)
   |none=>none)
  |false=>none
theorem ZlK {tb:String→Option Builtin} {p:Program} {w:World} {N:Nat} {s s₁:Shared} (e:fTop tb p w N s=some s₁):topFrom tb p w N s=some s₁:=by
 obtain⟨h,g,d,tk,os⟩:=s
 unfold fTop at e
 unfold topFrom
 simp only at e⊢
 split at e
 ·rename_i hc
  rw [hc]
  simp only
  split at e
  ·rename_i t n s' hr
   obtain⟨h',r1,r2,r3⟩:=ZcS N _ _ ⟨{},g,d,tk,os⟩ h _ t n s' rfl (Tr.ofL_is h) hr
   rw [show topRun tb p w h.objs.size (h.nsMap mainGlobals "__annotations__") N ⟨h,g,d,tk,os⟩ (topStub p)=_ from r3]
   obtain⟨hh,g',d',tk',os'⟩:=s'
   have eh:(⟨⟨t.list n⟩,h.life⟩:Heap)=h':=by
    obtain⟨⟨l⟩,life⟩:=h'
    rw [Tr.list_is r1,←r2]
   simp only [eh] at e
   exact e
  ·cases e
 ·cases e
noncomputable def fEnds (p:Program) (w:World) (N:Nat):Option Shared:=match fencedOpening treeTable p w N with
 |some s=>fTop treeTable p w N s
 |none=>none
theorem Zjx {p:Program} {w:World} {N:Nat} {s:Shared} (e:fEnds p w N=some s):openEnds treeTable p w N=some s:=by
 unfold fEnds at e
 unfold openEnds
 split at e
 ·rename_i s₀ h0;rw [h0];exact ZlK e
 ·cases e
theorem Zcu {α:Type} {p:Program} {w:World} {N:Nat} {f:Shared→α} {a:α} (e:(fEnds p w N).map f=some a):(openEnds treeTable p w N).map f=some a:=by
 obtain⟨s,e1,e2⟩:=Yao.mp e
 rw [Zjx e1,←e2];rfl
end Py
set_option Elab.async false
set_option linter.all false
set_option maxRecDepth 100000
set_option genSizeOfSpec false
namespace L2
open PySem
noncomputable abbrev vErr:List Value:=[.type "ValueError",.type "Exception",.type "BaseException",.type "object"]
noncomputable def kitC (K:Yab) (C:Addr):Bool:=
 ((Ybd K (.ref C) "__getattribute__" ==some (some (.builtin "BaseException.__getattribute__")))&&(Ybd K (.ref C) "__getattr__" ==some none)&&(PySem.W.mroIn K C (.type "BaseException")==some true))&&PySem.W.hasDictIn K C&&(Ybd K (.ref C) "__class__" ==some (some (.builtin "object.__class__")))&&(Yb2 K (.builtin "object.__class__") "__get__" ==some (some (.builtin "getset_descriptor.__get__")))&&
  (PySem.W.takesIn K (.builtin "object.__class__")==some true)&&(PySem.W.mroIn K C (.type "object")==some true)
end L2
namespace Py
open PySem PySem.W PyProof.Rows
structure XT where
 rz:List Str
 cs:List Str
 ops:List (Str×List Str)
 ds:List Str
noncomputable def opE (K:Frag) (cs yes:List Str) (u:Value):Bool:=(match u with| .ref _=>true| .type _=>true|_=>false)&&cs.all fun n=>match nsIn K mainGlobals n with
 |some (some (.ref C))=>kitOne K (.ref C) u==some (yes.contains n)
 |_=>false
noncomputable def clE (K:Frag) (h:Heap) (cs:List Str) (x:Str):Bool:=((([]:List Str)::cs.map fun y=>[y]).any fun ch=>h.ownExcOk x ch L2.vErr "ValueError.__new__")&&(match nsIn K mainGlobals x with
 |some (some (.ref C))=>L2.kitC K C&&(h.nsMap mainGlobals x==some (.ref C))
 |_=>false)
noncomputable def opsE (K:Frag) (cs:List Str) (p:Str×List Str):Bool:=match nsIn K mainGlobals p.1 with
 |some (some u)=>opE K cs p.2 u
 |some none=>p.1 !="__name__" &&(match bootBuiltins p.1 with|some u=>opE K cs p.2 u|none=>false)
 |none=>false
noncomputable def okE (K:Frag) (h:Heap) (xt:XT):Bool:=xt.cs.all (clE K h xt.cs)&&xt.ops.all (opsE K xt.cs)
noncomputable def ZaG (h:Heap):Frag:=(Yau h.objs.size).filterMap fun i=>(h.get? i).map fun o=>(i,o)
noncomputable def blank (fd:FuncData):FuncData:={fd with kwdefaults:=.none,doc:=.none,pyModule:=.none,annotations:=none,code:=.none,closureTuple:=.none}
noncomputable def Zam (K:Frag) (x:Str):Option (FuncData×Bool):=match nsIn K mainGlobals x with
 | some (some (.ref f)) => (match K.lookup f with
  |some ⟨_,_,.func fd,_⟩=>some (blank fd,codeIn K fd.code x)
  |_=>none)
 |_=>none
noncomputable def Zeq:Stmt→Arguments×List Stmt×Scope
 | .FunctionDef _ a b _ _ _ sc _ _ _=>(a,b,sc)
 |_=>({posonlyargs:=[],args:=[],vararg:=none,kwonlyargs:=[],kw_defaults:=[],kwarg:=none,defaults:=[]},[],{kind:=.function,names:=[],isGenerator:=false,isCoroutine:=false})
noncomputable def Zan (x:Str) (st:Stmt):Option (FuncData×Bool):=some (fnOf x x (Zeq st).1 (Zeq st).2.1 (Zeq st).2.2 .none .none .none .none none .none .none,true)
inductive GT where
 |non|bl (b:Bool)|int (i:Int)|str (x:Str)|tup (xs:List GT)
mutual
noncomputable def gtB (K:Frag):Nat→GT→Value→Bool
 |_,.non,.none=>true
 |_,.bl a,.bool b=>a==b
 |_,.int i,.int j _=>i==j
 |_,.str a,.str b _=>a==b
 | n + 1, .tup ds, .ref a => (match K.lookup a with
  |some ⟨.type t,_,.seq its _,_⟩=>t=="tuple" &&decide (its.size≤1000)&&gtsB K n ds its.toList
  |_=>false)
 |_,_,_=>false
noncomputable def gtsB (K:Frag):Nat→List GT→List Value→Bool
 |_,[],[]=>true
 |n+1,d::ds,v::vs=>gtB K n d v&&gtsB K n ds vs
 |_,_,_=>false
end
noncomputable def glB (K:Frag) (p:Str×GT):Bool:=match nsIn K mainGlobals p.1 with
 |some (some u)=>gtB K 40 p.2 u
 |_=>false
noncomputable def bltB (K:Frag) (x:Str):Bool:=match nsIn K mainGlobals x with
 |some none=>true
 |_=>false
noncomputable def bltN:List Str:=["len","all","any","divmod","max","min","isinstance","sum","sorted","set","tuple","list","int","bool","str","dict","range","enumerate","zip"]
noncomputable def seenY (fs:List Str) (gl:List (Str×GT)) (xt:XT) (s:Shared):List (Option (FuncData×Bool))×Bool:=
 (fs.map (Zam (ZaG s.heap)),(gl.all (glB (ZaG s.heap))&&bltN.all (bltB (ZaG s.heap)))&&okE (ZaG s.heap) s.heap xt)
noncomputable def ZbF (p:Program):Program:={p with main:={p.main with body:=p.main.body.filter fun st=>match st with| .Assign [.Name x _] _ _=> !(x==("__name__" :Str))|_=>true}}
noncomputable abbrev LeftY (p:Program) (fs:List Str) (gl:List (Str×GT)) (xt:XT) (want:List (Option (FuncData×Bool))) (N:Nat):Prop:=LeftO p (ZbF p) [] (fun _=>true) (seenY fs gl xt) (fun _=>(want,true)) N
noncomputable abbrev seenA (p:Program) (s:Shared):=let o:=openSeen (ZbF p) [] (importedModules p.main.body) (fun _=>true) true s;(o.1,o.2.1)
noncomputable abbrev goodA (p:Program):=let o:=openGood (ZbF p) [];(o.1,o.2.1)
noncomputable abbrev seenB (p:Program) (s:Shared):=(openSeen (ZbF p) [] (importedModules p.main.body) (fun _=>true) true s).2.2.1
noncomputable abbrev goodB (p:Program):=(openGood (ZbF p) []).2.2.1
noncomputable abbrev seenC (p:Program) (s:Shared):=(openSeen (ZbF p) [] (importedModules p.main.body) (fun _=>true) true s).2.2.2
noncomputable abbrev goodC (p:Program):=(openGood (ZbF p) []).2.2.2
theorem Zly {p:Program} {fs:List Str} {gl:List (Str×GT)} {xt:XT} {want:List (Option (FuncData×Bool))} {N:Nat}
  (a:∀w,(fEnds p w N).map (seenA p)=some (goodA p))
  (b:∀w,(fEnds p w N).map (seenB p)=some (goodB p))
  (c:∀w,(fEnds p w N).map (seenC p)=some (goodC p))
  (d:∀w,(fEnds p w N).map (seenY fs gl xt)=some (want,true)):LeftY p fs gl xt want N:=fun w=>by
 have a:=Zcu (a w)
 have b:=Zcu (b w)
 have c:=Zcu (c w)
 have d:=Zcu (d w)
 cases e:openEnds treeTable p w N with
 |none=>rw [e] at a;cases a
 |some s=>
  rw [e] at a b c d
  have a:=Option.some.inj a
  have b:=Option.some.inj b
  have c:=Option.some.inj c
  have d:=Option.some.inj d
  exact congrArg some (Prod.ext (Prod.ext (congrArg (·.1) a) (Prod.ext (congrArg (·.2) a) (Prod.ext b c))) d)
end Py
namespace Lw
open PySem Py
noncomputable def top (i:Nat):Stmt:=Yai.main.body.getD i (.Pass ⟨0,0,0,0⟩)
noncomputable def fs:List Str:=[(Yah "is_whole"),(Yah "is_from_to"),(Yah "is_tuple"),(Yah "is_word"),(Yah "is_rising"),(Yah "is_way"),(Yah "part_at"),(Yah "check_way"),(Yah "check_hand"),(Yah "part_of"),(Yah "is_box"),(Yah "is_program"),(Yah "is_frame"),(Yah "places_from"),(Yah "is_write"),(Yah "is_look"),(Yah "writers"),(Yah "writes"),(Yah "is_template"),(Yah "way_for"),(Yah "check_template"),(Yah "is_look_at"),(Yah "program_for"),(Yah "rows_of"),(Yah "looked_at"),(Yah "_law_mixed"),(Yah "_law_pack"),(Yah "_law_take"),(Yah "_law_numbers"),(Yah "_law_template"),(Yah "_law_known_template"),(Yah "_law_some_template"),(Yah "_law_owner"),(Yah "_law_hand_right"),(Yah "_law_counts_right"),(Yah "_law_low_right"),(Yah "law")]
noncomputable def glT:List (Str×GT):=[("KINDS",.tup [.str "whole",.str "either",.str "torn"]),("WHOM",.tup [.str "others",.str "lower",.str "higher"])]
noncomputable def xt:XT:=⟨[],[],[],["_law_looks","_law_due","_law_told"]⟩
noncomputable def want:List (Option (FuncData×Bool)):=[Zan "is_whole" (top 8),Zan "is_from_to" (top 9),Zan "is_tuple" (top 10),Zan "is_word" (top 11),Zan "is_rising" (top 12),Zan "is_way" (top 15),Zan "part_at" (top 16),Zan "check_way" (top 17),Zan "check_hand" (top 18),Zan "part_of" (top 19),Zan "is_box" (top 20),Zan "is_program" (top 21),Zan "is_frame" (top 22),Zan "places_from" (top 23),Zan "is_write" (top 24),Zan "is_look" (top 25),Zan "writers" (top 26),Zan "writes" (top 27),Zan "is_template" (top 30),Zan "way_for" (top 31),Zan "check_template" (top 32),Zan "is_look_at" (top 33),Zan "program_for" (top 34),Zan "rows_of" (top 35),Zan "looked_at" (top 36),Zan "_law_mixed" (top 38),Zan "_law_pack" (top 39),Zan "_law_take" (top 40),Zan "_law_numbers" (top 41),Zan "_law_template" (top 42),Zan "_law_known_template" (top 43),Zan "_law_some_template" (top 44),Zan "_law_owner" (top 45),Zan "_law_hand_right" (top 46),Zan "_law_counts_right" (top 47),Zan "_law_low_right" (top 48),Zan "law" (top 49)]
theorem leftA:∀w,(fEnds Yai w 20000).map (seenA Yai)=some (goodA Yai):=fun w=>by kernel_rfl
theorem leftB:∀w,(fEnds Yai w 20000).map (seenB Yai)=some (goodB Yai):=fun w=>by kernel_rfl
theorem leftC:∀w,(fEnds Yai w 20000).map (seenC Yai)=some (goodC Yai):=fun w=>by kernel_rfl
theorem leftD:∀w,(fEnds Yai w 20000).map (seenY fs glT xt)=some (want,true):=fun w=>by kernel_rfl
theorem well:Ya1.wellSaid=true:=by kernel_rfl
theorem ok:(PySem.W.chainsOk (ZbF Yai)&&PySem.W.opensWell Yai&&(PySem.W.frees Ya1.row.toRowW&&Ya1.row.within.isEmpty))=true:=by kernel_rfl
end Lw
namespace L2
open PySem PySem.Spec PyProof.Rows
noncomputable abbrev Key:=Sum Int Str
noncomputable def keyIs:Key→Value→Bool
 | .inl k,v=>Value.isInt k v
 | .inr x,v=>Value.isStrOf x v
noncomputable def keyH (w:World):Key→Int
 | .inl k=>hashInt k
 | .inr x=>hashStr w x
theorem Zax:∀{k:Key} {v:Value},keyIs k v=true→(∃i t,k=Sum.inl i∧v=Value.int i t)∨(∃x t,k=Sum.inr x∧v=Value.str x t)
 | .inl i,v,h=>by
  obtain⟨t,e⟩:=Value.isInt_shape (k:=i) (v:=v) h
  exact .inl ⟨i,t,rfl,e⟩
 | .inr x,v,h=>by
  obtain⟨t,e⟩:=Value.isStrOf_shape (x:=x) (v:=v) h
  exact .inr ⟨x,t,rfl,e⟩
theorem Zh1 (i:Int) (t:Tok):keyIs (.inl i) (.int i t)=true:=by simp [keyIs,Value.isInt]
theorem Zh0 (x:Str) (t:Tok):keyIs (.inr x) (.str x t)=true:=by simp [keyIs,Value.isStrOf]
theorem ZnO (a b:Int):decide ((Sum.inl a:Key)=Sum.inl b)=(a==b):=by
 by_cases e:a=b
 ·subst e;simp
 ·have h:¬(Sum.inl a:Key)=Sum.inl b:=fun q=>e (Sum.inl.inj q)
  rw [decide_eq_false h]
  exact(beq_eq_false_iff_ne.mpr e).symm
theorem ZnL (a b:Str):decide ((Sum.inr a:Key)=Sum.inr b)=decide (a=b):=by
 by_cases e:a=b
 ·subst e;simp
 ·have h:¬(Sum.inr a:Key)=Sum.inr b:=fun q=>e (Sum.inr.inj q)
  rw [decide_eq_false h,decide_eq_false e]
theorem ZnN (a:Int) (b:Str):decide ((Sum.inl a:Key)=Sum.inr b)=false:=decide_eq_false (fun q=>nomatch q)
theorem ZnM (a:Str) (b:Int):decide ((Sum.inr a:Key)=Sum.inl b)=false:=decide_eq_false (fun q=>nomatch q)
noncomputable def ZaJ (prog:Program) (w:World):PySem.KeyKind prog w Key where
 is:=keyIs
 hash:=keyH w
 inj:=fun v a b ha hb=>by
  rcases Zax ha with ⟨i,t,rfl,rfl⟩|⟨x,t,rfl,rfl⟩
  ·rcases Zax hb with ⟨j,u,rfl,e⟩|⟨y,u,rfl,e⟩
   ·injection e with e1 _;rw [e1]
   ·exact nomatch e
  ·rcases Zax hb with ⟨j,u,rfl,e⟩|⟨y,u,rfl,e⟩
   ·exact nomatch e
   ·injection e with e1 _;rw [e1]
 byValue:=fun k v h=>by
  rcases Zax h with ⟨i,t,rfl,rfl⟩|⟨x,t,rfl,rfl⟩<;>rfl
 pyHash:=fun hv h=>by
  rcases Zax hv with ⟨i,t,rfl,rfl⟩|⟨x,t,rfl,rfl⟩
  ·exact wpAny_pyHash_int h
  ·exact wpAny_pyHash_str h
 eqBool:=fun hu hv h=>by
  rcases Zax hu with ⟨i,t,rfl,rfl⟩|⟨x,t,rfl,rfl⟩
  ·rcases Zax hv with ⟨j,u,rfl,rfl⟩|⟨y,u,rfl,rfl⟩
   ·rw [ZnO] at h;exact wpAny_eqBool_int h
   ·rw [ZnN] at h;exact SeqAt.EqAt.int_str i t y u _ _ _ _ h
  ·rcases Zax hv with ⟨j,u,rfl,rfl⟩|⟨y,u,rfl,rfl⟩
   ·rw [ZnM] at h;exact SeqAt.EqAt.str_int x t j u _ _ _ _ h
   ·rw [ZnL] at h;exact wpAny_eqBool_str h
 «strs»:=fun k x t v h=>by
  rcases Zax h with ⟨i,u,rfl,e⟩|⟨y,u,rfl,e⟩
  ·exact nomatch e
  ·injection e with e1 _
   subst e1
   cases v<;>rfl
theorem ZgY (prog:Program) (w:World) (k:Key) (v:Value):(ZaJ prog w).is k v=keyIs k v:=rfl
theorem ZfQ (prog:Program) (w:World) (i:Int) (t:Tok):(ZaJ prog w).is (.inl i) (.int i t)=true:=Zh1 i t
theorem ZfP (prog:Program) (w:World) (x:Str) (t:Tok):(ZaJ prog w).is (.inr x) (.str x t)=true:=Zh0 x t
end L2
namespace L2
open PySem PySem.Spec PyProof.Rows
inductive V where
 |non|bl (b:Bool)|int (i:Int)|str (x:Str)|byt (b:Array UInt8)|flt (b:UInt64)|ref (a:Addr)|ty (n:String)
 deriving DecidableEq
noncomputable def RelV:V→Value→Prop
 | .non,u=>u=Value.none
 | .bl b,u=>u=Value.bool b
 | .int i,u=>∃t,u=Value.int i t
 | .str x,u=>∃t,u=Value.str x t
 | .byt b,u=>∃t,u=Value.bytes b t
 | .flt b,u=>∃t,u=Value.float b t
 | .ref a,u=>u=Value.ref a
 | .ty n,u=>u=Value.type n
noncomputable abbrev Vals:List V→List Value→Prop:=Paired RelV
theorem Vals.length {xs:List V} {us:List Value} (r:Vals xs us):xs.length=us.length:=Paired.length r
theorem Vals.get:∀{xs:List V} {us:List Value} {i:Nat} {x:V},Vals xs us→xs[i]?=some x→∃u,us[i]?=some u∧RelV x u
 |_,_,_,_,.nil,e=>by simp at e
 |_,_,0,_,.cons r _,e=>by simp at e;subst e;exact⟨_,rfl,r⟩
 |_,_,i+1,x,.cons _ t,e=>by
  obtain⟨u,h1,h2⟩:=Vals.get (i:=i) (x:=x) t (by simpa using e)
  exact⟨u,by simpa using h1,h2⟩
theorem Vals.set {x:V} {u:Value} (r:RelV x u):∀{xs:List V} {us:List Value} (i:Nat),Vals xs us→Vals (xs.set i x) (us.set i u)
 |_,_,_,.nil=>.nil
 |_,_,0,.cons _ t=>.cons r t
 |_,_,i+1,.cons q t=>.cons q (Vals.set r i t)
theorem Vals.append:∀{xs ys:List V} {us ws:List Value},Vals xs us→Vals ys ws→Vals (xs++ys) (us++ws)
 |_,_,_,_,.nil,s=>s
 |_,_,_,_,.cons r t,s=>.cons r (Vals.append t s)
theorem Vals.take:∀{xs:List V} {us:List Value} (n:Nat),Vals xs us→Vals (xs.take n) (us.take n)
 |_,_,0,_=>.nil
 |_,_,_+1,.nil=>.nil
 |_,_,n+1,.cons r t=>.cons r (Vals.take n t)
theorem Vals.drop:∀{xs:List V} {us:List Value} (n:Nat),Vals xs us→Vals (xs.drop n) (us.drop n)
 |_,_,0,r=>r
 |_,_,_+1,.nil=>.nil
 |_,_,n+1,.cons _ t=>Vals.drop n t
noncomputable def RelO:Option V→Option Value→Prop
 |some v,some u=>RelV v u
 |none,none=>True
 |_,_=>False
noncomputable def KV {κ:Type}:List (κ×V)→List (κ×Value)→Prop:=Paired fun(p:κ×V) (q:κ×Value)=>p.1=q.1∧RelV p.2 q.2
noncomputable def kV:Key→V
 | .inl i=>.int i
 | .inr x=>.str x
inductive HO where
 |lst (xs:List V)
 |tup (xs:List V)
 |dK (kvs:List (Key×V))|dT (kvs:List (List Key×V))
 |set (S:Int→Bool) (n:Nat)
 |ins (C dx:Addr) (fs:List (Str×V))
 |own (x:Addr)
 |xd (fs:List (Str×V))
 |met (f x:Addr)
 |rng (lo hi:Int)
 |frz (o:Obj) (u:HO)
 |tbl (ps:Array Value)
 |ext (φ:Heap→Prop)
noncomputable abbrev Hp:=Addr→Option HO
noncomputable def upd (H:Hp) (a:Addr) (o:HO):Hp:=fun b=>if b=a then some o else H b
theorem Zaq {H:Hp} {a:Addr} {o:HO}:upd H a o a=some o:=by unfold upd;rw [if_pos rfl]
theorem Zaf {H:Hp} {a b:Addr} {o:HO} (h:b≠a):upd H a o b=H b:=by unfold upd;rw [if_neg h]
theorem ne_of {H:Hp} {a b:Addr} {o u:HO} (h:H a=some o) (h':H b=some u) (d:o≠u):a≠b:=by
 intro e;subst e;rw [h] at h';exact d (Option.some.inj h')
theorem Zai {H:Hp} {a b:Addr} {o:HO} (h:H a=some o) (h':H b=none):a≠b:=by
 intro e;subst e;rw [h] at h';cases h'
section
variable (P:Program) (w:World)
noncomputable def ObjOk (H:Hp) (h:Heap) (a:Addr):HO→Prop
 | .lst xs=>xs.length≤sizeLine∧∃(its:List Value) (n:Nat),Vals xs its∧h.get? a=some {cls:=.type "list",data:=.seq its.toArray n}
 | .tup xs=>xs.length≤sizeLine∧∃its:List Value,Vals xs its∧IsTup h a its.toArray
 | .dK kvs=>kvs.length≤sizeLine∧(a==sysModules)=false∧∃vs,KV kvs vs∧h.DictOf (ZaJ P w) a vs
 | .dT kvs=>kvs.length≤sizeLine∧(a==sysModules)=false∧∃xs:List (List Key×Addr×Value),
   Paired (fun(p:List Key×V) (q:List Key×Addr×Value)=>p.1=q.1∧H q.2.1=some (.tup (p.1.map kV))∧RelV p.2 q.2.2) kvs xs∧
   ∃o es ep,h.get? a=some o∧o.ExactDict∧o.data=.dict es ep∧es.toList=xs.map (entryOfKey (tupleKind (ZaJ P w)))∧(xs.map (·.1)).Nodup
 | .set S n=>h.SetOf (intKind P w) a S n
 | .ins C dx fs=>H dx=some (.own a)∧fs.length≤1000∧dx≠a∧h.get? a=some (PySem.W.instObj C dx)∧
   ∃mA,h.Ns1 dx mA∧(∀f,RelO (fs.lookup f) (mA f))∧PySem.Within mA (fs.map (·.1))
 | .own _=>∃o,h.get? a=some o
 | .xd fs=>∃mA,h.Ns1 a mA∧∀f,RelO (fs.lookup f) (mA f)
 | .rng lo hi=>∃t u v,h.get? a=some {cls:=.type "range",data:=.fields #[.int lo t,.int hi u,.int 1 v]}
 | .frz o u=>h.get? a=some o∧ObjOk H h a u
 | .tbl ps=>h.get? a=some {cls:=.none,data:=.fields ps}
 | .met f x=>h.get? a=some (Yb3 (.ref f) (.ref x))
 | .ext φ=>φ h∧(∃o,h.get? a=some o)∧∀h1 h2:Heap,φ h1→(∀o,h1.get? a=some o→h2.get? a=some o)→φ h2
noncomputable def HOk (H:Hp) (h:Heap):Prop:=∀a o,H a=some o→ObjOk P w H h a o
end
section
variable {P:Program} {w:World} {H H':Hp} {h h':Heap} {a:Addr} {o:HO}
theorem ObjOk.lt (x:ObjOk P w H h a o):a<h.objs.size:=by
 cases o with
 |lst xs=>obtain⟨_,_,_,_,e⟩:=x;exact Yat e
 |tup xs=>obtain⟨_,_,_,p⟩:=x;exact p.lt
 |dK kvs=>obtain⟨_,_,_,_,o,_,_,e,_⟩:=x;exact Yat e
 |dT kvs=>obtain⟨_,_,_,_,o,_,_,e,_⟩:=x;exact Yat e
 |set S n=>obtain⟨o,_,_,_,e,_⟩:=x;exact Yat e
 |ins C dx fs=>obtain⟨_,_,_,e,_⟩:=x;exact Yat e
 |own y=>obtain⟨_,e⟩:=x;exact Yat e
 |xd fs=>obtain⟨_,⟨_,_,_,e,_⟩,_⟩:=x;exact Yat e
 |rng lo hi=>obtain⟨_,_,_,e⟩:=x;exact Yat e
 |frz ob u=>obtain⟨e,_⟩:=x;exact Yat e
 |tbl ps=>exact Yat (show h.get? a=some _ from x)
 |met f y=>exact Yat (show h.get? a=some _ from x)
 |ext φ=>obtain⟨_,⟨_,e⟩,_⟩:=x;exact Yat e
theorem Paired.mapP {α β:Type} {F G:α→β→Prop}:∀{l₁:List α} {l₂:List β},Paired F l₁ l₂→(∀a b,F a b→G a b)→Paired G l₁ l₂
 |_,_,.nil,_=>.nil
 |_,_,.cons r t,f=>.cons (f _ _ r) (Paired.mapP t f)
theorem ObjOk.stay (x:ObjOk P w H h a o) (k:∀b u,(b=a∨H b=some (.own a))→h.get? b=some u→h'.get? b=some u)
  (ho:∀b,H b=some (.own a)→H' b=some (.own a)) (ht:∀b xs,H b=some (.tup xs)→H' b=some (.tup xs)):ObjOk P w H' h' a o:=by
 induction o with
 |lst xs=>obtain⟨z,its,n,r,e⟩:=x;exact⟨z,its,n,r,k _ _ (.inl rfl) e⟩
 |tup xs=>obtain⟨z,its,r,ob,e,c⟩:=x;exact⟨z,its,r,ob,k _ _ (.inl rfl) e,c⟩
 |dK kvs=>obtain⟨z,y,vs,r,ob,es,ep,e,c⟩:=x;exact⟨z,y,vs,r,ob,es,ep,k _ _ (.inl rfl) e,c⟩
 |dT kvs=>
  obtain⟨z,y,xs,r,ob,es,ep,e,c⟩:=x
  exact⟨z,y,xs,Paired.mapP r fun p q z=>⟨z.1,ht _ _ z.2.1,z.2.2⟩,ob,es,ep,k _ _ (.inl rfl) e,c⟩
 |set S n=>obtain⟨ob,es,ep,t,e,c⟩:=x;exact⟨ob,es,ep,t,k _ _ (.inl rfl) e,c⟩
 |ins C dx fs=>
  obtain⟨d,z,ne,e,mA,⟨od,es,ep,e2,c⟩,r⟩:=x
  exact⟨ho _ d,z,ne,k _ _ (.inl rfl) e,mA,⟨od,es,ep,k _ _ (.inr d) e2,c⟩,r⟩
 |own y=>obtain⟨ob,e⟩:=x;exact⟨ob,k _ _ (.inl rfl) e⟩
 |xd fs=>obtain⟨mA,⟨od,es,ep,e,c⟩,r⟩:=x;exact⟨mA,⟨od,es,ep,k _ _ (.inl rfl) e,c⟩,r⟩
 |rng lo hi=>obtain⟨t,u,v,e⟩:=x;exact⟨t,u,v,k _ _ (.inl rfl) e⟩
 |frz ob u ih=>obtain⟨e,q⟩:=x;exact⟨k _ _ (.inl rfl) e,ih q⟩
 |tbl ps=>
  have e:h.get? a=some {cls:=.none,data:=.fields ps}:=x
  show h'.get? a=some {cls:=.none,data:=.fields ps}
  exact k a _ (.inl rfl) e
 |met f y=>
  have e:h.get? a=some (Yb3 (.ref f) (.ref y)):=x
  show h'.get? a=some (Yb3 (.ref f) (.ref y))
  exact k a _ (.inl rfl) e
 |ext φ=>obtain⟨p,⟨o,e⟩,st⟩:=x;exact⟨st _ _ p fun o q=>k _ _ (.inl rfl) q,⟨o,k _ _ (.inl rfl) e⟩,st⟩
theorem HOk.lt (x:HOk P w H h) (e:H a=some o):a<h.objs.size:=(x a o e).lt
theorem HOk.fresh (x:HOk P w H h) (e:h.objs.size≤a):H a=none:=by
 cases q:H a with
 |none=>rfl
 |some u=>exact absurd (Yax (x.lt q) e) (YaO _)
theorem HOk.kept (x:HOk P w H h) (k:∀b u,h.get? b=some u→h'.get? b=some u):HOk P w H h':=fun a o e=>
 (x a o e).stay (fun b u _ q=>k b u q) (fun _ q=>q) fun _ _ q=>q
theorem HOk.laid (x:HOk P w H h) (k:∀b u,h.get? b=some u→h'.get? b=some u) (hp:h.objs.size≤a) (new:ObjOk P w (upd H a o) h' a o):HOk P w (upd H a o) h':=fun b u e=>by
 have hn:=x.fresh hp
 by_cases hb:b=a
 ·subst hb;rw [Zaq] at e;cases e;exact new
 ·rw [Zaf hb] at e
  exact(x b u e).stay (fun c v _ q=>k c v q) (fun c q=>by rw [Zaf (Zai q hn)];exact q) fun c xs q=>by rw [Zaf (Zai q hn)];exact q
end
noncomputable def Rd (H:Hp) (a:Addr) (u:HO):Prop:=H a=some u∨∃o,H a=some (.frz o u)
theorem Rd.ok {P:Program} {w:World} {H:Hp} {h:Heap} {a:Addr} {u:HO} (r:Rd H a u) (x:HOk P w H h):ObjOk P w H h a u:=by
 rcases r with r|⟨o,r⟩
 ·exact x a u r
 ·obtain⟨_,q⟩:=x a _ r
  exact q
noncomputable def Mut:Option HO→Prop
 |some (.lst _)=>True
 |some (.dK _)=>True
 |some (.dT _)=>True
 |some (.set _ _)=>True
 |some (.ins _ _ _)=>True
 |some (.ext _)=>True
 |_=>False
section
variable {P:Program} {w:World} {H:Hp} {h h':Heap} {x e:Addr} {o':HO}
theorem HOk.write (ok:HOk P w H h) (mu:Mut (H x)) (he:e=x∨H e=some (.own x)) (k:∀b u,b≠e→h.get? b=some u→h'.get? b=some u) (heo:∃u,h'.get? e=some u)
  (new:ObjOk P w (upd H x o') h' x o'):HOk P w (upd H x o') h':=fun b u q=>by
 have nown:∀c y,H c=some (.own y)→c≠x:=fun c y r z=>by subst z;rw [r] at mu;exact mu
 have ntup:∀c xs,H c=some (.tup xs)→c≠x:=fun c xs r z=>by subst z;rw [r] at mu;exact mu
 by_cases hb:b=x
 ·subst hb;rw [Zaq] at q;cases q;exact new
 ·rw [Zaf hb] at q
  by_cases hbe:b=e
  ·have q':H b=some (.own x):=by
    rcases he with z|z
    ·exact absurd (hbe.trans z) hb
    ·rw [hbe];exact z
   rw [q] at q';cases q'
   obtain⟨v,hv⟩:=heo
   exact⟨v,by rw [hbe];exact hv⟩
  ·refine(ok b u q).stay (fun c v hc r=>k c v ?_ r) (fun c r=>by rw [Zaf (nown c b r)];exact r) fun c xs r=>by rw [Zaf (ntup c xs r)];exact r
   rcases hc with rfl|hc
   ·exact hbe
   ·rintro rfl
    rcases he with z|z
    ·exact nown c b hc z
    ·rw [hc] at z;cases z;exact hb rfl
end
structure Un (fs ex:List Addr) (H H':Hp) (h h':Heap):Prop where
 keep:∀b o,h.get? b=some o→H b=none→b∉fs→b∉ex→h'.get? b=some o
 slot:∀b o,h.get? b=some o→H b=none→b∈fs→b∉ex→∃sl,h'.get? b=some {o with slots:=sl}
 free:∀b o,h.get? b=some o→H b=none→b∉ex→H' b=none
 there:∀b o,h.get? b=some o→b∉ex→∃o',h'.get? b=some o'
 tups:∀b xs,H b=some (.tup xs)→H' b=some (.tup xs)
 frzs:∀b o u,H b=some (.frz o u)→H' b=some (.frz o u)
 tbls:∀b ps,H b=some (.tbl ps)→∃more,H' b=some (.tbl (ps++more))
section
variable {fs fs' ex ex':List Addr} {H H1 H2:Hp} {h h1 h2 h':Heap} {a x e:Addr} {o:HO}
theorem Un.any (u:Un fs ex H H1 h h1) {b:Addr} {ob:Obj} (q:h.get? b=some ob) (n:H b=none) (hx:b∉ex):∃sl,h1.get? b=some {ob with slots:=sl}:=by
 by_cases hb:b∈fs
 ·exact u.slot b ob q n hb hx
 ·exact⟨ob.slots,u.keep b ob q n hb hx⟩
theorem Un.kept (k:∀b u,h.get? b=some u→h'.get? b=some u):Un fs ex H H h h':=
 ⟨fun b ob q _ _ _=>k b ob q,fun b ob q _ _ _=>⟨ob.slots,k b ob q⟩,fun _ _ _ n _=>n,fun b ob q _=>⟨ob,k b ob q⟩,fun _ _ q=>q,fun _ _ _ q=>q,fun _ ps q=>⟨#[],by rw [q];simp⟩⟩
theorem Un.refl:Un fs ex H H h h:=Un.kept fun _ _ q=>q
theorem Un.laid (k:∀b u,h.get? b=some u→h'.get? b=some u) (hp:h.objs.size≤a) (hn:H a=none):Un fs ex H (upd H a o) h h' where
 keep:=fun b u q _ _ _=>k b u q
 slot:=fun b u q _ _ _=>⟨u.slots,k b u q⟩
 free:=fun b u q n _=>by rw [Zaf (YaL (Yax (Yat q) hp))];exact n
 there:=fun b u q _=>⟨u,k b u q⟩
 tups:=fun b xs q=>by rw [Zaf (Zai q hn)];exact q
 frzs:=fun b u xs q=>by rw [Zaf (Zai q hn)];exact q
 tbls:=fun b ps q=>⟨#[],by rw [Zaf (Zai q hn),q];simp⟩
theorem Un.write (mu:Mut (H x)) (he:e=x∨H e=some (.own x)) (k:∀b u,b≠e→h.get? b=some u→h'.get? b=some u) (heo:∃u,h'.get? e=some u):Un fs ex H (upd H x o) h h':=by
 have hx:∀b,H b=none→b≠x:=fun b n z=>by subst z;rw [n] at mu;exact mu
 have hb:∀b,H b=none→b≠e:=fun b n z=>by
  subst z
  rcases he with r|r
  ·exact hx b n r
  ·rw [n] at r;cases r
 have hm:∀b u,H b=some u→¬Mut (some u)→b≠x:=fun b u q nm z=>by subst z;rw [q] at mu;exact nm mu
 refine⟨fun b u q n _ _=>k b u (hb b n) q,fun b u q n _ _=>⟨u.slots,k b u (hb b n) q⟩,fun b u q n _=>by rw [Zaf (hx b n)];exact n,fun b u q _=>?_,
  fun b xs q=>by rw [Zaf (hm b _ q fun z=>z)];exact q,fun b u xs q=>by rw [Zaf (hm b _ q fun z=>z)];exact q,fun b ps q=>⟨#[],by rw [Zaf (hm b _ q fun z=>z),q];simp⟩⟩
 by_cases hbe:b=e
 ·subst hbe;exact heo
 ·exact⟨u,k b u hbe q⟩
end
noncomputable def trk (h:Heap) (H:Hp):List Addr:=(Yau h.objs.size).filter fun a=>(H a).isSome
noncomputable def hidT (h:Heap) (H:Hp):Heap:=PySem.W.hideAll h (trk h H)
theorem Zh6 (h:Heap) (H:Hp):(hidT h H).objs.size=h.objs.size:=PySem.W.hideAll_size _ _
theorem Zju {h:Heap} {H:Hp} {b:Addr} {o:Obj} (e:h.get? b=some o) (n:H b=none):(hidT h H).get? b=some o:=
 PySem.W.hideAll_get _ e fun hm=>by
  have q:(H b).isSome=true:=(YbB.mp hm).2
  rw [n] at q;simp at q
theorem Zlb {h:Heap} {H:Hp} {b:Addr} {o:Obj} (e:(hidT h H).get? b=some o):h.get? b=some o∧H b=none:=by
 have e':h.get? b=some o:=PySem.W.of_hideAll (trk h H) e
 refine⟨e',?_⟩
 cases q:H b with
 |none=>rfl
 |some x=>
  have hm:b∈trk h H:=YbB.mpr ⟨YaN.mpr (Yat e'),by simp [q]⟩
  have z:(hidT h H).get? b=none:=PySem.W.hideAll_none (trk h H) hm
  rw [z] at e;cases e
noncomputable def Zl6 (g h:Heap) (L:Addr):List (Addr×Obj):=(Yau h.objs.size).filterMap fun a=>if a=L∨(g.get? a).isSome=true then none else (h.get? a).map fun o=>(a,o)
noncomputable def rest (g h:Heap) (L d:Addr):List (Addr×Obj):=(Zl6 g h L).filter fun p=>decide (p.1≠d)
end L2
namespace L2
open PySem PySem.Spec PyProof.Rows
structure Mod (K:Yab) (mg:Str→Option Value) (base:Heap):Prop where
 kin:K.In base
 glob:base.Ns mainGlobals mg
 blt:∃mb,base.Ns builtinsNs mb∧∀x:Str,x≠ "__name__"→mb x=bootBuiltins x
 nolimit:base.NoLimit
structure Cx where
 prog:Program
 w:World
 K:Yab
 mg:Str→Option Value
 base:Heap
 A:Around
 N:List Str
 s₀:Shared
 H₀:Hp
 env:Env
 outer:List Env
 stack:List Env
 ex:List Addr
 fn:Str→Bool
 calm:Bool
 pn:List (Addr×Obj)
 xe:Value→Shared→Prop
noncomputable def frs (l:List Env):List Addr:=l.filterMap (·.frame)
noncomputable abbrev Cx.fs (X:Cx):List Addr:=frs X.outer
noncomputable def Vis (sc:Scope) (x:Str):Prop:=sc.names.lookup x=some .local∨sc.names.lookup x=some .cell∨sc.names.lookup x=some .free
noncomputable def Loc (sc:Scope) (x:Str):Prop:=sc.names.lookup x=some .local∨sc.names.lookup x=some .cell
noncomputable def Look (env:Env) (h:Heap) (m:Str→Option Value) (x:Str) (u:Value):Prop:=
 (env.kindOf x=some .local∧m x=some u)∨((env.kindOf x=some .cell∨env.kindOf x=some .free)∧∃c,env.cells.lookup x=some c∧h.IsCell c (some u))
structure Cx.Ok (X:Cx):Prop where
 mod:Mod X.K X.mg X.base
 kind:X.env.scope.kind=.function
 glob:X.env.globals=mainGlobals
 blt:X.env.builtins=builtinsNs
 above:X.s₀.heap.objs.size≤X.env.locals
 inj:∀x y c,X.env.cells.lookup x=some c→X.env.cells.lookup y=some c→x=y
 has:∀x,(X.env.kindOf x=some .cell∨X.env.kindOf x=some .free)→∃c,X.env.cells.lookup x=some c
 cab:∀x c,X.fn x=true→X.env.cells.lookup x=some c→X.s₀.heap.objs.size≤c
 hd:X.calm=true→X.A.handled=none
 frames:X.A.frames=some X.stack
 stk:X.stack=X.outer∨(X.stack=X.env::X.outer∧X.env.frame=some X.env.locals)
 exf:∀b∈X.ex,b≠X.env.locals∧∀x c,X.env.cells.lookup x=some c→c≠b
 bs:∀b o,X.base.get? b=some o→X.s₀.heap.get? b=some o∧X.H₀ b=none
 bsz:X.base.objs.size≤X.s₀.heap.objs.size
 noex:∀b o,X.base.get? b=some o→b∉X.ex
 exfs:∀b∈X.ex,b∉X.fs
 funs:X.s₀.heap.FunFrames X.base X.outer
 frf:∀b∈X.fs,X.H₀ b=none
structure Inv (X:Cx) (pins:List (Addr×Obj)) (σ:List (Option V)) (H:Hp) (s:Shared):Prop where
 ok:X.Ok
 os:s.os=X.s₀.os
 bare:AllBare s.gens
 base:Un X.fs X.ex X.H₀ H X.s₀.heap s.heap
 loc:∃m,s.heap.Ns X.env.locals m∧∀(i:Nat) (x:Str) (v:V),X.N[i]?=some x→σ[i]?=some (some v)→Vis X.env.scope x→∃u,RelV v u∧Look X.env s.heap m x u
 cell:∀x c,X.env.cells.lookup x=some c→∃v,s.heap.IsCell c v
 free:H X.env.locals=none
 freeC:∀x c,X.env.cells.lookup x=some c→H c=none
 pin:∀p∈X.pn++pins,s.heap.get? p.1=some p.2∧H p.1=none∧p.1≠X.env.locals∧p.1∉X.fs∧∀v,p.2.data≠.cell v
 hok:HOk X.prog X.w H s.heap
 len:σ.length=X.N.length
section
variable {X:Cx} {pins:List (Addr×Obj)} {σ:List (Option V)} {H H':Hp} {s:Shared} {h':Heap}
theorem Cx.Ok.nofr (ok:X.Ok) {b:Addr} {o:Obj} (e:X.base.get? b=some o):b∉X.fs:=fun hb=>by
 have:=(ok.funs.mem hb).1
 rw [e] at this;cases this
theorem Inv.bs (I:Inv X pins σ H s):∀b o,X.base.get? b=some o→s.heap.get? b=some o∧H b=none:=fun b o e=>
 ⟨I.base.keep b o (I.ok.bs b o e).1 (I.ok.bs b o e).2 (I.ok.nofr e) (I.ok.noex b o e),I.base.free b o (I.ok.bs b o e).1 (I.ok.bs b o e).2 (I.ok.noex b o e)⟩
theorem Inv.bk (I:Inv X pins σ H s):∀b o,X.base.get? b=some o→s.heap.get? b=some o:=fun b o e=>(I.bs b o e).1
theorem Inv.mod (I:Inv X pins σ H s):Mod X.K X.mg X.base:=I.ok.mod
theorem Inv.kIn (I:Inv X pins σ H s):X.K.In s.heap:=I.ok.mod.kin.keeps I.bk
theorem Inv.lt (I:Inv X pins σ H s):X.env.locals<s.heap.objs.size:=let ⟨_,hn,_⟩:=I.loc;hn.lt
theorem Inv.sz (I:Inv X pins σ H s):X.s₀.heap.objs.size≤s.heap.objs.size:=YaC I.ok.above (YbE I.lt)
theorem Inv.nofs (I:Inv X pins σ H s) {a:Addr} (h:s.heap.objs.size≤a):a∉X.fs:=fun hb=>by
 obtain⟨_,o,ho,_⟩:=I.ok.funs.mem hb
 exact absurd (Yax (Yat ho) (YaC I.sz h)) (YaO _)
theorem Inv.cne (I:Inv X pins σ H s):∀x c,X.env.cells.lookup x=some c→c≠X.env.locals:=fun x c e z=>by
 obtain⟨v,o,ho,hd⟩:=I.cell x c e
 obtain⟨m,⟨o',es,ep,ho',hd',_⟩,_⟩:=I.loc
 rw [z,ho'] at ho;cases ho;rw [hd'] at hd;cases hd
theorem Inv.funs (I:Inv X pins σ H s):s.heap.FunFrames X.base X.outer:=by
 have all:∀(l:List Env),(∀b∈frs l,b∈X.fs)→X.s₀.heap.FunFrames X.base l→s.heap.FunFrames X.base l:=by
  intro l
  induction l with
  |nil=>intro _ _;trivial
  |cons env r ih=>
   intro hs hl
   obtain⟨hk,⟨L,o,hf,hn,ho,hd⟩,hr⟩:=hl
   have hL:L∈X.fs:=hs L (by unfold frs;rw [Ya0,hf];exact Yaw)
   obtain⟨sl,e⟩:=I.base.slot L o ho (I.ok.frf L hL) hL fun z=>I.ok.exfs L z hL
   exact⟨hk,⟨L,_,hf,hn,e,hd⟩,ih (fun b hb=>hs b (by unfold frs;rw [Ya0,hf];exact Yas _ hb)) hr⟩
 exact all X.outer (fun _ hb=>hb) I.ok.funs
theorem Inv.stack (I:Inv X pins σ H s):s.heap.FunFrames X.base X.stack:=by
 rcases I.ok.stk with e|⟨e,hf⟩
 ·rw [e];exact I.funs
 ·rw [e]
  obtain⟨m,hn,_⟩:=I.loc
  refine .cons (by rw [I.ok.kind];decide) hf hn ?_ I.funs
  exact Heap.get?_none_of_le (YaC I.ok.bsz I.ok.above)
theorem Inv.stkSub (I:Inv X pins σ H s):∀b∈frs X.stack,b∈X.env.locals::X.fs:=fun b hb=>by
 rcases I.ok.stk with e|⟨e,hf⟩
 ·rw [e] at hb;exact Yas _ hb
 ·rw [e] at hb
  unfold frs at hb
  rw [Ya0,hf] at hb
  exact hb
theorem Inv.stkFree (I:Inv X pins σ H s):∀b∈frs X.stack,H b=none:=fun b hb=>by
 rcases YaB.mp (I.stkSub b hb) with e|hb
 ·rw [e];exact I.free
 ·obtain⟨_,o,ho,_⟩:=I.ok.funs.mem hb
  exact I.base.free b o ho (I.ok.frf b hb) fun z=>I.ok.exfs b z hb
theorem Inv.step {g':Array GenState} {t':Nat} {d':Drawn} {ch:List Addr} (I:Inv X pins σ H s)
  (hch:∀b∈ch,(b∈X.ex∨X.s₀.heap.objs.size≤b)∧b≠X.env.locals∧(∀x c,X.env.cells.lookup x=some c→c≠b)∧∀p∈X.pn++pins,p.1≠b)
  (keep:∀b o,b≠X.env.locals→b∉X.fs→b∉ch→s.heap.get? b=some o→H b=none→h'.get? b=some o)
  (slot:∀b o,b≠X.env.locals→b∈X.fs→b∉ch→s.heap.get? b=some o→H b=none→∃sl,h'.get? b=some {o with slots:=sl}) (free:∀b o,b∉ch→s.heap.get? b=some o→H b=none→H' b=none)
  (there:∀b o,b∉ch→s.heap.get? b=some o→∃o',h'.get? b=some o')
  (tups:∀b xs,H b=some (.tup xs)→H' b=some (.tup xs)) (frzs:∀b o u,H b=some (.frz o u)→H' b=some (.frz o u)) (tbls:∀b ps,H b=some (.tbl ps)→∃more,H' b=some (.tbl (ps++more)))
  (ns:∀m,s.heap.Ns X.env.locals m→h'.Ns X.env.locals m) (hok:HOk X.prog X.w H' h') (hg:AllBare g'):
  Inv X pins σ H' {s with heap:=h',gens:=g',drawn:=d',toks:=t'}:=by
 have neL:∀b o,X.s₀.heap.get? b=some o→b≠X.env.locals:=fun b o e=>YaL (Yax (Yat e) I.ok.above)
 have neC:∀b o,X.s₀.heap.get? b=some o→b∉X.ex→b∉ch:=fun b o e hx hb=>by
  rcases (hch b hb).1 with z|z
  ·exact hx z
  ·exact absurd (Yax (Yat e) z) (YaO _)
 have cellK:∀x c,X.env.cells.lookup x=some c→∀v,s.heap.IsCell c v→h'.IsCell c v:=fun x c e v ⟨o,ho,hd⟩=>by
  have nch:c∉ch:=fun z=>(hch c z).2.2.1 x c e rfl
  by_cases hc:c∈X.fs
  ·obtain⟨sl,q⟩:=slot c o (I.cne x c e) hc nch ho (I.freeC x c e)
   exact⟨_,q,hd⟩
  ·exact⟨o,keep c o (I.cne x c e) hc nch ho (I.freeC x c e),hd⟩
 refine⟨I.ok,I.os,hg,⟨fun b o e n hb hx=>?_,fun b o e n hb hx=>?_,fun b o e n hx=>?_,fun b o e hx=>?_,fun b xs e=>tups b xs (I.base.tups b xs e),fun b o xs e=>frzs b o xs (I.base.frzs b o xs e),fun b ps e=>?_⟩,?_,fun x c e=>?_,?_,fun x c e=>?_,fun p hp=>?_,hok,I.len⟩
 ·exact keep b o (neL b o e) hb (neC b o e hx) (I.base.keep b o e n hb hx) (I.base.free b o e n hx)
 ·obtain⟨sl,e1⟩:=I.base.slot b o e n hb hx
  obtain⟨sl',e2⟩:=slot b _ (neL b o e) hb (neC b o e hx) e1 (I.base.free b o e n hx)
  exact⟨sl',e2⟩
 ·obtain⟨o',e1⟩:=I.base.there b o e hx
  exact free b o' (neC b o e hx) e1 (I.base.free b o e n hx)
 ·obtain⟨o',e1⟩:=I.base.there b o e hx
  exact there b o' (neC b o e hx) e1
 ·obtain⟨m1,e1⟩:=I.base.tbls b ps e
  obtain⟨m2,e2⟩:=tbls b _ e1
  exact⟨m1++m2,by rw [e2,Array.append_assoc]⟩
 ·obtain⟨m,hn,hl⟩:=I.loc
  refine⟨m,ns m hn,fun i x v e1 e2 e3=>?_⟩
  obtain⟨u,r,l⟩:=hl i x v e1 e2 e3
  refine⟨u,r,?_⟩
  rcases l with l|⟨k,c,e,z⟩
  ·exact .inl l
  ·exact .inr ⟨k,c,e,cellK x c e _ z⟩
 ·obtain⟨v,z⟩:=I.cell x c e
  exact⟨v,cellK x c e v z⟩
 ·obtain⟨m,⟨o,_,_,ho,_⟩,_⟩:=I.loc
  exact free _ o (fun z=>(hch _ z).2.1 rfl) ho I.free
 ·obtain⟨v,o,ho,hd⟩:=I.cell x c e
  exact free c o (fun z=>(hch c z).2.2.1 x c e rfl) ho (I.freeC x c e)
 ·obtain⟨e,n,ne,nf,d⟩:=I.pin p hp
  have nch:p.1∉ch:=fun z=>(hch p.1 z).2.2.2 p hp rfl
  exact⟨keep p.1 p.2 ne nf nch e n,free p.1 p.2 nch e n,ne,nf,d⟩
theorem Inv.un {t':Nat} (I:Inv X pins σ H s) (u:Un X.fs [] H H' s.heap h') (hok:HOk X.prog X.w H' h'):Inv X pins σ H' {s with heap:=h',toks:=t'}:=by
 obtain⟨m,⟨o,es,ep,ho,r⟩,_⟩:=id I.loc
 obtain⟨sl,hL⟩:=u.any ho I.free (by simp)
 exact I.step (g':=s.gens) (d':=s.drawn) (ch:=[]) (fun _ z=>nomatch z) (fun b o _ hb _ e n=>u.keep b o e n hb (by simp)) (fun b o _ hb _ e n=>u.slot b o e n hb (by simp)) (fun b o _ e n=>u.free b o e n (by simp)) (fun b o _ e=>u.there b o e (by simp)) u.tups u.frzs u.tbls (fun m' hm=>by
  obtain⟨o',es',ep',ho',r'⟩:=hm
  rw [ho] at ho';cases ho'
  exact⟨_,es',ep',hL,r'⟩) hok I.bare
theorem Inv.call {g':Array GenState} {t':Nat} {d':Drawn} {ch:List Addr} (I:Inv X pins σ H s) (u:Un (frs X.stack) ch H H' s.heap h') (hok:HOk X.prog X.w H' h') (hg:AllBare g')
  (hch:∀b∈ch,(b∈X.ex∨X.s₀.heap.objs.size≤b)∧b≠X.env.locals∧(∀x c,X.env.cells.lookup x=some c→c≠b)∧∀p∈X.pn++pins,p.1≠b):
  Inv X pins σ H' {s with heap:=h',gens:=g',drawn:=d',toks:=t'}:=by
 obtain⟨m,⟨o,es,ep,ho,r⟩,_⟩:=id I.loc
 obtain⟨sl,hL⟩:=u.any ho I.free fun z=>(hch _ z).2.1 rfl
 exact I.step (ch:=ch) hch (fun b o hL hb hc e n=>u.keep b o e n (fun z=>(YaB.mp (I.stkSub b z)).elim hL hb) hc) (fun b o _ _ hc e n=>u.any e n hc) (fun b o hc e n=>u.free b o e n hc) (fun b o hc e=>u.there b o e hc) u.tups u.frzs u.tbls (fun m' hm=>by
  obtain⟨o',es',ep',ho',r'⟩:=hm
  rw [ho] at ho';cases ho'
  exact⟨_,es',ep',hL,r'⟩) hok hg
theorem Inv.turned {t':Nat} {it:Addr} (I:Inv X pins σ H s) (k:∀b o,b≠it→s.heap.get? b=some o→h'.get? b=some o) (hn:H it=none) (hL:it≠X.env.locals)
  (h1:it∈X.ex∨X.s₀.heap.objs.size≤it) (h2:∀x c,X.env.cells.lookup x=some c→c≠it) (h3:∀p∈X.pn++pins,p.1≠it):Inv X pins σ H {s with heap:=h',toks:=t'}:=by
 have nit:∀b u,H b=some u→b≠it:=fun b u e z=>by rw [z,hn] at e;cases e
 refine I.step (g':=s.gens) (d':=s.drawn) (ch:=[it]) (fun b hb=>?_) (fun b o _ _ hc e _=>k b o (fun z=>hc (by simp [z])) e) (fun b o _ _ hc e _=>⟨o.slots,k b o (fun z=>hc (by simp [z])) e⟩) (fun _ _ _ _ n=>n)
  (fun b o hc e=>⟨o,k b o (fun z=>hc (by simp [z])) e⟩) (fun _ _ e=>e) (fun _ _ _ e=>e) (fun b ps e=>⟨#[],by rw [e];simp⟩) (fun m hm=>?_) (fun b u e=>?_) I.bare
 ·have e:b=it:=by simpa using hb
  subst e
  exact⟨h1,hL,h2,h3⟩
 ·obtain⟨o,es,ep,ho,r⟩:=hm
  exact⟨o,es,ep,k _ o (Ne.symm hL) ho,r⟩
 ·refine(I.hok b u e).stay (fun c v hc q=>k c v ?_ q) (fun _ q=>q) fun _ _ q=>q
  rcases hc with z|z
  ·rw [z];exact nit b u e
  ·exact nit c _ z
theorem Inv.tok (I:Inv X pins σ H s) (t:Nat):Inv X pins σ H {s with toks:=t}:=I.un (h':=s.heap) (t':=t) Un.refl I.hok
theorem Inv.kept {t':Nat} (I:Inv X pins σ H s) (k:∀b u,s.heap.get? b=some u→h'.get? b=some u):Inv X pins σ H {s with heap:=h',toks:=t'}:=I.un (Un.kept k) (I.hok.kept k)
theorem Inv.laid {a:Addr} {o:HO} {t':Nat} (I:Inv X pins σ H s) (k:∀b u,s.heap.get? b=some u→h'.get? b=some u) (hp:s.heap.objs.size≤a) (new:ObjOk X.prog X.w (upd H a o) h' a o):
  Inv X pins σ (upd H a o) {s with heap:=h',toks:=t'}:=I.un (Un.laid k hp (I.hok.fresh hp)) (I.hok.laid k hp new)
theorem Inv.write {x e:Addr} {o:HO} {t':Nat} (I:Inv X pins σ H s) (mu:Mut (H x)) (he:e=x∨H e=some (.own x)) (k:∀b u,b≠e→s.heap.get? b=some u→h'.get? b=some u) (heo:∃u,h'.get? e=some u)
  (new:ObjOk X.prog X.w (upd H x o) h' x o):Inv X pins σ (upd H x o) {s with heap:=h',toks:=t'}:=I.un (Un.write mu he k heo) (I.hok.write mu he k heo new)
theorem Inv.pins_of {pins':List (Addr×Obj)} (I:Inv X pins σ H s) (h:∀p∈pins',s.heap.get? p.1=some p.2∧H p.1=none∧p.1≠X.env.locals∧p.1∉X.fs∧∀v,p.2.data≠.cell v):Inv X pins' σ H s:=
 ⟨I.ok,I.os,I.bare,I.base,I.loc,I.cell,I.free,I.freeC,fun p hp=>(Ybh.mp hp).elim (fun z=>I.pin p (List.mem_append_left _ z)) (h p),I.hok,I.len⟩
theorem Zgq {N:List Str} (hN:N.Nodup) {i j:Nat} {x:Str} (a:N[i]?=some x) (b:N[j]?=some x):i=j:=by
 obtain⟨h1,e1⟩:=Yac.mp a
 obtain⟨h2,e2⟩:=Yac.mp b
 exact(List.getElem_inj hN).mp (e1.trans e2.symm)
theorem Zhn {M:Model} {A:Around} {E:Value→Shared→Prop} {i:Nat} {x:Str} {v:V} {u:Value} {Q:Unit→Shared→Prop} (I:Inv X pins σ H s) (hN:X.N.Nodup) (hi:X.N[i]?=some x) (hx:Loc X.env.scope x) (r:RelV v u)
  (h:∀s',Inv X pins (σ.set i (some v)) H s'→(∃a,Heap.SameBut a s.heap s'.heap∧(a=X.env.locals∨X.env.cells.lookup x=some a))→Q () s') (hf:X.fn x=true∨X.env.scope.names.lookup x=some .local:=by first|exact .inl rfl|exact .inr rfl|assumption):wpAny M A (storeName X.env x u) Q E s:=by
 obtain⟨m,hn,hl⟩:=id I.loc
 have hcls:(X.env.scope.kind==.class||(X.env.scope.kind==.module&&X.env.locals !=X.env.globals))=false:=by rw [I.ok.kind];rfl
 have hiσ:i<σ.length:=by rw [I.len];exact(Yac.mp hi).1
 have cne:=I.cne
 have tracked:∀{a:Addr} {h':Heap},(∃o,s.heap.get? a=some o∧H a=none)→Heap.SameBut a s.heap h'→HOk X.prog X.w H h':=fun {a h'} ha hs b ob e=>by
  obtain⟨_,_,hfree⟩:=ha
  refine(I.hok b ob e).stay (fun c w' hc q=>(hs.2 c ?_).trans q) (fun _ q=>q) fun _ _ q=>q
  rintro rfl
  rcases hc with rfl|hc
  ·rw [hfree] at e;cases e
  ·rw [hfree] at hc;cases hc
 rcases hx with hk|hk
 ·refine wpAny_storeName_local hk hn (fun h' hn' hs=>?_) hcls
  obtain⟨oL,_,_,hoL,_⟩:=id hn
  refine h _ ⟨I.ok,I.os,I.bare,⟨fun b o e n hb hx=>?_,fun b o e n hb hx=>?_,I.base.free,fun b o e hx=>?_,I.base.tups,I.base.frzs,I.base.tbls⟩,⟨_,hn',fun j y v' e1 e2 e3=>?_⟩,fun y c e=>?_,I.free,I.freeC,fun p hp=>?_,tracked ⟨oL,hoL,I.free⟩ hs,by simpa using I.len⟩ ⟨_,hs,.inl rfl⟩
  ·exact(hs.2 b (YaL (Yax (Yat e) I.ok.above))).trans (I.base.keep b o e n hb hx)
  ·obtain⟨sl,e1⟩:=I.base.slot b o e n hb hx
   exact⟨sl,(hs.2 b (YaL (Yax (Yat e) I.ok.above))).trans e1⟩
  ·obtain⟨o',e1⟩:=I.base.there b o e hx
   exact⟨o',(hs.2 b (YaL (Yax (Yat e) I.ok.above))).trans e1⟩
  ·by_cases hj:j=i
   ·subst hj
    rw [hi] at e1;cases e1
    rw [YaA hiσ] at e2
    cases e2
    exact⟨u,r,.inl ⟨hk,by simp⟩⟩
   ·rw [Yap (Ne.symm hj)] at e2
    obtain⟨u',r',q⟩:=hl j y v' e1 e2 e3
    refine⟨u',r',?_⟩
    rcases q with ⟨k,e⟩|⟨k,c,e,z⟩
    ·refine .inl ⟨k,?_⟩
     have:y≠x:=fun e=>hj (Zgq hN e1 (e▸hi))
     simp [this,e]
    ·exact .inr ⟨k,c,e,z.sameBut hs (cne y c e)⟩
  ·obtain⟨w',z⟩:=I.cell y c e
   exact⟨w',z.sameBut hs (cne y c e)⟩
  ·obtain⟨e,n,ne,nf,d⟩:=I.pin p hp
   exact⟨(hs.2 p.1 ne).trans e,n,ne,nf,d⟩
 ·have hfn:X.fn x=true:=by
   rcases hf with z|z
   ·exact z
   ·rw [z] at hk;cases hk
  obtain⟨c,hc⟩:=I.ok.has x (.inl hk)
  obtain⟨w',z⟩:=I.cell x c hc
  refine wpAny_storeName_cell I.ok.kind hk hc z (fun h' hc' hs=>?_)
  obtain⟨oc,hoc,hocd⟩:=id z
  refine h {s with heap:=h'} ⟨I.ok,I.os,I.bare,⟨fun b o e n hb hx=>?_,fun b o e n hb hx=>?_,I.base.free,fun b o e hx=>?_,I.base.tups,I.base.frzs,I.base.tbls⟩,⟨m,hn.sameBut hs (Ne.symm (cne x c hc)),fun j y v' e1 e2 e3=>?_⟩,fun y c' e=>?_,I.free,I.freeC,fun p hp=>?_,tracked ⟨oc,hoc,I.freeC x c hc⟩ hs,by simpa using I.len⟩ ⟨c,hs,.inr hc⟩
  ·exact(hs.2 b (YaL (Yax (Yat e) (I.ok.cab x c hfn hc)))).trans (I.base.keep b o e n hb hx)
  ·obtain⟨sl,e1⟩:=I.base.slot b o e n hb hx
   exact⟨sl,(hs.2 b (YaL (Yax (Yat e) (I.ok.cab x c hfn hc)))).trans e1⟩
  ·obtain⟨o',e1⟩:=I.base.there b o e hx
   exact⟨o',(hs.2 b (YaL (Yax (Yat e) (I.ok.cab x c hfn hc)))).trans e1⟩
  ·by_cases hj:j=i
   ·subst hj
    rw [hi] at e1;cases e1
    rw [YaA hiσ] at e2
    cases e2
    exact⟨u,r,.inr ⟨.inl hk,c,hc,hc'⟩⟩
   ·rw [Yap (Ne.symm hj)] at e2
    obtain⟨u',r',q⟩:=hl j y v' e1 e2 e3
    refine⟨u',r',?_⟩
    rcases q with q|⟨k,c',e,z'⟩
    ·exact .inl q
    ·refine .inr ⟨k,c',e,z'.sameBut hs ?_⟩
     rintro rfl
     exact hj (Zgq hN e1 (I.ok.inj _ _ _ e hc▸hi))
  ·by_cases hcc:c'=c
   ·subst hcc;exact⟨_,hc'⟩
   ·obtain⟨w2,z2⟩:=I.cell y c' e
    exact⟨w2,z2.sameBut hs hcc⟩
  ·obtain⟨e,n,ne,nf,d⟩:=I.pin p hp
   refine⟨(hs.2 p.1 ?_).trans e,n,ne,nf,d⟩
   intro q
   rw [q,hoc] at e
   have q':oc=p.2:=Option.some.inj e
   exact d w' (by rw [←q'];exact hocd)
theorem Zdh {M:Model} {A:Around} {E:Value→Shared→Prop} {i:Nat} {x:Str} {v:V} {u:Value} {Q:Unit→Shared→Prop} (I:Inv X pins σ H s) (hN:X.N.Nodup) (hi:X.N[i]?=some x) (hx:Loc X.env.scope x) (r:RelV v u)
  (h:∀s',Inv X pins (σ.set i (some v)) H s'→Q () s') (hf:X.fn x=true∨X.env.scope.names.lookup x=some .local:=by first|exact .inl rfl|exact .inr rfl|assumption):wpAny M A (storeName X.env x u) Q E s:=
 Zhn I hN hi hx r (fun s' I' _=>h s' I') hf
theorem Inv.call' {s':Shared} {ch:List Addr} (I:Inv X pins σ H s) (ho:s'.os=s.os) (u:Un (frs X.stack) ch H H' s.heap s'.heap) (hok:HOk X.prog X.w H' s'.heap) (hg:AllBare s'.gens)
  (hch:∀b∈ch,(b∈X.ex∨X.s₀.heap.objs.size≤b)∧b≠X.env.locals∧(∀x c,X.env.cells.lookup x=some c→c≠b)∧∀p∈X.pn++pins,p.1≠b):Inv X pins σ H' s':=by
 obtain⟨h',g',d',t',o'⟩:=s'
 have e:o'=s.os:=ho
 subst e
 exact I.call (g':=g') (t':=t') (d':=d') u hok hg hch
end
noncomputable abbrev XK:=Value→Option Addr→Hp→Prop
noncomputable abbrev St:=List (Option V)
noncomputable abbrev VK:=V→Hp→Prop
noncomputable abbrev TE:=St→Hp→VK→Prop
noncomputable abbrev TT:=St→Hp→(Bool→Hp→Prop)→Prop
noncomputable abbrev TA:=St→Hp→(List V→Hp→Prop)→Prop
structure Ends where
 nx:St→Hp→Prop
 rt:VK
 bk:St→Hp→Prop:=fun _ _=>False
 ct:St→Hp→Prop:=fun _ _=>False
noncomputable abbrev TS:=Ends→St→Hp→Prop
noncomputable def EP (X:Cx) (pins:List (Addr×Obj)) (σ:St) (Q:VK) (u:Value) (s':Shared):Prop:=∃v H',Inv X pins σ H' s'∧RelV v u∧Q v H'
noncomputable def TP (X:Cx) (pins:List (Addr×Obj)) (σ:St) (Q:Bool→Hp→Prop) (b:Bool) (s':Shared):Prop:=∃H',Inv X pins σ H' s'∧Q b H'
noncomputable def AP (X:Cx) (pins:List (Addr×Obj)) (σ:St) (Q:List V→Hp→Prop) (us:List Value) (s':Shared):Prop:=∃vs H',Inv X pins σ H' s'∧Vals vs us∧Q vs H'
noncomputable def SP (X:Cx) (pins:List (Addr×Obj)) (D:Ends) (f:Flow) (s':Shared):Prop:=
 match f with
 | .next=>∃σ' H',Inv X pins σ' H' s'∧D.nx σ' H'
 | .brk=>∃σ' H',Inv X pins σ' H' s'∧D.bk σ' H'
 | .cont=>∃σ' H',Inv X pins σ' H' s'∧D.ct σ' H'
 | .ret u=>∃v σ' H',Inv X pins σ' H' s'∧RelV v u∧D.rt v H'
noncomputable def PE (X:Cx) (e:Expr) (t:TE):Prop:=
 ∀(pins:List (Addr×Obj)) (s:Shared) (σ:St) (H:Hp) (Q:VK),Inv X pins σ H s→t σ H Q→wpAny (model X.prog X.w) X.A (eval e X.env) (EP X pins σ Q) X.xe s
noncomputable def PT (X:Cx) (e:Expr) (t:TT):Prop:=
 ∀(pins:List (Addr×Obj)) (s:Shared) (σ:St) (H:Hp) (Q:Bool→Hp→Prop),Inv X pins σ H s→t σ H Q→wpAny (model X.prog X.w) X.A (isTrue e X.env (eval e X.env)) (TP X pins σ Q) X.xe s
noncomputable def PW (X:Cx) (e:Expr) (t:TT):Prop:=
 ∀(whole:Sem Value) (pins:List (Addr×Obj)) (s:Shared) (σ:St) (H:Hp) (Q:Bool→Hp→Prop),Inv X pins σ H s→t σ H Q→wpAny (model X.prog X.w) X.A (isTrue e X.env whole) (TP X pins σ Q) X.xe s
theorem PW.pt {X:Cx} {e:Expr} {t:TT} (h:PW X e t):PT X e t:=h _
noncomputable def PA (X:Cx) (es:List Expr) (t:TA):Prop:=
 ∀(pos:Pos) (pins:List (Addr×Obj)) (s:Shared) (σ:St) (H:Hp) (Q:List V→Hp→Prop),Inv X pins σ H s→t σ H Q→wpAny (model X.prog X.w) X.A (spliced (backTo pos (starEach es X.env))) (AP X pins σ Q) X.xe s
noncomputable def PS (X:Cx) (st:Stmt) (t:TS):Prop:=
 ∀(pins:List (Addr×Obj)) (s:Shared) (σ:St) (H:Hp) (D:Ends),Inv X pins σ H s→t D σ H→wpAny (model X.prog X.w) X.A (exec st X.env) (SP X pins D) X.xe s
noncomputable def PSs (X:Cx) (st:List Stmt) (t:TS):Prop:=
 ∀(pins:List (Addr×Obj)) (s:Shared) (σ:St) (H:Hp) (D:Ends),Inv X pins σ H s→t D σ H→wpAny (model X.prog X.w) X.A (execs st X.env) (SP X pins D) X.xe s
theorem thn {α:Type} {t:Sem α} {Q Q':α→Shared→Prop} {M:Model} {A:Around} {E:Value→Shared→Prop} {s:Shared} (h:wpAny M A t Q E s) (hQ:∀a s,Q a s→Q' a s):wpAny M A t Q' E s:=wpAny_mono h hQ fun _ _ x=>x
end L2
namespace L2
open PySem PySem.Spec PyProof.Rows
section
variable {X:Cx}
noncomputable def tVar (i:Nat):TE:=fun σ H Q=>∃v,σ[i]?=some (some v)∧Q v H
noncomputable def tC (v:V):TE:=fun _ H Q=>Q v H
theorem ZmH {i:Nat} {x:Str} {pos:Pos} (hN:X.N[i]?=some x) (hv:Vis X.env.scope x) (hd:(x==("__debug__" :Str))=false:=by decide) (hcd:(x==("__classdict__" :Str))=false:=by decide):PE X (.Name x pos) (tVar i):=by
 intro pins s σ H Q I h
 obtain⟨v,e,h⟩:=h
 obtain⟨m,hn,hl⟩:=I.loc
 obtain⟨u,r,l⟩:=hl i x v hN e hv
 have fin:EP X pins σ Q u s:=⟨v,H,I,r,h⟩
 rcases l with ⟨hk,hm⟩|⟨hk,c,hc,hcell⟩
 ·exact wpAny_Name (wpAny_loadName_local I.ok.kind hk hn hm fin) hd
 ·rcases hk with hk|hk
  ·exact wpAny_Name (wpAny_loadName_cell I.ok.kind hk hc hcell fin) hd
  ·exact wpAny_Name (wpAny_loadName_free I.ok.kind hk hc hcell fin hcd) hd
theorem ZhH {i j pos}:PE X (.Constant (.int i) j pos) (tC (.int i)):=fun _ _ _ H _ I h=>wpAny_Constant_int ⟨.int i,H,I.tok _,⟨_,rfl⟩,h⟩
theorem pe_bl {b j pos}:PE X (.Constant (.bool b) j pos) (tC (.bl b)):=fun _ _ _ H _ I h=>Constant_bool ⟨.bl b,H,I,rfl,h⟩
theorem ZmK {j pos}:PE X (.Constant .none j pos) (tC .non):=fun _ _ _ H _ I h=>Constant_none ⟨.non,H,I,rfl,h⟩
theorem ZjR {x j pos}:PE X (.Constant (.str x) j pos) (tC (.str x)):=fun _ _ _ H _ I h=>Calls.Constant_str ⟨.str x,H,I.tok _,⟨_,rfl⟩,h⟩
noncomputable def Gl (X:Cx) (x:Str):Prop:=X.env.kindOf x=some .globalImplicit
theorem ZfS {E:Value→Shared→Prop} {pins:List (Addr×Obj)} {s:Shared} {σ:St} {H:Hp} {x:Str} {u:Value} {pos:Pos} {Q:Value→Shared→Prop} (I:Inv X pins σ H s) (hg:Gl X x) (hm:X.mg x=some u) (h:Q u s)
  (hd:(x==("__debug__" :Str))=false:=by decide):wpAny (model X.prog X.w) X.A (eval (.Name x pos) X.env) Q E s:=
 Calls.Name_function_global I.ok.kind hg (Calls.loadGlobal_global (by rw [I.ok.glob];exact I.mod.glob.keeps I.bk) hm h) hd
theorem Zcp {E:Value→Shared→Prop} {pins:List (Addr×Obj)} {s:Shared} {σ:St} {H:Hp} {x:Str} {u:Value} {pos:Pos} {Q:Value→Shared→Prop} (I:Inv X pins σ H s) (hg:Gl X x) (hm:X.mg x=none) (hv:bootBuiltins x=some u) (h:Q u s)
  (hn:x≠ "__name__" :=by decide) (hd:(x==("__debug__" :Str))=false:=by decide):wpAny (model X.prog X.w) X.A (eval (.Name x pos) X.env) Q E s:=by
 obtain⟨mb,h1,h2⟩:=I.mod.blt
 exact Calls.Name_function_global I.ok.kind hg (Calls.loadGlobal_builtin (by rw [I.ok.glob];exact I.mod.glob.keeps I.bk) hm (by rw [I.ok.blt];exact h1.keeps I.bk) ((h2 x hn).trans hv) h) hd
theorem ZkR {x:Str} {v:V} {u:Value} {pos:Pos} (hg:Gl X x) (hm:X.mg x=some u) (r:RelV v u) (hd:(x==("__debug__" :Str))=false:=by decide):PE X (.Name x pos) (tC v):=
 fun _ _ _ H _ I h=>ZfS I hg hm ⟨v,H,I,r,h⟩ hd
theorem ZkW {x:Str} {v:V} {u:Value} {pos:Pos} (hg:Gl X x) (hm:X.mg x=none) (hv:bootBuiltins x=some u) (r:RelV v u) (hn:x≠ "__name__" :=by decide) (hd:(x==("__debug__" :Str))=false:=by decide):PE X (.Name x pos) (tC v):=
 fun _ _ _ H _ I h=>Zcp I hg hm hv ⟨v,H,I,r,h⟩ hn hd
variable {a b:Expr} {ta tb:TE} {pos:Pos}
variable {tA tB':TT} {rest:List Expr}
noncomputable def tAnd (t u:TT):TT:=fun σ H Q=>t σ H fun c H1=>if c=true then u σ H1 Q else Q false H1
noncomputable def tOr (t u:TT):TT:=fun σ H Q=>t σ H fun c H1=>if c=true then Q true H1 else u σ H1 Q
noncomputable def tNot (t:TT):TT:=fun σ H Q=>t σ H fun c H1=>Q (!c) H1
theorem ZkA (ha:PT X a tA):PW X (.BoolOp .And [a] pos) tA:=by
 intro wh pins s σ H Q I h
 refine isTrue_and (thn (ha pins s σ H Q I h) fun c s1 e=>?_)
 cases c with
 |true=>exact isTrue_and_nil e
 |false=>exact e
theorem Zmw (ha:PT X a tA):PW X (.BoolOp .Or [a] pos) tA:=by
 intro wh pins s σ H Q I h
 refine isTrue_or (thn (ha pins s σ H Q I h) fun c s1 e=>?_)
 cases c with
 |false=>exact isTrue_or_nil e
 |true=>exact e
theorem Zmx (ha:PT X a tA) (hb:PW X (.BoolOp .And (b::rest) pos) tB'):PW X (.BoolOp .And (a::b::rest) pos) (tAnd tA tB'):=by
 intro wh pins s σ H Q I h
 refine isTrue_and (thn (ha pins s σ H _ I h) ?_)
 rintro c s1 ⟨H1,I1,q1⟩
 cases c with
 |true=>exact hb wh pins s1 σ H1 Q I1 q1
 |false=>exact⟨H1,I1,q1⟩
theorem pw_or (ha:PT X a tA) (hb:PW X (.BoolOp .Or (b::rest) pos) tB'):PW X (.BoolOp .Or (a::b::rest) pos) (tOr tA tB'):=by
 intro wh pins s σ H Q I h
 refine isTrue_or (thn (ha pins s σ H _ I h) ?_)
 rintro c s1 ⟨H1,I1,q1⟩
 cases c with
 |true=>exact⟨H1,I1,q1⟩
 |false=>exact hb wh pins s1 σ H1 Q I1 q1
theorem Zmy (ha:PT X a tA):PT X (.UnaryOp .Not a pos) (tNot tA):=by
 intro pins s σ H Q I h
 exact isTrue_not (ha pins s σ H (fun c H1=>Q (!c) H1) I h)
noncomputable def tAndV (ta tb:TE):TE:=fun σ H Q=>ta σ H fun x H1=>∃c,x=.bl c∧if c=true then tb σ H1 Q else Q (.bl false) H1
noncomputable def tOrV (ta tb:TE):TE:=fun σ H Q=>ta σ H fun x H1=>∃c,x=.bl c∧if c=true then Q (.bl true) H1 else tb σ H1 Q
noncomputable def tNotV (ta:TE):TE:=fun σ H Q=>ta σ H fun x H1=>∃c,x=.bl c∧Q (.bl (!c)) H1
theorem ZjS {op} {t:TE} (h:PE X a t):PE X (.BoolOp op [a] pos) t:=fun pins s σ H Q I hw=>BoolOp_one (h pins s σ H Q I hw)
theorem ZmN (ha:PE X a ta) (hb:PE X (.BoolOp .And (b::rest) pos) tb):PE X (.BoolOp .And (a::b::rest) pos) (tAndV ta tb):=by
 intro pins s σ H Q I h
 refine BoolOp_and (thn (ha pins s σ H _ I h) ?_)
 rintro v s1 ⟨x,H1,I1,r1,q1⟩
 obtain⟨c,rfl,q1⟩:=q1
 cases r1
 refine wpAny_truthy_bool ?_
 cases c with
 |true=>exact hb pins s1 σ H1 Q I1 q1
 |false=>exact⟨.bl false,H1,I1,rfl,q1⟩
theorem pe_or (ha:PE X a ta) (hb:PE X (.BoolOp .Or (b::rest) pos) tb):PE X (.BoolOp .Or (a::b::rest) pos) (tOrV ta tb):=by
 intro pins s σ H Q I h
 refine BoolOp_or (thn (ha pins s σ H _ I h) ?_)
 rintro v s1 ⟨x,H1,I1,r1,q1⟩
 obtain⟨c,rfl,q1⟩:=q1
 cases r1
 refine wpAny_truthy_bool ?_
 cases c with
 |false=>exact hb pins s1 σ H1 Q I1 q1
 |true=>exact⟨.bl true,H1,I1,rfl,q1⟩
theorem ZmJ (ha:PE X a ta):PE X (.UnaryOp .Not a pos) (tNotV ta):=by
 intro pins s σ H Q I h
 refine UnaryOp_ (thn (ha pins s σ H _ I h) ?_)
 rintro v s1 ⟨x,H1,I1,r1,q1⟩
 obtain⟨c,rfl,q1⟩:=q1
 cases r1
 exact not_of (wpAny_truthy_bool ⟨.bl (!c),H1,I1,rfl,q1⟩)
noncomputable def tIf (t:TT) (ta tb:TE):TE:=fun σ H Q=>t σ H fun c H1=>if c=true then ta σ H1 Q else tb σ H1 Q
theorem Zi1 {c:Expr} (hc:PT X c tA) (ha:PE X a ta) (hb:PE X b tb):PE X (.IfExp c a b pos) (tIf tA ta tb):=by
 intro pins s σ H Q I h
 refine wpAny_IfExp (thn (hc pins s σ H _ I h) ?_)
 rintro d s1 ⟨H1,I1,q1⟩
 cases d with
 |true=>exact ha pins s1 σ H1 Q I1 q1
 |false=>exact hb pins s1 σ H1 Q I1 q1
end
end L2
namespace L2
open PySem PySem.Spec PyProof.Rows
noncomputable def SqL (K:Yab) (H:Hp) (a:Addr) (xs:List V):Prop:=
 Rd H a (.lst xs)∨
  ∃(o:Obj) (its:Array Value) (n:Nat),K.lookup a=some o∧o.cls=.type "list"∧o.dict=none∧o.data=.seq its n∧its.size≤sizeLine∧Vals xs its.toList
noncomputable def SqT (K:Yab) (H:Hp) (a:Addr) (xs:List V):Prop:=
 Rd H a (.tup xs)∨
  ∃(o:Obj) (its:Array Value) (n:Nat),K.lookup a=some o∧o.cls=.type "tuple"∧o.data=.seq its n∧its.size≤sizeLine∧Vals xs its.toList
noncomputable def absV:Value→Option V
 | .none=>some .non
 | .bool b=>some (.bl b)
 | .int i _=>some (.int i)
 | .str x _=>some (.str x)
 | .bytes b _=>some (.byt b)
 | .float b _=>some (.flt b)
 | .ref a=>some (.ref a)
 | .type n=>some (.ty n)
 |_=>none
theorem RelV.abs {x:V} {u:Value} (r:RelV x u):absV u=some x:=by
 cases x with
 |non=>cases r;rfl
 |bl _=>cases r;rfl
 |int _=>obtain⟨t,rfl⟩:=r;rfl
 |str _=>obtain⟨t,rfl⟩:=r;rfl
 |byt _=>obtain⟨t,rfl⟩:=r;rfl
 |flt _=>obtain⟨t,rfl⟩:=r;rfl
 |ref _=>cases r;rfl
 |ty _=>cases r;rfl
theorem RelV.inj {x y:V} {u:Value} (r:RelV x u) (q:RelV y u):x=y:=Option.some.inj (r.abs.symm.trans q.abs)
theorem Vals.inj:∀{xs ys:List V} {us:List Value},Vals xs us→Vals ys us→xs=ys
 |_,_,_,.nil,.nil=>rfl
 |_,_,_,.cons r t,.cons r' t'=>by rw [r.inj r',Vals.inj t t']
section
variable {X:Cx} {pins:List (Addr×Obj)} {σ:St} {H:Hp} {s:Shared} {a:Addr} {xs ys:List V}
theorem SqL.of {K:Yab} (h:H a=some (.lst xs)):SqL K H a xs:=.inl (.inl h)
theorem SqT.of {K:Yab} (h:H a=some (.tup xs)):SqT K H a xs:=.inl (.inl h)
theorem Inv.list (I:Inv X pins σ H s) (h:SqL X.K H a xs):∃its:List Value,Vals xs its∧PlainL s.heap a its.toArray∧xs.length≤sizeLine:=by
 rcases h with h|⟨o,its,n,hk,hc,hd,hs,hz,r⟩
 ·obtain⟨z,its,n,r,e⟩:=h.ok I.hok
  exact⟨its,r,⟨_,n,e,rfl,rfl,rfl⟩,z⟩
 ·refine⟨its.toList,r,⟨o,n,I.kIn a o hk,hc,hd,by simpa using hs⟩,?_⟩
  have e:=r.length
  simp only [Ybc] at e
  omega
theorem Inv.tuple (I:Inv X pins σ H s) (h:SqT X.K H a xs):∃its:List Value,Vals xs its∧IsTup s.heap a its.toArray∧xs.length≤sizeLine:=by
 rcases h with h|⟨o,its,n,hk,hc,hs,hz,r⟩
 ·obtain⟨z,its,r,p⟩:=h.ok I.hok
  exact⟨its,r,p,z⟩
 ·refine⟨its.toList,r,⟨o,I.kIn a o hk,hc,n,by simpa using hs⟩,?_⟩
  have e:=r.length
  simp only [Ybc] at e
  omega
theorem Inv.list_inj (I:Inv X pins σ H s) (h:SqL X.K H a xs) (h':SqL X.K H a ys):xs=ys:=by
 obtain⟨its,r,⟨o,n,e,_,_,d⟩,_⟩:=I.list h
 obtain⟨its',r',⟨o',n',e',_,_,d'⟩,_⟩:=I.list h'
 rw [e] at e';cases e'
 rw [d] at d'
 injection d' with d1 _
 have:its=its':=by simpa using congrArg Array.toList d1
 subst this
 exact r.inj r'
theorem Inv.tuple_inj (I:Inv X pins σ H s) (h:SqT X.K H a xs) (h':SqT X.K H a ys):xs=ys:=by
 obtain⟨its,r,⟨o,e,_,n,d⟩,_⟩:=I.tuple h
 obtain⟨its',r',⟨o',e',_,n',d'⟩,_⟩:=I.tuple h'
 rw [e] at e';cases e'
 rw [d] at d'
 injection d' with d1 _
 have:its=its':=by simpa using congrArg Array.toList d1
 subst this
 exact r.inj r'
end
noncomputable abbrev Cx.wish (X:Cx) (E:Value→Shared→Prop):Cx:={X with xe:=E}
section
variable {X:Cx} {pins:List (Addr×Obj)} {σ:St} {H:Hp} {s:Shared} {E:Value→Shared→Prop}
end
section
variable {X:Cx} {st:Stmt} {rest:List Stmt} {t u:TS} {e:Expr} {te:TE} {pos:Pos}
noncomputable def tNext:TS:=fun D σ H=>D.nx σ H
noncomputable def tSeq (t u:TS):TS:=fun D σ H=>t {D with nx:=u D} σ H
theorem ZkE:PSs X [] tNext:=fun _ _ σ H _ I h=>wpAny_execs_nil ⟨σ,H,I,h⟩
theorem ZiU (h1:PS X st t) (h2:PSs X rest u):PSs X (st::rest) (tSeq t u):=by
 intro pins s σ H D I h
 refine wpAny_execs_cons (thn (h1 pins s σ H {D with nx:=u D} I h) fun f s1 q=>?_)
 cases f with
 |next=>
  obtain⟨σ',H',I',q⟩:=q
  exact h2 pins s1 σ' H' D I' q
 |ret v=>exact q
 |brk=>exact q
 |cont=>exact q
theorem ZkG:PS X (.Pass pos) tNext:=fun _ _ σ H _ I h=>wpAny_Pass ⟨σ,H,I,h⟩
theorem Inv.quiet {pins:List (Addr×Obj)} {σ:St} {H:Hp} {s:Shared} (I:Inv X pins σ H s):interactive X.env=false:=by simp [interactive,I.ok.kind]
noncomputable def tDrop (te:TE):TS:=fun D σ H=>te σ H fun _ H1=>D.nx σ H1
theorem ZkH (he:PE X e te) (hs:swapsWith e none pos.line X.env=pure false:=by rfl):PS X (.Expr e pos) (tDrop te):=by
 intro pins s σ H D I h
 exact wpAny_Expr_any (thn (he pins s σ H _ I h) fun v s1 ⟨x,H1,I1,r1,q1⟩=>⟨σ,H1,I1,q1⟩) I.quiet hs
noncomputable def tRet (te:TE):TS:=fun D σ H=>te σ H D.rt
theorem ZmA (he:PE X e te):PS X (.Return (some e) pos) (tRet te):=by
 intro pins s σ H D I h
 exact wpAny_Return_some (thn (he pins s σ H _ I h) fun v s1 ⟨x,H1,I1,r1,q1⟩=>⟨x,σ,H1,I1,r1,q1⟩)
noncomputable def tIfS (c:TT) (t u:TS):TS:=fun D σ H=>c σ H fun b H1=>if b=true then t D σ H1 else u D σ H1
theorem ps_if {c:Expr} {a b:List Stmt} {tc:TT} (hc:PT X c tc) (ha:PSs X a t) (hb:PSs X b u):PS X (.If c a b pos) (tIfS tc t u):=by
 intro pins s σ H D I h
 refine wpAny_If (thn (hc pins s σ H _ I h) ?_)
 rintro d s1 ⟨H1,I1,q1⟩
 cases d with
 |true=>exact ha pins s1 σ H1 D I1 q1
 |false=>exact hb pins s1 σ H1 D I1 q1
end
noncomputable abbrev TG:=V→St→Hp→(St→Hp→Prop)→Prop
noncomputable abbrev TGs:=List V→St→Hp→(St→Hp→Prop)→Prop
noncomputable def PG (X:Cx) (target:Expr) (t:TG):Prop:=
 ∀(pins:List (Addr×Obj)) (s:Shared) (σ:St) (H:Hp) (v:V) (u:Value) (Q:St→Hp→Prop),Inv X pins σ H s→RelV v u→t v σ H Q→
  wpAny (model X.prog X.w) X.A (assign target X.env u) (fun _ s'=>∃σ' H',Inv X pins σ' H' s'∧Q σ' H') X.xe s
noncomputable def PGs (X:Cx) (ts:List Expr) (t:TGs):Prop:=
 ∀(pins:List (Addr×Obj)) (s:Shared) (σ:St) (H:Hp) (vs:List V) (us:List Value) (Q:St→Hp→Prop),Inv X pins σ H s→Vals vs us→t vs σ H Q→
  wpAny (model X.prog X.w) X.A (assignInOrder ((assignEach ts X.env).map (·.2)) us) (fun _ s'=>∃σ' H',Inv X pins σ' H' s'∧Q σ' H') X.xe s
noncomputable abbrev TSet:=V→V→V→Hp→(Hp→Prop)→Prop
noncomputable def PSet (X:Cx) (t:TSet):Prop:=
 ∀(pins:List (Addr×Obj)) (s:Shared) (σ:St) (H:Hp) (o i v:V) (ov iv u:Value) (Q:Hp→Prop),Inv X pins σ H s→RelV o ov→RelV i iv→RelV v u→t o i v H Q→
  wpAny (model X.prog X.w) X.A (setItem ov iv u) (fun _ s'=>∃H',Inv X pins σ H' s'∧Q H') X.xe s
section
variable {X:Cx} {pos:Pos}
noncomputable def gName (i:Nat):TG:=fun v σ H Q=>Q (σ.set i (some v)) H
theorem ZkP {i:Nat} {x:Str} (hN:X.N.Nodup) (hi:X.N[i]?=some x) (hx:Loc X.env.scope x) (hf:X.fn x=true∨X.env.scope.names.lookup x=some .local:=by first|exact .inl rfl|exact .inr rfl|assumption):PG X (.Name x pos) (gName i):=by
 intro pins s σ H v u Q I r h
 exact wpAny_assign_Name (Zdh I hN hi hx r (fun s' I'=>⟨_,H,I',h⟩) hf)
noncomputable def gNil:TGs:=fun vs σ H Q=>vs=[]∧Q σ H
noncomputable def gCons (t:TG) (u:TGs):TGs:=fun vs σ H Q=>∃v r,vs=v::r∧t v σ H fun σ' H'=>u r σ' H' Q
theorem ZkO:PGs X [] gNil:=by
 intro pins s σ H vs us Q I r h
 obtain⟨e,h⟩:=h
 subst e
 cases r
 exact assignInOrder_nil ⟨σ,H,I,h⟩
theorem ZiZ {e:Expr} {es:List Expr} {t:TG} {u:TGs} (h1:PG X e t) (h2:PGs X es u)
  (hs:(assignEach (e::es) X.env).map (·.2)=assign e X.env::(assignEach es X.env).map (·.2):=by rfl):PGs X (e::es) (gCons t u):=by
 intro pins s σ H vs us Q I r h
 obtain⟨v,vr,e1,h⟩:=h
 subst e1
 cases r with
 |cons r rr=>
  rw [hs]
  refine assignInOrder_cons (thn (h1 pins s σ H _ _ _ I r h) ?_)
  rintro _ s1 ⟨σ1,H1,I1,q1⟩
  exact h2 pins s1 σ1 H1 _ _ Q I1 rr q1
noncomputable def gTup (K:Yab) (n:Nat) (t:TGs):TG:=fun v σ H Q=>∃a xs,v=.ref a∧SqT K H a xs∧xs.length=n∧t xs σ H Q
theorem ZmG {es:List Expr} {k:Nat} {t:TGs} {n:Nat} (hc:X.calm=true) (h:PGs X es t)
  (hn:(assignEach es X.env).length=n:=by rfl) (hst:(assignEach es X.env).findIdx? (·.1)=none:=by rfl):PG X (.Tuple es k pos) (gTup X.K n t):=by
 intro pins s σ H v u Q I r hw
 obtain⟨a,xs,e1,hq,hl,hw⟩:=hw
 subst e1
 cases r
 obtain⟨its,rv,ht,hz⟩:=I.tuple hq
 refine assign_Tuple_tuple (I.ok.hd hc) ht (by simp [hn,←hl,rv.length]) hst fun h' hx=>?_
 have I1:Inv X pins σ H {s with heap:=h'}:=I.kept (t':=s.toks) fun b o e=>hx b o (YaL (Yat e)) e
 exact h pins _ σ H xs _ Q I1 (by simpa using rv) hw
noncomputable def gSub (to ti:TE) (t:TSet):TG:=fun v σ H Q=>to σ H fun o H1=>ti σ H1 fun i H2=>t o i v H2 fun H3=>Q σ H3
theorem ZjQ {o i:Expr} {to ti:TE} {t:TSet} (ho:PE X o to) (hi:PE X i ti) (hs:PSet X t)
  (ha:∀v,assign (.Subscript o i pos) X.env v=(do
   let ov←holding [v] (eval o X.env)
   let iv←holding [v,ov] (eval i X.env)
   standAt pos
   holding [v,ov,iv] (setItem ov iv v)
   release [v,ov,iv] []):=by intro _;rfl):PG X (.Subscript o i pos) (gSub to ti t):=by
 intro pins s σ H v u Q I r h
 rw [ha]
 refine wpAny_bind (wpAny_holding (thn (ho pins s σ H _ I h) ?_))
 rintro ov s1 ⟨x,H1,I1,r1,q1⟩
 refine wpAny_bind (wpAny_holding (thn (hi pins s1 σ H1 _ I1 q1) ?_))
 rintro iv s2 ⟨y,H2,I2,r2,q2⟩
 refine wpAny_bind (wpAny_standAt (wpAny_bind (wpAny_holding (thn (hs pins s2 σ H2 x y v ov iv u _ I2 r1 r2 r q2) ?_))))
 rintro _ s3 ⟨H3,I3,q3⟩
 exact wpAny_release ⟨σ,H3,I3,q3⟩
noncomputable def tAsg (te:TE) (g:TG):TS:=fun D σ H=>te σ H fun x H1=>g x σ H1 D.nx
theorem ZmD {tg e:Expr} {te:TE} {g:TG} (he:PE X e te) (hg:PG X tg g) (hs:swapsWithSole [tg] e pos.line X.env=pure false:=by rfl) (hw:swappedStores [tg] e X.env=pure none:=by rfl)
  (h1:(assignEach [tg] X.env).map (·.2)=[assign tg X.env]:=by rfl):PS X (.Assign [tg] e pos) (tAsg te g):=by
 intro pins s σ H D I h
 refine wpAny_Assign_stores (thn (he pins s σ H _ I h) fun v s1 ⟨x,H1,I1,r1,q1⟩=>?_) hs hw
 rw [h1]
 exact thn (hg pins s1 σ H1 x v _ I1 r1 q1) fun _ s2 q=>q
noncomputable def tPar (i j:Nat) (ta:TA):TS:=fun D σ H=>ta σ H fun vs H1=>∃v w,vs=[v,w]∧D.nx ((σ.set i (some v)).set j (some w)) H1
theorem ZmB {i j:Nat} {x y:Str} {a b:Expr} {ta:TA} {px py pt:Pos} {kt k2 pt2} (hc:X.calm=true) (hN:X.N.Nodup) (hi:X.N[i]?=some x) (hj:X.N[j]?=some y) (hij:i≠j)
  (hx:X.env.scope.names.lookup x=some .local) (hy:X.env.scope.names.lookup y=some .local) (ha:PA X [a,b] ta)
  (hw:swappedStores [.Tuple [.Name x px,.Name y py] kt pt] (.Tuple [a,b] k2 pt2) X.env=pure (some [x,y]))
  (hs:swapsWithSole [.Tuple [.Name x px,.Name y py] kt pt] (.Tuple [a,b] k2 pt2) pos.line X.env=pure false:=by rfl):
  PS X (.Assign [.Tuple [.Name x px,.Name y py] kt pt] (.Tuple [a,b] k2 pt2) pos) (tPar i j ta):=by
 intro pins s σ H D I h
 rw [exec_Assign_arm]
 refine wpAny_bind (wpAny_standAt ?_)
 rw [hs]
 refine wpAny_bind (wpAny_pure ?_)
 rw [if_neg (by decide)]
 refine wpAny_bind (Tuple_ (thn (ha _ pins s σ H _ I h) ?_))
 rintro us s1 ⟨vs,H1,I1,r1,q1⟩
 obtain⟨v,w,e1,q1⟩:=q1
 subst e1
 obtain⟨u1,u2,rfl,rv,rw'⟩:∃u1 u2,us=[u1,u2]∧RelV v u1∧RelV w u2:=by
  cases r1 with
  |cons p q=>
   cases q with
   |cons p' q'=>
    cases q'
    exact⟨_,_,rfl,p,p'⟩
 refine wpAny_newObj_type ?_ (by show 2≤sizeLine;decide)
 have I2:Inv X pins σ H1 {s1 with heap:=s1.heap.push {cls:=.type "tuple",data:=.seq [u1,u2].toArray}}:=I1.kept (t':=s1.toks) fun b o e=>Yae _ e
 rw [hw]
 refine wpAny_bind (wpAny_pure ?_)
 show wpAny (model X.prog X.w) X.A (do rule "assign.swapped-stores";let items←unpackItems (.ref s1.heap.objs.size) 2 none;assignInOrder [fun v=>bindName X.env y v,fun v=>bindName X.env x v] items.reverse;pure Flow.next) _ _ _
 refine wpAny_bind (wpAny_rule (wpAny_bind (unpackItems_tuple (items:= #[u1,u2]) (I.ok.hd hc) (IsTup.new s1.heap _) fun h' hx'=>?_)))
 have I3:=I2.kept (h':=h') (t':=s1.toks) fun b o e=>hx' b o (YaL (Yat e)) e
 show wpAny _ _ (assignInOrder [fun v=>bindName X.env y v,fun v=>bindName X.env x v] [u2,u1]>>=fun _=>pure Flow.next) _ _ _
 refine wpAny_bind (assignInOrder_cons (wpAny_bindName (Zdh I3 hN hj (.inl hy) rw' (fun s2 I4=>?_) (.inr hy))))
 refine assignInOrder_cons (wpAny_bindName (Zdh I4 hN hi (.inl hx) rv (fun s3 I5=>assignInOrder_nil (wpAny_pure ?_)) (.inr hx)))
 rw [List.set_comm _ _ (Ne.symm hij)] at I5
 exact⟨_,H1,I5,q1⟩
end
section
variable {X:Cx} {pos:Pos}
noncomputable def Zme (c:TT) (tb:TS):TS:=fun D σ H=>∃W:Nat→St→Hp→Prop,(∃m,W m σ H)∧∀m σ H,W m σ H→
 c σ H fun b H1=>if b=true then ∃N:St→Hp→Prop,(∀σ' H',N σ' H'→∃m',m'<m∧W m' σ' H')∧tb {D with nx:=N,ct:=N,bk:=D.nx} σ H1 else D.nx σ H1
theorem ZiV {c:Expr} {body:List Stmt} {tc:TT} {tb:TS} (hp:PassesOwn (model X.prog X.w) X.A X.env X.xe) (hc:PT X c tc) (hb:PSs X body tb):PS X (.While c body [] pos) (Zme tc tb):=by
 intro pins s σ H D I h
 obtain⟨W,⟨m0,w0⟩,turn⟩:=h
 refine wpAny_While (codeAny_whileLoop (fun n s'=>∃σ' H',Inv X pins σ' H' s'∧W n σ' H') ?_ m0 ⟨σ,H,I,w0⟩)
 rintro n s1 ⟨σ1,H1,I1,w1⟩
 refine wpAny_passesOwn hp (thn (hc pins s1 σ1 H1 _ I1 (turn n σ1 H1 w1)) ?_)
 rintro b s2 ⟨H2,I2,q2⟩
 cases b with
 |true=>
  obtain⟨N,hN,q2⟩:=q2
  rw [if_pos rfl]
  refine wpAny_passesOwn hp (thn (hb pins s2 σ1 H2 _ I2 q2) fun f s3 q3=>?_)
  cases f with
  |next=>
   obtain⟨σ3,H3,I3,n3⟩:=q3
   obtain⟨m',hm,w3⟩:=hN σ3 H3 n3
   exact⟨m',hm,σ3,H3,I3,w3⟩
  |cont=>
   obtain⟨σ3,H3,I3,n3⟩:=q3
   obtain⟨m',hm,w3⟩:=hN σ3 H3 n3
   exact⟨m',hm,σ3,H3,I3,w3⟩
  |brk=>exact q3
  |ret v=>exact q3
 |false=>
  rw [if_neg Yal]
  exact wpAny_execs_nil ⟨σ1,H2,I2,q2⟩
end
structure It where
 go:Nat→Hp→Prop
 yld:Nat→Hp→V→Hp→Prop
 stop:Nat→Hp→Prop
noncomputable def FpOk (X:Cx) (pins:List (Addr×Obj)) (H:Hp) (b:Addr):Prop:=
 H b=none∧b≠X.env.locals∧b∉X.fs∧(b∈X.ex∨X.s₀.heap.objs.size≤b)∧(∀x c,X.env.cells.lookup x=some c→c≠b)∧∀p∈X.pn++pins,p.1≠b
theorem Inv.fpOk {X:Cx} {pins:List (Addr×Obj)} {σ:St} {H H':Hp} {s:Shared} {b:Addr} (I:Inv X pins σ H s) (hb:s.heap.objs.size≤b) (hn:H' b=none):FpOk X pins H' b:=by
 refine⟨hn,Nat.ne_of_gt (Yax I.lt hb),I.nofs hb,.inr (YaC I.sz hb),fun x c e z=>?_,fun p hp z=>?_⟩
 ·obtain⟨v,q⟩:=I.cell x c e
  exact absurd (Yax q.lt (by rw [z];exact hb)) (YaO _)
 ·exact absurd (Yax (Yat (I.pin p hp).1) (by rw [z];exact hb)) (YaO _)
structure Turn (P:Program) (w:World) (K:Yab) (tg:Expr) (J:It) (fp:List Addr) (it:Addr) (tn:Nat→Heap→Prop):Prop where
 mem:it∈fp
 obj:∀i h,tn i h→∀b∈fp,∃o,h.get? b=some o∧∀v,o.data≠.cell v
 keep:∀i h h',tn i h→(∀b∈fp,∀o,h.get? b=some o→h'.get? b=some o)→tn i h'
 item:∀(X:Cx),X.prog=P→X.w=w→X.K=K→X.calm=true→∀(i:Nat) (pins:List (Addr×Obj)) (s:Shared) (σ:St) (H:Hp) (E:Value→Shared→Prop),Inv X pins σ H s→(∀b∈fp,FpOk X pins H b)→tn i s.heap→J.go i H→
  wpAny (model P w) X.A (pyNext (.ref it)) (fun r s1=>∃u,r=some u∧
   wpAny (model P w) X.A (letOwnedTupleGo tg (.ref it) u) (fun _ s2=>∃x H',Inv X pins σ H' s2∧RelV x u∧J.yld i H x H'∧tn (i+1) s2.heap∧∀b∈fp,H' b=none) E s1) E s
 done:∀(X:Cx),X.prog=P→X.w=w→X.K=K→X.calm=true→∀(i:Nat) (pins:List (Addr×Obj)) (s:Shared) (σ:St) (H:Hp) (E:Value→Shared→Prop),Inv X pins σ H s→(∀b∈fp,FpOk X pins H b)→tn i s.heap→J.stop i H→
  wpAny (model P w) X.A (pyNext (.ref it)) (fun r s1=>r=none∧Inv X pins σ H s1) E s
 self:∀(A:Around) (i:Nat) (s:Shared) (Q:Value→Shared→Prop) (E:Value→Shared→Prop),tn i s.heap→Q (.ref it) s→wpAny (model P w) A (pyIter (.ref it)) Q E s
noncomputable abbrev TI:=St→Hp→(It→Hp→Prop)→Prop
noncomputable def PIE (X:Cx) (pins:List (Addr×Obj)) (σ:St) (tg:Expr) (R:It→Hp→Prop) (itv:Value) (s2:Shared):Prop:=
 ∃(it:Addr) (fp:List Addr) (tn:Nat→Heap→Prop) (J:It) (H':Hp),itv=.ref it∧Inv X pins σ H' s2∧Turn X.prog X.w X.K tg J fp it tn∧tn 0 s2.heap∧(∀b∈fp,FpOk X pins H' b)∧R J H'
noncomputable def PI (X:Cx) (tg iter:Expr) (wi:TI):Prop:=
 ∀(pins:List (Addr×Obj)) (s:Shared) (σ:St) (H:Hp) (R:It→Hp→Prop),Inv X pins σ H s→wi σ H R→
  wpAny (model X.prog X.w) X.A (eval iter X.env) (fun v s1=>wpAny (model X.prog X.w) X.A (pyIter v) (PIE X pins σ tg R) X.xe s1) X.xe s
theorem go_of {M:Model} {A:Around} {E:Value→Shared→Prop} {s:Shared} {tg:Expr} {it:Addr} {u:Value} {o:Obj} {n:String} {vs:Array Value} {Q:Unit→Shared→Prop} (ho:s.heap.get? it=some o) (hc:o.cls=.type n) (hd:o.data=.fields vs)
  (hn:["enumerate","zip","dict_itemiterator","dict_reverseitemiterator","odict_iterator","itertools.zip_longest","itertools.pairwise"].contains n=false) (hQ:Q () s):wpAny M A (letOwnedTupleGo tg (.ref it) u) Q E s:=by
 unfold letOwnedTupleGo
 cases tg<;>first
  |exact wpAny_pure hQ
  | (cases u <;> first
    |exact wpAny_pure hQ
    | (refine wpAny_bind (wpAny_load ho ?_)
       rw [hc,hd]
       show wpAny M A (if (["enumerate","zip","dict_itemiterator","dict_reverseitemiterator","odict_iterator","itertools.zip_longest","itertools.pairwise"].contains n&&vs[0]?==some (rawInt _))=true then _ else _) Q E s
       rw [if_neg (by intro h;rw [hn,Bool.false_and] at h;cases h)]
       exact wpAny_pure hQ))
noncomputable def Itl (K:Yab) (a:Addr):It:=
 ⟨fun i H=>∃xs x,SqL K H a xs∧xs[i]?=some x,fun i H x H'=>H'=H∧∀xs,SqL K H a xs→xs[i]?=some x,fun i H=>∃xs,SqL K H a xs∧xs.length≤i⟩
noncomputable def Itt (K:Yab) (a:Addr):It:=
 ⟨fun i H=>∃xs x,SqT K H a xs∧xs[i]?=some x,fun i H x H'=>H'=H∧∀xs,SqT K H a xs→xs[i]?=some x,fun i H=>∃xs,SqT K H a xs∧xs.length≤i⟩
noncomputable def Itr (lo:Int) (n:Nat):It:=⟨fun i _=>i<n,fun i H x H'=>H'=H∧x=.int (lo+i),fun i _=>n≤i⟩
theorem Zhf {P:Program} {w:World} {K:Yab} {tg:Expr} (a it:Addr):Turn P w K tg (Itl K a) [it] it (fun i h=>h.IsListIter it a i) where
 mem:=by simp
 obj:=fun i h st b hb=>by
  have e:b=it:=by simpa using hb
  subst e
  obtain⟨o,e,c,d⟩:=st
  exact⟨o,e,fun v z=>by rw [d] at z;cases z⟩
 keep:=fun i h h' st k=>st.at fun o e=>k it (by simp) o e
 item:=by
  intro X hP hw hK hc i pins s σ H E I hf st hg
  subst hP hw hK
  obtain⟨xs,x,hq,hx⟩:=hg
  obtain⟨its,rv,p,hz⟩:=I.list hq
  obtain⟨u,hu,ru⟩:=rv.get hx
  obtain⟨f0,f1,f2,f3,f4,f5⟩:=hf it (by simp)
  refine wpAny_pyNext_list_item st p.isList (x:=u) (by simpa using hu) fun h' st' sb=>?_
  have I1:Inv X pins σ H {s with heap:=h'}:=I.turned (t':=s.toks) (fun b o hb e=>(sb.2 b hb).trans e) f0 f1 f3 f4 f5
  obtain⟨o,e,c,d⟩:=id st'
  exact⟨u,rfl,go_of (s:={s with heap:=h'}) e c d (by decide) ⟨x,H,I1,ru,⟨rfl,fun ys hy=>by rw [I.list_inj hy hq];exact hx⟩,st',fun b hb=>(hf b hb).1⟩⟩
 done:=by
  intro X hP hw hK hc i pins s σ H E I hf st hg
  subst hP hw hK
  obtain⟨xs,hq,hx⟩:=hg
  obtain⟨its,rv,p,hz⟩:=I.list hq
  obtain⟨f0,f1,f2,f3,f4,f5⟩:=hf it (by simp)
  have hl:=rv.length
  exact wpAny_pyNext_list_end (I.ok.hd hc) st p.isList (by simp;omega) fun h' eb=>⟨rfl,I.turned (t':=s.toks) (fun b o hb e=>eb b o hb e) f0 f1 f3 f4 f5⟩
 self:=fun _ _ _ _ _ st h=>wpAny_pyIter_listiter st h
theorem ZgS {P:Program} {w:World} {K:Yab} {tg:Expr} (a it:Addr):Turn P w K tg (Itt K a) [it] it (fun i h=>h.IsTupleIter it a i) where
 mem:=by simp
 obj:=fun i h st b hb=>by
  have e:b=it:=by simpa using hb
  subst e
  obtain⟨o,e,c,d⟩:=st
  exact⟨o,e,fun v z=>by rw [d] at z;cases z⟩
 keep:=fun i h h' st k=>st.at fun o e=>k it (by simp) o e
 item:=by
  intro X hP hw hK hc i pins s σ H E I hf st hg
  subst hP hw hK
  obtain⟨xs,x,hq,hx⟩:=hg
  obtain⟨its,rv,p,hz⟩:=I.tuple hq
  obtain⟨u,hu,ru⟩:=rv.get hx
  obtain⟨f0,f1,f2,f3,f4,f5⟩:=hf it (by simp)
  refine wpAny_pyNext_tuple_item st (show s.heap.IsTuple a its.toArray from p) (x:=u) (by simpa using hu) fun h' st' sb=>?_
  have I1:Inv X pins σ H {s with heap:=h'}:=I.turned (t':=s.toks) (fun b o hb e=>(sb.2 b hb).trans e) f0 f1 f3 f4 f5
  obtain⟨o,e,c,d⟩:=id st'
  exact⟨u,rfl,go_of (s:={s with heap:=h'}) e c d (by decide) ⟨x,H,I1,ru,⟨rfl,fun ys hy=>by rw [I.tuple_inj hy hq];exact hx⟩,st',fun b hb=>(hf b hb).1⟩⟩
 done:=by
  intro X hP hw hK hc i pins s σ H E I hf st hg
  subst hP hw hK
  obtain⟨xs,hq,hx⟩:=hg
  obtain⟨its,rv,p,hz⟩:=I.tuple hq
  obtain⟨f0,f1,f2,f3,f4,f5⟩:=hf it (by simp)
  have hl:=rv.length
  exact wpAny_pyNext_tuple_end (I.ok.hd hc) st (show s.heap.IsTuple a its.toArray from p) (by simp;omega) fun h' eb=>⟨rfl,I.turned (t':=s.toks) (fun b o hb e=>eb b o hb e) f0 f1 f3 f4 f5⟩
 self:=fun _ _ _ _ _ st h=>wpAny_pyIter_tupleiter st h
theorem ZgT {P:Program} {w:World} {K:Yab} {tg:Expr} (it:Addr) (lo:Int) (n:Nat):Turn P w K tg (Itr lo n) [it] it (fun i h=>IsRangeIter h it (lo+(i:Nat)*1) ((n:Int) - (i:Nat)) 1) where
 mem:=by simp
 obj:=fun i h st b hb=>by
  have e:b=it:=by simpa using hb
  subst e
  exact⟨_,st,fun v z=>by
   have z':Data.fields _=Data.cell v:=z
   cases z'⟩
 keep:=fun i h h' st k=>k it (by simp) _ st
 item:=by
  intro X hP hw hK hc i pins s σ H E I hf st hg
  subst hP hw hK
  obtain⟨f0,f1,f2,f3,f4,f5⟩:=hf it (by simp)
  have W:=Walks.range (prog:=X.prog) (w:=X.w) (I.ok.hd hc) it lo 1 n
  refine W.item i s _ _ hg st fun v h' tk hv st' kk=>?_
  obtain⟨t,rfl⟩:=hv
  have I1:Inv X pins σ H {s with heap:=h',toks:=tk}:=I.turned (fun b o hb e=>kk b o (by simpa using hb) e) f0 f1 f3 f4 f5
  refine⟨_,rfl,go_of (s:={s with heap:=h',toks:=tk}) (n:="range_iterator") st' rfl rfl (by decide) ⟨.int (lo+i),H,I1,⟨t,?_⟩,⟨rfl,rfl⟩,st',fun b hb=>(hf b hb).1⟩⟩
  rw [Int.mul_one]
 done:=by
  intro X hP hw hK hc i pins s σ H E I hf st hg
  subst hP hw hK
  obtain⟨f0,f1,f2,f3,f4,f5⟩:=hf it (by simp)
  exact wpAny_pyNext_range_end (I.ok.hd hc) st (by have:n≤i:=hg;omega) fun h' eb=>⟨rfl,I.turned (t':=s.toks) (fun b o hb e=>eb b o hb e) f0 f1 f3 f4 f5⟩
 self:=fun _ _ _ _ _ st h=>wpAny_pyIter_rangeiter st h
end L2
namespace L2
open PySem PySem.Spec PyProof.Rows
section
variable {X:Cx} {tg:Expr}
noncomputable def iList (K:Yab) (tl:TE):TI:=fun σ H R=>tl σ H fun x H1=>∃a,x=.ref a∧(∃xs,SqL K H1 a xs)∧R (Itl K a) H1
noncomputable def iTup (K:Yab) (tl:TE):TI:=fun σ H R=>tl σ H fun x H1=>∃a,x=.ref a∧(∃xs,SqT K H1 a xs)∧R (Itt K a) H1
theorem ZkL {l:Expr} {tl:TE} (hl:PE X l tl):PI X tg l (iList X.K tl):=by
 intro pins s σ H R I h
 refine thn (hl pins s σ H _ I h) ?_
 rintro v s1 ⟨x,H1,I1,r1,q1⟩
 obtain⟨a,e,⟨xs,hq⟩,q⟩:=q1
 subst e
 cases r1
 obtain⟨its,rv,p,hz⟩:=I1.list hq
 refine wpAny_pyIter_list p.isList ?_
 refine⟨s1.heap.objs.size,[s1.heap.objs.size],_,_,H1,rfl,I1.kept (t':=s1.toks) fun b o e=>Yae _ e,Zhf a _,⟨_,Yaz _ rfl,rfl,rfl⟩,fun b hb=>?_,q⟩
 have e:b=s1.heap.objs.size:=by simpa using hb
 subst e
 exact I1.fpOk (Yad _) (I1.hok.fresh (Yad _))
theorem ZmF {l:Expr} {tl:TE} (hl:PE X l tl):PI X tg l (iTup X.K tl):=by
 intro pins s σ H R I h
 refine thn (hl pins s σ H _ I h) ?_
 rintro v s1 ⟨x,H1,I1,r1,q1⟩
 obtain⟨a,e,⟨xs,hq⟩,q⟩:=q1
 subst e
 cases r1
 obtain⟨its,rv,p,hz⟩:=I1.tuple hq
 refine wpAny_pyIter_tuple (show s1.heap.IsTuple a its.toArray from p) ?_
 refine⟨s1.heap.objs.size,[s1.heap.objs.size],_,_,H1,rfl,I1.kept (t':=s1.toks) fun b o e=>Yae _ e,ZgS a _,⟨_,Yaz _ rfl,rfl,rfl⟩,fun b hb=>?_,q⟩
 have e:b=s1.heap.objs.size:=by simpa using hb
 subst e
 exact I1.fpOk (Yad _) (I1.hok.fresh (Yad _))
theorem Zgn {pins:List (Addr×Obj)} {σ:St} {H:Hp} {s:Shared} {R:It→Hp→Prop} {E:Value→Shared→Prop} {lo hi:Int} {t u v:Tok} {tk:Nat} (I:Inv X pins σ H s) (h1: -(2^62)≤lo) (h2:lo<2^62) (h3: -(2^62)≤hi) (h4:hi<2^62)
  (q:R (Itr lo (hi-lo).toNat) H):wpAny (model X.prog X.w) X.A (pyIter (.ref s.heap.objs.size)) (PIE X pins σ tg R) E {s with heap:=s.heap.push {cls:=.type "range",data:=.fields #[.int lo t,.int hi u,.int 1 v]},toks:=tk}:=by
 refine wpAny_pyIter_range (IsRange.new ..) (small_one h1 h2 h3 h4) ?_
 have I1:Inv X pins σ H {s with heap:=s.heap.push {cls:=.type "range",data:=.fields #[.int lo t,.int hi u,.int 1 v]},toks:=tk}:=I.kept fun b o e=>Yae _ e
 refine⟨(s.heap.push {cls:=.type "range",data:=.fields #[.int lo t,.int hi u,.int 1 v]}).objs.size,[(s.heap.push {cls:=.type "range",data:=.fields #[.int lo t,.int hi u,.int 1 v]}).objs.size],_,_,H,rfl,
  I1.kept (t':=tk) fun b o e=>Yae _ e,ZgT _ lo (hi-lo).toNat,?_,fun b hb=>?_,q⟩
 ·have e1:lo+((0:Nat):Int)*1=lo:=by simp
  have e2:(((hi-lo).toNat:Nat):Int) - ((0:Nat):Int)=Builtin.Range.rangeSize lo hi 1:=by rw [rangeSize_one];split<;>omega
  show IsRangeIter _ _ (lo+((0:Nat):Int)*1) ((((hi-lo).toNat:Nat):Int) - ((0:Nat):Int)) 1
  rw [e1,e2]
  exact Yaz _ rfl
 ·have e:b=(s.heap.push {cls:=.type "range",data:=.fields #[.int lo t,.int hi u,.int 1 v]}).objs.size:=by simpa using hb
  subst e
  exact I1.fpOk (Yad _) (I1.hok.fresh (Yad _))
noncomputable def iRng1 (ta:TA):TI:=fun σ H R=>ta σ H fun vs H1=>∃j:Int,vs=[.int j]∧ -(2^62)≤j∧j<2^62∧R (Itr 0 j.toNat) H1
noncomputable def iRng2 (ta:TA):TI:=fun σ H R=>ta σ H fun vs H1=>∃i j:Int,vs=[.int i,.int j]∧(-(2^62)≤i∧i<2^62∧ -(2^62)≤j∧j<2^62)∧R (Itr i (j-i).toNat) H1
theorem ZhG {a:Expr} {ta:TA} {p pos:Pos} (hg:Gl X "range") (hm:X.mg "range" =none) (ha:PA X [a] ta) (hs:starEach [a] X.env=[(false,eval a X.env)]:=by rfl):PI X tg (.Call (.Name "range" p) [a] [] pos) (iRng1 ta):=by
 intro pins s σ H R I h
 refine Call_ (Zcp I hg hm boot_range (YaS (thn (ha pos pins s σ H _ I h) fun us s1 ⟨vs,H1,I1,r1,q1⟩=>?_) hs rfl))
 obtain⟨j,e,q1,q2,q⟩:=q1
 subst e
 cases r1 with
 |cons r rr=>
  cases rr
  obtain⟨t,rfl⟩:=r
  exact call_range_1 (Zgn I1 (by omega) (by omega) q1 q2 (by simpa using q))
theorem ZhF {a b:Expr} {ta:TA} {p pos:Pos} (hg:Gl X "range") (hm:X.mg "range" =none) (ha:PA X [a,b] ta) (hs:starEach [a,b] X.env=[(false,eval a X.env),(false,eval b X.env)]:=by rfl) (hs2:starEach [b] X.env=[(false,eval b X.env)]:=by rfl):
  PI X tg (.Call (.Name "range" p) [a,b] [] pos) (iRng2 ta):=by
 intro pins s σ H R I h
 refine Call_ (Zcp I hg hm boot_range (YaS (thn (ha pos pins s σ H _ I h) fun us s1 ⟨vs,H1,I1,r1,q1⟩=>?_) (by rw [hs,hs2]) (by rw [hs2];rfl)))
 obtain⟨i,j,e,⟨q1,q2,q3,q4⟩,q⟩:=q1
 subst e
 cases r1 with
 |cons r rr=>
  cases rr with
  |cons r' rr=>
   cases rr
   obtain⟨t,rfl⟩:=r
   obtain⟨t',rfl⟩:=r'
   exact call_range_2 (Zgn I1 q1 q2 q3 q4 q)
noncomputable def tFor (wi:TI) (g:TG) (tb:TS):TS:=fun D σ H=>wi σ H fun J H1=>∃W:Nat→Nat→St→Hp→Prop,(∃m,W 0 m σ H1)∧∀i m σ H,W i m σ H→
 (J.stop i H∧D.nx σ H)∨(J.go i H∧∃N:St→Hp→Prop,(∀σ' H',N σ' H'→∃m',m'<m∧W (i+1) m' σ' H')∧∀x H',J.yld i H x H'→g x σ H' fun σ2 H2=>tb {D with nx:=N,ct:=N,bk:=D.nx} σ2 H2)
noncomputable def Ze4 (fp:List Addr) (h:Heap):List (Addr×Obj):=fp.filterMap fun b=>(h.get? b).map fun o=>(b,o)
theorem Zb1 {fp:List Addr} {h:Heap} {b:Addr} {o:Obj} (hb:b∈fp) (e:h.get? b=some o):(b,o)∈Ze4 fp h:=List.mem_filterMap.mpr ⟨b,hb,by rw [e];rfl⟩
theorem ZhN {fp:List Addr} {h:Heap} {p:Addr×Obj} (hp:p∈Ze4 fp h):p.1∈fp∧h.get? p.1=some p.2:=by
 obtain⟨b,hb,e⟩:=List.mem_filterMap.mp hp
 cases q:h.get? b with
 |none=>rw [q] at e;cases e
 |some o=>
  rw [q] at e
  have e':(b,o)=p:=Option.some.inj e
  subst e'
  exact⟨hb,q⟩
theorem Inv.pinned {pins:List (Addr×Obj)} {σ:St} {H:Hp} {s:Shared} {fp:List Addr} (I:Inv X pins σ H s) (hf:∀b∈fp,FpOk X pins H b) (ho:∀b∈fp,∃o,s.heap.get? b=some o∧∀v,o.data≠.cell v):Inv X (pins++Ze4 fp s.heap) σ H s:=
 I.pins_of fun p hp=>(Ybh.mp hp).elim (fun z=>I.pin p (YaF _ z)) fun z=>by
  obtain⟨hb,e⟩:=ZhN z
  obtain⟨f0,f1,f2,_⟩:=hf p.1 hb
  obtain⟨o,e',d⟩:=ho p.1 hb
  rw [e] at e';cases e'
  exact⟨e,f0,f1,f2,d⟩
theorem Inv.unpinned {pins pl:List (Addr×Obj)} {σ:St} {H:Hp} {s:Shared} (I:Inv X (pins++pl) σ H s):Inv X pins σ H s:=I.pins_of fun p hp=>I.pin p (YaF _ (List.mem_append_left _ hp))
theorem ZmC {iter:Expr} {body:List Stmt} {wi:TI} {g:TG} {tb:TS} {pos:Pos} (hp:PassesOwn (model X.prog X.w) X.A X.env X.xe) (hc:X.calm=true) (hi:PI X tg iter wi) (hg:PG X tg g) (hb:PSs X body tb)
  (hs:∀x,foldedSetIterable iter X.env x=pure x:=by intro _;rfl):PS X (.For tg iter body [] pos) (tFor wi g tb):=by
 intro pins s σ H D I h
 refine wpAny_For (thn (hi pins s σ H _ I h) fun v s1 h1=>thn h1 fun itv s2 h2=>?_) hs
 obtain⟨it,fp,tn,J,H2,e,I2,T,st2,f2,W,⟨m0,w0⟩,turn⟩:=h2
 subst e
 -- what stays true of the iterator's objects through the loop
 have stat:∀{H':Hp},(∀b∈fp,H' b=none)→∀b∈fp,FpOk X pins H' b:=fun hn b hb=>⟨hn b hb,(f2 b hb).2⟩
 refine codeAny_forLoop_any (fun n s'=>∃i σ' H',Inv X pins σ' H' s'∧tn i s'.heap∧(∀b∈fp,H' b=none)∧W i n σ' H') ?_ m0 ⟨0,σ,H2,I2,st2,fun b hb=>(f2 b hb).1,w0⟩
 rintro n s3 ⟨i,σ3,H3,I3,st3,fr3,w3⟩
 rcases turn i n σ3 H3 w3 with ⟨stop,qn⟩|⟨go,N,hN,step⟩
 ·refine wpAny_passesOwn hp (thn (T.done X rfl rfl rfl hc i pins s3 σ3 H3 X.xe I3 (stat fr3) st3 stop) ?_)
  rintro r s4 ⟨hr,I4⟩
  subst hr
  exact wpAny_execs_nil ⟨σ3,H3,I4,qn⟩
 ·refine wpAny_passesOwn hp (thn (T.item X rfl rfl rfl hc i pins s3 σ3 H3 X.xe I3 (stat fr3) st3 go) ?_)
  rintro r s4 ⟨u,hr,h4⟩
  subst hr
  refine wpAny_passesOwn hp (thn h4 ?_)
  rintro _ s5 ⟨x,H5,I5,r5,y5,st5,fr5⟩
  have I5':=I5.pinned (stat fr5) (T.obj _ _ st5)
  refine wpAny_passesOwn hp (thn (hg _ s5 σ3 H5 x u _ I5' r5 (step x H5 y5)) ?_)
  rintro _ s6 ⟨σ6,H6,I6,q6⟩
  refine wpAny_passesOwn hp (thn (hb _ s6 σ6 H6 _ I6 q6) fun f s7 q7=>?_)
  have again:∀{σ7:St} {H7:Hp},Inv X (pins++Ze4 fp s5.heap) σ7 H7 s7→N σ7 H7→∃m,m<n∧∃i σ' H',Inv X pins σ' H' s7∧tn i s7.heap∧(∀b∈fp,H' b=none)∧W i m σ' H':=fun {σ7 H7} I7 n7=>by
   obtain⟨m',hm,w7⟩:=hN σ7 H7 n7
   refine⟨m',hm,i+1,σ7,H7,I7.unpinned,T.keep _ _ _ st5 fun b hb o e=>(I7.pin (b,o) (YaF _ (YaF _ (Zb1 hb e)))).1,fun b hb=>?_,w7⟩
   obtain⟨o,e,d⟩:=T.obj _ _ st5 b hb
   exact(I7.pin (b,o) (YaF _ (YaF _ (Zb1 hb e)))).2.1
  cases f with
  |next=>obtain⟨σ7,H7,I7,n7⟩:=q7;exact again I7 n7
  |cont=>obtain⟨σ7,H7,I7,n7⟩:=q7;exact again I7 n7
  |brk=>obtain⟨σ7,H7,I7,q7⟩:=q7;exact⟨σ7,H7,I7.unpinned,q7⟩
  |ret v=>obtain⟨x7,σ7,H7,I7,r7,q7⟩:=q7;exact⟨x7,σ7,H7,I7.unpinned,r7,q7⟩
end
end L2
namespace L2
open PySem PySem.Spec PyProof.Rows
noncomputable abbrev R2:=V→V→Hp→VK→Prop
noncomputable def OpR (X:Cx) (f:Value→Value→Sem Value) (r:R2):Prop:=
 ∀(pins:List (Addr×Obj)) (s:Shared) (σ:St) (H:Hp) (x y:V) (v u:Value) (Q:VK),Inv X pins σ H s→RelV x v→RelV y u→r x y H Q→
  wpAny (model X.prog X.w) X.A (f v u) (EP X pins σ Q) X.xe s
noncomputable def UnR (X:Cx) (f:Value→Sem Value) (r:V→Hp→VK→Prop):Prop:=
 ∀(pins:List (Addr×Obj)) (s:Shared) (σ:St) (H:Hp) (x:V) (v:Value) (Q:VK),Inv X pins σ H s→RelV x v→r x H Q→
  wpAny (model X.prog X.w) X.A (f v) (EP X pins σ Q) X.xe s
noncomputable def CallR (X:Cx) (f:Value) (r:List V→Hp→VK→Prop):Prop:=
 ∀(pins:List (Addr×Obj)) (s:Shared) (σ:St) (H:Hp) (xs:List V) (us:List Value) (Q:VK),Inv X pins σ H s→Vals xs us→r xs H Q→
  wpAny (model X.prog X.w) X.A (call f us) (EP X pins σ Q) X.xe s
noncomputable def TruR (X:Cx) (r:V→Hp→(Bool→Hp→Prop)→Prop):Prop:=
 ∀(pins:List (Addr×Obj)) (s:Shared) (σ:St) (H:Hp) (x:V) (v:Value) (Q:Bool→Hp→Prop),Inv X pins σ H s→RelV x v→r x H Q→
  wpAny (model X.prog X.w) X.A (truthy v) (TP X pins σ Q) X.xe s
noncomputable def tOp (r:R2) (ta tb:TE):TE:=fun σ H Q=>ta σ H fun x H1=>tb σ H1 fun y H2=>r x y H2 Q
noncomputable def tUn (r:V→Hp→VK→Prop) (ta:TE):TE:=fun σ H Q=>ta σ H fun x H1=>r x H1 Q
noncomputable def rI (C:Int→Int→Prop) (g:Int→Int→V):R2:=fun x y H Q=>∃i j,x=.int i∧y=.int j∧C i j∧Q (g i j) H
noncomputable def rI0 (g:Int→Int→V):R2:=fun x y H Q=>∃i j,x=.int i∧y=.int j∧Q (g i j) H
noncomputable def rU (g:Int→V):V→Hp→VK→Prop:=fun x H Q=>∃i,x=.int i∧Q (g i) H
section
variable {X:Cx} {a b c:Expr} {ta tb tc:TE} {pos:Pos}
theorem binT (ha:PE X a ta) (hb:PE X b tb) {pins:List (Addr×Obj)} {s:Shared} {σ:St} {H:Hp} {R:V→V→Hp→Prop} (I:Inv X pins σ H s)
  (h:ta σ H fun x H1=>tb σ H1 fun y H2=>R x y H2) {Q:Value→Shared→Prop} {f:Value→Value→Sem Value}
  (hf:∀v u s2 x y H2,Inv X pins σ H2 s2→RelV x v→RelV y u→R x y H2→wpAny (model X.prog X.w) X.A (f v u) Q X.xe s2):
  wpAny (model X.prog X.w) X.A (eval a X.env) (fun v s₁=>wpAny (model X.prog X.w) X.A (eval b X.env) (fun u s₂=>wpAny (model X.prog X.w) X.A (f v u) Q X.xe s₂) X.xe s₁) X.xe s:=by
 refine thn (ha pins s σ H _ I h) ?_
 rintro v s1 ⟨x,H1,I1,r1,q1⟩
 refine thn (hb pins s1 σ H1 _ I1 q1) ?_
 rintro u s2 ⟨y,H2,I2,r2,q2⟩
 exact hf v u s2 x y H2 I2 r1 r2 q2
theorem pe_op {op:Operator} {r:R2} (ho:OpR X (binaryOp op) r) (ha:PE X a ta) (hb:PE X b tb):PE X (.BinOp a op b pos) (tOp r ta tb):=by
 intro pins s σ H Q I h
 exact wpAny_BinOp (binT ha hb I h fun v u s2 x y H2 I2 rx ry q=>ho pins s2 σ H2 x y v u Q I2 rx ry q)
theorem pe_un {op:UnaryOp} {r:V→Hp→VK→Prop} (ho:UnR X (unaryOp op) r) (ha:PE X a ta):PE X (.UnaryOp op a pos) (tUn r ta):=by
 intro pins s σ H Q I h
 exact UnaryOp_ (thn (ha pins s σ H _ I h) fun v s1 ⟨x,H1,I1,r1,q1⟩=>ho pins s1 σ H1 x v Q I1 r1 q1)
theorem opI {f:Value→Value→Sem Value} {C:Int→Int→Prop} {g:Int→Int→Int}
  (rule:∀(i j:Int) (t u:Tok) (s:Shared) (Q:Value→Shared→Prop) (E:Value→Shared→Prop),C i j→Q (.int (g i j) s.toks) {s with toks:=s.toks+1}→wpAny (model X.prog X.w) X.A (f (.int i t) (.int j u)) Q E s):
  OpR X f (rI C fun i j=>.int (g i j)):=by
 intro pins s σ H x y v u Q I rx ry h
 obtain⟨i,j,rfl,rfl,hc,q⟩:=h
 obtain⟨t,rfl⟩:=rx
 obtain⟨t',rfl⟩:=ry
 exact rule i j t t' s _ _ hc ⟨.int (g i j),H,I.tok _,⟨_,rfl⟩,q⟩
theorem opI0 {f:Value→Value→Sem Value} {g:Int→Int→Int}
  (rule:∀(i j:Int) (t u:Tok) (s:Shared) (Q:Value→Shared→Prop) (E:Value→Shared→Prop),Q (.int (g i j) s.toks) {s with toks:=s.toks+1}→wpAny (model X.prog X.w) X.A (f (.int i t) (.int j u)) Q E s):
  OpR X f (rI0 fun i j=>.int (g i j)):=by
 intro pins s σ H x y v u Q I rx ry h
 obtain⟨i,j,rfl,rfl,q⟩:=h
 obtain⟨t,rfl⟩:=rx
 obtain⟨t',rfl⟩:=ry
 exact rule i j t t' s _ _ ⟨.int (g i j),H,I.tok _,⟨_,rfl⟩,q⟩
theorem opB0 {f:Value→Value→Sem Value} {g:Int→Int→Bool}
  (rule:∀(i j:Int) (t u:Tok) (s:Shared) (Q:Value→Shared→Prop) (E:Value→Shared→Prop),Q (.bool (g i j)) s→wpAny (model X.prog X.w) X.A (f (.int i t) (.int j u)) Q E s):
  OpR X f (rI0 fun i j=>.bl (g i j)):=by
 intro pins s σ H x y v u Q I rx ry h
 obtain⟨i,j,rfl,rfl,q⟩:=h
 obtain⟨t,rfl⟩:=rx
 obtain⟨t',rfl⟩:=ry
 exact rule i j t t' s _ _ ⟨.bl (g i j),H,I,rfl,q⟩
noncomputable def CPow (i j:Int):Prop:=0≤j∧j≤1000000∧i.natAbs<2^64
noncomputable def CMul (i j:Int):Prop:=(-(2^64)<i∧i<2^64)∨(-(2^64)<j∧j<2^64)
theorem CMul.ok {i j:Int} (h:CMul i j):IntMulOk i j:=by
 rcases h with ⟨h1,h2⟩|⟨h1,h2⟩
 ·exact .of_left (intBits_le_64 h1 h2)
 ·exact .of_right (intBits_le_64 h1 h2)
theorem ZgR (k:Nat):(0:Int)≤2^k:=by
 rw [two_pow_cast]
 exact Int.natCast_nonneg _
theorem ZmZ:OpR X (binaryOp .Add) (rI0 fun i j=>.int (i+j)):=opI0 fun _ _ _ _ _ _ _ q=>add_int q
theorem ZmP:OpR X (binaryOp .Sub) (rI0 fun i j=>.int (i-j)):=opI0 fun _ _ _ _ _ _ _ q=>sub_int q
theorem ZjT:OpR X (binaryOp .Mult) (rI CMul fun i j=>.int (i*j)):=opI fun _ _ _ _ _ _ _ hc q=>mul_int q hc.ok
theorem ZmV:OpR X (binaryOp .Mod) (rI (fun _ j=>0<j) fun i j=>.int (i % j)):=opI fun i j _ _ _ _ _ hc q=>by
 have h1:(0:Int)<j:=hc
 exact mod_int' (by omega) (by rw [Int.fmod_eq_emod_of_nonneg i (by omega)];exact q)
theorem ZmT:OpR X (binaryOp .Pow) (rI CPow fun i j=>.int (i^j.toNat)):=opI fun _ _ _ _ _ _ _ hc q=>pow_int_small hc.1 hc.2.1 hc.2.2 q
theorem ZmR:OpR X (binaryOp .LShift) (rI CPow fun i j=>.int (i*2^j.toNat)):=opI fun _ _ _ _ _ _ _ hc q=>lshift_int_small hc.1 hc.2.1 hc.2.2 q
theorem ZmQ:OpR X (binaryOp .RShift) (rI (fun _ j=>0≤j) fun i j=>.int (i / 2^j.toNat)):=opI fun i j _ _ _ _ _ hc q=>
 rshift_int hc (by rw [Ybz i (ZgR _)];exact q)
theorem ZmY:OpR X (binaryOp .BitAnd) (rI0 fun i j=>.int (Builtin.bitAnd i j)):=opI0 fun _ _ _ _ _ _ _ q=>and_int q
theorem unI {f:Value→Sem Value} {g:Int→Int}
  (rule:∀(i:Int) (t:Tok) (s:Shared) (Q:Value→Shared→Prop) (E:Value→Shared→Prop),Q (.int (g i) s.toks) {s with toks:=s.toks+1}→wpAny (model X.prog X.w) X.A (f (.int i t)) Q E s):
  UnR X f (rU fun i=>.int (g i)):=by
 intro pins s σ H x v Q I rx h
 obtain⟨i,rfl,q⟩:=h
 obtain⟨t,rfl⟩:=rx
 exact rule i t s _ _ ⟨.int (g i),H,I.tok _,⟨_,rfl⟩,q⟩
theorem Zmb:UnR X (unaryOp .USub) (rU fun i=>.int (-i)):=unI fun _ _ _ _ _ q=>neg_int q
end
noncomputable def scal:V→V→Bool
 | .non,.non=>true| .non,.int _=>true| .int _,.non=>true| .non,.bl _=>true| .bl _,.non=>true| .non,.str _=>true| .str _,.non=>true
 | .int _,.int _=>true| .bl _,.bl _=>true| .str _,.str _=>true| .byt _,.byt _=>true
 | .int _,.str _=>true| .str _,.int _=>true| .bl _,.str _=>true| .str _,.bl _=>true
 |_,_=>false
noncomputable def rEq:R2:=fun x y H Q=>scal x y=true∧Q (.bl (decide (x=y))) H
noncomputable def rNe:R2:=fun x y H Q=>scal x y=true∧Q (.bl (!decide (x=y))) H
theorem Zik {i j:Int}:decide (V.int i=V.int j)=(i==j):=by
 rw [Ybp]
 simp
theorem Zkb {i j:Bool}:decide (V.bl i=V.bl j)=(i==j):=by
 rw [Ybp]
 simp
theorem Zij {i j:Str}:decide (V.str i=V.str j)=(i==j):=by
 rw [Ybp]
 simp
theorem Zil {i j:Array UInt8}:decide (V.byt i=V.byt j)=(i.toList==j.toList):=by
 rw [Ybp]
 cases i
 cases j
 simp
section
variable {X:Cx} {a b c:Expr} {ta tb tc:TE} {pos:Pos}
theorem Zas {pins:List (Addr×Obj)} {σ:St} {H:Hp} {s:Shared} {Q:VK} {k k':Bool} (I:Inv X pins σ H s) (q:Q (.bl k) H) (e:k=k'):EP X pins σ Q (.bool k') s:=by
 subst e
 exact⟨.bl k,H,I,rfl,q⟩
theorem op_eq:OpR X (compareOp .Eq) rEq:=by
 intro pins s σ H x y v u Q I rx ry h
 obtain⟨hs,q⟩:=h
 cases x with
 |non=>
  cases rx
  cases y with
  |non=>cases ry;exact PySem.EqNone.eq_none_none (Zas I q (by simp))
  |bl j=>cases ry;exact PySem.EqNone.eq_none_bool (Zas I q (by simp))
  |int j=>obtain⟨t',rfl⟩:=ry;exact PySem.EqNone.eq_none_int (Zas I q (by simp))
  |str j=>obtain⟨t',rfl⟩:=ry;exact PySem.EqNone.eq_none_str (Zas I q (by simp))
  |_=>exact absurd (show false=true from hs) Yal
 |bl i=>
  cases rx
  cases y with
  |non=>cases ry;exact PySem.EqNone.eq_bool_none (Zas I q (by simp))
  |bl j=>cases ry;exact eq_bool (Zas I q Zkb)
  |str j=>obtain⟨t',rfl⟩:=ry;exact PySem.EqMixed.eq_bool_str (Zas I q (by simp))
  |_=>exact absurd (show false=true from hs) Yal
 |int i=>
  obtain⟨t,rfl⟩:=rx
  cases y with
  |non=>cases ry;exact PySem.EqNone.eq_int_none (Zas I q (by simp))
  |int j=>obtain⟨t',rfl⟩:=ry;exact eq_int (Zas I q Zik)
  |str j=>obtain⟨t',rfl⟩:=ry;exact PySem.EqMixed.eq_int_str (Zas I q (by simp))
  |_=>exact absurd (show false=true from hs) Yal
 |str i=>
  obtain⟨t,rfl⟩:=rx
  cases y with
  |non=>cases ry;exact PySem.EqNone.eq_str_none (Zas I q (by simp))
  |bl j=>cases ry;exact PySem.EqMixed.eq_str_bool (Zas I q (by simp))
  |int j=>obtain⟨t',rfl⟩:=ry;exact PySem.EqMixed.eq_str_int (Zas I q (by simp))
  |str j=>obtain⟨t',rfl⟩:=ry;exact eq_str (Zas I q Zij)
  |_=>exact absurd (show false=true from hs) Yal
 |byt i=>
  obtain⟨t,rfl⟩:=rx
  cases y with
  |byt j=>obtain⟨t',rfl⟩:=ry;exact PySem.W.eq_bytes (Zas I q Zil)
  |_=>exact absurd (show false=true from hs) Yal
 |_=>cases y<;>exact absurd (show false=true from hs) Yal
theorem op_ne:OpR X (compareOp .NotEq) rNe:=by
 intro pins s σ H x y v u Q I rx ry h
 obtain⟨hs,q⟩:=h
 cases x with
 |non=>
  cases rx
  cases y with
  |non=>cases ry;exact PySem.EqNone.ne_none_none (Zas I q (by simp))
  |bl j=>cases ry;exact PySem.EqNone.ne_none_bool (Zas I q (by simp))
  |int j=>obtain⟨t',rfl⟩:=ry;exact PySem.EqNone.ne_none_int (Zas I q (by simp))
  |str j=>obtain⟨t',rfl⟩:=ry;exact PySem.EqNone.ne_none_str (Zas I q (by simp))
  |_=>exact absurd (show false=true from hs) Yal
 |bl i=>
  cases rx
  cases y with
  |non=>cases ry;exact PySem.EqNone.ne_bool_none (Zas I q (by simp))
  |bl j=>cases ry;exact ne_bool (Zas I q (congrArg not Zkb))
  |str j=>obtain⟨t',rfl⟩:=ry;exact PySem.EqMixed.ne_bool_str (Zas I q (by simp))
  |_=>exact absurd (show false=true from hs) Yal
 |int i=>
  obtain⟨t,rfl⟩:=rx
  cases y with
  |non=>cases ry;exact PySem.EqNone.ne_int_none (Zas I q (by simp))
  |int j=>obtain⟨t',rfl⟩:=ry;exact ne_int (Zas I q (congrArg not Zik))
  |str j=>obtain⟨t',rfl⟩:=ry;exact PySem.EqMixed.ne_int_str (Zas I q (by simp))
  |_=>exact absurd (show false=true from hs) Yal
 |str i=>
  obtain⟨t,rfl⟩:=rx
  cases y with
  |non=>cases ry;exact PySem.EqNone.ne_str_none (Zas I q (by simp))
  |bl j=>cases ry;exact PySem.EqMixed.ne_str_bool (Zas I q (by simp))
  |int j=>obtain⟨t',rfl⟩:=ry;exact PySem.EqMixed.ne_str_int (Zas I q (by simp))
  |str j=>obtain⟨t',rfl⟩:=ry;exact ne_str (Zas I q (congrArg not Zij))
  |_=>exact absurd (show false=true from hs) Yal
 |byt i=>
  obtain⟨t,rfl⟩:=rx
  cases y with
  |byt j=>obtain⟨t',rfl⟩:=ry;exact PySem.W.ne_bytes (Zas I q (congrArg not Zil))
  |_=>exact absurd (show false=true from hs) Yal
 |_=>cases y<;>exact absurd (show false=true from hs) Yal
theorem op_lt:OpR X (compareOp .Lt) (rI0 fun i j=>.bl (decide (i<j))):=opB0 fun _ _ _ _ _ _ _ q=>lt_int q
theorem op_le:OpR X (compareOp .LtE) (rI0 fun i j=>.bl (decide (i≤j))):=opB0 fun _ _ _ _ _ _ _ q=>le_int q
theorem op_gt:OpR X (compareOp .Gt) (rI0 fun i j=>.bl (decide (j<i))):=opB0 fun _ _ _ _ _ _ _ q=>gt_int q
theorem op_ge:OpR X (compareOp .GtE) (rI0 fun i j=>.bl (decide (j≤i))):=opB0 fun _ _ _ _ _ _ _ q=>ge_int q
theorem ZmW:OpR X (compareOp .Is) (fun x y H Q=>y=.non∧Q (.bl (decide (x=.non))) H):=by
 intro pins s σ H x y v u Q I rx ry h
 obtain⟨rfl,q⟩:=h
 cases ry
 refine is_none_gen (Zas I q ?_)
 cases x<;>first
  |(cases rx;rfl)
  |(obtain⟨t,rfl⟩:=rx;rfl)
theorem ZkZ:OpR X (compareOp .IsNot) (fun x y H Q=>y=.non∧Q (.bl (!decide (x=.non))) H):=by
 intro pins s σ H x y v u Q I rx ry h
 obtain⟨rfl,q⟩:=h
 cases ry
 refine isnot_none_gen (Zas I q ?_)
 cases x<;>first
  |(cases rx;rfl)
  |(obtain⟨t,rfl⟩:=rx;rfl)
theorem ZkU {op:CmpOp} {r:R2} (ho:OpR X (compareOp op) r) (ha:PE X a ta) (hb:PE X b tb) (hm:behindInMarks op b=false):PE X (.Compare a [op] [b] pos) (tOp r ta tb):=by
 intro pins s σ H Q I h
 exact wpAny_Compare1 (binT ha hb I h fun v u s2 x y H2 I2 rx ry q=>ho pins s2 σ H2 x y v u Q I2 rx ry q) hm
noncomputable def tTest (t:TE):TT:=fun σ H Q=>t σ H fun x H'=>∃k,x=.bl k∧Q k H'
theorem ZkD {op:CmpOp} {r:R2} (ho:OpR X (compareOp op) r) (ha:PE X a ta) (hb:PE X b tb) (hm:behindInMarks op b=false):PT X (.Compare a [op] [b] pos) (tTest (tOp r ta tb)):=by
 intro pins s σ H Q I h
 refine wpAny_isTrue_Compare1 (thn (ha pins s σ H _ I h) fun v s1 ⟨x,H1,I1,r1,q1⟩=>thn (hb pins s1 σ H1 _ I1 q1) fun u s2 ⟨y,H2,I2,r2,q2⟩=>
  thn (ho pins s2 σ H2 x y v u _ I2 r1 r2 q2) fun c s3 ⟨z,H3,I3,r3,k,e,q3⟩=>?_) hm
 subst e
 cases r3
 exact wpAny_truthy_bool ⟨H3,I3,q3⟩
noncomputable def ZjI (r r':R2) (ta tb tc:TE):TE:=fun σ H Q=>ta σ H fun x H1=>tb σ H1 fun y H2=>r x y H2 fun z H3=>∃k,z=.bl k∧
 (if k=true then tc σ H3 fun w' H4=>r' y w' H4 Q else Q (.bl false) H3)
theorem Zi4 {op op':CmpOp} {r r':R2} (ho:OpR X (compareOp op) r) (ho':OpR X (compareOp op') r') (ha:PE X a ta) (hb:PE X b tb) (hc:PE X c tc)
  (hm:lastMarks [op,op'] [b,c]=false:=by with_unfolding_all rfl):PE X (.Compare a [op,op'] [b,c] pos) (ZjI r r' ta tb tc):=by
 intro pins s σ H Q I h
 refine Compare_chain (thn (ha pins s σ H _ I h) fun v s1 ⟨x,H1,I1,r1,q1⟩=>chain_link (thn (hb pins s1 σ H1 _ I1 q1) fun u s2 ⟨y,H2,I2,r2,q2⟩=>
  thn (ho pins s2 σ H2 x y v u _ I2 r1 r2 q2) fun d s3 ⟨z,H3,I3,r3,k,e,q3⟩=>?_)) hm
 subst e
 cases r3
 refine wpAny_truthy_bool ?_
 cases k with
 |false=>exact ite_ff ⟨.bl false,H3,I3,rfl,q3⟩
 |true=>exact ite_tt (chain_last (thn (hc pins s3 σ H3 _ I3 q3) fun w' s4 ⟨z',H4,I4,r4,q4⟩=>ho' pins s4 σ H4 y z' u w' Q I4 r2 r4 q4))
theorem ZiT {op op':CmpOp} {r r':R2} (ho:OpR X (compareOp op) r) (ho':OpR X (compareOp op') r') (ha:PE X a ta) (hb:PE X b tb) (hc:PE X c tc)
  (hm:lastMarks [op,op'] [b,c]=false:=by with_unfolding_all rfl):PT X (.Compare a [op,op'] [b,c] pos) (tTest (ZjI r r' ta tb tc)):=by
 intro pins s σ H Q I h
 refine isTrue_chain (thn (ha pins s σ H _ I h) fun v s1 ⟨x,H1,I1,r1,q1⟩=>test_link (thn (hb pins s1 σ H1 _ I1 q1) fun u s2 ⟨y,H2,I2,r2,q2⟩=>
  thn (ho pins s2 σ H2 x y v u _ I2 r1 r2 q2) fun d s3 ⟨z,H3,I3,r3,k,e,q3⟩=>?_)) hm
 subst e
 cases r3
 refine wpAny_truthy_bool ?_
 cases k with
 |false=>
  obtain⟨k',e',q'⟩:=q3
  cases e'
  exact ite_ff ⟨H3,I3,q'⟩
 |true=>
  refine ite_tt (test_last (thn (hc pins s3 σ H3 _ I3 q3) fun w' s4 ⟨z',H4,I4,r4,q4⟩=>thn (ho' pins s4 σ H4 y z' u w' _ I4 r2 r4 q4) fun d' s5 ⟨z2,H5,I5,r5,k2,e2,q5⟩=>?_))
  subst e2
  cases r5
  exact wpAny_truthy_bool ⟨H5,I5,q5⟩
noncomputable def TruV (K:Yab) (x:V) (H:Hp) (k:Bool):Prop:=
 match x with
 | .non=>k=false
 | .bl b=>k=b
 | .int i=>k=(i !=0)
 | .str y=>y.length≤sizeLine∧k=((y.length:Int) !=0)
 | .byt y=>y.size≤sizeLine∧k=((y.size:Int) !=0)
 | .ref p=>(∃xs,SqL K H p xs∧k= !xs.isEmpty)∨(∃xs,SqT K H p xs∧k= !xs.isEmpty)∨∃kvs,H p=some (.dK kvs)∧k= !kvs.isEmpty
 |_=>False
theorem Zg3 {κ:Type} {kvs:List (κ×V)} {vs:List (κ×Value)} (r:KV kvs vs):(!vs.isEmpty)= !kvs.isEmpty:=by
 cases r<;>rfl
theorem Zea {xs:List V} {its:List Value} (r:Vals xs its):(!its.toArray.isEmpty)= !xs.isEmpty:=by
 cases r<;>simp
theorem Ze9:(sizeLine:Nat)<2^63:=by rw [sizeLine_eq];decide
theorem Zmc:TruR X (fun x H Q=>∃k,TruV X.K x H k∧Q k H):=by
 intro pins s σ H x v Q I rx h
 obtain⟨k,e,q⟩:=h
 have hl:=Ze9
 have hs:sizeLine=16777216:=sizeLine_eq
 cases x with
 |non=>
  cases rx
  have e':k=false:=e
  subst e'
  exact truthy_none ⟨H,I,q⟩
 |bl b=>
  cases rx
  have e':k=b:=e
  subst e'
  exact wpAny_truthy_bool ⟨H,I,q⟩
 |int i=>
  obtain⟨t,rfl⟩:=rx
  have e':k=(i !=0):=e
  subst e'
  exact PySem.P.truthy_int ⟨H,I,q⟩
 |str y=>
  obtain⟨t,rfl⟩:=rx
  obtain⟨hy,e'⟩:y.length≤sizeLine∧k=((y.length:Int) !=0):=e
  subst e'
  exact PySem.P.truthy_str (by omega) ⟨H,I.tok _,q⟩
 |byt y=>
  obtain⟨t,rfl⟩:=rx
  obtain⟨hy,e'⟩:y.size≤sizeLine∧k=((y.size:Int) !=0):=e
  subst e'
  exact PySem.W.truthy_bytes (by omega) ⟨H,I.tok _,q⟩
 |ref p=>
  cases rx
  have e':(∃xs,SqL X.K H p xs∧k= !xs.isEmpty)∨(∃xs,SqT X.K H p xs∧k= !xs.isEmpty)∨∃kvs,H p=some (.dK kvs)∧k= !kvs.isEmpty:=e
  rcases e' with ⟨xs,hx,e'⟩|⟨xs,hx,e'⟩|⟨kvs,hx,e'⟩
  ·subst e'
   obtain⟨its,r,pl,hz⟩:=I.list hx
   have hlen:=r.length
   exact wpAny_truthy_list pl.isList (by simp only [Yag];omega) ⟨H,I.tok _,by rw [Zea r];exact q⟩
  ·subst e'
   obtain⟨its,r,pl,hz⟩:=I.tuple hx
   have hlen:=r.length
   exact truthy_tuple pl (by simp only [Yag];omega) ⟨H,I.tok _,by rw [Zea r];exact q⟩
  ·subst e'
   obtain⟨hz,hS,vs,r,m⟩:kvs.length≤sizeLine∧(p==sysModules)=false∧∃vs,KV kvs vs∧s.heap.DictOf (ZaJ X.prog X.w) p vs:=I.hok p _ hx
   have hlen:kvs.length=vs.length:=Paired.length r
   exact wpAny_truthy_dict hS m (by omega) ⟨H,I.tok _,by rw [Zg3 r];exact q⟩
 |_=>exact(show False from e).elim
theorem ZiS (ha:PE X a ta) (he:∀whole,isTrue a X.env whole=(do let v←whole;standAt a.pos;holding [v] (truthy v))):
  PT X a (fun σ H Q=>ta σ H fun x H'=>∃k,TruV X.K x H' k∧Q k H'):=by
 intro pins s σ H Q I h
 exact isTrue_plain (thn (ha pins s σ H _ I h) fun v s1 ⟨x,H1,I1,r1,q1⟩=>Zmc pins s1 σ H1 x v Q I1 r1 q1) (he _)
theorem ZgX:OpR X (binaryOp .Add) (fun x y H Q=>∃i j,x=.str i∧y=.str j∧i.length+j.length≤sizeLine∧Q (.str (i++j)) H):=by
 intro pins s σ H x y v u Q I rx ry h
 obtain⟨i,j,rfl,rfl,hz,q⟩:=h
 obtain⟨t,rfl⟩:=rx
 obtain⟨t',rfl⟩:=ry
 exact add_str (fun t' tk=>⟨.str (i++j),H,I.tok _,⟨_,rfl⟩,q⟩) hz
theorem vals1 {x:V} {us:List Value} (r:Vals [x] us):∃u,us=[u]∧RelV x u:=by
 cases r with
 |cons r1 r2=>cases r2;exact⟨_,rfl,r1⟩
theorem vals2 {x y:V} {us:List Value} (r:Vals [x,y] us):∃u w',us=[u,w']∧RelV x u∧RelV y w':=by
 cases r with
 |cons r1 r2=>
  cases r2 with
  |cons r3 r4=>cases r4;exact⟨_,_,rfl,r1,r3⟩
theorem Ziu (hc:X.calm=true):CallR X (.builtin "max") (fun xs H Q=>∃i j,xs=[.int i,.int j]∧Q (.int (if j>i then j else i)) H):=by
 intro pins s σ H xs us Q I r h
 obtain⟨i,j,rfl,q⟩:=h
 obtain⟨u,w',rfl,⟨t,rfl⟩,⟨t',rfl⟩⟩:=vals2 r
 refine max_two_ints (I.ok.hd hc) fun h' tk k=>⟨_,H,I.kept k,?_,q⟩
 by_cases hj:j>i
 ·rw [if_pos hj,if_pos hj];exact⟨_,rfl⟩
 ·rw [if_neg hj,if_neg hj];exact⟨_,rfl⟩
theorem Zis (hc:X.calm=true):CallR X (.builtin "min") (fun xs H Q=>∃i j,xs=[.int i,.int j]∧Q (.int (if j<i then j else i)) H):=by
 intro pins s σ H xs us Q I r h
 obtain⟨i,j,rfl,q⟩:=h
 obtain⟨u,w',rfl,⟨t,rfl⟩,⟨t',rfl⟩⟩:=vals2 r
 refine min_two_ints (I.ok.hd hc) fun h' tk k=>⟨_,H,I.kept k,?_,q⟩
 by_cases hj:j<i
 ·rw [if_pos hj,if_pos hj];exact⟨_,rfl⟩
 ·rw [if_neg hj,if_neg hj];exact⟨_,rfl⟩
theorem Zfy:CallR X (.type "int") (fun xs H Q=>(∃i,xs=[.int i]∧Q (.int i) H)∨∃k,xs=[.bl k]∧Q (.int (if k then 1 else 0)) H):=by
 intro pins s σ H xs us Q I r h
 rcases h with ⟨i,rfl,q⟩|⟨k,rfl,q⟩
 ·obtain⟨u,rfl,t,rfl⟩:=vals1 r
  exact call_int_int ⟨.int i,H,I,⟨_,rfl⟩,q⟩
 ·obtain⟨u,rfl,r1⟩:=vals1 r
  cases r1
  exact call_int_bool ⟨.int (if k then 1 else 0),H,I.tok _,⟨_,rfl⟩,q⟩
theorem Zfx:CallR X (.type "str") (fun xs H Q=>∃i,xs=[.int i]∧i.natAbs.log2<1920∧Q (.str (toString i)) H):=by
 intro pins s σ H xs us Q I r h
 obtain⟨i,rfl,hz,q⟩:=h
 obtain⟨u,rfl,t,rfl⟩:=vals1 r
 exact PySem.P.str_of_int hz ⟨.str _,H,I.tok _,⟨_,rfl⟩,q⟩
end
end L2
namespace L2
open PySem PySem.Spec PyProof.Rows
structure ObjM (h:Heap) (x dx C:Addr) (mA:Str→Option Value):Prop where
 obj:h.get? x=some (PySem.W.instObj C dx)
 ns:h.Ns1 dx mA
 ne:dx≠x
section
variable {prog:Program} {w:World} {A:Around} {E:Value→Shared→Prop} {s:Shared} {K:Yab} {x dx C f:Addr} {mA:Str→Option Value} {name:Str} {v:Value}
end
section
variable {P:Program} {w:World} {H H':Hp} {h h':Heap} {a C dx:Addr} {fs fs':List (Str×V)}
end
structure Cls (K:Yab) (C:Addr):Prop where
 pg:PySem.W.plainGet K C Str.empty=true
 hd:PySem.W.hasDictIn K C=true
 po:PySem.W.plainOver K C=true
 sa:Ybd K (.ref C) "__setattr__" =some (some (.builtin "object.__setattr__"))
structure Con (K:Yab) (C:Addr) (f:Str) (v:V) (u:Value):Prop where
 at_:Ybd K (.ref C) f=some (some u)
 rel:RelV v u
 get:Yb2 K u "__get__" =some none
 cp:PySem.W.copiedNames.contains f=false
structure Meth (K:Yab) (C:Addr) (m:Str) (f:Addr):Prop where
 at_:Ybd K (.ref C) m=some (some (.ref f))
 fn:PySem.W.isFn K (.ref f)=true
 kp:Ya6 K (.ref f)=true
section
variable {X:Cx} {pins:List (Addr×Obj)} {σ:St} {H:Hp} {s:Shared} {a C dx:Addr} {fs:List (Str×V)} {f:Str} {v:V} {A:Around} {E:Value→Shared→Prop}
end
section
variable {X:Cx} {o e value:Expr} {f:Str} {pos pos' tpos:Pos} {ta tv:TE}
end
section
variable {X:Cx} {pins:List (Addr×Obj)} {σ:St} {H:Hp} {s:Shared} {A:Around} {E:Value→Shared→Prop} {Q:Value→Shared→Prop} {c:Value} {b:Bool}
inductive TyOf (K:Yab) (H:Hp):V→Value→Prop where
 |non:TyOf K H .non (.type "NoneType")
 |bl (x:Bool):TyOf K H (.bl x) (.type "bool")
 |int (i:Int):TyOf K H (.int i) (.type "int")
 |str (x:Str):TyOf K H (.str x) (.type "str")
 |flt (x:UInt64):TyOf K H (.flt x) (.type "float")
 |lst {a:Addr} {xs:List V} (e:H a=some (.lst xs)):TyOf K H (.ref a) (.type "list")
 |frz {a:Addr} {o:Obj} {xs:List V} (e:H a=some (.frz o (.lst xs))):TyOf K H (.ref a) (.type "list")
 |tup {a:Addr} {xs:List V} (e:H a=some (.tup xs)):TyOf K H (.ref a) (.type "tuple")
 |dK {a:Addr} {kvs:List (Key×V)} (e:H a=some (.dK kvs)):TyOf K H (.ref a) (.type "dict")
 |dT {a:Addr} {kvs:List (List Key×V)} (e:H a=some (.dT kvs)):TyOf K H (.ref a) (.type "dict")
 |ins {a C dx:Addr} {fs:List (Str×V)} (e:H a=some (.ins C dx fs)) (cl:Cls K C) (ha:Ybd K (.ref C) "__class__" =some (some (.builtin "object.__class__")))
   (hn:Yb2 K (.builtin "object.__class__") "__get__" =some (some (.builtin "getset_descriptor.__get__"))) (htk:PySem.W.takesIn K (.builtin "object.__class__")=some true)
   (hm:PySem.W.mroIn K C (.type "object")=some true):TyOf K H (.ref a) (.ref C)
end
end L2
namespace L2
open PySem PySem.Spec PyProof.Rows
structure Room (k:Nat) (A:Around):Prop where
 hd:A.handled=none
 dp:A.depth+3*k+5<recursionLimit
 un:A.units+16*k+200<cLine
theorem Room.deeper {k:Nat} {A:Around} (r:Room (k+1) A) (env:Env):Room k (A.deeper env):=
 ⟨r.hd,by have:=r.dp;show A.depth+1+3*k+5<_;omega,by have:=r.un;show A.units+3+16*k+200<_;omega⟩
theorem Room.depth {k:Nat} {A:Around} (r:Room k A):A.depth<recursionLimit:=by have:=r.dp;omega
noncomputable def tNil:TA:=fun _ H Q=>Q [] H
noncomputable def tCons (ta:TE) (tr:TA):TA:=fun σ H Q=>ta σ H fun x H1=>tr σ H1 fun xs H2=>Q (x::xs) H2
section
variable {X:Cx} {e:Expr} {es:List Expr} {te:TE} {t:TA} {pos:Pos}
theorem Zdr:PA X [] tNil:=fun _ _ _ _ H Q I h=>Calls.spliced_nil ⟨[],H,I,.nil,h⟩
theorem Zcc (ha:PE X e te) (hr:PA X es t) (hs:starEach (e::es) X.env=(false,eval e X.env)::starEach es X.env:=by rfl):PA X (e::es) (tCons te t):=by
 intro pos pins s σ H Q I h
 rw [hs]
 show wpAny _ _ (spliced ((false,eval e X.env)::backTo pos (starEach es X.env))) _ _ s
 refine Calls.spliced_cons (thn (ha pins s σ H _ I h) ?_)
 rintro u s1 ⟨x,H1,I1,r1,q1⟩
 exact thn (hr pos pins s1 σ H1 _ I1 q1) fun us s2 ⟨xs,H2,I2,r2,q2⟩=>⟨x::xs,H2,I2,.cons r1 r2,q2⟩
noncomputable def tTup (t:TA):TE:=fun σ H Q=>t σ H fun xs H1=>xs.length≤sizeLine∧∀p,H1 p=none→Q (.ref p) (upd H1 p (.tup xs))
noncomputable def tLst (t:TA):TE:=fun σ H Q=>t σ H fun xs H1=>xs.length≤sizeLine∧∀p,H1 p=none→Q (.ref p) (upd H1 p (.lst xs))
theorem ZmI {x1} (h:PA X es t):PE X (.Tuple es x1 pos) (tTup t):=by
 intro pins s σ H Q I hq
 refine wpAny_Tuple_spliced (thn (h pos pins s σ H _ I hq) fun us s1 ⟨xs,H1,I1,r,z,q⟩=>⟨by rw [←r.length];exact z,?_⟩)
 have hf:H1 s1.heap.objs.size=none:=I1.hok.fresh (Yad _)
 refine⟨.ref s1.heap.objs.size,upd H1 s1.heap.objs.size (.tup xs),I1.laid (t':=s1.toks) (fun b u e=>Yae _ e) (Yad _) ?_,rfl,q _ hf⟩
 exact⟨z,us,r,⟨_,Yaz _ rfl,rfl,_,rfl⟩⟩
theorem ZmL (h:PA X es t):PE X (.List es pos) (tLst t):=by
 intro pins s σ H Q I hq
 refine wpAny_List_spliced (thn (h pos pins s σ H _ I hq) fun us s1 ⟨xs,H1,I1,r,z,q⟩=>⟨by rw [←r.length];exact z,?_⟩)
 have hf:H1 s1.heap.objs.size=none:=I1.hok.fresh (Yad _)
 refine⟨.ref s1.heap.objs.size,upd H1 s1.heap.objs.size (.lst xs),I1.laid (t':=s1.toks) (fun b u e=>Yae _ e) (Yad _) ?_,rfl,q _ hf⟩
 exact⟨z,us,0,r,Yaz _ rfl⟩
end
noncomputable abbrev Sp:=List V→Hp→VK→XK→Prop
noncomputable abbrev CXT:=List Env→Hp→Shared→XK→Value→Shared→Prop
structure Env0 (P:Program) (w:World) (K:Yab) (mg:Str→Option Value) (base:Heap) (A:Around) (outer:List Env) (s:Shared) (H:Hp):Prop where
 frames:A.frames=some outer
 mod:Mod K mg base
 bs:∀b o,base.get? b=some o→s.heap.get? b=some o∧H b=none
 bsz:base.objs.size≤s.heap.objs.size
 funs:s.heap.FunFrames base outer
 frf:∀b∈frs outer,H b=none
 hok:HOk P w H s.heap
 bare:AllBare s.gens
noncomputable def CE (outer:List Env) (P:Program) (w:World) (H:Hp) (s:Shared) (Q:VK) (u:Value) (s':Shared):Prop:=
 ∃v H',s'.os=s.os∧AllBare s'.gens∧Un (frs outer) [] H H' s.heap s'.heap∧HOk P w H' s'.heap∧RelV v u∧Q v H'
noncomputable def CR (CX:CXT) (outer:List Env) (P:Program) (w:World) (H:Hp) (s:Shared) (Q:VK) (E:XK) (r:Result) (s':Shared):Prop:=
 match r with
 | .ok (.ret u)=>CE outer P w H s Q u s'
 | .ok _=>False
 | .error e=>CX outer H s E e s'
structure FnOk (P:Program) (w:World) (K:Yab) (mg:Str→Option Value) (base:Heap) (CX:CXT) (k:Nat) (f:Addr) (fd:FuncData) (ps:List Str) (sp:Sp):Prop where
 len:∀vs H Q E,sp vs H Q E→vs.length=ps.length
 run:∀(A:Around) (outer:List Env) (s:Shared) (H:Hp) (args:Args) (us:List Value) (vs:List V) (Q:VK) (E:XK),Room k A→Env0 P w K mg base A outer s H→BindsTo s fd args (ps.zip us)→Vals vs us→sp vs H Q E→
  codeAny (model P w) A (.call (.ref f) args) (CR CX outer P w H s Q E) s
section
variable {X:Cx} {pins:List (Addr×Obj)} {σ:St} {H:Hp} {s s':Shared}
theorem Inv.env0 (I:Inv X pins σ H s):Env0 X.prog X.w X.K X.mg X.base X.A X.stack s H:=
 ⟨I.ok.frames,I.ok.mod,I.bs,YaC I.ok.bsz I.sz,I.stack,I.stkFree,I.hok,I.bare⟩
theorem Inv.after {Q:VK} {u:Value} (I:Inv X pins σ H s) (h:CE X.stack X.prog X.w H s Q u s'):EP X pins σ Q u s':=by
 obtain⟨v,H',os,bare,un,hok,r,q⟩:=h
 obtain⟨hh,g,d,t,os'⟩:=s'
 obtain rfl:os'=s.os:=os
 exact⟨v,H',I.call (h':=hh) (g':=g) (d':=d) (t':=t) (ch:=[]) un hok bare (fun b z=>absurd z (by simp)),r,q⟩
end
noncomputable def tCall (sp:Sp) (dvs:List V) (E:XK) (t:TA):TE:=fun σ H Q=>t σ H fun vs H1=>sp (vs++dvs) H1 Q E
noncomputable def Binds (K:Yab) (fd:FuncData) (ps:List Str) (ds:List Value):Prop:=
 ∀(s:Shared) (us:List Value),K.In s.heap→(us++ds).length=ps.length→BindsTo s fd ⟨us,[]⟩ (ps.zip (us++ds))
theorem Binds.all {K:Yab} {fd:FuncData} {ps:List Str} (h:∀us:List Value,us.length=ps.length→bindArgs fd ⟨us,[]⟩=pure (ps.zip us)):Binds K fd ps []:=fun s us _ hl=>by
 rw [Ybo] at hl⊢
 exact .of_eq (h us hl)
noncomputable def ZgP (CX:CXT) (X:Cx) (E:XK):Prop:=∀(pins:List (Addr×Obj)) (σ:St) (H:Hp) (s:Shared) (e:Value) (s':Shared),Inv X pins σ H s→CX X.stack H s E e s'→X.xe e s'
section
variable {X:Cx} {CX:CXT} {k:Nat} {f C:Addr} {fd:FuncData} {ps:List Str} {sp:Sp} {dvs:List V} {ds:List Value} {E:XK} {x m:Str} {p pos apos:Pos} {e o:Expr} {es:List Expr} {ta:TE} {t:TA}
theorem ZjM {pins:List (Addr×Obj)} {σ:St} {H:Hp} {s:Shared} {Q:VK} {us:List Value} {vs:List V} (F:FnOk X.prog X.w X.K X.mg X.base CX k f fd ps sp) (hr:Room k X.A) (hb:Binds X.K fd ps ds) (hd:Vals dvs ds) (hx:ZgP CX X E)
  (I:Inv X pins σ H s) (r:Vals vs us) (h:sp (vs++dvs) H Q E):wpAny (model X.prog X.w) X.A (call (.ref f) us) (EP X pins σ Q) X.xe s:=by
 have r2:Vals (vs++dvs) (us++ds):=r.append hd
 have hl:(us++ds).length=ps.length:=by rw [←r2.length];exact F.len _ _ _ _ h
 refine wpAny_call (codeAny_mono (F.run X.A X.stack s H ⟨us,[]⟩ (us++ds) (vs++dvs) Q E hr I.env0 (hb s us I.kIn hl) r2 h) fun r s' hq=>?_)
 cases r with
 |error e=>exact hx pins σ H s e s' I hq
 |ok fl=>
  cases fl with
  |ret u=>exact I.after hq
  |next=>exact False.elim hq
  |brk=>exact False.elim hq
  |cont=>exact False.elim hq
theorem ZkV (F:FnOk X.prog X.w X.K X.mg X.base CX k f fd ps sp) (hr:Room k X.A) (hg:Gl X x) (hm:X.mg x=some (.ref f)) (hk:Ya6 X.K (.ref f)=true) (hb:Binds X.K fd ps ds) (hd:Vals dvs ds) (hx:ZgP CX X E)
  (ha:PA X (e::es) t) (hdb:(x==("__debug__" :Str))=false:=by decide) (he:starEach (e::es) X.env=(false,eval e X.env)::starEach es X.env:=by rfl) (hpl:(backTo pos (starEach es X.env)).any (·.1)=false:=by rfl):
  PE X (.Call (.Name x p) (e::es) [] pos) (tCall sp dvs E t):=by
 intro pins s σ H Q I h
 refine wpAny_Call_Name_kw (ZfS I hg hm ?_ hdb)
 refine PySem.W.callWith_K (h₀:=X.base) I.ok.mod.kin hk (thn (ha pos pins s σ H _ I h) fun us s1 ⟨vs,H1,I1,r,q⟩=>⟨I1.kIn,?_⟩) he hpl
 exact ZjM F hr hb hd hx I1 r q
theorem Zi6 (F:FnOk X.prog X.w X.K X.mg X.base CX k f fd ps sp) (hr:Room k X.A) (hg:Gl X x) (hm:X.mg x=some (.ref f)) (hk:Ya6 X.K (.ref f)=true) (hb:Binds X.K fd ps ds) (hd:Vals dvs ds) (hx:ZgP CX X E)
  (hdb:(x==("__debug__" :Str))=false:=by decide):PE X (.Call (.Name x p) [] [] pos) (tCall sp dvs E tNil):=by
 intro pins s σ H Q I h
 refine wpAny_Call_Name_kw (ZfS I hg hm ?_ hdb)
 exact PySem.W.callWith_K0 I.kIn hk (ZjM (us:=[]) F hr hb hd hx I .nil h)
structure Mk (K:Yab) (C f:Addr):Prop where
 makes:PySem.W.makesIn K C=true
 init:Ybd K (.ref C) "__init__" =some (some (.ref f))
 fn:PySem.W.isFn K (.ref f)=true
 kp:Ya6 K (.ref C)=true
end
section
variable {X:Cx} {CX:CXT} {k:Nat} {f C:Addr} {fd:FuncData} {ps ks:List Str} {sp:Sp} {E:XK} {x m:Str} {p pos apos kpos:Pos} {e o:Expr} {es:List Expr} {kws:List Keyword} {te ta:TE} {t tk:TA} {nm:Option Str}
structure KBinds (K:Yab) (fd:FuncData) (ps ks:List Str) (g:List Value→List Value→List Value) (gV:List V→List V→List V):Prop where
 to:∀(s:Shared) (us ws:List Value),K.In s.heap→(g us ws).length=ps.length→BindsTo s fd ⟨us,ks.zip ws⟩ (ps.zip (g us ws))
 rel:∀{vs:List V} {us:List Value} {zs:List V} {ws:List Value},Vals vs us→Vals zs ws→Vals (gV vs zs) (g us ws)
variable {g:List Value→List Value→List Value} {gV:List V→List V→List V}
end
structure FnScope (N P:List Str) (sc:Scope):Prop where
 kind:sc.kind=.function
 co:sc.isCoroutine=false
 gen:sc.isGenerator=false
 nd:N.Nodup
 pre:N.take P.length=P
 par:∀x∈P,sc.names.lookup x=some .local∨sc.names.lookup x=some .cell
 nofree:∀y∈sc.names,y.2≠.free
theorem ZfA {kindOf:Str→Option NameKind} {x:Str}:∀{binds:List (Str×Value)} {m:Str→Option Value},(∀v,(x,v)∉binds)→bindL kindOf binds m x=m x
 | [],_,_=>rfl
 |(n,v)::r,m,h=>by
  unfold bindL
  rw [ZfA fun w hw=>h w (Yas _ hw)]
  split
  ·have:x≠n:=by rintro rfl;exact h v Yaw
   simp [this]
  ·rfl
theorem ZfC {kindOf:Str→Option NameKind} {x:Str}:∀{binds:List (Str×Value)} {m:Str→Option Value},(∀v,(x,v)∉binds)→bindC kindOf binds m x=m x
 | [],_,_=>rfl
 |(n,v)::r,m,h=>by
  unfold bindC
  rw [ZfC fun w hw=>h w (Yas _ hw)]
  split
  ·rfl
  ·have:x≠n:=by rintro rfl;exact h v Yaw
   simp [this]
theorem ZfB {kindOf:Str→Option NameKind} {x:Str} {v:Value}:∀{P:List Str} {vs:List Value} {i:Nat} {m:Str→Option Value},P.Nodup→P[i]?=some x→vs[i]?=some v→kindOf x=some .local→
  bindL kindOf (P.zip vs) m x=some v
 | [],_,_,_,_,h,_,_=>by simp at h
 |_::_,[],_,_,_,_,h,_=>by simp at h
 |p::P,w::vs,0,m,nd,h1,h2,hk=>by
  simp at h1 h2;subst h1;subst h2
  show bindL kindOf ((p,w)::P.zip vs) m p=_
  unfold bindL
  rw [ZfA fun v hv=>(Ya3.mp nd).1 (List.of_mem_zip hv).1,if_pos hk]
  simp
 |p::P,w::vs,i+1,m,nd,h1,h2,hk=>by
  show bindL kindOf ((p,w)::P.zip vs) m x=_
  unfold bindL
  exact ZfB (i:=i) (Ya3.mp nd).2 (by simpa using h1) (by simpa using h2) hk
theorem ZfD {kindOf:Str→Option NameKind} {x:Str} {v:Value}:∀{P:List Str} {vs:List Value} {i:Nat} {m:Str→Option Value},P.Nodup→P[i]?=some x→vs[i]?=some v→kindOf x≠some .local→
  bindC kindOf (P.zip vs) m x=some v
 | [],_,_,_,_,h,_,_=>by simp at h
 |_::_,[],_,_,_,_,h,_=>by simp at h
 |p::P,w::vs,0,m,nd,h1,h2,hk=>by
  simp at h1 h2;subst h1;subst h2
  show bindC kindOf ((p,w)::P.zip vs) m p=_
  unfold bindC
  rw [ZfC fun v hv=>(Ya3.mp nd).1 (List.of_mem_zip hv).1,if_neg hk]
  simp
 |p::P,w::vs,i+1,m,nd,h1,h2,hk=>by
  show bindC kindOf ((p,w)::P.zip vs) m x=_
  unfold bindC
  exact ZfD (i:=i) (Ya3.mp nd).2 (by simpa using h1) (by simpa using h2) hk
noncomputable def start (N:List Str) (vs:List V):St:=vs.map some++Yaq (N.length-vs.length) none
noncomputable def cxOf (CX:CXT) (P:Program) (w:World) (K:Yab) (mg:Str→Option Value) (base:Heap) (N:List Str) (qual:Str) (scope:Scope) (f:Addr) (cd:Value) (A:Around) (outer:List Env) (s:Shared) (H:Hp) (E:XK):Cx where
 prog:=P
 w:=w
 K:=K
 mg:=mg
 base:=base
 A:=A.deeper (envOfC qual scope s.heap.objs.size f cd)
 N:=N
 s₀:=s
 H₀:=H
 env:=envOfC qual scope s.heap.objs.size f cd
 outer:=outer
 stack:=envOfC qual scope s.heap.objs.size f cd::outer
 ex:=[]
 calm:=true
 fn:=fun _=>true
 pn:=[]
 xe:=fun e s'=>wpAny (model P w) (A.deeper (envOfC qual scope s.heap.objs.size f cd)) (leaving (envOfC qual scope s.heap.objs.size f cd) e) (fun _ s''=>CX outer H s E e s'') (fun e' s''=>CX outer H s E e' s'') s'
theorem ZgL {sc:Scope} {n:Nat} {x:Str} (h:sc.names.lookup x=some .cell):∃c,(cellsFrom n sc.names []).lookup x=some c:=by
 have q:=PySem.W.cellsFrom_some sc.names n [] (.inl h)
 exact Ybm.mp q
theorem Zh4 {CX:CXT} {P:Program} {w:World} {K:Yab} {mg:Str→Option Value} {base:Heap} {N ps:List Str} {qual:Str} {scope:Scope} {f:Addr} {cd:Value} {A:Around} {outer:List Env} {s s1:Shared} {H:Hp} {E:XK} {us:List Value} {vs:List V}
  (S:FnScope N ps scope) (hd:A.handled=none) (e0:Env0 P w K mg base A outer s H) (hl:vs.length=ps.length) (r:Vals vs us)
  (x:InCallC s s.heap.objs.size (bindL (envOfC qual scope s.heap.objs.size f cd).kindOf (ps.zip us) fun _=>none) (cellsFrom (s.heap.objs.size+1) scope.names []) (bindC (envOfC qual scope s.heap.objs.size f cd).kindOf (ps.zip us) fun _=>none) s1):
  Inv (cxOf CX P w K mg base N qual scope f cd A outer s H E) [] (start N vs) H s1:=by
 have hpl:ps.length≤N.length:=by have:=congrArg List.length S.pre;rw [Ybe] at this;omega
 obtain⟨h1,tk,rfl,hk⟩:=x.done
 have noA:∀b:Addr,b∉(cxOf CX P w K mg base N qual scope f cd A outer s H E).ex:=fun b z=>absurd (show b∈([]:List Addr) from z) (by simp)
 refine⟨⟨e0.mod,S.kind,rfl,rfl,Yad _,fun y z c h1 h2=>?_,fun y hy=>?_,fun y c _ h=>?_,fun _=>hd,Around.frames_deeper e0.frames,.inr ⟨rfl,rfl⟩,fun b z=>absurd z (noA b),e0.bs,e0.bsz,fun b _ _=>noA b,fun b z=>absurd z (noA b),e0.funs,e0.frf⟩,
  rfl,e0.bare,Un.kept hk,⟨_,x.toInCall.ns,fun i y v h1 h2 h3=>?_⟩,fun y c h=>⟨_,x.cell y c h⟩,e0.hok.fresh (Yad _),fun y c h=>?_,fun p hp=>absurd (show p∈([]:List (Addr×Obj)) from hp) (by simp),e0.hok.kept hk,?_⟩
 ·exact name_of_addr x.apart (PySem.mem_of_lookup h1) (PySem.mem_of_lookup h2)
 ·have hy:scope.names.lookup y=some .cell∨scope.names.lookup y=some .free:=hy
  rcases hy with hy|hy
  ·exact ZgL hy
  ·exact absurd rfl (S.nofree _ (PySem.mem_of_lookup hy))
 ·exact YbE (x.above y c (PySem.mem_of_lookup h))
 ·have hi:i<vs.length:=by
   unfold start at h2
   by_cases hi:i<vs.length
   ·exact hi
   ·rw [Yav (by simpa using hi)] at h2
    rw [List.getElem?_replicate] at h2
    split at h2<;>cases h2
  have ha:vs[i]?=some v:=by
   unfold start at h2
   rw [Yar (by simpa using hi),Yam] at h2
   cases e:vs[i]? with
   |none=>rw [e] at h2;cases h2
   |some a=>rw [e] at h2;cases h2;rfl
  obtain⟨u,hu,rv⟩:=r.get ha
  have hp:ps[i]?=some y:=by
   rw [←S.pre,List.getElem?_take_of_lt (by omega)];exact h1
  have ndP:ps.Nodup:=by rw [←S.pre];exact S.nd.sublist (List.take_sublist _ _)
  refine⟨u,rv,?_⟩
  rcases S.par y (Yay hp) with k|k
  ·exact .inl ⟨k,ZfB ndP hp hu k⟩
  ·obtain⟨c,e⟩:=ZgL (n:=s.heap.objs.size+1) k
   refine .inr ⟨.inl k,c,e,?_⟩
   have q:=x.cell y c e
   rw [ZfD ndP hp hu (by show scope.names.lookup y≠_;rw [k];decide)] at q
   exact q
 ·exact e0.hok.fresh (YbE (x.above y c (PySem.mem_of_lookup h)))
 ·unfold start
  show _=N.length
  rw [YaQ,Yak,List.length_replicate]
  omega
theorem fn_of {CX:CXT} {P:Program} {w:World} {K:Yab} {mg:Str→Option Value} {base:Heap} {k:Nat} {f:Addr} {name qual:Str} {params:Arguments} {body:List Stmt} {scope:Scope} {dV kV doc pm cdv ct oc:Value} {an od:Option Addr}
  {osl:Array (Option Value)} {N ps:List Str} {sp:Sp} (lk:K.lookup f=some ⟨oc,od,.func (Yb4 name qual params body scope dV kV doc pm an cdv ct),osl⟩) (hcd:YbW K cdv qual=true) (S:FnScope N ps scope)
  (len:∀vs H Q E,sp vs H Q E→vs.length=ps.length)
  (hbody:∀(A:Around) (outer:List Env) (s:Shared) (H:Hp) (vs:List V) (Q:VK) (E:XK),Room k (A.deeper (envOfC qual scope s.heap.objs.size f cdv))→sp vs H Q E→
   ∃t,PSs (cxOf CX P w K mg base N qual scope f cdv A outer s H E) body t∧t {nx:=fun _ H'=>Q .non H',rt:=Q} (start N vs) H):
  FnOk P w K mg base CX (k+1) f (Yb4 name qual params body scope dV kV doc pm an cdv ct) ps sp:=by
 refine⟨len,fun A outer s H args us vs Q E hr e0 hb r hsp=>?_⟩
 have hl:=len _ _ _ _ hsp
 have KX:K.In s.heap:=e0.mod.kin.keeps fun b o e=>(e0.bs b o e).1
 have lim:s.heap.NoLimit:=e0.mod.nolimit.keeps fun b o e=>(e0.bs b o e).1
 have hkind:∀y∈ps.zip us,scope.names.lookup y.1=some .local∨(scope.names.lookup y.1=some .cell∧((cellsFrom (s.heap.objs.size+1) scope.names []).lookup y.1).isSome=true):=fun⟨n,v⟩ hy=>by
  rcases S.par n (List.of_mem_zip hy).1 with q|q
  ·exact .inl q
  ·exact .inr ⟨q,PySem.W.cellsFrom_some _ _ _ (.inl q)⟩
 refine codeAny_call_function hr.depth (KX _ _ lk) rfl S.co S.gen rfl (PySem.W.codeRec_of KX hcd) (hb _ _ _ _ ?_)
 refine wpAny_newFunctionEnv_cells S.kind hkind fun env he s1 x=>?_
 subst he
 refine⟨lim.keeps x.toInCall.keep,codeAny_func ?_⟩
 obtain⟨t,ht,hq⟩:=hbody A outer s H vs Q E (hr.deeper _) hsp
 have I:Inv (cxOf CX P w K mg base N qual scope f cdv A outer s H E) [] (start N vs) H s1:=Zh4 S hr.hd e0 hl r x
 refine wpAny_mono (ht [] s1 (start N vs) H _ I hq) (fun fl s' hs=>?_) fun e s' hs=>hs
 have fin:∀{σ':St} {H':Hp} {v:V} {u:Value},Inv (cxOf CX P w K mg base N qual scope f cdv A outer s H E) [] σ' H' s'→RelV v u→Q v H'→CE outer P w H s Q u s':=
  fun {σ' H' v u} J rv q=>⟨v,H',J.os,J.bare,J.base,J.hok,rv,q⟩
 cases fl with
 |ret u=>
  obtain⟨v,σ',H',J,rv,q⟩:=hs
  exact fin J rv q
 |next=>
  obtain⟨σ',H',J,q⟩:=hs
  exact fin (v:=V.non) (u:=Value.none) J rfl q
 |brk=>
  obtain⟨_,_,_,q⟩:=hs
  exact False.elim q
 |cont=>
  obtain⟨_,_,_,q⟩:=hs
  exact False.elim q
end L2
namespace L2
open PySem PySem.Spec PyProof.Rows
section
variable {X:Cx} {x:Str} {p pos:Pos} {e:Expr} {es:List Expr} {t:TA} {id T:String} {r:List V→Hp→VK→Prop}
noncomputable def tCB (r:List V→Hp→VK→Prop) (t:TA):TE:=fun σ H Q=>t σ H fun vs H1=>r vs H1 Q
theorem Zi5 (hc:CallR X (.builtin id) r) (hg:Gl X x) (hm:X.mg x=none) (hv:bootBuiltins x=some (.builtin id)) (ha:PA X (e::es) t) (hn:x≠ "__name__" :=by decide) (hdb:(x==("__debug__" :Str))=false:=by decide)
  (he:starEach (e::es) X.env=(false,eval e X.env)::starEach es X.env:=by rfl) (hpl:(backTo pos (starEach es X.env)).any (·.1)=false:=by rfl):PE X (.Call (.Name x p) (e::es) [] pos) (tCB r t):=by
 intro pins s σ H Q I h
 refine wpAny_Call_Name_kw (Zcp I hg hm hv ?_ hn hdb)
 exact PyProof.Rows.callWith_builtin1 (thn (ha pos pins s σ H _ I h) fun us s1 ⟨vs,H1,I1,r1,q1⟩=>hc pins s1 σ H1 vs us Q I1 r1 q1) he hpl
theorem ZhI (hc:CallR X (.type T) r) (hg:Gl X x) (hm:X.mg x=none) (hv:bootBuiltins x=some (.type T)) (ha:PA X (e::es) t) (hn:x≠ "__name__" :=by decide) (hdb:(x==("__debug__" :Str))=false:=by decide)
  (he:starEach (e::es) X.env=(false,eval e X.env)::starEach es X.env:=by rfl) (hpl:(backTo pos (starEach es X.env)).any (·.1)=false:=by rfl):PE X (.Call (.Name x p) (e::es) [] pos) (tCB r t):=by
 intro pins s σ H Q I h
 refine wpAny_Call_Name_kw (Zcp I hg hm hv ?_ hn hdb)
 exact YaS (thn (ha pos pins s σ H _ I h) fun us s1 ⟨vs,H1,I1,r1,q1⟩=>hc pins s1 σ H1 vs us Q I1 r1 q1) he hpl
end
end L2
namespace HT
open PySem PyProof.Rows
section
open PySem.SeqAt
open PySem.AutoSeq1 (wpAny_loadPart')
open PySem.MeetsSeq PySem.MeetsSeq2 PySem.MeetsSeq3
end
section
variable {prog:Program} {w:World} {A:Around} {E:Value→Shared→Prop} {s:Shared}
theorem ZlX {t b:Addr} {vs ws:List Value} {Q:Value→Shared→Prop} (ht:IsTup s.heap t vs.toArray) (hb:IsTup s.heap b ws.toArray) (hv:vs≠[])
  (h1:ws=[]→Q (.ref t) s) (h2:ws≠[]→Q (.ref s.heap.objs.size) {s with heap:=s.heap.push {cls:=.type "tuple",data:=.seq (vs++ws).toArray}})
  (hsz:vs.length+ws.length≤sizeLine):wpAny (model prog w) A (binaryOp .Add (.ref t) (.ref b)) Q E s:=by
 obtain⟨⟨cls,dd,data,sl⟩,ho,hc,n,hd⟩:=id ht
 obtain⟨⟨cls2,dd2,data2,sl2⟩,ho2,hc2,n2,hd2⟩:=id hb
 simp only at hc hd hc2 hd2
 subst hc hd hc2 hd2
 have e:vs.toArray++ws.toArray=(vs++ws).toArray:=by simp
 by_cases hw:ws=[]
 ·exact concat_meets ⟨_,ho,rfl⟩ ⟨_,ho2,rfl⟩ noFill_tuple_add seq_tuple_add PySem.F.slot_tuple_add PySem.F.entry_tuple_add (PySem.F.args_tuple_add_2 _ _)
   (tuple_addW1 t b vs.toArray ws.toArray n n2 dd dd2 sl sl2 (by simpa using hv) (by simp [hw])) ⟨ho,ho2,h1 hw⟩
 ·refine concat_meets ⟨_,ho,rfl⟩ ⟨_,ho2,rfl⟩ noFill_tuple_add seq_tuple_add PySem.F.slot_tuple_add PySem.F.entry_tuple_add (PySem.F.args_tuple_add_2 _ _)
   (tuple_addW2 t b vs.toArray ws.toArray n n2 dd dd2 sl sl2 (by simpa using hv) (by simpa using hw) (by rw [Yag,Yag];exact hsz)) ⟨ho,ho2,?_⟩
  rw [e]
  exact h2 hw
noncomputable def sIx (n d:Nat):Option Int→Nat
 |none=>d
 |some v=>if v<0 then (v+(n:Int)).toNat else min v.toNat n
theorem Zgj (n d:Nat):sIx n d none=d:=rfl
theorem Zkx (n d k:Nat):sIx n d (some (k:Int))=min k n:=by
 show (if (k:Int)<0 then ((k:Int)+(n:Int)).toNat else min (k:Int).toNat n)=min k n
 rw [if_neg (by omega),YaY]
theorem Zmp (n d:Nat) (hd:d≤n) (o:Option Int):sIx n d o≤n:=by
 cases o with
 |none=>exact hd
 |some v=>
  show (if v<0 then (v+(n:Int)).toNat else min v.toNat n)≤n
  by_cases hv:v<0
  ·rw [if_pos hv];omega
  ·rw [if_neg hv];exact Nat.min_le_right _ _
theorem Zio (v:Int) (n d:Nat):(if v<0 then max (v+(n:Int)) 0 else min v (n:Int))=((sIx n d (some v):Nat):Int):=by
 show (if v<0 then max (v+(n:Int)) 0 else min v (n:Int))=(((if v<0 then (v+(n:Int)).toNat else min v.toNat n):Nat):Int)
 by_cases hv:v<0
 ·simp only [if_pos hv];omega
 ·simp only [if_neg hv];omega
theorem Zg9 (lo hi:Option Int) (n:Nat):Builtin.Slice.sliceAdjust lo hi 1 (n:Int)=(((sIx n 0 lo:Nat):Int),((sIx n n hi:Nat):Int)):=by
 have h1:¬((1:Int)<0):=by omega
 unfold Builtin.Slice.sliceAdjust
 simp only [h1,if_false]
 refine Prod.ext ?_ ?_
 ·cases lo with
  |none=>rfl
  |some v=>exact Zio v n 0
 ·cases hi with
  |none=>rfl
  |some v=>exact Zio v n n
theorem ZgV (i j:Nat):Builtin.Slice.slicePlaces (i:Int) (j:Int) 1=j-i:=by
 unfold Builtin.Slice.slicePlaces
 have h1:(1:Int)>0:=by omega
 simp only [h1,if_true,Int.ediv_one]
 split<;>omega
theorem Zd6 {v:Value} {o:Option Int} {Q:Option Int→Shared→Prop} (p:IsPart v o) (h:Q o s):wpAny (model prog w) A (Builtin.Slice.slicePartIndex v) Q E s:=by
 cases p with
 |none=>exact slicePart_none h
 |int i t=>exact slicePart_int h
theorem ZbG {sl:Addr} {vl vu:Value} {lo hi:Option Int} {n:Nat} {Q:Int×Int×Nat→Shared→Prop} (hs:s.heap.IsSliceOf sl vl vu .none) (pl:IsPart vl lo) (pu:IsPart vu hi)
  (h:Q (((sIx n 0 lo:Nat):Int),1,sIx n n hi-sIx n 0 lo) s):wpAny (model prog w) A (Builtin.Slice.sliceApplied (.ref sl) (pure (n:Int))) Q E s:=by
 obtain⟨os,hos,hcs,hds⟩:=id hs
 unfold Builtin.Slice.sliceApplied Builtin.Slice.sliceFields
 refine wpAny_bind (wpAny_bind (wpAny_field hos hds (x:=vl) rfl (wpAny_bind (wpAny_field hos hds (x:=vu) rfl (wpAny_bind (wpAny_field hos hds (x:=.none) rfl (wpAny_pure ?_)))))))
 refine wpAny_bind (slicePart_none ?_)
 show wpAny _ _ (if ((1:Int)==0)=true then _ else _) _ _ s
 rw [if_neg (by decide)]
 refine wpAny_bind (Zd6 pl (wpAny_bind (Zd6 pu (wpAny_bind (wpAny_pure ?_)))))
 show wpAny _ _ (match Builtin.Slice.sliceAdjust lo hi 1 (n:Int) with|(lo,hi)=>pure (lo,(1:Int),Builtin.Slice.slicePlaces lo hi 1)) _ _ s
 rw [Zg9 lo hi n]
 show wpAny _ _ (pure (((sIx n 0 lo:Nat):Int),(1:Int),Builtin.Slice.slicePlaces ((sIx n 0 lo:Nat):Int) ((sIx n n hi:Nat):Int) 1)) _ _ s
 rw [ZgV]
 exact wpAny_pure h
theorem ZiY (xs:Array Value) (i k:Nat):((Yau k).filterMap fun(m:Nat)=>xs[((i:Int)+(m:Int)*1).toNat]?).toArray=((xs.toList.drop i).take k).toArray:=by
 have e:(fun(m:Nat)=>xs[((i:Int)+(m:Int)*1).toNat]?)=fun m=>xs[i+m]?:=by
  funext m
  have:((i:Int)+(m:Int)*1).toNat=i+m:=by omega
  rw [this]
 rw [e]
 have:=pick_run xs i k
 rw [List.filterMap_map] at this
 have e2:((fun x=>xs[x]?)∘fun x=>i+x)=fun m=>xs[i+m]?:=rfl
 rw [e2] at this
 rw [this]
theorem ZcO {t sl:Addr} {items:Array Value} {vl vu:Value} {lo hi:Option Int} {Q:Value→Shared→Prop} (ht:IsTup s.heap t items) (hs:s.heap.IsSliceOf sl vl vu .none) (pl:IsPart vl lo) (pu:IsPart vu hi)
  (hw:¬(sIx items.size 0 lo=0∧sIx items.size items.size hi=items.size))
  (h:Q (.ref s.heap.objs.size) {s with heap:=s.heap.push {cls:=.type "tuple",data:=.seq ((items.toList.drop (sIx items.size 0 lo)).take (sIx items.size items.size hi-sIx items.size 0 lo)).toArray}})
  (hsz:items.size≤sizeLine):wpAny (model prog w) A (getItem (.ref t) (.ref sl)) Q E s:=by
 have htake:sizeOk (.seq ((items.toList.drop (sIx items.size 0 lo)).take (sIx items.size items.size hi-sIx items.size 0 lo)).toArray):=by
  show ((items.toList.drop (sIx items.size 0 lo)).take (sIx items.size items.size hi-sIx items.size 0 lo)).toArray.size≤sizeLine
  rw [Yag,Ybe,YbM,Ybc]
  omega
 have hj:sIx items.size items.size hi≤items.size:=Zmp _ _ (Yad _) hi
 obtain⟨os,hos,hcs,hds⟩:=id hs
 have hTs:s.TypeIs (.ref sl) "slice" :=⟨os,hos,hcs⟩
 unfold getItem
 try with_reducible refine wpAny_holding ?_
 first|refine wpAny_bind (wpAny_pure ?_)|skip
 refine wpAny_bind (wpAny_sequenceKey ht.typeIs (by decide) ?_)
 refine wpAny_bind (wpAny_callSpecial?_slot (name:=Str.ofString "__getitem__") ht.typeIs YaE
  (wpAny_call_entry YaE ht.typeIs entry_tuple_getitem ?_ (args_tuple_getitem _ _)))
 show wpAny _ _ (Builtin.Tuple.tupleItemsOf (.ref t)>>=_) _ _ s
 refine wpAny_bind (tupleItemsOf_ ht ?_)
 refine wpAny_bind (wpAny_typeOf hTs ?_)
 rw [if_pos (by decide)]
 refine wpAny_bind (ZbG hs pl pu ?_)
 have hno:¬((((sIx items.size 0 lo:Nat):Int)==0&&(1:Int)==1&&(sIx items.size items.size hi-sIx items.size 0 lo)==items.size)=true):=by
  intro q
  rw [Yan,Yan] at q
  have q1:((sIx items.size 0 lo:Nat):Int)=0:=eq_of_beq q.1.1
  have q2:sIx items.size items.size hi-sIx items.size 0 lo=items.size:=eq_of_beq q.2
  exact hw ⟨by omega,by omega⟩
 show wpAny _ _ (if (((sIx items.size 0 lo:Nat):Int)==0&&(1:Int)==1&&(sIx items.size items.size hi-sIx items.size 0 lo)==items.size)=true then _ else _) _ _ s
 rw [if_neg hno,ZiY]
 first
  |exact wpAny_bind (m:=Builtin.Tuple.tupleExact _) (wpAny_newObj_type (wpAny_pure ⟨_,rfl,wpAny_pure h⟩) htake)
  |exact wpAny_bind (m:=Builtin.Tuple.tupleExact _) (wpAny_newObj_type (wpAny_bind (wpAny_pure (wpAny_pure ⟨_,rfl,wpAny_pure h⟩))) htake)
  |exact wpAny_bind (wpAny_bind (m:=Builtin.Tuple.tupleExact _) (wpAny_newObj_type (wpAny_pure (wpAny_pure ⟨_,rfl,wpAny_pure h⟩)) htake))
  |exact wpAny_bind (wpAny_bind (m:=Builtin.Tuple.tupleExact _) (wpAny_newObj_type (wpAny_pure ⟨_,rfl,wpAny_pure h⟩) htake))
end
end HT
namespace L2
open PySem PySem.Spec PyProof.Rows
noncomputable abbrev TO:=St→Hp→(Option Int→Hp→Prop)→Prop
noncomputable def PO (X:Cx) (e:Option Expr) (t:TO):Prop:=
 ∀(pins:List (Addr×Obj)) (s:Shared) (σ:St) (H:Hp) (Q:Option Int→Hp→Prop),Inv X pins σ H s→t σ H Q→
  wpAny (model X.prog X.w) X.A (evalPart e X.env) (fun u s'=>∃o H',Inv X pins σ H' s'∧IsPart u o∧Q o H') X.xe s
noncomputable def Zkm:TO:=fun _ H Q=>Q none H
noncomputable def tPart (t:TE):TO:=fun σ H Q=>t σ H fun x H1=>∃i,x=.int i∧Q (some i) H1
section
variable {X:Cx} {e:Expr} {te:TE} {lo hi:Option Expr} {tl th:TO} {pos p2:Pos}
theorem ZkK:PO X none Zkm:=by
 intro pins s σ H Q I h
 rw [evalPart_none]
 exact wpAny_pure ⟨none,H,I,.none,h⟩
theorem ZkJ (h:PE X e te):PO X (some e) (tPart te):=by
 intro pins s σ H Q I hw
 rw [evalPart_some]
 refine thn (h pins s σ H _ I hw) ?_
 rintro u s1 ⟨x,H1,I1,r1,q1⟩
 obtain⟨i,rfl,q⟩:=q1
 obtain⟨t,rfl⟩:=r1
 exact⟨some i,H1,I1,.int i t,q⟩
noncomputable def SlR (X:Cx) (r:V→Option Int→Option Int→Hp→VK→Prop):Prop:=
 ∀(pins:List (Addr×Obj)) (s:Shared) (σ:St) (H:Hp) (x:V) (v vl vu:Value) (lo hi:Option Int) (sl:Addr) (Q:VK),Inv X pins σ H s→RelV x v→s.heap.IsSliceOf sl vl vu .none→IsPart vl lo→IsPart vu hi→r x lo hi H Q→
  ∃T id,typeLookup (.type T) "__getitem__" =pure (some (.builtin id))∧s.TypeIs v T∧wpAny (model X.prog X.w) X.A (getItem v (.ref sl)) (EP X pins σ Q) X.xe s
noncomputable def tSl (r:V→Option Int→Option Int→Hp→VK→Prop) (te:TE) (tl th:TO):TE:=fun σ H Q=>te σ H fun x H1=>tl σ H1 fun l H2=>th σ H2 fun u H3=>r x l u H3 Q
theorem Zi0 {r:V→Option Int→Option Int→Hp→VK→Prop} (hr:SlR X r) (he:PE X e te) (hl:PO X lo tl) (hu:PO X hi th):PE X (.Subscript e (.Slice lo hi none p2) pos) (tSl r te tl th):=by
 intro pins s σ H Q I h
 refine Subscript_ (thn (he pins s σ H _ I h) ?_)
 rintro v s1 ⟨x,H1,I1,r1,q1⟩
 refine wpAny_Slice (thn (hl pins s1 σ H1 _ I1 q1) fun vl s2 ⟨l,H2,I2,pl,q2⟩=>thn (hu pins s2 σ H2 _ I2 q2) fun vu s3 ⟨u,H3,I3,pu,q3⟩=>?_)
 rw [evalPart_none]
 refine wpAny_pure ?_
 have I4:Inv X pins σ H3 {s3 with heap:=s3.heap.push {cls:=.type "slice",data:=.fields #[vl,vu,.none]}}:=I3.kept (t':=s3.toks) fun b ob q=>Yae _ q
 obtain⟨T,id,hT,ht,hg⟩:=hr pins {s3 with heap:=s3.heap.push {cls:=.type "slice",data:=.fields #[vl,vu,.none]}} σ H3 x v vl vu l u s3.heap.objs.size Q I4 r1 (Heap.IsSliceOf.new ..) pl pu q3
 show wpAny (model X.prog X.w) X.A (subscriptTail e (.Slice lo hi none p2) v (.ref s3.heap.objs.size)) (EP X pins σ Q) X.xe {s3 with heap:=s3.heap.push {cls:=.type "slice",data:=.fields #[vl,vu,.none]}}
 exact tail_any (ops:=[.ref s3.heap.objs.size,v]) ht hT hg (by with_unfolding_all rfl)
noncomputable def cutV (xs:List V) (lo hi:Option Int):List V:=(xs.drop (HT.sIx xs.length 0 lo)).take (HT.sIx xs.length xs.length hi-HT.sIx xs.length 0 lo)
theorem ZdF (xs:List V) (lo hi:Option Int):(cutV xs lo hi).length≤xs.length:=by
 unfold cutV
 rw [Ybe,YbM]
 omega
noncomputable def rSlT (K:Yab):V→Option Int→Option Int→Hp→VK→Prop:=fun x lo hi H Q=>∃a xs,x=.ref a∧SqT K H a xs∧
 ¬(HT.sIx xs.length 0 lo=0∧HT.sIx xs.length xs.length hi=xs.length)∧∀p,H p=none→Q (.ref p) (upd H p (.tup (cutV xs lo hi)))
theorem Zmm:SlR X (rSlT X.K):=by
 intro pins s σ H x v vl vu lo hi sl Q I rx hs pl pu h
 obtain⟨a,xs,rfl,hx,hw,q⟩:=h
 cases rx
 obtain⟨its,r,ht,hz⟩:=I.tuple hx
 have hlen:its.toArray.size=xs.length:=by rw [Yag];exact r.length.symm
 refine⟨"tuple",_,YaE.lookup,ht.typeIs,?_⟩
 refine HT.ZcO ht hs pl pu (by rw [hlen];exact hw) ?_ (by rw [hlen];exact hz)
 rw [hlen]
 refine⟨.ref s.heap.objs.size,_,I.laid (t':=s.toks) (o:=.tup (cutV xs lo hi)) (fun b ob q=>Yae _ q) (Yad _) ?_,rfl,q _ (I.hok.fresh (Yad _))⟩
 exact⟨YaC (ZdF xs lo hi) hz,_,(r.drop (HT.sIx xs.length 0 lo)).take (HT.sIx xs.length xs.length hi-HT.sIx xs.length 0 lo),IsTup.new _ _⟩
end
end L2
namespace L2
open PySem PySem.Spec PyProof.Rows
noncomputable def ixN (n:Nat) (i:Int):Option Nat:=if 0≤i then (if i<n then some i.toNat else none) else if-(n:Int)≤i then some (i+n).toNat else none
noncomputable def atI {α:Type} (xs:List α) (i:Int):Option α:=(ixN xs.length i).bind fun j=>xs[j]?
theorem ZfX {n:Nat} {i:Int} {j:Nat} (h:ixN n i=some j):seqIndex? i n=some j∧j<n∧ -(n:Int)≤i∧i<n:=by
 unfold ixN at h
 by_cases h0:0≤i
 ·rw [if_pos h0] at h
  by_cases h1:i<n
  ·rw [if_pos h1] at h
   have e:i.toNat=j:=Option.some.inj h
   exact⟨by rw [seqIndex_of h0 h1,e],by omega,by omega,h1⟩
  ·rw [if_neg h1] at h;cases h
 ·rw [if_neg h0] at h
  by_cases h1: -(n:Int)≤i
  ·rw [if_pos h1] at h
   have e:(i+n).toNat=j:=Option.some.inj h
   exact⟨by rw [seqIndex_neg (by omega) h1,e],by omega,h1,by omega⟩
  ·rw [if_neg h1] at h;cases h
theorem ZiG {α:Type} {xs:List α} {i:Int} {v:α} (h:atI xs i=some v):∃j,seqIndex? i xs.length=some j∧xs[j]?=some v∧j<xs.length∧ -(xs.length:Int)≤i∧i<xs.length:=by
 unfold atI at h
 cases e:ixN xs.length i with
 |none=>rw [e] at h;cases h
 |some j=>
  rw [e] at h
  obtain⟨h1,h2,h3,h4⟩:=ZfX e
  exact⟨j,h1,h,h2,h3,h4⟩
noncomputable def ZeY (b:Expr):Prop:=∀o i,subscripted b false o i=operate [o,i] (getItem o i)
noncomputable def IxR (X:Cx) (r:R2):Prop:=
 ∀(value slice:Expr) (pins:List (Addr×Obj)) (s:Shared) (σ:St) (H:Hp) (x y:V) (v u:Value) (Q:VK),Inv X pins σ H s→RelV x v→RelV y u→r x y H Q→
  subscripted slice false v u=operate [v,u] (getItem v u)→wpAny (model X.prog X.w) X.A (subscriptTail value slice v u) (EP X pins σ Q) X.xe s
noncomputable def MtR (X:Cx) (id:String) (r:V→List V→Hp→VK→Prop):Prop:=
 ∀(pins:List (Addr×Obj)) (s:Shared) (σ:St) (H:Hp) (x:V) (xs:List V) (v:Value) (us:List Value) (Q:VK),Inv X pins σ H s→RelV x v→Vals xs us→r x xs H Q→
  wpAny (model X.prog X.w) X.A (call (.builtin id) (v::us)) (EP X pins σ Q) X.xe s
section
variable {X:Cx} {a b:Expr} {ta tb:TE} {pos:Pos}
theorem pe_ix {r:R2} (hr:IxR X r) (ha:PE X a ta) (hb:PE X b tb) (hs:ZeY b):PE X (.Subscript a b pos) (tOp r ta tb):=by
 intro pins s σ H Q I h
 exact Subscript_ (binT ha hb I h fun v u s2 x y H2 I2 rx ry q=>hr a b pins s2 σ H2 x y v u Q I2 rx ry q (hs _ _))
noncomputable def rIxL (K:Yab):R2:=fun x y H Q=>∃p xs i v,x=.ref p∧y=.int i∧SqL K H p xs∧atI xs i=some v∧Q v H
noncomputable def rIxT (K:Yab):R2:=fun x y H Q=>∃p xs i v,x=.ref p∧y=.int i∧SqT K H p xs∧atI xs i=some v∧Q v H
theorem ZlF:IxR X (rIxL X.K):=by
 intro value slice pins s σ H x y v u Q I rx ry h hs
 obtain⟨p,xs,i,z,rfl,rfl,hq,he,q⟩:=h
 cases rx
 obtain⟨t,rfl⟩:=ry
 obtain⟨its,r,pl,hz⟩:=I.list hq
 obtain⟨j,h1,h2,h3,h4,h5⟩:=ZiG he
 obtain⟨w,ew,rw'⟩:=r.get h2
 have hl:=r.length
 have hn:=Ze9
 have fin:EP X pins σ Q w s:=⟨z,H,I,rw',q⟩
 by_cases h0:0≤i
 ·have hj:i.toNat=j:=by
   rw [seqIndex_of h0 h5] at h1
   exact Option.some.inj h1
  exact item_listR pl.isList h0 (by omega) (by rw [hj];simpa using ew) fin hs
 ·have hj:(i+(its.toArray.size:Int)).toNat=j:=by
   rw [seqIndex_neg (by omega) h4] at h1
   rw [Yag,←hl]
   exact Option.some.inj h1
  exact subscriptTail_builtinR (x:=w) pl.isList.typeIs slot_list_getitem.lookup
   (wpAny_getItem_list_neg (Q:=fun r s'=>r=w∧EP X pins σ Q r s') pl.isList (by omega) (by rw [Yag]<;>omega) (by omega) (by rw [hj];simpa using ew) ⟨rfl,fin⟩) hs
theorem ZnS:IxR X (rIxT X.K):=by
 intro value slice pins s σ H x y v u Q I rx ry h hs
 obtain⟨p,xs,i,z,rfl,rfl,hq,he,q⟩:=h
 cases rx
 obtain⟨t,rfl⟩:=ry
 obtain⟨its,r,pl,hz⟩:=I.tuple hq
 obtain⟨j,h1,h2,h3,h4,h5⟩:=ZiG he
 obtain⟨w,ew,rw'⟩:=r.get h2
 have hl:=r.length
 have hn:=Ze9
 have fin:EP X pins σ Q w s:=⟨z,H,I,rw',q⟩
 exact subscriptTail_builtinR (x:=w) pl.typeIs slot_tuple_getitem.lookup
  (getItem_tuple (j:=j) (Q:=fun r s'=>r=w∧EP X pins σ Q r s') pl (by omega) (by omega) (by rw [Yag,←hl];exact h1) (by simpa using ew) ⟨rfl,fin⟩) hs
theorem ZgZ (its:List Value) (n j:Nat) (u:Value):Obj.mapSeq (·.setIfInBounds j u) {cls:=.type "list",data:=.seq its.toArray n}={cls:=.type "list",data:=.seq (its.set j u).toArray n}:=by
 simp [Obj.mapSeq]
theorem Inv.lst {pins:List (Addr×Obj)} {σ:St} {H:Hp} {s:Shared} {p:Addr} {xs:List V} (I:Inv X pins σ H s) (h:H p=some (.lst xs)):
  ∃(its:List Value) (n:Nat),Vals xs its∧s.heap.get? p=some {cls:=.type "list",data:=.seq its.toArray n}∧xs.length≤sizeLine:=by
 obtain⟨z,its,n,r,e⟩:=I.hok p _ h
 exact⟨its,n,r,e,z⟩
theorem Inv.lstUpd {pins:List (Addr×Obj)} {σ:St} {H:Hp} {s:Shared} {p:Addr} {xs ys:List V} {its its':List Value} {n n':Nat} {f:Obj→Obj} (I:Inv X pins σ H s) (h:H p=some (.lst xs))
  (ho:s.heap.get? p=some {cls:=.type "list",data:=.seq its.toArray n}) (hf:f {cls:=.type "list",data:=.seq its.toArray n}={cls:=.type "list",data:=.seq its'.toArray n'}) (r:Vals ys its') (hz:ys.length≤sizeLine) (t:Nat):
  Inv X pins σ (upd H p (.lst ys)) {s with heap:=s.heap.update p f,toks:=t}:=by
 have e:(s.heap.update p f).get? p=some {cls:=.type "list",data:=.seq its'.toArray n'}:=by
  rw [Ya7 f ho (by rw [hf]<;>rfl),hf]
 refine I.write (x:=p) (e:=p) (by rw [h];trivial) (.inl rfl) (fun b u hb q=>(YaV _ _ (Ne.symm hb)).trans q) ⟨_,e⟩ ?_
 exact⟨hz,its',n',r,e⟩
noncomputable def rSetL:V→V→V→Hp→(Hp→Prop)→Prop:=fun o i v H Q=>∃p xs k j,o=.ref p∧i=.int k∧H p=some (.lst xs)∧ixN xs.length k=some j∧Q (upd H p (.lst (xs.set j v)))
theorem ZiO:PSet X rSetL:=by
 intro pins s σ H o i v ov iv u Q I ro ri rv h
 obtain⟨p,xs,k,j,rfl,rfl,hp,hj,q⟩:=h
 cases ro
 obtain⟨t,rfl⟩:=ri
 obtain⟨its,n,r,ho,hz⟩:=I.lst hp
 obtain⟨h1,h2,h3,h4⟩:=ZfX hj
 have hl:=r.length
 have hn:=Ze9
 have I':Inv X pins σ (upd H p (.lst (xs.set j v))) {s with heap:=s.heap.update p (Obj.mapSeq (·.setIfInBounds j u))}:=
  I.lstUpd hp ho (ZgZ its n j u) (r.set rv j) (by rw [Ybi];exact hz) s.toks
 by_cases h0:0≤k
 ·have hk:k.toNat=j:=by
   rw [seqIndex_of h0 h4] at h1
   exact Option.some.inj h1
  exact PySem.W.ki_setAt ho h0 (by omega) (by rw [Yag,←hl];exact h4) (by rw [hk];exact⟨_,I',q⟩)
 ·have hk:(k+(its.toArray.size:Int)).toNat=j:=by
   rw [seqIndex_neg (by omega) h3] at h1
   rw [Yag,←hl]
   exact Option.some.inj h1
  exact PySem.W.ki_setBack ho (by omega) (by rw [Yag,←hl];exact h3) (by omega) (by rw [hk];exact⟨_,I',q⟩)
theorem Ze0 (lo hi:Option Int) (n:Nat):(sliceBounds lo hi none n).1=((HT.sIx n 0 lo:Nat):Int)∧(sliceBounds lo hi none n).2.1=((HT.sIx n n hi:Nat):Int)∧(sliceBounds lo hi none n).2.2=1:=by
 refine⟨?_,?_,rfl⟩
 ·cases lo with
  |none=>simp [sliceBounds,HT.sIx]
  |some i=>
   simp only [sliceBounds,HT.sIx,Option.getD_none,show (1:Int)>0 by decide,if_true]
   by_cases h:i<0
   ·simp only [h,if_true]<;>omega
   ·simp only [h,if_false]<;>omega
 ·cases hi with
  |none=>simp [sliceBounds,HT.sIx]
  |some i=>
   simp only [sliceBounds,HT.sIx,Option.getD_none,show (1:Int)>0 by decide,if_true]
   by_cases h:i<0
   ·simp only [h,if_true]<;>omega
   ·simp only [h,if_false]<;>omega
theorem Zek (its:List Value) (lo hi:Option Int):slicePick its.toArray lo hi none=((its.drop (HT.sIx its.length 0 lo)).take (HT.sIx its.length its.length hi-HT.sIx its.length 0 lo)).toArray:=by
 obtain⟨h1,h2,h3⟩:=Ze0 lo hi its.toArray.size
 unfold slicePick
 rw [h1,h2,h3]
 simp only [sliceRange_one,pick_run,Yag]<;>rfl
noncomputable def rSlL (K:Yab):V→Option Int→Option Int→Hp→VK→Prop:=fun x lo hi H Q=>∃a xs,x=.ref a∧SqL K H a xs∧∀p,H p=none→Q (.ref p) (upd H p (.lst (cutV xs lo hi)))
theorem Zkw:SlR X (rSlL X.K):=by
 intro pins s σ H x v vl vu lo hi sl Q I rx hs pl pu h
 obtain⟨a,xs,rfl,hx,q⟩:=h
 cases rx
 obtain⟨its,r,ht,hz⟩:=I.list hx
 have hlen:=r.length
 refine⟨"list",_,slot_list_getitem.lookup,ht.isList.typeIs,?_⟩
 refine wpAny_getItem_list_slice ht.isList hs pl pu .none (by simp) ?_ (by rw [Yag]<;>omega)
 rw [Zek,←hlen]
 refine⟨.ref s.heap.objs.size,_,I.laid (t':=s.toks) (o:=.lst (cutV xs lo hi)) (fun b ob q=>Yae _ q) (Yad _) ?_,rfl,q _ (I.hok.fresh (Yad _))⟩
 exact⟨YaC (ZdF xs lo hi) hz,_,0,(r.drop (HT.sIx xs.length 0 lo)).take (HT.sIx xs.length xs.length hi-HT.sIx xs.length 0 lo),Yaz _ rfl⟩
noncomputable def flatV:V→Bool
 | .non=>true
 | .bl _=>true
 | .int _=>true
 | .str _=>true
 |_=>false
noncomputable def eqV:V→V→Bool
 | .non,.non=>true
 | .bl a,.bl b=>a==b
 | .bl a,.int b=>(if a then 1 else 0)==b
 | .int a,.bl b=>a==(if b then 1 else 0)
 | .int a,.int b=>a==b
 | .str a,.str b=>a==b
 |_,_=>false
theorem Zn3 {A:Around} {s:Shared} {y x:V} {u v:Value} (ry:RelV y u) (rx:RelV x v) (fy:flatV y=true) (fx:flatV x=true):SeqAt.EqAt A s u v (eqV y x):=by
 cases y with
 |non=>
  cases ry
  cases x with
  |non=>cases rx;exact SeqAt.EqAt.same _
  |bl b=>cases rx;exact SeqAt.EqAt.none_bool b
  |int b=>obtain⟨t,rfl⟩:=rx;exact SeqAt.EqAt.none_int b t
  |str b=>obtain⟨t,rfl⟩:=rx;exact SeqAt.EqAt.none_str b t
  |_=>exact absurd (show false=true from fx) Yal
 |bl a=>
  cases ry
  cases x with
  |non=>cases rx;exact SeqAt.EqAt.bool_none a
  |bl b=>cases rx;exact SeqAt.EqAt.bool_bool a b
  |int b=>obtain⟨t,rfl⟩:=rx;exact SeqAt.EqAt.bool_int a b t
  |str b=>obtain⟨t,rfl⟩:=rx;exact SeqAt.EqAt.bool_str a b t
  |_=>exact absurd (show false=true from fx) Yal
 |int a=>
  obtain⟨t',rfl⟩:=ry
  cases x with
  |non=>cases rx;exact SeqAt.EqAt.int_none a t'
  |bl b=>cases rx;exact SeqAt.EqAt.int_bool a t' b
  |int b=>obtain⟨t,rfl⟩:=rx;exact SeqAt.EqAt.int_int a t' b t
  |str b=>obtain⟨t,rfl⟩:=rx;exact SeqAt.EqAt.int_str a t' b t
  |_=>exact absurd (show false=true from fx) Yal
 |str a=>
  obtain⟨t',rfl⟩:=ry
  cases x with
  |non=>cases rx;exact SeqAt.EqAt.str_none a t'
  |bl b=>cases rx;exact SeqAt.EqAt.str_bool a t' b
  |int b=>obtain⟨t,rfl⟩:=rx;exact SeqAt.EqAt.str_int a t' b t
  |str b=>obtain⟨t,rfl⟩:=rx;exact SeqAt.EqAt.str_str a t' b t
  |_=>exact absurd (show false=true from fx) Yal
 |_=>exact absurd (show false=true from fy) Yal
noncomputable def eqU (x:V) (u:Value):Bool:=match u with
 | .none=>eqV .non x
 | .bool b=>eqV (.bl b) x
 | .int i _=>eqV (.int i) x
 | .str z _=>eqV (.str z) x
 |_=>false
theorem Zj7 {x y:V} {u:Value} (r:RelV y u) (f:flatV y=true):eqU x u=eqV y x:=by
 cases y with
 |non=>cases r;rfl
 |bl b=>cases r;rfl
 |int i=>obtain⟨t,rfl⟩:=r;rfl
 |str z=>obtain⟨t,rfl⟩:=r;rfl
 |_=>exact absurd (show false=true from f) Yal
theorem ZdU {x:V}:∀{xs:List V} {us:List Value},Vals xs us→xs.all flatV=true→us.any (eqU x)=xs.any fun y=>eqV y x
 |_,_,.nil,_=>rfl
 |y::xs,u::us,.cons r t,f=>by
  rw [Yb0,Yan] at f
  rw [Yba,Yba,Zj7 r f.1,ZdU t f.2]
theorem Zco {A:Around} {s:Shared} {x:V} {v:Value} (rx:RelV x v) (fx:flatV x=true):∀{xs:List V} {us:List Value},Vals xs us→xs.all flatV=true→∀u∈us,SeqAt.EqAt A s u v (eqU x u)
 |_,_,.nil,_=>fun u hu=>by cases hu
 |y::xs,u::us,.cons r t,f=>fun u' hu=>by
  rw [Yb0,Yan] at f
  rcases YaB.mp hu with rfl|hu
  ·rw [Zj7 r f.1];exact Zn3 r rx f.1 fx
  ·exact Zco rx fx t f.2 u' hu
noncomputable def inV (x:V) (xs:List V):Bool:=xs.any fun y=>eqV y x
noncomputable def rIn (K:Yab) (neg:Bool):R2:=fun x y H Q=>∃p xs,y=.ref p∧(SqL K H p xs∨SqT K H p xs)∧flatV x=true∧xs.all flatV=true∧Q (.bl (if neg then !inV x xs else inV x xs)) H
theorem Ze6:OpR X (compareOp .In) (rIn X.K false):=by
 intro pins s σ H x y v u Q I rx ry h
 obtain⟨p,xs,rfl,hq,fx,fs,q⟩:=h
 cases ry
 rcases hq with hq|hq
 ·obtain⟨its,r,pl,hz⟩:=I.list hq
  refine SeqAt.in_listAt (eqU x) pl.isList (fun w hw=>Zco rx fx r fs w (by simpa using hw)) ⟨.bl _,H,I,rfl,?_⟩
  rw [show its.toArray.any (eqU x)=its.any (eqU x) by simp,ZdU r fs]
  exact q
 ·obtain⟨its,r,pl,hz⟩:=I.tuple hq
  refine SeqAt.in_tupleAt (eqU x) pl (fun w hw=>Zco rx fx r fs w (by simpa using hw)) ⟨.bl _,H,I,rfl,?_⟩
  rw [show its.toArray.any (eqU x)=its.any (eqU x) by simp,ZdU r fs]
  exact q
theorem Zc0:OpR X (compareOp .NotIn) (rIn X.K true):=by
 intro pins s σ H x y v u Q I rx ry h
 obtain⟨p,xs,rfl,hq,fx,fs,q⟩:=h
 cases ry
 rcases hq with hq|hq
 ·obtain⟨its,r,pl,hz⟩:=I.list hq
  refine SeqAt.notIn_listAt (eqU x) pl.isList (fun w hw=>Zco rx fx r fs w (by simpa using hw)) ⟨.bl _,H,I,rfl,?_⟩
  rw [show its.toArray.any (eqU x)=its.any (eqU x) by simp,ZdU r fs]
  exact q
 ·obtain⟨its,r,pl,hz⟩:=I.tuple hq
  refine SeqAt.notIn_tupleAt (eqU x) pl (fun w hw=>Zco rx fx r fs w (by simpa using hw)) ⟨.bl _,H,I,rfl,?_⟩
  rw [show its.toArray.any (eqU x)=its.any (eqU x) by simp,ZdU r fs]
  exact q
theorem Zc8:CallR X (.builtin "len") (fun xs H Q=>∃p ys,xs=[.ref p]∧(SqL X.K H p ys∨SqT X.K H p ys)∧Q (.int ys.length) H):=by
 intro pins s σ H xs us Q I r h
 obtain⟨p,ys,rfl,hq,q⟩:=h
 obtain⟨u,rfl,rx⟩:=vals1 r
 cases rx
 have hn:=Ze9
 rcases hq with hq|hq
 ·obtain⟨its,r',pl,hz⟩:=I.list hq
  have hlen:=r'.length
  exact Calls.call_len_list pl.isList (by simp only [Yag]<;>omega) ⟨.int ys.length,H,I.tok _,⟨s.toks+1,by rw [Yag,hlen]⟩,q⟩
 ·obtain⟨its,r',pl,hz⟩:=I.tuple hq
  have hlen:=r'.length
  exact len_tuple pl (by simp only [Yag]<;>omega) ⟨.int ys.length,H,I.tok _,⟨s.toks+1,by rw [Yag,hlen]⟩,q⟩
theorem Zc7:CallR X (.type "list") (fun xs H Q=>∃p ys,xs=[.ref p]∧(SqL X.K H p ys∨SqT X.K H p ys)∧∀l,H l=none→Q (.ref l) (upd H l (.lst ys))):=by
 intro pins s σ H xs us Q I r h
 obtain⟨p,ys,rfl,hq,q⟩:=h
 obtain⟨u,rfl,rx⟩:=vals1 r
 cases rx
 have fin:∀(its:List Value),Vals ys its→ys.length≤sizeLine→∀(h':Heap) (c':Nat),(∀b o',s.heap.get? b=some o'→h'.get? b=some o')→
   h'.get? s.heap.objs.size=some {cls:=.type "list",dict:=none,data:=.seq its.toArray c',slots:= #[]}→EP X pins σ Q (.ref s.heap.objs.size) {s with heap:=h'}:=fun its r' hz h' c' kp e=>
  ⟨.ref s.heap.objs.size,_,I.laid (t':=s.toks) kp (Yad _) (show ObjOk X.prog X.w _ h' _ (.lst ys) from ⟨hz,its,c',r',e⟩),rfl,q _ (I.hok.fresh (Yad _))⟩
 rcases hq with hq|hq
 ·obtain⟨its,r',pl,hz⟩:=I.list hq
  have hlen:=r'.length
  obtain⟨o,ho,hc,n,hd⟩:=pl.isList
  exact call_list_seq p (.inl rfl) ho hc hd (fun h' c' kp e=>fin its r' hz h' c' kp e) (by simp only [Yag]<;>omega)
 ·obtain⟨its,r',pl,hz⟩:=I.tuple hq
  have hlen:=r'.length
  obtain⟨o,ho,hc,n,hd⟩:=pl
  exact call_list_seq p (.inr rfl) ho hc hd (fun h' c' kp e=>fin its r' hz h' c' kp e) (by simp only [Yag]<;>omega)
theorem Zcx:CallR X (.type "tuple") (fun xs H Q=>∃p ys,xs=[.ref p]∧((SqL X.K H p ys∧∀l,H l=none→Q (.ref l) (upd H l (.tup ys)))∨(SqT X.K H p ys∧Q (.ref p) H))):=by
 intro pins s σ H xs us Q I r h
 obtain⟨p,ys,rfl,h⟩:=h
 obtain⟨u,rfl,rx⟩:=vals1 r
 cases rx
 rcases h with ⟨hq,q⟩|⟨hq,q⟩
 ·obtain⟨its,r',pl,hz⟩:=I.list hq
  have hlen:=r'.length
  refine call_tuple_list pl.isList (fun h' kp=>?_) (by simp only [Yag]<;>omega)
  have I1:Inv X pins σ H {s with heap:=h'}:=I.kept (t':=s.toks) kp
  have I2:Inv X pins σ (upd H h'.objs.size (.tup ys)) {s with heap:=h'.push {cls:=.type "tuple",data:=.seq its.toArray}}:=
   I1.laid (t':=s.toks) (fun b o e=>Yae _ e) (Yad _) (show ObjOk X.prog X.w _ _ _ (.tup ys) from ⟨hz,its,r',IsTup.new _ _⟩)
  exact⟨.ref h'.objs.size,_,I2,rfl,q _ (I1.hok.fresh (Yad _))⟩
 ·obtain⟨its,r',pl,hz⟩:=I.tuple hq
  exact call_tuple_same pl ⟨.ref p,H,I,rfl,q⟩
noncomputable def tyV (K:Yab) (T:String) (x:V) (H:Hp):Prop:=match x with
 | .str _=>T="str"
 | .int _=>T="int"
 | .ref p=>(T="list"∧∃xs,SqL K H p xs)∨(T="tuple"∧∃o,K.lookup p=some o∧o.cls=.type "tuple"∧o.dict=none)∨
   (T="dict"∧((∃kvs,H p=some (.dK kvs))∨∃kvs,H p=some (.dT kvs)))∨(T="set"∧∃S n,H p=some (.set S n))
 |_=>False
theorem ZjG {pins:List (Addr×Obj)} {σ:St} {H:Hp} {s:Shared} {T:String} {x:V} {v:Value} (I:Inv X pins σ H s) (r:RelV x v) (ty:tyV X.K T x H):
  s.TypeIs v T∧∀a,v=.ref a→∃ob,s.heap.get? a=some ob∧ob.dict=none:=by
 cases x with
 |str z=>
  obtain⟨t,rfl⟩:=r
  cases (show T="str" from ty)
  exact⟨typeIs_str s z t,fun _ e=>nomatch e⟩
 |int i=>
  obtain⟨t,rfl⟩:=r
  cases (show T="int" from ty)
  exact⟨typeIs_int s i t,fun _ e=>nomatch e⟩
 |ref p=>
  cases r
  rcases ty with ⟨rfl,xs,hq⟩|⟨rfl,o,hk,hc,hd⟩|⟨rfl,hk⟩|⟨rfl,S,n,hk⟩
  ·obtain⟨its,_,pl,_⟩:=I.list hq
   refine⟨pl.isList.typeIs,fun a e=>?_⟩
   cases e
   obtain⟨o,n,e,c,hd,_⟩:=pl
   exact⟨o,e,hd⟩
  ·refine⟨⟨o,I.kIn p o hk,hc⟩,fun a e=>?_⟩
   cases e
   exact⟨o,I.kIn _ o hk,hd⟩
  ·have z:∃o,s.heap.get? p=some o∧o.ExactDict:=by
    rcases hk with ⟨kvs,hk⟩|⟨kvs,hk⟩
    ·obtain⟨_,_,_,_,o,_,_,e,ex,_⟩:=I.hok p _ hk
     exact⟨o,e,ex⟩
    ·obtain⟨_,_,_,_,o,_,_,e,ex,_⟩:=I.hok p _ hk
     exact⟨o,e,ex⟩
   obtain⟨o,e,ex⟩:=z
   refine⟨⟨o,e,ex.1⟩,fun a e2=>?_⟩
   cases e2
   exact⟨o,e,ex.2.1⟩
  ·obtain⟨o,_,_,_,e,ex,_⟩:=I.hok p _ hk
   refine⟨⟨o,e,ex.1⟩,fun a e2=>?_⟩
   cases e2
   exact⟨o,e,ex.2.1⟩
 |_=>exact False.elim ty
noncomputable def tBM0 (K:Yab) (T:String) (r:V→List V→Hp→VK→Prop) (to:TE):TE:=fun σ H Q=>to σ H fun x H1=>tyV K T x H1∧r x [] H1 Q
noncomputable def tBM (K:Yab) (T:String) (r:V→List V→Hp→VK→Prop) (to:TE) (t:TA):TE:=fun σ H Q=>to σ H fun x H1=>tyV K T x H1∧t σ H1 fun xs H2=>r x xs H2 Q
variable {o e:Expr} {es:List Expr} {to:TE} {t:TA} {name:Str} {apos cpos:Pos} {T id:String} {r:V→List V→Hp→VK→Prop}
theorem ZmM (pa:PlainAttrs T) (slot:Slot T name id) (hty:typeOf (.builtin id)=pure (.type "method_descriptor")) (hm:MtR X id r) (ho:PE X o to)
  (hbase:attributeBase o name X.env (eval o X.env)=eval o X.env:=by rfl) (hline:(apos.endLine==cpos.line)=true:=by rfl):PE X (.Call (.Attribute o name apos) [] [] cpos) (tBM0 X.K T r to):=by
 intro pins s σ H Q I h
 refine wpAny_Call_method0_late hbase hline (thn (ho pins s σ H _ I h) ?_)
 rintro v s1 ⟨x,H1,I1,r1,ty,q1⟩
 obtain⟨h1,h2⟩:=ZjG I1 r1 ty
 exact⟨T,id,pa,slot,hty,h1,h2,Calls.callWith_builtin rfl (PySem.evalArgs_none (hm pins s1 σ H1 x [] v [] Q I1 r1 .nil q1))⟩
theorem pe_bm (pa:PlainAttrs T) (slot:Slot T name id) (hty:typeOf (.builtin id)=pure (.type "method_descriptor")) (hm:MtR X id r) (ho:PE X o to) (ha:PA X (e::es) t)
  (hbase:attributeBase o name X.env (eval o X.env)=eval o X.env:=by rfl)
  (hfew:((backTo cpos (starEach (e::es) X.env)).all (fun x=> !x.1)&&(backToKw cpos (keywordEach [] X.env)).all (fun x=>x.1.isSome)
   &&decide ((e::es).length+([]:List Keyword).length+(if ([]:List Keyword).isEmpty then 0 else 1)<30))=true:=by rfl)
  (hline:(apos.endLine==cpos.line)=true:=by rfl) (hs:starEach (e::es) X.env=(false,eval e X.env)::starEach es X.env:=by rfl) (hplain:(backTo cpos (starEach es X.env)).any (·.1)=false:=by rfl):
  PE X (.Call (.Attribute o name apos) (e::es) [] cpos) (tBM X.K T r to t):=by
 intro pins s σ H Q I h
 refine wpAny_Call_method_late hbase hfew hline rfl (thn (ho pins s σ H _ I h) ?_)
 rintro v s1 ⟨x,H1,I1,r1,ty,q1⟩
 obtain⟨h1,h2⟩:=ZjG I1 r1 ty
 refine⟨T,id,pa,slot,hty,h1,h2,?_⟩
 have hA:=ha cpos pins s1 σ H1 _ I1 q1
 rw [hs] at hA⊢
 refine Calls.callWith_builtin (by show (false||(backTo cpos (starEach es X.env)).any (·.1))=false;rw [hplain]<;>rfl) (Calls.evalArgs_plain ?_)
 exact thn hA fun us s2 ⟨vs,H2,I2,r2,q2⟩=>hm pins s2 σ H2 x vs v us Q I2 r1 r2 q2
/- xs.append(e),list.index on a module's tuple .. are MtR facts of 06m-/
end
end L2
namespace L2
open PySem PySem.Spec PyProof.Rows
noncomputable def MtM (X:Cx) (id:String) (r:V→List V→Hp→VK→Prop):Prop:=
 ∀(pins:List (Addr×Obj)) (s:Shared) (σ:St) (H:Hp) (x:V) (xs:List V) (v:Value) (us:List Value) (Q:VK),Inv X pins σ H s→RelV x v→Vals xs us→r x xs H Q→
  wpAny (model X.prog X.w) X.A (call (.builtin id) (v::us)) (EP X pins σ Q) X.xe s
theorem Vals.one {x:V} {us:List Value} (h:Vals [x] us):∃u,us=[u]∧RelV x u:=by
 cases h with
 |cons r t=>cases t;exact⟨_,rfl,r⟩
theorem Vals.two {x y:V} {us:List Value} (h:Vals [x,y] us):∃u v,us=[u,v]∧RelV x u∧RelV y v:=by
 cases h with
 |cons r t=>
  cases t with
  |cons q t=>cases t;exact⟨_,_,rfl,r,q⟩
theorem Vals.eraseIdx:∀{xs:List V} {us:List Value} (i:Nat),Vals xs us→Vals (xs.eraseIdx i) (us.eraseIdx i)
 |_,_,_,.nil=>.nil
 |_,_,0,.cons _ t=>t
 |_,_,i+1,.cons r t=>.cons r (Vals.eraseIdx i t)
theorem Vals.rep {xs:List V} {us:List Value} (h:Vals xs us):∀k:Nat,Vals (Yaq k xs).flatten (Yaq k us).flatten
 |0=>.nil
 |k+1=>by
  rw [YaJ,YaJ,YaT,YaT]
  exact Vals.append h (Vals.rep h k)
theorem Zfa {α:Type}:∀(l:List α) (i:Nat),(l.eraseIdx i).length≤l.length
 | [],_=>Yad _
 |_::_,0=>YbX _
 |_::r,i+1=>Nat.succ_le_succ (Zfa r i)
theorem Zdz (its:List Value):∀(k:Nat) (acc:List Value),
  YbK (fun x1 x2=>x1++x2) acc.toArray (Yaq k its.toArray)=(acc++(Yaq k its).flatten).toArray
 |0,acc=>by simp
 |k+1,acc=>by
  have e:acc.toArray++its.toArray=(acc++its).toArray:=by simp
  have e2:(acc++its)++(Yaq k its).flatten=acc++(Yaq (k+1) its).flatten:=by
   rw [YaJ,YaT,Ya2]
  rw [←e2,←Zdz its k (acc++its),←e,YaJ,YbR]
section
variable {X:Cx} {pins:List (Addr×Obj)} {σ:St} {H:Hp} {s:Shared} {l b:Addr} {xs ys zs:List V}
theorem Inv.lset {its its':List Value} {n:Nat} {f:Array Value→Array Value} {t':Nat} (I:Inv X pins σ H s) (hH:H l=some (.lst xs))
  (e:s.heap.get? l=some {cls:=.type "list",data:=.seq its.toArray n}) (hf:f its.toArray=its'.toArray) (hv:Vals ys its') (hz:ys.length≤sizeLine):
  Inv X pins σ (upd H l (.lst ys)) {s with heap:=s.heap.update l (Obj.mapSeq f),toks:=t'}:=by
 have q:=PySem.IsL.update e f
 rw [hf] at q
 refine I.write (x:=l) (e:=l) (by rw [hH];exact trivial) (.inl rfl) (fun b' u hb hu=>(YaV s.heap (Obj.mapSeq f) (Ne.symm hb)).trans hu) ⟨_,q⟩ ?_
 exact⟨hz,its',_,hv,q⟩
theorem Inv.lnew {its:List Value} {t':Nat} (I:Inv X pins σ H s) (hv:Vals ys its) (hz:ys.length≤sizeLine):
  Inv X pins σ (upd H s.heap.objs.size (.lst ys)) {s with heap:=s.heap.push {cls:=.type "list",data:=.seq its.toArray},toks:=t'}:=
 I.laid (fun _ _ q=>Yae _ q) (Yad _) ⟨hz,its,0,hv,Yaz _ rfl⟩
theorem Inv.fresh (I:Inv X pins σ H s):H s.heap.objs.size=none:=I.hok.fresh (Yad _)
theorem Inv.lstM (I:Inv X pins σ H s) (hH:H l=some (.lst xs)):xs.length≤sizeLine∧∃(its:List Value) (n:Nat),Vals xs its∧xs.length=its.length∧s.heap.get? l=some {cls:=.type "list",data:=.seq its.toArray n}:=by
 obtain⟨z,its,n,r,e⟩:=I.hok l _ hH
 exact⟨z,its,n,r,r.length,e⟩
theorem Zgp {n:Nat} (h:n≤sizeLine):Builtin.List.listTooLong n=false:=by
 unfold Builtin.List.listTooLong
 exact decide_eq_false (by omega)
end
section
variable {X:Cx}
noncomputable def Zkz:V→List V→Hp→VK→Prop:=fun x vs H Q=>∃l xs y,x=.ref l∧vs=[y]∧H l=some (.lst xs)∧xs.length<sizeLine∧Q .non (upd H l (.lst (xs++[y])))
theorem Ze8:MtM X "list.append" Zkz:=by
 intro pins s σ H x vs v us Q I rx rv h
 obtain⟨l,xs,y,rfl,rfl,hH,hz,q⟩:=h
 cases rx
 obtain⟨u,rfl,ru⟩:=rv.one
 obtain⟨z,its,n,r,hl,e⟩:=I.lstM hH
 refine call_meets F.slot_list_append ⟨_,e,rfl⟩ F.entry_list_append (F.args_list_append_2 _ _) (PySem.list_append l its.toArray n u (by rw [Yag];omega)) ⟨e,?_⟩
 refine⟨.non,_,I.lset (its':=its++[u]) hH e (by simp) (r.append (.cons ru .nil)) ?_,rfl,q⟩
 rw [YaQ,List.length_singleton]
 omega
noncomputable def Zky:V→List V→Hp→VK→Prop:=fun x vs H Q=>∃l b xs zs,x=.ref l∧vs=[.ref b]∧H l=some (.lst xs)∧H b=some (.lst zs)∧xs.length+zs.length≤sizeLine∧Q .non (upd H l (.lst (xs++zs)))
theorem ZhP:MtM X "list.extend" Zky:=by
 intro pins s σ H x vs v us Q I rx rv h
 obtain⟨l,b,xs,zs,rfl,rfl,hH,hB,hz,q⟩:=h
 cases rx
 obtain⟨u,rfl,ru⟩:=rv.one
 cases ru
 obtain⟨z,its,n,r,hl,e⟩:=I.lstM hH
 obtain⟨z2,its2,n2,r2,hl2,e2⟩:=I.lstM hB
 have hsz:its.toArray.size+its2.toArray.size≤sizeLine:=by rw [Yag,Yag];omega
 have hlong:¬(!its.toArray.isEmpty&&Builtin.List.listTooLong (its.toArray.size+its2.toArray.size))=true:=by
  rw [Zgp hsz,Bool.and_false]
  exact Yal
 refine call_meets F.slot_list_extend ⟨_,e,rfl⟩ F.entry_list_extend (F.args_list_extend_2 _ _)
  (AutoSeq1.list_extend_list_list_0 l its.toArray n b its2.toArray n2 hlong (by rw [Yag];omega) (by omega)) ⟨e,e2,?_⟩
 refine⟨.non,_,I.lset (its':=its++its2) hH e (by simp) (r.append r2) ?_,rfl,q⟩
 rw [YaQ]
 omega
noncomputable def Zmu:V→List V→Hp→VK→Prop:=fun x vs H Q=>∃l xs i k y,x=.ref l∧vs=[.int i]∧H l=some (.lst xs)∧ -(2^63)≤i∧i<2^63∧seqIndex? i xs.length=some k∧xs[k]?=some y∧Q y (upd H l (.lst (xs.eraseIdx k)))
theorem Zjk:MtM X "list.pop" Zmu:=by
 intro pins s σ H x vs v us Q I rx rv h
 obtain⟨l,xs,i,k,y,rfl,rfl,hH,h1,h2,hk,hy,q⟩:=h
 cases rx
 obtain⟨u,rfl,ru⟩:=rv.one
 obtain⟨t,rfl⟩:=ru
 obtain⟨z,its,n,r,hl,e⟩:=I.lstM hH
 obtain⟨w,hw,rw'⟩:=r.get hy
 refine call_meets F.slot_list_pop ⟨_,e,rfl⟩ F.entry_list_pop (F.args_list_pop_2 _ _)
  (MeetsSeq.list_pop_at l its.toArray n i t k w (fitsIndex_both h1 h2) (by rw [Yag,←hl];exact hk) (by rw [←YbP];exact hw) (by rw [Yag];omega)) ⟨e,?_⟩
 refine⟨y,_,I.lset (its':=its.eraseIdx k) hH e ?_ (r.eraseIdx k) ?_,rw',q⟩
 ·show its.toArray.eraseIdxIfInBounds k=(its.eraseIdx k).toArray
  rw [List.eraseIdxIfInBounds_toArray]
 ·have:=Zfa xs k
  omega
noncomputable def rRep:R2:=fun x y H Q=>∃l k xs,x=.ref l∧y=.int k∧H l=some (.lst xs)∧ -(2^63)≤k∧k<2^63∧xs.length*k.toNat≤sizeLine∧
 ∀p,H p=none→Q (.ref p) (upd H p (.lst (Yaq k.toNat xs).flatten))
theorem ZhX {α:Type} (xs:List α) (k:Nat):(Yaq k xs).flatten.length=k*xs.length:=by
 induction k with
 |zero=>simp
 |succ k ih=>rw [YaJ,YaT,YaQ,ih,Nat.succ_mul,Nat.add_comm]
theorem ZmS:OpR X (binaryOp .Mult) rRep:=by
 intro pins s σ H x y v u Q I rx ry h
 obtain⟨l,k,xs,rfl,rfl,hH,h1,h2,hz,q⟩:=h
 cases rx
 obtain⟨t,rfl⟩:=ry
 obtain⟨z,its,n,r,hl,e⟩:=I.lstM hH
 have hlen:its.toArray.size*k.toNat≤sizeLine:=by rw [Yag,←hl];exact hz
 have hcap:¬its.toArray.size*k.toNat>(2^63-1) / 8:=by
  have:(sizeLine:Nat)≤(2^63-1) / 8:=by decide
  omega
 have hfit:¬(!Builtin.List.listFitsIndex k)=true:=by
  rw [fitsIndex_both h1 h2]
  exact Yal
 have hlong:¬Builtin.List.listTooLong (its.toArray.size*k.toNat)=true:=by
  rw [Zgp hlen]
  exact Yal
 have hnew:YbK (fun x1 x2=>x1++x2) #[] (Yaq (if its.toArray.isEmpty=true then 0 else k.toNat) its.toArray)=(Yaq k.toNat its).flatten.toArray:=by
  have f0:∀m:Nat,YbK (fun x1 x2=>x1++x2) #[] (Yaq m its.toArray)=(Yaq m its).flatten.toArray:=fun m=>by
   have:=Zdz its m []
   rw [YbC] at this
   exact this
  rw [f0]
  cases its with
  |nil=>simp
  |cons a r'=>rw [if_neg (by simp)]
 refine wpAny_binaryOp_repeat_ref (T:="list") (U:="int") (by decide) ⟨_,e,rfl⟩ (fun s'=>typeIs_int s' k t) noFill_list_mul F.fills_int_mul F.slot_int_rmul repeat_list F.slot_int_index.lookup
  (call_meets F.slot_int_rmul (typeIs_int s k t) F.entry_int_rmul (F.args_int_rmul_2 _ _) (int___rmul___int_list k t l its.toArray n)
   ⟨e,rfl,⟨_,e,rfl⟩,call_meets F.slot_list_mul ⟨_,e,rfl⟩ F.entry_list_mul (F.args_list_mul_2 _ _) (AutoListH.list___mul___list_int_3 l its.toArray n k t hfit hcap hlong) ⟨e,?_⟩⟩)
 rw [hnew]
 exact⟨.ref _,_,I.lnew (t':=s.toks) (r.rep k.toNat) (by rw [ZhX,Nat.mul_comm];exact hz),rfl,q _ I.fresh⟩
end
section
variable {prog:Program} {w:World} {A:Around} {E:Value→Shared→Prop} {s:Shared}
end
section
variable {X:Cx}
end
end L2
namespace Att
open PySem PySem.W PySem.Calls PyProof.Rows
theorem Zdx {P:Params} {h:Heap}:∀(ns:List Int) (vs:List Value),WellAll P h vs (ns.map WData.int)→IntsAre vs ns:=by
 intro ns
 induction ns with
 |nil=>
  intro vs w
  rw [List.map_nil] at w
  cases w
  exact .nil
 |cons n ns ih=>
  intro vs w
  rw [YaK] at w
  cases w with
  |cons a b=>
   cases a
   exact .cons _ _ (ih _ b)
theorem Zhs {l:OpenLaw} {n:Nat} (hn:l.most=some n) {P:Params} {h:Heap} {args:List WData} {vals:List Value}
  (hpre:l.row.toRowW.claim.pre args=true) (hwl:WellAll P h vals args):
  ∃a vs ns,vals=[Value.ref a]∧args=[WData.list (ns.map WData.int)]∧h.get? a=some {cls:=.type "list",data:=.seq vs.toArray}∧IntsAre vs ns∧ns.length≤n:=by
 have hsh:WShape.hasAll [] args [.list .int]=true:=(pre_splitW hpre).1
 have hc:l.pre.holds [] {args:=args}=true:=(pre_splitW hpre).2
 obtain⟨d,r,rfl,h1,h2⟩:=hasAllW_cons hsh
 obtain rfl:=hasAllW_nil h2
 obtain⟨xs,rfl,h3⟩:=hasW_list h1
 obtain⟨ns,rfl⟩:=items_int h3
 have hlen:ns.length≤n:=by
  unfold OpenLaw.pre at hc
  have h4:(WTm.not (.lt (.lit (.int (n:Int))) (.len (.arg 0)))).holds [] {args:=[.list (ns.map .int)]}=true:=by
   have h4:=(holds_andW hc).1
   rw [hn] at h4
   exact h4
  have h5:=condW_of h4 (w_not (w_lt w_lit (w_len_list (w_arg rfl))))
  rw [Yak] at h5
  refine Nat.le_of_not_lt fun q=>?_
  have q':(n:Int)<((ns.length:Nat):Int):=by omega
  first
   |(rw [decide_eq_true q'] at h5;exact absurd h5 (by decide))
   |(simp at h5;omega)
 cases hwl with
 |cons w1 w2=>
  cases w2
  cases w1 with
  |list ho hall=>exact⟨_,_,ns,rfl,rfl,ho,Zdx ns _ hall,hlen⟩
theorem ZhC (l:OpenLaw) (args:List WData):l.row.toRowW.claim.post args (.bool true) args=true:=
 postW_of (r:=l.row.toRowW) (X:=(true==true))
  (show WShape.has [] (.bool true) .bool=true by first|rfl|decide|simp [WShape.has,WShape.arms,WShape.armsAll])
  (show (WTm.eq .res (.lit (.bool true))).value [] {args:=args,res:=some (.bool true),after:=args}=some (.bool (true==true)) from w_eq_bool (w_res rfl) w_lit) rfl
theorem attach_call {l:OpenLaw} {n:Nat} {q:Program} {loose:List Str} {XP:(Str→Option Value)→Heap→Prop} {YP:World→Heap→Prop} {d:DefRec}
  (hn:l.most=some n) (hdf:d.params.defaults=[])
  (call:∀(w:World) (s₀ s₁:Shared) (mg mb:Str→Option Value) (fa:Addr) (o:Obj) (pm cd doc:Value) (a:Addr) (vs:List Value) (ns:List Int),
   Ground q loose [] XP w s₀ mg mb s₁.heap→YP w s₁.heap→
   s₁.heap.get? fa=some o→o.data=.func (docDef d.name d.params d.body d.scope pm cd doc)→s₁.heap.CodeRec cd d.name→mg d.name=some (.ref fa)→
   s₁.heap.get? a=some {cls:=.type "list",data:=.seq vs.toArray}→IntsAre vs ns→ns.length≤n→s₁.gens= #[]→
   codeAny (model l.prog w) callerA (.call (.ref fa) ⟨[.ref a],[]⟩) (fun r s'=>r=.ok (.ret (.bool true))∧OldK s₁.heap s'.heap∧s'.os=s₁.os∧AllBare s'.gens) s₁):
  WalkO q loose XP YP l.row.toRowW d [] (fun f vs=>PySem.call f vs):=by
 intro w s₀ s₁ mg mb G Y fa o pm cd doc dV kV ho hd hcd hD hmg hg args vals as hpre hlay hrd hwl hlo
 obtain rfl:dV=.none:=Dflts.none hD hdf
 obtain rfl:kV=.none:=Dflts.noKw hD
 obtain⟨a,vs,ns,rfl,rfl,hobj,hints,hlen⟩:=Zhs hn hpre hwl
 refine enter_call (codeAny_mono (call w s₀ s₁ mg mb fa o pm cd doc a vs ns G Y ho (fd_plain hd) hcd hmg hobj hints hlen hg) fun r s' hq=>?_)
 obtain⟨rfl,h2,h3,h4⟩:=hq
 exact⟨.inl ⟨.bool true,.bool true,[],rfl,fun _=>rfl,.bool true,ZhC l _,fun _=>⟨List.Pairwise.nil,fun _ hm=>(nomatch hm)⟩⟩,h2,h3,h4⟩
section
variable {prog:Program} {w:World} {A:Around} {E:Value→Shared→Prop} {s:Shared} {K:Frag}
noncomputable def Zo0 (h:Heap) (L d:Addr):List (Addr×Obj):=(Yau h.objs.size).filterMap fun a=>if a=L∨a=d then none else (h.get? a).map fun o=>(a,o)
end
end Att
namespace L2
open PySem PySem.Spec PyProof.Rows
theorem ZeZ:∀{vs:List Value} {ns:List Int},IntsAre vs ns→Vals (ns.map V.int) vs
 |_,_,.nil=>.nil
 |_,_,.cons n t h=>.cons ⟨t,rfl⟩ (ZeZ h)
noncomputable def Only (H:Hp):Prop:=∀b,H b=none∨∃o xs,H b=some (.frz o (.lst xs))
theorem Zjr {P:Program} {w:World} {K:Yab} {mg mb:Str→Option Value} {CX:CXT} {k:Nat} {fa a:Addr} {fd:FuncData} {x:Str} {sp:Sp} {s₁:Shared} {vs:List Value} {ns:List Int}
  (KX:K.In s₁.heap) (hns:s₁.heap.Ns mainGlobals mg) (hb:s₁.heap.Ns builtinsNs mb) (hbb:∀x:Str,x≠ "__name__"→mb x=bootBuiltins x) (hlim:s₁.heap.NoLimit) (hg:s₁.gens= #[])
  (ha:s₁.heap.get? a=some {cls:=.type "list",data:=.seq vs.toArray}) (hi:IntsAre vs ns) (hl:ns.length≤sizeLine) (hr:Room k callerA)
  (F:∀base:Heap,K.In base→base.Ns mainGlobals mg→FnOk P w K mg base CX k fa fd [x] sp) (hbind:∀(s:Shared) (u:Value),BindsTo s fd ⟨[u],[]⟩ [(x,u)])
  (hsp:∀H:Hp,Only H→SqL K H a (ns.map V.int)→sp [.ref a] H (fun v _=>v=.bl true) fun _ _ _=>False)
  (hCX:∀H e s',CX [] H s₁ (fun _ _ _=>False) e s'→False):
  codeAny (model P w) callerA (.call (.ref fa) ⟨[.ref a],[]⟩) (fun r s'=>r=.ok (.ret (.bool true))∧OldK s₁.heap s'.heap∧s'.os=s₁.os∧AllBare s'.gens) s₁:=by
 have rv:=ZeZ hi
 have lenV:=hi.length
 -- from an abstract heap in which nothing but the script may be tracked
 have core:∀H:Hp,Only H→SqL K H a (ns.map V.int)→HOk P w H s₁.heap→(∀b,H b≠none→b=a)→(H a≠none→K.lookup a=none)→
   codeAny (model P w) callerA (.call (.ref fa) ⟨[.ref a],[]⟩) (fun r s'=>r=.ok (.ret (.bool true))∧OldK s₁.heap s'.heap∧s'.os=s₁.os∧AllBare s'.gens) s₁:=by
  intro H hO hS hok hA hK
  have base_of:∀{b:Addr} {o:Obj},s₁.heap.get? b=some o→H b=none→(hidT s₁.heap H).get? b=some o:=fun e n=>Zju e n
  have noA:∀{b:Addr} {o:Obj} {es:Array DictEntry} {ep:Nat},s₁.heap.get? b=some o→o.data=.dict es ep→H b=none:=fun {b o es ep} e d=>by
   cases q:H b with
   |none=>rfl
   |some u=>
    have e':b=a:=hA b (by rw [q];simp)
    subst e'
    rw [ha] at e;cases e
    have d':Data.seq vs.toArray _=Data.dict es ep:=d
    cases d'
  have nsK:∀{b:Addr} {m:Str→Option Value},s₁.heap.Ns b m→(hidT s₁.heap H).Ns b m:=fun {b m} ⟨o,es,ep,e,d,r⟩=>⟨o,es,ep,base_of e (noA e d),d,r⟩
  have hKb:K.In (hidT s₁.heap H):=fun b o e=>base_of (KX b o e) (by
   cases q:H b with
   |none=>rfl
   |some u=>
    have e':b=a:=hA b (by rw [q];simp)
    subst e'
    rw [hK (by rw [q];simp)] at e;cases e)
  have hM:Mod K mg (hidT s₁.heap H):=⟨hKb,nsK hns,⟨mb,nsK hb,hbb⟩,let ⟨mc,h1,h2⟩:=hlim;⟨mc,nsK h1,h2⟩⟩
  have e0:Env0 P w K mg (hidT s₁.heap H) callerA [] s₁ H:=⟨rfl,hM,fun b o e=>Zlb e,YbF (Zh6 _ _),trivial,fun b hb=>absurd (show b∈([]:List Addr) from hb) (by simp),hok,.of_eq hg⟩
  refine codeAny_mono ((F _ hKb (nsK hns)).run callerA [] s₁ H ⟨[.ref a],[]⟩ [.ref a] [.ref a] _ _ hr e0 (hbind s₁ (.ref a)) (.cons rfl .nil) (hsp H hO hS)) fun r s' h=>?_
  cases r with
  |error e=>exact(hCX H e s' h).elim
  |ok fl=>
   cases fl with
   |next=>exact False.elim h
   |brk=>exact False.elim h
   |cont=>exact False.elim h
   |ret u=>
    obtain⟨v,H',os,bare,un,hok',r',q⟩:=h
    have q':v=.bl true:=q
    subst q'
    obtain rfl:u=Value.bool true:=r'
    refine⟨rfl,OldK.of_keep fun b o e=>?_,os,bare⟩
    cases q:H b with
    |none=>exact un.keep b o e q (by intro z;exact absurd (show b∈([]:List Addr) from z) (by simp)) (by simp)
    |some u=>
     rcases hO b with z|⟨ob,xs,z⟩
     ·rw [q] at z;cases z
     ·have z2:=un.frzs b ob _ z
      obtain⟨e1,_⟩:=hok b _ z
      obtain⟨e2,_⟩:=hok' b _ z2
      rw [e] at e1;cases e1
      exact e2
 cases hk:K.lookup a with
 |some o=>
  -- the script is one of the module's own objects
  have e:=KX a o hk
  rw [ha] at e
  cases e
  refine core (fun _=>none) (fun _=>.inl rfl) (.inr ⟨_,vs.toArray,_,hk,rfl,rfl,rfl,by rw [Yag,lenV];exact hl,by simpa using rv⟩) (fun b u z=>by have z':(none:Option HO)=some u:=z;cases z') (fun b z=>absurd rfl z) fun z=>absurd rfl z
 |none=>
  refine core (fun b=>if b=a then some (.frz {cls:=.type "list",data:=.seq vs.toArray} (.lst (ns.map V.int))) else none) (fun b=>?_) (.inl (.inr ⟨{cls:=.type "list",data:=.seq vs.toArray},if_pos rfl⟩)) (fun b u z=>?_) (fun b z=>?_) fun _=>hk
  ·by_cases hb:b=a
   ·exact .inr ⟨_,_,if_pos hb⟩
   ·exact .inl (if_neg hb)
  ·by_cases hb:b=a
   ·have z':=(if_pos hb).symm.trans z
    cases z'
    subst hb
    exact⟨ha,by rw [Yak];exact hl,vs,_,rv,ha⟩
   ·have z':=(if_neg hb).symm.trans z
    cases z'
  ·by_cases hb:b=a
   ·exact hb
   ·exact absurd (if_neg hb) z
end L2
namespace L2
open PySem PySem.Spec PyProof.Rows
noncomputable abbrev KOf {K:Yab} {h:Heap} (_:K.In h):Yab:=K
theorem Zki {l:PySem.W.OpenLaw} {n k:Nat} {q:Program} {loose:List Str} {XP:(Str→Option Value)→Heap→Prop} {YP:World→Heap→Prop} {d:DefRec} {K:Params→Yab} {CX:World→CXT} {sp:World→Sp} {x:Str}
  (hn:l.most=some n) (hn2:n≤sizeLine) (hdf:d.params.defaults=[]) (hr:Room k callerA)
  (hY:∀(w:World) (h:Heap),YP w h→(K w.params).In h)
  (F:∀(w:World) (mg:Str→Option Value) (fa:Addr) (h:Heap),(K w.params).In h→h.Ns mainGlobals mg→mg d.name=some (.ref fa)→
   ∃fd:FuncData,(∀(s:Shared) (u:Value),BindsTo s fd ⟨[u],[]⟩ [(x,u)])∧
    ∀base:Heap,(K w.params).In base→base.Ns mainGlobals mg→FnOk l.prog w (K w.params) mg base (CX w) k fa fd [x] (sp w))
  (hsp:∀(w:World) (H:Hp) (a:Addr) (ns:List Int),ns.length≤n→Only H→SqL (K w.params) H a (ns.map V.int)→sp w [.ref a] H (fun v _=>v=.bl true) fun _ _ _=>False)
  (hCX:∀(w:World) (H:Hp) (s:Shared) (e:Value) (s':Shared),CX w [] H s (fun _ _ _=>False) e s'→False):
  PySem.W.WalkO q loose XP YP l.row.toRowW d [] (fun f vs=>PySem.call f vs):=by
 refine Att.attach_call hn hdf fun w s₀ s₁ mg mb fa o pm cd doc a vs ns G Y ho hd hcd hmg hobj hints hlen hg=>?_
 have KX:=hY w _ Y
 obtain⟨fd,hb,hF⟩:=F w mg fa _ KX G.T.g hmg
 exact Zjr KX G.T.g G.T.b G.T.builtins G.T.nolimit hg hobj hints (YaC hlen hn2) hr hF hb (fun H hO hS=>hsp w H a ns hlen hO hS) fun H e s'=>hCX w H s₁ e s'
end L2
namespace L2
open PySem PySem.Spec PyProof.Rows
noncomputable def ZcT (s:Stmt):Arguments:=match s with
 | .FunctionDef _ a _ _ _ _ _ _ _ _=>a
 |_=>{posonlyargs:=[],args:=[],vararg:=none,kwonlyargs:=[],kw_defaults:=[],kwarg:=none,defaults:=[]}
noncomputable def Zag (s:Stmt):List Stmt:=match s with
 | .FunctionDef _ _ b _ _ _ _ _ _ _=>b
 |_=>[]
noncomputable def Zab (s:Stmt):Scope:=match s with
 | .FunctionDef _ _ _ _ _ _ sc _ _ _=>sc
 |_=>{kind:=.function,names:=[],isGenerator:=false,isCoroutine:=false}
noncomputable abbrev E0:XK:=fun _ _ _=>False
structure Fun (K:Yab) (x qual:Str) (st:Stmt) (f:Addr) (fd:FuncData):Prop where
 ex:∃(oc:Value) (od:Option Addr) (kV doc pm:Value) (an:Option Addr) (cdv ct:Value) (osl:Array (Option Value)),
  fd=Yb4 x qual (ZcT st) (Zag st) (Zab st) .none kV doc pm an cdv ct∧K.lookup f=some ⟨oc,od,.func fd,osl⟩∧YbW K cdv qual=true
 kp:Ya6 K (.ref f)=true
section
variable {P:Program} {w:World} {K:Yab} {mg:Str→Option Value} {base:Heap}
theorem Fun.binds {x qual:Str} {st:Stmt} {f:Addr} {fd:FuncData} {ps:List Str} (F:Fun K x qual st f fd)
  (h:∀(kV doc pm:Value) (an:Option Addr) (cdv ct:Value) (us:List Value),us.length=ps.length→bindArgs (Yb4 x qual (ZcT st) (Zag st) (Zab st) .none kV doc pm an cdv ct) ⟨us,[]⟩=pure (ps.zip us)):Binds K fd ps []:=by
 obtain⟨oc,od,kV,doc,pm,an,cdv,ct,osl,rfl,lk,hcd⟩:=F.ex
 exact .all (h kV doc pm an cdv ct)
end
section
variable {X:Cx}
end
noncomputable def Same (H H':Hp):Prop:=∀b o,H b=some o→H' b=some o
theorem Same.refl (H:Hp):Same H H:=fun _ _ h=>h
end L2
namespace L2
open PySem PySem.Spec PyProof.Rows
theorem ZbD {env:Env}:∀(l:List (Str×NameKind)) (cs:List (Str×Addr)) (P:List (Str×Addr)→Prop),
  (∀x∈l,x.2=.free→∃c,env.cells.lookup x.1=some c)→
  (∀x c,cs.lookup x=some c→env.cells.lookup x=some c)→
  ∃cl,(forIn l cs (fun(x:Str×NameKind) (r:List (Str×Addr))=>(match x with
   |(name,kind)=>if (kind==NameKind.free)=true then do let a←cellOf env name;pure (ForInStep.yield ((name,a)::r)) else pure (ForInStep.yield r):Sem (ForInStep (List (Str×Addr))))):Sem (List (Str×Addr)))=pure cl∧
   (∀x c,cl.lookup x=some c→env.cells.lookup x=some c)∧(∀x,(cs.lookup x=env.cells.lookup x∨(x,NameKind.free)∈l)→cl.lookup x=env.cells.lookup x)
 | [],cs,P,_,h=>⟨cs,rfl,h,fun x hx=>by rcases hx with z|z;exact z;cases z⟩
 |(n,k)::r,cs,P,hf,h=>by
  rw [List.forIn_cons]
  by_cases hk:k=.free
  ·subst hk
   obtain⟨c,hc⟩:=hf (n,.free) Yaw rfl
   have h':∀x d,((n,c)::cs).lookup x=some d→env.cells.lookup x=some d:=fun x d e=>by
    rw [YaD] at e
    cases hx:x==n with
    |true=>rw [hx] at e;cases e;rw [eq_of_beq hx];exact hc
    |false=>rw [hx] at e;exact h x d e
   obtain⟨cl,e,h1,h2⟩:=ZbD r ((n,c)::cs) P (fun x hx=>hf x (Yas _ hx)) h'
   refine⟨cl,?_,h1,fun x hx=>?_⟩
   ·rw [←e]
    simp only [beq_self_eq_true,if_true,cellOf,hc]
    rfl
   ·refine h2 x ?_
    rw [YaD]
    cases hxn:x==n with
    |true=>left;rw [eq_of_beq hxn];exact hc.symm
    |false=>
     rcases hx with z|z
     ·exact .inl z
     ·rcases YaB.mp z with q|q
      ·have q1:x=n:=congrArg Prod.fst q
       rw [q1,beq_self_eq_true] at hxn;cases hxn
      ·exact .inr q
  ·have hb:(k==NameKind.free)=false:=by simpa using hk
   obtain⟨cl,e,h1,h2⟩:=ZbD r cs P (fun x hx=>hf x (Yas _ hx)) h
   refine⟨cl,?_,h1,fun x hx=>?_⟩
   ·rw [←e]
    simp only [hb,Ybq,if_false]
    rfl
   ·refine h2 x ?_
    rcases hx with z|z
    ·exact .inl z
    ·rcases YaB.mp z with q|q
     ·exact absurd (congrArg Prod.snd q).symm hk
     ·exact .inr q
theorem Zcv {env:Env} {sc:Scope} (hf:∀x∈sc.names,x.2=.free→∃c,env.cells.lookup x.1=some c):
  ∃cl,closureFor sc env=pure cl∧(∀x c,cl.lookup x=some c→env.cells.lookup x=some c)∧(∀x,(x,NameKind.free)∈sc.names→cl.lookup x=env.cells.lookup x):=by
 obtain⟨cl,e,h1,h2⟩:=ZbD (env:=env) sc.names [] (fun _=>True) hf (fun x c e=>by cases e)
 refine⟨cl,?_,h1,fun x hx=>h2 x (.inr hx)⟩
 unfold closureFor
 exact congrArg (fun(m:Sem (List (Str×Addr)))=>m>>=fun s=>pure s) e
section
variable {prog:Program} {w:World} {A:Around} {E:Value→Shared→Prop} {R:Result→Shared→Prop} {s:Shared}
theorem Zfw {elt target iter:Expr} {ifs:List Expr} {scope:Scope} {pos:Pos} {it acc:Value} {env:Env} (I:Nat→Shared→Prop)
  (turn:∀n s,I n s→wpAny (model prog w) A (pyNext it) (fun r s₁=>match r with
   |none=>R (.ok .next) s₁
   | some v => wpAny (model prog w) A (letOwnedTupleGo target it v) (fun _ s₁' => wpAny (model prog w) A (assign target env v) (fun _ s₂ =>
     wpAny (model prog w) A (forIn ifs true fun c r=>if r=true then do let ok←isTrue c env (eval c env);pure (ForInStep.yield ok) else pure (ForInStep.yield r)) (fun ok s₃=>
      if ok=true then wpAny (model prog w) A (eval elt env) (fun x s₄=>
       wpAny (model prog w) A (call (.builtin "list.append") [acc,x]) (fun _ s₅=>∃m,m<n∧I m s₅) (fun _ _=>False) s₄) (fun _ _=>False) s₃
      else ∃m,m<n∧I m s₃) (fun _ _=>False) s₂) (fun _ _=>False) s₁') (fun _ _=>False) s₁) (fun _ _=>False) s)
  (n:Nat) (h:I n s):
  codeAny (model prog w) A (.compLoop (.ListComp elt [⟨target,iter,ifs,0⟩] scope pos) 0 it acc env) R s:=by
 refine codeAny_loop rfl I (fun n s hI=>?_) n h
 show wpAny _ A ((compTurn (.ListComp elt [⟨target,iter,ifs,0⟩] scope pos) 0 it acc env).onRaise (fun x=>do noteFrame x env;theTreesLotGoes x)) _ _ s
 refine wpAny_noted ?_
 rw [compTurn_list]
 refine wpAny_bind (wpAny_standAt (wpAny_bind (wpAny_mono (turn n s hI) (fun r s₁ h₁=>?_) fun _ _ h'=>h'.elim)))
 cases r with
 |none=>exact wpAny_pure h₁
 |some v=>
  refine wpAny_bind (wpAny_mono h₁ (fun _ s₁' h₁'=>?_) fun _ _ h'=>h'.elim)
  refine wpAny_bind (wpAny_mono h₁' (fun _ s₂ h₂=>wpAny_bind (wpAny_mono h₂ (fun ok s₃ h₃=>?_) fun _ _ h'=>h'.elim)) fun _ _ h'=>h'.elim)
  cases ok with
  |false=>exact wpAny_pure ⟨rfl,h₃⟩
  |true=>
   exact wpAny_bind (wpAny_bind (wpAny_mono h₃ (fun x s₄ h₄=>wpAny_bind (wpAny_mono h₄ (fun _ s₅ h₅=>wpAny_pure (wpAny_pure ⟨rfl,h₅⟩)) fun _ _ h'=>h'.elim)) fun _ _ h'=>h'.elim))
end
noncomputable def capt (σ:St) (cap:List (Option Nat)):St:=cap.map fun o=>o.bind fun i=>(σ[i]?).join
noncomputable def ownC (s:Shared) (sc:Scope):List (Str×Addr):=cellsFrom (s.heap.objs.size+1) sc.names []
theorem ZdH:∀(names:List (Str×NameKind)) (n:Nat) (a b:List (Str×Addr)),cellsFrom n names (a++b)=cellsFrom n names a++b
 | [],_,_,_=>rfl
 |(x,k)::r,n,a,b=>by
  unfold cellsFrom
  split
  ·exact ZdH r (n+1) ((x,n)::a) b
  ·exact ZdH r n a b
theorem ZcV:∀(names:List (Str×NameKind)) (n:Nat) (acc:List (Str×Addr)) (x:Str) (c:Addr),(x,c)∈cellsFrom n names acc→(x,NameKind.cell)∈names∨(x,c)∈acc
 | [],_,_,_,_,h=>.inr h
 |(y,k)::r,n,acc,x,c,h=>by
  unfold cellsFrom at h
  split at h
  ·rename_i hk
   rcases ZcV r (n+1) ((y,n)::acc) x c h with z|z
   ·exact .inl (Yas _ z)
   ·rcases YaB.mp z with e|e
    ·cases e;rw [eq_of_beq hk];exact .inl Yaw
    ·exact .inr e
  ·exact(ZcV r n acc x c h).imp (Yas _) id
theorem Zcw:∀(names:List (Str×NameKind)) (n:Nat) (acc:List (Str×Addr)) (x:Str),((x,NameKind.cell)∈names∨∃c,(x,c)∈acc)→∃c,(x,c)∈cellsFrom n names acc
 | [],_,_,_,h=>by rcases h with h|h;cases h;exact h
 |(y,k)::r,n,acc,x,h=>by
  unfold cellsFrom
  split
  ·refine Zcw r (n+1) ((y,n)::acc) x ?_
   rcases h with h|⟨c,h⟩
   ·rcases YaB.mp h with e|e
    ·cases e;exact .inr ⟨n,Yaw⟩
    ·exact .inl e
   ·exact .inr ⟨c,Yas _ h⟩
  ·rename_i hk
   refine Zcw r n acc x ?_
   rcases h with h|h
   ·rcases YaB.mp h with e|e
    ·cases e;exact absurd rfl hk
    ·exact .inl e
   ·exact .inr h
theorem Za6 {x:Str} {c:Addr}:∀{l:List (Str×Addr)},(x,c)∈l→∃c',l.lookup x=some c'
 |(y,d)::r,h=>by
  rw [YaD]
  cases hx:x==y with
  |true=>exact⟨d,rfl⟩
  |false=>
   rcases YaB.mp h with e|e
   ·cases e;simp at hx
   ·exact Za6 e
theorem Zbt {x:Str}:∀(l m:List (Str×Addr)),(l++m).lookup x=(match l.lookup x with|some c=>some c|none=>m.lookup x)
 | [],m=>rfl
 |(y,d)::r,m=>by
  rw [List.cons_append,YaD,YaD]
  cases hx:x==y with
  |true=>rfl
  |false=>exact Zbt r m
section
variable {M:Model} {A:Around} {E:Value→Shared→Prop} {s:Shared}
theorem Zbq {scope:Scope} {globals:Addr} {closure:List (Str×Addr)} {qual:Str} {func:Option Addr} {code:Value} {outer:Env} {builtins:Addr} {Q:Env→Shared→Prop}
  (hQ:Q (newEnv scope s.heap.objs.size globals (ownC s scope++closure) qual func code (some outer) builtins) {s with heap:=pushCells (s.heap.push {cls:=.type "dict",data:=.dict #[]}) scope.names}):
  wpAny M A (newFunctionEnv scope globals closure [] qual func code (some outer) builtins) Q E s:=by
 simp only [newFunctionEnv,Option.isSome_some,if_true]
 refine wpAny_bind (wpAny_alloc ?_)
 refine wpAny_bind (wpAny_layCells _ (fun name kind cells=>by cases hkc:kind==NameKind.cell<;>simp [hkc]) _ _ _ _ ?_)
 rw [show ({s with heap:=s.heap.push {cls:=.type "dict",data:=.dict #[]}}:Shared).heap.objs.size=s.heap.objs.size+1 from Ybu ..]
 rw [show cellsFrom (s.heap.objs.size+1) scope.names closure=ownC s scope++closure from ZdH scope.names _ [] closure]
 refine wpAny_bind ?_
 rw [List.forIn_nil]
 exact wpAny_pure (wpAny_pure hQ)
end
noncomputable def cxC (X:Cx) (sc:Scope) (cl:List (Str×Addr)) (N':List Str) (fp:List Addr) (s₃:Shared) (H₃:Hp):Cx:=
 {X with env:=compEnvC sc (ownC s₃ sc++cl) s₃.heap.objs.size X.env,N:=N',s₀:=s₃,H₀:=H₃,outer:=X.stack,ex:=fp,fn:=fun x=>sc.names.lookup x==some .cell,pn:=[],xe:=fun _ _=>False}
noncomputable def PTs (X:Cx) (ifs:List Expr) (t:TT):Prop:=
 ∀(pins:List (Addr×Obj)) (s:Shared) (σ:St) (H:Hp) (Q:Bool→Hp→Prop),Inv X pins σ H s→t σ H Q→
  wpAny (model X.prog X.w) X.A (forIn ifs true fun c r=>if r=true then do let ok←isTrue c X.env (eval c X.env);pure (ForInStep.yield ok) else pure (ForInStep.yield r)) (TP X pins σ Q) X.xe s
noncomputable def tTrue:TT:=fun _ H Q=>Q true H
theorem ZkC {X:Cx}:PTs X [] tTrue:=fun _ _ _ H _ I h=>wpAny_tests_nil ⟨H,I,h⟩
theorem ZkB {X:Cx} {c:Expr} {t:TT} (h:PT X c t):PTs X [c] t:=fun pins s σ H Q I q=>wpAny_tests_one (h pins s σ H Q I q)
structure CompOk (X:Cx) (sc:Scope) (N':List Str) (cap:List (Option Nat)):Prop where
 kind:sc.kind=.function
 names:∀x∈sc.names,x.2=.local→sc.names.lookup x.1=some .local
 free:∀x∈sc.names,x.2=.free→X.env.kindOf x.1=some .cell∨X.env.kindOf x.1=some .free
 len:cap.length=N'.length
 look:∀(j:Nat) (x:Str) (i:Nat),N'[j]?=some x→cap[j]?=some (some i)→X.N[i]?=some x∧(x,NameKind.free)∈sc.names
noncomputable def ZjH (J:It) (D:Addr) (g:TG) (tt:TT) (te:TE) (Q:VK) (W:Nat→Nat→St→Hp→Prop):Prop:=
 ∀i m σ H,W i m σ H→(J.stop i H∧Q (.ref D) H)∨(J.go i H∧∃N:St→Hp→Prop,(∀σ' H',N σ' H'→∃m',m'<m∧W (i+1) m' σ' H')∧
  ∀x H',J.yld i H x H'→g x σ H' fun σ2 H2=>tt σ2 H2 fun b H3=>if b=true then te σ2 H3 fun y H4=>∃xs,H4 D=some (.lst xs)∧xs.length<sizeLine∧N σ2 (upd H4 D (.lst (xs++[y]))) else N σ2 H3)
noncomputable def tComp (cap:List (Option Nat)) (wi:TI) (g:TG) (tt:TT) (te:TE):TE:=fun σ H Q=>wi σ H fun J H1=>∀D,H1 D=none→
 ∃W:Nat→Nat→St→Hp→Prop,(∃m,W 0 m (capt σ cap) (upd H1 D (.lst [])))∧ZjH J D g tt te Q W
theorem Zbb {env:Env}:∀{names:List (Str×NameKind)} {x:Str},names.lookup x=some .free→
  (names.map fun(n,k)=>if (k==NameKind.free&&env.scope.kind==.function&&env.kindOf n==some .cell) then (n,NameKind.cell) else (n,k)).lookup x=some .cell∨
  (names.map fun(n,k)=>if (k==NameKind.free&&env.scope.kind==.function&&env.kindOf n==some .cell) then (n,NameKind.cell) else (n,k)).lookup x=some .free
 | [],_,h=>by simp at h
 |(n,k)::r,x,h=>by
  have ih:= @Zbb env r x
  show List.lookup x ((if (k==NameKind.free&&env.scope.kind==.function&&env.kindOf n==some .cell)=true then (n,NameKind.cell) else (n,k))::_)=_∨
   List.lookup x ((if (k==NameKind.free&&env.scope.kind==.function&&env.kindOf n==some .cell)=true then (n,NameKind.cell) else (n,k))::_)=_
  cases hx:x==n with
  |true=>
   simp only [YaD,hx] at h
   cases h
   by_cases hc:(NameKind.free==NameKind.free&&env.scope.kind==.function&&env.kindOf n==some .cell)=true
   ·rw [if_pos hc];simp only [YaD,hx];exact .inl trivial
   ·rw [if_neg hc];simp only [YaD,hx];exact .inr trivial
  |false=>
   simp only [YaD,hx] at h
   by_cases hc:(k==NameKind.free&&env.scope.kind==.function&&env.kindOf n==some .cell)=true
   ·rw [if_pos hc];simp only [YaD,hx];exact ih h
   ·rw [if_neg hc];simp only [YaD,hx];exact ih h
theorem ZaQ:∀{names:List (Str×NameKind)} {x:Str},(x,NameKind.free)∈names→(names.map (·.1)).Nodup→names.lookup x=some .free
 |(n,k)::r,x,h,h3=>by
  rw [YaD]
  rcases YaB.mp h with q|q
  ·cases q;simp
  ·have hn:x≠n:=fun e=>by
    subst e
    rw [YaK,Ya3] at h3
    exact h3.1 (YaR.mpr ⟨(x,.free),q,rfl⟩)
   have hb:(x==n)=false:=by simpa using hn
   rw [hb]
   rw [YaK,Ya3] at h3
   exact ZaQ q h3.2
theorem Zbo {kd:NameKind}:∀{names:List (Str×NameKind)} {x:Str},(x,kd)∈names→(names.map (·.1)).Nodup→names.lookup x=some kd
 |(n,k)::r,x,h,h3=>by
  rw [YaD]
  rcases YaB.mp h with q|q
  ·cases q;simp
  ·have hn:x≠n:=fun e=>by
    subst e
    rw [YaK,Ya3] at h3
    exact h3.1 (YaR.mpr ⟨(x,kd),q,rfl⟩)
   have hb:(x==n)=false:=by simpa using hn
   rw [hb]
   rw [YaK,Ya3] at h3
   exact Zbo q h3.2
section
variable {X:Cx} {elt tg iter:Expr} {ifs:List Expr} {sc:Scope} {pos:Pos} {N':List Str} {cap:List (Option Nat)} {g:TG} {tt:TT} {te:TE}
theorem Zee {pins:List (Addr×Obj)} {σ:St} {H₂:Hp} {s₂:Shared} {it:Addr} {fp:List Addr} {tn:Nat→Heap→Prop} {J:It} {cl:List (Str×Addr)} {Q:VK} {RR:Value→Addr→Result→Shared→Prop} {E:Value→Shared→Prop}
  (hc:X.calm=true) (ok:CompOk X sc N' cap) (nd:(sc.names.map (·.1)).Nodup)
  (hcl1:∀x c,cl.lookup x=some c→X.env.cells.lookup x=some c) (hcl2:∀x,(x,NameKind.free)∈sc.names→cl.lookup x=X.env.cells.lookup x)
  (hin:∀(fp:List Addr) (s₃:Shared) (H₃:Hp),PG (cxC X sc cl N' fp s₃ H₃) tg g∧PTs (cxC X sc cl N' fp s₃ H₃) ifs tt∧PE (cxC X sc cl N' fp s₃ H₃) elt te)
  (I2:Inv X pins σ H₂ s₂) (T:Turn X.prog X.w X.K tg J fp it tn) (st2:tn 0 s₂.heap) (f2:∀b∈fp,FpOk X pins H₂ b)
  (hW:∀D,H₂ D=none→∃W:Nat→Nat→St→Hp→Prop,(∃m,W 0 m (capt σ cap) (upd H₂ D (.lst [])))∧ZjH J D g tt te Q W)
  (hR:∀(C D:Addr) (s':Shared) (H':Hp),Inv X pins σ H' s'→(∃m,s'.heap.Ns C m)→FpOk X pins H' C→Q (.ref D) H'→RR (.ref D) C (.ok .next) s'):
  wpAny (model X.prog X.w) X.A (newList []) (fun acc s₃=>wpAny (model X.prog X.w) X.A (newFunctionEnv sc X.env.globals cl [] X.env.qual none .none (some X.env)) (fun cenv s₄=>
   codeAny (model X.prog X.w) X.A (.compStart (.ListComp elt [⟨tg,iter,ifs,0⟩] sc pos) 0 (.ref it) acc {cenv with scope:=relabel sc X.env}) (RR acc cenv.locals) s₄) E s₃) E s₂:=by
 refine wpAny_newList ?_ (by show 0≤sizeLine;exact YaU _)
 have I3:Inv X pins σ (upd H₂ s₂.heap.objs.size (.lst [])) {s₂ with heap:=s₂.heap.push {cls:=.type "list",data:=.seq ([]:List Value).toArray}}:=I2.lnew (its:=[]) (t':=s₂.toks) .nil (YaU _)
 have fr2:H₂ s₂.heap.objs.size=none:=I2.fresh
 have st3:tn 0 (s₂.heap.push {cls:=.type "list",data:=.seq ([]:List Value).toArray}):=T.keep _ _ _ st2 fun b _ o e=>Yae _ e
 have nefp:∀b∈fp,b≠s₂.heap.objs.size:=fun b hb z=>by
  obtain⟨o,e,_⟩:=T.obj _ _ st2 b hb
  exact absurd (Yat e) (by rw [z];exact YaO _)
 have f3:∀b∈fp,FpOk X pins (upd H₂ s₂.heap.objs.size (.lst [])) b:=fun b hb=>⟨by rw [Zaf (nefp b hb)];exact(f2 b hb).1,(f2 b hb).2⟩
 obtain⟨W,⟨m0,w0⟩,turn⟩:=hW s₂.heap.objs.size fr2
 generalize hs3:({s₂ with heap:=s₂.heap.push {cls:=.type "list",data:=.seq ([]:List Value).toArray}}:Shared)=s₃ at I3⊢
 have st3':tn 0 s₃.heap:=by rw [←hs3];exact st3
 generalize hH3:upd H₂ s₂.heap.objs.size (.lst [])=H₃ at I3 f3 w0
 generalize s₂.heap.objs.size=D at turn w0⊢
 refine Zbq ?_
 have hns₁:(pushCells (s₃.heap.push {cls:=.type "dict",data:=.dict #[]}) sc.names).Ns s₃.heap.objs.size (fun _=>none):=(Heap.Ns.new s₃.heap (.type "dict")).keeps (pushCells_keeps _ _)
 have old:∀b o,s₃.heap.get? b=some o→(pushCells (s₃.heap.push {cls:=.type "dict",data:=.dict #[]}) sc.names).get? b=some o:=fun b o e=>pushCells_keeps _ _ b o (Yae _ e)
 have okc:=cellsFrom_ok sc.names (s₃.heap.push {cls:=.type "dict",data:=.dict #[]}) (s₃.heap.objs.size+1) [] ⟨fun _ _ hm=>(nomatch hm),List.Pairwise.nil⟩ (by rw [Ybu];exact Yad _)
 rw [Ybu] at okc
 replace okc:CellsOk (pushCells (s₃.heap.push {cls:=.type "dict",data:=.dict #[]}) sc.names) (s₃.heap.objs.size+1) (ownC s₃ sc):=okc
 generalize pushCells (s₃.heap.push {cls:=.type "dict",data:=.dict #[]}) sc.names=h₁ at hns₁ old okc⊢
 try dsimp only
 have onF:∀x,(x,NameKind.free)∈sc.names→(ownC s₃ sc).lookup x=none:=fun x hx=>by
  cases e:(ownC s₃ sc).lookup x with
  |none=>rfl
  |some c=>
   rcases ZcV _ _ _ _ _ (mem_of_lookup e) with z|z
   ·have e1:=ZaQ hx nd
    have e2:=Zbo z nd
    rw [e1] at e2;cases e2
   ·cases z
 have onL:∀x c,(ownC s₃ sc++cl).lookup x=some c→((ownC s₃ sc).lookup x=some c∧s₃.heap.objs.size+1≤c)∨(cl.lookup x=some c∧c<s₃.heap.objs.size):=fun x c e=>by
  rw [Zbt] at e
  cases q:(ownC s₃ sc).lookup x with
  |some c'=>rw [q] at e;cases e;exact .inl ⟨rfl,(okc.empty x c (mem_of_lookup q)).2⟩
  |none=>
   rw [q] at e
   obtain⟨v,hv⟩:=I3.cell x c (hcl1 x c e)
   exact .inr ⟨e,hv.lt⟩
 have frC:H₃ s₃.heap.objs.size=none:=I3.fresh
 have fC:=I3.fpOk (H':=H₃) (Yad _) frC
 obtain⟨_,c1,c2,c3,c4,c5⟩:=fC
 have hin':=hin fp s₃ H₃
 -- the block's context
 have okX:(cxC X sc cl N' fp s₃ H₃).Ok:={
  mod:=I3.ok.mod,kind:=(by show (relabel sc X.env).kind=.function;exact ok.kind),glob:=I3.ok.glob,blt:=I3.ok.blt,above:=Yad _,
  inj:=fun x y c e e'=>(by
   rcases onL x c e with ⟨a1,a2⟩|⟨a1,a2⟩<;>rcases onL y c e' with ⟨b1,b2⟩|⟨b1,b2⟩
   ·exact name_of_addr okc.apart (mem_of_lookup a1) (mem_of_lookup b1)
   ·exact absurd (YbS b2 a2) (YaO _)
   ·exact absurd (YbS a2 b2) (YaO _)
   ·exact I3.ok.inj x y c (hcl1 x c a1) (hcl1 y c b1)),
  has:=fun x hx=>(by
   have key:∀(names:List (Str×NameKind)),((names.map fun(n,k)=>if (k==NameKind.free&&X.env.scope.kind==.function&&X.env.kindOf n==some .cell) then (n,NameKind.cell) else (n,k)).lookup x=some .cell∨
     (names.map fun(n,k)=>if (k==NameKind.free&&X.env.scope.kind==.function&&X.env.kindOf n==some .cell) then (n,NameKind.cell) else (n,k)).lookup x=some .free)→(x,NameKind.free)∈names∨(x,NameKind.cell)∈names:=by
    intro names
    induction names with
    |nil=>intro h;simp at h
    |cons a r ih=>
     obtain⟨n,k⟩:=a
     intro h
     rw [YaK] at h
     cases hxn:x==n with
     |true=>
      have e:x=n:=eq_of_beq hxn
      subst e
      by_cases hk:k=.free
      ·subst hk;exact .inl Yaw
      ·have hb:(k==NameKind.free)=false:=by simpa using hk
       simp only [hb,Bool.false_and,Ybq,if_false,YaD,beq_self_eq_true] at h
       rcases h with z|z
       ·cases Option.some.inj z;exact .inr Yaw
       ·exact absurd (Option.some.inj z) hk
     |false=>
      refine(ih ?_).imp (Yas _) (Yas _)
      by_cases hcnd:(k==NameKind.free&&X.env.scope.kind==.function&&X.env.kindOf n==some .cell)=true
      ·simp only [hcnd,if_true,YaD,hxn] at h;exact h
      ·simp only [hcnd,Ybq,if_false,YaD,hxn] at h;exact h
   show ∃c,(ownC s₃ sc++cl).lookup x=some c
   rw [Zbt]
   rcases key sc.names hx with hm|hm
   ·obtain⟨c,hcx⟩:=I3.ok.has x (ok.free _ hm rfl)
    rw [onF x hm]
    exact⟨c,(hcl2 x hm).trans hcx⟩
   ·obtain⟨c,hm'⟩:=Zcw sc.names (s₃.heap.objs.size+1) [] x (.inl hm)
    obtain⟨c',e⟩:=Za6 hm'
    exact⟨c',by rw [show (ownC s₃ sc).lookup x=some c' from e]⟩),
  cab:=fun x c e e'=>(by
   rcases onL x c e' with ⟨_,a2⟩|⟨a1,a2⟩
   ·exact YbE a2
   ·exfalso
    have hk:sc.names.lookup x=some .cell:=eq_of_beq e
    obtain⟨c2,hm'⟩:=Zcw sc.names (s₃.heap.objs.size+1) [] x (.inl (mem_of_lookup hk))
    obtain⟨c3,e3⟩:=Za6 hm'
    have e4:(ownC s₃ sc++cl).lookup x=some c3:=by rw [Zbt,show (ownC s₃ sc).lookup x=some c3 from e3]
    have e5:=(okc.empty x c3 (mem_of_lookup e3)).2
    have e6:c3=c:=Option.some.inj (e4.symm.trans e')
    rw [e6] at e5
    exact absurd (YbS a2 e5) (YaO _)),
  hd:=I3.ok.hd,frames:=I3.ok.frames,stk:=.inl rfl,
  exf:=fun b hb=>⟨fun z=>(by
    have z':b=s₃.heap.objs.size:=z
    obtain⟨o,e,_⟩:=T.obj _ _ st3' b hb
    exact absurd (Yat e) (by rw [z'];exact YaO _)),fun x c e=>(by
    rcases onL x c e with ⟨_,a2⟩|⟨a1,_⟩
    ·intro z
     obtain⟨o,e,_⟩:=T.obj _ _ st3' b hb
     have:=Yat e
     rw [z] at a2
     exact absurd (YbS this a2) (YaO _)
    ·exact(f3 b hb).2.2.2.2.1 x c (hcl1 x c a1))⟩,
  bs:=fun b o e=>I3.bs b o e,bsz:=YaC I3.ok.bsz I3.sz,
  noex:=fun b o e hb=>(by
   rcases (f3 b hb).2.2.2.1 with z|z
   ·exact I3.ok.noex b o e z
   ·exact absurd (Yax (Yat e) (YaC I3.ok.bsz z)) (YaO _)),
  exfs:=fun b hb hf=>(YaB.mp (I3.stkSub b hf)).elim (f3 b hb).2.1 (f3 b hb).2.2.1,
  funs:=I3.stack,frf:=I3.stkFree}
 have I4:Inv (cxC X sc cl N' fp s₃ H₃) [] (capt σ cap) H₃ {s₃ with heap:=h₁}:={
  ok:=okX,os:=rfl,bare:=I3.bare,base:=Un.kept old,
  loc:=⟨_,hns₁,fun i x v e1 e2 _=>(by
   have e2':(cap.map fun o=>o.bind fun i=>(σ[i]?).join)[i]?=some (some v):=e2
   rw [Yam] at e2'
   cases hq:cap[i]? with
   |none=>rw [hq] at e2';cases e2'
   |some q=>
    cases q with
    |none=>rw [hq] at e2';cases e2'
    |some j=>
     rw [hq] at e2'
     have e3:(σ[j]?).join=some v:=Option.some.inj e2'
     have e4:σ[j]?=some (some v):=by
      cases hz:σ[j]? with
      |none=>rw [hz] at e3;cases e3
      |some z=>rw [hz] at e3;have e3':z=some v:=e3;rw [e3']
     obtain⟨hN,hm⟩:=ok.look i x j e1 hq
     have hk:=ok.free _ hm rfl
     obtain⟨m3,hn3,hl3⟩:=I3.loc
     have hv:Vis X.env.scope x:=hk.elim (fun z=>.inr (.inl z)) (fun z=>.inr (.inr z))
     obtain⟨u,r,lk⟩:=hl3 j x v hN e4 hv
     refine⟨u,r,?_⟩
     rcases lk with ⟨z,_⟩|⟨_,c,hcx,o,ho,hd⟩
     ·rcases hk with q|q
      ·rw [z] at q;cases q
      ·rw [z] at q;cases q
     ·refine .inr ⟨Zbb (ZaQ hm nd),c,(by show (ownC s₃ sc++cl).lookup x=some c;rw [Zbt,onF x hm];exact(hcl2 x hm).trans hcx),o,old c o ho,hd⟩)⟩,
  cell:=fun x c e=>(by
   rcases onL x c e with ⟨a1,_⟩|⟨a1,_⟩
   ·exact⟨none,(okc.empty x c (mem_of_lookup a1)).1⟩
   ·obtain⟨v,o,ho,hd⟩:=I3.cell x c (hcl1 x c a1)
    exact⟨v,o,old c o ho,hd⟩),
  free:=frC,freeC:=fun x c e=>(by
   rcases onL x c e with ⟨_,a2⟩|⟨a1,_⟩
   ·exact I3.hok.fresh (YbE a2)
   ·exact I3.freeC x c (hcl1 x c a1)),pin:=fun p hp=>(by simp [cxC] at hp),
  hok:=I3.hok.kept old,len:=(by show (cap.map _).length=N'.length;rw [Yak];exact ok.len)}
 have st4:tn 0 h₁:=T.keep _ _ _ st3' fun b _ o e=>old b o e
 have stat:∀{H':Hp},(∀b∈fp,H' b=none)→∀b∈fp,FpOk (cxC X sc cl N' fp s₃ H₃) [] H' b:=fun {H'} hn b hb=>
  ⟨hn b hb,(okX.exf b hb).1,okX.exfs b hb,.inl hb,(okX.exf b hb).2,fun p hp=>by simp [cxC] at hp⟩
 have loop:codeAny (model X.prog X.w) X.A (.compLoop (.ListComp elt [⟨tg,iter,ifs,0⟩] sc pos) 0 (.ref it) (.ref D) (compEnvC sc (ownC s₃ sc++cl) s₃.heap.objs.size X.env)) (RR (.ref D) s₃.heap.objs.size) {s₃ with heap:=h₁}:=by
  refine Zfw (fun n s'=>∃i σ' H',Inv (cxC X sc cl N' fp s₃ H₃) [] σ' H' s'∧tn i s'.heap∧(∀b∈fp,H' b=none)∧W i n σ' H') ?_ m0 ⟨0,_,_,I4,st4,fun b hb=>(f3 b hb).1,w0⟩
  rintro n s5 ⟨i,σ5,H5,I5,st5,fr5,w5⟩
  rcases turn i n σ5 H5 w5 with ⟨stop,qn⟩|⟨go,N,hN,step⟩
  ·refine thn (T.done (cxC X sc cl N' fp s₃ H₃) rfl rfl rfl hc i [] s5 σ5 H5 (fun _ _=>False) I5 (stat fr5) st5 stop) ?_
   rintro r s6 ⟨hr,I6⟩
   subst hr
   have nC:H5 s₃.heap.objs.size=none:=I6.free
   obtain⟨m6,hn6,_⟩:=I6.loc
   have hch:∀b∈fp,(b∈X.ex∨X.s₀.heap.objs.size≤b)∧b≠X.env.locals∧(∀x c,X.env.cells.lookup x=some c→c≠b)∧∀p∈X.pn++pins,p.1≠b:=fun b hb=>
    ⟨(f3 b hb).2.2.2.1,(f3 b hb).2.1,(f3 b hb).2.2.2.2.1,(f3 b hb).2.2.2.2.2⟩
   exact hR _ _ s6 H5 (I3.call' I6.os I6.base I6.hok I6.bare hch) ⟨m6,hn6⟩ ⟨nC,c1,c2,c3,c4,c5⟩ qn
  ·refine thn (T.item (cxC X sc cl N' fp s₃ H₃) rfl rfl rfl hc i [] s5 σ5 H5 (fun _ _=>False) I5 (stat fr5) st5 go) ?_
   rintro r s6 ⟨u,hr,h6⟩
   subst hr
   refine thn h6 ?_
   rintro _ s7 ⟨x,H7,I7,r7,y7,st7,fr7⟩
   have I7':=I7.pinned (stat fr7) (T.obj _ _ st7)
   refine thn (hin'.1 _ s7 σ5 H7 x u _ I7' r7 (step x H7 y7)) ?_
   rintro _ s8 ⟨σ8,H8,I8,q8⟩
   have again:∀{σ9:St} {H9:Hp} {s9:Shared},Inv (cxC X sc cl N' fp s₃ H₃) ([]++Ze4 fp s7.heap) σ9 H9 s9→N σ9 H9→∃m,m<n∧∃i σ' H',Inv (cxC X sc cl N' fp s₃ H₃) [] σ' H' s9∧tn i s9.heap∧(∀b∈fp,H' b=none)∧W i m σ' H':=fun {σ9 H9 s9} I9 n9=>by
    obtain⟨m',hm,w9⟩:=hN σ9 H9 n9
    refine⟨m',hm,i+1,σ9,H9,I9.unpinned,T.keep _ _ _ st7 fun b hb o e=>(I9.pin (b,o) (YaF _ (YaF _ (Zb1 hb e)))).1,fun b hb=>?_,w9⟩
    obtain⟨o,e,d⟩:=T.obj _ _ st7 b hb
    exact(I9.pin (b,o) (YaF _ (YaF _ (Zb1 hb e)))).2.1
   refine thn (hin'.2.1 _ s8 σ8 H8 _ I8 q8) ?_
   rintro b s9 ⟨H9,I9,q9⟩
   cases b with
   |false=>exact again I9 q9
   |true=>
    rw [if_pos rfl]
    refine thn (hin'.2.2 _ s9 σ8 H9 _ I9 q9) ?_
    rintro v s10 ⟨y,H10,I10,r10,xs,e10,z10,n10⟩
    refine thn (Ze8 (X:=cxC X sc cl N' fp s₃ H₃) _ s10 σ8 H10 (.ref D) [y] (.ref D) [v] (fun v' H'=>v'=.non∧H'=upd H10 D (.lst (xs++[y]))) I10 rfl (.cons r10 .nil) ⟨D,xs,y,rfl,rfl,e10,z10,rfl,rfl⟩) ?_
    rintro _ s11 ⟨v',H11,I11,_,_,e11⟩
    rw [e11] at I11
    exact again I11 n10
 exact codeAny_compStart_list loop (T.self _ 0 _ _ _ st4 loop)
theorem ZkT {wi:TI} (hc:X.calm=true) (ok:CompOk X sc N' cap) (nd:(sc.names.map (·.1)).Nodup) (hi:PI X tg iter wi)
  (hin:∀(cl:List (Str×Addr)) (fp:List Addr) (s₃:Shared) (H₃:Hp),PG (cxC X sc cl N' fp s₃ H₃) tg g∧PTs (cxC X sc cl N' fp s₃ H₃) ifs tt∧PE (cxC X sc cl N' fp s₃ H₃) elt te)
  (hs:∀x,foldedSetIterable iter X.env x=pure x:=by intro _;rfl):
  PE X (.ListComp elt [⟨tg,iter,ifs,0⟩] sc pos) (tComp cap wi g tt te):=by
 intro pins s σ H Q I h
 obtain⟨cl,hclos,hcl1,hcl2⟩:=Zcv (env:=X.env) (sc:=sc) fun x hx hk=>I.ok.has _ (ok.free x hx hk)
 rw [eval_ListComp]
 refine wpAny_comprehension_free (use:=none) rfl hs hclos ok.kind ok.names (thn (hi pins s σ H _ I h) fun xv s₁ h₁=>thn h₁ fun itv s₂ h₂=>?_)
 obtain⟨it,fp,tn,J,H2,e,I2,T,st2,f2,hW⟩:=h₂
 subst e
 refine Zee (RR:=fun acc C=>compPost (model X.prog X.w) X.A X.xe none (EP X pins σ Q) acc C) hc ok nd hcl1 hcl2 (hin cl) I2 T st2 f2 hW ?_
 intro C D s' H' I' hm f q
 obtain⟨m,hn⟩:=hm
 refine⟨m,hn,fun h' hs'=>⟨.ref D,H',?_,rfl,q⟩⟩
 obtain⟨f0,f1,f2,f3,f4,f5⟩:=f
 exact I'.turned (t':=s'.toks) (fun b o hb e=>hs'.extBut b o hb e) f0 f1 f3 f4 f5
theorem ZkF {wi:TI} {i:Nat} {y:Str} {py spos:Pos} (hN:X.N.Nodup) (hi':X.N[i]?=some y) (hy:X.env.scope.names.lookup y=some .local)
  (hsw:swapsWith (.ListComp elt [⟨tg,iter,ifs,0⟩] sc pos) (some (.Name y py)) spos.line X.env=pure true)
  (hc:X.calm=true) (ok:CompOk X sc N' cap) (nd:(sc.names.map (·.1)).Nodup) (hi:PI X tg iter wi)
  (hin:∀(cl:List (Str×Addr)) (fp:List Addr) (s₃:Shared) (H₃:Hp),PG (cxC X sc cl N' fp s₃ H₃) tg g∧PTs (cxC X sc cl N' fp s₃ H₃) ifs tt∧PE (cxC X sc cl N' fp s₃ H₃) elt te)
  (hs:∀x,foldedSetIterable iter X.env x=pure x:=by intro _;rfl):
  PS X (.Assign [.Name y py] (.ListComp elt [⟨tg,iter,ifs,0⟩] sc pos) spos) (tAsg (tComp cap wi g tt te) (gName i)):=by
 intro pins s σ H D I h
 obtain⟨cl,hclos,hcl1,hcl2⟩:=Zcv (env:=X.env) (sc:=sc) fun x hx hk=>I.ok.has _ (ok.free x hx hk)
 rw [exec_Assign_Name_used _ _ _ _ hsw]
 refine wpAny_bind (wpAny_standAt (wpAny_bind ?_))
 show wpAny _ X.A (do let _←comprehension (.ListComp elt [⟨tg,iter,ifs,0⟩] sc pos) sc X.env _ (newList []) false (eval iter X.env) (some (assign (.Name y py) X.env))) _ _ s
 refine wpAny_bind (wpAny_mono (wpAny_comprehension_free (use:=some (assign (.Name y py) X.env)) (Q:=fun _ s'=>SP X pins D .next s') rfl hs hclos ok.kind ok.names
  (thn (hi pins s σ H _ I h) fun xv s₁ h₁=>thn h₁ fun itv s₂ h₂=>?_)) (fun _ s' hq=>wpAny_pure (wpAny_pure hq)) fun _ _ e=>e)
 obtain⟨it,fp,tn,J,H2,e,I2,T,st2,f2,hW⟩:=h₂
 subst e
 refine Zee (RR:=fun acc C=>compPost (model X.prog X.w) X.A X.xe (some (assign (.Name y py) X.env)) (fun _ s'=>SP X pins D .next s') acc C) hc ok nd hcl1 hcl2 (hin cl) I2 T st2 f2 hW ?_
 intro C L s' H' I' hm f q
 obtain⟨m,hn⟩:=hm
 obtain⟨f0,f1,f2,f3,f4,f5⟩:=f
 obtain⟨oC,es,ep,hoC,hdC,hrest⟩:=id hn
 have I'':Inv X (pins++[(C,oC)]) σ H' s':=I'.pins_of fun p hp=>by
  rcases Ybh.mp hp with z|z
  ·exact I'.pin p (YaF _ z)
  ·have e:p=(C,oC):=by simpa using z
   subst e
   exact⟨hoC,f0,f1,f2,fun v z=>by rw [hdC] at z;cases z⟩
 show wpAny _ X.A (assign (.Name y py) X.env (.ref L)) _ _ _
 refine wpAny_assign_Name (Zdh I'' hN hi' (Or.inl hy) (v:=.ref L) rfl (fun s'' I3=>?_) (.inr hy))
 have eC:=(I3.pin (C,oC) (YaF _ (YaF _ (by simp)))).1
 refine⟨m,⟨oC,es,ep,eC,hdC,hrest⟩,fun h' hs'=>⟨_,H',?_,q⟩⟩
 have I4:Inv X pins (σ.set i (some (.ref L))) H' s'':=I3.unpinned
 exact I4.turned (t':=s''.toks) (fun b o hb e=>hs'.extBut b o hb e) f0 f1 f3 f4 f5
end
end L2
namespace PySem
open Sem (wp)
open AutoSeq1 (wpAny_loadPart')
section
variable {prog:Program} {w:World} {A:Around} {E:Value→Shared→Prop} {s:Shared}
theorem ZcJ {it t:Addr} {i:Nat} {items} {x:Value} {Q:Value→Shared→Prop} (hit:s.heap.IsTupleIter it t i)
  (ht:s.heap.IsTuple t items) (hx:items[i]?=some x)
  (hQ:∀h',h'.IsTupleIter it t (i+1)→Heap.SameBut it s.heap h'→Q x {s with heap:=h'}):
  wpAny (model prog w) A (Builtin.SmallTypes.nextOf (.ref it)) Q E s:=by
 obtain⟨o,ho,hc,hd⟩:=id hit
 obtain⟨ol,hol,_,nl,hdl⟩:=ht
 unfold Builtin.SmallTypes.nextOf
 refine wpAny_bind (wpAny_callSpecial?_slot (name:=Str.ofString "__next__") hit.typeIs F.slot_tuple_iterator_next
  (wpAny_call_entry F.slot_tuple_iterator_next hit.typeIs F.entry_tuple_iterator_next ?_ (F.args_tuple_iterator_next_1 _)))
 show wpAny _ _ (field (.ref it) 0>>=_) _ _ s
 refine wpAny_bind (wpAny_field ho hd (x:=.ref t) rfl ?_)
 show wpAny _ _ (if (Value.ref t==Value.none)=true then _ else _) _ _ s
 rw [if_neg (show ¬((Value.ref t==Value.none)=true) from Yal)]
 show wpAny _ _ (field (.ref it) 1>>=_) _ _ s
 refine wpAny_bind (wpAny_field ho hd (x:=.int i 0) rfl ?_)
 show wpAny _ _ (seqItems? (.ref t)>>=_) _ _ s
 refine wpAny_bind (wpAny_seqItems hol hdl ?_)
 simp only [YaY,hx]
 refine wpAny_bind (wpAny_setField ho hd (by simp) (wpAny_pure ⟨x,rfl,wpAny_pure (hQ _ ?_ (Heap.SameBut.update ..))⟩))
 exact⟨_,Ya7 _ ho (Obj.isFreed_of_fields (Obj.data_mapFields hd _)),(Obj.cls_mapFields ..).trans hc,by
  rw [Obj.data_mapFields hd];simp [rawInt]⟩
theorem Zda {it t:Addr} {i:Nat} {items} {Q:Value→Shared→Prop} (hh:A.handled=none)
  (hit:s.heap.IsTupleIter it t i) (hl:s.heap.IsTuple t items) (hx:items[i]?=none)
  (hE:∀h' e,Heap.ExtBut it s.heap h'→(∃o,h'.get? e=some o∧o.cls=.type "StopIteration")→E (.ref e) {s with heap:=h'}):
  wpAny (model prog w) A (Builtin.SmallTypes.nextOf (.ref it)) Q E s:=by
 obtain⟨o,ho,hc,hd⟩:=id hit
 obtain⟨ol,hol,_,nl,hdl⟩:=hl
 unfold Builtin.SmallTypes.nextOf
 refine wpAny_bind (wpAny_callSpecial?_slot (name:=Str.ofString "__next__") hit.typeIs F.slot_tuple_iterator_next
  (wpAny_call_entry F.slot_tuple_iterator_next hit.typeIs F.entry_tuple_iterator_next ?_ (F.args_tuple_iterator_next_1 _)))
 show wpAny _ _ (field (.ref it) 0>>=_) _ _ s
 refine wpAny_bind (wpAny_field ho hd (x:=.ref t) rfl ?_)
 show wpAny _ _ (if (Value.ref t==Value.none)=true then _ else _) _ _ s
 rw [if_neg (show ¬((Value.ref t==Value.none)=true) from Yal)]
 show wpAny _ _ (field (.ref it) 1>>=_) _ _ s
 refine wpAny_bind (wpAny_field ho hd (x:=.int i 0) rfl ?_)
 show wpAny _ _ (seqItems? (.ref t)>>=_) _ _ s
 refine wpAny_bind (wpAny_seqItems hol hdl ?_)
 simp only [YaY,hx]
 refine wpAny_bind (wpAny_rule (wpAny_bind (wpAny_setField ho hd (by simp) ?_)))
 show wpAny _ _ (newExc (.type "StopIteration") []>>=_) _ _ _
 refine wpAny_bind ?_
 simp only [newExc,newTuple]
 refine wpAny_bind (wpAny_newObj_type ?_ (by size_fits))
 refine wpAny_bind (m:=firstArgMember _ _) (wpAny_of_eq (a:=Value.none) (by first|rfl|(simp only [firstArgMember];rfl)) ?_)
 refine wpAny_newObj_type ?_ (by size_fits)
 simp only [raiseNew]
 refine wpAny_bind (wpAny_handled ?_)
 first|rw [show A.in1.handled=none from hh]|rw [hh]
 refine wpAny_bind (wpAny_pure (wpAny_throw ?_))
 exact hE _ _ (((Heap.SameBut.update ..).extBut.push _).push _) ⟨_,Yaz _ rfl,rfl⟩
end
theorem Zhi {h h':Heap} {a:Addr} {items} (x:h.IsTuple a items) (e:∀o,h.get? a=some o→h'.get? a=some o):h'.IsTuple a items:=let ⟨o,ho,r⟩:=x;⟨o,e _ ho,r⟩
theorem Zed {prog:Program} {w:World} {A:Around} (hh:A.handled=none) (it l:Addr) (hne:l≠it) (items:Array Value):
  Draws prog w A it [it,l] items.size (fun i v=>items[i]?=some v) (fun i h=>h.IsTupleIter it l i∧h.IsTuple l items) where
 live:=fun _ _ st=>let ⟨o,ho,_⟩:=st.1;⟨o,ho⟩
 frame:=fun _ _ _ st hk=>⟨st.1.at fun o e=>hk it (by simp) o e,Zhi st.2 fun o e=>hk l (by simp) o e⟩
 item:=fun i s Q E hi st hQ=>by
  refine ZcJ st.1 st.2 (x:=items[i]) (by simp [hi]) fun h' hit' hs'=>?_
  exact hQ _ h' s.toks (by simp [hi]) ⟨hit',st.2.extBut hs'.extBut hne⟩ hs'
 done:=fun s Q E st hE=>Zda hh st.1 st.2 (by simp) hE
theorem Zb5 (l:Addr) (items:Array Value) (n:Nat) (dct:Option Addr) (sl:Array (Option Value)):
  Meets (Builtin.«enumerate.__new__» ⟨[.type "enumerate",.ref l],[]⟩) (fun _ R s=>s.heap.get? l=some {cls:=.type "tuple",dict:=dct,data:=.seq items n,slots:=sl}∧
   R (.ok (.ret (.ref (s.heap.push {cls:=.type "tuple_iterator",data:=.fields #[.ref l,.int 0 0]}).objs.size)))
    {s with heap:=(s.heap.push {cls:=.type "tuple_iterator",data:=.fields #[.ref l,.int 0 0]}).push {cls:=.type "enumerate",data:=.fields #[.none,.bool false,.ref s.heap.objs.size,rawInt 0,.none,.none]}}):=
 .of_wp fun prog w A R s h=>by
  obtain⟨hp,g,d,tk,os⟩:=s;obtain⟨hl,h⟩:=h
  have hsub:=sub_enumerate
  have hL:Heap.IsTuple (Shared.heap ⟨hp,g,d,tk,os⟩) l items:=⟨_,hl,rfl,n,rfl⟩
  wp_walk using wpAny_loadPart' hl
  refine wpAny_stack_any fun st=>wpAny_pure ?_
  split
  ·rename_i c _ _ _ _ _
   cases (c==Value.type "enumerate")
   ·wp_walk using wpAny_loadPart' hl,wpAny_pyIter_tuple hL
    exact⟨_,rfl,h⟩
   ·wp_walk using wpAny_loadPart' hl,wpAny_pyIter_tuple hL
    exact⟨_,rfl,h⟩
  ·wp_walk using wpAny_loadPart' hl,wpAny_pyIter_tuple hL
   exact⟨_,rfl,h⟩
theorem Zb7 {prog:Program} {w:World} {A:Around} {E:Value→Shared→Prop} {s:Shared} {l:Addr} {items:Array Value} {Q:Value→Shared→Prop} (hL:s.heap.IsTuple l items)
  (h:∀h',IsEnum h' (s.heap.objs.size+1) s.heap.objs.size 0 .none→h'.IsTupleIter s.heap.objs.size l 0→h'.objs.size=s.heap.objs.size+2→
   (∀b o,s.heap.get? b=some o→h'.get? b=some o)→Q (.ref (s.heap.objs.size+1)) {s with heap:=h'}):
  wpAny (model prog w) A (call (.type "enumerate") [.ref l]) Q E s:=by
 obtain⟨⟨c,dct,dt,sl⟩,hl,hc,n,hd⟩:=hL
 replace hc:c=.type "tuple" :=hc
 replace hd:dt=.seq items n:=hd
 subst hc hd
 refine callType_new F.called_enumerate (by decide) (F.typeCall_enumerate_1 _) (F.newCall_enumerate_1 _) (fun obj=>F.args_object_init_2 obj _) F.entry_enumerate_new
  (Zb5 l items n dct sl) ⟨hl,?_⟩
 have hz:(s.heap.push {cls:=.type "tuple_iterator",data:=.fields #[.ref l,.int 0 0]}).objs.size=s.heap.objs.size+1:=Ybu ..
 show _∧_
 rw [hz]
 have he:IsEnum ((s.heap.push {cls:=.type "tuple_iterator",data:=.fields #[.ref l,.int 0 0]}).push
   {cls:=.type "enumerate",data:=.fields #[.none,.bool false,.ref s.heap.objs.size,rawInt 0,.none,.none]}) (s.heap.objs.size+1) s.heap.objs.size 0 .none:=by
  have:=Yaz (s.heap.push {cls:=.type "tuple_iterator",data:=.fields #[.ref l,.int 0 0]})
   (o:={cls:=.type "enumerate",data:=.fields #[.none,.bool false,.ref s.heap.objs.size,rawInt 0,.none,.none]}) rfl
  rw [hz] at this;exact this
 refine⟨⟨_,he,rfl⟩,h _ he ⟨_,Yae _ (Yaz _ rfl),rfl,rfl⟩ (by rw [Ybu,hz]) fun b o x=>Yae _ (Yae _ x)⟩
end PySem
namespace L2
open PySem PySem.Spec PyProof.Rows
section
variable {X:Cx} {pins:List (Addr×Obj)} {σ:St} {H:Hp} {s:Shared} {h':Heap}
theorem Inv.turnedL {t':Nat} {ch:List Addr} (I:Inv X pins σ H s) (k:∀b o,b∉ch→s.heap.get? b=some o→h'.get? b=some o) (hf:∀b∈ch,FpOk X pins H b):Inv X pins σ H {s with heap:=h',toks:=t'}:=by
 have nit:∀b u,H b=some u→b∉ch:=fun b u e z=>by have q:=(hf b z).1;rw [q] at e;cases e
 refine I.step (g':=s.gens) (d':=s.drawn) (ch:=ch) (fun b hb=>⟨(hf b hb).2.2.2.1,(hf b hb).2.1,(hf b hb).2.2.2.2.1,(hf b hb).2.2.2.2.2⟩) (fun b o _ _ hc e _=>k b o hc e) (fun b o _ _ hc e _=>⟨o.slots,k b o hc e⟩) (fun _ _ _ _ n=>n)
  (fun b o hc e=>⟨o,k b o hc e⟩) (fun _ _ e=>e) (fun _ _ _ e=>e) (fun b ps e=>⟨#[],by rw [e];simp⟩) (fun m hm=>?_) (fun b u e=>?_) I.bare
 ·obtain⟨o,es,ep,ho,r⟩:=hm
  exact⟨o,es,ep,k _ o (fun z=>(hf _ z).2.1 rfl) ho,r⟩
 ·refine(I.hok b u e).stay (fun c v hc q=>k c v ?_ q) (fun _ q=>q) fun _ _ q=>q
  rcases hc with z|z
  ·rw [z];exact nit b u e
  ·exact nit c _ z
theorem Inv.turnedT {t':Nat} {ch:List Addr} {T:Addr} {ys:List V} {its:List Value} (I:Inv X pins σ H s) (k:∀b o,b∉ch→s.heap.get? b=some o→h'.get? b=some o) (hf:∀b∈ch,FpOk X pins H b)
  (hT:s.heap.objs.size≤T) (hv:Vals ys its) (ht:IsTup h' T its.toArray) (hz:ys.length≤sizeLine):Inv X pins σ (upd H T (.tup ys)) {s with heap:=h',toks:=t'}:=by
 have nit:∀b u,H b=some u→b∉ch:=fun b u e z=>by have q:=(hf b z).1;rw [q] at e;cases e
 have fT:H T=none:=I.hok.fresh hT
 refine I.step (g':=s.gens) (d':=s.drawn) (ch:=ch) (fun b hb=>⟨(hf b hb).2.2.2.1,(hf b hb).2.1,(hf b hb).2.2.2.2.1,(hf b hb).2.2.2.2.2⟩) (fun b o _ _ hc e _=>k b o hc e) (fun b o _ _ hc e _=>⟨o.slots,k b o hc e⟩)
  (fun b o _ e n=>by rw [Zaf (YaL (Yax (Yat e) hT))];exact n)
  (fun b o hc e=>⟨o,k b o hc e⟩) (fun b _ e=>by rw [Zaf (Zai e fT)];exact e) (fun b _ _ e=>by rw [Zaf (Zai e fT)];exact e) (fun b ps e=>⟨#[],by rw [Zaf (Zai e fT),e];simp⟩) (fun m hm=>?_) (fun b u e=>?_) I.bare
 ·obtain⟨o,es,ep,ho,r⟩:=hm
  exact⟨o,es,ep,k _ o (fun z=>(hf _ z).2.1 rfl) ho,r⟩
 ·by_cases hb:b=T
  ·subst hb
   rw [Zaq] at e
   cases e
   exact⟨hz,its,hv,ht⟩
  ·rw [Zaf hb] at e
   refine(I.hok b u e).stay (fun c v hc q=>k c v ?_ q) (fun c q=>by rw [Zaf (Zai q fT)];exact q) fun c _ q=>by rw [Zaf (Zai q fT)];exact q
   rcases hc with z|z
   ·rw [z];exact nit b u e
   ·exact nit c _ z
end
noncomputable def Ite (K:Yab) (a:Addr):It:=
 ⟨fun i H=>∃xs x,SqT K H a xs∧xs[i]?=some x,fun i H v H'=>∃T x,v=.ref T∧H T=none∧H'=upd H T (.tup [.int i,x])∧∀xs,SqT K H a xs→xs[i]?=some x,fun i H=>∃xs,SqT K H a xs∧xs.length=i⟩
theorem Zhg {P:Program} {w:World} {K:Yab} {elts:List Expr} {k:Nat} {pos:Pos} (a e it:Addr) (hei:e≠it) (hae:a≠e) (hai:a≠it):
  Turn P w K (.Tuple elts k pos) (Ite K a) [e,it] e (fun i h=>(∃old,IsEnum h e it i old)∧h.IsTupleIter it a i) where
 mem:=by simp
 obj:=fun i h st b hb=>by
  obtain⟨⟨old,he⟩,⟨o,ho,hc,hd⟩⟩:=st
  have hb':b=e∨b=it:=by simpa using hb
  rcases hb' with rfl|rfl
  ·exact⟨_,he,fun v z=>by cases z⟩
  ·exact⟨o,ho,fun v z=>by rw [hd] at z;cases z⟩
 keep:=fun i h h' st kk=>by
  obtain⟨⟨old,he⟩,ht⟩:=st
  exact⟨⟨old,kk e (by simp) _ he⟩,ht.at fun o z=>kk it (by simp) o z⟩
 item:=by
  intro X hP hw hK hc i pins s σ H E I hf st hg
  subst hP hw hK
  obtain⟨xs,x,hq,hx⟩:=hg
  obtain⟨its,rv,ht,hz⟩:=I.tuple hq
  obtain⟨u,hu,ru⟩:=rv.get hx
  have hi:i<its.toArray.size:=by rw [Yag];exact(Yac.mp hu).1
  have D:=Zed (prog:=X.prog) (w:=X.w) (A:=X.A.in1) (I.ok.hd hc) it a hai its.toArray
  have W:=WalksT.enumerateD D e hei (by simp [hei,Ne.symm hae]) (by simp)
  have old:∀{h':Heap},(∀b o,b∉ [e,it]→s.heap.get? b=some o→h'.get? b=some o)→h'.IsTuple a its.toArray:=fun kk=>Zhi ht fun o z=>kk a o (by simp [hae,hai]) z
  refine W.item i s _ _ hi ⟨st.1,st.2,ht⟩ fun T vals h1 tk hP1 hT1 hv1 hm1 kk1=>?_
  obtain⟨t,y,hy,rfl⟩:=hP1
  have ey:y=u:=by
   have q:its.toArray[i]?=some y:=hy
   rw [YbQ,hu] at q
   exact(Option.some.inj q).symm
  subst ey
  refine⟨_,rfl,W.go elts k pos i T _ _ _ hm1 fun h2 st2 kk2=>?_⟩
  have kk:∀b o,b∉ [e,it]→s.heap.get? b=some o→h2.get? b=some o:=fun b o hb z=>kk2 b o hb (kk1 b o hb z)
  have hTw:T∉ [e,it]:=W.apart i T h1 hm1
  have hT2:IsTup h2 T [Value.int i t,y].toArray:=Zhi hv1 fun o z=>kk2 T o hTw z
  refine⟨.ref T,upd H T (.tup [.int i,x]),I.turnedT (ch:=[e,it]) (t':=tk) (ys:=[.int i,x]) kk hf hT1 (.cons ⟨t,rfl⟩ (.cons ru .nil)) hT2 (by show 2≤sizeLine;decide),rfl,⟨T,x,rfl,I.hok.fresh hT1,rfl,fun zs hzs=>by rw [I.tuple_inj hzs hq];exact hx⟩,⟨st2.1,st2.2.1⟩,fun b hb=>?_⟩
  rw [Zaf (fun z=>hTw (by rw [←z];exact hb))]
  exact(hf b hb).1
 done:=by
  intro X hP hw hK hc i pins s σ H E I hf st hg
  subst hP hw hK
  obtain⟨xs,hq,hl⟩:=hg
  obtain⟨its,rv,ht,hz⟩:=I.tuple hq
  have D:=Zed (prog:=X.prog) (w:=X.w) (A:=X.A.in1) (I.ok.hd hc) it a hai its.toArray
  have W:=WalksT.enumerateD D e hei (by simp [hei,Ne.symm hae]) (by simp)
  have hn:its.toArray.size=i:=by rw [Yag,←rv.length];exact hl
  refine W.done s _ _ (by rw [hn];exact⟨st.1,st.2,ht⟩) fun h2 tk kk=>⟨rfl,I.turnedL (ch:=[e,it]) (t':=tk) kk hf⟩
 self:=fun _ _ _ _ _ st h=>by
  obtain⟨⟨old,he⟩,_⟩:=st
  exact wpAny_pyIter_enum he h
section
variable {X:Cx} {tg:Expr}
noncomputable def iEnum (K:Yab) (ta:TA):TI:=fun σ H R=>ta σ H fun vs H1=>∃a,vs=[.ref a]∧(∃xs,SqT K H1 a xs)∧R (Ite K a) H1
theorem ZkM {elts:List Expr} {k:Nat} {tpos:Pos} {a:Expr} {ta:TA} {p pos:Pos} (hg:Gl X "enumerate") (hm:X.mg "enumerate" =none) (ha:PA X [a] ta) (hs:starEach [a] X.env=[(false,eval a X.env)]:=by rfl):
  PI X (.Tuple elts k tpos) (.Call (.Name "enumerate" p) [a] [] pos) (iEnum X.K ta):=by
 intro pins s σ H R I h
 refine Call_ (Zcp I hg hm (u:=.type "enumerate") (by kernel_rfl) (YaS (thn (ha pos pins s σ H _ I h) fun us s1 ⟨vs,H1,I1,r1,q1⟩=>?_) hs rfl))
 obtain⟨a,e,⟨xs,hq⟩,q⟩:=q1
 subst e
 cases r1 with
 |cons r rr=>
  cases rr
  cases r
  obtain⟨its,rv,ht,hz⟩:=I1.tuple hq
  refine Zb7 ht fun h2 he hti hsz kk=>wpAny_pyIter_enum he ?_
  have al:a<s1.heap.objs.size:=by obtain⟨o,ho,_⟩:=ht;exact Yat ho
  have I2:Inv X pins σ H1 {s1 with heap:=h2}:=I1.kept (t':=s1.toks) kk
  refine⟨_,[s1.heap.objs.size+1,s1.heap.objs.size],_,_,H1,rfl,I2,Zhg a _ _ (Nat.succ_ne_self _) (YaL (Nat.lt_succ_of_lt al)) (YaL al),⟨⟨_,he⟩,hti⟩,fun b hb=>?_,q⟩
  have hb':b=s1.heap.objs.size+1∨b=s1.heap.objs.size:=by simpa using hb
  rcases hb' with rfl|rfl
  ·exact I1.fpOk (YbX _) (I1.hok.fresh (YbX _))
  ·exact I1.fpOk (Yad _) (I1.hok.fresh (Yad _))
noncomputable def Itr3 (lo c:Int) (n:Nat):It:=⟨fun i _=>i<n,fun i H x H'=>H'=H∧x=.int (lo+i*c),fun i _=>n≤i⟩
theorem ZfE {P:Program} {w:World} {K:Yab} (it:Addr) (lo c:Int) (n:Nat):Turn P w K tg (Itr3 lo c n) [it] it (fun i h=>IsRangeIter h it (lo+(i:Nat)*c) ((n:Int) - (i:Nat)) c) where
 mem:=by simp
 obj:=fun i h st b hb=>by
  have e:b=it:=by simpa using hb
  subst e
  exact⟨_,st,fun v z=>by
   have z':Data.fields _=Data.cell v:=z
   cases z'⟩
 keep:=fun i h h' st k=>k it (by simp) _ st
 item:=by
  intro X hP hw hK hc i pins s σ H E I hf st hg
  subst hP hw hK
  obtain⟨f0,f1,f2,f3,f4,f5⟩:=hf it (by simp)
  have W:=Walks.range (prog:=X.prog) (w:=X.w) (I.ok.hd hc) it lo c n
  refine W.item i s _ _ hg st fun v h' tk hv st' kk=>?_
  obtain⟨t,rfl⟩:=hv
  have I1:Inv X pins σ H {s with heap:=h',toks:=tk}:=I.turned (fun b o hb e=>kk b o (by simpa using hb) e) f0 f1 f3 f4 f5
  exact⟨_,rfl,go_of (s:={s with heap:=h',toks:=tk}) (n:="range_iterator") st' rfl rfl (by decide) ⟨.int (lo+i*c),H,I1,⟨t,rfl⟩,⟨rfl,rfl⟩,st',fun b hb=>(hf b hb).1⟩⟩
 done:=by
  intro X hP hw hK hc i pins s σ H E I hf st hg
  subst hP hw hK
  obtain⟨f0,f1,f2,f3,f4,f5⟩:=hf it (by simp)
  exact wpAny_pyNext_range_end (I.ok.hd hc) st (by have:n≤i:=hg;omega) fun h' eb=>⟨rfl,I.turned (t':=s.toks) (fun b o hb e=>eb b o hb e) f0 f1 f3 f4 f5⟩
 self:=fun _ _ _ _ _ st h=>wpAny_pyIter_rangeiter st h
end
end L2
namespace PySem
open Sem (wp)
open Builtin
open AutoSeq1 (wpAny_loadPart')
theorem Zba:fillsNumberSlot (.type "tuple") "mul" =pure false:=
 fillsNumberSlot_seq (id:="tuple.__mul__") (r:=some (.builtin "tuple.__rmul__")) F.slot_tuple_mul.lookup (by decide+kernel) F.slot_tuple_rmul.lookup (by decide+kernel)
theorem ZcI:seqRepeat? (.type "tuple")=pure (some (.builtin "tuple.__mul__")):=by
 unfold seqRepeat?
 rw [seqSlot_of (T:="tuple") (name:="__mul__") (id:="tuple.__mul__") F.slot_tuple_mul.lookup (by decide+kernel),seqSlot_of (T:="tuple") (name:="__rmul__") (id:="tuple.__rmul__") F.slot_tuple_rmul.lookup (by decide+kernel)]
 rfl
theorem ZbJ (a:Int) (t:Tok) (l:Addr) (items:Array Value) (n:Nat) (dd:Option Addr) (sl:Array (Option Value)):
  Meets (Builtin.«int.__rmul__» ⟨[.int a t,.ref l],[]⟩) (fun _ R s=>s.heap.get? l=some {cls:=.type "tuple",dict:=dd,data:=.seq items n,slots:=sl}∧R (.ok (.ret Value.notImplemented)) s):=
 .of_wp fun prog w A R s h=>by obtain⟨hp,g,d,tk,os⟩:=s;obtain⟨hl,h⟩:=h;wp_walk using wpAny_loadPart' hl;exact⟨_,rfl,h⟩
theorem ZfO (l:Addr) (items:Array Value) (n:Nat) (dd:Option Addr) (sl:Array (Option Value)) (x:Int) (u:Tok) (hx:2≤x) (hx2:x<2^63) (hne:items.isEmpty=false) (hsz:items.size*x.toNat≤sizeLine):
  Meets (Builtin.«tuple.__mul__» ⟨[.ref l,.int x u],[]⟩) (fun _ R s=>s.heap.get? l=some {cls:=.type "tuple",dict:=dd,data:=.seq items n,slots:=sl}∧
   R (.ok (.ret (Value.ref s.heap.objs.size))) {s with heap:=s.heap.push {cls:=Value.type "tuple",data:=Data.seq (YbK (fun x1 x2=>x1++x2) #[] (Yaq x.toNat items))},toks:=s.toks}):=
 .of_wp fun prog w A R s h=>by
  obtain⟨hp,g,d,tk,os⟩:=s;obtain⟨hl,h⟩:=h
  have f1:=AutoSeq1.idx_int
  have f2:=AutoSeq1.sub_tuple_tuple
  have c1:(decide (x< -(2^63))||decide (x≥2^63))=false:=by
   rw [Ybw];exact⟨decide_eq_false (by omega),decide_eq_false (by omega)⟩
  have c2:(items.isEmpty||x==1)=false:=by
   rw [hne,Yb1];exact beq_eq_false_iff_ne.mpr (by omega)
  have c3:(decide (x≤0)||items.isEmpty)=false:=by
   rw [hne,Bool.or_false];exact decide_eq_false (by omega)
  wp_walk using wpAny_loadPart' hl
  refine wpAny_ite_false (by rw [c1];rfl) ?_
  wp_walk using wpAny_loadPart' hl
  refine wpAny_ite_false (by rw [c2];rfl) ?_
  wp_walk using wpAny_loadPart' hl
  refine wpAny_ite_false (by rw [c3];rfl) ?_
  wp_walk using wpAny_loadPart' hl
  have e0:(items.size:Int)*x=((items.size*x.toNat:Nat):Int):=by
   rw [YbT,Int.toNat_of_nonneg (by omega)]
  have hline:(sizeLine:Nat)≤(2^63-1) / 8:=by decide
  rw [if_neg (by rw [e0];omega)]
  have c4:Builtin.Tuple.tupleTooMany ((items.size:Int)*x)=false:=by
   unfold Builtin.Tuple.tupleTooMany
   rw [e0]
   exact decide_eq_false (by omega)
  refine wpAny_ite_false (by rw [c4];rfl) ?_
  have hl2:(YbK (fun x1 x2=>x1++x2) #[] (Yaq x.toNat items)).size≤sizeLine:=by
   have key:∀(k:Nat) (acc:Array Value),(YbK (fun x1 x2=>x1++x2) acc (Yaq k items)).size=acc.size+items.size*k:=by
    intro k
    induction k with
    |zero=>intro acc;simp
    |succ k ih=>intro acc;rw [YaJ,YbR,ih,Array.size_append,Nat.mul_succ];omega
   rw [key]
   simpa using hsz
  show wpAny _ _ (newObj (.type "tuple") (.seq _)>>=_) _ _ _
  refine wpAny_bind (wpAny_newObj_type ?_ hl2)
  exact wpAny_pure ⟨_,rfl,h⟩
end PySem
namespace L2
open PySem PySem.Spec PyProof.Rows
section
variable {X:Cx}
noncomputable def rRepT (K:Yab):R2:=fun x y H Q=>∃l k xs,x=.ref l∧y=.int k∧SqT K H l xs∧xs≠[]∧2≤k∧k<2^63∧xs.length*k.toNat≤sizeLine∧
 ∀p,H p=none→Q (.ref p) (upd H p (.tup (Yaq k.toNat xs).flatten))
theorem Inv.tnew {pins:List (Addr×Obj)} {σ:St} {H:Hp} {s:Shared} {ys:List V} {its:List Value} {t':Nat} (I:Inv X pins σ H s) (hv:Vals ys its) (hz:ys.length≤sizeLine):
  Inv X pins σ (upd H s.heap.objs.size (.tup ys)) {s with heap:=s.heap.push {cls:=.type "tuple",data:=.seq its.toArray},toks:=t'}:=
 I.laid (fun _ _ q=>Yae _ q) (Yad _) ⟨hz,its,hv,IsTup.new _ _⟩
theorem ZkY:OpR X (binaryOp .Mult) (rRepT X.K):=by
 intro pins s σ H x y v u Q I rx ry h
 obtain⟨l,k,xs,rfl,rfl,hq,hne,h1,h2,hz,q⟩:=h
 cases rx
 obtain⟨t,rfl⟩:=ry
 obtain⟨its,r,ht,_⟩:=I.tuple hq
 obtain⟨⟨cls,dd,data,sl⟩,ho,hc,n,hd⟩:=id ht
 simp only at hc hd
 subst hc hd
 have hl:=r.length
 have hne':its.toArray.isEmpty=false:=by
  cases its with
  |nil=>cases r;exact absurd rfl hne
  |cons a b=>rfl
 refine wpAny_binaryOp_repeat_ref (T:="tuple") (U:="int") (by decide) ⟨_,ho,rfl⟩ (fun s'=>typeIs_int s' k t) Zba F.fills_int_mul F.slot_int_rmul ZcI F.slot_int_index.lookup
  (call_meets F.slot_int_rmul (typeIs_int s k t) F.entry_int_rmul (F.args_int_rmul_2 _ _) (ZbJ k t l its.toArray n dd sl)
   ⟨ho,rfl,⟨_,ho,rfl⟩,call_meets F.slot_tuple_mul ⟨_,ho,rfl⟩ F.entry_tuple_mul (F.args_tuple_mul_2 _ _) (ZfO l its.toArray n dd sl k t h1 h2 hne' (by rw [Yag,←hl];exact hz)) ⟨ho,?_⟩⟩)
 have hnew:YbK (fun x1 x2=>x1++x2) #[] (Yaq k.toNat its.toArray)=(Yaq k.toNat its).flatten.toArray:=by
  have:=Zdz its k.toNat []
  rw [YbC] at this
  exact this
 rw [hnew]
 exact⟨.ref _,_,I.tnew (t':=s.toks) (r.rep k.toNat) (by rw [ZhX,Nat.mul_comm];exact hz),rfl,q _ I.fresh⟩
noncomputable def Zmv (K:Yab):R2:=fun x y H Q=>∃a b xs ys,x=.ref a∧y=.ref b∧SqT K H a xs∧SqT K H b ys∧xs.length+ys.length≤sizeLine∧
 (xs=[]→Q (.ref b) H)∧(xs≠[]→ys=[]→Q (.ref a) H)∧∀p,H p=none→Q (.ref p) (upd H p (.tup (xs++ys)))
theorem Zje:OpR X (binaryOp .Add) (Zmv X.K):=by
 intro pins s σ H x y v u Q I rx ry h
 obtain⟨a,b,xs,ys,rfl,rfl,hx,hy,hz,q0,q1,q2⟩:=h
 cases rx
 cases ry
 obtain⟨its,r,ht,_⟩:=I.tuple hx
 obtain⟨its2,r2,ht2,_⟩:=I.tuple hy
 by_cases hv:its=[]
 ·subst hv
  have hxs:xs=[]:=by cases r;rfl
  obtain⟨⟨cls,dd,data,sl⟩,ho,hc,n,hd⟩:=id ht
  obtain⟨⟨cls2,dd2,data2,sl2⟩,ho2,hc2,n2,hd2⟩:=id ht2
  simp only at hc hd hc2 hd2
  subst hc hd hc2 hd2
  exact concat_meets ⟨_,ho,rfl⟩ ⟨_,ho2,rfl⟩ noFill_tuple_add seq_tuple_add PySem.F.slot_tuple_add PySem.F.entry_tuple_add (PySem.F.args_tuple_add_2 _ _)
   (tuple_addW0 a b #[] its2.toArray n n2 dd dd2 sl sl2 rfl) ⟨ho,ho2,⟨.ref b,H,I.tok _,rfl,q0 hxs⟩⟩
 ·have hxs:xs≠[]:=fun e=>hv (by subst e;cases r;rfl)
  refine HT.ZlX ht ht2 hv (fun hw=>⟨.ref a,H,I,rfl,q1 hxs (by subst hw;cases r2;rfl)⟩) (fun hw=>?_) (by rw [←r.length,←r2.length];exact hz)
  exact⟨.ref _,_,I.tnew (t':=s.toks) (r.append r2) (by rw [YaQ];exact hz),rfl,q2 _ I.fresh⟩
noncomputable def rCatL (K:Yab):R2:=fun x y H Q=>∃l b xs zs,x=.ref l∧y=.ref b∧SqL K H l xs∧SqL K H b zs∧xs.length+zs.length≤sizeLine∧∀p,H p=none→Q (.ref p) (upd H p (.lst (xs++zs)))
theorem Zk1:OpR X (binaryOp .Add) (rCatL X.K):=by
 intro pins s σ H x y v u Q I rx ry h
 obtain⟨l,b,xs,zs,rfl,rfl,hx,hy,hz,q⟩:=h
 cases rx
 cases ry
 obtain⟨its,r,⟨o1,n1,e1,c1,d1,dt1⟩,_⟩:=I.list hx
 obtain⟨its2,r2,⟨o2,n2,e2,c2,d2,dt2⟩,_⟩:=I.list hy
 obtain⟨cls,dd,data,sl⟩:=o1
 obtain⟨cls2,dd2,data2,sl2⟩:=o2
 simp only at c1 d1 dt1 c2 d2 dt2
 subst c1 dt1 c2 dt2
 have ea:its.toArray++its2.toArray=(its++its2).toArray:=by simp
 refine concat_meets ⟨_,e1,rfl⟩ ⟨_,e2,rfl⟩ noFill_list_add seq_list_add PySem.F.slot_list_add PySem.F.entry_list_add (PySem.F.args_list_add_2 _ _) (list_addW l b its.toArray its2.toArray n1 n2 dd dd2 sl sl2 (by rw [Yag,Yag,←r.length,←r2.length];exact hz)) ⟨e1,e2,?_⟩
 rw [ea]
 exact⟨.ref _,_,I.lnew (t':=s.toks) (r.append r2) (by rw [YaQ];exact hz),rfl,q _ I.fresh⟩
noncomputable def CBig (i j:Int):Prop:=i.natAbs<2^256∧j.natAbs<2^256
theorem ZiB {i:Int} (h:i.natAbs<2^256):Builtin.Int.intBits i≤2^20:=by
 unfold Builtin.Int.intBits
 split
 ·exact YaU _
 ·have:i.natAbs.log2<256:=(YbY (by intro z;simp_all)).mpr h
  omega
theorem Zk0:OpR X (binaryOp .Mult) (rI CBig fun i j=>.int (i*j)):=opI fun _ _ _ _ _ _ _ hc q=>mul_int q (IntMulOk.of_bits (ZiB hc.1) (ZiB hc.2))
noncomputable def CDivB (i j:Int):Prop:=0<j∧j.natAbs<2^256
theorem Zjd:OpR X (binaryOp .FloorDiv) (rI CDivB fun i j=>.int (i / j)):=opI fun i j _ _ _ _ _ hc q=>by
 refine floordiv_int (by have:=hc.1;omega) ?_ (.inl (PyProof.noPylong_of_log2 ?_))
 ·rw [Ybz _ (Int.le_of_lt hc.1)];exact q
 ·have h0:j.natAbs≠0:=by have:=hc.1;omega
  have:j.natAbs.log2<256:=(YbY h0).mpr hc.2
  omega
theorem ZcF:∀{bs:List Bool} {us:List Value},Vals (bs.map V.bl) us→us=bs.map Value.bool
 | [],_,.nil=>rfl
 |b::r,_,.cons h t=>by rw [YaK,ZcF t];cases h;rfl
theorem Zck {prog:Program} {w:World} {A:Around} {bs:List Bool}:TruthOf prog w A (fun i v=>(bs.map Value.bool).toArray[i]?=some v) (fun i=>bs.getD i false):=by
 intro i v s Q E hp h
 have hq:(bs.map Value.bool).toArray[i]?=some v:=hp
 rw [YbQ,Yam] at hq
 cases hb:bs[i]? with
 |none=>rw [hb] at hq;cases hq
 |some b=>
  rw [hb] at hq
  cases hq
  have e:bs.getD i false=b:=by rw [Ya5,hb];rfl
  have h':Q (bs.getD i false) s:=h
  rw [e] at h'
  exact PySem.wpAny_truthy_bool h'
theorem ZhB (bs:List Bool):(Yau bs.length).all (fun i=>bs.getD i false)=bs.all id:=by
 rw [Ybp,YaX,YaX]
 constructor
 ·intro h x hx
  obtain⟨i,hi,e⟩:=Ybx.mp hx
  have:=h i (YaN.mpr hi)
  rw [Ya5,Yaf hi,e] at this
  exact this
 ·intro h i hi
  have hl:=YaN.mp hi
  rw [Ya5,Yaf hl]
  exact h _ (List.getElem_mem hl)
theorem ZhA (bs:List Bool):(Yau bs.length).any (fun i=>bs.getD i false)=bs.any id:=by
 rw [Ybp,YbN,YbN]
 constructor
 ·rintro ⟨i,hi,h⟩
  have hl:=YaN.mp hi
  rw [Ya5,Yaf hl] at h
  exact⟨_,List.getElem_mem hl,h⟩
 ·rintro ⟨x,hx,h⟩
  obtain⟨i,hi,e⟩:=Ybx.mp hx
  refine⟨i,YaN.mpr hi,?_⟩
  rw [Ya5,Yaf hi,e]
  exact h
theorem Ziw (hc:X.calm=true):CallR X (.builtin "all") (fun xs H Q=>∃(a:Addr) (bs:List Bool),xs=[.ref a]∧SqL X.K H a (bs.map V.bl)∧Q (.bl (bs.all id)) H):=by
 intro pins s σ H vs us Q I rv h
 obtain⟨a,bs,rfl,hq,q⟩:=h
 obtain⟨u,rfl,ru⟩:=rv.one
 cases ru
 obtain⟨its,r,hp,hz⟩:=I.list hq
 obtain⟨o,n,e,c,_,dt⟩:=hp
 have hL:s.heap.IsList a its.toArray:=⟨o,e,c,n,dt⟩
 have al:a<s.heap.objs.size:=Yat e
 refine call_all_walk (wpAny_pyIter_list hL ?_)
 rw [ZcF r] at hL
 refine⟨s.heap.objs.size,_,_,_,_,_,_,rfl,Walks.list (A:=X.A.in1) (I.ok.hd hc) s.heap.objs.size a (YaL al) (bs.map Value.bool).toArray,⟨⟨_,Yaz _ rfl,rfl,rfl⟩,Heap.IsList.push hL _⟩,Zck,fun h' tk kk=>?_⟩
 have hl:(bs.map Value.bool).toArray.size=bs.length:=by rw [Yag,Yak]
 rw [hl,ZhB]
 refine⟨.bl _,H,I.kept (t':=tk) fun b o eb=>kk b o ?_ (Yae _ eb),rfl,q⟩
 intro hb
 have:b=s.heap.objs.size:=by simpa using hb
 exact absurd (Yat eb) (by rw [this];exact YaO _)
theorem Ziv (hc:X.calm=true):CallR X (.builtin "any") (fun xs H Q=>∃(a:Addr) (bs:List Bool),xs=[.ref a]∧SqL X.K H a (bs.map V.bl)∧Q (.bl (bs.any id)) H):=by
 intro pins s σ H vs us Q I rv h
 obtain⟨a,bs,rfl,hq,q⟩:=h
 obtain⟨u,rfl,ru⟩:=rv.one
 cases ru
 obtain⟨its,r,hp,hz⟩:=I.list hq
 obtain⟨o,n,e,c,_,dt⟩:=hp
 have hL:s.heap.IsList a its.toArray:=⟨o,e,c,n,dt⟩
 have al:a<s.heap.objs.size:=Yat e
 refine call_any_walk (wpAny_pyIter_list hL ?_)
 rw [ZcF r] at hL
 refine⟨s.heap.objs.size,_,_,_,_,_,_,rfl,Walks.list (A:=X.A.in1) (I.ok.hd hc) s.heap.objs.size a (YaL al) (bs.map Value.bool).toArray,⟨⟨_,Yaz _ rfl,rfl,rfl⟩,Heap.IsList.push hL _⟩,Zck,fun h' tk kk=>?_⟩
 have hl:(bs.map Value.bool).toArray.size=bs.length:=by rw [Yag,Yak]
 rw [hl,ZhA]
 refine⟨.bl _,H,I.kept (t':=tk) fun b o eb=>kk b o ?_ (Yae _ eb),rfl,q⟩
 intro hb
 have:b=s.heap.objs.size:=by simpa using hb
 exact absurd (Yat eb) (by rw [this];exact YaO _)
inductive TyS (K:Yab) (H:Hp):V→String→Prop where
 |non:TyS K H .non "NoneType"
 |bl (x:Bool):TyS K H (.bl x) "bool"
 |int (i:Int):TyS K H (.int i) "int"
 |str (x:Str):TyS K H (.str x) "str"
 |lst {a:Addr} {xs:List V} (e:SqL K H a xs):TyS K H (.ref a) "list"
 |tup {a:Addr} {xs:List V} (e:SqT K H a xs):TyS K H (.ref a) "tuple"
 |dct {a:Addr} (e:H a=some (.dT [])):TyS K H (.ref a) "dict"
noncomputable def isiB (t T:String):Bool:=t==T||(t=="bool" &&T=="int")
noncomputable def tys:List String:=["NoneType","bool","int","str","list","tuple","dict"]
noncomputable def tysT:List String:=["bool","int","str","list","tuple","dict"]
theorem ZcM {K:Yab}:Yaj K (.type "NoneType") (.type "bool")=some false:=by kernel_rfl
theorem Zdc {K:Yab}:Yaj K (.type "NoneType") (.type "int")=some false:=by kernel_rfl
theorem Zdb {K:Yab}:Yaj K (.type "NoneType") (.type "str")=some false:=by kernel_rfl
theorem ZcK {K:Yab}:Yaj K (.type "NoneType") (.type "list")=some false:=by kernel_rfl
theorem Zcq {K:Yab}:Yaj K (.type "NoneType") (.type "tuple")=some false:=by kernel_rfl
theorem ZcL {K:Yab}:Yaj K (.type "NoneType") (.type "dict")=some false:=by kernel_rfl
theorem ZeJ {K:Yab}:Yaj K (.type "bool") (.type "bool")=some true:=by kernel_rfl
theorem Zfm {K:Yab}:Yaj K (.type "bool") (.type "int")=some true:=by kernel_rfl
theorem Zfl {K:Yab}:Yaj K (.type "bool") (.type "str")=some false:=by kernel_rfl
theorem ZeH {K:Yab}:Yaj K (.type "bool") (.type "list")=some false:=by kernel_rfl
theorem Zd1 {K:Yab}:Yaj K (.type "bool") (.type "tuple")=some false:=by kernel_rfl
theorem ZeI {K:Yab}:Yaj K (.type "bool") (.type "dict")=some false:=by kernel_rfl
theorem Zfi {K:Yab}:Yaj K (.type "int") (.type "bool")=some false:=by kernel_rfl
theorem ZfW {K:Yab}:Yaj K (.type "int") (.type "int")=some true:=by kernel_rfl
theorem ZfV {K:Yab}:Yaj K (.type "int") (.type "str")=some false:=by kernel_rfl
theorem Zfg {K:Yab}:Yaj K (.type "int") (.type "list")=some false:=by kernel_rfl
theorem ZeD {K:Yab}:Yaj K (.type "int") (.type "tuple")=some false:=by kernel_rfl
theorem Zfh {K:Yab}:Yaj K (.type "int") (.type "dict")=some false:=by kernel_rfl
theorem Zfd {K:Yab}:Yaj K (.type "str") (.type "bool")=some false:=by kernel_rfl
theorem ZfU {K:Yab}:Yaj K (.type "str") (.type "int")=some false:=by kernel_rfl
theorem ZfT {K:Yab}:Yaj K (.type "str") (.type "str")=some true:=by kernel_rfl
theorem Zfb {K:Yab}:Yaj K (.type "str") (.type "list")=some false:=by kernel_rfl
theorem Zez {K:Yab}:Yaj K (.type "str") (.type "tuple")=some false:=by kernel_rfl
theorem Zfc {K:Yab}:Yaj K (.type "str") (.type "dict")=some false:=by kernel_rfl
theorem ZeC {K:Yab}:Yaj K (.type "list") (.type "bool")=some false:=by kernel_rfl
theorem Zff {K:Yab}:Yaj K (.type "list") (.type "int")=some false:=by kernel_rfl
theorem Zfe {K:Yab}:Yaj K (.type "list") (.type "str")=some false:=by kernel_rfl
theorem ZeA {K:Yab}:Yaj K (.type "list") (.type "list")=some true:=by kernel_rfl
theorem ZdZ {K:Yab}:Yaj K (.type "list") (.type "tuple")=some false:=by kernel_rfl
theorem ZeB {K:Yab}:Yaj K (.type "list") (.type "dict")=some false:=by kernel_rfl
theorem ZdY {K:Yab}:Yaj K (.type "tuple") (.type "bool")=some false:=by kernel_rfl
theorem Zey {K:Yab}:Yaj K (.type "tuple") (.type "int")=some false:=by kernel_rfl
theorem Zex {K:Yab}:Yaj K (.type "tuple") (.type "str")=some false:=by kernel_rfl
theorem ZdW {K:Yab}:Yaj K (.type "tuple") (.type "list")=some false:=by kernel_rfl
theorem Zdu {K:Yab}:Yaj K (.type "tuple") (.type "tuple")=some true:=by kernel_rfl
theorem ZdX {K:Yab}:Yaj K (.type "tuple") (.type "dict")=some false:=by kernel_rfl
theorem ZeG {K:Yab}:Yaj K (.type "dict") (.type "bool")=some false:=by kernel_rfl
theorem Zfk {K:Yab}:Yaj K (.type "dict") (.type "int")=some false:=by kernel_rfl
theorem Zfj {K:Yab}:Yaj K (.type "dict") (.type "str")=some false:=by kernel_rfl
theorem ZeE {K:Yab}:Yaj K (.type "dict") (.type "list")=some false:=by kernel_rfl
theorem Zd0 {K:Yab}:Yaj K (.type "dict") (.type "tuple")=some false:=by kernel_rfl
theorem ZeF {K:Yab}:Yaj K (.type "dict") (.type "dict")=some true:=by kernel_rfl
theorem ZhZ {K:Yab} {t T:String} (ht:t∈tys) (hT:T∈tysT):Yaj K (.type t) (.type T)=some (isiB t T):=by
 have ht':t="NoneType" ∨t="bool" ∨t="int" ∨t="str" ∨t="list" ∨t="tuple" ∨t="dict" :=by simpa [tys] using ht
 have hT':T="bool" ∨T="int" ∨T="str" ∨T="list" ∨T="tuple" ∨T="dict" :=by simpa [tysT] using hT
 rcases ht' with h|h|h|h|h|h|h<;>rcases hT' with h'|h'|h'|h'|h'|h'<;>rw [h,h']
 ·exact ZcM
 ·exact Zdc
 ·exact Zdb
 ·exact ZcK
 ·exact Zcq
 ·exact ZcL
 ·exact ZeJ
 ·exact Zfm
 ·exact Zfl
 ·exact ZeH
 ·exact Zd1
 ·exact ZeI
 ·exact Zfi
 ·exact ZfW
 ·exact ZfV
 ·exact Zfg
 ·exact ZeD
 ·exact Zfh
 ·exact Zfd
 ·exact ZfU
 ·exact ZfT
 ·exact Zfb
 ·exact Zez
 ·exact Zfc
 ·exact ZeC
 ·exact Zff
 ·exact Zfe
 ·exact ZeA
 ·exact ZdZ
 ·exact ZeB
 ·exact ZdY
 ·exact Zey
 ·exact Zex
 ·exact ZdW
 ·exact Zdu
 ·exact ZdX
 ·exact ZeG
 ·exact Zfk
 ·exact Zfj
 ·exact ZeE
 ·exact Zd0
 ·exact ZeF
theorem TyS.mem {K:Yab} {H:Hp} {x:V} {t:String} (h:TyS K H x t):t∈tys:=by cases h<;>decide
theorem ZjE:CallR X (.builtin "isinstance") (fun xs H Q=>∃x t T,xs=[x,.ty T]∧TyS X.K H x t∧T∈tysT∧Q (.bl (isiB t T)) H):=by
 intro pins s σ H vs us Q I rv h
 obtain⟨x,t,T,rfl,ty,hT,q⟩:=h
 obtain⟨u,v,rfl,ru,rt⟩:=rv.two
 cases rt
 have e:=ZhZ (K:=X.K) ty.mem hT
 have fin:∀tk,EP X pins σ Q (.bool (isiB t T)) {s with toks:=tk}:=fun tk=>⟨.bl _,H,I.tok tk,rfl,q⟩
 cases ty with
 |non=>cases (show u=Value.none from ru);exact Ybj PySem.W.kitx_none I.kIn True.intro e (fun z=>nomatch z) fin
 |bl y=>cases (show u=Value.bool y from ru);exact Ybj PySem.W.kitx_bool I.kIn True.intro e (fun z=>nomatch z) fin
 |int i=>obtain⟨t,z⟩:=(show ∃t,u=Value.int i t from ru);cases z;exact Ybj PySem.W.kitx_int I.kIn True.intro e (fun z=>nomatch z) fin
 |str y=>obtain⟨t,z⟩:=(show ∃t,u=Value.str y t from ru);cases z;exact Ybj PySem.W.kitx_str I.kIn True.intro e (fun z=>nomatch z) fin
 | @lst a xs hq=>
  cases (show u=Value.ref a from ru)
  obtain⟨its,r,⟨o,n,e1,c1,_⟩,_⟩:=I.list hq
  exact Ybj PySem.W.kitx_list I.kIn ⟨o,e1,c1⟩ e (fun z=>nomatch z) fin
 | @tup a xs hq=>
  cases (show u=Value.ref a from ru)
  obtain⟨its,r,⟨o,e1,c1,_⟩,_⟩:=I.tuple hq
  exact Ybj PySem.W.kitx_tuple I.kIn ⟨o,e1,c1⟩ e (fun z=>nomatch z) fin
 | @dct a hq=>
  cases (show u=Value.ref a from ru)
  obtain⟨_,_,xs,_,o,es,ep,h1,h2,_⟩:=(show ObjOk X.prog X.w H s.heap a (.dT []) from I.hok a _ hq)
  exact Ybj PySem.W.kitx_dict I.kIn ⟨o,h1,h2.1⟩ e (fun z=>nomatch z) fin
noncomputable def cntR (i j c:Int):Nat:=if i<j then ((j-i-1) / c+1).toNat else 0
noncomputable def iRng3 (ta:TA):TI:=fun σ H R=>ta σ H fun vs H1=>∃i j c:Int,vs=[.int i,.int j,.int c]∧(-(2^60)≤i∧i<2^60∧ -(2^60)≤j∧j<2^60∧0<c∧c<2^29)∧R (Itr3 i c (cntR i j c)) H1
theorem ZhE {tg a b c:Expr} {ta:TA} {p pos:Pos} (hg:Gl X "range") (hm:X.mg "range" =none) (ha:PA X [a,b,c] ta) (hs:starEach [a,b,c] X.env=[(false,eval a X.env),(false,eval b X.env),(false,eval c X.env)]:=by rfl) (hs2:starEach [b,c] X.env=[(false,eval b X.env),(false,eval c X.env)]:=by rfl):
  PI X tg (.Call (.Name "range" p) [a,b,c] [] pos) (iRng3 ta):=by
 intro pins s σ H R I h
 refine Call_ (Zcp I hg hm boot_range (YaS (thn (ha pos pins s σ H _ I h) fun us s1 ⟨vs,H1,I1,r1,q1⟩=>?_) (by rw [hs,hs2]) (by rw [hs2];rfl)))
 obtain⟨i,j,k,e,⟨q1,q2,q3,q4,q5,q6⟩,q⟩:=q1
 subst e
 cases r1 with
 |cons r rr=>
  cases rr with
  |cons r' rr=>
   cases rr with
   |cons r'' rr=>
    cases rr
    obtain⟨t,rfl⟩:=r
    obtain⟨t',rfl⟩:=r'
    obtain⟨t'',rfl⟩:=r''
    have hsize:Builtin.Range.rangeSize i j k=((cntR i j k:Nat):Int):=by
     unfold Builtin.Range.rangeSize cntR
     rw [if_pos q5]
     split
     ·have:0≤(j-i-1) / k:=Int.ediv_nonneg (by omega) (by omega)
      omega
     ·rfl
    have hle:((cntR i j k:Nat):Int)≤2^61:=by
     unfold cntR
     split
     ·have h1:0≤(j-i-1) / k:=Int.ediv_nonneg (by omega) (by omega)
      have h2:(j-i-1) / k≤j-i-1:=Int.ediv_le_self _ (by omega)
      omega
     ·decide
    have hsmall:Builtin.Range.small i j k=true:=by
     unfold Builtin.Range.small
     rw [hsize]
     simp only [Builtin.Range.rangeFitsLong,Yan,Ya8,decide_eq_true_eq,beq_iff_eq]
     rw [if_pos q5]
     refine⟨⟨⟨⟨⟨by omega,by omega⟩,by omega,by omega⟩,by omega,by omega⟩,by omega,by omega⟩,.inr ?_⟩
     rw [Yan]
     exact⟨decide_eq_true (by omega),decide_eq_true (by omega)⟩
    refine call_range_3 (by omega) ?_ (.inl (PyProof.noPylong_small (by omega)))
    refine wpAny_pyIter_range (IsRange.new ..) hsmall ?_
    have I2:Inv X pins σ H1 {s1 with heap:=s1.heap.push {cls:=.type "range",data:=.fields #[.int i t,.int j t',.int k t'']}}:=I1.kept (t':=s1.toks) fun b o e=>Yae _ e
    refine⟨_,[_],_,_,H1,rfl,I2.kept (t':=s1.toks) fun b o e=>Yae _ e,ZfE _ i k (cntR i j k),?_,fun b hb=>?_,q⟩
    ·have e1:i+((0:Nat):Int)*k=i:=by simp
     have e2:((cntR i j k:Nat):Int) - ((0:Nat):Int)=Builtin.Range.rangeSize i j k:=by rw [hsize];simp
     show IsRangeIter _ _ (i+((0:Nat):Int)*k) (((cntR i j k:Nat):Int) - ((0:Nat):Int)) k
     rw [e1,e2]
     exact Yaz _ rfl
    ·have e:=YaI.mp hb
     subst e
     exact I2.fpOk (Yad _) (I2.hok.fresh (Yad _))
end
end L2
namespace PySem
open Sem (wp)
open Builtin
open AutoSeq1 (wpAny_loadPart')
theorem ZfN (l:Addr) (items:Array Value) (n:Nat) (dd:Option Addr) (sl:Array (Option Value)) (u:Tok):
  Meets (Builtin.«tuple.__mul__» ⟨[.ref l,.int 1 u],[]⟩) (fun _ R s=>s.heap.get? l=some {cls:=.type "tuple",dict:=dd,data:=.seq items n,slots:=sl}∧R (.ok (.ret (Value.ref l))) s):=
 .of_wp fun prog w A R s h=>by
  obtain⟨hp,g,d,tk,os⟩:=s;obtain⟨hl,h⟩:=h
  have f1:=AutoSeq1.idx_int
  have f2:=AutoSeq1.sub_tuple_tuple
  have c1:(decide ((1:Int)< -(2^63))||decide ((1:Int)≥2^63))=false:=by decide
  have c2:(items.isEmpty||(1:Int)==1)=true:=by simp
  wp_walk using wpAny_loadPart' hl
  exact⟨_,rfl,h⟩
theorem Ze7 (l:Addr) (items:Array Value) (n:Nat) (dd:Option Addr) (sl:Array (Option Value)) (x:Int) (u:Tok) (hx:x≤0) (hx2: -1000≤x) (hne:items.isEmpty=false):
  Meets (Builtin.«tuple.__mul__» ⟨[.ref l,.int x u],[]⟩) (fun _ R s=>s.heap.get? l=some {cls:=.type "tuple",dict:=dd,data:=.seq items n,slots:=sl}∧
   R (.ok (.ret (Value.ref s.heap.objs.size))) {s with heap:=s.heap.push {cls:=Value.type "tuple",data:=Data.seq #[]},toks:=s.toks}):=
 .of_wp fun prog w A R s h=>by
  obtain⟨hp,g,d,tk,os⟩:=s;obtain⟨hl,h⟩:=h
  have f1:=AutoSeq1.idx_int
  have f2:=AutoSeq1.sub_tuple_tuple
  have c1:(decide (x< -(2^63))||decide (x≥2^63))=false:=by
   rw [Ybw];exact⟨decide_eq_false (by omega),decide_eq_false (by omega)⟩
  have c2:(items.isEmpty||x==1)=false:=by
   rw [hne,Yb1];exact beq_eq_false_iff_ne.mpr (by omega)
  have c3:(decide (x≤0)||items.isEmpty)=true:=by
   rw [decide_eq_true hx];rfl
  wp_walk using wpAny_loadPart' hl
  refine wpAny_ite_false (by rw [c1];rfl) ?_
  wp_walk using wpAny_loadPart' hl
  refine wpAny_ite_false (by rw [c2];rfl) ?_
  wp_walk using wpAny_loadPart' hl
  exact⟨_,rfl,h⟩
end PySem
namespace L2
open PySem PySem.Spec PyProof.Rows
section
variable {X:Cx}
noncomputable def Zms (K:Yab):R2:=fun x y H Q=>∃l xs,x=.ref l∧y=.int 1∧SqT K H l xs∧Q (.ref l) H
theorem Zja:OpR X (binaryOp .Mult) (Zms X.K):=by
 intro pins s σ H x y v u Q I rx ry h
 obtain⟨l,xs,rfl,rfl,hq,q⟩:=h
 cases rx
 obtain⟨t,rfl⟩:=ry
 obtain⟨its,r,ht,_⟩:=I.tuple hq
 obtain⟨⟨cls,dd,data,sl⟩,ho,hc,n,hd⟩:=id ht
 simp only at hc hd
 subst hc hd
 refine wpAny_binaryOp_repeat_ref (T:="tuple") (U:="int") (by decide) ⟨_,ho,rfl⟩ (fun s'=>typeIs_int s' 1 t) Zba F.fills_int_mul F.slot_int_rmul ZcI F.slot_int_index.lookup
  (call_meets F.slot_int_rmul (typeIs_int s 1 t) F.entry_int_rmul (F.args_int_rmul_2 _ _) (ZbJ 1 t l its.toArray n dd sl)
   ⟨ho,rfl,⟨_,ho,rfl⟩,call_meets F.slot_tuple_mul ⟨_,ho,rfl⟩ F.entry_tuple_mul (F.args_tuple_mul_2 _ _) (ZfN l its.toArray n dd sl t) ⟨ho,?_⟩⟩)
 exact⟨.ref l,H,I,rfl,q⟩
noncomputable def Zmt (K:Yab):R2:=fun x y H Q=>∃l k xs,x=.ref l∧y=.int k∧SqT K H l xs∧xs≠[]∧k≤0∧ -1000≤k∧∀p,H p=none→Q (.ref p) (upd H p (.tup []))
theorem Zjb:OpR X (binaryOp .Mult) (Zmt X.K):=by
 intro pins s σ H x y v u Q I rx ry h
 obtain⟨l,k,xs,rfl,rfl,hq,hne,h1,h2,q⟩:=h
 cases rx
 obtain⟨t,rfl⟩:=ry
 obtain⟨its,r,ht,_⟩:=I.tuple hq
 obtain⟨⟨cls,dd,data,sl⟩,ho,hc,n,hd⟩:=id ht
 simp only at hc hd
 subst hc hd
 have hne':its.toArray.isEmpty=false:=by
  cases r with
  |nil=>exact absurd rfl hne
  |cons _ _=>rfl
 refine wpAny_binaryOp_repeat_ref (T:="tuple") (U:="int") (by decide) ⟨_,ho,rfl⟩ (fun s'=>typeIs_int s' k t) Zba F.fills_int_mul F.slot_int_rmul ZcI F.slot_int_index.lookup
  (call_meets F.slot_int_rmul (typeIs_int s k t) F.entry_int_rmul (F.args_int_rmul_2 _ _) (ZbJ k t l its.toArray n dd sl)
   ⟨ho,rfl,⟨_,ho,rfl⟩,call_meets F.slot_tuple_mul ⟨_,ho,rfl⟩ F.entry_tuple_mul (F.args_tuple_mul_2 _ _) (Ze7 l its.toArray n dd sl k t h1 h2 hne') ⟨ho,?_⟩⟩)
 exact⟨.ref _,_,I.tnew (t':=s.toks) (ys:=[]) (its:=[]) .nil (YaU _),rfl,q _ (I.hok.fresh (Yad _))⟩
end
end L2
namespace L2
open PySem PySem.Spec PyProof.Rows
section
variable {X:Cx}
theorem Zej:∀{ns:List Int} {us:List Value},Vals (ns.map V.int) us→∃xs:List (Int×Tok),us=xs.map (fun p=>Value.int p.1 p.2)∧xs.map (·.1)=ns
 | [],_,.nil=>⟨[],rfl,rfl⟩
 |n::r,_,.cons h t=>by
  obtain⟨xs,e1,e2⟩:=Zej t
  obtain⟨tk,rfl⟩:=h
  exact⟨(n,tk)::xs,by rw [e1];rfl,by rw [←e2];rfl⟩
theorem Zip (hc:X.calm=true):CallR X (.builtin "sum") (fun xs H Q=>∃(a:Addr) (ns:List Int),xs=[.ref a]∧SqL X.K H a (ns.map V.int)∧Q (.int ns.sum) H):=by
 intro pins s σ H vs us Q I rv h
 obtain⟨a,ns,rfl,hq,q⟩:=h
 obtain⟨u,rfl,ru⟩:=rv.one
 cases ru
 obtain⟨its,r,hp,hz⟩:=I.list hq
 obtain⟨o,n,e,c,_,dt⟩:=hp
 have hL:s.heap.IsList a its.toArray:=⟨o,e,c,n,dt⟩
 obtain⟨xs,e1,e2⟩:=Zej r
 have hl':s.heap.IsList a (intItems xs.toArray):=by
  have:intItems xs.toArray=its.toArray:=by rw [e1];simp [intItems]
  rw [this]
  exact hL
 refine sum_intListG (A:=X.A) (I.ok.hd hc) hl' fun h' tk t' hk=>?_
 have e3:preSum (numAt xs.toArray) xs.toArray.size=ns.sum:=by
  rw [preSum_eq,Ybg (by simp),←e2]
 rw [e3]
 exact⟨.int _,H,I.kept (t':=tk) hk,⟨_,rfl⟩,q⟩
theorem Zg2 {lo:Int} {n:Nat} {acc:Array Value} (h:ItemsOf (fun i v=>∃t,v=.int (lo+i*1) t) acc n):Vals ((Yau n).map fun(k:Nat)=>V.int (lo+k*1)) acc.toList:=by
 obtain⟨hs,hi⟩:=h
 have key:∀(m:Nat),m≤n→Vals ((Yau m).map fun(k:Nat)=>V.int (lo+k*1)) (acc.toList.take m):=by
  intro m
  induction m with
  |zero=>intro _;exact .nil
  |succ m ih=>
   intro hm
   have hlt:m<acc.toList.length:=by rw [Ybc,hs];omega
   rw [YbU,Ya4,List.take_add_one,Yaf hlt]
   refine(ih (by omega)).append ?_
   obtain⟨t,ht⟩:=hi m (acc.toList[m]) (by rw [←YbP,Yaf hlt])
   exact .cons ⟨t,ht⟩ .nil
 have:=key n (Yad _)
 rw [Ybg (by rw [Ybc,hs];exact Yad _)] at this
 exact this
noncomputable def iLr (ta:TA):TE:=fun σ H Q=>ta σ H fun vs H1=>∃lo hi:Int,(vs=[.int hi]∧lo=0∨vs=[.int lo,.int hi])∧(-(2^60)≤lo∧lo<2^60∧ -(2^60)≤hi∧hi<2^60)∧(hi-lo).toNat≤100000∧
 ∀l,H1 l=none→Q (.ref l) (upd H1 l (.lst ((Yau (hi-lo).toNat).map fun(k:Nat)=>V.int (lo+k*1))))
theorem ZhW {pins:List (Addr×Obj)} {σ:St} {H:Hp} {s:Shared} {Q:VK} {lo hi:Int} {t u v:Tok} {tk:Nat} (hc:X.calm=true) (I:Inv X pins σ H s) (h1: -(2^60)≤lo) (h2:lo<2^60) (h3: -(2^60)≤hi) (h4:hi<2^60) (h5:(hi-lo).toNat≤100000)
  (q:∀l,H l=none→Q (.ref l) (upd H l (.lst ((Yau (hi-lo).toNat).map fun(k:Nat)=>V.int (lo+k*1))))):
  wpAny (model X.prog X.w) X.A (call (.type "list") [.ref s.heap.objs.size]) (EP X pins σ Q) X.xe {s with heap:=s.heap.push {cls:=.type "range",data:=.fields #[.int lo t,.int hi u,.int 1 v]},toks:=tk}:=by
 have I1:Inv X pins σ H {s with heap:=s.heap.push {cls:=.type "range",data:=.fields #[.int lo t,.int hi u,.int 1 v]},toks:=tk}:=I.kept fun b o e=>Yae _ e
 refine call_list_range (A:=X.A) (n:=(hi-lo).toNat) (I.ok.hd hc) (IsRange.new ..) (small_one (by omega) (by omega) (by omega) (by omega)) (by rw [rangeSize_one];split<;>omega) (by omega) fun h' tk' acc' c' hk hn hi'=>?_
 refine⟨.ref _,_,I1.laid (o:=.lst ((Yau (hi-lo).toNat).map fun(k:Nat)=>V.int (lo+k*1))) (t':=tk') hk (Yad _) ⟨?_,acc'.toList,c',Zg2 hi',?_⟩,rfl,q _ I1.fresh⟩
 ·rw [Yak,List.length_range]
  exact YaC h5 (by decide)
 ·rw [Array.toArray_toList];exact hn
theorem ZkQ {es:List Expr} {ta:TA} {p pos p0 pos0:Pos} (hc:X.calm=true) (hg0:Gl X "list") (hm0:X.mg "list" =none) (hg:Gl X "range") (hm:X.mg "range" =none) (ha:PA X es ta) {e:Expr} {rest:List Expr} (hes:es=e::rest) (hs:starEach (e::rest) X.env=(false,eval e X.env)::starEach rest X.env) (hpl:(backTo pos (starEach rest X.env)).any (·.1)=false):
  PE X (.Call (.Name "list" p0) [.Call (.Name "range" p) es [] pos] [] pos0) (iLr ta):=by
 intro pins s σ H Q I h
 subst hes
 refine wpAny_Call_Name_kw (Zcp I hg0 hm0 boot_list ?_ (by decide) (by decide))
 refine YaS ?_ rfl rfl
 show wpAny _ _ (spliced ((false,eval (.Call (.Name "range" p) (e::rest) [] pos) X.env)::backTo pos0 (starEach [] X.env))) _ _ s
 refine Calls.spliced_cons ?_
 refine Call_ (Zcp I hg hm boot_range (YaS (thn (ha pos pins s σ H _ I h) fun us s1 ⟨vs,H1,I1,r1,q1⟩=>?_) hs hpl))
 obtain⟨lo,hi,hv,⟨h1,h2,h3,h4⟩,h5,q⟩:=q1
 rcases hv with ⟨rfl,rfl⟩|rfl
 ·obtain⟨u,rfl,ru⟩:=r1.one
  obtain⟨t,rfl⟩:=ru
  refine call_range_1 (Calls.spliced_nil ?_)
  exact ZhW hc I1 h1 h2 h3 h4 h5 q
 ·cases r1 with
  |cons r rr=>
   cases rr with
   |cons r' rr=>
    cases rr
    obtain⟨t,rfl⟩:=r
    obtain⟨t',rfl⟩:=r'
    refine call_range_2 (Calls.spliced_nil ?_)
    exact ZhW hc I1 h1 h2 h3 h4 h5 q
end
end L2
namespace PySem
noncomputable def els (b0 b1 b2 b3 b4:Bool):List Nat:=(if b0 then [0] else [])++(if b1 then [1] else [])++(if b2 then [2] else [])++(if b3 then [3] else [])++(if b4 then [4] else [])
section
variable {prog:Program} {w:World} {A:Around} {E:Value→Shared→Prop} {s:Shared}
end
end PySem
namespace PySem
open PySem.W PyProof.Rows
namespace F
end F
namespace F
end F
section
variable {prog:Program} {w:World} {A:Around} {E:Value→Shared→Prop} {s:Shared}
end
end PySem
namespace PySem
open PySem.W PyProof.Rows
section
variable {prog:Program} {w:World} {A:Around} {E:Value→Shared→Prop} {s:Shared} {b0 b1 b2 b3 b4:Bool} {tk:Nat→Tok} {a it ep:Nat}
end
end PySem
namespace PySem
open PySem.W PyProof.Rows
section
variable {prog:Program} {w:World} {A:Around} {R:Result→Shared→Prop} {I:Addr} {fp wr:List Addr} {G:Array GenState→Array GenState→Prop} {n:Nat} {P:Nat→Value→Prop} {St:Nat→Shared→Prop}
end
section
variable {prog:Program} {w:World} {A:Around} {E:Value→Shared→Prop} {s:Shared}
end
end PySem
namespace L2
open PySem PySem.Spec PyProof.Rows
section
variable {X:Cx}
end
end L2
namespace PySem
structure ZA (z TI TO i1 i2:Addr) (fp1 fp2:List Addr):Prop where
 tiz:TI≠z
 toz:TO≠z
 tt:TI≠TO
 ti1:TI≠i1
 ti2:TI≠i2
 to1:TO≠i1
 to2:TO≠i2
 i1z:i1≠z
 i2z:i2≠z
 z1:z∉fp1
 z2:z∉fp2
 t1:TO∉fp1
 t2:TO∉fp2
 x1:i2∉fp1
 x2:i1∉fp2
section
variable {prog:Program} {w:World} {A:Around} {E:Value→Shared→Prop} {s:Shared} {z TI TO i1 i2:Addr} {fp1 fp2:List Addr} {n1 n2 i:Nat} {P1 P2:Nat→Value→Prop} {St1 St2:Nat→Heap→Prop} {a b:Value}
end
end PySem
namespace PySem
section
variable {prog:Program} {w:World} {A:Around} {E:Value→Shared→Prop} {s:Shared} {z TI TO i1 i2:Addr} {fp1 fp2:List Addr} {n1 n2 i:Nat} {P1 P2:Nat→Value→Prop} {St1 St2:Nat→Heap→Prop} {a b:Value}
end
end PySem
namespace L2
open PySem PySem.Spec PyProof.Rows
section
variable {X:Cx}
end
end L2
namespace L2
open PySem PySem.Spec PyProof.Rows
section
variable {prog:Program} {w:World} {A:Around} {E:Value→Shared→Prop} {s:Shared}
theorem ZnQ {K:Yab} {cd:Value} {q:Str} (h:YbW K cd q=true):PySem.W.kdsCode K cd=true:=by
 unfold YbW at h
 unfold PySem.W.kdsCode
 split at h
 ·split at h
  ·rename_i e;dsimp only;rw [e]
  ·cases h
 ·cases h
end
section
variable {X:Cx} {a b:Expr} {ta tb:TE}
end
end L2
namespace L2
open PySem PySem.Spec PyProof.Rows
noncomputable def mxL:List Int→Int
 | []=>0
 |a::r=>r.foldl (fun m x=>if x>m then x else m) a
noncomputable def mnL:List Int→Int
 | []=>0
 |a::r=>r.foldl (fun m x=>if x<m then x else m) a
theorem ZgD:∀(r:List Int) (a:Int),(r.foldl (fun m x=>if x>m then x else m) a∈a::r)∧∀b∈a::r,b≤r.foldl (fun m x=>if x>m then x else m) a
 | [],a=>⟨Yaw,fun b hb=>by rw [YaI] at hb;subst hb;exact Int.le_refl _⟩
 |x::r,a=>by
  have ih:=ZgD r (if x>a then x else a)
  simp only [YbR]
  generalize r.foldl (fun m x=>if x>m then x else m) (if x>a then x else a)=M at ih
  obtain⟨h1,h2⟩:=ih
  have h3:=h2 _ Yaw
  refine⟨?_,fun b hb=>?_⟩
  ·rcases YaB.mp h1 with e|e
   ·rw [e];split<;>simp
   ·simp [e]
  ·rcases YaB.mp hb with e|e
   ·subst e;split at h3<;>omega
   ·rcases YaB.mp e with e|e
    ·subst e;split at h3<;>omega
    ·exact h2 b (Yas _ e)
theorem ZgE:∀(r:List Int) (a:Int),(r.foldl (fun m x=>if x<m then x else m) a∈a::r)∧∀b∈a::r,r.foldl (fun m x=>if x<m then x else m) a≤b
 | [],a=>⟨Yaw,fun b hb=>by rw [YaI] at hb;subst hb;exact Int.le_refl _⟩
 |x::r,a=>by
  have ih:=ZgE r (if x<a then x else a)
  simp only [YbR]
  generalize r.foldl (fun m x=>if x<m then x else m) (if x<a then x else a)=M at ih
  obtain⟨h1,h2⟩:=ih
  have h3:=h2 _ Yaw
  refine⟨?_,fun b hb=>?_⟩
  ·rcases YaB.mp h1 with e|e
   ·rw [e];split<;>simp
   ·simp [e]
  ·rcases YaB.mp hb with e|e
   ·subst e;split at h3<;>omega
   ·rcases YaB.mp e with e|e
    ·subst e;split at h3<;>omega
    ·exact h2 b (Yas _ e)
theorem Zfn (X:Cx) {H:Hp} {a:Addr} {ns:List Int} {pins:List (Addr×Obj)} {σ:St} {s:Shared} (I:Inv X pins σ H s) (hq:SqL X.K H a (ns.map V.int)):∃xs:List (Int×Tok),s.heap.IsList a (intItems xs.toArray)∧xs.map (·.1)=ns:=by
 obtain⟨its,r,hp,hz⟩:=I.list hq
 obtain⟨o,n,e,c,_,dt⟩:=hp
 obtain⟨xs,e1,e2⟩:=Zej r
 refine⟨xs,?_,e2⟩
 have:intItems xs.toArray=its.toArray:=by rw [e1];simp [intItems]
 rw [this]
 exact⟨o,e,c,n,dt⟩
theorem Zit (hc:X.calm=true):CallR X (.builtin "max") (fun xs H Q=>∃(a:Addr) (ns:List Int),xs=[.ref a]∧ns≠[]∧SqL X.K H a (ns.map V.int)∧Q (.int (mxL ns)) H):=by
 intro pins s σ H vs us Q I rv h
 obtain⟨a,ns,rfl,hne,hq,q⟩:=h
 obtain⟨u,rfl,ru⟩:=rv.one
 cases ru
 obtain⟨xs,hL,rfl⟩:=Zfn X I hq
 have hsz:0<xs.toArray.size:=by
  cases xs with
  |nil=>exact absurd rfl hne
  |cons x r=>simp
 refine max_intList (A:=X.A) (I.ok.hd hc) hL hsz fun v h' tk hv hk=>?_
 obtain⟨t,rfl⟩:=intItems_at hv
 obtain⟨h1,h2⟩:=argBest_gt (numAt xs.toArray) (xs.toArray.size-1)
 have e:numAt xs.toArray (argBest (fun i j=>decide (numAt xs.toArray i>numAt xs.toArray j)) (xs.toArray.size-1))=mxL (xs.map (·.1)):=by
  have m1:numAt xs.toArray (argBest (fun i j=>decide (numAt xs.toArray i>numAt xs.toArray j)) (xs.toArray.size-1))∈xs.map (·.1):=by
   rw [numAt_eq];exact getD_mem (by simp at h1⊢;simp at hsz;omega)
  have m2:∀a∈xs.map (·.1),a≤numAt xs.toArray (argBest (fun i j=>decide (numAt xs.toArray i>numAt xs.toArray j)) (xs.toArray.size-1)):=fun a ha=>by
   obtain⟨j,hj,rfl⟩:=mem_getD ha
   have:=h2 j (by simp at hj⊢;omega)
   rw [numAt_eq (j:=j)] at this
   exact this
  generalize numAt xs.toArray (argBest (fun i j=>decide (numAt xs.toArray i>numAt xs.toArray j)) (xs.toArray.size-1))=M at m1 m2
  cases hx:xs.map (·.1) with
  |nil=>exact absurd hx hne
  |cons b r=>
   rw [hx] at m1 m2
   obtain⟨f1,f2⟩:=ZgD r b
   exact Int.le_antisymm (f2 _ m1) (m2 _ f1)
 rw [e]
 exact⟨.int _,H,I.kept (t':=tk) hk,⟨_,rfl⟩,q⟩
theorem Zir (hc:X.calm=true):CallR X (.builtin "min") (fun xs H Q=>∃(a:Addr) (ns:List Int),xs=[.ref a]∧ns≠[]∧SqL X.K H a (ns.map V.int)∧Q (.int (mnL ns)) H):=by
 intro pins s σ H vs us Q I rv h
 obtain⟨a,ns,rfl,hne,hq,q⟩:=h
 obtain⟨u,rfl,ru⟩:=rv.one
 cases ru
 obtain⟨xs,hL,rfl⟩:=Zfn X I hq
 have hsz:0<xs.toArray.size:=by
  cases xs with
  |nil=>exact absurd rfl hne
  |cons x r=>simp
 refine min_intList (A:=X.A) (I.ok.hd hc) hL hsz fun v h' tk hv hk=>?_
 obtain⟨t,rfl⟩:=intItems_at hv
 obtain⟨h1,h2⟩:=argBest_lt (numAt xs.toArray) (xs.toArray.size-1)
 have e:numAt xs.toArray (argBest (fun i j=>decide (numAt xs.toArray i<numAt xs.toArray j)) (xs.toArray.size-1))=mnL (xs.map (·.1)):=by
  have m1:numAt xs.toArray (argBest (fun i j=>decide (numAt xs.toArray i<numAt xs.toArray j)) (xs.toArray.size-1))∈xs.map (·.1):=by
   rw [numAt_eq];exact getD_mem (by simp at h1⊢;simp at hsz;omega)
  have m2:∀a∈xs.map (·.1),numAt xs.toArray (argBest (fun i j=>decide (numAt xs.toArray i<numAt xs.toArray j)) (xs.toArray.size-1))≤a:=fun a ha=>by
   obtain⟨j,hj,rfl⟩:=mem_getD ha
   have:=h2 j (by simp at hj⊢;omega)
   rw [numAt_eq (j:=j)] at this
   exact this
  generalize numAt xs.toArray (argBest (fun i j=>decide (numAt xs.toArray i<numAt xs.toArray j)) (xs.toArray.size-1))=M at m1 m2
  cases hx:xs.map (·.1) with
  |nil=>exact absurd hx hne
  |cons b r=>
   rw [hx] at m1 m2
   obtain⟨f1,f2⟩:=ZgE r b
   exact Int.le_antisymm (m2 _ f1) (f2 _ m1)
 rw [e]
 exact⟨.int _,H,I.kept (t':=tk) hk,⟨_,rfl⟩,q⟩
theorem Zfz:CallR X (.builtin "divmod") (fun xs H Q=>∃i j,xs=[.int i,.int j]∧CDivB i j∧∀p,H p=none→Q (.ref p) (upd H p (.tup [.int (i / j),.int (i % j)]))):=by
 intro pins s σ H xs us Q I r h
 obtain⟨i,j,rfl,⟨h1,h2⟩,q⟩:=h
 obtain⟨u,w',rfl,⟨t,rfl⟩,⟨t',rfl⟩⟩:=vals2 r
 have h0:j.natAbs≠0:=by omega
 have hl:j.natAbs.log2<256:=(YbY h0).mpr h2
 refine divmod_int (by omega) ?_ (.inl (PyProof.noPylong_of_log2 (by omega)))
 rw [Ybz i (by omega),Int.fmod_eq_emod_of_nonneg i (by omega)]
 refine⟨.ref s.heap.objs.size,_,?_,rfl,q _ (I.hok.fresh (Yad _))⟩
 exact I.laid (fun b o e=>Yae _ e) (Yad _) ⟨by simp only [YaH,Ya9];rw [sizeLine_eq];decide,[.int (i / j) s.toks,.int (i % j) (s.toks+1)],.cons ⟨_,rfl⟩ (.cons ⟨_,rfl⟩ .nil),⟨_,Yaz s.heap rfl,rfl,0,rfl⟩⟩
end L2
namespace L2
open PySem PySem.Spec PyProof.Rows
structure Kept (S ch:List Addr) (h h':Heap):Prop where
 keep:∀b o,h.get? b=some o→b∉ch→b∉S→h'.get? b=some o
 slot:∀b o,h.get? b=some o→b∉ch→∃sl,h'.get? b=some {o with slots:=sl}
 there:∀b o,h.get? b=some o→∃o',h'.get? b=some o'
theorem Kept.trans {S ch:List Addr} {h h1 h2:Heap} {ch2:List Addr} (a:Kept S ch h h1) (b:Kept S ch2 h1 h2) (hc:∀x∈ch2,x∈ch∨h.get? x=none):Kept S ch h h2:=by
 have nc:∀x o,h.get? x=some o→x∉ch→x∉ch2:=fun x o e n z=>by
  rcases hc x z with q|q
  ·exact n q
  ·rw [q] at e;cases e
 refine⟨fun x o e n m=>b.keep x o (a.keep x o e n m) (nc x o e n) m,fun x o e n=>?_,fun x o e=>?_⟩
 ·obtain⟨s1,e1⟩:=a.slot x o e n
  obtain⟨s2,e2⟩:=b.slot x _ e1 (nc x o e n)
  exact⟨s2,e2⟩
 ·obtain⟨o1,e1⟩:=a.there x o e
  exact b.there x o1 e1
theorem Zf5 (o:Obj) (f:Array Value→Array Value):(o.mapFields f).dict=o.dict:=by
 obtain⟨c,d,dt,sl⟩:=o;cases dt<;>rfl
noncomputable def RecAt (h:Heap) (a C:Addr) (fl:Value) (T:Option Addr):Prop:=
 ∃oe vs,h.get? a=some oe∧(oe.cls=.ref C∧oe.dict=none)∧oe.data=.fields vs∧1<vs.size∧match T with
  |none=>vs[1]?=some .none
  |some t=>vs[1]?=some (.ref t)∧∃oT ts,h.get? t=some oT∧oT.data=.fields ts∧ts[3]?=some fl
section
variable {M:Model} {A:Around} {E:Value→Shared→Prop} {s:Shared} {base:Heap} {env:Env} {outer:List Env} {L a C:Addr} {T:Option Addr} {Q:Unit→Shared→Prop}
theorem Zj9 {oe:Obj} {vs:Array Value} {head:Value} {had:Bool} (hfr:A.frames=some (env::outer)) (hl:s.heap.FunFrames base (env::outer)) (hf:env.frame=some L)
  (he:s.heap.get? a=some oe) (hd:oe.data=.fields vs) (hsz:1<vs.size)
  (h:∀h' t',Kept (frs (env::outer)) [a] s.heap h'→s.heap.get? t'=none→
   (∃o',h'.get? a=some o'∧(o'.cls=oe.cls∧o'.dict=oe.dict)∧o'.data=.fields (vs.setIfInBounds 1 (.ref t')))→(∃oT ts,h'.get? t'=some oT∧oT.data=.fields ts∧ts[3]?=some (rawInt L))→Q () {s with heap:=h'}):
  wpAny M A (do let x←frameOf env;let pl←entryPlaceOf L had;let y←EntryCells.newEntry head x .none (rawInt L) .none pl;setField (.ref a) 1 y) Q E s:=by
 have nof:a∉frs (env::outer):=fun z=>by
  obtain⟨_,o,ho,nf⟩:=hl.mem z
  rw [he] at ho
  cases ho
  exact nf vs hd
 refine wpAny_bind (wpAny_frameOf_fun hfr hl hf fun h1 k1=>wpAny_bind (wpAny_entryPlaceOf fun pl hpl=>?_))
 unfold EntryCells.newEntry newFields
 refine wpAny_bind (wpAny_newObj_type ?_ (hpl.sizeOk5 _ _ _ _ _))
 generalize hO:({cls:=.type "traceback",dict:=none,data:=.fields ([head,.ref L,.none,rawInt L,.none]++(if pl.isEmpty then Yaq 6 Value.none else pl)).toArray}:Obj)=tb
 have he1:h1.get? a=some oe:=(k1.2.1 a nof).trans he
 have he2:=Yae (h:=h1) tb he1
 refine wpAny_setField he2 hd hsz (h _ h1.objs.size ⟨fun b o e nb ns=>?_,fun b o e nb=>?_,fun b o e=>?_⟩ (Heap.get?_none_of_le (by rw [k1.1];exact Yad _)) ⟨_,Ya7 _ he2 (Obj.isFreed_of_fields (Obj.data_mapFields hd _)),⟨Obj.cls_mapFields _ _,Zf5 _ _⟩,Obj.data_mapFields hd _⟩ ?_)
 ·have hb:b≠a:=fun z=>nb (by simp [z])
  rw [YaV _ _ (Ne.symm hb)]
  exact Yae tb ((k1.2.1 b ns).trans e)
 ·have hb:b≠a:=fun z=>nb (by simp [z])
  obtain⟨sl,e1⟩:=k1.2.2 b o e
  exact⟨sl,by rw [YaV _ _ (Ne.symm hb)];exact Yae tb e1⟩
 ·by_cases hb:b=a
  ·subst hb
   exact⟨_,Ya7 _ he2 (Obj.isFreed_of_fields (Obj.data_mapFields hd _))⟩
  ·obtain⟨sl,e1⟩:=k1.2.2 b o e
   exact⟨_,by rw [YaV _ _ (Ne.symm hb)];exact Yae tb e1⟩
 ·have hT:h1.objs.size≠a:=Nat.ne_of_gt (Yat he1)
  subst hO
  refine⟨_,_,by rw [YaV _ _ (Ne.symm hT)];exact Yaz h1 rfl,rfl,?_⟩
  first|rfl|simp
theorem noteX (hfr:A.frames=some (env::outer)) (hl:s.heap.FunFrames base (env::outer)) (hf:env.frame=some L) (r:RecAt s.heap a C .none T) (hT:∀t,T=some t→t≠a)
  (h:∀h' t',Kept (frs (env::outer)) (a::T.toList) s.heap h'→s.heap.get? t'=none→t'≠a→RecAt h' a C (rawInt L) (some t')→Q () {s with heap:=h'}):
  wpAny M A (noteFrame (.ref a) env) Q E s:=by
 obtain⟨oe,vs,he,hc,hd,hsz,hT'⟩:=r
 have hv1:∀x,(vs.setIfInBounds 1 (.ref x))[1]?=some (.ref x):=fun x=>by simp [hsz]
 have nta:∀t',s.heap.get? t'=none→t'≠a:=fun t' n z=>by rw [z,he] at n;cases n
 unfold noteFrame
 simp only [hf]
 cases T with
 |none=>
  refine wpAny_bind (wpAny_field he hd hT' ?_)
  rw [if_neg (by decide)]
  refine Zj9 hfr hl hf he hd hsz fun h' t' k n ⟨o',e1,c1,d1⟩ q=>h h' t' k n (nta t' n) ⟨o',_,e1,⟨c1.1.trans hc.1,c1.2.trans hc.2⟩,d1,by simpa using hsz,hv1 t',q⟩
 |some t=>
  obtain⟨h1,oT,ts,et,dt,h3⟩:=hT'
  have hta:=hT t rfl
  have hz:3<ts.size:=(Yby.mp h3).1
  refine wpAny_bind (wpAny_field he hd h1 ?_)
  rw [if_pos (show (Value.ref t !=Value.none)=true from by simp)]
  refine wpAny_bind (wpAny_field et dt h3 ?_)
  rw [if_neg (show ¬((Value.none==rawInt L)=true) from by simp [rawInt])]
  refine wpAny_bind (wpAny_setField et dt hz ?_)
  have other:∀b,b≠t→(s.heap.update t (Obj.mapFields (·.setIfInBounds 3 Value.none))).get? b=s.heap.get? b:=fun b hb=>YaV _ _ (Ne.symm hb)
  have self:=Ya7 (Obj.mapFields (·.setIfInBounds 3 Value.none)) et (Obj.isFreed_of_fields (Obj.data_mapFields dt _))
  have k0:Kept (frs (env::outer)) (a::(some t:Option Addr).toList) s.heap (s.heap.update t (Obj.mapFields (·.setIfInBounds 3 Value.none))):=by
   refine⟨fun b o e nb _=>(other b fun z=>nb (by simp [z])).trans e,fun b o e nb=>⟨o.slots,(other b fun z=>nb (by simp [z])).trans e⟩,fun b o e=>?_⟩
   by_cases hb:b=t
   ·subst hb;exact⟨_,self⟩
   ·exact⟨o,(other b hb).trans e⟩
  have hl2:(s.heap.update t (Obj.mapFields (·.setIfInBounds 3 Value.none))).FunFrames base (env::outer):=hl.of_keeps fun b o hb hnf=>
   ⟨o,(other b fun z=>by subst z;rw [et] at hb;cases hb;exact hnf ts dt).trans hb,rfl⟩
  refine Zj9 (s:={s with heap:=s.heap.update t (Obj.mapFields (·.setIfInBounds 3 Value.none))}) hfr hl2 hf ((other a (Ne.symm hta)).trans he) hd hsz fun h' t' k n ⟨o',e1,c1,d1⟩ q=>?_
  have n':s.heap.get? t'=none:=by
   by_cases hb:t'=t
   ·subst hb
    rw [self] at n
    cases n
   ·exact(other t' hb).symm.trans n
  exact h h' t' (k0.trans k fun x hx=>.inl (by simp at hx;simp [hx])) n' (nta t' n') ⟨o',_,e1,⟨c1.1.trans hc.1,c1.2.trans hc.2⟩,d1,by simpa using hsz,hv1 t',q⟩
theorem landX {t:Addr} {fl:Value} {S:List Addr} (r:RecAt s.heap a C fl (some t)) (hta:t≠a) (h:∀h',Kept S [t] s.heap h'→RecAt h' a C .none (some t)→Q () {s with heap:=h'}):
  wpAny M A (setFlight (.ref a) none) Q E s:=by
 obtain⟨oe,vs,he,hc,hd,hsz,h1,oT,ts,et,dt,h3⟩:=r
 have hz:3<ts.size:=(Yby.mp h3).1
 unfold setFlight
 refine wpAny_bind (wpAny_field he hd h1 ?_)
 rw [if_pos (show (Value.ref t !=Value.none)=true from by simp)]
 have other:∀b,b≠t→(s.heap.update t (Obj.mapFields (·.setIfInBounds 3 ((none:Option Addr).elim Value.none fun f=>rawInt f)))).get? b=s.heap.get? b:=fun b hb=>YaV _ _ (Ne.symm hb)
 have self:=Ya7 (Obj.mapFields (·.setIfInBounds 3 ((none:Option Addr).elim Value.none fun f=>rawInt f))) et (Obj.isFreed_of_fields (Obj.data_mapFields dt _))
 refine wpAny_setField et dt hz (h _ ⟨fun b o e nb _=>(other b fun z=>nb (by simp [z])).trans e,fun b o e nb=>⟨o.slots,(other b fun z=>nb (by simp [z])).trans e⟩,fun b o e=>?_⟩ ?_)
 ·by_cases hb:b=t
  ·subst hb;exact⟨_,self⟩
  ·exact⟨o,(other b hb).trans e⟩
 ·exact⟨oe,vs,(other a (Ne.symm hta)).trans he,hc,hd,hsz,h1,_,_,self,Obj.data_mapFields dt _,by simp [hz]⟩
theorem Zno (hfr:A.frames=some (env::outer)) (hl:s.heap.FunFrames base (env::outer)) (hf:env.frame=some L) (r:RecAt s.heap a C .none T) (hT:∀t,T=some t→t≠a)
  (h:∀h' t',Kept (frs (env::outer)) (a::T.toList) s.heap h'→s.heap.get? t'=none→t'≠a→RecAt h' a C .none (some t')→Q () {s with heap:=h'}):
  wpAny M A (leaving env (.ref a)) Q E s:=by
 unfold leaving
 refine wpAny_bind (noteX hfr hl hf r hT fun h1 t' k n ne r1=>landX (S:=frs (env::outer)) r1 ne fun h2 k2 r2=>?_)
 exact h h2 t' (k.trans k2 fun x hx=>.inr (by simp at hx;rw [hx];exact n)) n ne r2
end
end L2
namespace L2
open PySem PySem.Spec PyProof.Rows
theorem ObjOk.there {P:Program} {w:World} {H:Hp} {h:Heap} {a:Addr} {o:HO} (x:ObjOk P w H h a o):∃u,h.get? a=some u:=by
 cases o with
 |lst xs=>obtain⟨_,_,_,_,e⟩:=x;exact⟨_,e⟩
 |tup xs=>obtain⟨_,_,_,_,e,_⟩:=x;exact⟨_,e⟩
 |dK kvs=>obtain⟨_,_,_,_,o,_,_,e,_⟩:=x;exact⟨_,e⟩
 |dT kvs=>obtain⟨_,_,_,_,o,_,_,e,_⟩:=x;exact⟨_,e⟩
 |set S n=>obtain⟨o,_,_,_,e,_⟩:=x;exact⟨_,e⟩
 |ins C dx fs=>obtain⟨_,_,_,e,_⟩:=x;exact⟨_,e⟩
 |own y=>exact x
 |xd fs=>obtain⟨_,⟨_,_,_,e,_⟩,_⟩:=x;exact⟨_,e⟩
 |rng lo hi=>obtain⟨_,_,_,e⟩:=x;exact⟨_,e⟩
 |frz ob u=>obtain⟨e,_⟩:=x;exact⟨_,e⟩
 |tbl ps=>exact⟨_,show h.get? a=some _ from x⟩
 |met f y=>exact⟨_,show h.get? a=some _ from x⟩
 |ext φ=>obtain⟨_,e,_⟩:=x;exact e
theorem HOk.none_of {P:Program} {w:World} {H:Hp} {h:Heap} {a:Addr} (x:HOk P w H h) (n:h.get? a=none):H a=none:=by
 cases q:H a with
 |none=>rfl
 |some o=>
  obtain⟨u,e⟩:=(x a o q).there
  rw [n] at e
  cases e
structure NewX (X:Cx) (pins:List (Addr×Obj)) (H:Hp) (b:Addr):Prop where
 fr:H b=none
 nw:X.s₀.heap.get? b=none
 ne:b≠X.env.locals
 ce:∀x c,X.env.cells.lookup x=some c→c≠b
 pn:∀p∈X.pn++pins,p.1≠b
noncomputable def FlyX (X:Cx) (pins:List (Addr×Obj)) (H:Hp) (a C:Addr) (h:Heap):Prop:=∃T,RecAt h a C .none T∧NewX X pins H a∧∀t,T=some t→t≠a∧NewX X pins H t
section
variable {X:Cx} {pins:List (Addr×Obj)} {σ:St} {H H':Hp} {s:Shared} {h':Heap} {a b C:Addr}
theorem Inv.newAt (I:Inv X pins σ H s) (hx:X.ex=[]) (n:s.heap.get? b=none) (f:H' b=none):NewX X pins H' b where
 fr:=f
 nw:=by
  cases q:X.s₀.heap.get? b with
  |none=>rfl
  |some o=>
   obtain⟨o',e⟩:=I.base.there b o q (by rw [hx];simp)
   rw [n] at e
   cases e
 ne:=fun z=>by
  obtain⟨m,⟨o,es,ep,ho,_⟩,_⟩:=I.loc
  rw [←z,n] at ho
  cases ho
 ce:=fun x c e z=>by
  obtain⟨v,o,ho,_⟩:=I.cell x c e
  rw [z,n] at ho
  cases ho
 pn:=fun p hp z=>by
  have:=(I.pin p hp).1
  rw [z,n] at this
  cases this
theorem Inv.exn {ch:List Addr} (I:Inv X pins σ H s) (k:Kept (frs X.stack) ch s.heap h') (hc:∀b∈ch,NewX X pins H b):Inv X pins σ H {s with heap:=h'}:=by
 have neL:∀b o,X.s₀.heap.get? b=some o→b≠X.env.locals:=fun b o e=>YaL (Yax (Yat e) I.ok.above)
 have nch:∀b o,X.s₀.heap.get? b=some o→b∉ch:=fun b o e z=>by rw [(hc b z).nw] at e;cases e
 have cellK:∀x c,X.env.cells.lookup x=some c→∀v,s.heap.IsCell c v→h'.IsCell c v:=fun x c e v ⟨o,ho,hd⟩=>by
  obtain⟨sl,q⟩:=k.slot c o ho fun z=>(hc c z).ce x c e rfl
  exact⟨_,q,hd⟩
 refine⟨I.ok,I.os,I.bare,⟨fun b o e n hb hx=>?_,fun b o e n hb hx=>?_,I.base.free,fun b o e hx=>?_,I.base.tups,I.base.frzs,I.base.tbls⟩,?_,fun x c e=>?_,I.free,I.freeC,fun p hp=>?_,fun b u e=>?_,I.len⟩
 ·exact k.keep b o (I.base.keep b o e n hb hx) (nch b o e) fun z=>(YaB.mp (I.stkSub b z)).elim (neL b o e) hb
 ·obtain⟨sl,e1⟩:=I.base.slot b o e n hb hx
  obtain⟨sl',e2⟩:=k.slot b _ e1 (nch b o e)
  exact⟨sl',e2⟩
 ·obtain⟨o',e1⟩:=I.base.there b o e hx
  exact k.there b o' e1
 ·obtain⟨m,⟨o,es,ep,ho,r⟩,hl⟩:=I.loc
  obtain⟨sl,q⟩:=k.slot _ o ho fun z=>(hc _ z).ne rfl
  refine⟨m,⟨_,es,ep,q,r⟩,fun i x v e1 e2 e3=>?_⟩
  obtain⟨u,ru,l⟩:=hl i x v e1 e2 e3
  refine⟨u,ru,?_⟩
  rcases l with l|⟨kk,c,e,z⟩
  ·exact .inl l
  ·exact .inr ⟨kk,c,e,cellK x c e _ z⟩
 ·obtain⟨v,z⟩:=I.cell x c e
  exact⟨v,cellK x c e v z⟩
 ·obtain⟨e,n,ne,nf,d⟩:=I.pin p hp
  exact⟨k.keep p.1 p.2 e (fun z=>(hc p.1 z).pn p hp rfl) fun z=>(YaB.mp (I.stkSub p.1 z)).elim ne nf,n,ne,nf,d⟩
 ·have go:∀c,H c≠none→∀v,s.heap.get? c=some v→h'.get? c=some v:=fun c hn v q=>k.keep c v q (fun z=>hn (hc c z).fr) fun z=>hn (I.stkFree c z)
  refine(I.hok b u e).stay (fun c v hcc q=>go c ?_ v q) (fun _ q=>q) fun _ _ q=>q
  rcases hcc with z|z
  ·rw [z,e];simp
  ·rw [z];simp
end
structure ClsF (K:Yab) (x:Str) (C:Addr):Prop where
 at_:YbV K mainGlobals x=some (some (.ref C))
 obj:∃(bm:List Value) (N:Addr) (nm q:Str) (bs:List Value) (hdct:Bool) (sn:List Str) (sub:List Value) (ab:Bool) (col:Option Bool) (dd:Option Addr) (k0 k1 k2 k3 k5:Option Value),
  ∃mN:Str→Option Value,K.lookup C=some (excClassObj nm q C N bs bm hdct sn sub ab col dd k0 k1 k2 k3 k5 "ValueError.__new__")∧mN "__init__" =none∧∀h,K.In h→h.Ns N mN∧OwnTail h vErr bm
 kit:kitC K C=true
section
variable {X:Cx} {pins:List (Addr×Obj)} {σ:St} {H H':Hp} {s:Shared} {h':Heap} {a b C:Addr} {x:Str} {e:Expr} {es:List Expr} {t:TA} {np cpos pos:Pos}
end
end L2
namespace L2
open PySem PySem.Spec PyProof.Rows
noncomputable def CXm (P:Program) (w:World):CXT:=fun outer H s E e s'=>∃(a C:Addr) (T:Option Addr) (H':Hp),e=.ref a∧s'.os=s.os∧AllBare s'.gens∧Un (frs outer) [] H H' s.heap s'.heap∧HOk P w H' s'.heap∧
 RecAt s'.heap a C .none T∧s.heap.get? a=none∧H' a=none∧(∀t,T=some t→t≠a∧s.heap.get? t=none∧H' t=none)∧E (.ref a) (some C) H'
theorem passM {X:Cx}:ZgP (CXm X.prog X.w) X E0:=fun _ _ _ _ _ _ _ h=>by
 obtain⟨_,_,_,_,_,_,_,_,_,_,_,_,_,z⟩:=h
 exact z.elim
section
variable {X:Cx} {pins:List (Addr×Obj)} {σ:St} {H H':Hp} {s:Shared} {h':Heap} {a b C:Addr} {x:Str} {e:Expr} {es:List Expr} {t:TA} {np cpos pos:Pos}
end
theorem ZlL {P:Program} {w:World} {K:Yab} {mg:Str→Option Value} {base:Heap} {N:List Str} {qual:Str} {scope:Scope} {f:Addr} {cd:Value} {A:Around} {outer:List Env} {s:Shared} {H:Hp} {E:XK}
  {pins:List (Addr×Obj)} {σ:St} {H':Hp} {s':Shared} {a C:Addr} (I:Inv (cxOf (CXm P w) P w K mg base N qual scope f cd A outer s H E) pins σ H' s') (fl:FlyX (cxOf (CXm P w) P w K mg base N qual scope f cd A outer s H E) pins H' a C s'.heap) (q:E (.ref a) (some C) H'):
  (cxOf (CXm P w) P w K mg base N qual scope f cd A outer s H E).xe (.ref a) s':=by
 obtain⟨T,rc,na,nt⟩:=fl
 show wpAny (model P w) (A.deeper (envOfC qual scope s.heap.objs.size f cd)) (leaving (envOfC qual scope s.heap.objs.size f cd) (.ref a)) _ _ s'
 refine Zno (base:=base) (outer:=outer) I.ok.frames I.stack rfl rc (fun t z=>(nt t z).1) fun h1 t1 k n ne r1=>?_
 have hc:∀b∈a::T.toList,NewX (cxOf (CXm P w) P w K mg base N qual scope f cd A outer s H E) pins H' b:=fun b hb=>by
  rcases YaB.mp hb with z|z
  ·rw [z];exact na
  ·cases T with
   |none=>simp at z
   |some t=>simp at z;rw [z];exact(nt t rfl).2
 have J:=I.exn k hc
 refine⟨a,C,some t1,H',rfl,J.os,J.bare,J.base,J.hok,r1,na.nw,na.fr,fun t z=>?_,q⟩
 cases z
 exact⟨ne,(I.newAt rfl n (I.hok.none_of n)).nw,I.hok.none_of n⟩
noncomputable abbrev isExc (a C:Addr):Heap→Prop:=fun h=>∃ox,PySem.W.InstAt h a ox C none
section
variable {M:Model} {A:Around} {E:Value→Shared→Prop} {h:Heap} {g:Array GenState} {d:Drawn} {t:Nat} {os:OsState} {nm q nm' q':Str} {C N T N':Addr} {bs bm bs' bm':List Value} {hdct hdct':Bool} {sn sn':List Str} {sub sub':List Value} {ab ab':Bool} {col col':Option Bool} {dd dd':Option Addr} {k0 k1 k2 k3 k5 l0 l1 l2 l3 l5:Option Value} {newId newId':String}
end
section
variable {X:Cx} {pins:List (Addr×Obj)} {σ:St} {H H':Hp} {s:Shared} {h':Heap} {a b C:Addr} {x n:Str}
end
end L2
namespace L2
open PySem PySem.Spec PyProof.Rows
section
variable {X:Cx} {pins:List (Addr×Obj)} {σ:St} {H H':Hp} {s:Shared} {h':Heap} {a b C:Addr} {x n:Str}
noncomputable def Cx.tr (X:Cx) (pins:List (Addr×Obj)) (E:Value→Shared→Prop):Cx:={X with pn:=X.pn++pins,xe:=E}
variable {E:Value→Shared→Prop} {pl:List (Addr×Obj)}
end
section
variable {prog:Program} {w:World} {A:Around} {E:Value→Shared→Prop} {s:Shared} {K:Yab} {x C:Addr} {ox:Obj}
end
end L2
namespace L2
open PySem PySem.Spec PyProof.Rows
theorem eq_bl (a b:Bool):MeetsSeq.EqGives (.bool a) (.bool b) (a==b):=fun prog w A E s Q h=>PySem.SeqAt.EqAt.bool_bool (A:=A) (s:=s) a b prog w E Q h
noncomputable def isBl (k:Bool):Value→Bool
 | .bool b=>b==k
 |_=>false
theorem Zii (k:Bool) {bs:List Bool}:∀y,y∈(bs.map Value.bool).toArray→MeetsSeq.EqGives y (.bool k) (isBl k y):=fun y hy=>by
 obtain⟨b,_,rfl⟩:=YaR.mp (List.mem_toArray.mp hy)
 exact eq_bl b k
theorem ZgQ {prog:Program} {w:World} {A:Around} (hh:A.handled=none) (I ax:Addr) (hne:ax≠I) (items:Array Value):
  WalksS prog w A I [I,ax] [I] (fun a b=>a=b) items.size (fun i v=>items[i]?=some v) (fun i s=>s.heap.IsListIter I ax i∧s.heap.IsList ax items) where
 sub:=fun b hb=>by simp at hb;simp [hb]
 grefl:=fun _=>rfl
 gtrans:=fun _ _ _ a b=>a.trans b
 frame:=fun _ _ _ _ st _ hk=>⟨st.1.at fun o e=>hk I (by simp) o e,st.2.at fun o e=>hk ax (by simp) o e⟩
 item:=fun i s Q E hi st hQ=>by
  refine wpAny_pyNext_list_item st.1 st.2 (x:=items[i]) (by simp [hi]) fun h' hit' hs'=>?_
  exact hQ _ _ (by simp [hi]) ⟨hit',st.2.extBut hs'.extBut hne⟩ ⟨fun b o hb e=>hs'.extBut b o (fun h=>hb (by simp [h])) e,rfl,rfl,rfl,Yad _⟩
 done:=fun s Q E st hQ=>wpAny_pyNext_list_end hh st.1 st.2 (by simp) fun h' he'=>hQ _ ⟨fun b o hb e=>he' b o (fun h=>hb (by simp [h])) e,rfl,rfl,rfl,Yad _⟩
 self:=fun _ _ _ _ st hQ=>wpAny_pyIter_listiter st.1 hQ
theorem Ze2 {bs:List Bool}:∀n,n≤bs.length→preSum (fun i=>if bs[i]?=some true then (1:Int) else 0) n=(((bs.take n).countP id:Nat):Int)
 |0,_=>rfl
 |n+1,h=>by
  have ih:=Ze2 (bs:=bs) n (by omega)
  show preSum _ n+_=_
  have hg:bs[n]?=some bs[n]:=Yaf (by omega)
  rw [ih,List.take_add_one,Ybr]
  show _+(if bs[n]?=some true then (1:Int) else 0)=_
  rw [hg]
  cases hb:bs[n] with
  |true=>simp
  |false=>simp
section
variable {X:Cx}
theorem Ziq (hc:X.calm=true):CallR X (.builtin "sum") (fun xs H Q=>∃(a:Addr) (bs:List Bool),xs=[.ref a]∧SqL X.K H a (bs.map V.bl)∧Q (.int ((bs.countP id:Nat):Int)) H):=by
 intro pins s σ H vs us Q I rv h
 obtain⟨a,bs,rfl,hq,q⟩:=h
 obtain⟨u,rfl,ru⟩:=rv.one
 cases ru
 obtain⟨its,r,hp,hz⟩:=I.list hq
 obtain⟨o,n,e,c,_,dt⟩:=hp
 have hL:s.heap.IsList a its.toArray:=⟨o,e,c,n,dt⟩
 have hv:=ZcF r
 have hlt:a<s.heap.objs.size:=Yat e
 refine call_sum_walkAnyB (wpAny_pyIter_list hL ⟨s.heap.objs.size,[s.heap.objs.size,a],[s.heap.objs.size],fun a b=>a=b,its.toArray.size,fun i v=>its.toArray[i]?=some v,fun i s=>s.heap.IsListIter _ a i∧s.heap.IsList a its.toArray,fun i=>if bs[i]?=some true then (1:Int) else 0,rfl,
  ZgQ (A:=X.A.in1) (I.ok.hd hc) _ a (YaL hlt) its.toArray,⟨⟨_,Yaz _ rfl,rfl,rfl⟩,hL.push _⟩,fun b hb=>?_,fun i v hi=>?_,fun s' t' hm=>?_⟩)
 ·show b<(s.heap.push _).objs.size
  rw [Ybu]
  rcases YaB.mp hb with z|z
  ·rw [z];exact Nat.lt_succ_self _
  ·rw [YaI.mp z];exact Nat.lt_succ_of_lt hlt
 ·have hi':(bs.map Value.bool)[i]?=some v:=by rw [←hv];simpa using hi
  rw [Yam,Yao] at hi'
  obtain⟨b,hb,rfl⟩:=hi'
  exact .inr ⟨b,rfl,by show (if bs[i]?=some true then (1:Int) else 0)=_;rw [hb];cases b<;>simp⟩
 ·have hsz:its.toArray.size=bs.length:=by rw [hv];simp
  rw [hsz,Ze2 bs.length (Yad _),Ybf]
  have hk:∀b o,s.heap.get? b=some o→s'.heap.get? b=some o:=fun b o e=>hm.heap b o (fun z=>by
   have:=Yat e
   rw [YaI.mp z] at this
   exact YaO _ this) (Yae _ e)
  obtain⟨hh,g,d,t,os⟩:=s'
  have h1:=hm.gens
  have h2:=hm.drawn
  have h3:=hm.os
  subst h1 h2 h3
  exact⟨.int _,H,I.kept (t':=t) hk,⟨_,rfl⟩,q⟩
noncomputable def rIdxB:V→List V→Hp→VK→Prop:=fun x vs H Q=>∃(l:Addr) (bs:List Bool) (j:Nat),x=.ref l∧vs=[.bl true]∧H l=some (.lst (bs.map V.bl))∧bs[j]?=some true∧(∀i,i<j→bs[i]?=some false)∧Q (.int ((j:Nat):Int)) H
noncomputable def rCntB:V→List V→Hp→VK→Prop:=fun x vs H Q=>∃(l:Addr) (bs:List Bool) (b:Bool),x=.ref l∧vs=[.bl b]∧H l=some (.lst (bs.map V.bl))∧Q (.int ((bs.countP (· ==b):Nat):Int)) H
theorem Zle:MtM X "list.index" rIdxB:=by
 intro pins s σ H x vs v us Q I rx rv h
 obtain⟨l,bs,j,rfl,rfl,hH,hj,hno,q⟩:=h
 cases rx
 obtain⟨u,rfl,ru⟩:=rv.one
 cases (show _=Value.bool true from ru)
 obtain⟨z,its,n,r,hl,e⟩:=I.lstM hH
 have hv:=ZcF r
 subst hv
 have hlt:=(Yac.mp hj).1
 rw [Yak] at z
 have hsz:sizeLine<2^63-1:=by decide
 refine call_meets F.slot_list_index ⟨_,e,rfl⟩ F.entry_list_index (F.args_list_index_2 _ _)
  (MeetsSeq.list_index l (bs.map Value.bool).toArray n (.bool true) (isBl true) (Zii true) j (by simpa using hlt) (by omega) ?_ fun m hm h2=>?_) ⟨e,⟨.int _,H,I.tok _,⟨_,rfl⟩,q⟩⟩
 ·have:=(Yac.mp hj).2
  simp [isBl,this]
 ·have hm':m<bs.length:=by simpa using hm
  have:=(Yac.mp (hno m h2)).2
  simp [isBl,this]
theorem Zlh:MtM X "list.count" rCntB:=by
 intro pins s σ H x vs v us Q I rx rv h
 obtain⟨l,bs,b,rfl,rfl,hH,q⟩:=h
 cases rx
 obtain⟨u,rfl,ru⟩:=rv.one
 cases (show _=Value.bool b from ru)
 obtain⟨z,its,n,r,hl,e⟩:=I.lstM hH
 have hv:=ZcF r
 subst hv
 refine call_meets F.slot_list_count ⟨_,e,rfl⟩ F.entry_list_count (F.args_list_count_2 _ _)
  (MeetsSeq.list_count l (bs.map Value.bool).toArray n (.bool b) (isBl b) (Zii b)) ⟨e,⟨.int _,H,I.tok _,⟨_,rfl⟩,?_⟩⟩
 have hc:(bs.map Value.bool).countP (isBl b)=bs.countP (· ==b):=by
  rw [List.countP_map]
  rfl
 rw [show (bs.map Value.bool).toArray.toList=bs.map Value.bool from rfl,hc]
 exact q
theorem Inv.big {pins:List (Addr×Obj)} {σ:St} {H:Hp} {s:Shared} (I:Inv X pins σ H s):sysModules<s.heap.objs.size:=by
 have h:mainGlobals<s.heap.objs.size:=(I.mod.glob.keeps I.bk).lt
 exact YbS (by decide) h
theorem ZgH {P:Program} {w:World} {H:Hp} (h:Heap) (hb:sysModules<h.objs.size):ObjOk P w H (h.push {cls:=.type "dict",data:=.dict #[]}) h.objs.size (.dK []):=
 ⟨YaU _,beq_eq_false_iff_ne.mpr (Ne.symm (YaL hb)),[],.nil,Heap.DictOf.new h⟩
theorem ZjC {P:Program} {w:World} {H:Hp} (h:Heap) (hb:sysModules<h.objs.size):ObjOk P w H (h.push {cls:=.type "dict",data:=.dict #[]}) h.objs.size (.dT []):=
 ⟨YaU _,beq_eq_false_iff_ne.mpr (Ne.symm (YaL hb)),[],.nil,_, #[],0,Yaz _ rfl,⟨rfl,rfl,rfl⟩,rfl,rfl,List.nodup_nil⟩
noncomputable def Zmf:TE:=fun _ H Q=>∀p,H p=none→Q (.ref p) (upd H p (.dT []))
theorem Zi2 {pos:Pos}:PE X (.Dict [] [] pos) Zmf:=fun pins s σ H Q I h=>
 wpAny_Dict_empty ⟨.ref s.heap.objs.size,_,I.laid (a:=s.heap.objs.size) (o:=.dT []) (t':=s.toks) (fun _ _ q=>Yae _ q) (Yad _) (ZjC s.heap I.big),rfl,h _ (I.hok.fresh (Yad _))⟩
end
end L2
namespace PySem
open PyProof.Rows HT
section
variable {prog:Program} {w:World} {A:Around} {E:Value→Shared→Prop} {s:Shared}
theorem Zc9 {sl:Addr} {u:Tok} {n:Nat} {Q:Int×Int×Nat→Shared→Prop} (hs:s.heap.IsSliceOf sl .none .none (.int (-1) u)) (h:Q ((n:Int) -1,-1,n) s):
  wpAny (model prog w) A (Builtin.Slice.sliceApplied (.ref sl) (pure (n:Int))) Q E s:=by
 obtain⟨os,hos,hcs,hds⟩:=id hs
 unfold Builtin.Slice.sliceApplied Builtin.Slice.sliceFields
 refine wpAny_bind (wpAny_bind (wpAny_field hos hds (x:=.none) rfl (wpAny_bind (wpAny_field hos hds (x:=.none) rfl (wpAny_bind (wpAny_field hos hds (x:=.int (-1) u) rfl (wpAny_pure ?_)))))))
 refine wpAny_bind (slicePart_int ?_)
 show wpAny _ _ (if ((-1:Int)==0)=true then _ else _) _ _ s
 rw [if_neg (by decide)]
 refine wpAny_bind (slicePart_none (wpAny_bind (slicePart_none (wpAny_bind (wpAny_pure ?_)))))
 have e:Builtin.Slice.slicePlaces ((n:Int) -1) (-1) (-1)=n:=by
  unfold Builtin.Slice.slicePlaces
  rw [if_neg (by decide)]
  simp only [Int.neg_neg,Int.ediv_one]
  split<;>omega
 show wpAny _ _ (pure ((n:Int) -1,(-1:Int),Builtin.Slice.slicePlaces ((n:Int) -1) (-1) (-1))) _ _ s
 rw [e]
 exact wpAny_pure h
theorem ZiX (xs:Array Value):((Yau xs.size).filterMap fun(m:Nat)=>xs[(((xs.size:Int) -1)+(m:Int)*(-1)).toNat]?).toArray=xs.toList.reverse.toArray:=by
 congr 1
 obtain⟨l⟩:=xs
 apply Ybt
 intro i
 have key:∀(k:Nat) (f:Nat→Option Value),(∀m,m<k→(f m).isSome=true)→∀i,((Yau k).filterMap f)[i]?=if i<k then f i else none:=by
  intro k f hf
  induction k with
  |zero=>intro i;simp
  |succ k ih=>
   intro i
   have ih':=ih fun m hm=>hf m (by omega)
   obtain⟨v,hv⟩:=Ybm.mp (hf k (by omega))
   have hl:((Yau k).filterMap f).length=k:=by
    have a:((Yau k).filterMap f)[k]?=none:=by rw [ih' k];simp
    have b:∀j,j<k→((Yau k).filterMap f)[j]?≠none:=fun j hj=>by
     rw [ih' j,if_pos hj]
     have:=hf j (by omega)
     intro z;rw [z] at this;cases this
    have a':=YaM.mp a
    by_cases hk:((Yau k).filterMap f).length<k
    ·exact absurd (YaM.mpr (Yad _)) (b _ hk)
    ·omega
   rw [YbU,List.filterMap_append]
   simp only [Ya0,hv,List.filterMap_nil]
   by_cases h1:i<k
   ·rw [Yar (by omega),ih' i,if_pos h1,if_pos (by omega)]
   ·rw [Yav (by omega),hl]
    by_cases h2:i=k
    ·subst h2;simp [hv]
    ·rw [if_neg (by omega)]
     exact YaM.mpr (by simp;omega)
 simp only [YbQ,Yag]
 rw [key l.length _ fun m hm=>by
  rw [Yaf (by omega)];rfl]
 by_cases hi:i<l.length
 ·rw [if_pos hi,List.getElem?_reverse hi]
  congr 1
  omega
 ·rw [if_neg hi]
  exact(YaM.mpr (by simp;omega)).symm
theorem ZcN {t sl:Addr} {items:Array Value} {u:Tok} {Q:Value→Shared→Prop} (ht:IsTup s.heap t items) (hs:s.heap.IsSliceOf sl .none .none (.int (-1) u))
  (h:Q (.ref s.heap.objs.size) {s with heap:=s.heap.push {cls:=.type "tuple",data:=.seq items.toList.reverse.toArray}})
  (hsz:items.size≤sizeLine):wpAny (model prog w) A (getItem (.ref t) (.ref sl)) Q E s:=by
 have htake:sizeOk (.seq items.toList.reverse.toArray):=by
  show items.toList.reverse.toArray.size≤sizeLine
  rw [Yag,List.length_reverse,Ybc]
  exact hsz
 obtain⟨os,hos,hcs,hds⟩:=id hs
 have hTs:s.TypeIs (.ref sl) "slice" :=⟨os,hos,hcs⟩
 unfold getItem
 try with_reducible refine wpAny_holding ?_
 first|refine wpAny_bind (wpAny_pure ?_)|skip
 refine wpAny_bind (wpAny_sequenceKey ht.typeIs (by decide) ?_)
 refine wpAny_bind (wpAny_callSpecial?_slot (name:=Str.ofString "__getitem__") ht.typeIs YaE
  (wpAny_call_entry YaE ht.typeIs entry_tuple_getitem ?_ (args_tuple_getitem _ _)))
 show wpAny _ _ (Builtin.Tuple.tupleItemsOf (.ref t)>>=_) _ _ s
 refine wpAny_bind (tupleItemsOf_ ht ?_)
 refine wpAny_bind (wpAny_typeOf hTs ?_)
 rw [if_pos (by decide)]
 refine wpAny_bind (Zc9 hs ?_)
 have hno:¬((((items.size:Int) -1)==0&&(-1:Int)==1&&items.size==items.size)=true):=by
  intro q
  rw [Yan,Yan] at q
  exact absurd (eq_of_beq q.1.2) (by decide)
 show wpAny _ _ (if (((items.size:Int) -1)==0&&(-1:Int)==1&&items.size==items.size)=true then _ else _) _ _ s
 rw [if_neg hno,ZiX]
 first
  |exact wpAny_bind (m:=Builtin.Tuple.tupleExact _) (wpAny_newObj_type (wpAny_pure ⟨_,rfl,wpAny_pure h⟩) htake)
  |exact wpAny_bind (m:=Builtin.Tuple.tupleExact _) (wpAny_newObj_type (wpAny_bind (wpAny_pure (wpAny_pure ⟨_,rfl,wpAny_pure h⟩))) htake)
end
end PySem
namespace L2
open PySem PySem.Spec PyProof.Rows
section
variable {X:Cx}
theorem Zgo {v:Value} {o:Option Int} (h:IsPart v o):∃l:Option (Int×Tok),v=partValue l∧l.map (·.1)=o:=by
 cases h with
 |none=>exact⟨none,rfl,rfl⟩
 |int i t=>exact⟨some (i,t),rfl,rfl⟩
noncomputable def rSlS:V→Option Int→Option Int→Hp→VK→Prop:=fun x lo hi H Q=>∃z,x=.str z∧z.length≤sizeLine∧Q (.str (Txt.slice z lo hi)) H
theorem Zmn:SlR X rSlS:=by
 intro pins s σ H x v vl vu lo hi sl Q I rx hs pl pu h
 obtain⟨z,rfl,hz,q⟩:=h
 obtain⟨t,rfl⟩:=rx
 obtain⟨l,rfl,rfl⟩:=Zgo pl
 obtain⟨u,rfl,rfl⟩:=Zgo pu
 refine⟨"str",_,PySem.F.slot_str_getitem.lookup,typeIs_str _ _ _,wpAny_getItem_str_slice (l:=l) (u:=u) (st:=none) hs rfl ?_⟩
 have fin:∀t' k,EP X pins σ Q (.str (Txt.slice z (l.map (·.1)) (u.map (·.1))) t') {s with toks:=k}:=fun t' k=>⟨.str _,H,I.tok k,⟨_,rfl⟩,q⟩
 cases l<;>cases u<;>exact post_val_or_str ⟨YaC (Txt.slice_le z _ _) hz,fin⟩
noncomputable def rUpp:V→List V→Hp→VK→Prop:=fun x vs H Q=>∃z,x=.str z∧vs=[]∧Builtin.Str.tooLong (Txt.upper z).length=false∧Q (.str (Txt.upper z)) H
theorem Zjj:MtR X "str.upper" rUpp:=by
 intro pins s σ H x vs v us Q I rx rv h
 obtain⟨z,rfl,rfl,hz,q⟩:=h
 obtain⟨t,rfl⟩:=rx
 cases rv
 exact call_gives PySem.F.slot_str_upper (typeIs_str s z t) PySem.F.entry_str_upper (PySem.F.args_str_upper_1 _) (gives_str_upper z t hz) ⟨fit_le hz,⟨.str _,H,I.tok _,⟨_,rfl⟩,q⟩⟩
end
end L2
namespace L2
open PySem PySem.Spec PyProof.Rows
noncomputable def lkv {α:Type} (l:List (Key×α)) (k:Key):Option α:=(l.find? fun kv=>decide (kv.1=k)).map (·.2)
noncomputable def pkv {α:Type} (l:List (Key×α)) (k:Key) (v:α):List (Key×α):=
 if (l.any fun kv=>decide (kv.1=k))=true then l.map (fun kv=>if kv.1=k then (kv.1,v) else kv) else l++[(k,v)]
noncomputable def mkv {α:Type} (l more:List (Key×α)):List (Key×α):=more.foldl (fun acc kv=>pkv acc kv.1 kv.2) l
noncomputable abbrev ZK {α β:Type} (R:α→β→Prop):List (Key×α)→List (Key×β)→Prop:=Paired fun p q=>p.1=q.1∧R p.2 q.2
section
variable {α β:Type} {R R':α→β→Prop} {l:List (Key×α)} {m:List (Key×β)} {k:Key}
theorem ZK.imp (f:∀a b,R a b→R' a b) (r:ZK R l m):ZK R' l m:=Paired.mapP r fun _ _ z=>⟨z.1,f _ _ z.2⟩
theorem ZK.lk (r:ZK R l m) {a:α} (h:lkv l k=some a):∃b,lkv m k=some b∧R a b:=by
 induction r with
 |nil=>cases h
 | @cons p q ps qs z t ih=>
  unfold lkv at h ih⊢
  rw [List.find?_cons] at h⊢
  rw [←z.1]
  by_cases e:p.1=k
  ·rw [decide_eq_true e] at h⊢
   cases h
   exact⟨q.2,rfl,z.2⟩
  ·rw [decide_eq_false e] at h⊢
   exact ih h
theorem ZK.lkn (r:ZK R l m) (h:lkv l k=none):lkv m k=none:=by
 induction r with
 |nil=>rfl
 | @cons p q ps qs z t ih=>
  unfold lkv at h ih⊢
  rw [List.find?_cons] at h⊢
  rw [←z.1]
  by_cases e:p.1=k
  ·rw [decide_eq_true e] at h;cases h
  ·rw [decide_eq_false e] at h⊢
   exact ih h
theorem ZK.any (r:ZK R l m):(l.any fun kv=>decide (kv.1=k))=m.any fun kv=>decide (kv.1=k):=by
 induction r with
 |nil=>rfl
 |cons z t ih=>rw [Yba,Yba,ih,z.1]
theorem ZK.repl (r:ZK R l m) {a:α} {b:β} (h:R a b):ZK R (l.map fun kv=>if kv.1=k then (kv.1,a) else kv) (m.map fun kv=>if kv.1=k then (kv.1,b) else kv):=by
 induction r with
 |nil=>exact .nil
 | @cons p q ps qs z t ih=>
  rw [YaK,YaK]
  refine .cons ?_ ih
  by_cases e:p.1=k
  ·rw [if_pos e,if_pos (z.1.symm.trans e)];exact⟨z.1,h⟩
  ·rw [if_neg e,if_neg (fun y=>e (z.1.trans y))];exact z
theorem ZK.put (r:ZK R l m) {a:α} {b:β} (h:R a b):ZK R (pkv l k a) (pkv m k b):=by
 unfold pkv
 rw [r.any]
 split
 ·exact r.repl h
 ·exact Paired.snoc r ⟨rfl,h⟩
theorem ZK.len (r:ZK R l m):l.length=m.length:=Paired.length r
theorem ZK.get (r:ZK R l m) {i:Nat} {q:Key×α} (h:l[i]?=some q):∃b,m[i]?=some (q.1,b):=by
 induction r generalizing i with
 |nil=>simp at h
 | @cons p y ps qs z t ih=>
  cases i with
  |zero=>simp at h;subst h;exact⟨y.2,by simp [z.1]⟩
  |succ i=>simp at h;simpa using ih h
theorem ZK.merge {more:List (Key×α)} {more':List (Key×β)} (r:ZK R more more'):∀{l:List (Key×α)} {m:List (Key×β)},ZK R l m→ZK R (mkv l more) (mkv m more'):=by
 induction r with
 |nil=>intro l m h;exact h
 | @cons p q ps qs z t ih=>
  intro l m h
  show ZK R (mkv (pkv l p.1 p.2) ps) (mkv (pkv m q.1 q.2) qs)
  rw [←z.1]
  exact ih (h.put z.2)
end
theorem ZfI {α:Type} (l:List (Key×α)) (k:Key) (v:α):(pkv l k v).length≤l.length+1:=by
 unfold pkv
 split
 ·rw [Yak];exact YbX _
 ·rw [YaQ,YaH,Ya9];exact Yad _
theorem ZhQ {α:Type}:∀(more l:List (Key×α)),(mkv l more).length≤l.length+more.length
 | [],_=>Yad _
 |p::r,l=>by
  have h1:=ZhQ r (pkv l p.1 p.2)
  have h2:=ZfI l p.1 p.2
  show (mkv (pkv l p.1 p.2) r).length≤_
  rw [YaH];omega
theorem Zgx {P:Program} {w:World} {k:Key} {u:Value} (r:RelV (kV k) u):(ZaJ P w).is k u=true:=by
 cases k with
 |inl i=>obtain⟨t,e⟩:=(show ∃t,u=Value.int i t from r);subst e;exact ZfQ P w i t
 |inr x=>obtain⟨t,e⟩:=(show ∃t,u=Value.str x t from r);subst e;exact ZfP P w x t
theorem ZlE {P:Program} {w:World} {k:Key} {u:Value} (r:(ZaJ P w).is k u=true):RelV (kV k) u:=by
 rw [ZgY] at r
 cases k with
 |inl i=>
  have r':Value.isInt i u=true:=r
  cases u<;>simp [Value.isInt] at r'
  subst r';exact⟨_,rfl⟩
 |inr x=>
  obtain⟨t,e⟩:=Value.isStrOf_shape (x:=x) (v:=u) r
  exact⟨t,e⟩
section
variable {X:Cx} {pins:List (Addr×Obj)} {σ:St} {H:Hp} {s:Shared} {a:Addr} {vs:List (Key×V)} {k:Key} {u r:Value} {v:V} {A:Around} {E:Value→Shared→Prop}
theorem Inv.dk (I:Inv X pins σ H s) (e:Rd H a (.dK vs)):vs.length≤sizeLine∧(a==sysModules)=false∧∃us,ZK RelV vs us∧s.heap.DictOf (ZaJ X.prog X.w) a us:=
 show ObjOk X.prog X.w H s.heap a (.dK vs) from e.ok I.hok
theorem dk_wr {h':Heap} {t':Nat} {ob:HO} (I:Inv X pins σ H s) (e:H a=some (.dK vs)) (hs:Heap.SameBut a s.heap h') (he:∃q,h'.get? a=some q) (new:ObjOk X.prog X.w (upd H a ob) h' a ob):
  Inv X pins σ (upd H a ob) {s with heap:=h',toks:=t'}:=
 I.write (x:=a) (e:=a) (by rw [e];exact True.intro) (.inl rfl) (fun b q hb z=>(hs.2 b hb).trans z) he new
end
noncomputable def rIxK:R2:=fun x y H Q=>∃a vs k v,x=.ref a∧y=kV k∧Rd H a (.dK vs)∧lkv vs k=some v∧Q v H
theorem ZlG {X:Cx}:IxR X rIxK:=by
 intro value slice pins s σ H x y v u Q I rx ry h hs
 obtain⟨a,vs,k,z,rfl,rfl,e,l,q⟩:=h
 cases rx
 obtain⟨hz,hd,us,rel,dd⟩:=I.dk e
 obtain⟨w,ew,rw'⟩:=rel.lk l
 exact subscriptTail_builtinR (x:=w) dd.typeIs PySem.F.slot_dict_getitem.lookup
  (wpAny_getItem_of (Q:=fun r s'=>r=w∧EP X pins σ Q r s') (Zgx ry) dd.mapOf (show valueAt us k=some w from ew) ⟨rfl,⟨z,H,I.tok _,rw',q⟩⟩) hs
noncomputable def rSetK:TSet:=fun o i v H Q=>∃a vs k,o=.ref a∧i=kV k∧H a=some (.dK vs)∧vs.length<sizeLine∧Q (upd H a (.dK (pkv vs k v)))
theorem ZiP {X:Cx}:PSet X rSetK:=by
 intro pins s σ H o i v ov iv u Q I ro ri rv h
 obtain⟨a,vs,k,rfl,rfl,e,l,q⟩:=h
 cases ro
 obtain⟨z,hd,us,rel,dd⟩:=I.dk (.inl e)
 have hz:us.length≤sizeLine:=by rw [←rel.len];exact z
 have hl:(pkv vs k v).length≤sizeLine:=YaC (ZfI vs k v) l
 refine wpAny_setItem_pairs (hsz:=hz) (Zgx ri) dd fun h' dd' hs=>⟨_,dk_wr (ob:=.dK (pkv vs k v)) I e hs ?_ ⟨hl,hd,_,rel.put rv,dd'⟩,q⟩
 obtain⟨q,_,_,hq,_⟩:=dd'
 exact⟨q,hq⟩
noncomputable def rGetK:V→List V→Hp→VK→Prop:=fun x vs H Q=>∃a kvs k d,x=.ref a∧vs=[kV k,d]∧H a=some (.dK kvs)∧Q ((lkv kvs k).getD d) H
theorem Zlf {X:Cx}:MtM X "dict.get" rGetK:=by
 intro pins s σ H x xs v us Q I rx rv h
 obtain⟨a,kvs,k,d,rfl,rfl,e,q⟩:=h
 cases rx
 obtain⟨u1,u2,rfl,r1,r2⟩:=rv.two
 obtain⟨z,hd,us,rel,dd⟩:=I.dk (.inl e)
 refine call_meetsIn PySem.F.slot_dict_get dd.typeIs PySem.F.entry_dict_get (PySem.F.args_dict_get_3 _ _ _) (meets_dict_get_default (ZaJ X.prog X.w) a (Zgx r1) hd u2) ⟨_,dd.mapOf,?_⟩
 refine⟨(lkv kvs k).getD d,H,I.tok _,?_,q⟩
 cases l:lkv kvs k with
 |none=>rw [show valueAt us k=none from rel.lkn l];exact r2
 |some y=>
  obtain⟨w,ew,rw'⟩:=rel.lk l
  rw [show valueAt us k=some w from ew];exact rw'
noncomputable def Itd (a:Addr) (o:Obj) (vs:List (Key×V)):It:=
 ⟨fun i H=>H a=some (.frz o (.dK vs))∧i<vs.length,fun i H x H'=>H'=H∧∃q,vs[i]?=some q∧x=kV q.1,fun i H=>H a=some (.frz o (.dK vs))∧vs.length≤i⟩
theorem Zhh {P:Program} {w:World} {K:Yab} {tg:Expr} (a it:Addr) (o:Obj) (vs:List (Key×V)) (es:Array DictEntry) (ep:Nat) (ho:o.data=.dict es ep):
  Turn P w K tg (Itd a o vs) [it] it (fun i h=>h.IsKeyIter it a i vs.length ep) where
 mem:=by simp
 obj:=fun i h st b hb=>by
  have e:b=it:=by simpa using hb
  subst e
  obtain⟨o,e,c,d⟩:=st
  exact⟨o,e,fun v z=>by rw [d] at z;cases z⟩
 keep:=fun i h h' st k=>by
  obtain⟨o,e,r⟩:=st
  exact⟨o,k it (by simp) o e,r⟩
 item:=by
  intro X hP hw hK hc i pins s σ H E I hf st hg
  subst hP hw hK
  obtain⟨hH,hi⟩:=hg
  obtain⟨f0,f1,f2,f3,f4,f5⟩:=hf it (by simp)
  obtain⟨hO,z,hd,us,rel,o',es',ep',h1,h2,h3,h4⟩:=I.hok a _ hH
  obtain rfl:o=o':=Option.some.inj (hO.symm.trans h1)
  rw [ho] at h3
  injection h3 with z1 z2
  subst z1 z2
  have dd:s.heap.DictAt (ZaJ X.prog X.w) a us ep:=⟨o,es,hO,h2,ho,h4⟩
  have rel':ZK RelV vs us:=rel
  obtain⟨w,hw⟩:=rel'.get (Yaf hi)
  have st':s.heap.IsKeyIter it a i us.length ep:=by rw [←rel'.len];exact st
  refine wpAny_pyNext_dict_item st' dd hw fun key h' hk st2 sb=>?_
  have I1:Inv X pins σ H {s with heap:=h'}:=I.turned (t':=s.toks) (fun b o hb e=>(sb.2 b hb).trans e) f0 f1 f3 f4 f5
  obtain⟨o2,e,c,d⟩:=id st2
  exact⟨key,rfl,go_of (s:={s with heap:=h'}) e c d (by decide) ⟨_,H,I1,ZlE hk,⟨rfl,_,Yaf hi,rfl⟩,by rw [rel'.len];exact st2,fun b hb=>(hf b hb).1⟩⟩
 done:=by
  intro X hP hw hK hc i pins s σ H E I hf st hg
  subst hP hw hK
  obtain⟨hH,hi⟩:=hg
  obtain⟨f0,f1,f2,f3,f4,f5⟩:=hf it (by simp)
  obtain⟨hO,z,hd,us,rel,o',es',ep',h1,h2,h3,h4⟩:=I.hok a _ hH
  obtain rfl:o=o':=Option.some.inj (hO.symm.trans h1)
  rw [ho] at h3
  injection h3 with z1 z2
  subst z1 z2
  have dd:s.heap.DictAt (ZaJ X.prog X.w) a us ep:=⟨o,es,hO,h2,ho,h4⟩
  have rel':ZK RelV vs us:=rel
  have st':s.heap.IsKeyIter it a i us.length ep:=by rw [←rel'.len];exact st
  exact wpAny_pyNext_dict_end (I.ok.hd hc) st' dd (YaM.mpr (by rw [←rel'.len];exact hi)) fun h' eb=>⟨rfl,I.turned (t':=s.toks) (fun b o hb e=>eb b o hb e) f0 f1 f3 f4 f5⟩
 self:=fun _ _ _ _ _ st h=>wpAny_pyIter_keyiter st h
noncomputable def iDct (tl:TE):TI:=fun σ H R=>tl σ H fun x H1=>∃a vs,x=.ref a∧((H1 a=some (.dK vs)∧∀o,R (Itd a o vs) (upd H1 a (.frz o (.dK vs))))∨∃o,H1 a=some (.frz o (.dK vs))∧R (Itd a o vs) H1)
theorem ZkN {X:Cx} {tg l:Expr} {tl:TE} (hl:PE X l tl):PI X tg l (iDct tl):=by
 intro pins s σ H R I h
 refine thn (hl pins s σ H _ I h) ?_
 rintro v s1 ⟨x,H1,I1,r1,a,vs,e,q⟩
 subst e
 cases r1
 have core:∀(o:Obj) (H2:Hp),Inv X pins σ H2 s1→H2 a=some (.frz o (.dK vs))→R (Itd a o vs) H2→wpAny (model X.prog X.w) X.A (pyIter (.ref a)) (PIE X pins σ tg R) X.xe s1:=by
  intro o H2 I2 hH q
  obtain⟨hO,z,hd,us,rel,o',es,ep,h1,h2,h3,h4⟩:=I2.hok a _ hH
  obtain rfl:o=o':=Option.some.inj (hO.symm.trans h1)
  have dd:s1.heap.DictAt (ZaJ X.prog X.w) a us ep:=⟨o,es,hO,h2,h3,h4⟩
  have rel':ZK RelV vs us:=rel
  refine wpAny_pyIter_dict hd dd ?_
  rw [←rel'.len]
  refine⟨s1.heap.objs.size,[s1.heap.objs.size],_,_,H2,rfl,I2.kept (t':=s1.toks) fun b o e=>Yae _ e,Zhh a _ o vs es ep h3,⟨_,Yaz _ rfl,rfl,rfl⟩,fun b hb=>?_,q⟩
  have e:b=s1.heap.objs.size:=by simpa using hb
  subst e
  exact I2.fpOk (Yad _) (I2.hok.fresh (Yad _))
 rcases q with ⟨hH,q⟩|⟨o,hH,q⟩
 ·obtain⟨z,hd,us,rel,o,es,ep,h1,h2⟩:=I1.hok a _ hH
  refine core o _ (dk_wr (ob:=.frz o (.dK vs)) (h':=s1.heap) (t':=s1.toks) I1 hH ⟨rfl,fun _ _=>rfl⟩ ⟨o,h1⟩ ⟨h1,z,hd,us,rel,o,es,ep,h1,h2⟩) Zaq (q o)
 ·exact core o H1 I1 hH q
theorem Inv.newK {X:Cx} {pins:List (Addr×Obj)} {σ:St} {H:Hp} {s:Shared} (I:Inv X pins σ H s):X.K.lookup s.heap.objs.size=none:=by
 cases h:X.K.lookup s.heap.objs.size with
 |none=>rfl
 |some o=>exact absurd (Yat (I.kIn _ o h)) (YaO _)
noncomputable def Zmg (K:Yab):TE:=fun _ H Q=>∀p,H p=none→K.lookup p=none→Q (.ref p) (upd H p (.dK []))
theorem Zi3 {X:Cx} {pos:Pos}:PE X (.Dict [] [] pos) (Zmg X.K):=fun pins s σ H Q I h=>
 wpAny_Dict_empty ⟨.ref s.heap.objs.size,_,I.laid (a:=s.heap.objs.size) (o:=.dK []) (t':=s.toks) (fun _ _ q=>Yae _ q) (Yad _) (ZgH s.heap I.big),rfl,h _ (I.hok.fresh (Yad _)) I.newK⟩
noncomputable def PPd (X:Cx) (pos:Pos) (keys:List (Option Expr)) (values:List Expr) (ks:List Key) (t:TA):Prop:=
 ∀(pins:List (Addr×Obj)) (s:Shared) (σ:St) (H:Hp) (Q:List V→Hp→Prop),Inv X pins σ H s→t σ H Q→
  wpAny (model X.prog X.w) X.A (evalPairs (pairTrees keys values X.env pos)) (fun ws s'=>∃vs H',Inv X pins σ H' s'∧(∃us,Carries (ZaJ X.prog X.w) ws us∧ZK RelV (ks.zip vs) us)∧vs.length=ks.length∧Q vs H') X.xe s
noncomputable def tDsp (K:Yab) (ks:List Key) (t:TA):TE:=fun σ H Q=>∀p,H p=none→K.lookup p=none→t σ (upd H p (.dK [])) fun vs H2=>H2 p=some (.dK [])∧(vs.length=ks.length→Q (.ref p) (upd H2 p (.dK (mkv [] (ks.zip vs)))))
theorem ZkS {X:Cx} {pos:Pos} {keys:List (Option Expr)} {values:List Expr} {ks:List Key} {t:TA} (h:PPd X pos keys values ks t) (hall:keys.all (·.isSome)=true) (hl:keys.length=values.length) (h0:keys≠[]) (h15:keys.length≤15) (hk:ks.length≤15):
  PE X (.Dict keys values pos) (tDsp X.K ks t):=by
 intro pins s σ H Q I q
 have I1:=I.laid (a:=s.heap.objs.size) (o:=.dK []) (h':=s.heap.push {cls:=.type "dict",data:=.dict #[]}) (t':=s.toks) (fun _ _ q=>Yae _ q) (Yad _) (ZgH s.heap I.big)
 refine wpAny_Dict_walk (knd:=ZaJ X.prog X.w) hall hl h0 h15 (thn (h pins _ σ _ _ I1 (q _ (I.hok.fresh (Yad _)) I.newK)) ?_)
 rintro ws s2 ⟨vs,H2,I2,⟨us,c,rel⟩,ln,e,q2⟩
 obtain⟨z,hd,xs,r0,dd⟩:=I2.dk (.inl e)
 cases r0
 refine⟨us,c,dd,fun h' dd' hs=>⟨.ref s.heap.objs.size,_,?_,rfl,q2 ln⟩⟩
 have hz:(mkv [] (ks.zip vs)).length≤sizeLine:=by
  have h1:=ZhQ (ks.zip vs) []
  rw [Ya9,List.length_zip] at h1
  rw [sizeLine_eq];omega
 have he:∃q,h'.get? s.heap.objs.size=some q:=let ⟨q,_,_,hq,_⟩:=dd';⟨q,hq⟩
 exact I2.write (x:=s.heap.objs.size) (e:=s.heap.objs.size) (by rw [e];exact True.intro) (.inl rfl) (fun b q hb z=>(hs.2 b hb).trans z) he (show ObjOk X.prog X.w _ h' _ (.dK _) from ⟨hz,hd,_,rel.merge .nil,dd'⟩)
noncomputable def isTx (z:Str):Value→Bool
 | .str y _=>y==z
 |_=>false
theorem Zhc {z:Str}:∀{zs:List Str} {us:List Value},Vals (zs.map V.str) us→us.countP (isTx z)=zs.countP (· ==z)∧∀y∈us,∃b t,y=.str b t
 | [],_,.nil=>⟨rfl,fun _ h=>nomatch h⟩
 |b::r,_,.cons h q=>by
  obtain⟨t,rfl⟩:=h
  obtain⟨h1,h2⟩:=Zhc (z:=z) q
  refine⟨?_,fun y hy=>?_⟩
  ·rw [YbO,YbO,h1]
   rfl
  ·rcases YaB.mp hy with e|e
   ·exact⟨b,t,e⟩
   ·exact h2 y e
noncomputable def rCntS:V→List V→Hp→VK→Prop:=fun x vs H Q=>∃(l:Addr) (zs:List Str) (z:Str),x=.ref l∧vs=[.str z]∧H l=some (.lst (zs.map V.str))∧Q (.int ((zs.countP (· ==z):Nat):Int)) H
theorem Zlg {X:Cx}:MtM X "list.count" rCntS:=by
 intro pins s σ H x vs v us Q I rx rv h
 obtain⟨l,zs,z,rfl,rfl,hH,q⟩:=h
 cases rx
 obtain⟨u,rfl,ru⟩:=rv.one
 obtain⟨t,rfl⟩:=ru
 obtain⟨hz,its,n,r,hl,e⟩:=I.lstM hH
 obtain⟨h1,h2⟩:=Zhc (z:=z) r
 refine call_meets F.slot_list_count ⟨_,e,rfl⟩ F.entry_list_count (F.args_list_count_2 _ _)
  (MeetsSeq.list_count l its.toArray n (.str z t) (isTx z) fun y hy=>?_) ⟨e,⟨.int _,H,I.tok _,⟨_,rfl⟩,?_⟩⟩
 ·obtain⟨b,t',rfl⟩:=h2 y (List.mem_toArray.mp hy)
  exact fun prog w A E s Q h=>PySem.SeqAt.EqAt.str_str (A:=A) (s:=s) b t' z t prog w E Q h
 ·rw [show its.toArray.toList=its from rfl,h1]
  exact q
end L2
namespace Py
open PySem L2
inductive D where
 |non|bl (b:Bool)|int (i:Int)|str (x:Str)|tup (xs:List D)|obj (n:Nat)|ty (n:String)|exo (c:Str)|dic (n:Nat)
 deriving Inhabited
mutual
noncomputable def D.same:D→D→Bool
 | .non,.non=>true
 | .bl a,.bl b=>a==b
 | .int a,.int b=>a==b
 | .str a,.str b=>a==b
 | .tup a,.tup b=>D.sames a b
 | .obj a,.obj b=>a==b
 | .ty a,.ty b=>a==b
 | .exo a,.exo b=>a==b
 | .dic a,.dic b=>a==b
 |_,_=>false
noncomputable def D.sames:List D→List D→Bool
 | [],[]=>true
 |a::r,b::t=>D.same a b&&D.sames r t
 |_,_=>false
end
mutual
theorem D.same_eq:∀{a b:D},D.same a b=true→a=b
 | .non,.non,_=>rfl
 | .bl a,.bl b,h=>by simp only [D.same,beq_iff_eq] at h;rw [h]
 | .int a,.int b,h=>by simp only [D.same,beq_iff_eq] at h;rw [h]
 | .str a,.str b,h=>by simp only [D.same,beq_iff_eq] at h;rw [h]
 | .tup a,.tup b,h=>by simp only [D.same] at h;rw [D.sames_eq h]
 | .obj a,.obj b,h=>by simp only [D.same,beq_iff_eq] at h;rw [h]
 | .ty a,.ty b,h=>by simp only [D.same,beq_iff_eq] at h;rw [h]
 | .exo a,.exo b,h=>by simp only [D.same,beq_iff_eq] at h;rw [h]
 | .dic a,.dic b,h=>by simp only [D.same,beq_iff_eq] at h;rw [h]
 | .non,.bl _,h| .non,.int _,h| .non,.str _,h| .non,.tup _,h| .non,.obj _,h| .non,.ty _,h| .non,.exo _,h| .non,.dic _,h=>by simp [D.same] at h
 | .bl _,.non,h| .bl _,.int _,h| .bl _,.str _,h| .bl _,.tup _,h| .bl _,.obj _,h| .bl _,.ty _,h| .bl _,.exo _,h| .bl _,.dic _,h=>by simp [D.same] at h
 | .int _,.non,h| .int _,.bl _,h| .int _,.str _,h| .int _,.tup _,h| .int _,.obj _,h| .int _,.ty _,h| .int _,.exo _,h| .int _,.dic _,h=>by simp [D.same] at h
 | .str _,.non,h| .str _,.bl _,h| .str _,.int _,h| .str _,.tup _,h| .str _,.obj _,h| .str _,.ty _,h| .str _,.exo _,h| .str _,.dic _,h=>by simp [D.same] at h
 | .tup _,.non,h| .tup _,.bl _,h| .tup _,.int _,h| .tup _,.str _,h| .tup _,.obj _,h| .tup _,.ty _,h| .tup _,.exo _,h| .tup _,.dic _,h=>by simp [D.same] at h
 | .obj _,.non,h| .obj _,.bl _,h| .obj _,.int _,h| .obj _,.str _,h| .obj _,.tup _,h| .obj _,.ty _,h| .obj _,.exo _,h| .obj _,.dic _,h=>by simp [D.same] at h
 | .ty _,.non,h| .ty _,.bl _,h| .ty _,.int _,h| .ty _,.str _,h| .ty _,.tup _,h| .ty _,.obj _,h| .ty _,.exo _,h| .ty _,.dic _,h=>by simp [D.same] at h
 | .exo _,.non,h| .dic _,.non,h| .exo _,.bl _,h| .dic _,.bl _,h| .exo _,.int _,h| .dic _,.int _,h| .exo _,.str _,h| .dic _,.str _,h| .exo _,.tup _,h| .dic _,.tup _,h| .exo _,.obj _,h| .dic _,.obj _,h| .exo _,.ty _,h| .dic _,.ty _,h| .exo _,.dic _,h=>by simp [D.same] at h
 | .dic _,.exo _,h=>by simp [D.same] at h
theorem D.sames_eq:∀{a b:List D},D.sames a b=true→a=b
 | [],[],_=>rfl
 |a::r,b::t,h=>by
  simp only [D.sames,Yan] at h
  rw [D.same_eq h.1,D.sames_eq h.2]
 | [],_::_,h|_::_,[],h=>by simp [D.sames] at h
end
mutual
theorem D.same_refl:∀a:D,D.same a a=true
 | .non=>rfl
 | .bl a=>by simp [D.same]
 | .int a=>by simp [D.same]
 | .str a=>by simp [D.same]
 | .tup a=>by simp [D.same,D.sames_refl a]
 | .obj a=>by simp [D.same]
 | .ty a=>by simp [D.same]
 | .exo a=>by simp [D.same]
 | .dic a=>by simp [D.same]
theorem D.sames_refl:∀a:List D,D.sames a a=true
 | []=>rfl
 |a::r=>by simp [D.sames,D.same_refl a,D.sames_refl r]
end
inductive Cell where
 |lst (xs:List D)|scr (xs:List D)|dct (kvs:List (Key×D))|sdc (kvs:List (Key×D))
noncomputable abbrev Sto:=List Cell
noncomputable abbrev Nv:=List (Option D)
inductive Res (α:Type) where
 |ok (a:α) (S:Sto)|no
noncomputable def Res.bind {α β:Type}:Res α→(α→Sto→Res β)→Res β
 | .ok a S,f=>f a S
 | .no,_=>.no
@[simp] theorem Res.bind_ok {α β:Type} (a:α) (S:Sto) (f:α→Sto→Res β):(Res.ok a S).bind f=f a S:=rfl
@[simp] theorem Res.bind_no {α β:Type} (f:α→Sto→Res β):(Res.no:Res α).bind f=.no:=rfl
theorem Res.bind_is {α β:Type} {r:Res α} {f:α→Sto→Res β} {b:β} {S':Sto} (h:r.bind f=.ok b S'):∃a S,r=.ok a S∧f a S=.ok b S':=by
 cases r with
 |ok a S=>exact⟨a,S,rfl,h⟩
 |no=>cases h
inductive Op2 where
 |add|sub|mul|mod|fdiv|pow|shl|shr|band|eq|ne|lt|le|gt|ge|is|isn|mem|nmem
 deriving DecidableEq
noncomputable def flatD:D→Bool
 | .non=>true| .bl _=>true| .int _=>true| .str _=>true|_=>false
noncomputable def eqF:D→D→Bool
 | .non,.non=>true
 | .bl a,.bl b=>a==b
 | .bl a,.int b=>(if a then 1 else 0)==b
 | .int a,.bl b=>a==(if b then 1 else 0)
 | .int a,.int b=>a==b
 | .str a,.str b=>a==b
 |_,_=>false
noncomputable def eqK:D→D→Option Bool
 | .int a,.int b=>some (decide (a=b))
 | .str a,.str b=>some (decide (a=b))
 | .bl a,.bl b=>some (decide (a=b))
 |_,_=>none
noncomputable def lsOf (S:Sto) (n:Nat):Option (List D):=match S[n]? with
 |some (.lst xs)=>some xs
 |some (.scr xs)=>some xs
 |_=>none
mutual
noncomputable def D.pd:D→PyData
 | .non=>.none| .bl b=>.bool b| .int i=>.int i| .str x=>.str x| .tup xs=>.tuple (D.pds xs)| .obj _=>.none| .ty _=>.none| .exo _=>.none| .dic _=>.none
noncomputable def D.pds:List D→List PyData
 | []=>[]
 |x::r=>x.pd::D.pds r
noncomputable def D.pl:D→Bool
 | .non=>true| .bl _=>true| .int _=>true| .str x=>PyData.strOk x| .tup xs=>D.pls xs| .obj _=>false| .ty _=>false| .exo _=>false| .dic _=>false
noncomputable def D.pls:List D→Bool
 | []=>true
 |x::r=>x.pl&&D.pls r
end
noncomputable def pdS (S:Sto):D→Option PyData
 | .obj n=>match lsOf S n with|some xs=>if D.pls xs=true then some (.list (D.pds xs)) else none|none=>none
 |d=>if d.pl=true then some d.pd else none
noncomputable def eqX (S:Sto) (a b:D):Option Bool:=match pdS S a,pdS S b with
 |some p,some q=>if p.depth≤60 then some (PyData.eqv p q) else none
 |_,_=>none
noncomputable def eqA (S:Sto) (a b:D):Option Bool:=match eqK a b with
 |some k=>some k
 |none=>eqX S a b
noncomputable def memL (S:Sto) (p:PyData):List D→Option Bool
 | []=>some false
 |y::r=>match pdS S y,memL S p r with
  |some q,some b=>some (PyData.eqv q p||b)
  |_,_=>none
noncomputable def memX (S:Sto) (a:D) (ys:List D):Option Bool:=match pdS S a with
 |some p=>if p.depth≤60 then memL S p ys else none
 |none=>none
noncomputable def isNon:D→Bool
 | .non=>true|_=>false
noncomputable def o_add:D→D→Sto→Res D
 | .int a,.int b,S=>.ok (.int (a+b)) S
 | .tup a,.tup b,S=>if a.length+b.length≤100000 then .ok (.tup (a++b)) S else .no
 | .str a,.str b,S=>if a.length+b.length≤100000 then .ok (.str (a++b)) S else .no
 | .obj a,.obj b,S=>match lsOf S a,lsOf S b with
  |some xs,some ys=>if xs.length+ys.length≤100000 then .ok (.obj S.length) (S++[.lst (xs++ys)]) else .no
  |_,_=>.no
 |_,_,_=>.no
noncomputable def o_sub:D→D→Sto→Res D
 | .int a,.int b,S=>.ok (.int (a-b)) S
 |_,_,_=>.no
noncomputable def o_mul:D→D→Sto→Res D
 | .int a,.int b,S=>if (a.natAbs<2^256∧b.natAbs<2^256)∨a.natAbs<2^64∨b.natAbs<2^64 then .ok (.int (a*b)) S else .no
 | .tup a,.int b,S=>if a≠[]∧1≤b∧b≤1000∧a.length≤100 then .ok (.tup (Yaq b.toNat a).flatten) S else if a≠[]∧b≤0∧ -1000≤b then .ok (.tup []) S else .no
 | .obj n,.int b,S=>match S[n]? with
  |some (.lst xs)=>if b≤1000∧xs.length≤100∧ -1000≤b then .ok (.obj S.length) (S++[.lst (Yaq b.toNat xs).flatten]) else .no
  |_=>.no
 |_,_,_=>.no
noncomputable def o_mod:D→D→Sto→Res D
 | .int a,.int b,S=>if 0<b then .ok (.int (a % b)) S else .no
 |_,_,_=>.no
noncomputable def Za9:D→D→Sto→Res D
 | .int a,.int b,S=>if 0<b∧b.natAbs<2^256 then .ok (.int (a / b)) S else .no
 |_,_,_=>.no
noncomputable def o_pow:D→D→Sto→Res D
 | .int a,.int b,S=>if 0≤b∧b≤1000000∧a.natAbs<2^64 then .ok (.int (a^b.toNat)) S else .no
 |_,_,_=>.no
noncomputable def o_shl:D→D→Sto→Res D
 | .int a,.int b,S=>if 0≤b∧b≤1000000∧a.natAbs<2^64 then .ok (.int (a*2^b.toNat)) S else .no
 |_,_,_=>.no
noncomputable def o_shr:D→D→Sto→Res D
 | .int a,.int b,S=>if 0≤b then .ok (.int (a / 2^b.toNat)) S else .no
 |_,_,_=>.no
noncomputable def Zbn:D→D→Sto→Res D
 | .int a,.int b,S=>.ok (.int (Builtin.bitAnd a b)) S
 |_,_,_=>.no
noncomputable def o_eq:D→D→Sto→Res D
 |a,b,S=>match eqA S a b with|some k=>.ok (.bl k) S|none=>.no
noncomputable def o_ne:D→D→Sto→Res D
 |a,b,S=>match eqA S a b with|some k=>.ok (.bl (!k)) S|none=>.no
noncomputable def o_lt:D→D→Sto→Res D
 | .int a,.int b,S=>.ok (.bl (decide (a<b))) S
 |_,_,_=>.no
noncomputable def o_le:D→D→Sto→Res D
 | .int a,.int b,S=>.ok (.bl (decide (a≤b))) S
 |_,_,_=>.no
noncomputable def o_gt:D→D→Sto→Res D
 | .int a,.int b,S=>.ok (.bl (decide (b<a))) S
 |_,_,_=>.no
noncomputable def o_ge:D→D→Sto→Res D
 | .int a,.int b,S=>.ok (.bl (decide (b≤a))) S
 |_,_,_=>.no
noncomputable def o_is:D→D→Sto→Res D
 |a,.non,S=>.ok (.bl (isNon a)) S
 | .bl a,.bl b,S=>.ok (.bl (decide (a=b))) S
 |_,_,_=>.no
noncomputable def o_isn:D→D→Sto→Res D
 |a,.non,S=>.ok (.bl (!isNon a)) S
 | .bl a,.bl b,S=>.ok (.bl (!decide (a=b))) S
 |_,_,_=>.no
noncomputable def o_mem:D→D→Sto→Res D
 |a,.tup ys,S=>if flatD a=true∧ys.all flatD=true then .ok (.bl (ys.any fun y=>eqF y a)) S else (match memX S a ys with|some k=>.ok (.bl k) S|none=>.no)
 |a,.obj n,S=>match lsOf S n with
  |some ys=>if flatD a=true∧ys.all flatD=true then .ok (.bl (ys.any fun y=>eqF y a)) S else (match memX S a ys with|some k=>.ok (.bl k) S|none=>.no)
  |none=>.no
 |_,_,_=>.no
noncomputable def Za8:D→D→Sto→Res D
 |a,.tup ys,S=>if flatD a=true∧ys.all flatD=true then .ok (.bl (!ys.any fun y=>eqF y a)) S else (match memX S a ys with|some k=>.ok (.bl (!k)) S|none=>.no)
 |a,.obj n,S=>match lsOf S n with
  |some ys=>if flatD a=true∧ys.all flatD=true then .ok (.bl (!ys.any fun y=>eqF y a)) S else (match memX S a ys with|some k=>.ok (.bl (!k)) S|none=>.no)
  |none=>.no
 |_,_,_=>.no
noncomputable def op2:Op2→D→D→Sto→Res D
 | .add=>o_add
 | .sub=>o_sub
 | .mul=>o_mul
 | .mod=>o_mod
 | .fdiv=>Za9
 | .pow=>o_pow
 | .shl=>o_shl
 | .shr=>o_shr
 | .band=>Zbn
 | .eq=>o_eq
 | .ne=>o_ne
 | .lt=>o_lt
 | .le=>o_le
 | .gt=>o_gt
 | .ge=>o_ge
 | .is=>o_is
 | .isn=>o_isn
 | .mem=>o_mem
 | .nmem=>Za8
noncomputable def lg (n:Nat) (j:Int):Bool:=decide (j.natAbs.log2<n)
noncomputable def idxD:D→D→Sto→Res D
 | .tup xs,.int i,S=>match (L2.ixN xs.length i).bind fun j=>xs[j]? with|some d=>.ok d S|none=>.no
 | .obj n,.int i,S=>match lsOf S n with
  |some xs=>(match (L2.ixN xs.length i).bind fun j=>xs[j]? with|some d=>.ok d S|none=>.no)
  |none=>.no
 |_,_,_=>.no
noncomputable def cutD (xs:List D) (lo hi:Option Int):List D:=(xs.drop (HT.sIx xs.length 0 lo)).take (HT.sIx xs.length xs.length hi-HT.sIx xs.length 0 lo)
noncomputable def slcD:D→Option Int→Option Int→Sto→Res D
 | .tup xs,lo,hi,S=>.ok (.tup (cutD xs lo hi)) S
 | .obj n,lo,hi,S=>match lsOf S n with
  |some xs=>.ok (.obj S.length) (S++[.lst (cutD xs lo hi)])
  |none=>.no
 | .str z,lo,hi,S=>if z.length≤100000 then .ok (.str (PySem.Txt.slice z lo hi)) S else .no
 |_,_,_,_=>.no
noncomputable def strd {α:Type} (k:Nat) (l:List α):List α:=((Yau ((l.length+k-1) / k)).map (k* ·)).filterMap (l[·]?)
noncomputable def stpD (k:Nat):D→Sto→Res D
 | .obj n,S=>match lsOf S n with
  |some xs=>.ok (.obj S.length) (S++[.lst (strd k xs)])
  |none=>.no
 |_,_=>.no
noncomputable def revD:D→Sto→Res D
 | .tup xs,S=>.ok (.tup xs.reverse) S
 |_,_=>.no
noncomputable def uppD:D→Sto→Res D
 | .str z,S=>if Builtin.Str.tooLong (PySem.Txt.upper z).length=false then .ok (.str (PySem.Txt.upper z)) S else .no
 |_,_=>.no
noncomputable def setD:D→D→D→Sto→Res Unit
 | .obj n,.int i,d,S=>match S[n]? with
  |some (.lst xs)=>(match L2.ixN xs.length i with|some j=>.ok () (S.set n (.lst (xs.set j d)))|none=>.no)
  |_=>.no
 |_,_,_,_=>.no
noncomputable def appD:D→D→Sto→Res D
 | .obj n,d,S=>match S[n]? with
  |some (.lst xs)=>if xs.length<100000 then .ok .non (S.set n (.lst (xs++[d]))) else .no
  |_=>.no
 |_,_,_=>.no
noncomputable def truD:D→Sto→Option Bool
 | .non,_=>some false
 | .bl b,_=>some b
 | .int i,_=>some (i !=0)
 | .tup xs,_=>some (!xs.isEmpty)
 | .obj n,S=>(lsOf S n).map fun xs=> !xs.isEmpty
 |_,_=>none
inductive Mt where
 |pop|ext|idx|cnt
 deriving DecidableEq
noncomputable def m_pop:D→D→Sto→Res D
 | .obj n,.int i,S=>match S[n]? with
  | some (.lst xs) => (match (L2.ixN xs.length i).bind fun j => xs[j]?.map fun d => (j, d) with
   |some (j,d)=>if xs.length≤100000 then .ok d (S.set n (.lst (xs.eraseIdx j))) else .no
   |none=>.no)
  |_=>.no
 |_,_,_=>.no
noncomputable def m_ext:D→D→Sto→Res D
 | .obj n,.obj m,S=>match S[n]?,S[m]? with
  |some (.lst xs),some (.lst ys)=>if xs.length+ys.length≤100000 then .ok .non (S.set n (.lst (xs++ys))) else .no
  |_,_=>.no
 |_,_,_=>.no
noncomputable def blsOf:List D→Option (List Bool)
 | []=>some []
 | .bl b::r=>(blsOf r).map (b:: ·)
 |_=>none
noncomputable def idxB:List Bool→Option Nat
 | []=>none
 |true::_=>some 0
 |false::r=>(idxB r).map (· +1)
noncomputable def m_idx:D→D→Sto→Res D
 | .obj n,.bl true,S=>match S[n]? with
  |some (.lst xs)=>(match (blsOf xs).bind idxB with|some j=>.ok (.int (j:Int)) S|none=>.no)
  |_=>.no
 |_,_,_=>.no
noncomputable def Zcl:List D→Option (List Str)
 | []=>some []
 | .str b::r=>(Zcl r).map (b:: ·)
 |_=>none
noncomputable def m_cnt:D→D→Sto→Res D
 | .obj n,.bl b,S=>match S[n]? with
  |some (.lst xs)=>(match blsOf xs with|some bs=>.ok (.int ((bs.countP (· ==b):Nat):Int)) S|none=>.no)
  |_=>.no
 | .obj n,.str z,S=>match S[n]? with
  |some (.lst xs)=>(match Zcl xs with|some bs=>.ok (.int ((bs.countP (· ==z):Nat):Int)) S|none=>.no)
  |_=>.no
 |_,_,_=>.no
noncomputable def keyD:D→Option Key
 | .int i=>some (.inl i)
 | .str x=>some (.inr x)
 |_=>none
noncomputable def kD:Key→D
 | .inl i=>.int i
 | .inr x=>.str x
noncomputable def dcOf (S:Sto) (n:Nat):Option (List (Key×D)):=match S[n]? with
 |some (.dct kvs)=>some kvs
 |some (.sdc kvs)=>some kvs
 |_=>none
noncomputable def dwOf (S:Sto) (n:Nat):Option (List (Key×D)):=match S[n]? with
 |some (.dct kvs)=>some kvs
 |_=>none
noncomputable def isDw:D→Sto→Bool
 | .dic n,S=>(dwOf S n).isSome
 |_,_=>false
noncomputable def dixD:D→D→Sto→Res D
 | .dic n,y,S=>match (keyD y).bind fun k=>(dcOf S n).bind fun kvs=>lkv kvs k with|some d=>.ok d S|none=>.no
 |_,_,_=>.no
noncomputable def dgtD:D→D→Sto→Res D
 | .dic n,.tup [y,z],S=>match (keyD y).bind fun k=>(dwOf S n).map fun kvs=>(lkv kvs k).getD z with|some d=>.ok d S|none=>.no
 |_,_,_=>.no
noncomputable def setKD:D→D→D→Sto→Res Unit
 | .dic n,y,d,S=>match (keyD y).bind fun k=>(dwOf S n).map fun kvs=>(kvs,k) with|some (kvs,k)=>if kvs.length<100000 then .ok () (S.set n (.dct (pkv kvs k d))) else .no|none=>.no
 |_,_,_,_=>.no
noncomputable def dspD (ks:List Key):D→Sto→Res D
 | .tup ys,S=>if ys.length=ks.length∧ks.length≤15 then .ok (.dic S.length) (S++[.dct (mkv [] (ks.zip ys))]) else .no
 |_,_=>.no
noncomputable def mthD:Mt→D→D→Sto→Res D
 | .pop=>m_pop
 | .ext=>m_ext
 | .idx=>m_idx
 | .cnt=>m_cnt
noncomputable def Zbc:List D→Option (List Int)
 | []=>some []
 | .int i::r=>(Zbc r).map (i:: ·)
 |_=>none
inductive Bl where
 |len|all|any|tuple|list|divmod|max|min|int|isi|sum|str
 deriving DecidableEq
noncomputable def tyOf:D→Sto→Option String
 | .non,_=>some "NoneType" | .bl _,_=>some "bool" | .int _,_=>some "int" | .str _,_=>some "str" | .tup _,_=>some "tuple"
 | .obj n,S=>(lsOf S n).map fun _=> "list"
 | .ty _,_=>none
 | .dic _,_=>none
 | .exo c,_=>if c="" then some "dict" else none
noncomputable def l_len:List D→Sto→Res D
 | [.tup xs],S=>.ok (.int xs.length) S
 | [.obj n],S=>match lsOf S n with|some xs=>.ok (.int xs.length) S|none=>.no
 |_,_=>.no
noncomputable def l_all:List D→Sto→Res D
 | [.obj n],S=>match (lsOf S n).bind blsOf with|some bs=>.ok (.bl (bs.all id)) S|none=>.no
 |_,_=>.no
noncomputable def l_any:List D→Sto→Res D
 | [.obj n],S=>match (lsOf S n).bind blsOf with|some bs=>.ok (.bl (bs.any id)) S|none=>.no
 |_,_=>.no
noncomputable def Zev:List D→Sto→Res D
 | [.tup xs],S=>.ok (.tup xs) S
 | [.obj n],S=>match lsOf S n with|some xs=>.ok (.tup xs) S|none=>.no
 |_,_=>.no
noncomputable def Zgu:List D→Sto→Res D
 | [.tup xs],S=>.ok (.obj S.length) (S++[.lst xs])
 | [.obj n],S=>match lsOf S n with|some xs=>.ok (.obj S.length) (S++[.lst xs])|none=>.no
 |_,_=>.no
noncomputable def Zew:List D→Sto→Res D
 | [.int a,.int b],S=>if 0<b∧lg 256 b=true then .ok (.tup [.int (a / b),.int (a % b)]) S else .no
 |_,_=>.no
noncomputable def l_max:List D→Sto→Res D
 | [.int a,.int b],S=>.ok (.int (if b>a then b else a)) S
 | [.obj n],S=>match (lsOf S n).bind Zbc with|some (x::r)=>.ok (.int (mxL (x::r))) S|_=>.no
 |_,_=>.no
noncomputable def l_min:List D→Sto→Res D
 | [.int a,.int b],S=>.ok (.int (if b<a then b else a)) S
 | [.obj n],S=>match (lsOf S n).bind Zbc with|some (x::r)=>.ok (.int (mnL (x::r))) S|_=>.no
 |_,_=>.no
noncomputable def l_int:List D→Sto→Res D
 | [.int a],S=>.ok (.int a) S
 | [.bl b],S=>.ok (.int (if b then 1 else 0)) S
 |_,_=>.no
noncomputable def l_isi:List D→Sto→Res D
 | [x,.ty T],S=>match tyOf x S with|some t=>if T∈tysT then .ok (.bl (isiB t T)) S else .no|none=>.no
 |_,_=>.no
noncomputable def l_sum:List D→Sto→Res D
 | [.obj n],S=>match (lsOf S n).bind Zbc with
  |some ns=>.ok (.int ns.sum) S
  |none=>match (lsOf S n).bind blsOf with|some bs=>.ok (.int ((bs.countP id:Nat):Int)) S|none=>.no
 |_,_=>.no
noncomputable def l_str:List D→Sto→Res D
 | [.int i],S=>if lg 1900 i=true then .ok (.str (toString i)) S else .no
 |_,_=>.no
noncomputable def bltD:Bl→List D→Sto→Res D
 | .len=>l_len
 | .all=>l_all
 | .any=>l_any
 | .tuple=>Zev
 | .list=>Zgu
 | .divmod=>Zew
 | .max=>l_max
 | .min=>l_min
 | .int=>l_int
 | .isi=>l_isi
 | .sum=>l_sum
 | .str=>l_str
set_option genSizeOfSpec false in
set_option genInjectivity false in
inductive PX where
 |cst (d:D)|var (i:Nat)|op (o:Op2) (a b:PX)|chn (o o':Op2) (a b c:PX)
 |and (a b:PX)|or (a b:PX)|not (a:PX)|neg (a:PX)|ife (c a b:PX)|tru (a:PX)
 |tup (as:PX)|lst (as:PX)|nil|cons (a as:PX)
 |idx (a i:PX)|slc (a lo hi:PX)|stp (a:PX) (k:Nat)|noe|bnd (a:PX)
 |call (f:Nat) (as:PX)|blt (b:Bl) (as:PX)|app (l x:PX)|mth (m:Mt) (l x:PX)|lrng (as:PX)
 |comp (cap:List (Option Nat)) (tg it cond elt:PX)
 |iseq (e:PX)|irng (as:PX)|ienum (e:PX)
 |tnm (i:Nat)|ttup (n:Nat) (ts:PX)|tsub (o i:PX)
 |skip|bad|seq (a b:PX)|asg (t e:PX)|exp (e:PX)|ret (e:PX)|ifs (c a b:PX)|loop (t it b:PX)|whl (c b:PX)
 |dnw|ddp (ks:List Key) (as:PX)|dix (a i:PX)|dgt (a as:PX)|idc (a:PX)|tdx (o i:PX)|rev (a:PX)|upp (a:PX)
inductive Fl where
 |nx (e:Nv)|rt (d:D)|bk (e:Nv)|ct (e:Nv)|ex (c:Str) (e:Nv)
structure Itm where
 items:List D
 src:Option Nat
noncomputable def Itm.still (J:Itm) (S:Sto):Bool:=match J.src with
 |none=>true
 |some n=>match lsOf S n with|some xs=>D.sames xs J.items|none=>false
noncomputable def Zaj (i c:Int) (n:Nat):List D:=(Yau n).map fun(k:Nat)=>D.int (i+k*c)
noncomputable def itmOf (S:Sto):D→Option Itm
 | .tup xs=>some ⟨xs,none⟩
 | .obj n=>(lsOf S n).map fun xs=>⟨xs,some n⟩
 |_=>none
noncomputable def itdD:D→Sto→Res Itm
 | .dic n,S=>match S[n]? with
  |some (.dct kvs)=>.ok ⟨kvs.map fun q=>kD q.1,none⟩ (S.set n (.sdc kvs))
  |some (.sdc kvs)=>.ok ⟨kvs.map fun q=>kD q.1,none⟩ S
  |_=>.no
 |_,_=>.no
noncomputable def Zav:Nat→List D→List D
 |_,[]=>[]
 |k,x::r=>.tup [.int k,x]::Zav (k+1) r
theorem lg_lt {n:Nat} {j:Int} (h:lg n j=true):j.natAbs<2^n:=by
 unfold lg at h
 have h':=of_decide_eq_true h
 by_cases z:j.natAbs=0
 ·rw [z];exact Nat.two_pow_pos n
 ·exact(YbY z).mp h'
theorem lg_of {n:Nat} {j:Int} (hn:0<n) (h:j.natAbs<2^n):lg n j=true:=by
 unfold lg
 refine decide_eq_true ?_
 by_cases z:j.natAbs=0
 ·rw [z];exact hn
 ·exact(YbY z).mpr h
noncomputable def rngOf:D→Option Itm
 | .tup [.int j]=>if lg 60 j=true then some ⟨Zaj 0 1 j.toNat,none⟩ else none
 | .tup [.int i,.int j]=>if lg 60 i=true∧lg 60 j=true then some ⟨Zaj i 1 (j-i).toNat,none⟩ else none
 | .tup [.int i,.int j,.int c]=>if lg 60 i=true∧lg 60 j=true∧0<c∧lg 29 c=true then some ⟨Zaj i c (cntR i j c),none⟩ else none
 |_=>none
noncomputable def lrngD:List D→Sto→Res D
 | [.int j],S=>if lg 60 j=true∧j.toNat≤100000 then .ok (.obj S.length) (S++[.lst (Zaj 0 1 j.toNat)]) else .no
 | [.int i,.int j],S=>if lg 60 i=true∧lg 60 j=true∧(j-i).toNat≤100000 then .ok (.obj S.length) (S++[.lst (Zaj i 1 (j-i).toNat)]) else .no
 |_,_=>.no
noncomputable def optD {α:Type} (o:Option α) (S:Sto):Res α:=match o with|some a=>.ok a S|none=>.no
noncomputable def loopD (J:Itm) (body:D→Nv→Sto→Res Fl):List D→Nv→Sto→Res Fl
 | [],e,S=>if J.still S=true then .ok (.nx e) S else .no
 | x :: xs, e, S => if J.still S = true then (body x e S).bind fun r S' => (match r with
   | .nx e'=>loopD J body xs e' S'
   | .ct e'=>loopD J body xs e' S'
   | .bk e'=>.ok (.nx e') S'
   | .rt d=>.ok (.rt d) S'
   | .ex c e'=>.ok (.ex c e') S') else .no
noncomputable def whD (c:Nv→Sto→Res D) (body:Nv→Sto→Res Fl):Nat→Nv→Sto→Res Fl
 |0,_,_=>.no
 | n + 1, e, S => (c e S).bind fun x S1 => (match x with
   | .bl true => (body e S1).bind fun r S2 => (match r with
    | .nx e'=>whD c body n e' S2
    | .ct e'=>whD c body n e' S2
    | .bk e'=>.ok (.nx e') S2
    | .rt d=>.ok (.rt d) S2
    | .ex c e'=>.ok (.ex c e') S2)
   | .bl false=>.ok (.nx e) S1
   |_=>.no)
noncomputable def compD (J:Itm) (n:Nat) (body:D→Nv→Sto→Res (Nv×Option D)):List D→Nv→Sto→Res D
 | [],e,S=>if J.still S=true then .ok (.obj n) S else .no
 | x :: xs, e, S => if J.still S = true then (body x e S).bind fun r S' => (match r with
   |(e',some d)=>(appD (.obj n) d S').bind fun _ S''=>compD J n body xs e' S''
   |(e',none)=>compD J n body xs e' S') else .no
noncomputable def captD (e:Nv) (cap:List (Option Nat)):Nv:=cap.map fun o=>o.bind fun i=>(e[i]?).join
noncomputable def partD:D→Option (Option Int)
 | .non=>some none
 | .int i=>some (some i)
 |_=>none
noncomputable def xM:Nat:=1000000
mutual
noncomputable def ev (C:Nat→List D→Sto→Res D):PX→Nv→Sto→Res D
 | .cst d,_,S=>.ok d S
 | .var i,e,S=>match e[i]? with|some (some d)=>.ok d S|_=>.no
 | .op o a b,e,S=>(ev C a e S).bind fun x S1=>(ev C b e S1).bind fun y S2=>op2 o x y S2
 | .chn o o' a b c, e, S => (ev C a e S).bind fun x S1 => (ev C b e S1).bind fun y S2 => (op2 o x y S2).bind fun z S3 => (match z with
   | .bl true=>(ev C c e S3).bind fun w S4=>op2 o' y w S4
   | .bl false=>.ok (.bl false) S3
   |_=>.no)
 | .and a b,e,S=>(ev C a e S).bind fun x S1=>(match x with| .bl true=>ev C b e S1| .bl false=>.ok (.bl false) S1|_=>.no)
 | .or a b,e,S=>(ev C a e S).bind fun x S1=>(match x with| .bl true=>.ok (.bl true) S1| .bl false=>ev C b e S1|_=>.no)
 | .not a,e,S=>(ev C a e S).bind fun x S1=>(match x with| .bl k=>.ok (.bl (!k)) S1|_=>.no)
 | .neg a,e,S=>(ev C a e S).bind fun x S1=>(match x with| .int i=>.ok (.int (-i)) S1|_=>.no)
 | .tru a,e,S=>(ev C a e S).bind fun x S1=>(match truD x S1 with|some k=>.ok (.bl k) S1|none=>.no)
 | .ife c a b,e,S=>(ev C c e S).bind fun x S1=>(match x with| .bl true=>ev C a e S1| .bl false=>ev C b e S1|_=>.no)
 | .nil,_,S=>.ok (.tup []) S
 | .cons a as,e,S=>(ev C a e S).bind fun x S1=>(ev C as e S1).bind fun y S2=>(match y with| .tup ys=>.ok (.tup (x::ys)) S2|_=>.no)
 | .tup as,e,S=>(ev C as e S).bind fun y S1=>(match y with| .tup ys=>if ys.length≤100000 then .ok (.tup ys) S1 else .no|_=>.no)
 | .lst as,e,S=>(ev C as e S).bind fun y S1=>(match y with| .tup ys=>if ys.length≤100000 then .ok (.obj S1.length) (S1++[.lst ys]) else .no|_=>.no)
 | .idx a i,e,S=>(ev C a e S).bind fun x S1=>(ev C i e S1).bind fun y S2=>idxD x y S2
 | .slc a lo hi, e, S => (ev C a e S).bind fun x S1 => (ev C lo e S1).bind fun l S2 => (ev C hi e S2).bind fun h S3 => (match partD l, partD h with
   |some l',some h'=>slcD x l' h' S3
   |_,_=>.no)
 | .stp a k,e,S=>(ev C a e S).bind fun x S1=>stpD k x S1
 | .noe,_,S=>.ok .non S
 | .dnw,_,S=>.ok (.exo "") S
 | .ddp ks as,e,S=>(ev C as e S).bind fun y S1=>dspD ks y S1
 | .dix a i,e,S=>(ev C a e S).bind fun x S1=>(ev C i e S1).bind fun y S2=>dixD x y S2
 | .dgt a as,e,S=>(ev C a e S).bind fun x S1=>if isDw x S1=true then (ev C as e S1).bind fun y S2=>dgtD x y S2 else .no
 | .rev a,e,S=>(ev C a e S).bind fun x S1=>revD x S1
 | .upp a,e,S=>(ev C a e S).bind fun x S1=>uppD x S1
 | .bnd a,e,S=>(ev C a e S).bind fun x S1=>(match x with| .int i=>.ok (.int i) S1|_=>.no)
 | .call f as,e,S=>(ev C as e S).bind fun y S1=>(match y with| .tup ys=>C f ys S1|_=>.no)
 | .blt b as,e,S=>(ev C as e S).bind fun y S1=>(match y with| .tup ys=>bltD b ys S1|_=>.no)
 | .app l x,e,S=>(ev C l e S).bind fun y S1=>(ev C x e S1).bind fun d S2=>appD y d S2
 | .mth m l x,e,S=>(ev C l e S).bind fun y S1=>(ev C x e S1).bind fun d S2=>mthD m y d S2
 | .lrng as,e,S=>(ev C as e S).bind fun y S1=>(match y with| .tup ys=>lrngD ys S1|_=>.no)
 | .comp cap tg it cond elt, e, S => (evI C it e S).bind fun J S1 => compD J S1.length (fun x e' S' =>
   (evG C tg x e' S').bind fun e2 S2=>(ev C cond e2 S2).bind fun k S3=>(match k with
    | .bl true=>(ev C elt e2 S3).bind fun d S4=>.ok (e2,some d) S4
    | .bl false=>.ok (e2,none) S3
    |_=>.no)) J.items (captD e cap) (S1++[.lst []])
 |_,_,_=>.no
noncomputable def evI (C:Nat→List D→Sto→Res D):PX→Nv→Sto→Res Itm
 | .iseq a,e,S=>(ev C a e S).bind fun x S1=>optD (itmOf S1 x) S1
 | .idc a,e,S=>(ev C a e S).bind fun x S1=>itdD x S1
 | .irng as,e,S=>(ev C as e S).bind fun y S1=>optD (rngOf y) S1
 | .ienum a,e,S=>(ev C a e S).bind fun x S1=>(match x with| .tup xs=>.ok ⟨Zav 0 xs,none⟩ S1|_=>.no)
 |_,_,_=>.no
noncomputable def evG (C:Nat→List D→Sto→Res D):PX→D→Nv→Sto→Res Nv
 | .tnm i,d,e,S=>.ok (e.set i (some d)) S
 | .ttup n ts,d,e,S=>(match d with| .tup ds=>if ds.length=n then evGs C ts ds e S else .no|_=>.no)
 | .tdx o i,d,e,S=>(ev C o e S).bind fun x S1=>(ev C i e S1).bind fun y S2=>(setKD x y d S2).bind fun _ S3=>.ok e S3
 | .tsub o i,d,e,S=>(ev C o e S).bind fun x S1=>(ev C i e S1).bind fun y S2=>(setD x y d S2).bind fun _ S3=>.ok e S3
 |_,_,_,_=>.no
noncomputable def evGs (C:Nat→List D→Sto→Res D):PX→List D→Nv→Sto→Res Nv
 | .nil,ds,e,S=>(match ds with| []=>.ok e S|_=>.no)
 | .cons t ts,ds,e,S=>(match ds with|d::r=>(evG C t d e S).bind fun e' S'=>evGs C ts r e' S'| []=>.no)
 |_,_,_,_=>.no
end
noncomputable def evS (C:Nat→List D→Sto→Res D):PX→Nv→Sto→Res Fl
 | .skip,e,S=>.ok (.nx e) S
 | .seq a b,e,S=>(evS C a e S).bind fun r S1=>(match r with| .nx e1=>evS C b e1 S1|r=>.ok r S1)
 | .asg t a,e,S=>(ev C a e S).bind fun d S1=>(evG C t d e S1).bind fun e1 S2=>.ok (.nx e1) S2
 | .exp a,e,S=>(ev C a e S).bind fun _ S1=>.ok (.nx e) S1
 | .ret a,e,S=>(ev C a e S).bind fun d S1=>.ok (.rt d) S1
 | .ifs c a b,e,S=>(ev C c e S).bind fun x S1=>(match x with| .bl true=>evS C a e S1| .bl false=>evS C b e S1|_=>.no)
 | .loop t it b,e,S=>(evI C it e S).bind fun J S1=>loopD J (fun x e' S'=>(evG C t x e' S').bind fun e2 S2=>evS C b e2 S2) J.items e S1
 | .whl c b,e,S=>whD (fun e S=>ev C c e S) (fun e S=>evS C b e S) 100000 e S
 |_,_,_=>.no
structure Fn where
 np:Nat
 nl:Nat
 body:PX
noncomputable def runF (C:Nat→List D→Sto→Res D) (f:Fn) (ds:List D) (S:Sto):Res D:=
 if ds.length=f.np then (evS C f.body (ds.map some++Yaq (f.nl-f.np) none) S).bind fun r S1=>(match r with| .nx _=>.ok .non S1| .rt d=>.ok d S1|_=>.no) else .no
noncomputable def runX (C:Nat→List D→Sto→Res D) (f:Fn) (ds:List D) (S:Sto):Res D:=
 if ds.length=f.np then (evS C f.body (ds.map some++Yaq (f.nl-f.np) none) S).bind fun r S1=>(match r with| .nx _=>.ok (.tup [.non]) S1| .rt d=>.ok (.tup [d]) S1| .ex c _=>.ok (.exo c) S1|_=>.no) else .no
noncomputable def clN (C:Nat→List D→Sto→Res D) (fns:List Fn) (f:Nat) (ds:List D) (S:Sto):Res D:=if f<xM then .no else (match fns[f-xM]? with|some fn=>runX C fn ds S|none=>.no)
noncomputable def cl (fns:List Fn):Nat→Nat→List D→Sto→Res D
 |0,_,_,_=>.no
 |k+1,f,ds,S=>match fns[f]? with
  |some fn=>runF (cl fns k) fn ds S
  |none=>clN (cl fns k) fns f ds S
end Py
namespace Py
open PySem L2 PySem.Spec PyProof.Rows
section
variable (K:Yab)
mutual
noncomputable def RepV (H:Hp) (β:List Addr):D→V→Prop
 | .non,v=>v=.non
 | .bl b,v=>v=.bl b
 | .int i,v=>v=.int i
 | .str x,v=>v=.str x
 | .ty n,v=>v=.ty n
 | .exo c,v=>∃a,v=.ref a∧(if c="" then H a=some (.dT []) else ∃C,L2.ClsF K c C∧H a=some (.ext (L2.isExc a C)))
 | .obj n,v=>∃a,v=.ref a∧β[n]?=some a∧∃xs,SqL K H a xs
 | .dic n,v=>∃a,v=.ref a∧β[n]?=some a
 | .tup ds,v=>∃a xs,v=.ref a∧SqT K H a xs∧RepL H β ds xs
noncomputable def RepL (H:Hp) (β:List Addr):List D→List V→Prop
 | [],xs=>xs=[]
 |d::ds,xs=>∃x r,xs=x::r∧RepV H β d x∧RepL H β ds r
end
structure Ex0 (H:Hp) (β:List Addr) (H':Hp) (β':List Addr):Prop where
 pre:∃γ,β'=β++γ
 tup:∀a xs,SqT K H a xs→SqT K H' a xs
 exo:∀a C,H a=some (.ext (L2.isExc a C))→H' a=some (.ext (L2.isExc a C))
 dct:∀a,H a=some (.dT [])→H' a=some (.dT [])
 lsp:∀a,(∃xs,SqL K H a xs)→∃xs,SqL K H' a xs
structure Ex (H:Hp) (β:List Addr) (H':Hp) (β':List Addr):Prop where
 pre:∃γ,β'=β++γ
 tup:∀a xs,SqT K H a xs→SqT K H' a xs
 exo:∀a C,H a=some (.ext (L2.isExc a C))→H' a=some (.ext (L2.isExc a C))
 dct:∀a,H a=some (.dT [])→H' a=some (.dT [])
 lsp:∀a,(∃xs,SqL K H a xs)→∃xs,SqL K H' a xs
 hld:∀a,a∉β→H a=some (.dK [])→a∉β'∧H' a=some (.dK [])
 frd:∀a o kvs,H a=some (.frz o (.dK kvs))→H' a=some (.frz o (.dK kvs))
noncomputable def KL (a:Addr) (xs:List V):Prop:=∃(o:Obj) (its:Array Value) (n:Nat),K.lookup a=some o∧o.cls=.type "list"∧o.dict=none∧o.data=.seq its n∧its.size≤sizeLine∧Vals xs its.toList
noncomputable def CellOk (H:Hp) (β:List Addr) (a:Addr):Cell→Prop
 | .lst ds=>∃xs,H a=some (.lst xs)∧RepL K H β ds xs
 | .scr ds=>∃xs,((∃o,H a=some (.frz o (.lst xs)))∨KL K a xs)∧RepL K H β ds xs
 | .dct kvs=>∃vs,H a=some (.dK vs)∧ZK (RepV K H β) kvs vs
 | .sdc kvs=>∃vs,(∃o,H a=some (.frz o (.dK vs)))∧ZK (RepV K H β) kvs vs
structure RepS (H:Hp) (β:List Addr) (S:Sto):Prop where
 len:β.length=S.length
 cell:∀(n:Nat) (a:Addr) (c:Cell),β[n]?=some a→S[n]?=some c→CellOk K H β a c
 ne:∀(n m:Nat) (a:Addr) (xs ys:List D),β[n]?=some a→β[m]?=some a→S[n]?=some (.lst xs)→S[m]?=some (.lst ys)→n=m
 ned:∀(n m:Nat) (a:Addr) (xs ys:List (Key×D)),β[n]?=some a→β[m]?=some a→S[n]?=some (.dct xs)→S[m]?=some (.dct ys)→n=m
structure RepN (H:Hp) (β:List Addr) (e:Nv) (σ:L2.St):Prop where
 len:e.length=σ.length
 get:∀(i:Nat) (d:D),e[i]?=some (some d)→∃v,σ[i]?=some (some v)∧RepV K H β d v
noncomputable def Go (H:Hp) (β:List Addr) (S':Sto) (d:D) (Q:VK):Prop:=∀v H' β',Ex K H β H' β'→RepV K H' β' d v→RepS K H' β' S'→Q v H'
end
section
variable {K:Yab} {H H' H1 H2:Hp} {β β' β1 β2:List Addr} {S S':Sto}
theorem Ex.refl:Ex K H β H β:=⟨⟨[],by simp⟩,fun _ _ h=>h,fun _ _ h=>h,fun _ h=>h,fun _ h=>h,fun _ n h=>⟨n,h⟩,fun _ _ _ h=>h⟩
theorem Ex.trans (a:Ex K H β H1 β1) (b:Ex K H1 β1 H2 β2):Ex K H β H2 β2:=by
 obtain⟨⟨γ,rfl⟩,ta,xa,da,la,ha,fa⟩:=a
 obtain⟨⟨γ',rfl⟩,tb,xb,db,lb,hb,fb⟩:=b
 exact⟨⟨γ++γ',by rw [Ya2]⟩,fun x xs h=>tb x xs (ta x xs h),fun x C h=>xb x C (xa x C h),fun x h=>db x (da x h),fun x h=>lb x (la x h),fun x n h=>let ⟨p,q⟩:=ha x n h;hb x p q,fun x o k h=>fb x o k (fa x o k h)⟩
theorem Ex.e0 (e:Ex K H β H' β'):Ex0 K H β H' β':=⟨e.pre,e.tup,e.exo,e.dct,e.lsp⟩
theorem Ex0.get (e:Ex0 K H β H' β') {n:Nat} {a:Addr} (h:β[n]?=some a):β'[n]?=some a:=by
 obtain⟨⟨γ,rfl⟩,_,_,_,_⟩:=e
 have hn:n<β.length:=(Yac.mp h).1
 rw [Yar hn]
 exact h
theorem Ex.get (e:Ex K H β H' β') {n:Nat} {a:Addr} (h:β[n]?=some a):β'[n]?=some a:=by
 obtain⟨⟨γ,rfl⟩,_,_,_,_,_,_⟩:=e
 have hn:n<β.length:=(Yac.mp h).1
 rw [Yar hn]
 exact h
mutual
theorem RepV.mono0 (e:Ex0 K H β H' β'):∀{d:D} {v:V},RepV K H β d v→RepV K H' β' d v
 | .non,_,h=>h
 | .bl _,_,h=>h
 | .int _,_,h=>h
 | .str _,_,h=>h
 | .ty _,_,h=>h
 | .exo c,v,h=>by
  simp only [RepV] at h⊢
  obtain⟨a,rfl,q⟩:=h
  refine⟨a,rfl,?_⟩
  split
  ·rename_i z;rw [if_pos z] at q;exact e.dct a q
  ·rename_i z;rw [if_neg z] at q;obtain⟨C,q,r⟩:=q;exact⟨C,q,e.exo a C r⟩
 | .obj n,v,h=>by
  simp only [RepV] at h⊢
  obtain⟨a,rfl,q,l⟩:=h
  exact⟨a,rfl,e.get q,e.lsp a l⟩
 | .dic n,v,h=>by
  simp only [RepV] at h⊢
  obtain⟨a,rfl,q⟩:=h
  exact⟨a,rfl,e.get q⟩
 | .tup ds,v,h=>by
  simp only [RepV] at h⊢
  obtain⟨a,xs,rfl,q,r⟩:=h
  exact⟨a,xs,rfl,e.tup a xs q,RepL.mono0 e r⟩
theorem RepL.mono0 (e:Ex0 K H β H' β'):∀{ds:List D} {xs:List V},RepL K H β ds xs→RepL K H' β' ds xs
 | [],_,h=>h
 |d::ds,xs,h=>by
  simp only [RepL] at h⊢
  obtain⟨x,r,rfl,h1,h2⟩:=h
  exact⟨x,r,rfl,RepV.mono0 e h1,RepL.mono0 e h2⟩
end
theorem RepV.mono (e:Ex K H β H' β') {d:D} {v:V} (h:RepV K H β d v):RepV K H' β' d v:=h.mono0 e.e0
theorem RepL.mono (e:Ex K H β H' β') {ds:List D} {xs:List V} (h:RepL K H β ds xs):RepL K H' β' ds xs:=h.mono0 e.e0
theorem RepL.nil_iff {xs:List V}:RepL K H β [] xs↔xs=[]:=by simp [RepL]
theorem RepL.cons {d:D} {x:V} {ds:List D} {xs:List V} (h:RepV K H β d x) (t:RepL K H β ds xs):RepL K H β (d::ds) (x::xs):=by simp only [RepL];exact⟨x,xs,rfl,h,t⟩
theorem RepL.length:∀{ds:List D} {xs:List V},RepL K H β ds xs→ds.length=xs.length
 | [],_,h=>by rw [RepL.nil_iff] at h;subst h;rfl
 |d::ds,xs,h=>by
  simp only [RepL] at h
  obtain⟨x,r,rfl,h1,h2⟩:=h
  rw [YaH,YaH,RepL.length h2]
theorem RepL.get:∀{ds:List D} {xs:List V} {i:Nat} {d:D},RepL K H β ds xs→ds[i]?=some d→∃x,xs[i]?=some x∧RepV K H β d x
 | [],_,_,_,_,e=>by simp at e
 |d::ds,xs,i,d',h,e=>by
  simp only [RepL] at h
  obtain⟨x,r,rfl,h1,h2⟩:=h
  cases i with
  |zero=>simp at e;subst e;exact⟨x,by simp,h1⟩
  |succ i=>simp at e;obtain⟨y,e1,e2⟩:=RepL.get h2 e;exact⟨y,by simpa using e1,e2⟩
theorem RepL.getB:∀{ds:List D} {xs:List V} {i:Nat} {x:V},RepL K H β ds xs→xs[i]?=some x→∃d,ds[i]?=some d∧RepV K H β d x
 | [],_,_,_,h,e=>by rw [RepL.nil_iff] at h;subst h;simp at e
 |d::ds,xs,i,d',h,e=>by
  simp only [RepL] at h
  obtain⟨x,r,rfl,h1,h2⟩:=h
  cases i with
  |zero=>simp at e;subst e;exact⟨d,by simp,h1⟩
  |succ i=>simp at e;obtain⟨y,e1,e2⟩:=RepL.getB h2 e;exact⟨y,by simpa using e1,e2⟩
theorem RepL.append:∀{ds es:List D} {xs ys:List V},RepL K H β ds xs→RepL K H β es ys→RepL K H β (ds++es) (xs++ys)
 | [],_,_,_,h,t=>by rw [RepL.nil_iff] at h;subst h;exact t
 |d::ds,es,xs,ys,h,t=>by
  simp only [RepL] at h
  obtain⟨x,r,rfl,h1,h2⟩:=h
  exact RepL.cons h1 (RepL.append h2 t)
theorem RepL.drop:∀{ds:List D} {xs:List V} (n:Nat),RepL K H β ds xs→RepL K H β (ds.drop n) (xs.drop n)
 |_,_,0,h=>h
 | [],_,n+1,h=>by rw [RepL.nil_iff] at h;subst h;simp [RepL]
 |d::ds,xs,n+1,h=>by
  simp only [RepL] at h
  obtain⟨x,r,rfl,h1,h2⟩:=h
  exact RepL.drop n h2
theorem RepL.take:∀{ds:List D} {xs:List V} (n:Nat),RepL K H β ds xs→RepL K H β (ds.take n) (xs.take n)
 |_,_,0,h=>by simp [RepL]
 | [],_,n+1,h=>by rw [RepL.nil_iff] at h;subst h;simp [RepL]
 |d::ds,xs,n+1,h=>by
  simp only [RepL] at h
  obtain⟨x,r,rfl,h1,h2⟩:=h
  exact RepL.cons h1 (RepL.take n h2)
theorem RepL.set {d:D} {x:V} (q:RepV K H β d x):∀{ds:List D} {xs:List V} (n:Nat),RepL K H β ds xs→RepL K H β (ds.set n d) (xs.set n x)
 | [],_,n,h=>by rw [RepL.nil_iff] at h;subst h;simp [RepL]
 |d'::ds,xs,n,h=>by
  simp only [RepL] at h
  obtain⟨x',r,rfl,h1,h2⟩:=h
  cases n with
  |zero=>exact RepL.cons q h2
  |succ n=>exact RepL.cons h1 (RepL.set q n h2)
theorem RepL.rep {ds:List D} {xs:List V} (h:RepL K H β ds xs):∀k:Nat,RepL K H β (Yaq k ds).flatten (Yaq k xs).flatten
 |0=>by simp [RepL]
 |k+1=>by rw [YaJ,YaJ,YaT,YaT];exact h.append (RepL.rep h k)
theorem ZfF {p:Addr} {o:HO} (hp:H p=none) {a:Addr} {xs:List V} (h:SqT K H a xs):SqT K (upd H p o) a xs:=by
 rcases h with (h|⟨u,h⟩)|h
 ·exact .inl (.inl (by rw [Zaf (Zai h hp)];exact h))
 ·exact .inl (.inr ⟨u,by rw [Zaf (Zai h hp)];exact h⟩)
 ·exact .inr h
theorem Zkp {p:Addr} {zs:List V} {o:HO} (hp:H p=some (.lst zs)) {a:Addr} {xs:List V} (h:SqT K H a xs):SqT K (upd H p o) a xs:=by
 rcases h with (h|⟨u,h⟩)|h
 ·exact .inl (.inl (by rw [Zaf (ne_of h hp (by intro z;cases z))];exact h))
 ·exact .inl (.inr ⟨u,by rw [Zaf (ne_of h hp (by intro z;cases z))];exact h⟩)
 ·exact .inr h
theorem ZfG {p:Addr} {o:HO} (hp:H p=none) {a:Addr} (h:∃xs,SqL K H a xs):∃xs,SqL K (upd H p o) a xs:=by
 obtain⟨xs,(h|⟨u,h⟩)|h⟩:=h
 ·exact⟨xs,.inl (.inl (by rw [Zaf (Zai h hp)];exact h))⟩
 ·exact⟨xs,.inl (.inr ⟨u,by rw [Zaf (Zai h hp)];exact h⟩)⟩
 ·exact⟨xs,.inr h⟩
theorem Zkq {p:Addr} {zs ys:List V} (hp:H p=some (.lst zs)) {a:Addr} (h:∃xs,SqL K H a xs):∃xs,SqL K (upd H p (.lst ys)) a xs:=by
 by_cases e:a=p
 ·subst e;exact⟨ys,SqL.of Zaq⟩
 ·obtain⟨xs,(h|⟨u,h⟩)|h⟩:=h
  ·exact⟨xs,.inl (.inl (by rw [Zaf e];exact h))⟩
  ·exact⟨xs,.inl (.inr ⟨u,by rw [Zaf e];exact h⟩)⟩
  ·exact⟨xs,.inr h⟩
theorem Zhq {p:Addr} {zs:List (Key×V)} {o:HO} (hp:H p=some (.dK zs)) {a:Addr} (h:∃xs,SqL K H a xs):∃xs,SqL K (upd H p o) a xs:=by
 obtain⟨xs,(h|⟨u,h⟩)|h⟩:=h
 ·exact⟨xs,.inl (.inl (by rw [Zaf (ne_of h hp (by intro z;cases z))];exact h))⟩
 ·exact⟨xs,.inl (.inr ⟨u,by rw [Zaf (ne_of h hp (by intro z;cases z))];exact h⟩)⟩
 ·exact⟨xs,.inr h⟩
theorem Ex.new {p:Addr} {o:HO} (hp:H p=none):Ex K H β (upd H p o) β:=⟨⟨[],by simp⟩,fun _ _ h=>ZfF hp h,fun _ _ h=>by rw [Zaf (Zai h hp)];exact h,fun _ h=>by rw [Zaf (Zai h hp)];exact h,fun _ h=>ZfG hp h,fun _ n h=>⟨n,by rw [Zaf (Zai h hp)];exact h⟩,fun _ _ _ h=>by rw [Zaf (Zai h hp)];exact h⟩
theorem Ex.newT {p:Addr} {xs:List V} (hp:H p=none):Ex K H β (upd H p (.tup xs)) β:=Ex.new hp
theorem Ex.newP {p:Addr} {o:HO} (hp:H p=none):Ex K H β (upd H p o) (β++[p]):=⟨⟨[p],rfl⟩,fun _ _ h=>ZfF hp h,fun _ _ h=>by rw [Zaf (Zai h hp)];exact h,fun _ h=>by rw [Zaf (Zai h hp)];exact h,fun _ h=>ZfG hp h,
 fun _ n h=>⟨fun z=>(Ybh.mp z).elim n fun z=>Zai h hp (YaI.mp z),by rw [Zaf (Zai h hp)];exact h⟩,fun _ _ _ h=>by rw [Zaf (Zai h hp)];exact h⟩
theorem Ex.newL {p:Addr} {xs:List V} (hp:H p=none):Ex K H β (upd H p (.lst xs)) (β++[p]):=Ex.newP hp
theorem Ex.setL {p:Addr} {zs xs:List V} (hp:H p=some (.lst zs)):Ex K H β (upd H p (.lst xs)) β:=⟨⟨[],by simp⟩,fun _ _ h=>Zkp hp h,fun _ _ h=>by rw [Zaf (ne_of h hp (by intro z;cases z))];exact h,fun _ h=>by rw [Zaf (ne_of h hp (by intro z;cases z))];exact h,fun _ h=>Zkq hp h,
 fun _ n h=>⟨n,by rw [Zaf (ne_of h hp (by intro z;cases z))];exact h⟩,fun _ _ _ h=>by rw [Zaf (ne_of h hp (by intro z;cases z))];exact h⟩
theorem Ex.newD {p:Addr} (hp:H p=none):Ex K H β (upd H p (.dT [])) β:=Ex.new hp
theorem Zhp {p:Addr} {zs:List (Key×V)} {o:HO} (hp:H p=some (.dK zs)) {a:Addr} {xs:List V} (h:SqT K H a xs):SqT K (upd H p o) a xs:=by
 rcases h with (h|⟨u,h⟩)|h
 ·exact .inl (.inl (by rw [Zaf (ne_of h hp (by intro z;cases z))];exact h))
 ·exact .inl (.inr ⟨u,by rw [Zaf (ne_of h hp (by intro z;cases z))];exact h⟩)
 ·exact .inr h
theorem Ex.setK {p:Addr} {zs:List (Key×V)} {o:HO} (hb:p∈β) (hp:H p=some (.dK zs)):Ex K H β (upd H p o) β:=⟨⟨[],by simp⟩,fun _ _ h=>Zhp hp h,fun _ _ h=>by rw [Zaf (ne_of h hp (by intro z;cases z))];exact h,fun _ h=>by rw [Zaf (ne_of h hp (by intro z;cases z))];exact h,fun _ h=>Zhq hp h,
 fun a n h=>⟨n,by rw [Zaf (fun z=>n (by rw [z];exact hb))];exact h⟩,fun _ _ _ h=>by rw [Zaf (ne_of h hp (by intro z;cases z))];exact h⟩
theorem Ex.mkK {p:Addr} {o:HO} (hp:H p=none) (hn:p∉β) (e:Ex K (upd H p (.dK [])) β H1 β1):Ex K H β (upd H1 p o) (β1++[p]):=by
 obtain⟨⟨γ,rfl⟩,ta,xa,da,la,ha,fa⟩:=e
 obtain⟨n1,h1⟩:=ha p hn Zaq
 have ne:∀a u,H a=some u→a≠p:=fun a u h=>Zai h hp
 refine⟨⟨γ++[p],by rw [Ya2]⟩,fun a xs h=>?_,fun a C h=>?_,fun a h=>?_,fun a h=>Zhq h1 (la a (ZfG hp h)),fun a n h=>?_,fun a o k h=>?_⟩
 ·exact Zhp h1 (ta a xs (ZfF hp h))
 ·rw [Zaf (ne a _ h)];exact xa a C (by rw [Zaf (ne a _ h)];exact h)
 ·rw [Zaf (ne a _ h)];exact da a (by rw [Zaf (ne a _ h)];exact h)
 ·obtain⟨n2,h2⟩:=ha a n (by rw [Zaf (ne a _ h)];exact h)
  exact⟨fun z=>(Ybh.mp z).elim n2 fun z=>ne a _ h (YaI.mp z),by rw [Zaf (ne a _ h)];exact h2⟩
 ·rw [Zaf (ne a _ h)];exact fa a o k (by rw [Zaf (ne a _ h)];exact h)
theorem CellOk.keep0 {a:Addr} {c:Cell} (h:CellOk K H β a c) (e:Ex0 K H β H' β') (k:∀o,H a=some o→H' a=some o):CellOk K H' β' a c:=by
 cases c with
 |lst ds=>obtain⟨xs,q,r⟩:=h;exact⟨xs,k _ q,r.mono0 e⟩
 |scr ds=>
  obtain⟨xs,q,r⟩:=h
  refine⟨xs,?_,r.mono0 e⟩
  rcases q with ⟨o,q⟩|q
  ·exact .inl ⟨o,k _ q⟩
  ·exact .inr q
 |dct ds=>obtain⟨xs,q,r⟩:=h;exact⟨xs,k _ q,r.imp fun _ _ z=>z.mono0 e⟩
 |sdc ds=>obtain⟨xs,⟨o,q⟩,r⟩:=h;exact⟨xs,⟨o,k _ q⟩,r.imp fun _ _ z=>z.mono0 e⟩
theorem CellOk.keep {a:Addr} {c:Cell} (h:CellOk K H β a c) (e:Ex K H β H' β') (k:∀o,H a=some o→H' a=some o):CellOk K H' β' a c:=h.keep0 e.e0 k
theorem RepS.newT {p:Addr} {xs:List V} (R:RepS K H β S) (hp:H p=none):RepS K (upd H p (.tup xs)) β S:=
 ⟨R.len,fun n a c h1 h2=>(R.cell n a c h1 h2).keep (Ex.newT hp) fun o q=>by rw [Zaf (Zai q hp)];exact q,R.ne,R.ned⟩
theorem RepS.newD {p:Addr} (R:RepS K H β S) (hp:H p=none):RepS K (upd H p (.dT [])) β S:=
 ⟨R.len,fun n a c h1 h2=>(R.cell n a c h1 h2).keep (Ex.newD hp) fun o q=>by rw [Zaf (Zai q hp)];exact q,R.ne,R.ned⟩
theorem RepS.add {p:Addr} {o:HO} {c0:Cell} (R:RepS K H β S) (ex:Ex0 K H β (upd H p o) (β++[p])) (ok:CellOk K (upd H p o) (β++[p]) p c0) (nx:∀(n:Nat) (c:Cell),β[n]?=some p→S[n]?=some c→CellOk K H β p c→∃ds,c=.scr ds∧∃xs,KL K p xs∧RepL K H β ds xs):RepS K (upd H p o) (β++[p]) (S++[c0]):=by
 have inn:∀n a c,(β++[p])[n]?=some a→(S++[c0])[n]?=some c→(β[n]?=some a∧S[n]?=some c)∨(n=β.length∧a=p∧c=c0):=fun n a c h1 h2=>by
  by_cases hn:n<β.length
  ·rw [Yar hn] at h1
   rw [Yar (by rw [←R.len];exact hn)] at h2
   exact .inl ⟨h1,h2⟩
  ·have e:n=β.length:=by
    have:=(Yac.mp h1).1
    simp at this
    omega
   subst e
   rw [Yav (Yad _)] at h1
   rw [R.len,Yav (Yad _)] at h2
   simp at h1 h2
   exact .inr ⟨rfl,h1.symm,h2.symm⟩
 have scr:∀n c,β[n]?=some p→S[n]?=some c→∃ds,c=Cell.scr ds:=fun n c h1 h2=>let ⟨ds,e,_⟩:=nx n c h1 h2 (R.cell n p c h1 h2);⟨ds,e⟩
 refine⟨by simp [R.len],fun n a c h1 h2=>?_,fun n m a ys zs h1 h2 h3 h4=>?_,fun n m a ys zs h1 h2 h3 h4=>?_⟩
 ·rcases inn n a c h1 h2 with ⟨b1,b2⟩|⟨_,rfl,rfl⟩
  ·have C:=R.cell n a c b1 b2
   by_cases e:a=p
   ·subst e
    obtain⟨ds,rfl,xs,kl,r⟩:=nx n c b1 b2 C
    exact⟨xs,.inr kl,r.mono0 ex⟩
   ·exact C.keep0 ex fun o q=>by rw [Zaf e];exact q
  ·exact ok
 ·rcases inn n a _ h1 h3 with ⟨a1,a2⟩|⟨a1,a2,a3⟩
  ·rcases inn m a _ h2 h4 with ⟨b1,b2⟩|⟨b1,b2,b3⟩
   ·exact R.ne n m a ys zs a1 b1 a2 b2
   ·subst b2;obtain⟨ds,e⟩:=scr n _ a1 a2;cases e
  ·rcases inn m a _ h2 h4 with ⟨b1,b2⟩|⟨b1,b2,b3⟩
   ·subst a2;obtain⟨ds,e⟩:=scr m _ b1 b2;cases e
   ·exact a1.trans b1.symm
 ·rcases inn n a _ h1 h3 with ⟨a1,a2⟩|⟨a1,a2,a3⟩
  ·rcases inn m a _ h2 h4 with ⟨b1,b2⟩|⟨b1,b2,b3⟩
   ·exact R.ned n m a ys zs a1 b1 a2 b2
   ·subst b2;obtain⟨ds,e⟩:=scr n _ a1 a2;cases e
  ·rcases inn m a _ h2 h4 with ⟨b1,b2⟩|⟨b1,b2,b3⟩
   ·subst a2;obtain⟨ds,e⟩:=scr m _ b1 b2;cases e
   ·exact a1.trans b1.symm
theorem ZdI {p:Addr} (hp:H p=none) (c:Cell) (h:CellOk K H β p c):∃ds,c=.scr ds∧∃xs,KL K p xs∧RepL K H β ds xs:=by
 cases c with
 |lst ds=>obtain⟨xs,q,r⟩:=h;rw [hp] at q;cases q
 |scr ds=>
  obtain⟨xs,⟨o,q⟩|q,r⟩:=h
  ·rw [hp] at q;cases q
  ·exact⟨ds,rfl,xs,q,r⟩
 |dct ds=>obtain⟨xs,q,r⟩:=h;rw [hp] at q;cases q
 |sdc ds=>obtain⟨xs,⟨o,q⟩,r⟩:=h;rw [hp] at q;cases q
theorem RepS.newL {p:Addr} {xs:List V} {ds:List D} (R:RepS K H β S) (hp:H p=none) (r:RepL K H β ds xs):RepS K (upd H p (.lst xs)) (β++[p]) (S++[.lst ds]):=
 R.add (Ex.newL hp).e0 ⟨xs,Zaq,r.mono (Ex.newL hp)⟩ fun _ c _ _ h=>ZdI hp c h
theorem RepS.newK {p:Addr} (R:RepS K H β S) (hp:H p=none):RepS K (upd H p (.dK [])) (β++[p]) (S++[.dct []]):=
 R.add (Ex.newP hp).e0 ⟨[],Zaq,.nil⟩ fun _ c _ _ h=>ZdI hp c h
theorem RepS.notin {p:Addr} (R:RepS K H β S) (hp:H p=none) (hk:K.lookup p=none):p∉β:=fun z=>by
 obtain⟨n,h⟩:=List.getElem?_of_mem z
 have hn:n<S.length:=by rw [←R.len];exact(Yac.mp h).1
 obtain⟨ds,_,xs,⟨o,_,_,q,_⟩,_⟩:=ZdI hp _ (R.cell n p _ h (Yaf hn))
 rw [hk] at q;cases q
theorem RepS.mkK {p:Addr} {vs:List (Key×V)} {kvs:List (Key×D)} (R:RepS K H β S) (hp:H p=some (.dK [])) (hn:p∉β) (r:ZK (RepV K H β) kvs vs):RepS K (upd H p (.dK vs)) (β++[p]) (S++[.dct kvs]):=by
 have ex:Ex0 K H β (upd H p (.dK vs)) (β++[p]):=⟨⟨[p],rfl⟩,fun _ _ h=>Zhp hp h,fun _ _ h=>by rw [Zaf (ne_of h hp (by intro z;cases z))];exact h,fun _ h=>by rw [Zaf (ne_of h hp (by intro z;cases z))];exact h,fun _ h=>Zhq hp h⟩
 exact R.add ex ⟨vs,Zaq,r.imp fun _ _ z=>z.mono0 ex⟩ fun n c h1 _ _=>absurd (Yay h1) hn
theorem RepS.swap {n:Nat} {p:Addr} {o:HO} {zs:List (Key×V)} {kvs:List (Key×D)} {c0:Cell} (R:RepS K H β S) (hb:β[n]?=some p) (hS:S[n]?=some (.dct kvs)) (hp:H p=some (.dK zs)) (ok:CellOk K (upd H p o) β p c0) (hc:(∃k,c0=.dct k)∨∃k,c0=.sdc k):RepS K (upd H p o) β (S.set n c0):=by
 have ex:Ex K H β (upd H p o) β:=Ex.setK (Yay hb) hp
 have hn:n<S.length:=(Yac.mp hS).1
 have at':∀m a c,β[m]?=some a→(S.set n c0)[m]?=some c→(m=n∧a=p∧c=c0)∨(m≠n∧S[m]?=some c):=fun m a c h1 h2=>by
  by_cases e:n=m
  ·subst e
   rw [hb] at h1
   cases h1
   rw [YaA hn] at h2
   cases h2
   exact .inl ⟨rfl,rfl,rfl⟩
  ·rw [Yap e] at h2
   exact .inr ⟨fun z=>e z.symm,h2⟩
 refine⟨by rw [Ybi];exact R.len,fun m a c h1 h2=>?_,fun m k a ys ws h1 h2 h3 h4=>?_,fun m k a ys ws h1 h2 h3 h4=>?_⟩
 ·rcases at' m a c h1 h2 with ⟨rfl,rfl,rfl⟩|⟨ne,h2⟩
  ·exact ok
  ·have C:=R.cell m a c h1 h2
   by_cases e:a=p
   ·subst e
    cases c with
    |lst es=>obtain⟨vs,q,rr⟩:=C;rw [hp] at q;cases q
    |scr es=>
     obtain⟨vs,⟨o,q⟩|q,rr⟩:=C
     ·rw [hp] at q;cases q
     ·exact⟨vs,.inr q,rr.mono ex⟩
    |dct es=>exact absurd (R.ned m n a es kvs h1 hb h2 hS) ne
    |sdc es=>obtain⟨vs,⟨o,q⟩,rr⟩:=C;rw [hp] at q;cases q
   ·exact C.keep ex fun o q=>by rw [Zaf e];exact q
 ·rcases at' m a _ h1 h3 with ⟨_,_,z⟩|⟨_,h3⟩
  ·rcases hc with ⟨k,e⟩|⟨k,e⟩<;>rw [e] at z<;>cases z
  ·rcases at' k a _ h2 h4 with ⟨_,_,z⟩|⟨_,h4⟩
   ·rcases hc with ⟨k,e⟩|⟨k,e⟩<;>rw [e] at z<;>cases z
   ·exact R.ne m k a ys ws h1 h2 h3 h4
 ·rcases at' m a _ h1 h3 with ⟨m1,a1,z⟩|⟨m1,b3⟩
  ·rcases at' k a _ h2 h4 with ⟨k1,_,_⟩|⟨k1,b4⟩
   ·exact m1.trans k1.symm
   ·subst m1;exact R.ned m k a kvs ws h1 h2 hS b4
  ·rcases at' k a _ h2 h4 with ⟨k1,_,_⟩|⟨k1,b4⟩
   ·subst k1;exact R.ned m k a ys kvs h1 h2 b3 hS
   ·exact R.ned m k a ys ws h1 h2 b3 b4
theorem RepS.setL {n:Nat} {p:Addr} {xs:List V} {ds ds':List D} (R:RepS K H β S) (hb:β[n]?=some p) (hS:S[n]?=some (.lst ds)) (r:RepL K H β ds' xs):RepS K (upd H p (.lst xs)) β (S.set n (.lst ds')):=by
 obtain⟨zs,hp,_⟩:=R.cell n p _ hb hS
 have ex:=Ex.setL (K:=K) (β:=β) (xs:=xs) hp
 have hn:n<S.length:=(Yac.mp hS).1
 refine⟨by rw [Ybi];exact R.len,fun m a c h1 h2=>?_,fun m k a ys ws h1 h2 h3 h4=>?_,fun m k a ys ws h1 h2 h3 h4=>?_⟩
 ·by_cases e:n=m
  ·subst e
   rw [hb] at h1
   cases h1
   rw [YaA hn] at h2
   cases h2
   exact⟨xs,Zaq,r.mono ex⟩
  ·rw [Yap e] at h2
   have C:=R.cell m a c h1 h2
   have ex':=ex
   cases c with
   |lst es=>
    refine C.keep ex fun o q=>?_
    rw [Zaf (fun z=>e (R.ne n m a ds es (by rw [z];exact hb) h1 hS h2))]
    exact q
   |scr es=>
    obtain⟨vs,q,rr⟩:=C
    refine⟨vs,?_,rr.mono ex⟩
    rcases q with ⟨o,q⟩|q
    ·exact .inl ⟨o,by rw [Zaf (ne_of q hp (by intro z;cases z))];exact q⟩
    ·exact .inr q
   |dct es=>
    refine C.keep ex fun o q=>?_
    obtain⟨vs,q',_⟩:=C
    rw [Zaf (ne_of q' hp (by intro z;cases z))]
    exact q
   |sdc es=>
    refine C.keep ex fun o q=>?_
    obtain⟨vs,⟨o',q'⟩,_⟩:=C
    rw [Zaf (ne_of q' hp (by intro z;cases z))]
    exact q
 ·have back:∀(i:Nat) (us:List D),(S.set n (.lst ds'))[i]?=some (.lst us)→∃us',S[i]?=some (.lst us'):=fun i us h=>by
   by_cases e:n=i
   ·subst e;exact⟨ds,hS⟩
   ·rw [Yap e] at h;exact⟨us,h⟩
  obtain⟨u1,g1⟩:=back m ys h3
  obtain⟨u2,g2⟩:=back k ws h4
  exact R.ne m k a u1 u2 h1 h2 g1 g2
 ·have back:∀(i:Nat) (us:List (Key×D)),(S.set n (.lst ds'))[i]?=some (.dct us)→S[i]?=some (.dct us):=fun i us h=>by
   by_cases e:n=i
   ·subst e;rw [YaA hn] at h;cases h
   ·rw [Yap e] at h;exact h
  exact R.ned m k a ys ws h1 h2 (back m ys h3) (back k ws h4)
theorem RepS.ls (R:RepS K H β S) {n:Nat} {a:Addr} {ds:List D} (hb:β[n]?=some a) (h:lsOf S n=some ds):∃xs,SqL K H a xs∧RepL K H β ds xs:=by
 unfold lsOf at h
 split at h
 ·rename_i xs e
  cases h
  obtain⟨vs,q,r⟩:=R.cell n a _ hb e
  exact⟨vs,SqL.of q,r⟩
 ·rename_i xs e
  cases h
  obtain⟨vs,q,r⟩:=R.cell n a _ hb e
  refine⟨vs,?_,r⟩
  rcases q with ⟨o,q⟩|q
  ·exact .inl (.inr ⟨o,q⟩)
  ·exact .inr q
 ·cases h
theorem RepN.mono {e:Nv} {σ:L2.St} (N:RepN K H β e σ) (x:Ex K H β H' β'):RepN K H' β' e σ:=⟨N.len,fun i d h=>let ⟨v,q,r⟩:=N.get i d h;⟨v,q,r.mono x⟩⟩
theorem RepN.set {e:Nv} {σ:L2.St} {i:Nat} {d:D} {v:V} (N:RepN K H β e σ) (r:RepV K H β d v):RepN K H β (e.set i (some d)) (σ.set i (some v)):=by
 refine⟨by rw [Ybi,Ybi];exact N.len,fun j d' h=>?_⟩
 by_cases hij:i=j
 ·subst hij
  have hl:i<e.length:=by
   have:=(Yac.mp h).1
   rwa [Ybi] at this
  rw [YaA hl] at h
  cases h
  exact⟨v,YaA (by rw [←N.len];exact hl),r⟩
 ·rw [Yap hij] at h
  obtain⟨w,q,r'⟩:=N.get j d' h
  exact⟨w,by rw [Yap hij];exact q,r'⟩
theorem Go.mono {d:D} {Q:VK} (g:Go K H β S' d Q) (x:Ex K H β H1 β1):Go K H1 β1 S' d Q:=fun v H' β' e r s=>g v H' β' (x.trans e) r s
end
end Py
namespace Py
open PySem L2 PySem.Spec PyProof.Rows
noncomputable abbrev Pins:=List (Addr×Obj)
noncomputable def rD (K:Yab) (o:Op2):R2:=fun x y H Q=>∃β S dx dy d S',RepV K H β dx x∧RepV K H β dy y∧RepS K H β S∧op2 o dx dy S=.ok d S'∧Go K H β S' d Q
theorem ZcZ {n:Nat} (h:n≤100000):n≤sizeLine:=YaC h (by decide)
section
variable {X:Cx}
theorem Zaz {K:Yab} {H:Hp} {β:List Addr} {S:Sto} {i:Int} {Q:VK} (rs:RepS K H β S) (go:Go K H β S (.int i) Q):Q (.int i) H:=go _ _ _ Ex.refl (by simp only [RepV]) rs
theorem go_bl {K:Yab} {H:Hp} {β:List Addr} {S:Sto} {i:Bool} {Q:VK} (rs:RepS K H β S) (go:Go K H β S (.bl i) Q):Q (.bl i) H:=go _ _ _ Ex.refl (by simp only [RepV]) rs
theorem Zc2 {K:Yab} {H:Hp} {β:List Addr} {S:Sto} {ds:List D} {xs:List V} {Q:VK} {p:Addr} (rs:RepS K H β S) (hp:H p=none) (r:RepL K H β ds xs) (go:Go K H β S (.tup ds) Q):Q (.ref p) (upd H p (.tup xs)):=
 go _ _ _ (Ex.newT hp) (by simp only [RepV];exact⟨p,xs,rfl,SqT.of Zaq,r.mono (Ex.newT hp)⟩) (rs.newT hp)
theorem Zc3 {K:Yab} {H:Hp} {β:List Addr} {S:Sto} {ds:List D} {xs:List V} {Q:VK} {p:Addr} (rs:RepS K H β S) (hp:H p=none) (r:RepL K H β ds xs) (go:Go K H β (S++[.lst ds]) (.obj S.length) Q):Q (.ref p) (upd H p (.lst xs)):=
 go _ _ _ (Ex.newL hp) (by simp only [RepV];exact⟨p,rfl,by rw [←rs.len,Yav (Yad _)];simp,xs,SqL.of Zaq⟩) (rs.newL hp r)
theorem Zla:OpR X (binaryOp .Add) (rD X.K .add):=by
 intro pins s σ H x y v u Q I rx ry h
 obtain⟨β,S,dx,dy,d,S',r1,r2,rs,e,go⟩:=h
 cases dx with
 |int a=>cases dy with
  |int b=>simp only [op2,o_add] at e;cases e;simp only [RepV] at r1 r2;subst r1 r2;exact ZmZ pins s σ H _ _ v u Q I rx ry ⟨a,b,rfl,rfl,Zaz rs go⟩
  |_=>simp [op2,o_add] at e
 |tup as=>cases dy with
  |tup bs=>
   simp only [op2,o_add] at e
   split at e
   ·rename_i hl
    cases e
    simp only [RepV] at r1 r2
    obtain⟨a,xs,rfl,q1,l1⟩:=r1
    obtain⟨b,ys,rfl,q2,l2⟩:=r2
    refine Zje pins s σ H _ _ v u Q I rx ry ⟨a,b,xs,ys,rfl,rfl,q1,q2,ZcZ (by rw [←l1.length,←l2.length];exact hl),fun e0=>?_,fun e0 e1=>?_,fun p hp=>Zc2 rs hp (l1.append l2) go⟩
    ·subst e0
     have:as=[]:=by cases as with|nil=>rfl|cons _ _=>have:=l1.length;simp at this
     subst this
     exact go _ _ _ Ex.refl (by simp only [RepV,YbC];exact⟨b,ys,rfl,q2,l2⟩) rs
    ·subst e1
     have:bs=[]:=by cases bs with|nil=>rfl|cons _ _=>have:=l2.length;simp at this
     subst this
     exact go _ _ _ Ex.refl (by simp only [RepV,Ybo];exact⟨a,xs,rfl,q1,l1⟩) rs
   ·cases e
  |_=>simp [op2,o_add] at e
 |str a=>cases dy with
  |str b=>
   replace e:(if a.length+b.length≤100000 then Res.ok (D.str (a++b)) S else .no)=.ok d S':=e
   split at e
   ·rename_i hl
    cases e
    simp only [RepV] at r1 r2
    subst r1 r2
    exact ZgX pins s σ H _ _ v u Q I rx ry ⟨a,b,rfl,rfl,ZcZ hl,go _ _ _ Ex.refl (by simp only [RepV]) rs⟩
   ·cases e
  |_=>cases e
 |obj n=>cases dy with
  |obj m=>
   simp only [op2,o_add] at e
   cases h1:lsOf S n with
   |none=>rw [h1] at e;simp at e
   |some as=>
    cases h2:lsOf S m with
    |none=>rw [h1,h2] at e;simp at e
    |some bs=>
     rw [h1,h2] at e
     simp only at e
     split at e
     ·rename_i hl
      cases e
      simp only [RepV] at r1 r2
      obtain⟨a,rfl,b1,_⟩:=r1
      obtain⟨b,rfl,b2,_⟩:=r2
      obtain⟨xs,q1,l1⟩:=rs.ls b1 h1
      obtain⟨ys,q2,l2⟩:=rs.ls b2 h2
      exact Zk1 pins s σ H _ _ v u Q I rx ry ⟨a,b,xs,ys,rfl,rfl,q1,q2,ZcZ (by rw [←l1.length,←l2.length];exact hl),fun p hp=>Zc3 rs hp (l1.append l2) go⟩
     ·cases e
  |_=>simp [op2,o_add] at e
 |_=>simp [op2,o_add] at e
theorem Zk2:OpR X (binaryOp .Sub) (rD X.K .sub):=by
 intro pins s σ H x y v u Q I rx ry h
 obtain⟨β,S,dx,dy,d,S',r1,r2,rs,e,go⟩:=h
 cases dx with
 |int a=>cases dy with
  |int b=>simp only [op2,o_sub] at e;cases e;simp only [RepV] at r1 r2;subst r1 r2;exact ZmP pins s σ H _ _ v u Q I rx ry ⟨a,b,rfl,rfl,Zaz rs go⟩
  |_=>simp [op2,o_sub] at e
 |_=>simp [op2,o_sub] at e
theorem Zk6:OpR X (binaryOp .Mult) (rD X.K .mul):=by
 intro pins s σ H x y v u Q I rx ry h
 obtain⟨β,S,dx,dy,d,S',r1,r2,rs,e,go⟩:=h
 cases dx with
 |int a=>cases dy with
  |int b=>
   simp only [op2,o_mul] at e
   split at e
   ·rename_i hc
    cases e
    simp only [RepV] at r1 r2
    subst r1 r2
    rcases hc with hc|hc|hc
    ·exact Zk0 pins s σ H _ _ v u Q I rx ry ⟨a,b,rfl,rfl,hc,Zaz rs go⟩
    ·exact ZjT pins s σ H _ _ v u Q I rx ry ⟨a,b,rfl,rfl,.inl ⟨by omega,by omega⟩,Zaz rs go⟩
    ·exact ZjT pins s σ H _ _ v u Q I rx ry ⟨a,b,rfl,rfl,.inr ⟨by omega,by omega⟩,Zaz rs go⟩
   ·cases e
  |_=>simp [op2,o_mul] at e
 |tup as=>cases dy with
  |int b=>
   simp only [op2,o_mul] at e
   split at e
   ·rename_i hc
    obtain⟨c1,c2,c3,c4⟩:=hc
    cases e;simp only [RepV] at r1 r2
    obtain⟨a,xs,rfl,q1,l1⟩:=r1
    subst r2
    by_cases hb1:b=1
    ·subst hb1
     refine Zja pins s σ H _ _ v u Q I rx ry ⟨a,xs,rfl,rfl,q1,go _ _ _ Ex.refl ?_ rs⟩
     simp only [RepV]
     exact⟨a,xs,rfl,q1,by simpa using l1⟩
    replace c2:2≤b:=by omega
    refine ZkY pins s σ H _ _ v u Q I rx ry ⟨a,b,xs,rfl,rfl,q1,?_,c2,by omega,?_,fun p hp=>Zc2 rs hp (l1.rep b.toNat) go⟩
    ·intro z;subst z;have:=l1.length;simp at this;exact c1 this
    ·rw [←l1.length]
     refine ZcZ ?_
     have h1:b.toNat≤1000:=by omega
     calc as.length*b.toNat≤100*1000:=Nat.mul_le_mul c4 h1
      _≤100000:=by decide
   ·split at e
    ·rename_i hc
     obtain⟨c1,c2,c3⟩:=hc
     cases e;simp only [RepV] at r1 r2
     obtain⟨a,xs,rfl,q1,l1⟩:=r1
     subst r2
     refine Zjb pins s σ H _ _ v u Q I rx ry ⟨a,b,xs,rfl,rfl,q1,?_,c2,c3,fun p hp=>Zc2 rs hp (by simp [RepL]) go⟩
     intro z;subst z;have:=l1.length;simp at this;exact c1 this
    ·cases e
  |_=>simp [op2,o_mul] at e
 |obj n=>cases dy with
  |int b=>
   simp only [op2,o_mul] at e
   split at e
   ·rename_i xs hS
    split at e
    ·rename_i hc
     obtain⟨c1,c2,c3⟩:=hc
     cases e
     simp only [RepV] at r1 r2
     obtain⟨a,rfl,b1,_⟩:=r1
     subst r2
     obtain⟨vs,q,l⟩:=rs.cell n a _ b1 hS
     refine ZmS pins s σ H _ _ v u Q I rx ry ⟨a,b,vs,rfl,rfl,q,by omega,by omega,?_,fun p hp=>Zc3 rs hp (l.rep b.toNat) go⟩
     rw [←l.length]
     refine ZcZ ?_
     have h1:b.toNat≤1000:=by omega
     calc xs.length*b.toNat≤100*1000:=Nat.mul_le_mul c2 h1
      _≤100000:=by decide
    ·cases e
   ·cases e
  |_=>simp [op2,o_mul] at e
 |_=>simp [op2,o_mul] at e
theorem Zk7:OpR X (binaryOp .Mod) (rD X.K .mod):=by
 intro pins s σ H x y v u Q I rx ry h
 obtain⟨β,S,dx,dy,d,S',r1,r2,rs,e,go⟩:=h
 cases dx with
 |int a=>cases dy with
  |int b=>
   simp only [op2,o_mod] at e
   split at e
   ·rename_i hc;cases e;simp only [RepV] at r1 r2;subst r1 r2;exact ZmV pins s σ H _ _ v u Q I rx ry ⟨a,b,rfl,rfl,hc,Zaz rs go⟩
   ·cases e
  |_=>simp [op2,o_mod] at e
 |_=>simp [op2,o_mod] at e
theorem Zjg:OpR X (binaryOp .FloorDiv) (rD X.K .fdiv):=by
 intro pins s σ H x y v u Q I rx ry h
 obtain⟨β,S,dx,dy,d,S',r1,r2,rs,e,go⟩:=h
 cases dx with
 |int a=>cases dy with
  |int b=>
   simp only [op2,Za9] at e
   split at e
   ·rename_i hc;cases e;simp only [RepV] at r1 r2;subst r1 r2;exact Zjd pins s σ H _ _ v u Q I rx ry ⟨a,b,rfl,rfl,hc,Zaz rs go⟩
   ·cases e
  |_=>simp [op2,Za9] at e
 |_=>simp [op2,Za9] at e
theorem Zk5:OpR X (binaryOp .Pow) (rD X.K .pow):=by
 intro pins s σ H x y v u Q I rx ry h
 obtain⟨β,S,dx,dy,d,S',r1,r2,rs,e,go⟩:=h
 cases dx with
 |int a=>cases dy with
  |int b=>
   simp only [op2,o_pow] at e
   split at e
   ·rename_i hc;cases e;simp only [RepV] at r1 r2;subst r1 r2;exact ZmT pins s σ H _ _ v u Q I rx ry ⟨a,b,rfl,rfl,hc,Zaz rs go⟩
   ·cases e
  |_=>simp [op2,o_pow] at e
 |_=>simp [op2,o_pow] at e
theorem Zk4:OpR X (binaryOp .LShift) (rD X.K .shl):=by
 intro pins s σ H x y v u Q I rx ry h
 obtain⟨β,S,dx,dy,d,S',r1,r2,rs,e,go⟩:=h
 cases dx with
 |int a=>cases dy with
  |int b=>
   simp only [op2,o_shl] at e
   split at e
   ·rename_i hc;cases e;simp only [RepV] at r1 r2;subst r1 r2;exact ZmR pins s σ H _ _ v u Q I rx ry ⟨a,b,rfl,rfl,hc,Zaz rs go⟩
   ·cases e
  |_=>simp [op2,o_shl] at e
 |_=>simp [op2,o_shl] at e
theorem Zk3:OpR X (binaryOp .RShift) (rD X.K .shr):=by
 intro pins s σ H x y v u Q I rx ry h
 obtain⟨β,S,dx,dy,d,S',r1,r2,rs,e,go⟩:=h
 cases dx with
 |int a=>cases dy with
  |int b=>
   simp only [op2,o_shr] at e
   split at e
   ·rename_i hc;cases e;simp only [RepV] at r1 r2;subst r1 r2;exact ZmQ pins s σ H _ _ v u Q I rx ry ⟨a,b,rfl,rfl,hc,Zaz rs go⟩
   ·cases e
  |_=>simp [op2,o_shr] at e
 |_=>simp [op2,o_shr] at e
theorem Zjh:OpR X (binaryOp .BitAnd) (rD X.K .band):=by
 intro pins s σ H x y v u Q I rx ry h
 obtain⟨β,S,dx,dy,d,S',r1,r2,rs,e,go⟩:=h
 cases dx with
 |int a=>cases dy with
  |int b=>simp only [op2,Zbn] at e;cases e;simp only [RepV] at r1 r2;subst r1 r2;exact ZmY pins s σ H _ _ v u Q I rx ry ⟨a,b,rfl,rfl,Zaz rs go⟩
  |_=>simp [op2,Zbn] at e
 |_=>simp [op2,Zbn] at e
theorem Zm1:OpR X (compareOp .Lt) (rD X.K .lt):=by
 intro pins s σ H x y v u Q I rx ry h
 obtain⟨β,S,dx,dy,d,S',r1,r2,rs,e,go⟩:=h
 cases dx with
 |int a=>cases dy with
  |int b=>simp only [op2,o_lt] at e;cases e;simp only [RepV] at r1 r2;subst r1 r2;exact op_lt pins s σ H _ _ v u Q I rx ry ⟨a,b,rfl,rfl,go_bl rs go⟩
  |_=>simp [op2,o_lt] at e
 |_=>simp [op2,o_lt] at e
theorem Zm2:OpR X (compareOp .LtE) (rD X.K .le):=by
 intro pins s σ H x y v u Q I rx ry h
 obtain⟨β,S,dx,dy,d,S',r1,r2,rs,e,go⟩:=h
 cases dx with
 |int a=>cases dy with
  |int b=>simp only [op2,o_le] at e;cases e;simp only [RepV] at r1 r2;subst r1 r2;exact op_le pins s σ H _ _ v u Q I rx ry ⟨a,b,rfl,rfl,go_bl rs go⟩
  |_=>simp [op2,o_le] at e
 |_=>simp [op2,o_le] at e
theorem Zm4:OpR X (compareOp .Gt) (rD X.K .gt):=by
 intro pins s σ H x y v u Q I rx ry h
 obtain⟨β,S,dx,dy,d,S',r1,r2,rs,e,go⟩:=h
 cases dx with
 |int a=>cases dy with
  |int b=>simp only [op2,o_gt] at e;cases e;simp only [RepV] at r1 r2;subst r1 r2;exact op_gt pins s σ H _ _ v u Q I rx ry ⟨a,b,rfl,rfl,go_bl rs go⟩
  |_=>simp [op2,o_gt] at e
 |_=>simp [op2,o_gt] at e
theorem Zm5:OpR X (compareOp .GtE) (rD X.K .ge):=by
 intro pins s σ H x y v u Q I rx ry h
 obtain⟨β,S,dx,dy,d,S',r1,r2,rs,e,go⟩:=h
 cases dx with
 |int a=>cases dy with
  |int b=>simp only [op2,o_ge] at e;cases e;simp only [RepV] at r1 r2;subst r1 r2;exact op_ge pins s σ H _ _ v u Q I rx ry ⟨a,b,rfl,rfl,go_bl rs go⟩
  |_=>simp [op2,o_ge] at e
 |_=>simp [op2,o_ge] at e
theorem ZgJ {a b:Int}:decide (V.int a=V.int b)=decide (a=b):=by by_cases h:a=b<;>simp [h]
theorem ZgI {a b:Str}:decide (V.str a=V.str b)=decide (a=b):=by by_cases h:a=b<;>simp [h]
theorem Zim {a b:Bool}:decide (V.bl a=V.bl b)=decide (a=b):=by by_cases h:a=b<;>simp [h]
mutual
theorem Zgm {pins:Pins} {σ:L2.St} {H:Hp} {s:Shared} {β:List Addr} (I:Inv X pins σ H s):∀(d:D) (v:V) (u:Value),RepV X.K H β d v→RelV v u→d.pl=true→∃as,Reads s.heap u d.pd as
 | .non,v,u,r,ru,_=>by simp only [RepV] at r;subst r;cases ru;exact⟨_,.none⟩
 | .bl b,v,u,r,ru,_=>by simp only [RepV] at r;subst r;cases ru;exact⟨_,.bool b⟩
 | .int b,v,u,r,ru,_=>by simp only [RepV] at r;subst r;obtain⟨t,rfl⟩:=ru;exact⟨_,.int b t⟩
 | .str b,v,u,r,ru,_=>by simp only [RepV] at r;subst r;obtain⟨t,rfl⟩:=ru;exact⟨_,.str b t⟩
 | .obj n,v,u,r,ru,h=>by simp [D.pl] at h
 | .ty n,v,u,r,ru,h=>by simp [D.pl] at h
 | .exo n,v,u,r,ru,h=>by simp [D.pl] at h
 | .dic n,v,u,r,ru,h=>by simp [D.pl] at h
 | .tup ds,v,u,r,ru,h=>by
  simp only [RepV] at r
  obtain⟨a,xs,rfl,q,l⟩:=r
  cases ru
  obtain⟨its,rv,⟨o,e,c,n,dt⟩,_⟩:=I.tuple q
  simp only [D.pl] at h
  obtain⟨as,R⟩:=Zdp I ds xs its l rv h
  exact⟨as,.tuple e c dt (by simpa using R)⟩
theorem Zdp {pins:Pins} {σ:L2.St} {H:Hp} {s:Shared} {β:List Addr} (I:Inv X pins σ H s):∀(ds:List D) (vs:List V) (us:List Value),RepL X.K H β ds vs→Vals vs us→D.pls ds=true→∃as,ReadsAll s.heap us (D.pds ds) as
 | [],vs,us,r,ru,_=>by rw [RepL.nil_iff] at r;subst r;cases ru;exact⟨_,.nil⟩
 |d::ds,vs,us,r,ru,h=>by
  simp only [RepL] at r
  obtain⟨x,t,rfl,r1,r2⟩:=r
  cases ru with
  |cons h1 h2=>
   simp only [D.pls,Yan] at h
   obtain⟨as,R1⟩:=Zgm I d x _ r1 h1 h.1
   obtain⟨bs,R2⟩:=Zdp I ds t _ r2 h2 h.2
   exact⟨_,.cons R1 R2⟩
end
mutual
theorem ZhD:∀(d:D),d.pl=true→d.pd.canLay0=true
 | .non,_| .bl _,_| .int _,_=>rfl
 | .str _,h=>h
 | .obj _,h| .ty _,h| .exo _,h| .dic _,h=>by simp [D.pl] at h
 | .tup ds,h=>Zep ds h
theorem Zep:∀(ds:List D),D.pls ds=true→PyData.canLayAll0 (D.pds ds)=true
 | [],_=>rfl
 |d::ds,h=>by
  simp only [D.pls,Yan] at h
  simp only [D.pds,PyData.canLayAll0,Yan]
  exact⟨ZhD d h.1,Zep ds h.2⟩
end
theorem Zbs {pins:Pins} {σ:L2.St} {H:Hp} {s:Shared} {β:List Addr} {S:Sto} {d:D} {v:V} {u:Value} {p:PyData} (I:Inv X pins σ H s) (r:RepV X.K H β d v) (rs:RepS X.K H β S) (ru:RelV v u) (h:pdS S d=some p):∃as,Reads s.heap u p as∧p.canLay0=true:=by
 have key:∀{d:D},RepV X.K H β d v→(if d.pl=true then some d.pd else none)=some p→∃as,Reads s.heap u p as∧p.canLay0=true:=fun {d} r h=>by
  split at h
  ·rename_i hp;cases h
   obtain⟨as,R⟩:=Zgm I d v u r ru hp
   exact⟨as,R,ZhD d hp⟩
  ·cases h
 cases d with
 |obj n=>
  simp only [pdS] at h
  cases hl:lsOf S n with
  |none=>rw [hl] at h;simp at h
  |some xs=>
   rw [hl] at h
   simp only at h
   split at h
   ·rename_i hp;cases h
    simp only [RepV] at r
    obtain⟨a,rfl,b1,_⟩:=r
    obtain⟨vs,q,l⟩:=rs.ls b1 hl
    obtain⟨its,rv,⟨o,n',e,c,_,dt⟩,_⟩:=I.list q
    obtain⟨as,R⟩:=Zdp I xs vs its l rv hp
    cases ru
    exact⟨_,.list e c dt (by simpa using R),Zep xs hp⟩
   ·cases h
 |non=>exact key r h
 |bl _=>exact key r h
 |int _=>exact key r h
 |str _=>exact key r h
 |tup _=>exact key r h
 |ty _=>exact key r h
 |exo _=>exact key r h
 |dic _=>exact key r h
theorem Zj6 {S:Sto} {a b:D} {k:Bool} (h:eqX S a b=some k):∃p q,pdS S a=some p∧pdS S b=some q∧p.depth≤60∧k=PyData.eqv p q:=by
 unfold eqX at h
 cases h1:pdS S a with
 |none=>rw [h1] at h;simp at h
 |some p=>
  cases h2:pdS S b with
  |none=>rw [h1,h2] at h;simp at h
  |some q=>
   rw [h1,h2] at h
   simp only at h
   split at h
   ·rename_i hd;cases h;exact⟨p,q,rfl,rfl,hd,rfl⟩
   ·cases h
theorem Zm6 (hu:X.A.units+100<cLine):OpR X (compareOp .Eq) (rD X.K .eq):=by
 intro pins s σ H x y v u Q I rx ry h
 obtain⟨β,S,dx,dy,d,S',r1,r2,rs,e,go⟩:=h
 simp only [op2,o_eq,o_ne,eqA] at e
 cases hk:eqK dx dy with
 |none=>
  rw [hk] at e
  simp only at e
  cases hx:eqX S dx dy with
  |none=>rw [hx] at e;simp at e
  |some k=>
   rw [hx] at e
   simp only at e
   cases e
   obtain⟨p,q,hp,hq,hd,rfl⟩:=Zj6 hx
   obtain⟨as,R1,l1⟩:=Zbs I r1 rs rx hp
   obtain⟨bs,R2,l2⟩:=Zbs I r2 rs ry hq
   exact SeqAt.compareEq_reads R1 R2 l1 l2 (by omega) ⟨.bl _,H,I,rfl,go_bl rs go⟩
 |some k=>
  rw [hk] at e
  simp only at e
  cases e
  cases dx with
  |int a=>cases dy with
   |int b=>simp only [eqK] at hk;cases hk;simp only [RepV] at r1 r2;subst r1 r2;exact op_eq pins s σ H _ _ v u Q I rx ry ⟨rfl,by rw [ZgJ];exact go_bl rs go⟩
   |_=>simp [eqK] at hk
  |str a=>cases dy with
   |str b=>simp only [eqK] at hk;cases hk;simp only [RepV] at r1 r2;subst r1 r2;exact op_eq pins s σ H _ _ v u Q I rx ry ⟨rfl,by rw [ZgI];exact go_bl rs go⟩
   |_=>simp [eqK] at hk
  |bl a=>cases dy with
   |bl b=>simp only [eqK] at hk;cases hk;simp only [RepV] at r1 r2;subst r1 r2;exact op_eq pins s σ H _ _ v u Q I rx ry ⟨rfl,by rw [Zim];exact go_bl rs go⟩
   |_=>simp [eqK] at hk
  |_=>simp [eqK] at hk
theorem Zm0 (hu:X.A.units+100<cLine):OpR X (compareOp .NotEq) (rD X.K .ne):=by
 intro pins s σ H x y v u Q I rx ry h
 obtain⟨β,S,dx,dy,d,S',r1,r2,rs,e,go⟩:=h
 simp only [op2,o_eq,o_ne,eqA] at e
 cases hk:eqK dx dy with
 |none=>
  rw [hk] at e
  simp only at e
  cases hx:eqX S dx dy with
  |none=>rw [hx] at e;simp at e
  |some k=>
   rw [hx] at e
   simp only at e
   cases e
   obtain⟨p,q,hp,hq,hd,rfl⟩:=Zj6 hx
   obtain⟨as,R1,l1⟩:=Zbs I r1 rs rx hp
   obtain⟨bs,R2,l2⟩:=Zbs I r2 rs ry hq
   exact SeqAt.compareNe_reads R1 R2 l1 l2 (by omega) ⟨.bl _,H,I,rfl,go_bl rs go⟩
 |some k=>
  rw [hk] at e
  simp only at e
  cases e
  cases dx with
  |int a=>cases dy with
   |int b=>simp only [eqK] at hk;cases hk;simp only [RepV] at r1 r2;subst r1 r2;exact op_ne pins s σ H _ _ v u Q I rx ry ⟨rfl,by rw [ZgJ];exact go_bl rs go⟩
   |_=>simp [eqK] at hk
  |str a=>cases dy with
   |str b=>simp only [eqK] at hk;cases hk;simp only [RepV] at r1 r2;subst r1 r2;exact op_ne pins s σ H _ _ v u Q I rx ry ⟨rfl,by rw [ZgI];exact go_bl rs go⟩
   |_=>simp [eqK] at hk
  |bl a=>cases dy with
   |bl b=>simp only [eqK] at hk;cases hk;simp only [RepV] at r1 r2;subst r1 r2;exact op_ne pins s σ H _ _ v u Q I rx ry ⟨rfl,by rw [Zim];exact go_bl rs go⟩
   |_=>simp [eqK] at hk
  |_=>simp [eqK] at hk
theorem nonV {K:Yab} {H:Hp} {β:List Addr} {d:D} {x:V} (r:RepV K H β d x):decide (x=V.non)=isNon d:=by
 cases d with
 |non=>simp only [RepV] at r;subst r;rfl
 |bl _=>simp only [RepV] at r;subst r;rfl
 |int _=>simp only [RepV] at r;subst r;rfl
 |str _=>simp only [RepV] at r;subst r;rfl
 |ty _=>simp only [RepV] at r;subst r;rfl
 |obj _=>simp only [RepV] at r;obtain⟨a,rfl,_⟩:=r;rfl
 |exo _=>simp only [RepV] at r;obtain⟨a,rfl,_⟩:=r;rfl
 |dic _=>simp only [RepV] at r;obtain⟨a,rfl,_⟩:=r;rfl
 |tup _=>simp only [RepV] at r;obtain⟨a,xs,rfl,_⟩:=r;rfl
theorem Zm3:OpR X (compareOp .Is) (rD X.K .is):=by
 intro pins s σ H x y v u Q I rx ry h
 obtain⟨β,S,dx,dy,d,S',r1,r2,rs,e,go⟩:=h
 cases dy with
 |non=>simp only [op2,o_is] at e;cases e;simp only [RepV] at r2;subst r2;exact ZmW pins s σ H _ _ v u Q I rx ry ⟨rfl,by rw [nonV r1];exact go_bl rs go⟩
 |bl b=>cases dx with
  |bl a=>
   simp only [op2,o_is] at e;cases e;simp only [RepV] at r1 r2;subst r1 r2;cases rx;cases ry
   refine is_bool ⟨.bl _,H,I,rfl,?_⟩
   have z:(a==b)=decide (a=b):=by cases a<;>cases b<;>rfl
   rw [z];exact go_bl rs go
  |_=>simp [op2,o_is] at e
 |_=>simp [op2,o_is] at e
theorem Zk9:OpR X (compareOp .IsNot) (rD X.K .isn):=by
 intro pins s σ H x y v u Q I rx ry h
 obtain⟨β,S,dx,dy,d,S',r1,r2,rs,e,go⟩:=h
 cases dy with
 |non=>
  simp only [op2,o_isn] at e
  cases e
  simp only [RepV] at r2
  subst r2
  refine ZkZ pins s σ H _ _ v u Q I rx ry ⟨rfl,?_⟩
  rw [nonV r1]
  exact go_bl rs go
 |bl b=>cases dx with
  |bl a=>
   simp only [op2,o_isn] at e;cases e;simp only [RepV] at r1 r2;subst r1 r2;cases rx;cases ry
   refine isnot_bool ⟨.bl _,H,I,rfl,?_⟩
   have z:(a !=b)= !decide (a=b):=by cases a<;>cases b<;>rfl
   rw [z];exact go_bl rs go
  |_=>simp [op2,o_isn] at e
 |_=>simp [op2,o_isn] at e
theorem ZdA {K:Yab} {H:Hp} {β:List Addr} {d:D} {x:V} (r:RepV K H β d x) (f:flatD d=true):flatV x=true:=by
 cases d with
 |non=>simp only [RepV] at r;subst r;rfl
 |bl _=>simp only [RepV] at r;subst r;rfl
 |int _=>simp only [RepV] at r;subst r;rfl
 |str _=>simp only [RepV] at r;subst r;rfl
 |_=>cases f
theorem Zn1 {K:Yab} {H:Hp} {β:List Addr} {d d':D} {x y:V} (r:RepV K H β d x) (f:flatD d=true) (r':RepV K H β d' y) (f':flatD d'=true):eqV x y=eqF d d':=by
 cases d<;>simp only [RepV] at r<;>(try cases f)<;>subst r<;>cases d'<;>simp only [RepV] at r'<;>(try cases f')<;>subst r'<;>rfl
theorem Zcr {K:Yab} {H:Hp} {β:List Addr}:∀{ds:List D} {xs:List V},RepL K H β ds xs→ds.all flatD=true→xs.all flatV=true
 | [],_,h,_=>by rw [RepL.nil_iff] at h;subst h;rfl
 |d::ds,xs,h,f=>by
  simp only [RepL] at h
  obtain⟨x,r,rfl,h1,h2⟩:=h
  rw [Yb0,Yan] at f⊢
  exact⟨ZdA h1 f.1,Zcr h2 f.2⟩
theorem Zfo {K:Yab} {H:Hp} {β:List Addr} {d:D} {x:V} (r:RepV K H β d x) (f:flatD d=true):∀{ds:List D} {xs:List V},RepL K H β ds xs→ds.all flatD=true→inV x xs=ds.any fun y=>eqF y d
 | [],_,h,_=>by rw [RepL.nil_iff] at h;subst h;rfl
 |d'::ds,xs,h,g=>by
  simp only [RepL] at h
  obtain⟨y,t,rfl,h1,h2⟩:=h
  rw [Yb0,Yan] at g
  have ih:=Zfo r f h2 g.2
  unfold inV at ih⊢
  rw [Yba,Yba,ih,Zn1 h1 g.1 r f]
noncomputable def eqR (h:Heap) (p:PyData) (u:Value):Bool:= @decide (∃q as,Reads h u q as∧PyData.eqv q p=true) (Classical.propDecidable _)
theorem Zn2 {h:Heap} {p q:PyData} {u:Value} {as:List Addr} (R:Reads h u q as) (l:q.canLay0=true):eqR h p u=PyData.eqv q p:=by
 unfold eqR
 cases e:PyData.eqv q p with
 |true=>exact @decide_eq_true _ (Classical.propDecidable _) ⟨q,as,R,e⟩
 |false=>
  refine @decide_eq_false _ (Classical.propDecidable _) ?_
  rintro ⟨q',as',R',e'⟩
  rw [PySem.SeqAt.Reads.unique q q' u as as' l R R'] at e
  rw [e] at e'
  cases e'
theorem ZhR {pins:Pins} {σ:L2.St} {H:Hp} {s:Shared} {β:List Addr} {S:Sto} {v:Value} {p:PyData} {as:List Addr} {A:Around} (I:Inv X pins σ H s) (rs:RepS X.K H β S) (R:Reads s.heap v p as) (lp:p.canLay0=true) (hd:p.depth≤60) (hu:A.units+80<cLine):
  ∀{ds:List D} {xs:List V} {us:List Value} {k:Bool},RepL X.K H β ds xs→Vals xs us→memL S p ds=some k→(∀u∈us,SeqAt.EqAt A s u v (eqR s.heap p u))∧us.any (eqR s.heap p)=k
 | [],xs,us,k,l,r,h=>by
  rw [RepL.nil_iff] at l
  subst l
  cases r
  simp only [memL,Option.some.injEq] at h
  subst h
  exact⟨fun u hu=>(by cases hu),rfl⟩
 |d::ds,xs,us,k,l,r,h=>by
  simp only [RepL] at l
  obtain⟨x,xs,rfl,l1,l2⟩:=l
  cases r with
  |cons r1 r2=>
  rename_i u us
  simp only [memL] at h
  split at h
  ·rename_i q b hq hb
   cases h
   obtain⟨bs,R2,lq⟩:=Zbs I l1 rs r1 hq
   obtain⟨m1,m2⟩:=ZhR I rs R lp hd hu l2 r2 hb
   have e:=Zn2 (p:=p) R2 lq
   refine⟨fun w hw=>?_,by rw [Yba,e,m2]⟩
   rcases YaB.mp hw with rfl|hw
   ·rw [e]
    exact SeqAt.eqAt_reads q p A s _ v bs as R2 R lq lp (by omega)
   ·exact m1 w hw
  ·cases h
theorem Zer {pins:Pins} {σ:L2.St} {H:Hp} {s:Shared} {β:List Addr} {S:Sto} {a:D} {x:V} {v:Value} {ds:List D} {xs:List V} {us:List Value} {k:Bool} {A:Around} (I:Inv X pins σ H s) (r1:RepV X.K H β a x) (rs:RepS X.K H β S) (rx:RelV x v) (l:RepL X.K H β ds xs) (r:Vals xs us)
  (h:memX S a ds=some k) (hu:A.units+100<cLine):∃f:Value→Bool,(∀u∈us,SeqAt.EqAt A.in1 s u v (f u))∧us.any f=k:=by
 unfold memX at h
 split at h
 ·rename_i p hp
  split at h
  ·rename_i hd
   obtain⟨as,R,lp⟩:=Zbs I r1 rs rx hp
   exact⟨_,ZhR (A:=A.in1) I rs R lp hd (by simp [Around.in1];omega) l r h⟩
  ·cases h
 ·cases h
theorem Zk8 (hu:X.A.units+100<cLine):OpR X (compareOp .In) (rD X.K .mem):=by
 intro pins s σ H x y v u Q I rx ry h
 obtain⟨β,S,dx,dy,d,S',r1,r2,rs,e,go⟩:=h
 cases dy with
 |tup ys=>
  simp only [op2,o_mem] at e
  split at e
  ·rename_i hc
   cases e
   simp only [RepV] at r2
   obtain⟨b,xs,rfl,q,l⟩:=r2
   refine Ze6 pins s σ H _ _ v u Q I rx ry ⟨b,xs,rfl,.inr q,ZdA r1 hc.1,Zcr l hc.2,?_⟩
   rw [Zfo r1 hc.1 l hc.2]
   exact go_bl rs go
  ·split at e
   ·rename_i k hk
    cases e
    simp only [RepV] at r2
    obtain⟨b,xs,rfl,q,l⟩:=r2
    cases ry
    obtain⟨its,r,pl,hz⟩:=I.tuple q
    obtain⟨f,m1,m2⟩:=Zer I r1 rs rx l r hk hu
    refine SeqAt.in_tupleAt f pl (fun w hw=>m1 w (by simpa using hw)) ⟨.bl _,H,I,rfl,?_⟩
    rw [show its.toArray.any f=its.any f by simp,m2]
    exact go_bl rs go
   ·cases e
 |obj n=>
  simp only [op2,o_mem,Za8] at e
  cases hl:lsOf S n with
  |none=>rw [hl] at e;cases e
  |some ys=>
   rw [hl] at e
   dsimp only at e
   split at e
   ·rename_i hc
    cases e
    simp only [RepV] at r2
    obtain⟨b,rfl,hb,_⟩:=r2
    obtain⟨xs,q,l⟩:=rs.ls hb hl
    refine Ze6 pins s σ H _ _ v u Q I rx ry ⟨b,xs,rfl,.inl q,ZdA r1 hc.1,Zcr l hc.2,?_⟩
    rw [Zfo r1 hc.1 l hc.2]
    exact go_bl rs go
   ·split at e
    ·rename_i k hk
     cases e
     simp only [RepV] at r2
     obtain⟨b,rfl,hb,_⟩:=r2
     obtain⟨xs,q,l⟩:=rs.ls hb hl
     cases ry
     obtain⟨its,r,pl,hz⟩:=I.list q
     obtain⟨f,m1,m2⟩:=Zer I r1 rs rx l r hk hu
     refine SeqAt.in_listAt f pl.isList (fun w hw=>m1 w (by simpa using hw)) ⟨.bl _,H,I,rfl,?_⟩
     rw [show its.toArray.any f=its.any f by simp,m2]
     exact go_bl rs go
    ·cases e
 |_=>simp [op2,o_mem] at e
theorem Zjf (hu:X.A.units+100<cLine):OpR X (compareOp .NotIn) (rD X.K .nmem):=by
 intro pins s σ H x y v u Q I rx ry h
 obtain⟨β,S,dx,dy,d,S',r1,r2,rs,e,go⟩:=h
 cases dy with
 |tup ys=>
  simp only [op2,Za8] at e
  split at e
  ·rename_i hc
   cases e
   simp only [RepV] at r2
   obtain⟨b,xs,rfl,q,l⟩:=r2
   refine Zc0 pins s σ H _ _ v u Q I rx ry ⟨b,xs,rfl,.inr q,ZdA r1 hc.1,Zcr l hc.2,?_⟩
   rw [Zfo r1 hc.1 l hc.2]
   exact go_bl rs go
  ·split at e
   ·rename_i k hk
    cases e
    simp only [RepV] at r2
    obtain⟨b,xs,rfl,q,l⟩:=r2
    cases ry
    obtain⟨its,r,pl,hz⟩:=I.tuple q
    obtain⟨f,m1,m2⟩:=Zer I r1 rs rx l r hk hu
    refine SeqAt.notIn_tupleAt f pl (fun w hw=>m1 w (by simpa using hw)) ⟨.bl _,H,I,rfl,?_⟩
    rw [show its.toArray.any f=its.any f by simp,m2]
    exact go_bl rs go
   ·cases e
 |obj n=>
  simp only [op2,o_mem,Za8] at e
  cases hl:lsOf S n with
  |none=>rw [hl] at e;cases e
  |some ys=>
   rw [hl] at e
   dsimp only at e
   split at e
   ·rename_i hc
    cases e
    simp only [RepV] at r2
    obtain⟨b,rfl,hb,_⟩:=r2
    obtain⟨xs,q,l⟩:=rs.ls hb hl
    refine Zc0 pins s σ H _ _ v u Q I rx ry ⟨b,xs,rfl,.inl q,ZdA r1 hc.1,Zcr l hc.2,?_⟩
    rw [Zfo r1 hc.1 l hc.2]
    exact go_bl rs go
   ·split at e
    ·rename_i k hk
     cases e
     simp only [RepV] at r2
     obtain⟨b,rfl,hb,_⟩:=r2
     obtain⟨xs,q,l⟩:=rs.ls hb hl
     cases ry
     obtain⟨its,r,pl,hz⟩:=I.list q
     obtain⟨f,m1,m2⟩:=Zer I r1 rs rx l r hk hu
     refine SeqAt.notIn_listAt f pl.isList (fun w hw=>m1 w (by simpa using hw)) ⟨.bl _,H,I,rfl,?_⟩
     rw [show its.toArray.any f=its.any f by simp,m2]
     exact go_bl rs go
    ·cases e
 |_=>simp [op2,Za8] at e
end
end Py
namespace Py
open PySem L2 PySem.Spec PyProof.Rows
noncomputable abbrev M:=Nv→Sto→Res D
noncomputable def LE (K:Yab) (m:M):TE:=fun σ H Q=>∃env S β d S',RepN K H β env σ∧RepS K H β S∧m env S=.ok d S'∧Go K H β S' d Q
noncomputable def LT (K:Yab) (m:M):TT:=fun σ H Q=>∃env S β b S',RepN K H β env σ∧RepS K H β S∧m env S=.ok (.bl b) S'∧∀H' β',Ex K H β H' β'→RepS K H' β' S'→Q b H'
noncomputable def LA (K:Yab) (m:M):TA:=fun σ H Q=>∃env S β ds S',RepN K H β env σ∧RepS K H β S∧m env S=.ok (.tup ds) S'∧∀vs H' β',Ex K H β H' β'→RepL K H' β' ds vs→RepS K H' β' S'→Q vs H'
section
variable {X:Cx} {a b c e:Expr} {es:List Expr} {ma mb mc m:M} {pos:Pos}
theorem Zdt {d:D} {v:V} (h:PE X a (tC v)) (r:∀H β,RepV X.K H β d v):PE X a (LE X.K fun _ S=>.ok d S):=by
 intro pins s σ H Q I q
 obtain⟨env,S,β,d',S',rn,rs,e,go⟩:=q
 cases e
 exact h pins s σ H Q I (go _ _ _ Ex.refl (r H β) rs)
theorem Znp {i:Nat} (h:PE X a (tVar i)):PE X a (LE X.K fun e S=>match e[i]? with|some (some d)=>.ok d S|_=>.no):=by
 intro pins s σ H Q I q
 obtain⟨env,S,β,d',S',rn,rs,e,go⟩:=q
 try dsimp only at e
 split at e
 ·rename_i d he
  cases e
  obtain⟨v,q,r⟩:=rn.get i _ he
  exact h pins s σ H Q I ⟨v,q,go _ _ _ Ex.refl r rs⟩
 ·cases e
theorem le_op {op:Operator} {o:Op2} (ho:OpR X (binaryOp op) (rD X.K o)) (ha:PE X a (LE X.K ma)) (hb:PE X b (LE X.K mb)):
  PE X (.BinOp a op b pos) (LE X.K fun e S=>(ma e S).bind fun x S1=>(mb e S1).bind fun y S2=>op2 o x y S2):=by
 intro pins s σ H Q I h
 obtain⟨env,S,β,d,S',rn,rs,e,go⟩:=h
 obtain⟨x,S1,e1,e⟩:=Res.bind_is e
 obtain⟨y,S2,e2,e⟩:=Res.bind_is e
 exact pe_op ho ha hb pins s σ H Q I ⟨env,S,β,x,S1,rn,rs,e1,fun v1 H1 β1 x1 r1 s1=>⟨env,S1,β1,y,S2,rn.mono x1,s1,e2,fun v2 H2 β2 x2 r2 s2=>⟨β2,S2,x,y,d,S',r1.mono x2,r2,s2,e,go.mono (x1.trans x2)⟩⟩⟩
theorem ZnD {op:CmpOp} {o:Op2} (ho:OpR X (compareOp op) (rD X.K o)) (hm:behindInMarks op b=false) (ha:PE X a (LE X.K ma)) (hb:PE X b (LE X.K mb)):
  PE X (.Compare a [op] [b] pos) (LE X.K fun e S=>(ma e S).bind fun x S1=>(mb e S1).bind fun y S2=>op2 o x y S2):=by
 intro pins s σ H Q I h
 obtain⟨env,S,β,d,S',rn,rs,e,go⟩:=h
 obtain⟨x,S1,e1,e⟩:=Res.bind_is e
 obtain⟨y,S2,e2,e⟩:=Res.bind_is e
 exact ZkU ho ha hb hm pins s σ H Q I ⟨env,S,β,x,S1,rn,rs,e1,fun v1 H1 β1 x1 r1 s1=>⟨env,S1,β1,y,S2,rn.mono x1,s1,e2,fun v2 H2 β2 x2 r2 s2=>⟨β2,S2,x,y,d,S',r1.mono x2,r2,s2,e,go.mono (x1.trans x2)⟩⟩⟩
theorem Znd {op:CmpOp} {o:Op2} (ho:OpR X (compareOp op) (rD X.K o)) (hm:behindInMarks op b=false) (ha:PE X a (LE X.K ma)) (hb:PE X b (LE X.K mb)):
  PT X (.Compare a [op] [b] pos) (LT X.K fun e S=>(ma e S).bind fun x S1=>(mb e S1).bind fun y S2=>op2 o x y S2):=by
 intro pins s σ H Q I h
 obtain⟨env,S,β,k,S',rn,rs,e,go⟩:=h
 obtain⟨x,S1,e1,e⟩:=Res.bind_is e
 obtain⟨y,S2,e2,e⟩:=Res.bind_is e
 refine ZkD ho ha hb hm pins s σ H Q I ⟨env,S,β,x,S1,rn,rs,e1,fun v1 H1 β1 x1 r1 s1=>⟨env,S1,β1,y,S2,rn.mono x1,s1,e2,fun v2 H2 β2 x2 r2 s2=>⟨β2,S2,x,y,_,S',r1.mono x2,r2,s2,e,fun v3 H3 β3 x3 r3 s3=>⟨k,?_,go _ _ ((x1.trans x2).trans x3) s3⟩⟩⟩⟩
 simpa only [RepV] using r3
theorem ZnE {op op':CmpOp} {o o':Op2} (ho:OpR X (compareOp op) (rD X.K o)) (ho':OpR X (compareOp op') (rD X.K o')) (hm:lastMarks [op,op'] [b,c]=false) (ha:PE X a (LE X.K ma)) (hb:PE X b (LE X.K mb)) (hc:PE X c (LE X.K mc)):
  PE X (.Compare a [op,op'] [b,c] pos) (LE X.K fun e S=>(ma e S).bind fun x S1=>(mb e S1).bind fun y S2=>(op2 o x y S2).bind fun z S3=>(match z with
   | .bl true=>(mc e S3).bind fun w S4=>op2 o' y w S4
   | .bl false=>.ok (.bl false) S3
   |_=>.no)):=by
 intro pins s σ H Q I h
 obtain⟨env,S,β,d,S',rn,rs,e,go⟩:=h
 obtain⟨x,S1,e1,e⟩:=Res.bind_is e
 obtain⟨y,S2,e2,e⟩:=Res.bind_is e
 obtain⟨z,S3,e3,e⟩:=Res.bind_is e
 refine Zi4 ho ho' ha hb hc hm pins s σ H Q I ⟨env,S,β,x,S1,rn,rs,e1,fun v1 H1 β1 x1 r1 s1=>⟨env,S1,β1,y,S2,rn.mono x1,s1,e2,fun v2 H2 β2 x2 r2 s2=>⟨β2,S2,x,y,_,S3,r1.mono x2,r2,s2,e3,fun v3 H3 β3 x3 r3 s3=>?_⟩⟩⟩
 cases z with
 |bl k=>
  simp only [RepV] at r3
  refine⟨k,r3,?_⟩
  cases k with
  |true=>
   obtain⟨w,S4,e4,e⟩:=Res.bind_is e
   rw [if_pos rfl]
   exact⟨env,S3,β3,w,S4,rn.mono ((x1.trans x2).trans x3),s3,e4,fun v4 H4 β4 x4 r4 s4=>⟨β4,S4,y,w,d,S',r2.mono (x3.trans x4),r4,s4,e,go.mono (((x1.trans x2).trans x3).trans x4)⟩⟩
  |false=>
   cases e
   rw [if_neg Yal]
   exact go_bl s3 (go.mono ((x1.trans x2).trans x3))
 |_=>cases e
theorem Zne {op op':CmpOp} {o o':Op2} (ho:OpR X (compareOp op) (rD X.K o)) (ho':OpR X (compareOp op') (rD X.K o')) (hm:lastMarks [op,op'] [b,c]=false) (ha:PE X a (LE X.K ma)) (hb:PE X b (LE X.K mb)) (hc:PE X c (LE X.K mc)):
  PT X (.Compare a [op,op'] [b,c] pos) (LT X.K fun e S=>(ma e S).bind fun x S1=>(mb e S1).bind fun y S2=>(op2 o x y S2).bind fun z S3=>(match z with
   | .bl true=>(mc e S3).bind fun w S4=>op2 o' y w S4
   | .bl false=>.ok (.bl false) S3
   |_=>.no)):=by
 intro pins s σ H Q I h
 obtain⟨env,S,β,d,S',rn,rs,e,go⟩:=h
 obtain⟨x,S1,e1,e⟩:=Res.bind_is e
 obtain⟨y,S2,e2,e⟩:=Res.bind_is e
 obtain⟨z,S3,e3,e⟩:=Res.bind_is e
 refine ZiT ho ho' ha hb hc hm pins s σ H Q I ⟨env,S,β,x,S1,rn,rs,e1,fun v1 H1 β1 x1 r1 s1=>⟨env,S1,β1,y,S2,rn.mono x1,s1,e2,fun v2 H2 β2 x2 r2 s2=>⟨β2,S2,x,y,_,S3,r1.mono x2,r2,s2,e3,fun v3 H3 β3 x3 r3 s3=>?_⟩⟩⟩
 cases z with
 |bl k=>
  simp only [RepV] at r3
  refine⟨k,r3,?_⟩
  cases k with
  |true=>
   obtain⟨w,S4,e4,e⟩:=Res.bind_is e
   rw [if_pos rfl]
   refine⟨env,S3,β3,w,S4,rn.mono ((x1.trans x2).trans x3),s3,e4,fun v4 H4 β4 x4 r4 s4=>⟨β4,S4,y,w,_,S',r2.mono (x3.trans x4),r4,s4,e,fun v5 H5 β5 x5 r5 s5=>⟨d,?_,go _ _ ((((x1.trans x2).trans x3).trans x4).trans x5) s5⟩⟩⟩
   simpa only [RepV] using r5
  |false=>
   cases e
   rw [if_neg Yal]
   exact⟨false,rfl,go _ _ ((x1.trans x2).trans x3) s3⟩
 |_=>cases e
theorem Znv (ha:PE X a (LE X.K ma)):PE X (.UnaryOp .Not a pos) (LE X.K fun e S=>(ma e S).bind fun x S1=>(match x with| .bl k=>.ok (.bl (!k)) S1|_=>.no)):=by
 intro pins s σ H Q I h
 obtain⟨env,S,β,d,S',rn,rs,e,go⟩:=h
 obtain⟨x,S1,e1,e⟩:=Res.bind_is e
 refine ZmJ ha pins s σ H Q I ⟨env,S,β,x,S1,rn,rs,e1,fun v1 H1 β1 x1 r1 s1=>?_⟩
 cases x with
 |bl k=>cases e;simp only [RepV] at r1;exact⟨k,r1,go_bl s1 (go.mono x1)⟩
 |_=>cases e
theorem Znc (ha:PT X a (LT X.K ma)):PT X (.UnaryOp .Not a pos) (LT X.K fun e S=>(ma e S).bind fun x S1=>(match x with| .bl k=>.ok (.bl (!k)) S1|_=>.no)):=by
 intro pins s σ H Q I h
 obtain⟨env,S,β,d,S',rn,rs,e,go⟩:=h
 obtain⟨x,S1,e1,e⟩:=Res.bind_is e
 cases x with
 |bl k=>cases e;exact Zmy ha pins s σ H Q I ⟨env,S,β,k,_,rn,rs,e1,fun H' β' x s=>go _ _ x s⟩
 |_=>cases e
theorem ZjX (ha:PE X a (LE X.K ma)):PE X (.UnaryOp .USub a pos) (LE X.K fun e S=>(ma e S).bind fun x S1=>(match x with| .int i=>.ok (.int (-i)) S1|_=>.no)):=by
 intro pins s σ H Q I h
 obtain⟨env,S,β,d,S',rn,rs,e,go⟩:=h
 obtain⟨x,S1,e1,e⟩:=Res.bind_is e
 refine pe_un Zmb ha pins s σ H Q I ⟨env,S,β,x,S1,rn,rs,e1,fun v1 H1 β1 x1 r1 s1=>?_⟩
 cases x with
 |int k=>cases e;simp only [RepV] at r1;exact⟨k,r1,Zaz s1 (go.mono x1)⟩
 |_=>cases e
theorem ZnI {rest:List Expr} (ha:PE X a (LE X.K ma)) (hb:PE X (.BoolOp .And (b::rest) pos) (LE X.K mb)):PE X (.BoolOp .And (a::b::rest) pos) (LE X.K fun e S=>(ma e S).bind fun x S1=>(match x with| .bl true=>mb e S1| .bl false=>.ok (.bl false) S1|_=>.no)):=by
 intro pins s σ H Q I h
 obtain⟨env,S,β,d,S',rn,rs,e,go⟩:=h
 obtain⟨x,S1,e1,e⟩:=Res.bind_is e
 refine ZmN ha hb pins s σ H Q I ⟨env,S,β,x,S1,rn,rs,e1,fun v1 H1 β1 x1 r1 s1=>?_⟩
 cases x with
 |bl k=>
  simp only [RepV] at r1
  refine⟨k,r1,?_⟩
  cases k with
  |true=>rw [if_pos rfl];exact⟨env,S1,β1,d,S',rn.mono x1,s1,e,go.mono x1⟩
  |false=>cases e;rw [if_neg Yal];exact go_bl s1 (go.mono x1)
 |_=>cases e
theorem le_or {rest:List Expr} (ha:PE X a (LE X.K ma)) (hb:PE X (.BoolOp .Or (b::rest) pos) (LE X.K mb)):PE X (.BoolOp .Or (a::b::rest) pos) (LE X.K fun e S=>(ma e S).bind fun x S1=>(match x with| .bl true=>.ok (.bl true) S1| .bl false=>mb e S1|_=>.no)):=by
 intro pins s σ H Q I h
 obtain⟨env,S,β,d,S',rn,rs,e,go⟩:=h
 obtain⟨x,S1,e1,e⟩:=Res.bind_is e
 refine pe_or ha hb pins s σ H Q I ⟨env,S,β,x,S1,rn,rs,e1,fun v1 H1 β1 x1 r1 s1=>?_⟩
 cases x with
 |bl k=>
  simp only [RepV] at r1
  refine⟨k,r1,?_⟩
  cases k with
  |true=>cases e;rw [if_pos rfl];exact go_bl s1 (go.mono x1)
  |false=>rw [if_neg Yal];exact⟨env,S1,β1,d,S',rn.mono x1,s1,e,go.mono x1⟩
 |_=>cases e
theorem Zna {rest:List Expr} (ha:PT X a (LT X.K ma)) (hb:PW X (.BoolOp .And (b::rest) pos) (LT X.K mb)):PW X (.BoolOp .And (a::b::rest) pos) (LT X.K fun e S=>(ma e S).bind fun x S1=>(match x with| .bl true=>mb e S1| .bl false=>.ok (.bl false) S1|_=>.no)):=by
 intro wh pins s σ H Q I h
 obtain⟨env,S,β,d,S',rn,rs,e,go⟩:=h
 obtain⟨x,S1,e1,e⟩:=Res.bind_is e
 cases x with
 |bl k=>
  refine Zmx ha hb wh pins s σ H Q I ⟨env,S,β,k,S1,rn,rs,e1,fun H1 β1 x1 s1=>?_⟩
  cases k with
  |true=>rw [if_pos rfl];exact⟨env,S1,β1,d,S',rn.mono x1,s1,e,fun H' β' x s=>go _ _ (x1.trans x) s⟩
  |false=>cases e;rw [if_neg Yal];exact go _ _ x1 s1
 |_=>cases e
theorem lw_or {rest:List Expr} (ha:PT X a (LT X.K ma)) (hb:PW X (.BoolOp .Or (b::rest) pos) (LT X.K mb)):PW X (.BoolOp .Or (a::b::rest) pos) (LT X.K fun e S=>(ma e S).bind fun x S1=>(match x with| .bl true=>.ok (.bl true) S1| .bl false=>mb e S1|_=>.no)):=by
 intro wh pins s σ H Q I h
 obtain⟨env,S,β,d,S',rn,rs,e,go⟩:=h
 obtain⟨x,S1,e1,e⟩:=Res.bind_is e
 cases x with
 |bl k=>
  refine pw_or ha hb wh pins s σ H Q I ⟨env,S,β,k,S1,rn,rs,e1,fun H1 β1 x1 s1=>?_⟩
  cases k with
  |true=>cases e;rw [if_pos rfl];exact go _ _ x1 s1
  |false=>rw [if_neg Yal];exact⟨env,S1,β1,d,S',rn.mono x1,s1,e,fun H' β' x s=>go _ _ (x1.trans x) s⟩
 |_=>cases e
theorem Zmd {K:Yab} {H:Hp} {β:List Addr} {S:Sto} {d:D} {v:V} {k:Bool} (r:RepV K H β d v) (rs:RepS K H β S) (h:truD d S=some k):TruV K v H k:=by
 cases d with
 |non=>simp only [RepV] at r;subst r;simp only [truD] at h;cases h;rfl
 |bl b=>simp only [RepV] at r;subst r;simp only [truD] at h;cases h;rfl
 |int i=>simp only [RepV] at r;subst r;simp only [truD] at h;cases h;rfl
 |tup ds=>
  simp only [RepV] at r
  obtain⟨a,xs,rfl,q,l⟩:=r
  simp only [truD] at h
  cases h
  refine .inr (.inl ⟨xs,q,?_⟩)
  have:=l.length
  cases ds<;>cases xs<;>simp_all
 |obj n=>
  simp only [RepV] at r
  obtain⟨a,rfl,hb,_⟩:=r
  simp only [truD] at h
  cases hl:lsOf S n with
  |none=>rw [hl] at h;cases h
  |some ds=>
   rw [hl] at h
   cases h
   obtain⟨xs,q,l⟩:=rs.ls hb hl
   refine .inl ⟨xs,q,?_⟩
   have:=l.length
   cases ds<;>cases xs<;>simp_all
 |_=>cases h
theorem Znb (ha:PE X a (LE X.K ma)) (he:∀whole,isTrue a X.env whole=(do let v←whole;standAt a.pos;holding [v] (truthy v))):
  PT X a (LT X.K fun e S=>(ma e S).bind fun x S1=>(match truD x S1 with|some k=>.ok (.bl k) S1|none=>.no)):=by
 intro pins s σ H Q I h
 obtain⟨env,S,β,k,S',rn,rs,e,go⟩:=h
 obtain⟨x,S1,e1,e⟩:=Res.bind_is e
 refine ZiS ha he pins s σ H Q I ⟨env,S,β,x,S1,rn,rs,e1,fun v1 H1 β1 x1 r1 s1=>?_⟩
 try dsimp only at e
 split at e
 ·rename_i k' hk
  cases e
  exact⟨k,Zmd r1 s1 hk,go _ _ x1 s1⟩
 ·cases e
theorem Znx (hc:PT X c (LT X.K mc)) (ha:PE X a (LE X.K ma)) (hb:PE X b (LE X.K mb)):PE X (.IfExp c a b pos) (LE X.K fun e S=>(mc e S).bind fun x S1=>(match x with| .bl true=>ma e S1| .bl false=>mb e S1|_=>.no)):=by
 intro pins s σ H Q I h
 obtain⟨env,S,β,d,S',rn,rs,e,go⟩:=h
 obtain⟨x,S1,e1,e⟩:=Res.bind_is e
 cases x with
 |bl k=>
  refine Zi1 hc ha hb pins s σ H Q I ⟨env,S,β,k,S1,rn,rs,e1,fun H1 β1 x1 s1=>?_⟩
  cases k with
  |true=>rw [if_pos rfl];exact⟨env,S1,β1,d,S',rn.mono x1,s1,e,go.mono x1⟩
  |false=>rw [if_neg Yal];exact⟨env,S1,β1,d,S',rn.mono x1,s1,e,go.mono x1⟩
 |_=>cases e
theorem ZnK:PA X [] (LA X.K fun _ S=>.ok (.tup []) S):=by
 intro p pins s σ H Q I h
 obtain⟨env,S,β,ds,S',rn,rs,e,go⟩:=h
 cases e
 exact Zdr p pins s σ H Q I (go [] _ _ Ex.refl (by simp [RepL]) rs)
theorem ZlD (ha:PE X a (LE X.K ma)) (hb:PA X es (LA X.K mb)) (hs:starEach (a::es) X.env=(false,eval a X.env)::starEach es X.env):
  PA X (a::es) (LA X.K fun e S=>(ma e S).bind fun x S1=>(mb e S1).bind fun y S2=>(match y with| .tup ys=>.ok (.tup (x::ys)) S2|_=>.no)):=by
 intro p pins s σ H Q I h
 obtain⟨env,S,β,ds,S',rn,rs,e,go⟩:=h
 obtain⟨x,S1,e1,e⟩:=Res.bind_is e
 obtain⟨y,S2,e2,e⟩:=Res.bind_is e
 cases y with
 |tup ys=>
  cases e
  exact Zcc ha hb hs p pins s σ H Q I ⟨env,S,β,x,S1,rn,rs,e1,fun v1 H1 β1 x1 r1 s1=>⟨env,S1,β1,ys,_,rn.mono x1,s1,e2,fun vs H2 β2 x2 r2 s2=>go _ _ _ (x1.trans x2) (RepL.cons (r1.mono x2) r2) s2⟩⟩
 |_=>cases e
theorem Znr {k:Nat} (h:PA X es (LA X.K m)):PE X (.Tuple es k pos) (LE X.K fun e S=>(m e S).bind fun y S1=>(match y with| .tup ys=>if ys.length≤100000 then .ok (.tup ys) S1 else .no|_=>.no)):=by
 intro pins s σ H Q I hq
 obtain⟨env,S,β,d,S',rn,rs,e,go⟩:=hq
 obtain⟨y,S1,e1,e⟩:=Res.bind_is e
 cases y with
 |tup ys=>
  try dsimp only at e
  split at e
  ·rename_i hl
   cases e
   exact ZmI h pins s σ H Q I ⟨env,S,β,ys,_,rn,rs,e1,fun vs H1 β1 x1 r1 s1=>⟨ZcZ (by rw [←r1.length];exact hl),fun p hp=>Zc2 s1 hp r1 (go.mono x1)⟩⟩
  ·cases e
 |_=>cases e
theorem Znw (h:PA X es (LA X.K m)):PE X (.List es pos) (LE X.K fun e S=>(m e S).bind fun y S1=>(match y with| .tup ys=>if ys.length≤100000 then .ok (.obj S1.length) (S1++[.lst ys]) else .no|_=>.no)):=by
 intro pins s σ H Q I hq
 obtain⟨env,S,β,d,S',rn,rs,e,go⟩:=hq
 obtain⟨y,S1,e1,e⟩:=Res.bind_is e
 cases y with
 |tup ys=>
  try dsimp only at e
  split at e
  ·rename_i hl
   cases e
   exact ZmL h pins s σ H Q I ⟨env,S,β,ys,S1,rn,rs,e1,fun vs H1 β1 x1 r1 s1=>⟨ZcZ (by rw [←r1.length];exact hl),fun p hp=>Zc3 s1 hp r1 (go.mono x1)⟩⟩
  ·cases e
 |_=>cases e
noncomputable def rIxD (K:Yab):R2:=fun x y H Q=>∃β S dx dy d S',RepV K H β dx x∧RepV K H β dy y∧RepS K H β S∧idxD dx dy S=.ok d S'∧Go K H β S' d Q
theorem Zkh {K:Yab} {H:Hp} {β:List Addr} {ds:List D} {xs:List V} {i:Int} {d:D} (l:RepL K H β ds xs) (h:((L2.ixN ds.length i).bind fun j=>ds[j]?)=some d):∃v,atI xs i=some v∧RepV K H β d v:=by
 unfold atI
 rw [←l.length]
 cases hn:ixN ds.length i with
 |none=>rw [hn] at h;cases h
 |some j=>
  rw [hn] at h
  obtain⟨x,e,r⟩:=l.get (show ds[j]?=some d from h)
  exact⟨x,e,r⟩
theorem ixRD:IxR X (rIxD X.K):=by
 intro value slice pins s σ H x y v u Q I rx ry h hs
 obtain⟨β,S,dx,dy,d,S',r1,r2,rs,e,go⟩:=h
 cases dy with
 |int i=>
  simp only [RepV] at r2
  subst r2
  cases dx with
  |tup ds=>
   simp only [RepV] at r1
   obtain⟨a,xs,rfl,q,l⟩:=r1
   simp only [idxD] at e
   split at e
   ·rename_i d' hd
    cases e
    obtain⟨w,e1,r⟩:=Zkh l hd
    exact ZnS value slice pins s σ H _ _ v u Q I rx ry ⟨a,xs,i,w,rfl,rfl,q,e1,go _ _ _ Ex.refl r rs⟩ hs
   ·cases e
  |obj n=>
   simp only [RepV] at r1
   obtain⟨a,rfl,hb,_⟩:=r1
   simp only [idxD] at e
   cases hl:lsOf S n with
   |none=>rw [hl] at e;cases e
   |some ds=>
    rw [hl] at e
    obtain⟨xs,q,l⟩:=rs.ls hb hl
    try dsimp only at e
    split at e
    ·rename_i d' hd
     cases e
     obtain⟨w,e1,r⟩:=Zkh l hd
     exact ZlF value slice pins s σ H _ _ v u Q I rx ry ⟨a,xs,i,w,rfl,rfl,q,e1,go _ _ _ Ex.refl r rs⟩ hs
    ·cases e
  |_=>cases e
 |_=>cases dx<;>cases e
theorem Zny (ha:PE X a (LE X.K ma)) (hb:PE X b (LE X.K mb)) (hs:ZeY b):PE X (.Subscript a b pos) (LE X.K fun e S=>(ma e S).bind fun x S1=>(mb e S1).bind fun y S2=>idxD x y S2):=by
 intro pins s σ H Q I h
 obtain⟨env,S,β,d,S',rn,rs,e,go⟩:=h
 obtain⟨x,S1,e1,e⟩:=Res.bind_is e
 obtain⟨y,S2,e2,e⟩:=Res.bind_is e
 exact pe_ix ixRD ha hb hs pins s σ H Q I ⟨env,S,β,x,S1,rn,rs,e1,fun v1 H1 β1 x1 r1 s1=>⟨env,S1,β1,y,S2,rn.mono x1,s1,e2,fun v2 H2 β2 x2 r2 s2=>⟨β2,S2,x,y,d,S',r1.mono x2,r2,s2,e,go.mono (x1.trans x2)⟩⟩⟩
theorem keyV {K:Yab} {H:Hp} {β:List Addr} {d:D} {k:Key} {v:V} (h:keyD d=some k) (r:RepV K H β d v):v=kV k:=by
 cases d with
 |int i=>cases h;simp only [RepV] at r;exact r
 |str x=>cases h;simp only [RepV] at r;exact r
 |_=>cases h
theorem dw_of {K:Yab} {H:Hp} {β:List Addr} {S:Sto} {n:Nat} {a:Addr} {kvs:List (Key×D)} (R:RepS K H β S) (hb:β[n]?=some a) (h:dwOf S n=some kvs):S[n]?=some (.dct kvs)∧∃vs,H a=some (.dK vs)∧ZK (RepV K H β) kvs vs:=by
 unfold dwOf at h
 split at h
 ·rename_i xs e
  cases h
  exact⟨e,R.cell n a _ hb e⟩
 ·cases h
theorem dc_of {K:Yab} {H:Hp} {β:List Addr} {S:Sto} {n:Nat} {a:Addr} {kvs:List (Key×D)} (R:RepS K H β S) (hb:β[n]?=some a) (h:dcOf S n=some kvs):∃vs,Rd H a (.dK vs)∧ZK (RepV K H β) kvs vs:=by
 unfold dcOf at h
 split at h
 ·rename_i xs e
  cases h
  obtain⟨vs,q,r⟩:=R.cell n a _ hb e
  exact⟨vs,.inl q,r⟩
 ·rename_i xs e
  cases h
  obtain⟨vs,⟨o,q⟩,r⟩:=R.cell n a _ hb e
  exact⟨vs,.inr ⟨o,q⟩,r⟩
 ·cases h
noncomputable def rDixD (K:Yab):R2:=fun x y H Q=>∃β S dx dy d S',RepV K H β dx x∧RepV K H β dy y∧RepS K H β S∧dixD dx dy S=.ok d S'∧Go K H β S' d Q
theorem ixDD:IxR X (rDixD X.K):=by
 intro value slice pins s σ H x y v u Q I rx ry h hs
 obtain⟨β,S,dx,dy,d,S',r1,r2,rs,e,go⟩:=h
 cases dx with
 |dic n=>
  simp only [RepV] at r1
  obtain⟨a,rfl,hb⟩:=r1
  simp only [dixD] at e
  split at e
  ·rename_i d' hd
   cases e
   obtain⟨k,hk,hd⟩:=Yaa.mp hd
   obtain⟨kvs,hc,hd⟩:=Yaa.mp hd
   obtain⟨vs,q,r⟩:=dc_of rs hb hc
   obtain⟨w,ew,rw'⟩:=r.lk hd
   exact ZlG value slice pins s σ H _ _ v u Q I rx ry ⟨a,vs,k,w,rfl,keyV hk r2,q,ew,go _ _ _ Ex.refl rw' rs⟩ hs
  ·cases e
 |_=>cases e
theorem ZnA (ha:PE X a (LE X.K ma)) (hb:PE X b (LE X.K mb)) (hs:ZeY b):PE X (.Subscript a b pos) (LE X.K fun e S=>(ma e S).bind fun x S1=>(mb e S1).bind fun y S2=>dixD x y S2):=by
 intro pins s σ H Q I h
 obtain⟨env,S,β,d,S',rn,rs,e,go⟩:=h
 obtain⟨x,S1,e1,e⟩:=Res.bind_is e
 obtain⟨y,S2,e2,e⟩:=Res.bind_is e
 exact pe_ix ixDD ha hb hs pins s σ H Q I ⟨env,S,β,x,S1,rn,rs,e1,fun v1 H1 β1 x1 r1 s1=>⟨env,S1,β1,y,S2,rn.mono x1,s1,e2,fun v2 H2 β2 x2 r2 s2=>⟨β2,S2,x,y,d,S',r1.mono x2,r2,s2,e,go.mono (x1.trans x2)⟩⟩⟩
noncomputable def LO (K:Yab) (m:M):TO:=fun σ H Q=>∃env S β d o S',RepN K H β env σ∧RepS K H β S∧m env S=.ok d S'∧partD d=some o∧∀H' β',Ex K H β H' β'→RepS K H' β' S'→Q o H'
theorem Zlq:PO X none (LO X.K fun _ S=>.ok .non S):=by
 intro pins s σ H Q I h
 obtain⟨env,S,β,d,o,S',rn,rs,e,p,go⟩:=h
 cases e
 cases p
 exact ZkK pins s σ H Q I (go _ _ Ex.refl rs)
theorem Zlp (ha:PE X a (LE X.K ma)):PO X (some a) (LO X.K fun e S=>(ma e S).bind fun x S1=>(match x with| .int i=>.ok (.int i) S1|_=>.no)):=by
 intro pins s σ H Q I h
 obtain⟨env,S,β,d,o,S',rn,rs,e,p,go⟩:=h
 obtain⟨x,S1,e1,e⟩:=Res.bind_is e
 refine ZkJ ha pins s σ H Q I ⟨env,S,β,x,S1,rn,rs,e1,fun v1 H1 β1 x1 r1 s1=>?_⟩
 cases x with
 |int i=>simp only [RepV] at r1;cases e;cases p;exact⟨i,r1,go _ _ x1 s1⟩
 |_=>cases e
noncomputable def rSlD (K:Yab):V→Option Int→Option Int→Hp→VK→Prop:=fun x lo hi H Q=>∃β S dx d S',RepV K H β dx x∧RepS K H β S∧slcD dx lo hi S=.ok d S'∧Go K H β S' d Q
theorem Zkd {K:Yab} {H:Hp} {β:List Addr} {ds:List D} {xs:List V} {lo hi:Option Int} (l:RepL K H β ds xs):RepL K H β (cutD ds lo hi) (cutV xs lo hi):=by
 unfold cutD cutV
 rw [l.length]
 exact(l.drop _).take _
theorem ZeM {prog:Program} {w:World} {A:Around} {E:Value→Shared→Prop} {s:Shared} {t sl:Addr} {items:Array Value} {vl vu:Value} {lo hi:Option Int} {Q:Value→Shared→Prop} (ht:IsTup s.heap t items) (hs:s.heap.IsSliceOf sl vl vu .none) (pl:IsPart vl lo) (pu:IsPart vu hi)
  (hw:HT.sIx items.size 0 lo=0∧HT.sIx items.size items.size hi=items.size)
  (h:Q (.ref t) s):wpAny (model prog w) A (getItem (.ref t) (.ref sl)) Q E s:=by
 obtain⟨os,hos,hcs,hds⟩:=id hs
 have hTs:s.TypeIs (.ref sl) "slice" :=⟨os,hos,hcs⟩
 unfold getItem
 try with_reducible refine wpAny_holding ?_
 first|refine wpAny_bind (wpAny_pure ?_)|skip
 refine wpAny_bind (wpAny_sequenceKey ht.typeIs (by decide) ?_)
 refine wpAny_bind (wpAny_callSpecial?_slot (name:=Str.ofString "__getitem__") ht.typeIs YaE
  (wpAny_call_entry YaE ht.typeIs entry_tuple_getitem ?_ (args_tuple_getitem _ _)))
 show wpAny _ _ (Builtin.Tuple.tupleItemsOf (.ref t)>>=_) _ _ s
 refine wpAny_bind (tupleItemsOf_ ht ?_)
 refine wpAny_bind (wpAny_typeOf hTs ?_)
 rw [if_pos (by decide)]
 refine wpAny_bind (HT.ZbG hs pl pu ?_)
 have hyes:((((HT.sIx items.size 0 lo:Nat):Int)==0&&(1:Int)==1&&(HT.sIx items.size items.size hi-HT.sIx items.size 0 lo)==items.size)=true):=by
  rw [hw.1,hw.2];simp
 show wpAny _ _ (if (((HT.sIx items.size 0 lo:Nat):Int)==0&&(1:Int)==1&&(HT.sIx items.size items.size hi-HT.sIx items.size 0 lo)==items.size)=true then _ else _) _ _ s
 rw [if_pos hyes]
 refine wpAny_bind (wpAny_bind (wpAny_typeOf ht.typeIs (wpAny_pure ?_)))
 rw [if_pos (by decide)]
 exact wpAny_bind (wpAny_rule (wpAny_pure ⟨_,rfl,wpAny_pure h⟩))
theorem slD:SlR X (rSlD X.K):=by
 intro pins s σ H x v vl vu lo hi sl Q I rx hs pl pu h
 obtain⟨β,S,dx,d,S',r1,rs,e,go⟩:=h
 cases dx with
 |tup ds=>
  simp only [RepV] at r1
  obtain⟨a,xs,rfl,q,l⟩:=r1
  simp only [slcD] at e
  cases e
  by_cases hw:HT.sIx ds.length 0 lo=0∧HT.sIx ds.length ds.length hi=ds.length
  ·cases rx
   obtain⟨its,r,ht,hz⟩:=I.tuple q
   have hlen:its.toArray.size=ds.length:=by rw [Yag,l.length];exact r.length.symm
   refine⟨"tuple",_,YaE.lookup,ht.typeIs,?_⟩
   refine ZeM ht hs pl pu (by rw [hlen];exact hw) ⟨.ref a,H,I,rfl,go _ _ _ Ex.refl ?_ rs⟩
   have hc:cutD ds lo hi=ds:=by unfold cutD;rw [hw.1,hw.2];simp
   rw [hc]
   simp only [RepV]
   exact⟨a,xs,rfl,q,l⟩
  ·rw [l.length] at hw
   exact Zmm pins s σ H _ v vl vu lo hi sl Q I rx hs pl pu ⟨a,xs,rfl,q,hw,fun p hp=>Zc2 rs hp (Zkd l) go⟩
 |obj n=>
  simp only [RepV] at r1
  obtain⟨a,rfl,hb,_⟩:=r1
  simp only [slcD] at e
  cases hl:lsOf S n with
  |none=>rw [hl] at e;cases e
  |some ds=>
   rw [hl] at e
   cases e
   obtain⟨xs,q,l⟩:=rs.ls hb hl
   exact Zkw pins s σ H _ v vl vu lo hi sl Q I rx hs pl pu ⟨a,xs,rfl,q,fun p hp=>Zc3 rs hp (Zkd l) go⟩
 |str z=>
  replace e:(if z.length≤100000 then Res.ok (D.str (PySem.Txt.slice z lo hi)) S else .no)=.ok d S':=e
  split at e
  ·rename_i hz
   cases e
   simp only [RepV] at r1
   subst r1
   exact Zmn pins s σ H _ v vl vu lo hi sl Q I rx hs pl pu ⟨z,rfl,ZcZ hz,go _ _ _ Ex.refl (by simp only [RepV]) rs⟩
  ·cases e
 |_=>cases e
theorem Znt {lo hi:Option Expr} {p2:Pos} (ha:PE X a (LE X.K ma)) (hl:PO X lo (LO X.K mb)) (hh:PO X hi (LO X.K mc)):PE X (.Subscript a (.Slice lo hi none p2) pos)
  (LE X.K fun e S=>(ma e S).bind fun x S1=>(mb e S1).bind fun l S2=>(mc e S2).bind fun h S3=>(match partD l,partD h with|some l',some h'=>slcD x l' h' S3|_,_=>.no)):=by
 intro pins s σ H Q I h
 obtain⟨env,S,β,d,S',rn,rs,e,go⟩:=h
 obtain⟨x,S1,e1,e⟩:=Res.bind_is e
 obtain⟨y,S2,e2,e⟩:=Res.bind_is e
 obtain⟨z,S3,e3,e⟩:=Res.bind_is e
 try dsimp only at e
 split at e
 ·rename_i l' h' hp1 hp2
  exact Zi0 slD ha hl hh pins s σ H Q I ⟨env,S,β,x,S1,rn,rs,e1,fun v1 H1 β1 x1 r1 s1=>⟨env,S1,β1,y,l',S2,rn.mono x1,s1,e2,hp1,fun H2 β2 x2 s2=>
   ⟨env,S2,β2,z,h',S3,rn.mono (x1.trans x2),s2,e3,hp2,fun H3 β3 x3 s3=>⟨β3,S3,x,d,S',r1.mono (x2.trans x3),s3,e,go.mono ((x1.trans x2).trans x3)⟩⟩⟩⟩
 ·cases e
theorem ZiK {α:Type} (k:Nat) (l:List α):(strd k l).length≤l.length:=by
 unfold strd
 refine YaC (List.length_filterMap_le _ _) ?_
 rw [Yak,List.length_range]
 cases k with
 |zero=>simp
 |succ k=>
  cases hl:l.length with
  |zero=>rw [Nat.div_eq_of_lt (by omega)];exact Yad 0
  |succ n=>
   refine Nat.div_le_of_le_mul ?_
   have:(k+1)*(n+1)=k*n+k+n+1:=by rw [Nat.add_mul,Nat.mul_add];omega
   omega
theorem ZdV (its:List Value) {i:Int} (hi:0<i):slicePick its.toArray none none (some i)=(strd i.toNat its).toArray:=by
 obtain⟨k,rfl⟩:∃k:Nat,i=(k:Int):=⟨i.toNat,by omega⟩
 have hk:0<k:=by omega
 unfold slicePick sliceBounds sliceRange strd
 simp only [Option.getD_some,hi,gt_iff_lt,if_true,YaY,Yag]
 congr 1
 have e:(if (0:Int)<(its.length:Int) then ((its.length:Int) -0+(k:Int) -1) / (k:Int) else 0).toNat=(its.length+k-1) / k:=by
  split
  ·rw [show ((its.length:Int) -0+(k:Int) -1)=((its.length+k-1:Nat):Int) by omega,←Int.natCast_ediv,YaY]
  ·rw [show its.length=0 by omega,Nat.div_eq_of_lt (by omega)];rfl
 rw [e]
 have e2:(fun(j:Nat)=>((0:Int)+(k:Int)*(j:Int)).toNat)=(k* ·):=by funext j;rw [Int.zero_add,←YbT,YaY]
 rw [e2]
 congr 1
 funext j
 simp
theorem Zgg {α β:Type} {R:α→β→Prop} {l:List α} {r:List β} (hl:l.length=r.length) (h:∀(j:Nat) a b,l[j]?=some a→r[j]?=some b→R a b) (k:Nat):∃f:List (α×β),strd k l=f.map (·.1)∧strd k r=f.map (·.2)∧∀x∈f,R x.1 x.2:=by
 unfold strd
 rw [hl]
 generalize ((Yau ((r.length+k-1) / k)).map (k* ·))=js
 induction js with
 |nil=>exact⟨[],rfl,rfl,by simp⟩
 |cons j js ih=>
  obtain⟨f,e1,e2,h1⟩:=ih
  rw [Ya0,Ya0]
  cases hj:l[j]? with
  |none=>
   have:r[j]?=none:=YaM.mpr (by have:=YaM.mp hj;omega)
   rw [this]
   exact⟨f,e1,e2,h1⟩
  |some a=>
   have hlt:=(Yac.mp hj).1
   have hb:r[j]?=some (r[j]'(by omega)):=Yaf _
   rw [hb]
   refine⟨(a,r[j]'(by omega))::f,by simp [e1],by simp [e2],fun x hx=>?_⟩
   rcases YaB.mp hx with rfl|hx
   ·exact h j _ _ hj hb
   ·exact h1 x hx
theorem Zhm {vs:List V} {us:List Value} (r:Vals vs us) (k:Nat):Vals (strd k vs) (strd k us):=by
 obtain⟨f,e1,e2,h⟩:=Zgg (R:=RelV) r.length (fun j a b ha hb=>by obtain⟨u,hu,q⟩:=r.get ha;rw [hb] at hu;cases hu;exact q) k
 rw [e1,e2]
 clear e1 e2
 induction f with
 |nil=>exact .nil
 |cons x f ih=>exact .cons (h x Yaw) (ih fun y hy=>h y (Yas _ hy))
theorem RepL.strd {K:Yab} {H:Hp} {β:List Addr} {ds:List D} {xs:List V} (l:RepL K H β ds xs) (k:Nat):RepL K H β (Py.strd k ds) (Py.strd k xs):=by
 obtain⟨f,e1,e2,h⟩:=Zgg (R:=RepV K H β) l.length (fun j a b ha hb=>by obtain⟨u,hu,q⟩:=l.get ha;rw [hb] at hu;cases hu;exact q) k
 rw [e1,e2]
 clear e1 e2
 induction f with
 |nil=>simp [RepL]
 |cons x f ih=>exact RepL.cons (h x Yaw) (ih fun y hy=>h y (Yas _ hy))
theorem Zns {i:Int} {kk:Nat} {p1 p2:Pos} (hi:0<i) (ha:PE X a (LE X.K ma)):PE X (.Subscript a (.Slice none none (some (.Constant (.int i) kk p1)) p2) pos) (LE X.K fun e S=>(ma e S).bind fun x S1=>stpD i.toNat x S1):=by
 intro pins s σ H Q I h
 obtain⟨env,S,β,d,S',rn,rs,e,go⟩:=h
 obtain⟨x,S1,e1,e⟩:=Res.bind_is e
 refine Subscript_ (thn (ha pins s σ H _ I ⟨env,S,β,x,S1,rn,rs,e1,fun v H' β' x1 r1 s1=>(show (fun v H'=>∃β',Ex X.K H β H' β'∧RepV X.K H' β' x v∧RepS X.K H' β' S1) v H' from ⟨β',x1,r1,s1⟩)⟩) ?_)
 rintro v s1 ⟨y,H1,I1,ry,β1,x1,r1,rs1⟩
 refine wpAny_Slice ?_
 rw [evalPart_none]
 refine wpAny_pure ?_
 refine wpAny_pure ?_
 rw [evalPart_some]
 refine wpAny_Constant_int ?_
 have I4:Inv X pins σ H1 {s1 with heap:=s1.heap.push {cls:=.type "slice",data:=.fields #[.none,.none,.int i s1.toks]},toks:=s1.toks+1}:=I1.kept (t':=s1.toks+1) fun b ob q=>Yae _ q
 cases x with
 |obj n=>
  simp only [RepV] at r1
  obtain⟨b,rfl,hb,_⟩:=r1
  simp only [stpD] at e
  cases hl:lsOf S1 n with
  |none=>rw [hl] at e;cases e
  |some ds=>
   rw [hl] at e
   cases e
   obtain⟨xs,q,l⟩:=rs1.ls hb hl
   cases ry
   obtain⟨its,r,ht,hz⟩:=I4.list q
   have hlen:=r.length
   show wpAny (model X.prog X.w) X.A (subscriptTail a (.Slice none none (some (.Constant (.int i) kk p1)) p2) (.ref b) (.ref s1.heap.objs.size)) (EP X pins σ Q) X.xe {s1 with heap:=s1.heap.push {cls:=.type "slice",data:=.fields #[.none,.none,.int i s1.toks]},toks:=s1.toks+1}
   refine tail_any (ops:=[.ref b,.ref s1.heap.objs.size]) ht.isList.typeIs slot_list_getitem.lookup ?_ (by with_unfolding_all rfl)
   refine wpAny_getItem_list_slice ht.isList (Heap.IsSliceOf.new ..) .none .none (.int i s1.toks) (by intro z;cases z;omega) ?_ (by rw [Yag]<;>omega)
   rw [ZdV its hi]
   have hp:=I4.hok.fresh (Yad _)
   refine⟨.ref _,_,I4.laid (t':=s1.toks+1) (o:=.lst (strd i.toNat xs)) (fun b ob q=>Yae _ q) (Yad _) ?_,rfl,?_⟩
   ·exact⟨YaC (ZiK _ _) hz,_,0,Zhm r _,Yaz _ rfl⟩
   ·exact go _ _ _ (x1.trans (Ex.newL hp)) (by simp only [RepV];exact⟨_,rfl,by rw [←rs1.len,Yav (Yad _)];simp,_,SqL.of Zaq⟩) (rs1.newL hp (l.strd _))
 |_=>cases e
theorem RepL.rev {K:Yab} {H:Hp} {β:List Addr}:∀{ds:List D} {xs:List V},RepL K H β ds xs→RepL K H β ds.reverse xs.reverse
 | [],xs,h=>by rw [RepL.nil_iff] at h;subst h;simp [RepL]
 |d::ds,xs,h=>by
  simp only [RepL] at h
  obtain⟨x,r,rfl,h1,h2⟩:=h
  rw [YbL,YbL]
  exact(RepL.rev h2).append (RepL.cons h1 (by simp [RepL]))
theorem ZiI {vs:List V} {us:List Value} (r:Vals vs us):Vals vs.reverse us.reverse:=by
 induction r with
 |nil=>exact .nil
 |cons a b ih=>rw [YbL,YbL];exact ih.append (.cons a .nil)
theorem Znu {kk:Nat} {p1 p2 p3:Pos} (ha:PE X a (LE X.K ma)):PE X (.Subscript a (.Slice none none (some (.UnaryOp .USub (.Constant (.int 1) kk p1) p3)) p2) pos) (LE X.K fun e S=>(ma e S).bind fun x S1=>revD x S1):=by
 intro pins s σ H Q I h
 obtain⟨env,S,β,d,S',rn,rs,e,go⟩:=h
 obtain⟨x,S1,e1,e⟩:=Res.bind_is e
 refine Subscript_ (thn (ha pins s σ H _ I ⟨env,S,β,x,S1,rn,rs,e1,fun v H' β' x1 r1 s1=>(show (fun v H'=>∃β',Ex X.K H β H' β'∧RepV X.K H' β' x v∧RepS X.K H' β' S1) v H' from ⟨β',x1,r1,s1⟩)⟩) ?_)
 rintro v s1 ⟨y,H1,I1,ry,β1,x1,r1,rs1⟩
 refine wpAny_Slice ?_
 rw [evalPart_none]
 refine wpAny_pure ?_
 refine wpAny_pure ?_
 rw [evalPart_some]
 refine thn (ZjX (ma:=fun _ S=>.ok (.int 1) S) (Zdt (d:=.int 1) ZhH fun _ _=>by simp only [RepV]) pins s1 σ H1 _ I1 ⟨env,S1,β1,.int (-1),S1,rn.mono x1,rs1,rfl,fun w H' β' x2 r2 s2=>(show (fun w H'=>∃β',w=.int (-1)∧Ex X.K H1 β1 H' β'∧RepS X.K H' β' S1) w H' from ⟨β',by simpa only [RepV] using r2,x2,s2⟩)⟩) ?_
 rintro u s2 ⟨w,H2,I2,rw',β2,hw,x2,rs2⟩
 subst hw
 obtain⟨t,rfl⟩:=rw'
 have I4:Inv X pins σ H2 {s2 with heap:=s2.heap.push {cls:=.type "slice",data:=.fields #[.none,.none,.int (-1) t]}}:=I2.kept (t':=s2.toks) fun b ob q=>Yae _ q
 cases x with
 |tup ds=>
  cases e
  replace r1:=r1.mono x2
  simp only [RepV] at r1
  obtain⟨b,xs,rfl,q,l⟩:=r1
  cases ry
  obtain⟨its,r,ht,hz⟩:=I4.tuple q
  show wpAny (model X.prog X.w) X.A (subscriptTail a _ (.ref b) (.ref s2.heap.objs.size)) (EP X pins σ Q) X.xe _
  refine tail_any (ops:=[.ref b,.ref s2.heap.objs.size]) ht.typeIs YaE.lookup ?_ (by with_unfolding_all rfl)
  refine ZcN ht (Heap.IsSliceOf.new ..) ?_ (by rw [Yag,←r.length];exact hz)
  have hp:=I4.hok.fresh (Yad _)
  refine⟨.ref _,_,I4.tnew (t':=s2.toks) (ZiI r) (by rw [List.length_reverse];exact hz),rfl,?_⟩
  exact Zc2 rs2 hp l.rev (go.mono (x1.trans x2))
 |_=>cases e
noncomputable def rUppD (K:Yab):V→List V→Hp→VK→Prop:=fun x vs H Q=>∃β S dx d S',vs=[]∧RepV K H β dx x∧RepS K H β S∧uppD dx S=.ok d S'∧Go K H β S' d Q
theorem mtUpp:MtR X "str.upper" (rUppD X.K):=by
 intro pins s σ H x vs v us Q I rx rv h
 obtain⟨β,S,dx,d,S',rfl,r1,rs,e,go⟩:=h
 cases dx with
 |str z=>
  replace e:(if Builtin.Str.tooLong (PySem.Txt.upper z).length=false then Res.ok (D.str (PySem.Txt.upper z)) S else .no)=.ok d S':=e
  split at e
  ·rename_i hz
   cases e
   simp only [RepV] at r1
   subst r1
   exact Zjj pins s σ H _ [] v us Q I rx rv ⟨z,rfl,rfl,hz,go _ _ _ Ex.refl (by simp only [RepV]) rs⟩
  ·cases e
 |_=>cases e
theorem Znq {o:Expr} {apos cpos:Pos} (ho:PE X o (LE X.K ma)) (hbase:attributeBase o "upper" X.env (eval o X.env)=eval o X.env) (hline:(apos.endLine==cpos.line)=true):PE X (.Call (.Attribute o "upper" apos) [] [] cpos) (LE X.K fun e S=>(ma e S).bind fun x S1=>uppD x S1):=by
 intro pins s σ H Q I h
 obtain⟨env,S,β,d,S',rn,rs,e,go⟩:=h
 obtain⟨x,S1,e1,e⟩:=Res.bind_is e
 refine ZmM (T:="str") PySem.F.plainAttrs_str PySem.F.slot_str_upper PySem.F.type_str_upper mtUpp ho hbase hline pins s σ H Q I ⟨env,S,β,x,S1,rn,rs,e1,fun v1 H1 β1 x1 r1 s1=>⟨?_,β1,S1,x,d,S',rfl,r1,s1,e,go.mono x1⟩⟩
 cases x with
 |str z=>simp only [RepV] at r1;subst r1;exact rfl
 |_=>cases e
noncomputable def rApp (K:Yab):V→List V→Hp→VK→Prop:=fun x vs H Q=>∃β S dx dy d S',(∃y,vs=[y]∧RepV K H β dy y)∧RepV K H β dx x∧RepS K H β S∧appD dx dy S=.ok d S'∧Go K H β S' d Q
theorem mtApp:MtM X "list.append" (rApp X.K):=by
 intro pins s σ H x vs v us Q I rx rv h
 obtain⟨β,S,dx,dy,d,S',⟨y,rfl,r2⟩,r1,rs,e,go⟩:=h
 cases dx with
 |obj n=>
  simp only [RepV] at r1
  obtain⟨a,rfl,hb,_⟩:=r1
  simp only [appD] at e
  split at e
  ·rename_i ds hS
   split at e
   ·rename_i hl
    cases e
    obtain⟨xs,hH,l⟩:=rs.cell n a _ hb hS
    refine Ze8 pins s σ H _ _ v us Q I rx rv ⟨a,xs,y,rfl,rfl,hH,Yax (by rw [←l.length];exact hl) (by decide),?_⟩
    exact go _ _ _ (Ex.setL hH) (by simp only [RepV]) (rs.setL hb hS (l.append (RepL.cons r2 (by simp [RepL]))))
   ·cases e
  ·cases e
 |_=>cases e
theorem RepL.erase {K:Yab} {H:Hp} {β:List Addr}:∀{ds:List D} {xs:List V} (n:Nat),RepL K H β ds xs→RepL K H β (ds.eraseIdx n) (xs.eraseIdx n)
 | [],_,n,h=>by rw [RepL.nil_iff] at h;subst h;simp [RepL]
 |d::ds,xs,0,h=>by
  simp only [RepL] at h
  obtain⟨x,t,rfl,h1,h2⟩:=h
  exact h2
 |d::ds,xs,n+1,h=>by
  simp only [RepL] at h
  obtain⟨x,t,rfl,h1,h2⟩:=h
  exact RepL.cons h1 (RepL.erase n h2)
noncomputable def rMth (K:Yab) (m:Mt):V→List V→Hp→VK→Prop:=fun x vs H Q=>∃β S dx dy d S',(∃y,vs=[y]∧RepV K H β dy y)∧RepV K H β dx x∧RepS K H β S∧mthD m dx dy S=.ok d S'∧Go K H β S' d Q
theorem mtPop:MtM X "list.pop" (rMth X.K .pop):=by
 intro pins s σ H x vs v us Q I rx rv h
 obtain⟨β,S,dx,dy,d,S',⟨y,rfl,r2⟩,r1,rs,e,go⟩:=h
 replace e:m_pop dx dy S=.ok d S':=e
 cases dx with
 |obj n=>
  cases dy with
  |int i=>
   simp only [RepV] at r1 r2
   obtain⟨a,rfl,hb,_⟩:=r1
   subst r2
   simp only [m_pop] at e
   split at e
   ·rename_i ds hS
    split at e
    ·rename_i j d0 hj
     split at e
     ·rename_i hl
      cases e
      obtain⟨j',hn,hj⟩:=Yaa.mp hj
      obtain⟨d',hd,hj⟩:=Yao.mp hj
      cases hj
      obtain⟨xs,hH,l⟩:=rs.cell n a _ hb hS
      obtain⟨x,hx,r⟩:=l.get hd
      obtain⟨h1,h2,h3,h4⟩:=ZfX hn
      refine Zjk pins s σ H _ _ v us Q I rx rv ⟨a,xs,i,j,x,rfl,rfl,hH,by omega,by omega,by rw [←l.length];exact h1,hx,?_⟩
      exact go _ _ _ (Ex.setL hH) (r.mono (Ex.setL hH)) (rs.setL hb hS (l.erase j))
     ·cases e
    ·cases e
   ·cases e
  |_=>cases e
 |_=>cases e
theorem mtExt:MtM X "list.extend" (rMth X.K .ext):=by
 intro pins s σ H x vs v us Q I rx rv h
 obtain⟨β,S,dx,dy,d,S',⟨y,rfl,r2⟩,r1,rs,e,go⟩:=h
 replace e:m_ext dx dy S=.ok d S':=e
 cases dx with
 |obj n=>
  cases dy with
  |obj m=>
   simp only [RepV] at r1 r2
   obtain⟨a,rfl,hb,_⟩:=r1
   obtain⟨b,rfl,hb2,_⟩:=r2
   simp only [m_ext] at e
   split at e
   ·rename_i ds es hS hS2
    split at e
    ·rename_i hl
     cases e
     obtain⟨xs,hH,l⟩:=rs.cell n a _ hb hS
     obtain⟨zs,hH2,l2⟩:=rs.cell m b _ hb2 hS2
     refine ZhP pins s σ H _ _ v us Q I rx rv ⟨a,b,xs,zs,rfl,rfl,hH,hH2,YaC (by rw [←l.length,←l2.length];exact hl) (by decide),?_⟩
     exact go _ _ _ (Ex.setL hH) (by simp only [RepV]) (rs.setL hb hS (l.append l2))
    ·cases e
   ·cases e
  |_=>cases e
 |_=>cases e
noncomputable def rB (K:Yab) (b:Bl):List V→Hp→VK→Prop:=fun xs H Q=>∃β S ds d S',RepL K H β ds xs∧RepS K H β S∧bltD b ds S=.ok d S'∧Go K H β S' d Q
theorem repL1 {K:Yab} {H:Hp} {β:List Addr} {d:D} {xs:List V} (h:RepL K H β [d] xs):∃x,xs=[x]∧RepV K H β d x:=by
 simp only [RepL] at h
 obtain⟨x,r,rfl,h1,rfl⟩:=h
 exact⟨x,rfl,h1⟩
theorem repL2 {K:Yab} {H:Hp} {β:List Addr} {d d':D} {xs:List V} (h:RepL K H β [d,d'] xs):∃x y,xs=[x,y]∧RepV K H β d x∧RepV K H β d' y:=by
 simp only [RepL] at h
 obtain⟨x,r,rfl,h1,y,r',rfl,h2,rfl⟩:=h
 exact⟨x,y,rfl,h1,h2⟩
theorem Zef {K:Yab} {H:Hp} {β:List Addr}:∀{ds:List D} {bs:List Bool} {xs:List V},blsOf ds=some bs→RepL K H β ds xs→xs=bs.map V.bl
 | [],bs,xs,h,r=>by cases h;rw [RepL.nil_iff] at r;exact r
 | .bl b::ds,bs,xs,h,r=>by
  simp only [blsOf] at h
  cases hb:blsOf ds with
  |none=>rw [hb] at h;cases h
  |some bs'=>
   rw [hb] at h
   cases h
   simp only [RepL] at r
   obtain⟨x,t,rfl,h1,h2⟩:=r
   simp only [RepV] at h1
   subst h1
   rw [Zef hb h2]
   rfl
 | .non::_,_,_,h,_| .int _::_,_,_,h,_| .str _::_,_,_,h,_| .tup _::_,_,_,h,_| .obj _::_,_,_,h,_| .ty _::_,_,_,h,_=>by simp [blsOf] at h
theorem Zhl {K:Yab} {H:Hp} {β:List Addr}:∀{ds:List D} {bs:List Str} {xs:List V},Zcl ds=some bs→RepL K H β ds xs→xs=bs.map V.str
 | [],bs,xs,h,r=>by cases h;rw [RepL.nil_iff] at r;exact r
 | .str b::ds,bs,xs,h,r=>by
  simp only [Zcl] at h
  cases hb:Zcl ds with
  |none=>rw [hb] at h;cases h
  |some bs'=>
   rw [hb] at h
   cases h
   simp only [RepL] at r
   obtain⟨x,t,rfl,h1,h2⟩:=r
   simp only [RepV] at h1
   subst h1
   rw [Zhl hb h2]
   rfl
 | .non::_,_,_,h,_| .int _::_,_,_,h,_| .bl _::_,_,_,h,_| .tup _::_,_,_,h,_| .obj _::_,_,_,h,_| .ty _::_,_,_,h,_=>by simp [Zcl] at h
theorem Zoe:CallR X (.builtin "len") (rB X.K .len):=by
 intro pins s σ H xs us Q I rv h
 obtain⟨β,S,ds,d,S',l,rs,e,go⟩:=h
 match ds,l,e with
 | [.tup ys],l,e=>
  obtain⟨x,rfl,r⟩:=repL1 l
  simp only [bltD,l_len] at e
  cases e
  simp only [RepV] at r
  obtain⟨a,zs,rfl,q,l2⟩:=r
  exact Zc8 pins s σ H _ us Q I rv ⟨a,zs,rfl,.inr q,by rw [←l2.length];exact Zaz rs go⟩
 | [.obj n],l,e=>
  obtain⟨x,rfl,r⟩:=repL1 l
  simp only [bltD,l_len] at e
  split at e
  ·rename_i ys hl
   cases e
   simp only [RepV] at r
   obtain⟨a,rfl,hb,_⟩:=r
   obtain⟨zs,q,l2⟩:=rs.ls hb hl
   exact Zc8 pins s σ H _ us Q I rv ⟨a,zs,rfl,.inl q,by rw [←l2.length];exact Zaz rs go⟩
  ·cases e
 | [],_,e| [.non],_,e| [.bl _],_,e| [.int _],_,e| [.str _],_,e| [.ty _],_,e| [.exo _],_,e| [.dic _],_,e|_::_::_,_,e=>simp [bltD,l_len] at e
theorem Zoi (hc:X.calm=true):CallR X (.builtin "all") (rB X.K .all):=by
 intro pins s σ H xs us Q I rv h
 obtain⟨β,S,ds,d,S',l,rs,e,go⟩:=h
 match ds,l,e with
 | [.obj n],l,e=>
  obtain⟨x,rfl,r⟩:=repL1 l
  simp only [bltD,l_all] at e
  cases hl:lsOf S n with
  |none=>rw [hl] at e;cases e
  |some ys=>
   rw [hl] at e
   cases hb2:blsOf ys with
   |none=>rw [YaP,hb2] at e;cases e
   |some bs=>
    rw [YaP,hb2] at e
    cases e
    simp only [RepV] at r
    obtain⟨a,rfl,hb,_⟩:=r
    obtain⟨zs,q,l2⟩:=rs.ls hb hl
    exact Ziw hc pins s σ H _ us Q I rv ⟨a,bs,rfl,by rw [←Zef hb2 l2];exact q,go_bl rs go⟩
 | [],_,e| [.non],_,e| [.bl _],_,e| [.int _],_,e| [.str _],_,e| [.ty _],_,e| [.exo _],_,e| [.dic _],_,e| [.tup _],_,e|_::_::_,_,e=>simp [bltD,l_all] at e
theorem ZeK {K:Yab} {H:Hp} {β:List Addr}:∀{ds:List D} {bs:List Int} {xs:List V},Zbc ds=some bs→RepL K H β ds xs→xs=bs.map V.int
 | [],bs,xs,h,r=>by cases h;rw [RepL.nil_iff] at r;exact r
 | .int b::ds,bs,xs,h,r=>by
  simp only [Zbc] at h
  cases hb:Zbc ds with
  |none=>rw [hb] at h;cases h
  |some bs'=>
   rw [hb] at h
   cases h
   simp only [RepL] at r
   obtain⟨x,t,rfl,h1,h2⟩:=r
   simp only [RepV] at h1
   subst h1
   rw [ZeK hb h2]
   rfl
 | .non::_,_,_,h,_| .bl _::_,_,_,h,_| .str _::_,_,_,h,_| .tup _::_,_,_,h,_| .obj _::_,_,_,h,_| .ty _::_,_,_,h,_=>by simp [Zbc] at h
theorem Zh5:∀{bs:List Bool} {j:Nat},idxB bs=some j→bs[j]?=some true∧∀i,i<j→bs[i]?=some false
 | [],_,h=>by cases h
 |true::r,j,h=>by cases h;exact⟨rfl,fun i hi=>absurd hi (Nat.not_lt_zero _)⟩
 |false::r,j,h=>by
  obtain⟨k,hk,rfl⟩:=Yao.mp h
  obtain⟨h1,h2⟩:=Zh5 hk
  refine⟨h1,fun i hi=>?_⟩
  cases i with
  |zero=>rfl
  |succ i=>exact h2 i (Nat.lt_of_succ_lt_succ hi)
theorem mtIdx:MtM X "list.index" (rMth X.K .idx):=by
 intro pins s σ H x vs v us Q I rx rv h
 obtain⟨β,S,dx,dy,d,S',⟨y,rfl,r2⟩,r1,rs,e,go⟩:=h
 replace e:m_idx dx dy S=.ok d S':=e
 cases dx with
 |obj n=>
  cases dy with
  |bl b=>
   cases b with
   |false=>cases e
   |true=>
    simp only [RepV] at r1 r2
    obtain⟨a,rfl,hb,_⟩:=r1
    subst r2
    simp only [m_idx] at e
    split at e
    ·rename_i ds hS
     split at e
     ·rename_i j hj
      cases e
      obtain⟨bs,hbs,hj⟩:=Yaa.mp hj
      obtain⟨xs,hH,l⟩:=rs.cell n a _ hb hS
      obtain⟨h1,h2⟩:=Zh5 hj
      exact Zle pins s σ H _ _ v us Q I rx rv ⟨a,bs,j,rfl,rfl,by rw [←Zef hbs l];exact hH,h1,h2,Zaz rs go⟩
     ·cases e
    ·cases e
  |_=>cases e
 |_=>cases e
theorem mtCnt:MtM X "list.count" (rMth X.K .cnt):=by
 intro pins s σ H x vs v us Q I rx rv h
 obtain⟨β,S,dx,dy,d,S',⟨y,rfl,r2⟩,r1,rs,e,go⟩:=h
 replace e:m_cnt dx dy S=.ok d S':=e
 cases dx with
 |obj n=>
  cases dy with
  |bl b=>
   simp only [RepV] at r1 r2
   obtain⟨a,rfl,hb,_⟩:=r1
   subst r2
   simp only [m_cnt] at e
   split at e
   ·rename_i ds hS
    split at e
    ·rename_i bs hbs
     cases e
     obtain⟨xs,hH,l⟩:=rs.cell n a _ hb hS
     exact Zlh pins s σ H _ _ v us Q I rx rv ⟨a,bs,b,rfl,rfl,by rw [←Zef hbs l];exact hH,Zaz rs go⟩
    ·cases e
   ·cases e
  |str b=>
   simp only [RepV] at r1 r2
   obtain⟨a,rfl,hb,_⟩:=r1
   subst r2
   simp only [m_cnt] at e
   split at e
   ·rename_i ds hS
    split at e
    ·rename_i bs hbs
     cases e
     obtain⟨xs,hH,l⟩:=rs.cell n a _ hb hS
     exact Zlg pins s σ H _ _ v us Q I rx rv ⟨a,bs,b,rfl,rfl,by rw [←Zhl hbs l];exact hH,Zaz rs go⟩
    ·cases e
   ·cases e
  |_=>cases e
 |_=>cases e
theorem Zoa (hc:X.calm=true):CallR X (.builtin "sum") (rB X.K .sum):=by
 intro pins s σ H xs us Q I rv h
 obtain⟨β,S,ds,d,S',l,rs,e,go⟩:=h
 replace e:l_sum ds S=.ok d S':=e
 match ds,l,e with
 | [.obj n],l,e=>
  obtain⟨x,rfl,r⟩:=repL1 l
  simp only [l_sum] at e
  cases hl:lsOf S n with
  |none=>rw [hl] at e;cases e
  |some ys=>
   rw [hl] at e
   cases hb2:Zbc ys with
   |none=>
    rw [YaP,hb2] at e
    cases hb3:blsOf ys with
    |none=>rw [YaP,hb3] at e;cases e
    |some bs=>
     rw [YaP,hb3] at e
     cases e
     simp only [RepV] at r
     obtain⟨a,rfl,hb,_⟩:=r
     obtain⟨zs,q,l2⟩:=rs.ls hb hl
     exact Ziq hc pins s σ H _ us Q I rv ⟨a,bs,rfl,by rw [←Zef hb3 l2];exact q,Zaz rs go⟩
   |some bs=>
    rw [YaP,hb2] at e
    cases e
    simp only [RepV] at r
    obtain⟨a,rfl,hb,_⟩:=r
    obtain⟨zs,q,l2⟩:=rs.ls hb hl
    exact Zip hc pins s σ H _ us Q I rv ⟨a,bs,rfl,by rw [←ZeK hb2 l2];exact q,Zaz rs go⟩
 | [],_,e| [.non],_,e| [.bl _],_,e| [.int _],_,e| [.str _],_,e| [.ty _],_,e| [.exo _],_,e| [.dic _],_,e| [.tup _],_,e|_::_::_,_,e=>simp [l_sum] at e
theorem Zoh (hc:X.calm=true):CallR X (.builtin "any") (rB X.K .any):=by
 intro pins s σ H xs us Q I rv h
 obtain⟨β,S,ds,d,S',l,rs,e,go⟩:=h
 match ds,l,e with
 | [.obj n],l,e=>
  obtain⟨x,rfl,r⟩:=repL1 l
  simp only [bltD,l_any] at e
  cases hl:lsOf S n with
  |none=>rw [hl] at e;cases e
  |some ys=>
   rw [hl] at e
   cases hb2:blsOf ys with
   |none=>rw [YaP,hb2] at e;cases e
   |some bs=>
    rw [YaP,hb2] at e
    cases e
    simp only [RepV] at r
    obtain⟨a,rfl,hb,_⟩:=r
    obtain⟨zs,q,l2⟩:=rs.ls hb hl
    exact Ziv hc pins s σ H _ us Q I rv ⟨a,bs,rfl,by rw [←Zef hb2 l2];exact q,go_bl rs go⟩
 | [],_,e| [.non],_,e| [.bl _],_,e| [.int _],_,e| [.str _],_,e| [.ty _],_,e| [.exo _],_,e| [.dic _],_,e| [.tup _],_,e|_::_::_,_,e=>simp [bltD,l_any] at e
theorem ZjF:CallR X (.type "tuple") (rB X.K .tuple):=by
 intro pins s σ H xs us Q I rv h
 obtain⟨β,S,ds,d,S',l,rs,e,go⟩:=h
 match ds,l,e with
 | [.tup ys],l,e=>
  obtain⟨x,rfl,r⟩:=repL1 l
  simp only [bltD,Zev] at e
  cases e
  have r0:=r
  simp only [RepV] at r
  obtain⟨a,zs,rfl,q,l2⟩:=r
  exact Zcx pins s σ H _ us Q I rv ⟨a,zs,rfl,.inr ⟨q,go _ _ _ Ex.refl r0 rs⟩⟩
 | [.obj n],l,e=>
  obtain⟨x,rfl,r⟩:=repL1 l
  simp only [bltD,Zev] at e
  split at e
  ·rename_i ys hl
   cases e
   simp only [RepV] at r
   obtain⟨a,rfl,hb,_⟩:=r
   obtain⟨zs,q,l2⟩:=rs.ls hb hl
   exact Zcx pins s σ H _ us Q I rv ⟨a,zs,rfl,.inl ⟨q,fun p hp=>Zc2 rs hp l2 go⟩⟩
  ·cases e
 | [],_,e| [.non],_,e| [.bl _],_,e| [.int _],_,e| [.str _],_,e| [.ty _],_,e| [.exo _],_,e| [.dic _],_,e|_::_::_,_,e=>simp [bltD,Zev] at e
theorem Zl4:CallR X (.type "list") (rB X.K .list):=by
 intro pins s σ H xs us Q I rv h
 obtain⟨β,S,ds,d,S',l,rs,e,go⟩:=h
 match ds,l,e with
 | [.tup ys],l,e=>
  obtain⟨x,rfl,r⟩:=repL1 l
  simp only [bltD,Zgu] at e
  cases e
  simp only [RepV] at r
  obtain⟨a,zs,rfl,q,l2⟩:=r
  exact Zc7 pins s σ H _ us Q I rv ⟨a,zs,rfl,.inr q,fun p hp=>Zc3 rs hp l2 go⟩
 | [.obj n],l,e=>
  obtain⟨x,rfl,r⟩:=repL1 l
  simp only [bltD,Zgu] at e
  split at e
  ·rename_i ys hl
   cases e
   simp only [RepV] at r
   obtain⟨a,rfl,hb,_⟩:=r
   obtain⟨zs,q,l2⟩:=rs.ls hb hl
   exact Zc7 pins s σ H _ us Q I rv ⟨a,zs,rfl,.inl q,fun p hp=>Zc3 rs hp l2 go⟩
  ·cases e
 | [],_,e| [.non],_,e| [.bl _],_,e| [.int _],_,e| [.str _],_,e| [.ty _],_,e| [.exo _],_,e| [.dic _],_,e|_::_::_,_,e=>simp [bltD,Zgu] at e
theorem ints2 {K:Yab} {H:Hp} {β:List Addr} {i j:Int} {xs:List V} (h:RepL K H β [.int i,.int j] xs):xs=[.int i,.int j]:=by
 obtain⟨x,y,rfl,h1,h2⟩:=repL2 h
 simp only [RepV] at h1 h2
 rw [h1,h2]
theorem ZiA:CallR X (.builtin "divmod") (rB X.K .divmod):=by
 intro pins s σ H xs us Q I rv h
 obtain⟨β,S,ds,d,S',l,rs,e,go⟩:=h
 match ds,l,e with
 | [.int i,.int j],l,e=>
  have:=ints2 l
  subst this
  simp only [bltD,Zew] at e
  split at e
  ·rename_i hc
   cases e
   have hj:=lg_lt hc.2
   exact Zfz pins s σ H _ us Q I rv ⟨i,j,rfl,⟨hc.1,hj⟩,fun p hp=>Zc2 rs hp (RepL.cons (by simp only [RepV]) (RepL.cons (by simp only [RepV]) (by simp [RepL]))) go⟩
  ·cases e
 | [],_,e| [_],_,e| [.int _,.non],_,e| [.int _,.bl _],_,e| [.int _,.str _],_,e| [.int _,.tup _],_,e| [.int _,.obj _],_,e| [.int _,.ty _],_,e| [.int _,.exo _],_,e
 | .non::_,_,e| .bl _::_,_,e| .str _::_,_,e| .tup _::_,_,e| .obj _::_,_,e| .ty _::_,_,e| .exo _::_,_,e| .dic _::_,_,e|_::_::_::_,_,e=>simp [bltD,Zew] at e
theorem Zod (hc:X.calm=true):CallR X (.builtin "max") (rB X.K .max):=by
 intro pins s σ H xs us Q I rv h
 obtain⟨β,S,ds,d,S',l,rs,e,go⟩:=h
 match ds,l,e with
 | [.int i,.int j],l,e=>
  have:=ints2 l
  subst this
  simp only [bltD,l_max] at e
  cases e
  exact Ziu hc pins s σ H _ us Q I rv ⟨i,j,rfl,Zaz rs go⟩
 | [.obj n],l,e=>
  obtain⟨x,rfl,r⟩:=repL1 l
  simp only [bltD,l_max,l_min] at e
  cases hl:lsOf S n with
  |none=>rw [hl] at e;cases e
  |some ys=>
   rw [hl] at e
   cases hb2:Zbc ys with
   |none=>rw [YaP,hb2] at e;cases e
   |some bs=>
    rw [YaP,hb2] at e
    cases bs with
    |nil=>cases e
    |cons b0 bs=>
     cases e
     simp only [RepV] at r
     obtain⟨a,rfl,hb,_⟩:=r
     obtain⟨zs,q,l2⟩:=rs.ls hb hl
     exact Zit hc pins s σ H _ us Q I rv ⟨a,b0::bs,rfl,by simp,by rw [←ZeK hb2 l2];exact q,Zaz rs go⟩
 | [],_,e| [.non],_,e| [.bl _],_,e| [.int _],_,e| [.str _],_,e| [.ty _],_,e| [.exo _],_,e| [.tup _],_,e| [.int _,.non],_,e| [.int _,.bl _],_,e| [.int _,.str _],_,e| [.int _,.tup _],_,e| [.int _,.obj _],_,e| [.int _,.ty _],_,e| [.int _,.exo _],_,e
 | .non::_,_,e| .bl _::_,_,e| .str _::_,_,e| .tup _::_,_,e| .obj _::_::_,_,e| .ty _::_,_,e| .exo _::_,_,e| .dic _::_,_,e|_::_::_::_,_,e=>simp [bltD,l_max] at e
theorem Zoc (hc:X.calm=true):CallR X (.builtin "min") (rB X.K .min):=by
 intro pins s σ H xs us Q I rv h
 obtain⟨β,S,ds,d,S',l,rs,e,go⟩:=h
 match ds,l,e with
 | [.int i,.int j],l,e=>
  have:=ints2 l
  subst this
  simp only [bltD,l_min] at e
  cases e
  exact Zis hc pins s σ H _ us Q I rv ⟨i,j,rfl,Zaz rs go⟩
 | [.obj n],l,e=>
  obtain⟨x,rfl,r⟩:=repL1 l
  simp only [bltD,l_max,l_min] at e
  cases hl:lsOf S n with
  |none=>rw [hl] at e;cases e
  |some ys=>
   rw [hl] at e
   cases hb2:Zbc ys with
   |none=>rw [YaP,hb2] at e;cases e
   |some bs=>
    rw [YaP,hb2] at e
    cases bs with
    |nil=>cases e
    |cons b0 bs=>
     cases e
     simp only [RepV] at r
     obtain⟨a,rfl,hb,_⟩:=r
     obtain⟨zs,q,l2⟩:=rs.ls hb hl
     exact Zir hc pins s σ H _ us Q I rv ⟨a,b0::bs,rfl,by simp,by rw [←ZeK hb2 l2];exact q,Zaz rs go⟩
 | [],_,e| [.non],_,e| [.bl _],_,e| [.int _],_,e| [.str _],_,e| [.ty _],_,e| [.exo _],_,e| [.tup _],_,e| [.int _,.non],_,e| [.int _,.bl _],_,e| [.int _,.str _],_,e| [.int _,.tup _],_,e| [.int _,.obj _],_,e| [.int _,.ty _],_,e| [.int _,.exo _],_,e
 | .non::_,_,e| .bl _::_,_,e| .str _::_,_,e| .tup _::_,_,e| .obj _::_::_,_,e| .ty _::_,_,e| .exo _::_,_,e| .dic _::_,_,e|_::_::_::_,_,e=>simp [bltD,l_min] at e
theorem Zog:CallR X (.type "int") (rB X.K .int):=by
 intro pins s σ H xs us Q I rv h
 obtain⟨β,S,ds,d,S',l,rs,e,go⟩:=h
 match ds,l,e with
 | [.int i],l,e=>
  obtain⟨x,rfl,r⟩:=repL1 l
  simp only [bltD,l_int] at e
  cases e
  simp only [RepV] at r
  subst r
  exact Zfy pins s σ H _ us Q I rv (.inl ⟨i,rfl,Zaz rs go⟩)
 | [.bl i],l,e=>
  obtain⟨x,rfl,r⟩:=repL1 l
  simp only [bltD,l_int] at e
  cases e
  simp only [RepV] at r
  subst r
  exact Zfy pins s σ H _ us Q I rv (.inr ⟨i,rfl,Zaz rs go⟩)
 | [],_,e| [.non],_,e| [.str _],_,e| [.ty _],_,e| [.exo _],_,e| [.dic _],_,e| [.tup _],_,e| [.obj _],_,e|_::_::_,_,e=>simp [bltD,l_int] at e
theorem Zob:CallR X (.type "str") (rB X.K .str):=by
 intro pins s σ H xs us Q I rv h
 obtain⟨β,S,ds,d,S',l,rs,e,go⟩:=h
 replace e:l_str ds S=.ok d S':=e
 unfold l_str at e
 split at e
 ·rename_i _ i
  split at e
  ·rename_i hi
   cases e
   obtain⟨x,rfl,r⟩:=repL1 l
   simp only [RepV] at r
   subst r
   refine Zfx pins s σ H _ us Q I rv ⟨i,rfl,?_,go _ _ _ Ex.refl (by simp only [RepV]) rs⟩
   have:=of_decide_eq_true hi
   omega
  ·cases e
 ·cases e
theorem ty_of {K:Yab} {H:Hp} {β:List Addr} {S:Sto} {d:D} {v:V} {t:String} (r:RepV K H β d v) (rs:RepS K H β S) (h:tyOf d S=some t):TyS K H v t:=by
 cases d with
 |non=>simp only [RepV] at r;subst r;cases h;exact .non
 |bl b=>simp only [RepV] at r;subst r;cases h;exact .bl b
 |int i=>simp only [RepV] at r;subst r;cases h;exact .int i
 |str i=>simp only [RepV] at r;subst r;cases h;exact .str i
 |tup ds=>simp only [RepV] at r;obtain⟨a,xs,rfl,q,l⟩:=r;cases h;exact .tup q
 |obj n=>
  simp only [RepV] at r
  obtain⟨a,rfl,hb,_⟩:=r
  simp only [tyOf] at h
  cases hl:lsOf S n with
  |none=>rw [hl] at h;cases h
  |some ds=>rw [hl] at h;cases h;obtain⟨xs,q,l⟩:=rs.ls hb hl;exact .lst q
 |ty _=>cases h
 |dic _=>cases h
 |exo c=>
  simp only [RepV] at r
  obtain⟨a,rfl,q⟩:=r
  simp only [tyOf] at h
  split at h
  ·rename_i z;rw [if_pos z] at q;cases h;exact .dct q
  ·cases h
theorem Zof:CallR X (.builtin "isinstance") (rB X.K .isi):=by
 intro pins s σ H xs us Q I rv h
 obtain⟨β,S,ds,d,S',l,rs,e,go⟩:=h
 replace e:l_isi ds S=.ok d S':=e
 unfold l_isi at e
 split at e
 ·rename_i x T
  split at e
  ·rename_i t ht
   split at e
   ·rename_i hT
    cases e
    obtain⟨x',y',rfl,h1,h2⟩:=repL2 l
    simp only [RepV] at h2
    subst h2
    exact ZjE pins s σ H _ us Q I rv ⟨x',t,T,rfl,ty_of h1 rs ht,hT,go_bl rs go⟩
   ·cases e
  ·cases e
 ·cases e
end
end Py
namespace Py
open PySem L2 PySem.Spec PyProof.Rows
noncomputable def LG (K:Yab) (m:D→Nv→Sto→Res Nv):TG:=fun v σ H Q=>∃env S β d env' S',RepV K H β d v∧RepN K H β env σ∧RepS K H β S∧m d env S=.ok env' S'∧∀σ' H' β',Ex K H β H' β'→RepN K H' β' env' σ'→RepS K H' β' S'→Q σ' H'
noncomputable def LGs (K:Yab) (m:List D→Nv→Sto→Res Nv):TGs:=fun vs σ H Q=>∃env S β ds env' S',RepL K H β ds vs∧RepN K H β env σ∧RepS K H β S∧m ds env S=.ok env' S'∧∀σ' H' β',Ex K H β H' β'→RepN K H' β' env' σ'→RepS K H' β' S'→Q σ' H'
section
variable {X:Cx} {a b c e tg:Expr} {es:List Expr} {ma mb mc m:M} {pos:Pos}
theorem Zlx {i:Nat} (h:PG X tg (gName i)):PG X tg (LG X.K fun d e S=>.ok (e.set i (some d)) S):=by
 intro pins s σ H v u Q I r q
 obtain⟨env,S,β,d,env',S',rv,rn,rs,e,go⟩:=q
 cases e
 exact h pins s σ H v u Q I r (go _ _ _ Ex.refl (rn.set rv) rs)
theorem Zlw:PGs X [] (LGs X.K fun ds e S=>(match ds with| []=>.ok e S|_=>.no)):=by
 intro pins s σ H vs us Q I r q
 obtain⟨env,S,β,ds,env',S',rv,rn,rs,e,go⟩:=q
 cases ds with
 |nil=>
  cases e
  rw [RepL.nil_iff] at rv
  exact ZkO pins s σ H vs us Q I r ⟨rv,go _ _ _ Ex.refl rn rs⟩
 |cons _ _=>cases e
theorem Zjo {m1:D→Nv→Sto→Res Nv} {m2:List D→Nv→Sto→Res Nv} (h1:PG X tg (LG X.K m1)) (h2:PGs X es (LGs X.K m2)) (hs:(assignEach (tg::es) X.env).map (·.2)=assign tg X.env::(assignEach es X.env).map (·.2)):
  PGs X (tg::es) (LGs X.K fun ds e S=>(match ds with|d::r=>(m1 d e S).bind fun e' S'=>m2 r e' S'| []=>.no)):=by
 intro pins s σ H vs us Q I r q
 obtain⟨env,S,β,ds,env',S',rv,rn,rs,e,go⟩:=q
 cases ds with
 |nil=>cases e
 |cons d t=>
  obtain⟨e1,S1,q1,e⟩:=Res.bind_is e
  simp only [RepL] at rv
  obtain⟨x,xr,rfl,r1,r2⟩:=rv
  exact ZiZ h1 h2 hs pins s σ H _ us Q I r ⟨x,xr,rfl,env,S,β,d,e1,S1,r1,rn,rs,q1,fun σ1 H1 β1 x1 n1 s1=>⟨e1,S1,β1,t,env',S',r2.mono x1,n1,s1,e,fun σ2 H2 β2 x2 n2 s2=>go _ _ _ (x1.trans x2) n2 s2⟩⟩
theorem Znl {k n:Nat} {m2:List D→Nv→Sto→Res Nv} (hc:X.calm=true) (h:PGs X es (LGs X.K m2)) (hn:(assignEach es X.env).length=n) (hst:(assignEach es X.env).findIdx? (·.1)=none):
  PG X (.Tuple es k pos) (LG X.K fun d e S=>(match d with| .tup ds=>if ds.length=n then m2 ds e S else .no|_=>.no)):=by
 intro pins s σ H v u Q I r q
 obtain⟨env,S,β,d,env',S',rv,rn,rs,e,go⟩:=q
 cases d with
 |tup ds=>
  dsimp only at e
  split at e
  ·rename_i hl
   simp only [RepV] at rv
   obtain⟨a,xs,rfl,hq,l⟩:=rv
   exact ZmG hc h hn hst pins s σ H _ u Q I r ⟨a,xs,rfl,hq,by rw [←l.length];exact hl,env,S,β,ds,env',S',l,rn,rs,e,go⟩
  ·cases e
 |_=>cases e
noncomputable def rSetD (K:Yab):TSet:=fun o i v H Q=>∃β S dx dy dv S',RepV K H β dx o∧RepV K H β dy i∧RepV K H β dv v∧RepS K H β S∧setD dx dy dv S=.ok () S'∧∀H' β',Ex K H β H' β'→RepS K H' β' S'→Q H'
theorem psetD:PSet X (rSetD X.K):=by
 intro pins s σ H o i v ov iv u Q I ro ri rv h
 obtain⟨β,S,dx,dy,dv,S',r1,r2,r3,rs,e,go⟩:=h
 cases dx with
 |obj n=>
  cases dy with
  |int k=>
   simp only [RepV] at r1 r2
   obtain⟨a,rfl,hb,_⟩:=r1
   subst r2
   simp only [setD] at e
   split at e
   ·rename_i ds hS
    split at e
    ·rename_i j hj
     cases e
     obtain⟨xs,hH,l⟩:=rs.cell n a _ hb hS
     exact ZiO pins s σ H _ _ _ ov iv u Q I ro ri rv ⟨a,xs,k,j,rfl,rfl,hH,by rw [←l.length];exact hj,go _ _ (Ex.setL hH) (rs.setL hb hS (l.set r3 j))⟩
    ·cases e
   ·cases e
  |_=>simp [setD] at e
 |_=>cases dy<;>simp [setD] at e
theorem Znn (ha:PE X a (LE X.K ma)) (hb:PE X b (LE X.K mb))
  (has:∀v,assign (.Subscript a b pos) X.env v=(do
   let ov←holding [v] (eval a X.env)
   let iv←holding [v,ov] (eval b X.env)
   standAt pos
   holding [v,ov,iv] (setItem ov iv v)
   release [v,ov,iv] [])):
  PG X (.Subscript a b pos) (LG X.K fun d e S=>(ma e S).bind fun x S1=>(mb e S1).bind fun y S2=>(setD x y d S2).bind fun _ S3=>.ok e S3):=by
 intro pins s σ H v u Q I r q
 obtain⟨env,S,β,d,env',S',rv,rn,rs,e,go⟩:=q
 obtain⟨x,S1,e1,e⟩:=Res.bind_is e
 obtain⟨y,S2,e2,e⟩:=Res.bind_is e
 obtain⟨z,S3,e3,e⟩:=Res.bind_is e
 cases e
 exact ZjQ ha hb psetD has pins s σ H v u Q I r ⟨env,S,β,x,S1,rn,rs,e1,fun v1 H1 β1 x1 r1 s1=>⟨env,S1,β1,y,S2,rn.mono x1,s1,e2,fun v2 H2 β2 x2 r2 s2=>
  ⟨β2,S2,x,y,d,_,r1.mono x2,r2,rv.mono (x1.trans x2),s2,e3,fun H3 β3 x3 s3=>go _ _ _ ((x1.trans x2).trans x3) (rn.mono ((x1.trans x2).trans x3)) s3⟩⟩⟩
noncomputable def Zmr (K:Yab):TSet:=fun o i v H Q=>∃β S dx dy dv S',RepV K H β dx o∧RepV K H β dy i∧RepV K H β dv v∧RepS K H β S∧setKD dx dy dv S=.ok () S'∧∀H' β',Ex K H β H' β'→RepS K H' β' S'→Q H'
theorem Zmz:PSet X (Zmr X.K):=by
 intro pins s σ H o i v ov iv u Q I ro ri rv h
 obtain⟨β,S,dx,dy,dv,S',r1,r2,r3,rs,e,go⟩:=h
 cases dx with
 |dic n=>
  simp only [RepV] at r1
  obtain⟨a,rfl,hb⟩:=r1
  simp only [setKD] at e
  split at e
  ·rename_i kvs k hd
   split at e
   ·rename_i hl
    cases e
    obtain⟨k',hk,hd⟩:=Yaa.mp hd
    obtain⟨kvs',hc,hd⟩:=Yao.mp hd
    cases hd
    obtain⟨hS,vs,q,r⟩:=dw_of rs hb hc
    have ex:Ex X.K H β (upd H a (.dK (pkv vs k v))) β:=Ex.setK (Yay hb) q
    refine ZiP pins s σ H _ _ _ ov iv u Q I ro ri rv ⟨a,vs,k,rfl,keyV hk r2,q,?_,go _ _ ex (rs.swap hb hS q ⟨_,Zaq,?_⟩ (.inl ⟨_,rfl⟩))⟩
    ·rw [←r.len];exact Yax hl (by decide)
    ·exact(r.put r3).imp fun _ _ z=>z.mono ex
   ·cases e
  ·cases e
 |_=>cases e
theorem Znm (ha:PE X a (LE X.K ma)) (hb:PE X b (LE X.K mb))
  (has:∀v,assign (.Subscript a b pos) X.env v=(do
   let ov←holding [v] (eval a X.env)
   let iv←holding [v,ov] (eval b X.env)
   standAt pos
   holding [v,ov,iv] (setItem ov iv v)
   release [v,ov,iv] [])):
  PG X (.Subscript a b pos) (LG X.K fun d e S=>(ma e S).bind fun x S1=>(mb e S1).bind fun y S2=>(setKD x y d S2).bind fun _ S3=>.ok e S3):=by
 intro pins s σ H v u Q I r q
 obtain⟨env,S,β,d,env',S',rv,rn,rs,e,go⟩:=q
 obtain⟨x,S1,e1,e⟩:=Res.bind_is e
 obtain⟨y,S2,e2,e⟩:=Res.bind_is e
 obtain⟨z,S3,e3,e⟩:=Res.bind_is e
 cases e
 exact ZjQ ha hb Zmz has pins s σ H v u Q I r ⟨env,S,β,x,S1,rn,rs,e1,fun v1 H1 β1 x1 r1 s1=>⟨env,S1,β1,y,S2,rn.mono x1,s1,e2,fun v2 H2 β2 x2 r2 s2=>
  ⟨β2,S2,x,y,d,_,r1.mono x2,r2,rv.mono (x1.trans x2),s2,e3,fun H3 β3 x3 s3=>go _ _ _ ((x1.trans x2).trans x3) (rn.mono ((x1.trans x2).trans x3)) s3⟩⟩⟩
noncomputable def XO (X:Cx) (c:Str) (e:Nv) (H:Hp) (β:List Addr) (S':Sto):Prop:=∀(pins:List (Addr×Obj)) (σ':L2.St) (H':Hp) (β':List Addr) (a C:Addr) (s':Shared),Ex X.K H β H' β'→RepN X.K H' β' e σ'→RepS X.K H' β' S'→
 Inv X pins σ' H' s'→ClsF X.K c C→FlyX X pins H' a C s'.heap→X.xe (.ref a) s'
theorem XO.mono {X:Cx} {c:Str} {e:Nv} {H H1:Hp} {β β1:List Addr} {S':Sto} (h:XO X c e H β S') (x:Ex X.K H β H1 β1):XO X c e H1 β1 S':=fun pins σ' H' β' a C s' y=>h pins σ' H' β' a C s' (x.trans y)
noncomputable def FinS (X:Cx) (E:Ends) (H:Hp) (β:List Addr) (r:Fl) (S':Sto):Prop:=match r with
 | .nx e=>∀σ' H' β',Ex X.K H β H' β'→RepN X.K H' β' e σ'→RepS X.K H' β' S'→E.nx σ' H'
 | .bk e=>∀σ' H' β',Ex X.K H β H' β'→RepN X.K H' β' e σ'→RepS X.K H' β' S'→E.bk σ' H'
 | .ct e=>∀σ' H' β',Ex X.K H β H' β'→RepN X.K H' β' e σ'→RepS X.K H' β' S'→E.ct σ' H'
 | .rt d=>∀v H' β',Ex X.K H β H' β'→RepV X.K H' β' d v→RepS X.K H' β' S'→E.rt v H'
 | .ex c e=>XO X c e H β S'
theorem FinS.mono {X:Cx} {E:Ends} {H H1:Hp} {β β1:List Addr} {r:Fl} {S':Sto} (h:FinS X E H β r S') (x:Ex X.K H β H1 β1):FinS X E H1 β1 r S':=by
 cases r with
 |nx e=>exact fun σ' H' β' y=>h σ' H' β' (x.trans y)
 |bk e=>exact fun σ' H' β' y=>h σ' H' β' (x.trans y)
 |ct e=>exact fun σ' H' β' y=>h σ' H' β' (x.trans y)
 |rt d=>exact fun σ' H' β' y=>h σ' H' β' (x.trans y)
 |ex c e=>exact XO.mono h x
noncomputable abbrev MS:=Nv→Sto→Res Fl
noncomputable def LS (X:Cx) (m:MS):TS:=fun E σ H=>∃env S β r S',RepN X.K H β env σ∧RepS X.K H β S∧m env S=.ok r S'∧FinS X E H β r S'
variable {st:Stmt} {rest:List Stmt} {m1 m2:MS}
theorem Zng:PSs X [] (LS X fun e S=>.ok (.nx e) S):=by
 intro pins s σ H E I h
 obtain⟨env,S,β,r,S',rn,rs,e,fin⟩:=h
 cases e
 exact ZkE pins s σ H E I (fin _ _ _ Ex.refl rn rs)
theorem Zll:PS X (.Pass pos) (LS X fun e S=>.ok (.nx e) S):=by
 intro pins s σ H E I h
 obtain⟨env,S,β,r,S',rn,rs,e,fin⟩:=h
 cases e
 exact ZkG pins s σ H E I (fin _ _ _ Ex.refl rn rs)
theorem Zln (h1:PS X st (LS X m1)) (h2:PSs X rest (LS X m2)):PSs X (st::rest) (LS X fun e S=>(m1 e S).bind fun r S1=>(match r with| .nx e1=>m2 e1 S1|r=>.ok r S1)):=by
 intro pins s σ H E I h
 obtain⟨env,S,β,r,S',rn,rs,e,fin⟩:=h
 obtain⟨r1,S1,e1,e⟩:=Res.bind_is e
 refine ZiU h1 h2 pins s σ H E I ⟨env,S,β,r1,S1,rn,rs,e1,?_⟩
 cases r1 with
 |nx e'=>exact fun σ1 H1 β1 x1 n1 s1=>⟨e',S1,β1,r,S',n1,s1,e,fin.mono x1⟩
 |bk e'=>cases e;exact fin
 |ct e'=>cases e;exact fin
 |rt d=>cases e;exact fin
 |ex c e'=>cases e;exact fin
theorem Znh (ha:PE X a (LE X.K ma)) (hs:swapsWith a none pos.line X.env=pure false):PS X (.Expr a pos) (LS X fun e S=>(ma e S).bind fun _ S1=>.ok (.nx e) S1):=by
 intro pins s σ H E I h
 obtain⟨env,S,β,r,S',rn,rs,e,fin⟩:=h
 obtain⟨x,S1,e1,e⟩:=Res.bind_is e
 cases e
 exact ZkH ha hs pins s σ H E I ⟨env,S,β,x,_,rn,rs,e1,fun v1 H1 β1 x1 r1 s1=>fin _ _ _ x1 (rn.mono x1) s1⟩
theorem Znf (ha:PE X a (LE X.K ma)):PS X (.Return (some a) pos) (LS X fun e S=>(ma e S).bind fun d S1=>.ok (.rt d) S1):=by
 intro pins s σ H E I h
 obtain⟨env,S,β,r,S',rn,rs,e,fin⟩:=h
 obtain⟨x,S1,e1,e⟩:=Res.bind_is e
 cases e
 exact ZmA ha pins s σ H E I ⟨env,S,β,x,_,rn,rs,e1,fun v1 H1 β1 x1 r1 s1=>fin _ _ _ x1 r1 s1⟩
theorem ls_if {A B:List Stmt} (hc:PT X c (LT X.K mc)) (ha:PSs X A (LS X m1)) (hb:PSs X B (LS X m2)):PS X (.If c A B pos) (LS X fun e S=>(mc e S).bind fun x S1=>(match x with| .bl true=>m1 e S1| .bl false=>m2 e S1|_=>.no)):=by
 intro pins s σ H E I h
 obtain⟨env,S,β,r,S',rn,rs,e,fin⟩:=h
 obtain⟨x,S1,e1,e⟩:=Res.bind_is e
 cases x with
 |bl k=>
  refine ps_if hc ha hb pins s σ H E I ⟨env,S,β,k,S1,rn,rs,e1,fun H1 β1 x1 s1=>?_⟩
  cases k with
  |true=>rw [if_pos rfl];exact⟨env,S1,β1,r,S',rn.mono x1,s1,e,fin.mono x1⟩
  |false=>rw [if_neg Yal];exact⟨env,S1,β1,r,S',rn.mono x1,s1,e,fin.mono x1⟩
 |_=>cases e
theorem ZhS {mg:D→Nv→Sto→Res Nv} (h:PS X st (tAsg (LE X.K ma) (LG X.K mg))):PS X st (LS X fun e S=>(ma e S).bind fun d S1=>(mg d e S1).bind fun e1 S2=>.ok (.nx e1) S2):=by
 intro pins s σ H E I q
 obtain⟨env,S,β,r,S',rn,rs,e,fin⟩:=q
 obtain⟨x,S1,e1,e⟩:=Res.bind_is e
 obtain⟨e2,S2,q2,e⟩:=Res.bind_is e
 cases e
 exact h pins s σ H E I ⟨env,S,β,x,S1,rn,rs,e1,fun v1 H1 β1 x1 r1 s1=>⟨env,S1,β1,x,e2,_,r1,rn.mono x1,s1,q2,fun σ' H' β' x2 n2 s2=>fin _ _ _ (x1.trans x2) n2 s2⟩⟩
noncomputable def ItOk (K:Yab) (H0:Hp) (β0:List Addr) (It:It) (J:Itm):Prop:=∀(i:Nat) (H:Hp) (β:List Addr) (S:Sto),Ex K H0 β0 H β→RepS K H β S→J.still S=true→
 (i<J.items.length→It.go i H∧∀x H',It.yld i H x H'→∃d,J.items[i]?=some d∧Ex K H β H' β∧RepV K H' β d x∧RepS K H' β S)∧(i=J.items.length→It.stop i H)
noncomputable def LI (K:Yab) (m:Nv→Sto→Res Itm):TI:=fun σ H R=>∃env S β J S',RepN K H β env σ∧RepS K H β S∧m env S=.ok J S'∧∀It H' β',Ex K H β H' β'→RepS K H' β' S'→ItOk K H' β' It J→R It H'
theorem Zjs {K:Yab} {H0:Hp} {β0:List Addr} {a:Addr} {xs:List V} {ds:List D} (q:SqT K H0 a xs) (l:RepL K H0 β0 ds xs):ItOk K H0 β0 (Itt K a) ⟨ds,none⟩:=by
 intro i H β S ex rs st
 have q':=ex.tup a xs q
 have l':=l.mono ex
 refine⟨fun hi=>?_,fun hi=>⟨xs,q',by rw [←l'.length];exact YbF hi.symm⟩⟩
 obtain⟨x,ex1,_⟩:=l'.get (Yaf (show i<ds.length from hi))
 refine⟨⟨xs,x,q',ex1⟩,fun y H' hy=>?_⟩
 obtain⟨rfl,hy⟩:=hy
 obtain⟨d,hd,rd⟩:=l'.getB (hy xs q')
 exact⟨d,hd,Ex.refl,rd,rs⟩
theorem Zjt {K:Yab} {H0:Hp} {β0:List Addr} {n:Nat} {a:Addr} {ds:List D} (hb:β0[n]?=some a):ItOk K H0 β0 (Itl K a) ⟨ds,some n⟩:=by
 intro i H β S ex rs st
 have st':(match lsOf S n with|some xs=>D.sames xs ds|none=>false)=true:=st
 cases hl:lsOf S n with
 |none=>rw [hl] at st';cases st'
 |some es=>
  rw [hl] at st'
  have e:=D.sames_eq st'
  subst e
  obtain⟨xs,q',l'⟩:=rs.ls (ex.get hb) hl
  refine⟨fun hi=>?_,fun hi=>⟨xs,q',by rw [←l'.length];exact YbF hi.symm⟩⟩
  obtain⟨x,ex1,_⟩:=l'.get (Yaf (show i<es.length from hi))
  refine⟨⟨xs,x,q',ex1⟩,fun y H' hy=>?_⟩
  obtain⟨rfl,hy⟩:=hy
  obtain⟨d,hd,rd⟩:=l'.getB (hy xs q')
  exact⟨d,hd,Ex.refl,rd,rs⟩
theorem Zgz {K:Yab} {H0:Hp} {β0:List Addr} {a:Addr} {o:Obj} {vs:List (Key×V)} {kvs:List (Key×D)} (q:H0 a=some (.frz o (.dK vs))) (l:ZK (RepV K H0 β0) kvs vs):ItOk K H0 β0 (Itd a o vs) ⟨kvs.map fun q=>kD q.1,none⟩:=by
 intro i H β S ex rs st
 have q':=ex.frd a o vs q
 have hl:vs.length=(kvs.map fun q=>kD q.1).length:=by rw [Yak,l.len]
 refine⟨fun hi=>⟨⟨q',by rw [hl];exact hi⟩,fun x H' hy=>?_⟩,fun hi=>⟨q',YbF (hl.trans hi.symm)⟩⟩
 obtain⟨rfl,p,hp,rfl⟩:=hy
 have hi':i<kvs.length:=by simpa using hi
 obtain⟨w,hw⟩:=l.get (Yaf hi')
 rw [hp] at hw
 cases hw
 refine⟨kD kvs[i].1,by rw [Yam,Yaf hi'];rfl,Ex.refl,?_,rs⟩
 show RepV K _ β (kD kvs[i].1) (kV kvs[i].1)
 cases kvs[i].1<;>simp only [kD,kV,RepV]
theorem Zdn {lo c:Int} {n i:Nat} (h:i<n):(Zaj lo c n)[i]?=some (.int (lo+i*c)):=by
 unfold Zaj
 rw [Yam,List.getElem?_range h]
 rfl
theorem ZaH {lo c:Int} {n:Nat}:(Zaj lo c n).length=n:=by unfold Zaj;rw [Yak,List.length_range]
theorem Zgy {K:Yab} {H0:Hp} {β0:List Addr} {lo:Int} {n:Nat}:ItOk K H0 β0 (Itr lo n) ⟨Zaj lo 1 n,none⟩:=by
 intro i H β S ex rs st
 rw [show (⟨Zaj lo 1 n,none⟩:Itm).items.length=n from ZaH]
 refine⟨fun hi=>⟨hi,fun x H' hy=>?_⟩,fun hi=>YbF hi.symm⟩
 obtain⟨rfl,rfl⟩:=hy
 exact⟨_,Zdn hi,Ex.refl,by simp only [RepV,Int.mul_one],rs⟩
theorem Zh2 {K:Yab} {H0:Hp} {β0:List Addr} {lo c:Int} {n:Nat}:ItOk K H0 β0 (Itr3 lo c n) ⟨Zaj lo c n,none⟩:=by
 intro i H β S ex rs st
 rw [show (⟨Zaj lo c n,none⟩:Itm).items.length=n from ZaH]
 refine⟨fun hi=>⟨hi,fun x H' hy=>?_⟩,fun hi=>YbF hi.symm⟩
 obtain⟨rfl,rfl⟩:=hy
 exact⟨_,Zdn hi,Ex.refl,by simp only [RepV],rs⟩
theorem Zdl:∀{ds:List D} {k i:Nat} {d:D},ds[i]?=some d→(Zav k ds)[i]?=some (.tup [.int ((k+i:Nat):Int),d])
 | [],_,_,_,h=>by simp at h
 |x::r,k,0,d,h=>by simp at h;subst h;rfl
 |x::r,k,i+1,d,h=>by
  simp at h
  have:=Zdl (k:=k+1) h
  have e:k+1+i=k+(i+1):=by omega
  rw [e] at this
  simp only [Zav,Ybb,this]
theorem Zdk:∀{ds:List D} {k:Nat},(Zav k ds).length=ds.length
 | [],_=>rfl
 |x::r,k=>by simp only [Zav,YaH,Zdk]
theorem Zh3 {K:Yab} {H0:Hp} {β0:List Addr} {a:Addr} {xs:List V} {ds:List D} (q:SqT K H0 a xs) (l:RepL K H0 β0 ds xs):ItOk K H0 β0 (Ite K a) ⟨Zav 0 ds,none⟩:=by
 intro i H β S ex rs st
 have q':=ex.tup a xs q
 have l':=l.mono ex
 rw [show (⟨Zav 0 ds,none⟩:Itm).items.length=ds.length from Zdk]
 refine⟨fun hi=>?_,fun hi=>⟨xs,q',by rw [←l'.length];exact hi.symm⟩⟩
 obtain⟨x,ex1,rx⟩:=l'.get (Yaf hi)
 refine⟨⟨xs,x,q',ex1⟩,fun y H' hy=>?_⟩
 obtain⟨T,z,rfl,hT,rfl,hy⟩:=hy
 obtain⟨d,hd,rd⟩:=l'.getB (hy xs q')
 have e:=Zdl (k:=0) hd
 rw [Ybv] at e
 refine⟨_,e,Ex.newT hT,?_,rs.newT hT⟩
 simp only [RepV]
 exact⟨T,[.int i,z],rfl,SqT.of Zaq,RepL.cons (by simp only [RepV]) (RepL.cons (rd.mono (Ex.newT hT)) (by simp [RepL]))⟩
end
end Py
namespace Py
open PySem L2 PySem.Spec PyProof.Rows
section
variable {X:Cx} {a b c e tg iter:Expr} {es:List Expr} {ma mb mc m:M} {pos p:Pos}
theorem Znj (ha:PE X a (LE X.K ma)):PI X tg a (LI X.K fun e S=>(ma e S).bind fun x S1=>optD (itmOf S1 x) S1):=by
 intro pins s σ H R I h
 obtain⟨env,S,β,J,S',rn,rs,e,go⟩:=h
 obtain⟨x,S1,e1,e⟩:=Res.bind_is e
 cases x with
 |tup ds=>
  simp only [itmOf,optD] at e
  cases e
  refine ZmF ha pins s σ H R I ⟨env,S,β,_,_,rn,rs,e1,fun v H1 β1 x1 r1 s1=>?_⟩
  simp only [RepV] at r1
  obtain⟨t,xs,rfl,q,l⟩:=r1
  exact⟨t,rfl,⟨xs,q⟩,go _ _ _ x1 s1 (Zjs q l)⟩
 |obj n=>
  simp only [itmOf,optD] at e
  cases hl:lsOf S1 n with
  |none=>rw [hl] at e;cases e
  |some ds=>
   rw [hl] at e
   cases e
   refine ZkL ha pins s σ H R I ⟨env,S,β,_,_,rn,rs,e1,fun v H1 β1 x1 r1 s1=>?_⟩
   simp only [RepV] at r1
   obtain⟨t,rfl,hb,_⟩:=r1
   obtain⟨xs,q,l⟩:=s1.ls hb hl
   exact⟨t,rfl,⟨xs,q⟩,go _ _ _ x1 s1 (Zjt hb)⟩
 |_=>cases e
theorem Znk (ha:PE X a (LE X.K ma)):PI X tg a (LI X.K fun e S=>(ma e S).bind fun x S1=>itdD x S1):=by
 intro pins s σ H R I h
 obtain⟨env,S,β,J,S',rn,rs,e,go⟩:=h
 obtain⟨x,S1,e1,e⟩:=Res.bind_is e
 cases x with
 |dic n=>
  refine ZkN ha pins s σ H R I ⟨env,S,β,_,_,rn,rs,e1,fun v H1 β1 x1 r1 s1=>?_⟩
  simp only [RepV] at r1
  obtain⟨t,rfl,hb⟩:=r1
  simp only [itdD] at e
  split at e
  ·rename_i kvs hS
   cases e
   obtain⟨vs,q,r⟩:=s1.cell n t _ hb hS
   have ex:∀o,Ex X.K H1 β1 (upd H1 t (.frz o (.dK vs))) β1:=fun o=>Ex.setK (Yay hb) q
   exact⟨t,vs,rfl,.inl ⟨q,fun o=>go _ _ _ (x1.trans (ex o)) (s1.swap hb hS q ⟨vs,⟨o,Zaq⟩,r.imp fun _ _ z=>z.mono (ex o)⟩ (.inr ⟨_,rfl⟩)) (Zgz Zaq (r.imp fun _ _ z=>z.mono (ex o)))⟩⟩
  ·rename_i kvs hS
   cases e
   obtain⟨vs,⟨o,q⟩,r⟩:=s1.cell n t _ hb hS
   exact⟨t,vs,rfl,.inr ⟨o,q,go _ _ _ x1 s1 (Zgz q r)⟩⟩
  ·cases e
 |_=>cases e
theorem repL3 {K:Yab} {H:Hp} {β:List Addr} {i j k:Int} {xs:List V} (h:RepL K H β [.int i,.int j,.int k] xs):xs=[.int i,.int j,.int k]:=by
 simp only [RepL,RepV] at h
 obtain⟨x,r,rfl,rfl,y,r',rfl,rfl,z,r'',rfl,rfl,rfl⟩:=h
 rfl
theorem Zlu (hg:Gl X "range") (hm:X.mg "range" =none) (ha:PA X [a] (LA X.K m)) (hs:starEach [a] X.env=[(false,eval a X.env)]) (h1:∀e S d S',m e S=.ok d S'→∃x,d=.tup [x]):
  PI X tg (.Call (.Name "range" p) [a] [] pos) (LI X.K fun e S=>(m e S).bind fun y S1=>optD (rngOf y) S1):=by
 intro pins s σ H R I h
 obtain⟨env,S,β,J,S',rn,rs,e,go⟩:=h
 obtain⟨x,S1,e1,e⟩:=Res.bind_is e
 obtain⟨y,rfl⟩:=h1 _ _ _ _ e1
 cases y with
 |int j=>
  simp only [rngOf] at e
  split at e
  ·rename_i hc
   cases e
   refine ZhG hg hm ha hs pins s σ H R I ⟨env,S,β,_,_,rn,rs,e1,fun vs H1 β1 x1 r1 s1=>?_⟩
   obtain⟨z,rfl,rz⟩:=repL1 r1
   simp only [RepV] at rz
   subst rz
   have hj:=lg_lt hc
   exact⟨j,rfl,by omega,by omega,go _ _ _ x1 s1 Zgy⟩
  ·cases e
 |_=>cases e
theorem Zlt (hg:Gl X "range") (hm:X.mg "range" =none) (ha:PA X [a,b] (LA X.K m)) (hs:starEach [a,b] X.env=[(false,eval a X.env),(false,eval b X.env)]) (hs2:starEach [b] X.env=[(false,eval b X.env)]) (h1:∀e S d S',m e S=.ok d S'→∃x y,d=.tup [x,y]):
  PI X tg (.Call (.Name "range" p) [a,b] [] pos) (LI X.K fun e S=>(m e S).bind fun y S1=>optD (rngOf y) S1):=by
 intro pins s σ H R I h
 obtain⟨env,S,β,J,S',rn,rs,e,go⟩:=h
 obtain⟨x,S1,e1,e⟩:=Res.bind_is e
 obtain⟨y,z,rfl⟩:=h1 _ _ _ _ e1
 cases y with
 |int i=>
  cases z with
  |int j=>
   simp only [rngOf] at e
   split at e
   ·rename_i hc
    cases e
    refine ZhF hg hm ha hs hs2 pins s σ H R I ⟨env,S,β,_,_,rn,rs,e1,fun vs H1 β1 x1 r1 s1=>?_⟩
    have:=ints2 r1
    subst this
    have h1:=lg_lt hc.1
    have h2:=lg_lt hc.2
    exact⟨i,j,rfl,⟨by omega,by omega,by omega,by omega⟩,go _ _ _ x1 s1 Zgy⟩
   ·cases e
  |_=>cases e
 |_=>cases e
theorem Zls (hg:Gl X "range") (hm:X.mg "range" =none) (ha:PA X [a,b,c] (LA X.K m)) (hs:starEach [a,b,c] X.env=[(false,eval a X.env),(false,eval b X.env),(false,eval c X.env)]) (hs2:starEach [b,c] X.env=[(false,eval b X.env),(false,eval c X.env)]) (h1:∀e S d S',m e S=.ok d S'→∃x y z,d=.tup [x,y,z]):
  PI X tg (.Call (.Name "range" p) [a,b,c] [] pos) (LI X.K fun e S=>(m e S).bind fun y S1=>optD (rngOf y) S1):=by
 intro pins s σ H R I h
 obtain⟨env,S,β,J,S',rn,rs,e,go⟩:=h
 obtain⟨x,S1,e1,e⟩:=Res.bind_is e
 obtain⟨y,z,w,rfl⟩:=h1 _ _ _ _ e1
 cases y with
 |int i=>
  cases z with
  |int j=>
   cases w with
   |int k=>
    simp only [rngOf] at e
    split at e
    ·rename_i hc
     cases e
     refine ZhE hg hm ha hs hs2 pins s σ H R I ⟨env,S,β,_,_,rn,rs,e1,fun vs H1 β1 x1 r1 s1=>?_⟩
     have:=repL3 r1
     subst this
     have h1:=lg_lt hc.1
     have h2:=lg_lt hc.2.1
     have h3:=lg_lt hc.2.2.2
     exact⟨i,j,k,rfl,⟨by omega,by omega,by omega,by omega,hc.2.2.1,by omega⟩,go _ _ _ x1 s1 Zh2⟩
    ·cases e
   |_=>cases e
  |_=>cases e
 |_=>cases e
theorem Zlv {elts:List Expr} {k:Nat} {tpos:Pos} (hg:Gl X "enumerate") (hm:X.mg "enumerate" =none) (ha:PE X a (LE X.K ma)) (hs:starEach [a] X.env=[(false,eval a X.env)]):
  PI X (.Tuple elts k tpos) (.Call (.Name "enumerate" p) [a] [] pos) (LI X.K fun e S=>(ma e S).bind fun x S1=>(match x with| .tup xs=>.ok ⟨Zav 0 xs,none⟩ S1|_=>.no)):=by
 intro pins s σ H R I h
 obtain⟨env,S,β,J,S',rn,rs,e,go⟩:=h
 obtain⟨x,S1,e1,e⟩:=Res.bind_is e
 cases x with
 |tup ds=>
  cases e
  refine ZkM hg hm (Zcc ha Zdr hs) hs pins s σ H R I ⟨env,S,β,_,_,rn,rs,e1,fun v H1 β1 x1 r1 s1=>?_⟩
  simp only [RepV] at r1
  obtain⟨t,xs,rfl,q,l⟩:=r1
  exact⟨t,rfl,⟨xs,q⟩,go _ _ _ x1 s1 (Zh3 q l)⟩
 |_=>cases e
theorem Zlm {mi:Nv→Sto→Res Itm} {mg:D→Nv→Sto→Res Nv} {mbd:MS} {body:List Stmt} (hp:PassesOwn (model X.prog X.w) X.A X.env X.xe) (hc:X.calm=true) (hi:PI X tg iter (LI X.K mi)) (hg:PG X tg (LG X.K mg)) (hb:PSs X body (LS X mbd))
  (hs:∀x,foldedSetIterable iter X.env x=pure x):
  PS X (.For tg iter body [] pos) (LS X fun e S=>(mi e S).bind fun J S1=>loopD J (fun x e' S'=>(mg x e' S').bind fun e2 S2=>mbd e2 S2) J.items e S1):=by
 intro pins s σ H E I h
 obtain⟨env,S,β,r,S',rn,rs,e,fin⟩:=h
 obtain⟨J,S1,e1,e⟩:=Res.bind_is e
 refine ZmC hp hc hi hg hb hs pins s σ H E I ⟨env,S,β,J,S1,rn,rs,e1,fun It H1 β1 x1 s1 ok=>?_⟩
 refine⟨fun i mm σ2 H2=>mm=J.items.length-i∧i≤J.items.length∧∃env2 S2 β2,Ex X.K H1 β1 H2 β2∧RepN X.K H2 β2 env2 σ2∧RepS X.K H2 β2 S2∧loopD J (fun x e' S'=>(mg x e' S').bind fun e2 S2=>mbd e2 S2) (J.items.drop i) env2 S2=.ok r S',
  ⟨_,rfl,YaU _,env,S1,β1,Ex.refl,rn.mono x1,s1,by rw [List.drop_zero];exact e⟩,?_⟩
 rintro i mm σ2 H2 ⟨rfl,hi2,env2,S2,β2,x2,n2,s2,e2⟩
 by_cases hlt:i<J.items.length
 ·refine .inr ?_
  rw [YbD hlt] at e2
  simp only [loopD] at e2
  split at e2
  ·rename_i hst
   obtain⟨g1,g2⟩:=(ok i H2 β2 S2 x2 s2 hst).1 hlt
   obtain⟨f,S3,q3,e3⟩:=Res.bind_is e2
   obtain⟨env3,S3',q4,q5⟩:=Res.bind_is q3
   refine⟨g1,fun σ3 H3=>J.items.length- (i+1)<J.items.length-i∧∃env4 S4 β4,Ex X.K H1 β1 H3 β4∧RepN X.K H3 β4 env4 σ3∧RepS X.K H3 β4 S4∧loopD J (fun x e' S'=>(mg x e' S').bind fun e2 S2=>mbd e2 S2) (J.items.drop (i+1)) env4 S4=.ok r S',
    fun σ3 H3 h3=>⟨_,h3.1,rfl,hlt,h3.2⟩,fun x H' hy=>?_⟩
   obtain⟨d,hd,xd,rd,sd⟩:=g2 x H' hy
   have ed:J.items[i]=d:=by rw [Yaf hlt] at hd;exact Option.some.inj hd
   rw [ed] at q4
   refine⟨env2,S2,β2,d,env3,S3',rd,n2.mono xd,sd,q4,fun σ3 H3 β3 x3 n3 s3=>⟨env3,S3',β3,f,S3,n3,s3,q5,?_⟩⟩
   have xx:=(x2.trans xd).trans x3
   cases f with
   |nx e4=>exact fun σ4 H4 β4 x4 n4 s4=>⟨by omega,e4,S3,β4,xx.trans x4,n4,s4,e3⟩
   |ct e4=>exact fun σ4 H4 β4 x4 n4 s4=>⟨by omega,e4,S3,β4,xx.trans x4,n4,s4,e3⟩
   |bk e4=>cases e3;exact fun σ4 H4 β4 x4 n4 s4=>fin _ _ _ ((x1.trans xx).trans x4) n4 s4
   |rt d4=>cases e3;exact fun v H4 β4 x4 n4 s4=>fin _ _ _ ((x1.trans xx).trans x4) n4 s4
   |ex c4 e4=>cases e3;exact XO.mono fin (x1.trans xx)
  ·cases e2
 ·have ei:i=J.items.length:=by omega
  refine .inl ?_
  subst ei
  rw [List.drop_eq_nil_of_le (Yad _)] at e2
  simp only [loopD] at e2
  split at e2
  ·rename_i hst
   cases e2
   exact⟨(ok _ H2 β2 _ x2 s2 hst).2 rfl,fin _ _ _ (x1.trans x2) n2 s2⟩
  ·cases e2
theorem Zjl {c:Expr} {body:List Stmt} {mc:M} {mbd:MS} {n:Nat} (hp:PassesOwn (model X.prog X.w) X.A X.env X.xe) (hc:PT X c (LT X.K mc)) (hb:PSs X body (LS X mbd)):PS X (.While c body [] pos) (LS X fun e S=>whD mc mbd n e S):=by
 intro pins s σ H E I h
 obtain⟨env,S,β,r,S',rn,rs,e,fin⟩:=h
 refine ZiV hp hc hb pins s σ H E I ⟨fun m σ2 H2=>∃env2 S2 β2,Ex X.K H β H2 β2∧RepN X.K H2 β2 env2 σ2∧RepS X.K H2 β2 S2∧whD mc mbd m env2 S2=.ok r S',⟨n,env,S,β,Ex.refl,rn,rs,e⟩,?_⟩
 rintro m σ2 H2 ⟨env2,S2,β2,x2,n2,s2,e2⟩
 cases m with
 |zero=>cases e2
 |succ m=>
  simp only [whD] at e2
  obtain⟨x,S3,q3,e3⟩:=Res.bind_is e2
  cases x with
  |bl k=>
   refine⟨env2,S2,β2,k,S3,n2,s2,q3,fun H3 β3 x3 s3=>?_⟩
   cases k with
   |true=>
    rw [if_pos rfl]
    obtain⟨f,S4,q4,e4⟩:=Res.bind_is e3
    refine⟨fun σ' H'=>∃env4 S4 β4,Ex X.K H β H' β4∧RepN X.K H' β4 env4 σ'∧RepS X.K H' β4 S4∧whD mc mbd m env4 S4=.ok r S',fun σ' H' h=>⟨m,Nat.lt_succ_self m,h⟩,env2,S3,β3,f,S4,n2.mono x3,s3,q4,?_⟩
    have xx:=x2.trans x3
    cases f with
    |nx e5=>exact fun σ4 H4 β4 x4 n4 s4=>⟨e5,S4,β4,xx.trans x4,n4,s4,e4⟩
    |ct e5=>exact fun σ4 H4 β4 x4 n4 s4=>⟨e5,S4,β4,xx.trans x4,n4,s4,e4⟩
    |bk e5=>cases e4;exact fun σ4 H4 β4 x4 n4 s4=>fin _ _ _ (xx.trans x4) n4 s4
    |rt d5=>cases e4;exact fun v H4 β4 x4 n4 s4=>fin _ _ _ (xx.trans x4) n4 s4
    |ex c5 e5=>cases e4;exact XO.mono fin xx
   |false=>
    rw [if_neg Yal]
    cases e3
    exact fin _ _ _ (x2.trans x3) (n2.mono x3) s3
  |_=>cases e3
theorem ZlY {K:Yab} {H:Hp} {β:List Addr} {env:Nv} {σ:L2.St} (rn:RepN K H β env σ) (cap:List (Option Nat)):RepN K H β (captD env cap) (capt σ cap):=by
 refine⟨by unfold captD capt;rw [Yak,Yak],fun j d h=>?_⟩
 unfold captD at h
 unfold capt
 rw [Yam] at h⊢
 cases hc:cap[j]? with
 |none=>rw [hc] at h;cases h
 |some o=>
  rw [hc] at h
  cases o with
  |none=>cases h
  |some i=>
   have h':(env[i]?).join=some d:=Option.some.inj h
   have h2:env[i]?=some (some d):=by
    cases hz:env[i]? with
    |none=>rw [hz] at h';cases h'
    |some z=>rw [hz] at h';have:z=some d:=h';rw [this]
   obtain⟨v,q,r⟩:=rn.get i d h2
   exact⟨v,by show some ((σ[i]?).join)=_;rw [q];rfl,r⟩
noncomputable abbrev bodyC (mg:D→Nv→Sto→Res Nv) (mcd me:M):D→Nv→Sto→Res (Nv×Option D):=fun x e' S'=>
 (mg x e' S').bind fun e2 S2=>(mcd e2 S2).bind fun k S3=>(match k with
  | .bl true=>(me e2 S3).bind fun d S4=>.ok (e2,some d) S4
  | .bl false=>.ok (e2,none) S3
  |_=>.no)
theorem Zgb {K:Yab} {cap:List (Option Nat)} {mi:Nv→Sto→Res Itm} {mg:D→Nv→Sto→Res Nv} {mcd me:M} {σ:L2.St} {H:Hp} {Q:VK}
  (h:LE K (fun e S=>(mi e S).bind fun J S1=>compD J S1.length (bodyC mg mcd me) J.items (captD e cap) (S1++[.lst []])) σ H Q):tComp cap (LI K mi) (LG K mg) (LT K mcd) (LE K me) σ H Q:=by
 obtain⟨env,S,β,d,S',rn,rs,e,go⟩:=h
 obtain⟨J,S1,e1,e⟩:=Res.bind_is e
 refine⟨env,S,β,J,S1,rn,rs,e1,fun It H1 β1 x1 s1 ok p hp=>?_⟩
 have xL:Ex K H1 β1 (upd H1 p (.lst [])) (β1++[p]):=Ex.newL hp
 have sL:RepS K (upd H1 p (.lst [])) (β1++[p]) (S1++[.lst []]):=s1.newL hp (by simp [RepL])
 have bp:(β1++[p])[S1.length]?=some p:=by rw [←s1.len,Yav (Yad _)];simp
 refine⟨fun i mm σ2 H2=>mm=J.items.length-i∧i≤J.items.length∧∃env2 S2 β2,Ex K (upd H1 p (.lst [])) (β1++[p]) H2 β2∧RepN K H2 β2 env2 σ2∧RepS K H2 β2 S2∧compD J S1.length (bodyC mg mcd me) (J.items.drop i) env2 S2=.ok d S',
  ⟨_,rfl,YaU _,captD env cap,S1++[.lst []],β1++[p],Ex.refl,ZlY (rn.mono (x1.trans xL)) cap,sL,by rw [List.drop_zero];exact e⟩,?_⟩
 rintro i mm σ2 H2 ⟨rfl,hi2,env2,S2,β2,x2,n2,s2,e2⟩
 by_cases hlt:i<J.items.length
 ·refine .inr ?_
  rw [YbD hlt] at e2
  simp only [compD] at e2
  split at e2
  ·rename_i hst
   obtain⟨g1,g2⟩:=(ok i H2 β2 S2 (xL.trans x2) s2 hst).1 hlt
   obtain⟨f,S3,q3,e3⟩:=Res.bind_is e2
   obtain⟨env3,S4,q4,q5⟩:=Res.bind_is q3
   obtain⟨k,S5,q6,q7⟩:=Res.bind_is q5
   refine⟨g1,fun σ3 H3=>J.items.length- (i+1)<J.items.length-i∧∃env4 S4 β4,Ex K (upd H1 p (.lst [])) (β1++[p]) H3 β4∧RepN K H3 β4 env4 σ3∧RepS K H3 β4 S4∧compD J S1.length (bodyC mg mcd me) (J.items.drop (i+1)) env4 S4=.ok d S',
    fun σ3 H3 h3=>⟨_,h3.1,rfl,hlt,h3.2⟩,fun x H' hy=>?_⟩
   obtain⟨dd,hd,xd,rd,sd⟩:=g2 x H' hy
   have ed:J.items[i]=dd:=by rw [Yaf hlt] at hd;exact Option.some.inj hd
   rw [ed] at q4
   refine⟨env2,S2,β2,dd,env3,S4,rd,n2.mono xd,sd,q4,fun σ3 H3 β3 x3 n3 s3=>?_⟩
   cases k with
   |bl kk=>
    refine⟨env3,S4,β3,kk,S5,n3,s3,q6,fun H4 β4 x4 s4=>?_⟩
    have xx:=((x2.trans xd).trans x3).trans x4
    cases kk with
    |true=>
     obtain⟨dv,S6,q8,q9⟩:=Res.bind_is q7
     cases q9
     dsimp only
     rw [if_pos rfl]
     obtain⟨u0,S7,q10,e3⟩:=Res.bind_is e3
     refine⟨env3,S5,β4,dv,_,n3.mono x4,s4,q8,fun y H5 β5 x5 r5 s5=>?_⟩
     have b5:=(xx.trans x5).get bp
     simp only [appD] at q10
     split at q10
     ·rename_i ws hw
      split at q10
      ·rename_i hlen
       cases q10
       obtain⟨zs,hz,lz⟩:=s5.cell _ _ _ b5 hw
       refine⟨zs,hz,Yax (by rw [←lz.length];exact hlen) (by decide),by omega,env3,_,β5,(xx.trans x5).trans (Ex.setL hz),((n3.mono x4).mono x5).mono (Ex.setL hz),s5.setL b5 hw (lz.append (RepL.cons r5 (by simp [RepL]))),e3⟩
      ·cases q10
     ·cases q10
    |false=>
     cases q7
     dsimp only
     rw [if_neg Yal]
     exact⟨by omega,env3,_,β4,xx,n3.mono x4,s4,e3⟩
   |_=>cases q7
  ·cases e2
 ·have ei:i=J.items.length:=by omega
  refine .inl ?_
  subst ei
  rw [List.drop_eq_nil_of_le (Yad _)] at e2
  simp only [compD] at e2
  split at e2
  ·rename_i hst
   cases e2
   exact⟨(ok _ H2 β2 _ (xL.trans x2) s2 hst).2 rfl,go _ _ _ ((x1.trans xL).trans x2) (by simp only [RepV];exact⟨p,rfl,x2.get bp,x2.lsp p ⟨[],SqL.of Zaq⟩⟩) s2⟩
  ·cases e2
theorem Zhj {K:Yab} {X:Cx} {cap:List (Option Nat)} {mi:Nv→Sto→Res Itm} {mg:D→Nv→Sto→Res Nv} {mcd me:M} {gt:TG} {st:Stmt} (h:PS X st (tAsg (tComp cap (LI K mi) (LG K mg) (LT K mcd) (LE K me)) gt)):
  PS X st (tAsg (LE K (fun e S=>(mi e S).bind fun J S1=>compD J S1.length (bodyC mg mcd me) J.items (captD e cap) (S1++[.lst []]))) gt):=
 fun pins s σ H E I q=>h pins s σ H E I (Zgb q)
theorem ZlB {cap:List (Option Nat)} {mi:Nv→Sto→Res Itm} {mg:D→Nv→Sto→Res Nv} {mcd me:M} {ex:Expr} (h:PE X ex (tComp cap (LI X.K mi) (LG X.K mg) (LT X.K mcd) (LE X.K me))):
  PE X ex (LE X.K (fun e S=>(mi e S).bind fun J S1=>compD J S1.length (bodyC mg mcd me) J.items (captD e cap) (S1++[.lst []]))):=fun pins s σ H Q I q=>h pins s σ H Q I (Zgb q)
noncomputable def spD (K:Yab) (np:Nat) (F:List D→Sto→Res D):Sp:=fun vs H Q _=>vs.length=np∧∃ds S β d S',RepL K H β ds vs∧RepS K H β S∧F ds S=.ok d S'∧Go K H β S' d Q
theorem ZlC {k np:Nat} {f:Addr} {fd:FuncData} {ps:List Str} {x:Str} {F:List D→Sto→Res D} {sp:Sp} (Fo:FnOk X.prog X.w X.K X.mg X.base (CXm X.prog X.w) k f fd ps sp) (hsp:∀vs H Q E,spD X.K np F vs H Q E→sp vs H Q E) (hr:Room k X.A) (hg:Gl X x) (hm:X.mg x=some (.ref f))
  (hk:Ya6 X.K (.ref f)=true) (hb:Binds X.K fd ps []) (ha:PA X (a::es) (LA X.K m)) (hdb:(x==("__debug__" :Str))=false) (he:starEach (a::es) X.env=(false,eval a X.env)::starEach es X.env)
  (hpl:(backTo pos (starEach es X.env)).any (·.1)=false) (hnp:∀ds S d S',F ds S=.ok d S'→ds.length=np):
  PE X (.Call (.Name x p) (a::es) [] pos) (LE X.K fun e S=>(m e S).bind fun y S1=>(match y with| .tup ys=>F ys S1|_=>.no)):=by
 intro pins s σ H Q I h
 obtain⟨env,S,β,d,S',rn,rs,e,go⟩:=h
 obtain⟨y,S1,e1,e⟩:=Res.bind_is e
 cases y with
 |tup ys=>
  refine ZkV Fo hr hg hm hk hb .nil passM ha hdb he hpl pins s σ H Q I ⟨env,S,β,ys,S1,rn,rs,e1,fun vs H1 β1 x1 r1 s1=>?_⟩
  show sp (vs++[]) H1 Q E0
  rw [Ybo]
  exact hsp _ _ _ _ ⟨by rw [←r1.length];exact hnp _ _ _ _ e,ys,S1,β1,d,S',r1,s1,e,go.mono x1⟩
 |_=>cases e
theorem Zjp {k:Nat} {f:Addr} {fd:FuncData} {ps:List Str} {x:Str} {F:List D→Sto→Res D} {sp:Sp} (Fo:FnOk X.prog X.w X.K X.mg X.base (CXm X.prog X.w) k f fd ps sp) (hsp:∀vs H Q E,spD X.K 0 F vs H Q E→sp vs H Q E) (hr:Room k X.A) (hg:Gl X x) (hm:X.mg x=some (.ref f))
  (hk:Ya6 X.K (.ref f)=true) (hb:Binds X.K fd ps []) (hdb:(x==("__debug__" :Str))=false):
  PE X (.Call (.Name x p) [] [] pos) (LE X.K fun e S=>((Res.ok (.tup []) S:Res D)).bind fun y S1=>(match y with| .tup ys=>F ys S1|_=>.no)):=by
 intro pins s σ H Q I h
 obtain⟨env,S,β,d,S',rn,rs,e,go⟩:=h
 exact Zi6 Fo hr hg hm hk hb .nil passM hdb pins s σ H Q I (hsp _ _ _ _ ⟨rfl,[],S,β,d,S',by simp [RepL],rs,e,go⟩)
noncomputable def spX (K:Yab) (np:Nat) (F:List D→Sto→Res D):Sp:=fun vs H Q E=>vs.length=np∧∃ds S β r S',RepL K H β ds vs∧RepS K H β S∧F ds S=.ok r S'∧
 ((∃d,r=.tup [d]∧Go K H β S' d Q)∨∃c,r=.exo c∧∀a C H' β',Ex K H β H' β'→RepS K H' β' S'→ClsF K c C→E (.ref a) (some C) H')
noncomputable def spB (K:Yab) (np:Nat) (F G:List D→Sto→Res D):Sp:=fun vs H Q E=>spD K np F vs H Q E∨spX K np G vs H Q E
section
variable {pins:List (Addr×Obj)} {σ:L2.St} {H:Hp} {s:Shared} {β:List Addr} {S S1 S2:Sto} {env:Nv} {ys:List D} {r:D} {Q:VK} {k np:Nat} {f:Addr} {fd:FuncData} {ps:List Str} {x:Str} {F:List D→Sto→Res D} {sp:Sp}
variable {cpos:Pos}
end
theorem ZnG {x:Str} {id:String} {bb:Bl} (hc:CallR X (.builtin id) (rB X.K bb)) (hg:Gl X x) (hm:X.mg x=none) (hv:bootBuiltins x=some (.builtin id)) (ha:PA X (a::es) (LA X.K m)) (hn:x≠ "__name__") (hdb:(x==("__debug__" :Str))=false)
  (he:starEach (a::es) X.env=(false,eval a X.env)::starEach es X.env) (hpl:(backTo pos (starEach es X.env)).any (·.1)=false):
  PE X (.Call (.Name x p) (a::es) [] pos) (LE X.K fun e S=>(m e S).bind fun y S1=>(match y with| .tup ys=>bltD bb ys S1|_=>.no)):=by
 intro pins s σ H Q I h
 obtain⟨env,S,β,d,S',rn,rs,e,go⟩:=h
 obtain⟨y,S1,e1,e⟩:=Res.bind_is e
 cases y with
 |tup ys=>exact Zi5 hc hg hm hv ha hn hdb he hpl pins s σ H Q I ⟨env,S,β,ys,S1,rn,rs,e1,fun vs H1 β1 x1 r1 s1=>⟨β1,S1,ys,d,S',r1,s1,e,go.mono x1⟩⟩
 |_=>cases e
theorem ZnF {x:Str} {T:String} {bb:Bl} (hc:CallR X (.type T) (rB X.K bb)) (hg:Gl X x) (hm:X.mg x=none) (hv:bootBuiltins x=some (.type T)) (ha:PA X (a::es) (LA X.K m)) (hn:x≠ "__name__") (hdb:(x==("__debug__" :Str))=false)
  (he:starEach (a::es) X.env=(false,eval a X.env)::starEach es X.env) (hpl:(backTo pos (starEach es X.env)).any (·.1)=false):
  PE X (.Call (.Name x p) (a::es) [] pos) (LE X.K fun e S=>(m e S).bind fun y S1=>(match y with| .tup ys=>bltD bb ys S1|_=>.no)):=by
 intro pins s σ H Q I h
 obtain⟨env,S,β,d,S',rn,rs,e,go⟩:=h
 obtain⟨y,S1,e1,e⟩:=Res.bind_is e
 cases y with
 |tup ys=>exact ZhI hc hg hm hv ha hn hdb he hpl pins s σ H Q I ⟨env,S,β,ys,S1,rn,rs,e1,fun vs H1 β1 x1 r1 s1=>⟨β1,S1,ys,d,S',r1,s1,e,go.mono x1⟩⟩
 |_=>cases e
theorem Zhe {K:Yab} {H:Hp} {β:List Addr} {S:Sto} {n:Nat} {v:V} (r:RepV K H β (.obj n) v) (s1:RepS K H β S):tyV K "list" v H:=by
 simp only [RepV] at r
 obtain⟨a,rfl,_,h⟩:=r
 exact .inl ⟨rfl,h⟩
theorem Zld {m:Mt} {dx dy d:D} {S S':Sto} (h:mthD m dx dy S=.ok d S'):∃n,dx=.obj n:=by
 cases m with
 |pop=>
  replace h:m_pop dx dy S=.ok d S':=h
  cases dx with
  |obj n=>exact⟨n,rfl⟩
  |_=>cases h
 |ext=>
  replace h:m_ext dx dy S=.ok d S':=h
  cases dx with
  |obj n=>exact⟨n,rfl⟩
  |_=>cases h
 |idx=>
  replace h:m_idx dx dy S=.ok d S':=h
  cases dx with
  |obj n=>exact⟨n,rfl⟩
  |_=>cases h
 |cnt=>
  replace h:m_cnt dx dy S=.ok d S':=h
  cases dx with
  |obj n=>exact⟨n,rfl⟩
  |_=>cases h
theorem _root_.L2.go_dict {K:Yab} {H:Hp} {β:List Addr} {S:Sto} {Q:VK} {p:Addr} (rs:RepS K H β S) (hp:H p=none) (go:Go K H β S (.exo "") Q):Q (.ref p) (upd H p (.dT [])):=
 go _ _ _ (Ex.newD hp) (by simp only [RepV];refine⟨p,rfl,?_⟩;rw [if_pos trivial];exact Zaq) (rs.newD hp)
theorem Znz {X:Cx} {pos:Pos}:PE X (.Dict [] [] pos) (LE X.K fun _ S=>.ok (.exo "") S):=by
 intro pins s σ H Q I hq
 obtain⟨env,S,β,d,S',rn,rs,e,go⟩:=hq
 cases e
 exact Zi2 pins s σ H Q I fun p hp=>L2.go_dict rs hp go
theorem ZlA {X:Cx} {pos:Pos}:PE X (.Dict [] [] pos) (LE X.K fun _ S=>dspD [] (.tup []) S):=by
 intro pins s σ H Q I hq
 obtain⟨env,S,β,d,S',rn,rs,e,go⟩:=hq
 replace e:dspD [] (.tup []) S=.ok d S':=e
 rw [show dspD [] (.tup []) S=.ok (.dic S.length) (S++[.dct []]) by simp [dspD,mkv]] at e
 cases e
 refine Zi3 pins s σ H Q I fun p hp hk=>go _ _ _ (Ex.newP hp) ?_ (rs.newK hp)
 simp only [RepV]
 exact⟨p,rfl,by rw [←rs.len,Yav (Yad _)];simp⟩
theorem ZnC {X:Cx} {pos:Pos} {keys:List (Option Expr)} {values:List Expr} {ks:List Key} {m:M} (h:PPd X pos keys values ks (LA X.K m)) (hall:keys.all (·.isSome)=true) (hl:keys.length=values.length) (h0:keys≠[]) (h15:keys.length≤15) (hk:ks.length≤15):
  PE X (.Dict keys values pos) (LE X.K fun e S=>(m e S).bind fun y S1=>dspD ks y S1):=by
 intro pins s σ H Q I hq
 obtain⟨env,S,β,d,S',rn,rs,e,go⟩:=hq
 obtain⟨y,S1,e1,e⟩:=Res.bind_is e
 cases y with
 |tup ys=>
  simp only [dspD] at e
  split at e
  ·rename_i hys
   cases e
   refine ZkS h hall hl h0 h15 hk pins s σ H Q I fun p hp hkp=>?_
   have hn:p∉β:=rs.notin hp hkp
   have x0:Ex X.K H β (upd H p (.dK [])) β:=Ex.new hp
   refine⟨env,S,β,ys,S1,rn.mono x0,?_,e1,fun vs H2 β2 x2 r2 s2=>?_⟩
   ·exact⟨rs.len,fun n a c h1 h2=>by
     have C:=rs.cell n a c h1 h2
     by_cases ea:a=p
     ·exact absurd (Yay h1) (by rw [ea];exact hn)
     ·exact C.keep x0 fun o q=>by rw [Zaf ea];exact q,rs.ne,rs.ned⟩
   ·obtain⟨n2,hp2⟩:=x2.hld p hn Zaq
    have ex:=Ex.mkK (o:=.dK (mkv [] (ks.zip vs))) hp hn x2
    have zz:∀{ds:List D} {xs:List V} {kk:List Key},RepL X.K H2 β2 ds xs→ZK (RepV X.K H2 β2) (kk.zip ds) (kk.zip xs):=by
     intro ds
     induction ds with
     |nil=>intro xs kk r;rw [RepL.nil_iff] at r;subst r;rw [List.zip_nil_right,List.zip_nil_right];exact .nil
     |cons d ds ih=>
      intro xs kk r
      simp only [RepL] at r
      obtain⟨x,r',rfl,h1,h2⟩:=r
      cases kk with
      |nil=>exact .nil
      |cons k kk=>exact .cons ⟨rfl,h1⟩ (ih h2)
    refine⟨hp2,fun _=>go _ _ _ ex ?_ (s2.mkK hp2 n2 ((zz r2).merge .nil))⟩
    simp only [RepV]
    exact⟨p,rfl,by rw [←s2.len,Yav (Yad _)];simp⟩
  ·cases e
 |_=>cases e
noncomputable def ZjO (K:Yab):V→List V→Hp→VK→Prop:=fun x vs H Q=>∃β S dx dy d S',RepL K H β dy vs∧RepV K H β dx x∧RepS K H β S∧dgtD dx (.tup dy) S=.ok d S'∧Go K H β S' d Q
theorem Zn5 {dx:D} {dy:List D} {S S':Sto} {d:D} (e:dgtD dx (.tup dy) S=.ok d S'):∃n y z k kvs,dx=.dic n∧dy=[y,z]∧keyD y=some k∧dwOf S n=some kvs∧d=(lkv kvs k).getD z∧S'=S:=by
 unfold dgtD at e
 split at e
 ·rename_i S0 n y z he
  injection he with he
  subst he
  split at e
  ·rename_i d' hd
   cases e
   obtain⟨k,hk,hd⟩:=Yaa.mp hd
   obtain⟨kvs,hc,hd⟩:=Yao.mp hd
   exact⟨n,y,z,k,kvs,rfl,rfl,hk,hc,hd.symm,rfl⟩
  ·cases e
 ·cases e
theorem Zm9 {X:Cx}:MtM X "dict.get" (ZjO X.K):=by
 intro pins s σ H x vs v us Q I rx rv h
 obtain⟨β,S,dx,dy,d,S',r2,r1,rs,e,go⟩:=h
 obtain⟨n,y,z,k,kvs,rfl,rfl,hk,hc,rfl,rfl⟩:=Zn5 e
 simp only [RepV] at r1
 obtain⟨a,rfl,hb⟩:=r1
 simp only [RepL] at r2
 obtain⟨vy,_,rfl,ry,vz,_,rfl,rz,rfl⟩:=r2
 obtain⟨hS,zs,q,r⟩:=dw_of rs hb hc
 refine Zlf pins s σ H _ _ v us Q I rx rv ⟨a,zs,k,vz,rfl,by rw [keyV hk ry],q,go _ _ _ Ex.refl ?_ rs⟩
 cases l:lkv kvs k with
 |none=>rw [r.lkn l];exact rz
 |some w=>obtain⟨w',e',rw'⟩:=r.lk l;rw [e'];exact rw'
theorem Zn4 {K:Yab} {H:Hp} {β:List Addr} {S:Sto} {x:D} {v:V} (r:RepV K H β x v) (rs:RepS K H β S) (e:isDw x S=true):tyV K "dict" v H:=by
 cases x with
 |dic n=>
  simp only [RepV] at r
  obtain⟨a,rfl,hb⟩:=r
  obtain⟨kvs,h⟩:=Ybm.mp e
  obtain⟨_,vs,q,_⟩:=dw_of rs hb h
  exact .inr (.inr (.inl ⟨rfl,.inl ⟨vs,q⟩⟩))
 |_=>cases e
theorem ZnB {X:Cx} {e:Expr} {ml mx:M} (pb:PE X e (tBM X.K "dict" (ZjO X.K) (LE X.K ml) (LA X.K mx))):PE X e (LE X.K fun e S=>(ml e S).bind fun x S1=>if isDw x S1=true then (mx e S1).bind fun y S2=>dgtD x y S2 else .no):=by
 intro pins s σ H Q I hq
 obtain⟨env,S,β,d,S',rn,rs,e,go⟩:=hq
 obtain⟨x,S1,e1,e⟩:=Res.bind_is e
 split at e
 ·rename_i hd
  obtain⟨y,S2,e2,e⟩:=Res.bind_is e
  obtain⟨ys,rfl⟩:∃ys,y=.tup ys:=by
   cases x with
   |dic n=>cases y with
    |tup ys=>exact⟨ys,rfl⟩
    |_=>cases e
   |_=>cases e
  exact pb pins s σ H Q I ⟨env,S,β,x,S1,rn,rs,e1,fun v1 H1 β1 x1 r1 s1=>⟨Zn4 r1 s1 hd,env,S1,β1,ys,S2,rn.mono x1,s1,e2,fun v2 H2 β2 x2 r2 s2=>⟨β2,S2,x,ys,d,S',r2,r1.mono x2,s2,e,go.mono (x1.trans x2)⟩⟩⟩
 ·cases e
theorem Zgt {X:Cx} {e:Expr} {m:Mt} {ml mx:M} (pb:PE X e (tBM X.K "list" (rMth X.K m) (LE X.K ml) (tCons (LE X.K mx) tNil))):PE X e (LE X.K fun e S=>(ml e S).bind fun y S1=>(mx e S1).bind fun d S2=>mthD m y d S2):=by
 intro pins s σ H Q I hq
 obtain⟨env,S,β,d,S',rn,rs,e,go⟩:=hq
 obtain⟨y,S1,e1,e⟩:=Res.bind_is e
 obtain⟨z,S2,e2,e⟩:=Res.bind_is e
 obtain⟨n,rfl⟩:=Zld e
 exact pb pins s σ H Q I ⟨env,S,β,.obj n,S1,rn,rs,e1,fun v1 H1 β1 x1 r1 s1=>⟨Zhe r1 s1,env,S1,β1,z,S2,rn.mono x1,s1,e2,fun v2 H2 β2 x2 r2 s2=>⟨β2,S2,.obj n,z,d,S',⟨v2,rfl,r2⟩,r1.mono x2,s2,e,go.mono (x1.trans x2)⟩⟩⟩
theorem ZnH {X:Cx} {e:Expr} {ml mx:M} (pb:PE X e (tBM X.K "list" (rApp X.K) (LE X.K ml) (tCons (LE X.K mx) tNil))):PE X e (LE X.K fun e S=>(ml e S).bind fun y S1=>(mx e S1).bind fun d S2=>appD y d S2):=by
 intro pins s σ H Q I hq
 obtain⟨env,S,β,d,S',rn,rs,e,go⟩:=hq
 obtain⟨y,S1,e1,e⟩:=Res.bind_is e
 obtain⟨z,S2,e2,e⟩:=Res.bind_is e
 obtain⟨n,rfl⟩:∃n,y=.obj n:=by
  cases y with
  |obj n=>exact⟨n,rfl⟩
  |_=>cases e
 exact pb pins s σ H Q I ⟨env,S,β,.obj n,S1,rn,rs,e1,fun v1 H1 β1 x1 r1 s1=>⟨Zhe r1 s1,env,S1,β1,z,S2,rn.mono x1,s1,e2,fun v2 H2 β2 x2 r2 s2=>⟨β2,S2,.obj n,z,d,S',⟨v2,rfl,r2⟩,r1.mono x2,s2,e,go.mono (x1.trans x2)⟩⟩⟩
theorem Zem {K:Yab} {H:Hp} {β:List Addr} {lo:Int}:∀{l:List Nat},RepL K H β (l.map fun(k:Nat)=>D.int (lo+k*1)) (l.map fun(k:Nat)=>V.int (lo+k*1))
 | []=>by simp [RepL]
 |a::l=>RepL.cons (by simp only [RepV]) Zem
theorem Zlz {X:Cx} {e:Expr} {m:M} (pb:PE X e (iLr (LA X.K m))):PE X e (LE X.K fun e S=>(m e S).bind fun y S1=>(match y with| .tup ys=>lrngD ys S1|_=>.no)):=by
 intro pins s σ H Q I hq
 obtain⟨env,S,β,d,S',rn,rs,e,go⟩:=hq
 obtain⟨y,S1,e1,e⟩:=Res.bind_is e
 cases y with
 |tup ys=>
  replace e:lrngD ys S1=.ok d S':=e
  refine pb pins s σ H Q I ⟨env,S,β,ys,S1,rn,rs,e1,fun vs H1 β1 x1 r1 s1=>?_⟩
  match ys,r1,e with
  | [.int j],r1,e=>
   simp only [lrngD] at e
   split at e
   ·rename_i hc
    cases e
    obtain⟨x,rfl,r⟩:=repL1 r1
    simp only [RepV] at r
    subst r
    have hj:=lg_lt hc.1
    refine⟨0,j,.inl ⟨rfl,rfl⟩,⟨by decide,by decide,by omega,by omega⟩,by simpa using hc.2,fun l hl=>?_⟩
    have:=Zc3 (p:=l) s1 hl (Zem (lo:=0) (l:=Yau (j-0).toNat)) (by rw [Int.sub_zero];exact go.mono x1)
    exact this
   ·cases e
  | [.int i,.int j],r1,e=>
   simp only [lrngD] at e
   split at e
   ·rename_i hc
    cases e
    obtain⟨x,y,rfl,r,r'⟩:=repL2 r1
    simp only [RepV] at r r'
    subst r r'
    have hj:=lg_lt hc.1
    have hj2:=lg_lt hc.2.1
    exact⟨i,j,.inr rfl,⟨by omega,by omega,by omega,by omega⟩,hc.2.2,fun l hl=>Zc3 (p:=l) s1 hl (Zem (lo:=i) (l:=Yau (j-i).toNat)) (go.mono x1)⟩
   ·cases e
  | [],_,e| [.non],_,e| [.bl _],_,e| [.str _],_,e| [.tup _],_,e| [.obj _],_,e| [.ty _],_,e| [.exo _],_,e| [.dic _],_,e=>simp [lrngD] at e
  | [.non,_],_,e| [.bl _,_],_,e| [.str _,_],_,e| [.tup _,_],_,e| [.obj _,_],_,e| [.ty _,_],_,e| [.exo _,_],_,e| [.dic _,_],_,e=>simp [lrngD] at e
  | [.int _,.non],_,e| [.int _,.bl _],_,e| [.int _,.str _],_,e| [.int _,.tup _],_,e| [.int _,.obj _],_,e| [.int _,.ty _],_,e| [.int _,.exo _],_,e| [.int _,.dic _],_,e=>simp [lrngD] at e
  |_::_::_::_,_,e=>simp [lrngD] at e
 |_=>cases e
end
end Py
namespace Py
open PySem L2 PySem.Spec PyProof.Rows
structure Cc where
 N:List Str
 sc:Scope
 fs:List Str
 gl:List (Str×D)
 fn:Str→Bool
 xt:XT
 lp:Bool
noncomputable def isLoc (sc:Scope) (x:Str):Bool:=sc.names.lookup x==some .local
noncomputable def Zb9 (sc:Scope) (x:Str):Bool:=sc.names.lookup x==some .cell
noncomputable def Zj0 (sc:Scope) (x:Str):Bool:=sc.names.lookup x==some .free
noncomputable def isGl (sc:Scope) (x:Str):Bool:=sc.names.lookup x==some .globalImplicit
noncomputable def odd (x:Str):Bool:=x==("__debug__" :Str)||x==("__classdict__" :Str)||x==("__name__" :Str)
noncomputable def slot (c:Cc) (x:Str):Option Nat:=c.N.findIdx? (· ==x)
noncomputable def cVar (c:Cc) (x:Str):Option Nat:=if (isLoc c.sc x||Zb9 c.sc x||Zj0 c.sc x)&& !odd x then slot c x else none
noncomputable def Zhd (x:Str):Option String:=
 if x==("int" :Str) then some "int" else if x==("bool" :Str) then some "bool" else if x==("str" :Str) then some "str" else if x==("tuple" :Str) then some "tuple"
 else if x==("list" :Str) then some "list" else if x==("dict" :Str) then some "dict" else none
noncomputable def cName (c:Cc) (x:Str):Option PX:=
 match cVar c x with
 |some i=>some (.var i)
 |none=>if isGl c.sc x&& !odd x then (match c.gl.lookup x with|some d=>some (.cst d)|none=>(Zhd x).map fun t=>.cst (.ty t)) else none
noncomputable def cBin:Operator→Option Op2
 | .Add=>some .add| .Sub=>some .sub| .Mult=>some .mul| .Mod=>some .mod| .FloorDiv=>some .fdiv| .Pow=>some .pow| .LShift=>some .shl| .RShift=>some .shr| .BitAnd=>some .band|_=>none
noncomputable def cCmp:CmpOp→Option Op2
 | .Eq=>some .eq| .NotEq=>some .ne| .Lt=>some .lt| .LtE=>some .le| .Gt=>some .gt| .GtE=>some .ge| .Is=>some .is| .IsNot=>some .isn| .In=>some .mem| .NotIn=>some .nmem
noncomputable def bfOf (x:Str):Option Bl:=
 if x==("len" :Str) then some .len else if x==("all" :Str) then some .all else if x==("any" :Str) then some .any else if x==("divmod" :Str) then some .divmod
 else if x==("max" :Str) then some .max else if x==("min" :Str) then some .min else if x==("isinstance" :Str) then some .isi else if x==("sum" :Str) then some .sum else none
noncomputable def btOf (x:Str):Option Bl:=
 if x==("tuple" :Str) then some .tuple else if x==("list" :Str) then some .list else if x==("int" :Str) then some .int else if x==("str" :Str) then some .str else none
noncomputable def Zgl (sc osc:Scope):Scope:=
 {sc with names:=sc.names.map fun(n,k)=>if (k==.free&&osc.kind==.function&&osc.names.lookup n==some .cell) then (n,.cell) else (n,k)}
noncomputable def Zd8 (sc:Scope):List Str:=(sc.names.filter fun x=>x.2==.local||x.2==.free||x.2==.cell).map (·.1)
noncomputable def capC (c:Cc) (sc:Scope):List (Option Nat):=(Zd8 sc).map fun x=>if sc.names.lookup x==some .free then slot c x else none
noncomputable def ZcU (c:Cc) (sc:Scope):Bool:=
 sc.kind==.function&&decide ((sc.names.map (·.1)).Nodup)&&sc.names.all (fun x=>x.2 !=.local||sc.names.lookup x.1==some .local)&&
  sc.names.all (fun x=>x.2 !=.free||Zb9 c.sc x.1||Zj0 c.sc x.1)&&decide ((Zd8 sc).Nodup)
noncomputable def ctxC (c:Cc) (sc:Scope):Cc:={N:=Zd8 sc,sc:=Zgl sc c.sc,fs:=c.fs,gl:=c.gl,fn:=fun x=>sc.names.lookup x==some .cell,xt:=c.xt,lp:=true}
noncomputable def Zgr (c:Cc) (x:Str) (es:List Expr):Option (Bool×List Expr):=match es with
 | [.Call (.Name y _) as [] _]=>if x==("list" :Str)&&y==("range" :Str)&&isGl c.sc x&&isGl c.sc y&& !as.isEmpty then some (false,as) else none
 |_=>none
noncomputable def lrPX:Bool→PX→PX
 |false,l=>.lrng l
 |true,l=>.lrng l
noncomputable def ZgM (c:Cc) (x:Str) (emp:Bool) (l:Option PX):Option PX:=if isGl c.sc x&& !odd x then
  (match c.fs.findIdx? (· ==x) with
  |some f=>l.bind fun l=>some (.call f l)
  | none => if emp then none else (match bfOf x with
   |some b=>l.bind fun l=>some (.blt b l)
   |none=>(btOf x).bind fun b=>l.bind fun l=>some (.blt b l))) else none
noncomputable def mtOf (m:Str):Option (PX→PX→PX):=if m==("append" :Str) then some .app else if m==("pop" :Str) then some (.mth .pop) else if m==("extend" :Str) then some (.mth .ext) else if m==("index" :Str) then some (.mth .idx) else if m==("count" :Str) then some (.mth .cnt) else none
noncomputable def revOf:Expr→Bool
 | .Slice none none (some (.UnaryOp .USub (.Constant (.int i) _ _) _)) _=>i==1
 |_=>false
noncomputable def stOf:Expr→Option Int
 | .Slice none none (some (.Constant (.int i) _ _)) _=>some i
 |_=>none
noncomputable def isDn (c:Cc):Expr→Bool
 | .Name x _=>c.xt.ds.contains x
 |_=>false
noncomputable def Zb8:List (Option Expr)→Option (List Key)
 | []=>some []
 |some (.Constant (.str s) _ _)::r=>(Zb8 r).map (.inr s:: ·)
 |some (.Constant (.int i) _ _)::r=>(Zb8 r).map (.inl i:: ·)
 |_=>none
mutual
noncomputable def cE:Nat→Cc→Expr→Option PX
 |0,_,_=>none
 |n+1,c,e=>match e with
  | .Constant k _ _=>(match k with| .int i=>some (.cst (.int i))| .bool b=>some (.cst (.bl b))| .none=>some (.cst .non)| .str s=>some (.cst (.str s))|_=>none)
  | .Name x _=>cName c x
  | .BinOp a o b _=>(cBin o).bind fun o'=>(cE n c a).bind fun a'=>(cE n c b).bind fun b'=>some (.op o' a' b')
  | .UnaryOp .Not a _=>(cE n c a).bind fun a'=>some (.not a')
  | .UnaryOp .USub a _=>(cE n c a).bind fun a'=>some (.neg a')
  | .BoolOp .And es _=>cAnd n c es
  | .BoolOp .Or es _=>cOr n c es
  | .Compare a [o] [b] _=>(cCmp o).bind fun o'=>(cE n c a).bind fun a'=>(cE n c b).bind fun b'=>some (.op o' a' b')
  | .Compare a [o,p] [b,d] _=>(cCmp o).bind fun o'=>(cCmp p).bind fun p'=>(cE n c a).bind fun a'=>(cE n c b).bind fun b'=>(cE n c d).bind fun d'=>some (.chn o' p' a' b' d')
  | .IfExp t a b _=>(cT n c t).bind fun t'=>(cE n c a).bind fun a'=>(cE n c b).bind fun b'=>some (.ife t' a' b')
  | .Tuple es _ _=>(cL n c es).bind fun l=>some (.tup l)
  | .List es _=>(cL n c es).bind fun l=>some (.lst l)
  | .Dict [] [] _=>some .dnw
  | .Dict ks vs _=>(Zb8 ks).bind fun ks'=>if decide (ks.length=vs.length)&& !ks.isEmpty&&decide (ks.length≤15) then (cL n c vs).bind fun l=>some (.ddp ks' l) else none
  | .Subscript a (.Slice lo hi none _) _=>(cE n c a).bind fun a'=>(cO n c lo).bind fun lo'=>(cO n c hi).bind fun hi'=>some (.slc a' lo' hi')
  | .Subscript a i _ => if isDn c a then (cE n c a).bind fun a' => (cE n c i).bind fun i' => some (.dix a' i') else (match stOf i with
   |some k=>if 0<k then (cE n c a).bind fun a'=>some (.stp a' k.toNat) else none
   |none=>if revOf i then (cE n c a).bind fun a'=>some (.rev a') else (cE n c a).bind fun a'=>(cE n c i).bind fun i'=>some (.idx a' i'))
  | .Call (.Name x _) es [] _ => (match Zgr c x es with
    |some as=>(cL n c as.2).bind fun l=>some (lrPX as.1 l)
    |none=>ZgM c x es.isEmpty (cL n c es))
  | .Call (.Attribute (.Name l pl) m apos) [] [] cpos=>if m==("upper" :Str)&&apos.endLine==cpos.line then (cE n c (.Name l pl)).bind fun l'=>some (.upp l') else none
  | .Call (.Attribute (.Name l pl) m apos) [x] [] cpos=>if apos.endLine==cpos.line then (mtOf m).bind fun f=>(cE n c (.Name l pl)).bind fun l'=>(cE n c x).bind fun x'=>some (f l' x') else none
  | .Call (.Attribute (.Name l pl) m apos) [x,y] [] cpos=>if m==("get" :Str)&&apos.endLine==cpos.line then (cE n c (.Name l pl)).bind fun l'=>(cL n c [x,y]).bind fun a'=>some (.dgt l' a') else none
  | .ListComp elt [⟨tg,iter,ifs,asy⟩] sc _=>if asy==0&&ZcU c sc then (cI n c tg iter).bind fun it=>(cG n (ctxC c sc) tg).bind fun t=>(cF n (ctxC c sc) ifs).bind fun f=>(cE n (ctxC c sc) elt).bind fun x=>some (.comp (capC c sc) t it f x) else none
  |_=>none
noncomputable def cO:Nat→Cc→Option Expr→Option PX
 |0,_,_=>none
 |_+1,_,none=>some .noe
 |n+1,c,some e=>(cE n c e).bind fun e'=>some (.bnd e')
noncomputable def cF:Nat→Cc→List Expr→Option PX
 |0,_,_=>none
 |_+1,_,[]=>some (.cst (.bl true))
 |n+1,c,[e]=>cT n c e
 |_+1,_,_::_::_=>none
noncomputable def cT:Nat→Cc→Expr→Option PX
 |0,_,_=>none
 |n+1,c,e=>match e with
  | .UnaryOp .Not a _=>(cT n c a).bind fun a'=>some (.not a')
  | .BoolOp .And es _=>cAndT n c es
  | .BoolOp .Or es _=>cOrT n c es
  | .Compare a [o] [b] _=>(cCmp o).bind fun o'=>(cE n c a).bind fun a'=>(cE n c b).bind fun b'=>some (.op o' a' b')
  | .Compare a [o,p] [b,d] _=>(cCmp o).bind fun o'=>(cCmp p).bind fun p'=>(cE n c a).bind fun a'=>(cE n c b).bind fun b'=>(cE n c d).bind fun d'=>some (.chn o' p' a' b' d')
  | .Compare .. =>none
  | .IfExp .. =>none
  | .UnaryOp .. =>none
  |e=>(cE n c e).bind fun e'=>some (.tru e')
noncomputable def cL:Nat→Cc→List Expr→Option PX
 |0,_,_=>none
 |_+1,_,[]=>some .nil
 |n+1,c,e::es=>(cE n c e).bind fun e'=>(cL n c es).bind fun l=>some (.cons e' l)
noncomputable def cAnd:Nat→Cc→List Expr→Option PX
 |0,_,_=>none
 |_+1,_,[]=>none
 |n+1,c,[e]=>cE n c e
 |n+1,c,e::f::es=>(cE n c e).bind fun e'=>(cAnd n c (f::es)).bind fun l=>some (.and e' l)
noncomputable def cOr:Nat→Cc→List Expr→Option PX
 |0,_,_=>none
 |_+1,_,[]=>none
 |n+1,c,[e]=>cE n c e
 |n+1,c,e::f::es=>(cE n c e).bind fun e'=>(cOr n c (f::es)).bind fun l=>some (.or e' l)
noncomputable def cAndT:Nat→Cc→List Expr→Option PX
 |0,_,_=>none
 |_+1,_,[]=>none
 |n+1,c,[e]=>cT n c e
 |n+1,c,e::f::es=>(cT n c e).bind fun e'=>(cAndT n c (f::es)).bind fun l=>some (.and e' l)
noncomputable def cOrT:Nat→Cc→List Expr→Option PX
 |0,_,_=>none
 |_+1,_,[]=>none
 |n+1,c,[e]=>cT n c e
 |n+1,c,e::f::es=>(cT n c e).bind fun e'=>(cOrT n c (f::es)).bind fun l=>some (.or e' l)
noncomputable def cI:Nat→Cc→Expr→Expr→Option PX
 |0,_,_,_=>none
 |n+1,c,tg,e=>match e with
  | .Call (.Name x _) [a] [] _=>if x==("range" :Str)&&isGl c.sc x then (cL n c [a]).bind fun l=>some (.irng l)
    else if x==("enumerate" :Str)&&isGl c.sc x then (match tg with| .Tuple .. =>(cE n c a).bind fun a'=>some (.ienum a')|_=>none)
    else (cE n c e).bind fun e'=>some (.iseq e')
  | .Call (.Name x _) [a,b] [] _=>if x==("range" :Str)&&isGl c.sc x then (cL n c [a,b]).bind fun l=>some (.irng l)
    else (cE n c e).bind fun e'=>some (.iseq e')
  | .Call (.Name x _) [a,b,d] [] _=>if x==("range" :Str)&&isGl c.sc x then (cL n c [a,b,d]).bind fun l=>some (.irng l) else (cE n c e).bind fun e'=>some (.iseq e')
  | .Name x p=>if c.xt.ds.contains x then (cE n c (.Name x p)).bind fun e'=>some (.idc e') else (cE n c (.Name x p)).bind fun e'=>some (.iseq e')
  |e=>(cE n c e).bind fun e'=>some (.iseq e')
noncomputable def cG:Nat→Cc→Expr→Option PX
 |0,_,_=>none
 |n+1,c,e=>match e with
  | .Name x _=>if (isLoc c.sc x||(c.fn x&&Zb9 c.sc x)) then (slot c x).bind fun i=>some (.tnm i) else none
  | .Tuple es _ _=>(cGs n c es).bind fun l=>some (.ttup es.length l)
  | .Subscript o (.Slice ..) _=>none
  | .Subscript o i _=>(cE n c o).bind fun o'=>(cE n c i).bind fun i'=>some (if isDn c o then .tdx o' i' else .tsub o' i')
  |_=>none
noncomputable def cGs:Nat→Cc→List Expr→Option PX
 |0,_,_=>none
 |_+1,_,[]=>some .nil
 |n+1,c,e::es=>(cG n c e).bind fun e'=>(cGs n c es).bind fun l=>some (.cons e' l)
end
noncomputable def ZgA:Expr→Bool
 | .ListComp .. =>true| .SetComp .. =>true| .DictComp .. =>true|_=>false
noncomputable def ZjZ:Expr→Bool
 | .Tuple .. =>true|_=>false
noncomputable def parOk (c:Cc) (x:Str) (px:Pos) (y:Str) (py:Pos) (a b:Expr):Bool:=
 isLoc c.sc x&&isLoc c.sc y&&x !=y&&py.line==px.line&&c.sc.kind==.function&& !([a,b].all (foldedForSure 8))&& !([a,b].all (constantsAlone 8))
noncomputable def Zcm (sc:Scope) (x:Str):Bool:=sc.names.any fun(n,k)=>n==x&&(k==.local||k==.cell)
noncomputable def cGen (n:Nat) (c:Cc) (t e:Expr):Option PX:=if ZgA e||ZjZ e then none else (cG n c t).bind fun t'=>(cE n c e).bind fun e'=>some (.asg t' e')
noncomputable def cPl (n:Nat) (c:Cc) (x:Str) (px:Pos) (e:Expr):Option PX:=match e with
 | .Dict [] [] p=>(cG n c (.Name x px)).bind fun t=>if c.xt.ds.contains x then some (.asg t (.ddp [] .nil)) else (cE n c (.Dict [] [] p)).bind fun e'=>some (.asg t e')
 |e=>(cG n c (.Name x px)).bind fun t=>(cE n c e).bind fun e'=>some (.asg t e')
noncomputable def cNm (n:Nat) (c:Cc) (x:Str) (px:Pos) (e:Expr):Option PX:=match e with
 | .ListComp _ _ sc p=>if Zb9 c.sc x&&c.fn x then cPl n c x px e
   else if isLoc c.sc x&&px.line==p.line&& !Zcm sc x&&c.sc.kind==.function then cPl n c x px e else none
 | .SetComp .. =>none
 | .DictComp .. =>none
 |e=>cPl n c x px e
noncomputable def cPar (n:Nat) (c:Cc) (x:Str) (px:Pos) (y:Str) (py:Pos) (a b:Expr):Option PX:=
 if parOk c x px y py a b then (slot c x).bind fun i=>(slot c y).bind fun j=>(cL n c [a,b]).bind fun l=>some (.asg (.ttup 2 (.cons (.tnm i) (.cons (.tnm j) .nil))) (.tup l)) else none
noncomputable def nmOf:Expr→Option (Str×Pos)
 | .Name x p=>some (x,p)|_=>none
noncomputable def cCel (n:Nat) (c:Cc) (x:Str) (t e:Expr):Option PX:=if Zb9 c.sc x then (cG n c t).bind fun t'=>(cE n c e).bind fun e'=>some (.asg t' e') else none
noncomputable def cAsg (n:Nat) (c:Cc) (t e:Expr):Option PX:=match t with
 | .Name x px=>cNm n c x px e
 | .Tuple ts kt pt => (match e with
  | .Tuple es k2 pt2 => (match ts with
   | [s, r] => (match es with
    | [a,b]=>(nmOf s).bind fun x=>(nmOf r).bind fun y=>(match cPar n c x.1 x.2 y.1 y.2 a b with|some p=>some p|none=>cCel n c x.1 (.Tuple [s,r] kt pt) (.Tuple [a,b] k2 pt2))
    |_=>none)
   |_=>none)
  |e=>cGen n c t e)
 |t=>cGen n c t e
mutual
noncomputable def cS:Nat→Cc→Stmt→Option PX
 |0,_,_=>none
 |n+1,c,s=>match s with
  | .Pass _=>some .skip
  | .Raise e none _=>some .bad
  | .Return (some e) _=>(cE n c e).bind fun e'=>some (.ret e')
  | .Expr e _=>if ZgA e then none else (cE n c e).bind fun e'=>some (.exp e')
  | .If t a b _=>(cT n c t).bind fun t'=>(cSs n c a).bind fun a'=>(cSs n c b).bind fun b'=>some (.ifs t' a' b')
  | .While t body [] _=>if c.lp then (cT n c t).bind fun t'=>(cSs n c body).bind fun b'=>some (.whl t' b') else none
  | .For tg it body [] _=>if c.lp then (cI n c tg it).bind fun i=>(cG n c tg).bind fun t=>(cSs n c body).bind fun b=>some (.loop t i b) else none
  | .Assign ts e _ => (match ts with
   | [t]=>cAsg n c t e
   |_=>none)
  |_=>none
noncomputable def cSs:Nat→Cc→List Stmt→Option PX
 |0,_,_=>none
 |_+1,_,[]=>some .skip
 |n+1,c,s::ss=>(cS n c s).bind fun s'=>(cSs n c ss).bind fun r=>some (.seq s' r)
end
end Py
namespace Py
open PySem L2 PySem.Spec PyProof.Rows
noncomputable abbrev Cal:=Nat→List D→Sto→Res D
noncomputable def ZbE:List Str:=["len","all","any","divmod","max","min","isinstance","sum","sorted","set","tuple","list","int","bool","str","dict","range","enumerate","zip"]
structure Good (X:Cx) (c:Cc) (C:Cal) (k:Nat):Prop where
 N:X.N=c.N
 sc:X.env.scope=c.sc
 nd:c.N.Nodup
 calm:X.calm=true
 po:c.lp=true→PassesOwn (model X.prog X.w) X.A X.env X.xe
 cls:∀x,c.xt.cs.contains x=true→∃C,ClsF X.K x C
 ops:∀x yes,c.xt.ops.lookup x=some yes→∃v u,((YbV X.K mainGlobals x=some (some u)∧X.mg x=some u)∨(YbV X.K mainGlobals x=some none∧X.mg x=none∧bootBuiltins x=some u∧x≠ "__name__"))∧RelV v u∧(∀u',RelV v u'→u'=u)∧∀n C,c.xt.cs.contains n=true→ClsF X.K n C→Yaj X.K (.ref C) u=some (yes.contains n)
 fn:∀x,c.fn x=true→X.fn x=true
 room:Room k X.A
 fns:∀(f:Nat) (x:Str),c.fs[f]?=some x→∃(a:Addr) (fd:FuncData) (ps:List Str) (np:Nat),FnOk X.prog X.w X.K X.mg X.base (CXm X.prog X.w) k a fd ps (spB X.K np (C f) (C (f+xM)))∧X.mg x=some (.ref a)∧Ya6 X.K (.ref a)=true∧L2.Binds X.K fd ps []∧(∀ds S d S',C f ds S=.ok d S'→ds.length=np)∧∀ds S d S',C (f+xM) ds S=.ok d S'→ds.length=np
 gl:∀x d,c.gl.lookup x=some d→∃v u,X.mg x=some u∧RelV v u∧∀H β,RepV X.K H β d v
 blt:∀x∈ZbE,X.mg x=none
 code:PySem.W.kdsCode X.K X.env.code=true
section
variable {X:Cx} {c:Cc} {C:Cal} {k n:Nat} {e tg:Expr} {es:List Expr} {p:PX}
theorem Zbd (h:cE n c e=some p):∀es env,starEach (e::es) env=(false,eval e env)::starEach es env:=by
 cases n with
 |zero=>cases h
 |succ n=>cases e<;>first|(intro es env;rfl)|(cases h)
theorem Zdm (h:cE n c e=some p):∀op,behindInMarks op e=false:=by
 cases n with
 |zero=>cases h
 |succ n=>cases e<;>first|(intro op;rfl)|(cases h)
theorem ZgN (h:cE n c e=some p):ZeY e:=by
 cases n with
 |zero=>cases h
 |succ n=>cases e<;>first|(intro o i;rfl)|(cases h)
theorem Ziz (h:cE n c e=some p):∀env x,foldedSetIterable e env x=pure x:=by
 cases n with
 |zero=>cases h
 |succ n=>cases e<;>first|(intro env x;rfl)|(cases h)
theorem ZhO (h:ZgA e=false):∀t line env,swapsWith e t line env=pure false:=by
 cases e<;>first|(intro t line env;rfl)|(cases h)
theorem Zcz:∀{n:Nat} {es:List Expr} {p:PX},cL n c es=some p→∀pos env,(backTo pos (starEach es env)).any (·.1)=false
 |0,_,_,h,_,_=>by cases h
 |n+1,[],_,_,pos,env=>rfl
 |n+1,e::es,p,h,pos,env=>by
  simp only [cL] at h
  obtain⟨e',h1,h⟩:=Yaa.mp h
  obtain⟨l,h2,h⟩:=Yaa.mp h
  rw [Zbd h1]
  exact Zcz h2 pos env
theorem Zcd {x:Str}:∀{l:List Str} {i:Nat},l.findIdx? (· ==x)=some i→l[i]?=some x
 | [],_,h=>by simp at h
 |a::r,i,h=>by
  rw [List.findIdx?_cons] at h
  cases ha:a==x with
  |true=>rw [ha] at h;simp at h;subst h;simp [eq_of_beq ha]
  |false=>
   rw [ha] at h
   simp only [Ybq,if_false,Yao] at h
   obtain⟨j,hj,rfl⟩:=h
   simpa using Zcd hj
theorem Good.slot {x:Str} {i:Nat} (g:Good X c C k) (h:slot c x=some i):X.N[i]?=some x:=by rw [g.N];exact Zcd h
theorem ZaC {sc:Scope} {x:Str} {kd:NameKind} (h:(sc.names.lookup x==some kd)=true):sc.names.lookup x=some kd:=by simpa using h
theorem odd1 {x:Str} (h:odd x=false):(x==("__debug__" :Str))=false∧(x==("__classdict__" :Str))=false∧x≠ "__name__" :=by
 unfold odd at h
 simp only [Ybw] at h
 exact⟨h.1.1,h.1.2,by simpa using h.2⟩
theorem Zkr {x:Str} {i:Nat} {pos:Pos} (g:Good X c C k) (h:cVar c x=some i):PE X (.Name x pos) (tVar i):=by
 unfold cVar at h
 split at h
 ·rename_i hc
  simp only [Yan,Ya8,YaZ] at hc
  obtain⟨hk,ho⟩:=hc
  obtain⟨o1,o2,o3⟩:=odd1 ho
  refine ZmH (g.slot h) ?_ o1 o2
  rw [g.sc]
  rcases hk with (hk|hk)|hk
  ·exact .inl (ZaC hk)
  ·exact .inr (.inl (ZaC hk))
  ·exact .inr (.inr (ZaC hk))
 ·cases h
theorem Good.gl' {x:Str} (g:Good X c C k) (h:isGl c.sc x=true):Gl X x:=by
 show X.env.scope.names.lookup x=some .globalImplicit
 rw [g.sc]
 exact ZaC h
theorem Zkj {x:Str} {t:String} (h:Zhd x=some t):x∈ZbE∧bootBuiltins x=some (.type t)∧t∈tysT:=by
 unfold Zhd at h
 split at h
 ·rename_i hx;cases h;rw [eq_of_beq hx];exact⟨by decide,by kernel_rfl,by decide⟩
 split at h
 ·rename_i hx;cases h;rw [eq_of_beq hx];exact⟨by decide,by kernel_rfl,by decide⟩
 split at h
 ·rename_i hx;cases h;rw [eq_of_beq hx];exact⟨by decide,by kernel_rfl,by decide⟩
 split at h
 ·rename_i hx;cases h;rw [eq_of_beq hx];exact⟨by decide,by kernel_rfl,by decide⟩
 split at h
 ·rename_i hx;cases h;rw [eq_of_beq hx];exact⟨by decide,by kernel_rfl,by decide⟩
 split at h
 ·rename_i hx;cases h;rw [eq_of_beq hx];exact⟨by decide,by kernel_rfl,by decide⟩
 cases h
theorem ZiN {x:Str} {pos:Pos} (g:Good X c C k) (h:cName c x=some p):PE X (.Name x pos) (LE X.K (ev C p)):=by
 unfold cName at h
 split at h
 ·rename_i i hi
  cases h
  exact Znp (Zkr g hi)
 ·split at h
  ·rename_i hc
   simp only [Yan,YaZ] at hc
   obtain⟨o1,o2,o3⟩:=odd1 hc.2
   split at h
   ·rename_i d hd
    cases h
    obtain⟨v,u,hm,r,rp⟩:=g.gl x d hd
    exact Zdt (ZkR (g.gl' hc.1) hm r o1) rp
   ·obtain⟨t,ht,h⟩:=Yao.mp h
    cases h
    obtain⟨b1,b2,_⟩:=Zkj ht
    exact Zdt (ZkW (v:=.ty t) (g.gl' hc.1) (g.blt x b1) b2 rfl o3 o1) fun H β=>by simp only [RepV]
  ·cases h
theorem Zku {op:Operator} {o:Op2} (h:cBin op=some o):OpR X (binaryOp op) (rD X.K o):=by
 cases op<;>cases h
 ·exact Zla
 ·exact Zk2
 ·exact Zk6
 ·exact Zk7
 ·exact Zk5
 ·exact Zk4
 ·exact Zk3
 ·exact Zjh
 ·exact Zjg
theorem Good.units (g:Good X c C k):X.A.units+100<cLine:=by have:=g.room.un;omega
theorem ZcG {op:CmpOp} {o:Op2} (g:Good X c C k) (h:cCmp op=some o):OpR X (compareOp op) (rD X.K o):=by
 cases op<;>cases h
 ·exact Zm6 g.units
 ·exact Zm0 g.units
 ·exact Zm1
 ·exact Zm2
 ·exact Zm4
 ·exact Zm5
 ·exact Zm3
 ·exact Zk9
 ·exact Zk8 g.units
 ·exact Zjf g.units
theorem Zmj {x:Str} {b:Bl} (hc:X.calm=true) (h:bfOf x=some b):x∈ZbE∧x≠ "__name__"∧∃id,bootBuiltins x=some (.builtin id)∧CallR X (.builtin id) (rB X.K b):=by
 unfold bfOf at h
 split at h
 ·rename_i hx;cases h;rw [eq_of_beq hx];exact⟨by decide,by decide,"len",by kernel_rfl,Zoe⟩
 split at h
 ·rename_i hx;cases h;rw [eq_of_beq hx];exact⟨by decide,by decide,"all",by kernel_rfl,Zoi hc⟩
 split at h
 ·rename_i hx;cases h;rw [eq_of_beq hx];exact⟨by decide,by decide,"any",by kernel_rfl,Zoh hc⟩
 split at h
 ·rename_i hx;cases h;rw [eq_of_beq hx];exact⟨by decide,by decide,"divmod",by kernel_rfl,ZiA⟩
 split at h
 ·rename_i hx;cases h;rw [eq_of_beq hx];exact⟨by decide,by decide,"max",by kernel_rfl,Zod hc⟩
 split at h
 ·rename_i hx;cases h;rw [eq_of_beq hx];exact⟨by decide,by decide,"min",by kernel_rfl,Zoc hc⟩
 split at h
 ·rename_i hx;cases h;rw [eq_of_beq hx];exact⟨by decide,by decide,"isinstance",by kernel_rfl,Zof⟩
 split at h
 ·rename_i hx;cases h;rw [eq_of_beq hx];exact⟨by decide,by decide,"sum",by kernel_rfl,Zoa hc⟩
 cases h
theorem Zmi {x:Str} {b:Bl} (h:btOf x=some b):x∈ZbE∧x≠ "__name__"∧∃T,bootBuiltins x=some (.type T)∧CallR X (.type T) (rB X.K b):=by
 unfold btOf at h
 split at h
 ·rename_i hx;cases h;rw [eq_of_beq hx];exact⟨by decide,by decide,"tuple",by kernel_rfl,ZjF⟩
 split at h
 ·rename_i hx;cases h;rw [eq_of_beq hx];exact⟨by decide,by decide,"list",by kernel_rfl,Zl4⟩
 split at h
 ·rename_i hx;cases h;rw [eq_of_beq hx];exact⟨by decide,by decide,"int",by kernel_rfl,Zog⟩
 split at h
 ·rename_i hx;cases h;rw [eq_of_beq hx];exact⟨by decide,by decide,"str",by kernel_rfl,Zob⟩
 cases h
theorem ZiQ {i:Expr} (h:revOf i=true):∃kk p1 p2 p3,i=.Slice none none (some (.UnaryOp .USub (.Constant (.int 1) kk p1) p3)) p2:=by
 unfold revOf at h
 split at h
 ·rw [eq_of_beq h];exact⟨_,_,_,_,rfl⟩
 ·cases h
theorem Zli {m:Str} {f:PX→PX→PX} (h:mtOf m=some f):(m="append"∧f=.app)∨(m="pop"∧f=.mth .pop)∨(m="extend"∧f=.mth .ext)∨(m="index"∧f=.mth .idx)∨(m="count"∧f=.mth .cnt):=by
 unfold mtOf at h
 split at h
 ·rename_i hx;cases h;exact .inl ⟨eq_of_beq hx,rfl⟩
 split at h
 ·rename_i hx;cases h;exact .inr (.inl ⟨eq_of_beq hx,rfl⟩)
 split at h
 ·rename_i hx;cases h;exact .inr (.inr (.inl ⟨eq_of_beq hx,rfl⟩))
 split at h
 ·rename_i hx;cases h;exact .inr (.inr (.inr (.inl ⟨eq_of_beq hx,rfl⟩)))
 split at h
 ·rename_i hx;cases h;exact .inr (.inr (.inr (.inr ⟨eq_of_beq hx,rfl⟩)))
 cases h
theorem Zd9 {x:Str} {kd:NameKind}:∀{l:List (Str×NameKind)},l.lookup x=some kd→(x,kd)∈l
 | [],h=>by simp at h
 |(n,j)::r,h=>by
  rw [YaD] at h
  cases hx:x==n with
  |true=>rw [hx] at h;cases h;rw [eq_of_beq hx];exact Yaw
  |false=>rw [hx] at h;exact Yas _ (Zd9 h)
theorem ZdG {sc:Scope} (g:Good X c C k) (h:ZcU c sc=true):CompOk X sc (Zd8 sc) (capC c sc)∧(sc.names.map (·.1)).Nodup∧(Zd8 sc).Nodup:=by
 unfold ZcU at h
 simp only [Yan,decide_eq_true_eq,YaX] at h
 obtain⟨⟨⟨⟨h1,h2⟩,h4⟩,h5⟩,h6⟩:=h
 refine⟨⟨by simpa using h1,fun x hx hl=>?_,fun x hx hl=>?_,?_,fun j x i e1 e2=>?_⟩,h2,h6⟩
 ·have:=h4 x hx
  rw [hl] at this
  simpa using this
 ·have:=h5 x hx
  rw [hl] at this
  simp only [bne_self_eq_false,Yb1,Ya8] at this
  show X.env.scope.names.lookup x.1=_∨X.env.scope.names.lookup x.1=_
  rw [g.sc]
  exact this.elim (fun z=>.inl (ZaC z)) (fun z=>.inr (ZaC z))
 ·unfold capC;rw [Yak]
 ·unfold capC at e2
  rw [Yam,e1] at e2
  have e2':(if (sc.names.lookup x==some NameKind.free)=true then slot c x else none)=some i:=Option.some.inj e2
  split at e2'
  ·rename_i hf
   exact⟨g.slot e2',Zd9 (ZaC hf)⟩
  ·cases e2'
theorem Zbu {sc:Scope} (g:Good X c C k) (h:ZcU c sc=true) (cl:List (Str×Addr)) (fp:List Addr) (s₃:Shared) (H₃:Hp):Good (cxC X sc cl (Zd8 sc) fp s₃ H₃) (ctxC c sc) C k where
 N:=rfl
 sc:=by
  show relabel sc X.env=Zgl sc c.sc
  rw [←g.sc]
  rfl
 nd:=(ZdG g h).2.2
 calm:=g.calm
 po:=fun _=>PassesOwn.never
 cls:=g.cls
 ops:=g.ops
 fn:=fun _ z=>z
 room:=g.room
 fns:=g.fns
 gl:=g.gl
 blt:=g.blt
 code:=g.code
end
structure Snd (C:Cal) (k n:Nat):Prop where
 E:∀(X:Cx) (c:Cc) (e:Expr) (p:PX),Good X c C k→cE n c e=some p→PE X e (LE X.K (ev C p))
 O:∀(X:Cx) (c:Cc) (e:Option Expr) (p:PX),Good X c C k→cO n c e=some p→PO X e (LO X.K (ev C p))
 F:∀(X:Cx) (c:Cc) (e:List Expr) (p:PX),Good X c C k→cF n c e=some p→PTs X e (LT X.K (ev C p))
 T:∀(X:Cx) (c:Cc) (e:Expr) (p:PX),Good X c C k→cT n c e=some p→PT X e (LT X.K (ev C p))
 L:∀(X:Cx) (c:Cc) (e:List Expr) (p:PX),Good X c C k→cL n c e=some p→PA X e (LA X.K (ev C p))
 An:∀(X:Cx) (c:Cc) (e:List Expr) (p:PX) (pos:Pos),Good X c C k→cAnd n c e=some p→PE X (.BoolOp .And e pos) (LE X.K (ev C p))
 Or:∀(X:Cx) (c:Cc) (e:List Expr) (p:PX) (pos:Pos),Good X c C k→cOr n c e=some p→PE X (.BoolOp .Or e pos) (LE X.K (ev C p))
 AnT:∀(X:Cx) (c:Cc) (e:List Expr) (p:PX) (pos:Pos),Good X c C k→cAndT n c e=some p→PW X (.BoolOp .And e pos) (LT X.K (ev C p))
 OrT:∀(X:Cx) (c:Cc) (e:List Expr) (p:PX) (pos:Pos),Good X c C k→cOrT n c e=some p→PW X (.BoolOp .Or e pos) (LT X.K (ev C p))
 I:∀(X:Cx) (c:Cc) (tg e:Expr) (p:PX),Good X c C k→cI n c tg e=some p→PI X tg e (LI X.K (evI C p))∧∀x,foldedSetIterable e X.env x=pure x
 G:∀(X:Cx) (c:Cc) (e:Expr) (p:PX),Good X c C k→cG n c e=some p→PG X e (LG X.K (evG C p))∧∀es env,assignEach (e::es) env=(false,assign e env)::assignEach es env
 Gs:∀(X:Cx) (c:Cc) (e:List Expr) (p:PX),Good X c C k→cGs n c e=some p→PGs X e (LGs X.K (evGs C p))∧(assignEach e X.env).length=e.length∧(assignEach e X.env).findIdx? (·.1)=none
theorem snd0 (C:Cal) (k:Nat):Snd C k 0 where
 E:=fun _ _ _ _ _ h=>by cases h
 O:=fun _ _ _ _ _ h=>by cases h
 F:=fun _ _ _ _ _ h=>by cases h
 T:=fun _ _ _ _ _ h=>by cases h
 L:=fun _ _ _ _ _ h=>by cases h
 An:=fun _ _ _ _ _ _ h=>by cases h
 Or:=fun _ _ _ _ _ _ h=>by cases h
 AnT:=fun _ _ _ _ _ _ h=>by cases h
 OrT:=fun _ _ _ _ _ _ h=>by cases h
 I:=fun _ _ _ _ _ _ h=>by cases h
 G:=fun _ _ _ _ _ h=>by cases h
 Gs:=fun _ _ _ _ _ h=>by cases h
section
variable {C:Cal} {k n:Nat}
theorem Zko {e:Expr} {k:Int} (h:stOf e=some k):∃kk p1 p2,e=.Slice none none (some (.Constant (.int k) kk p1)) p2:=by
 unfold stOf at h
 split at h
 ·cases h;exact⟨_,_,_,rfl⟩
 ·cases h
theorem Ziy {c:Cc} {a:Expr} {p:PX}:∀{n:Nat},cL n c [a]=some p→∀env,starEach [a] env=[(false,eval a env)]
 |0,h,_=>by cases h
 |n+1,h,env=>by
  simp only [cL] at h
  obtain⟨e',h1,h⟩:=Yaa.mp h
  exact Zbd h1 _ _
theorem Zdv:∀{ks:List (Option Expr)} {ks':List Key},Zb8 ks=some ks'→ks'.length=ks.length∧ks.all (·.isSome)=true
 | [],_,h=>by cases h;exact⟨rfl,rfl⟩
 |a::r,ks',h=>by
  unfold Zb8 at h
  split at h
  ·rename_i z;cases z
  ·rename_i s _ _ r' z
   cases z
   obtain⟨q,hq,rfl⟩:=Yao.mp h
   obtain⟨h1,h2⟩:=Zdv hq
   exact⟨by simp [h1],by simpa using h2⟩
  ·rename_i s _ _ r' z
   cases z
   obtain⟨q,hq,rfl⟩:=Yao.mp h
   obtain⟨h1,h2⟩:=Zdv hq
   exact⟨by simp [h1],by simpa using h2⟩
  ·cases h
theorem ZnP {a:Option Expr} {r:List (Option Expr)} {ks':List Key} (h:Zb8 (a::r)=some ks'):∃e q k,a=some e∧Zb8 r=some q∧ks'=k::q∧∀{X:Cx},PE X e (tC (kV k)):=by
 unfold Zb8 at h
 split at h
 ·rename_i z;cases z
 ·rename_i s kk pp r' z
  cases z
  obtain⟨q,hq,rfl⟩:=Yao.mp h
  exact⟨_,q,.inr s,rfl,hq,rfl,ZjR⟩
 ·rename_i s kk pp r' z
  cases z
  obtain⟨q,hq,rfl⟩:=Yao.mp h
  exact⟨_,q,.inl s,rfl,hq,rfl,ZhH⟩
 ·cases h
theorem ZjP {X:Cx} {c:Cc} (g:Good X c C k) {pos:Pos}:∀{n:Nat} (A:∀m,m≤n→Snd C k m) {ks:List (Option Expr)} {ks':List Key} {vs:List Expr} {l:PX},Zb8 ks=some ks'→ks.length=vs.length→cL n c vs=some l→PPd X pos ks vs ks' (LA X.K (ev C l))
 |0,_,_,_,_,_,_,_,h=>by cases h
 |n+1,_,[],ks',[],l,hk,_,hl=>by
  cases hk;cases hl
  intro pins s σ H Q I h
  obtain⟨env,S,β,ds,S',rn,rs,e,go⟩:=h
  cases e
  exact pairTrees_nil_walk ⟨[],H,I,⟨[],True.intro,.nil⟩,rfl,go _ _ _ Ex.refl (by simp [RepL]) rs⟩
 |n+1,A,a::ks,ks',v::vs,l,hk,hn,hl=>by
  obtain⟨e0,q,k0,rfl,hq,rfl,hpe⟩:=ZnP hk
  simp only [cL] at hl
  obtain⟨v',hv,hl⟩:=Yaa.mp hl
  obtain⟨l',hl',hl⟩:=Yaa.mp hl
  cases hl
  intro pins s σ H Q I h
  obtain⟨env,S,β,ds,S',rn,rs,e,go⟩:=h
  obtain⟨x,S1,e1,e⟩:=Res.bind_is e
  obtain⟨y,S2,e2,e⟩:=Res.bind_is e
  cases y with
  |tup ys=>
   cases e
   refine pairTrees_cons_walk (thn (hpe pins s σ H _ I (show tC (kV k0) σ H (fun w H1=>w=kV k0∧H=H1) from ⟨rfl,rfl⟩)) ?_)
   rintro u s1 ⟨w,H1,I1,ru,ew,eH⟩
   subst ew eH
   refine thn ((A n (YbX n)).E X c _ _ g hv pins s1 σ _ (fun w H1=>∃β',Ex X.K H1 β' H1 β'∧RepN X.K H1 β' env σ∧RepS X.K H1 β' S1∧Ex X.K H β H1 β'∧RepV X.K H1 β' x w) I1 ⟨env,S,β,x,S1,rn,rs,e1,fun w H1 β1 x1 r1 s1=>⟨β1,Ex.refl,rn.mono x1,s1,x1,r1⟩⟩) ?_
   rintro u2 s2 ⟨w2,H2,I2,r2,β2,_,n2,c2,x2,v2⟩
   refine thn (ZjP g (fun m hm=>A m (Nat.le_succ_of_le hm)) hq (by simpa using hn) hl' pins s2 σ H2 (fun vs H3=>Q (w2::vs) H3) I2 ⟨env,S1,β2,ys,S',n2,c2,e2,fun vs H3 β3 x3 r3 s3=>go _ _ _ (x2.trans x3) (RepL.cons (v2.mono x3) r3) s3⟩) ?_
   rintro ws s3 ⟨vs,H3,I3,⟨us,cr,zk⟩,ln,q3⟩
   exact⟨w2::vs,H3,I3,⟨(k0,u2)::us,⟨Zgx ru,rfl,cr⟩,.cons ⟨rfl,r2⟩ zk⟩,by simp [ln],q3⟩
  |_=>cases e
 |_+1,_,[],_,_::_,_,_,h,_=>by simp at h
 |_+1,_,_::_,_,[],_,_,h,_=>by simp at h
theorem sndE (A:∀m,m≤n→Snd C k m) (ih:Snd C k n) (X:Cx) (c:Cc) (e:Expr) (p:PX) (g:Good X c C k) (h:cE (n+1) c e=some p):PE X e (LE X.K (ev C p)):=by
 cases e with
 |Constant kc kk pos=>
  cases kc with
  |int i=>cases h;exact Zdt ZhH fun H β=>by simp only [RepV]
  |bool b=>cases h;exact Zdt pe_bl fun H β=>by simp only [RepV]
  |none=>cases h;exact Zdt ZmK fun H β=>by simp only [RepV]
  |str s=>cases h;exact Zdt ZjR fun H β=>by simp only [RepV]
  |_=>cases h
 |Name x pos=>exact ZiN g h
 |BinOp a o b pos=>
  obtain⟨o,ho,h⟩:=Yaa.mp h
  obtain⟨a',ha,h⟩:=Yaa.mp h
  obtain⟨b',hb,h⟩:=Yaa.mp h
  cases h
  exact le_op (Zku ho) (ih.E X c _ _ g ha) (ih.E X c _ _ g hb)
 |UnaryOp o a pos=>
  cases o with
  |Not=>
   obtain⟨a',ha,h⟩:=Yaa.mp h
   cases h
   exact Znv (ih.E X c _ _ g ha)
  |USub=>
   obtain⟨a',ha,h⟩:=Yaa.mp h
   cases h
   exact ZjX (ih.E X c _ _ g ha)
  |_=>cases h
 |BoolOp o es pos=>
  cases o with
  |And=>exact ih.An X c _ _ _ g h
  |Or=>exact ih.Or X c _ _ _ g h
 |Compare a os bs pos=>
  cases os with
  |nil=>cases h
  |cons o os=>
   cases os with
   |nil=>
    cases bs with
    |nil=>cases h
    |cons b bs=>
     cases bs with
     |cons _ _=>cases h
     |nil=>
      obtain⟨o,ho,h⟩:=Yaa.mp h
      obtain⟨a',ha,h⟩:=Yaa.mp h
      obtain⟨b',hb,h⟩:=Yaa.mp h
      cases h
      exact ZnD (ZcG g ho) (Zdm hb _) (ih.E X c _ _ g ha) (ih.E X c _ _ g hb)
   |cons o' os=>
    cases os with
    |cons _ _=>cases h
    |nil=>
     cases bs with
     |nil=>cases h
     |cons b bs=>
      cases bs with
      |nil=>cases h
      |cons d bs=>
       cases bs with
       |cons _ _=>cases h
       |nil=>
        obtain⟨o,ho,h⟩:=Yaa.mp h
        obtain⟨o2,ho2,h⟩:=Yaa.mp h
        obtain⟨a',ha,h⟩:=Yaa.mp h
        obtain⟨b',hb,h⟩:=Yaa.mp h
        obtain⟨d',hd,h⟩:=Yaa.mp h
        cases h
        exact ZnE (ZcG g ho) (ZcG g ho2) (Zdm hd _) (ih.E X c _ _ g ha) (ih.E X c _ _ g hb) (ih.E X c _ _ g hd)
 |IfExp t a b pos=>
  obtain⟨t',ht,h⟩:=Yaa.mp h
  obtain⟨a',ha,h⟩:=Yaa.mp h
  obtain⟨b',hb,h⟩:=Yaa.mp h
  cases h
  exact Znx (ih.T X c _ _ g ht) (ih.E X c _ _ g ha) (ih.E X c _ _ g hb)
 |Tuple es kk pos=>
  obtain⟨l,hl,h⟩:=Yaa.mp h
  cases h
  exact Znr (ih.L X c _ _ g hl)
 |List es pos=>
  obtain⟨l,hl,h⟩:=Yaa.mp h
  cases h
  exact Znw (ih.L X c _ _ g hl)
 |Dict ks vs pos=>
  have gen:((Zb8 ks).bind fun ks'=>if decide (ks.length=vs.length)&& !ks.isEmpty&&decide (ks.length≤15) then (cL n c vs).bind fun l=>some (PX.ddp ks' l) else none)=some p→PE X (.Dict ks vs pos) (LE X.K (ev C p)):=fun h=>by
   obtain⟨ks',hk,h⟩:=Yaa.mp h
   split at h
   ·rename_i hc
    simp only [Yan,decide_eq_true_eq,YaZ,List.isEmpty_eq_false_iff] at hc
    obtain⟨l,hl,h⟩:=Yaa.mp h
    cases h
    obtain⟨h1,h2⟩:=Zdv hk
    exact ZnC (ZjP g A hk hc.1.1 hl) h2 hc.1.1 hc.1.2 hc.2 (by rw [h1];exact hc.2)
   ·cases h
  cases ks with
  |nil=>
   cases vs with
   |cons _ _=>exact gen h
   |nil=>cases h;exact Znz
  |cons _ _=>exact gen h
 |Subscript a i pos=>
  have gen:(if isDn c a then (cE n c a).bind fun a'=>(cE n c i).bind fun i'=>some (PX.dix a' i') else (match stOf i with
   |some k=>if 0<k then (cE n c a).bind fun a'=>some (PX.stp a' k.toNat) else none
   |none=>if revOf i then (cE n c a).bind fun a'=>some (PX.rev a') else (cE n c a).bind fun a'=>(cE n c i).bind fun i'=>some (PX.idx a' i')))=some p→PE X (.Subscript a i pos) (LE X.K (ev C p)):=fun h=>by
   split at h
   ·obtain⟨a',ha,h⟩:=Yaa.mp h
    obtain⟨i',hi,h⟩:=Yaa.mp h
    cases h
    exact ZnA (ih.E X c _ _ g ha) (ih.E X c _ _ g hi) (ZgN hi)
   cases hst:stOf i with
   |some k=>
    rw [hst] at h
    replace h:(if 0<k then (cE n c a).bind fun a'=>some (PX.stp a' k.toNat) else none)=some p:=h
    split at h
    ·rename_i hk
     obtain⟨a',ha,h⟩:=Yaa.mp h
     cases h
     obtain⟨kk,p1,p2,rfl⟩:=Zko hst
     exact Zns hk (ih.E X c _ _ g ha)
    ·cases h
   |none=>
    rw [hst] at h
    replace h:(if revOf i=true then (cE n c a).bind fun a'=>some (PX.rev a') else (cE n c a).bind fun a'=>(cE n c i).bind fun i'=>some (PX.idx a' i'))=some p:=h
    split at h
    ·rename_i hrv
     obtain⟨a',ha,h⟩:=Yaa.mp h
     cases h
     obtain⟨kk,p1,p2,p3,rfl⟩:=ZiQ hrv
     exact Znu (ih.E X c _ _ g ha)
    ·obtain⟨a',ha,h⟩:=Yaa.mp h
     obtain⟨i',hi,h⟩:=Yaa.mp h
     cases h
     exact Zny (ih.E X c _ _ g ha) (ih.E X c _ _ g hi) (ZgN hi)
  cases i with
  |Slice lo hi st sp=>
   cases st with
   |none=>
    obtain⟨a',ha,h⟩:=Yaa.mp h
    obtain⟨lo',hlo,h⟩:=Yaa.mp h
    obtain⟨hi',hhi,h⟩:=Yaa.mp h
    cases h
    exact Znt (ih.E X c _ _ g ha) (ih.O X c _ _ g hlo) (ih.O X c _ _ g hhi)
   |some st=>exact gen h
  |_=>exact gen h
 |Call fe es kws pos=>
  cases fe with
  |Name x px=>
   cases kws with
   |cons _ _=>cases h
   |nil=>
    replace h:(match Zgr c x es with
     |some as=>(cL n c as.2).bind fun l=>some (lrPX as.1 l)
     |none=>ZgM c x es.isEmpty (cL n c es))=some p:=h
    cases hla:Zgr c x es with
    |some as=>
     rw [hla] at h
     obtain⟨l,hl,h⟩:=Yaa.mp h
     cases h
     unfold Zgr at hla
     split at hla
     ·rename_i y py as' py2
      split at hla
      ·rename_i hc
       cases hla
       simp only [Yan,YaZ] at hc
       obtain⟨⟨⟨⟨c1,c2⟩,c3⟩,c4⟩,c5⟩:=hc
       have e1:=eq_of_beq c1
       have e2:=eq_of_beq c2
       subst e1 e2
       cases as' with
       |nil=>cases c5
       |cons a0 es0=>
        have hl0:=hl
        cases n with
        |zero=>cases hl
        |succ n=>
         simp only [cL] at hl
         obtain⟨e',h1,hl⟩:=Yaa.mp hl
         obtain⟨l',h2,hl⟩:=Yaa.mp hl
         exact Zlz (ZkQ g.calm (g.gl' c3) (g.blt _ (by decide)) (g.gl' c4) (g.blt _ (by decide)) (ih.L X c _ _ g hl0) rfl (Zbd h1 _ _) (Zcz h2 _ _))
      ·cases hla
     ·cases hla
    |none=>
    rw [hla] at h
    replace h:ZgM c x es.isEmpty (cL n c es)=some p:=h
    unfold ZgM at h
    split at h
    ·rename_i hc
     simp only [Yan,YaZ] at hc
     obtain⟨o1,o2,o3⟩:=odd1 hc.2
     have hgl:=g.gl' hc.1
     split at h
     ·rename_i f hf
      obtain⟨l,hl,h⟩:=Yaa.mp h
      cases h
      obtain⟨a,fd,ps,np,Fo,hm,hk,hb,hnp,_⟩:=g.fns f x (Zcd hf)
      cases es with
      |nil=>
       have e0:l=.nil:=by cases n with|zero=>cases hl|succ n=>simp only [cL] at hl;cases hl;rfl
       subst e0
       intro pins s σ H Q I hq
       obtain⟨env,S,β,d,S',rn,rs,e,go⟩:=hq
       have e1:C f [] S=.ok d S':=e
       have hz:0=np:=hnp _ _ _ _ e1
       subst hz
       exact Zjp Fo (fun _ _ _ _ z=>.inl z) g.room hgl hm hk hb o1 pins s σ H Q I ⟨env,S,β,d,S',rn,rs,e1,go⟩
      |cons a0 es0=>
       have hl0:=hl
       cases n with
       |zero=>cases hl
       |succ n=>
        simp only [cL] at hl
        obtain⟨e',h1,hl⟩:=Yaa.mp hl
        obtain⟨l',h2,hl⟩:=Yaa.mp hl
        exact ZlC Fo (fun _ _ _ _ z=>.inl z) g.room hgl hm hk hb (ih.L X c _ _ g hl0) o1 (Zbd h1 _ _) (Zcz h2 _ _) hnp
     ·split at h
      ·cases h
      ·rename_i hne
       cases es with
       |nil=>exact absurd rfl hne
       |cons a0 es0=>
        split at h
        ·rename_i b hb
         obtain⟨l,hl,h⟩:=Yaa.mp h
         cases h
         have hl0:=hl
         obtain⟨b1,b2,id,b3,b4⟩:=Zmj (X:=X) g.calm hb
         cases n with
         |zero=>cases hl
         |succ n=>
          simp only [cL] at hl
          obtain⟨e',h1,hl⟩:=Yaa.mp hl
          obtain⟨l',h2,hl⟩:=Yaa.mp hl
          exact ZnG b4 hgl (g.blt x b1) b3 (ih.L X c _ _ g hl0) b2 o1 (Zbd h1 _ _) (Zcz h2 _ _)
        ·obtain⟨b,hb,h⟩:=Yaa.mp h
         obtain⟨l,hl,h⟩:=Yaa.mp h
         cases h
         have hl0:=hl
         obtain⟨b1,b2,T,b3,b4⟩:=Zmi (X:=X) hb
         cases n with
         |zero=>cases hl
         |succ n=>
          simp only [cL] at hl
          obtain⟨e',h1,hl⟩:=Yaa.mp hl
          obtain⟨l',h2,hl⟩:=Yaa.mp hl
          exact ZnF b4 hgl (g.blt x b1) b3 (ih.L X c _ _ g hl0) b2 o1 (Zbd h1 _ _) (Zcz h2 _ _)
    ·cases h
  |Attribute v m apos=>
   cases v with
   |Name l pl=>
    cases es with
    |nil=>
     cases kws with
     |cons _ _=>cases h
     |nil=>
      replace h:(if m==("upper" :Str)&&apos.endLine==pos.line then (cE n c (.Name l pl)).bind fun l'=>some (PX.upp l') else none)=some p:=h
      split at h
      ·rename_i hc
       obtain⟨hm,hl⟩:=YaG.mp hc
       obtain⟨l',hl',h⟩:=Yaa.mp h
       cases h
       rw [eq_of_beq hm]
       exact Znq (ih.E X c _ _ g hl') rfl hl
      ·cases h
    |cons x es=>
     cases es with
     |cons y es=>
      cases es with
      |cons _ _=>cases h
      |nil=>
       cases kws with
       |cons _ _=>cases h
       |nil=>
        replace h:(if m==("get" :Str)&&apos.endLine==pos.line then (cE n c (.Name l pl)).bind fun l'=>(cL n c [x,y]).bind fun a'=>some (PX.dgt l' a') else none)=some p:=h
        split at h
        ·rename_i hc
         obtain⟨hm,hl⟩:=YaG.mp hc
         obtain⟨l',hl',h⟩:=Yaa.mp h
         obtain⟨a',ha,h⟩:=Yaa.mp h
         cases h
         rw [eq_of_beq hm]
         have hl0:=ha
         cases n with
         |zero=>cases ha
         |succ n=>
          simp only [cL] at ha
          obtain⟨e',h1,ha⟩:=Yaa.mp ha
          obtain⟨l2,h2,ha⟩:=Yaa.mp ha
          have s1:=Zbd h1 [y] X.env
          have s2:starEach [y] X.env=[(false,eval y X.env)]:=Ziy h2 X.env
          exact ZnB (pe_bm (X:=X) (cpos:=pos) (apos:=apos) PySem.F.plainAttrs_dict PySem.F.slot_dict_get PySem.F.type_dict_get (Zm9 (X:=X)) (ih.E X c _ _ g hl') (ih.L X c _ _ g hl0) rfl (by rw [s1,s2];rfl) hl s1 (by rw [s2];rfl))
        ·cases h
     |nil=>
      cases kws with
      |cons _ _=>cases h
      |nil=>
       replace h:(if apos.endLine==pos.line then (mtOf m).bind fun f=>(cE n c (.Name l pl)).bind fun l'=>(cE n c x).bind fun x'=>some (f l' x') else none)=some p:=h
       split at h
       ·rename_i hc
        obtain⟨f,hf,h⟩:=Yaa.mp h
        obtain⟨l',hl,h⟩:=Yaa.mp h
        obtain⟨x',hx,h⟩:=Yaa.mp h
        cases h
        have hst:=Zbd hx [] X.env
        have PL:=ih.E X c _ _ g hl
        have PXx:=ih.E X c _ _ g hx
        rcases Zli hf with ⟨rfl,rfl⟩|⟨rfl,rfl⟩|⟨rfl,rfl⟩|⟨rfl,rfl⟩|⟨rfl,rfl⟩
        ·exact ZnH (pe_bm (X:=X) (cpos:=pos) (apos:=apos) PySem.F.plainAttrs_list PySem.F.slot_list_append PySem.F.type_list_append (mtApp (X:=X)) PL (Zcc PXx Zdr hst) rfl (by rw [hst];rfl) hc hst rfl)
        ·exact Zgt (m:=.pop) (pe_bm (X:=X) (cpos:=pos) (apos:=apos) PySem.F.plainAttrs_list PySem.F.slot_list_pop PySem.F.type_list_pop (mtPop (X:=X)) PL (Zcc PXx Zdr hst) rfl (by rw [hst];rfl) hc hst rfl)
        ·exact Zgt (m:=.ext) (pe_bm (X:=X) (cpos:=pos) (apos:=apos) PySem.F.plainAttrs_list PySem.F.slot_list_extend PySem.F.type_list_extend (mtExt (X:=X)) PL (Zcc PXx Zdr hst) rfl (by rw [hst];rfl) hc hst rfl)
        ·exact Zgt (m:=.idx) (pe_bm (X:=X) (cpos:=pos) (apos:=apos) PySem.F.plainAttrs_list PySem.F.slot_list_index PySem.F.type_list_index (mtIdx (X:=X)) PL (Zcc PXx Zdr hst) rfl (by rw [hst];rfl) hc hst rfl)
        ·exact Zgt (m:=.cnt) (pe_bm (X:=X) (cpos:=pos) (apos:=apos) PySem.F.plainAttrs_list PySem.F.slot_list_count PySem.F.type_list_count (mtCnt (X:=X)) PL (Zcc PXx Zdr hst) rfl (by rw [hst];rfl) hc hst rfl)
       ·cases h
   |_=>cases h
  |_=>cases h
 |ListComp elt gens sc pos=>
  cases gens with
  |nil=>cases h
  |cons gg rest=>
   obtain⟨tg,iter,ifs,asy⟩:=gg
   cases rest with
   |cons _ _=>cases h
   |nil=>
     replace h:(if asy==0&&ZcU c sc then (cI n c tg iter).bind fun it=>(cG n (ctxC c sc) tg).bind fun t=>(cF n (ctxC c sc) ifs).bind fun f=>(cE n (ctxC c sc) elt).bind fun x=>some (PX.comp (capC c sc) t it f x) else none)=some p:=h
     split at h
     ·rename_i hc
      simp only [Yan,beq_iff_eq] at hc
      obtain⟨h0,hc⟩:=hc
      subst h0
      obtain⟨it,hit,h⟩:=Yaa.mp h
      obtain⟨t,ht,h⟩:=Yaa.mp h
      obtain⟨f,hf,h⟩:=Yaa.mp h
      obtain⟨x,hx,h⟩:=Yaa.mp h
      cases h
      obtain⟨ok,nd,_⟩:=ZdG g hc
      obtain⟨PIt,hfold⟩:=ih.I X c _ _ _ g hit
      exact ZlB (ZkT g.calm ok nd PIt (fun cl fp s₃ H₃=>⟨(ih.G _ _ _ _ (Zbu g hc cl fp s₃ H₃) ht).1,ih.F _ _ _ _ (Zbu g hc cl fp s₃ H₃) hf,ih.E _ _ _ _ (Zbu g hc cl fp s₃ H₃) hx⟩) hfold)
     ·cases h
 |_=>cases h
end
end Py
namespace Py
open PySem L2 PySem.Spec PyProof.Rows
section
variable {C:Cal} {k n:Nat}
theorem Zlk {X:Cx} {c:Cc} {e:Expr} {p:PX} (ih:Snd C k n) (g:Good X c C k) (h:cE n c e=some p) (he:∀whole,isTrue e X.env whole=(do let v←whole;standAt e.pos;holding [v] (truthy v))):PT X e (LT X.K (ev C (.tru p))):=
 Znb (ih.E X c _ _ g h) he
theorem sndT (ih:Snd C k n) (X:Cx) (c:Cc) (e:Expr) (p:PX) (g:Good X c C k) (h:cT (n+1) c e=some p):PT X e (LT X.K (ev C p)):=by
 cases e with
 |UnaryOp o a pos=>
  cases o with
  |Not=>
   obtain⟨a',ha,h⟩:=Yaa.mp h
   cases h
   exact Znc (ih.T X c _ _ g ha)
  |_=>cases h
 |BoolOp o es pos=>
  cases o with
  |And=>exact(ih.AnT X c _ _ _ g h).pt
  |Or=>exact(ih.OrT X c _ _ _ g h).pt
 |Compare a os bs pos=>
  cases os with
  |nil=>cases h
  |cons o os=>
   cases os with
   |nil=>
    cases bs with
    |nil=>cases h
    |cons b bs=>
     cases bs with
     |cons _ _=>cases h
     |nil=>
      obtain⟨o,ho,h⟩:=Yaa.mp h
      obtain⟨a',ha,h⟩:=Yaa.mp h
      obtain⟨b',hb,h⟩:=Yaa.mp h
      cases h
      exact Znd (ZcG g ho) (Zdm hb _) (ih.E X c _ _ g ha) (ih.E X c _ _ g hb)
   |cons o' os=>
    cases os with
    |cons _ _=>cases h
    |nil=>
     cases bs with
     |nil=>cases h
     |cons b bs=>
      cases bs with
      |nil=>cases h
      |cons d bs=>
       cases bs with
       |cons _ _=>cases h
       |nil=>
        obtain⟨o,ho,h⟩:=Yaa.mp h
        obtain⟨o2,ho2,h⟩:=Yaa.mp h
        obtain⟨a',ha,h⟩:=Yaa.mp h
        obtain⟨b',hb,h⟩:=Yaa.mp h
        obtain⟨d',hd,h⟩:=Yaa.mp h
        cases h
        exact Zne (ZcG g ho) (ZcG g ho2) (Zdm hd _) (ih.E X c _ _ g ha) (ih.E X c _ _ g hb) (ih.E X c _ _ g hd)
 |IfExp a b d pos=>cases h
 |_=>
  obtain⟨e',he,h⟩:=Yaa.mp h
  cases h
  exact Zlk ih g he fun whole=>rfl
theorem sndO (ih:Snd C k n) (X:Cx) (c:Cc) (e:Option Expr) (p:PX) (g:Good X c C k) (h:cO (n+1) c e=some p):PO X e (LO X.K (ev C p)):=by
 cases e with
 |none=>simp only [cO] at h;cases h;exact Zlq
 |some e=>
  simp only [cO] at h
  obtain⟨e',he,h⟩:=Yaa.mp h
  cases h
  exact Zlp (ih.E X c _ _ g he)
theorem ZiR {X:Cx}:PTs X [] (LT X.K (ev C (.cst (.bl true)))):=by
 intro pins s σ H Q I h
 obtain⟨env,S,β,b,S',rn,rs,e,go⟩:=h
 cases e
 exact ZkC pins s σ H Q I (go _ _ Ex.refl rs)
theorem sndF (ih:Snd C k n) (X:Cx) (c:Cc) (e:List Expr) (p:PX) (g:Good X c C k) (h:cF (n+1) c e=some p):PTs X e (LT X.K (ev C p)):=by
 match e,h with
 | [],h=>simp only [cF] at h;cases h;exact ZiR
 | [e],h=>simp only [cF] at h;exact ZkB (ih.T X c _ _ g h)
 |_::_::_,h=>simp [cF] at h
theorem sndL (ih:Snd C k n) (X:Cx) (c:Cc) (e:List Expr) (p:PX) (g:Good X c C k) (h:cL (n+1) c e=some p):PA X e (LA X.K (ev C p)):=by
 match e,h with
 | [],h=>simp only [cL] at h;cases h;exact ZnK
 |e::es,h=>
  simp only [cL] at h
  obtain⟨e',he,h⟩:=Yaa.mp h
  obtain⟨l,hl,h⟩:=Yaa.mp h
  cases h
  exact ZlD (ih.E X c _ _ g he) (ih.L X c _ _ g hl) (Zbd he _ _)
theorem sndAn (ih:Snd C k n) (X:Cx) (c:Cc) (e:List Expr) (p:PX) (pos:Pos) (g:Good X c C k) (h:cAnd (n+1) c e=some p):PE X (.BoolOp .And e pos) (LE X.K (ev C p)):=by
 match e,h with
 | [],h=>simp [cAnd] at h
 | [e],h=>simp only [cAnd] at h;exact ZjS (ih.E X c _ _ g h)
 |e::f::es,h=>
  simp only [cAnd] at h
  obtain⟨e',he,h⟩:=Yaa.mp h
  obtain⟨l,hl,h⟩:=Yaa.mp h
  cases h
  exact ZnI (ih.E X c _ _ g he) (ih.An X c _ _ pos g hl)
theorem sndOr (ih:Snd C k n) (X:Cx) (c:Cc) (e:List Expr) (p:PX) (pos:Pos) (g:Good X c C k) (h:cOr (n+1) c e=some p):PE X (.BoolOp .Or e pos) (LE X.K (ev C p)):=by
 match e,h with
 | [],h=>simp [cOr] at h
 | [e],h=>simp only [cOr] at h;exact ZjS (ih.E X c _ _ g h)
 |e::f::es,h=>
  simp only [cOr] at h
  obtain⟨e',he,h⟩:=Yaa.mp h
  obtain⟨l,hl,h⟩:=Yaa.mp h
  cases h
  exact le_or (ih.E X c _ _ g he) (ih.Or X c _ _ pos g hl)
theorem Zml (ih:Snd C k n) (X:Cx) (c:Cc) (e:List Expr) (p:PX) (pos:Pos) (g:Good X c C k) (h:cAndT (n+1) c e=some p):PW X (.BoolOp .And e pos) (LT X.K (ev C p)):=by
 match e,h with
 | [],h=>simp [cAndT] at h
 | [e],h=>simp only [cAndT] at h;exact ZkA (ih.T X c _ _ g h)
 |e::f::es,h=>
  simp only [cAndT] at h
  obtain⟨e',he,h⟩:=Yaa.mp h
  obtain⟨l,hl,h⟩:=Yaa.mp h
  cases h
  exact Zna (ih.T X c _ _ g he) (ih.AnT X c _ _ pos g hl)
theorem Zmk (ih:Snd C k n) (X:Cx) (c:Cc) (e:List Expr) (p:PX) (pos:Pos) (g:Good X c C k) (h:cOrT (n+1) c e=some p):PW X (.BoolOp .Or e pos) (LT X.K (ev C p)):=by
 match e,h with
 | [],h=>simp [cOrT] at h
 | [e],h=>simp only [cOrT] at h;exact Zmw (ih.T X c _ _ g h)
 |e::f::es,h=>
  simp only [cOrT] at h
  obtain⟨e',he,h⟩:=Yaa.mp h
  obtain⟨l,hl,h⟩:=Yaa.mp h
  cases h
  exact lw_or (ih.T X c _ _ g he) (ih.OrT X c _ _ pos g hl)
theorem ZeT {c:Cc}:∀{n:Nat} {es:List Expr} {p:PX},cL n c es=some p→∀e S d S',ev C p e S=.ok d S'→∃ds,d=.tup ds∧ds.length=es.length
 |0,_,_,h,_,_,_,_,_=>by cases h
 |n+1,[],_,h,e,S,d,S',q=>by cases h;cases q;exact⟨[],rfl,rfl⟩
 |n+1,a::es,p,h,e,S,d,S',q=>by
  simp only [cL] at h
  obtain⟨e',h1,h⟩:=Yaa.mp h
  obtain⟨l,h2,h⟩:=Yaa.mp h
  cases h
  obtain⟨x,S1,q1,q⟩:=Res.bind_is q
  obtain⟨y,S2,q2,q⟩:=Res.bind_is q
  obtain⟨ds,rfl,hl⟩:=ZeT h2 _ _ _ _ q2
  cases q
  exact⟨x::ds,rfl,by simp [hl]⟩
theorem len1 {l:List D} (h:l.length=1):∃x,l=[x]:=by
 match l,h with
 | [x],_=>exact⟨x,rfl⟩
theorem len2 {l:List D} (h:l.length=2):∃x y,l=[x,y]:=by
 match l,h with
 | [x,y],_=>exact⟨x,y,rfl⟩
theorem len3 {l:List D} (h:l.length=3):∃x y z,l=[x,y,z]:=by
 match l,h with
 | [x,y,z],_=>exact⟨x,y,z,rfl⟩
theorem Zb4 {c:Cc} {a:Expr} {es:List Expr} {p:PX}:∀{n:Nat},cL n c (a::es)=some p→∀env,starEach (a::es) env=(false,eval a env)::starEach es env
 |0,h,_=>by cases h
 |n+1,h,env=>by
  simp only [cL] at h
  obtain⟨e',h1,h⟩:=Yaa.mp h
  exact Zbd h1 _ _
theorem Zf9 {c:Cc} {a:Expr} {es:List Expr} {p:PX}:∀{n:Nat},cL n c (a::es)=some p→∃m q,cL m c es=some q
 |0,h=>by cases h
 |n+1,h=>by
  simp only [cL] at h
  obtain⟨e',h1,h⟩:=Yaa.mp h
  obtain⟨l,h2,h⟩:=Yaa.mp h
  exact⟨n,l,h2⟩
theorem sndI (ih:Snd C k n) (X:Cx) (c:Cc) (tg e:Expr) (p:PX) (g:Good X c C k) (h:cI (n+1) c tg e=some p):PI X tg e (LI X.K (evI C p))∧∀x,foldedSetIterable e X.env x=pure x:=by
 have rng:(("range" :Str)∈ZbE):=by decide
 have enm:(("enumerate" :Str)∈ZbE):=by decide
 have gen:((cE n c e).bind fun e'=>some (PX.iseq e'))=some p→PI X tg e (LI X.K (evI C p))∧∀x,foldedSetIterable e X.env x=pure x:=fun h=>by
  obtain⟨a',ha,h⟩:=Yaa.mp h
  cases h
  exact⟨Znj (ih.E X c _ _ g ha),Ziz ha _⟩
 cases e with
 |Name x px=>
  replace h:(if c.xt.ds.contains x then (cE n c (.Name x px)).bind fun e'=>some (PX.idc e') else (cE n c (.Name x px)).bind fun e'=>some (PX.iseq e'))=some p:=h
  split at h
  ·obtain⟨a',ha,h⟩:=Yaa.mp h
   cases h
   exact⟨Znk (ih.E X c _ _ g ha),Ziz ha _⟩
  ·exact gen h
 |Call fe es kws pos=>
  cases fe with
  |Name x px=>
   cases kws with
   |cons _ _=>
    cases es with
    |nil=>exact gen h
    |cons a es=>cases es with
     |nil=>exact gen h
     |cons b es=>cases es with
      |nil=>exact gen h
      |cons d es=>cases es<;>exact gen h
   |nil=>
    cases es with
    |nil=>exact gen h
    |cons a es=>cases es with
     |nil=>
      replace h:(if x==("range" :Str)&&isGl c.sc x then (cL n c [a]).bind fun l=>some (PX.irng l)
       else if x==("enumerate" :Str)&&isGl c.sc x then (match (generalizing:=false) tg with| .Tuple .. =>(cE n c a).bind fun a'=>some (PX.ienum a')|_=>none)
       else (cE n c (.Call (.Name x px) [a] [] pos)).bind fun e'=>some (PX.iseq e'))=some p:=h
      split at h
      ·rename_i hc
       simp only [Yan] at hc
       obtain⟨l,hl,h⟩:=Yaa.mp h
       cases h
       have ex:=eq_of_beq hc.1
       subst ex
       refine⟨Zlu (g.gl' hc.2) (g.blt _ rng) (ih.L X c _ _ g hl) (by rw [Zb4 hl];rfl) (fun e S d S' q=>?_),fun x=>rfl⟩
       obtain⟨ds,rfl,hd⟩:=ZeT hl _ _ _ _ q
       obtain⟨x,rfl⟩:=len1 hd
       exact⟨x,rfl⟩
      ·split at h
       ·rename_i hc
        simp only [Yan] at hc
        have ex:=eq_of_beq hc.1
        subst ex
        cases tg with
        |Tuple ts kk tp=>
         obtain⟨a',ha,h⟩:=Yaa.mp h
         cases h
         exact⟨Zlv (g.gl' hc.2) (g.blt _ enm) (ih.E X c _ _ g ha) (by rw [Zbd ha];rfl),fun x=>rfl⟩
        |_=>cases h
       ·exact gen h
     |cons b es=>cases es with
      |nil=>
       replace h:(if x==("range" :Str)&&isGl c.sc x then (cL n c [a,b]).bind fun l=>some (PX.irng l)
        else (cE n c (.Call (.Name x px) [a,b] [] pos)).bind fun e'=>some (PX.iseq e'))=some p:=h
       split at h
       ·rename_i hc
        simp only [Yan] at hc
        obtain⟨l,hl,h⟩:=Yaa.mp h
        cases h
        have ex:=eq_of_beq hc.1
        subst ex
        obtain⟨m,q,ht⟩:=Zf9 hl
        have s2:starEach [b] X.env=[(false,eval b X.env)]:=by rw [Zb4 ht];rfl
        refine⟨Zlt (g.gl' hc.2) (g.blt _ rng) (ih.L X c _ _ g hl) (by rw [Zb4 hl,s2]) s2 (fun e S d S' q=>?_),fun x=>rfl⟩
        obtain⟨ds,rfl,hd⟩:=ZeT hl _ _ _ _ q
        obtain⟨x,y,rfl⟩:=len2 hd
        exact⟨x,y,rfl⟩
       ·exact gen h
      |cons d es=>cases es with
       |nil=>
        replace h:(if x==("range" :Str)&&isGl c.sc x then (cL n c [a,b,d]).bind fun l=>some (PX.irng l) else (cE n c (.Call (.Name x px) [a,b,d] [] pos)).bind fun e'=>some (PX.iseq e'))=some p:=h
        split at h
        ·rename_i hc
         simp only [Yan] at hc
         obtain⟨l,hl,h⟩:=Yaa.mp h
         cases h
         have ex:=eq_of_beq hc.1
         subst ex
         obtain⟨m,q,ht⟩:=Zf9 hl
         obtain⟨m',q',ht'⟩:=Zf9 ht
         have s3:starEach [b,d] X.env=[(false,eval b X.env),(false,eval d X.env)]:=by rw [Zb4 ht,Zb4 ht'];rfl
         refine⟨Zls (g.gl' hc.2) (g.blt _ rng) (ih.L X c _ _ g hl) (by rw [Zb4 hl,s3]) s3 (fun e S d S' q=>?_),fun x=>rfl⟩
         obtain⟨ds,rfl,hd⟩:=ZeT hl _ _ _ _ q
         obtain⟨x,y,z,rfl⟩:=len3 hd
         exact⟨x,y,z,rfl⟩
        ·exact gen h
       |cons _ _=>exact gen h
  |_=>exact gen h
 |_=>exact gen h
theorem Zkf {c:Cc} {i:Expr} {p:PX} {m:Nat} (h:cE m c i=some p):∀(o:Expr) (pos:Pos) (env:Env) (v:Value),assign (.Subscript o i pos) env v=(do
   let ov←holding [v] (eval o env)
   let iv←holding [v,ov] (eval i env)
   standAt pos
   holding [v,ov,iv] (setItem ov iv v)
   release [v,ov,iv] []):=by
 cases m with
 |zero=>cases h
 |succ m=>cases i<;>first|(intro o pos env v;rfl)|(cases h)
theorem sndG (ih:Snd C k n) (X:Cx) (c:Cc) (e:Expr) (p:PX) (g:Good X c C k) (h:cG (n+1) c e=some p):PG X e (LG X.K (evG C p))∧∀es env,assignEach (e::es) env=(false,assign e env)::assignEach es env:=by
 cases e with
 |Name x px=>
  replace h:(if (isLoc c.sc x||(c.fn x&&Zb9 c.sc x)) then (slot c x).bind fun i=>some (PX.tnm i) else none)=some p:=h
  split at h
  ·rename_i hc
   obtain⟨i,hi,h⟩:=Yaa.mp h
   cases h
   simp only [Ya8,Yan] at hc
   refine⟨Zlx (ZkP (by rw [g.N];exact g.nd) (g.slot hi) ?_ ?_),fun es env=>rfl⟩
   ·rw [g.sc];exact hc.elim (fun z=>.inl (ZaC z)) (fun z=>.inr (ZaC z.2))
   ·rcases hc with z|z
    ·right;rw [g.sc];exact ZaC z
    ·left;exact g.fn x z.1
  ·cases h
 |Tuple es kk pos=>
  obtain⟨l,hl,h⟩:=Yaa.mp h
  cases h
  obtain⟨h1,h2,h3⟩:=ih.Gs X c _ _ g hl
  exact⟨Znl g.calm h1 h2 h3,fun es env=>rfl⟩
 |Subscript o i pos=>
  have gen:((cE n c o).bind fun o'=>(cE n c i).bind fun i'=>some (if isDn c o then PX.tdx o' i' else PX.tsub o' i'))=some p→PG X (.Subscript o i pos) (LG X.K (evG C p))∧∀es env,assignEach (.Subscript o i pos::es) env=(false,assign (.Subscript o i pos) env)::assignEach es env:=fun h=>by
   obtain⟨o',ho,h⟩:=Yaa.mp h
   obtain⟨i',hi,h⟩:=Yaa.mp h
   split at h
   ·cases h
    exact⟨Znm (ih.E X c _ _ g ho) (ih.E X c _ _ g hi) (fun v=>Zkf hi _ _ _ _),fun es env=>rfl⟩
   ·cases h
    exact⟨Znn (ih.E X c _ _ g ho) (ih.E X c _ _ g hi) (fun v=>Zkf hi _ _ _ _),fun es env=>rfl⟩
  cases i with
  |Slice lo hi st sp=>cases h
  |_=>exact gen h
 |_=>cases h
theorem sndGs (ih:Snd C k n) (X:Cx) (c:Cc) (e:List Expr) (p:PX) (g:Good X c C k) (h:cGs (n+1) c e=some p):PGs X e (LGs X.K (evGs C p))∧(assignEach e X.env).length=e.length∧(assignEach e X.env).findIdx? (·.1)=none:=by
 match e,h with
 | [],h=>simp only [cGs] at h;cases h;exact⟨Zlw,rfl,rfl⟩
 |e::es,h=>
  simp only [cGs] at h
  obtain⟨e',he,h⟩:=Yaa.mp h
  obtain⟨l,hl,h⟩:=Yaa.mp h
  cases h
  obtain⟨g1,g2⟩:=ih.G X c _ _ g he
  obtain⟨h1,h2,h3⟩:=ih.Gs X c _ _ g hl
  refine⟨Zjo g1 h1 (by rw [g2];rfl),by rw [g2,YaH,YaH,h2],?_⟩
  rw [g2,List.findIdx?_cons,h3]
  rfl
theorem ZjK (C:Cal) (k:Nat):∀n m,m≤n→Snd C k m
 |0,m,h=>by rw [Nat.le_zero.mp h];exact snd0 C k
 |n+1,m,h=>by
  have A:=ZjK C k n
  have ih:=A n (Yad n)
  rcases Nat.lt_or_eq_of_le h with q|q
  ·exact A m (Nat.le_of_lt_succ q)
  ·subst q
   exact⟨sndE A ih,sndO ih,sndF ih,sndT ih,sndL ih,sndAn ih,sndOr ih,Zml ih,Zmk ih,sndI ih,sndG ih,sndGs ih⟩
theorem ZcH (C:Cal) (k n:Nat):Snd C k n:=ZjK C k n n (Yad n)
end
end Py
namespace Py
open PySem L2 PySem.Spec PyProof.Rows
section
variable {C:Cal} {k:Nat}
structure GoodS (X:Cx) (c:Cc) (C:Cal) (k:Nat):Prop extends Good X c C k where
 ex:X.ex=[]
 stk:X.stack=X.env::X.outer
 fr:X.env.frame=some X.env.locals
structure SndS (C:Cal) (k n:Nat):Prop where
 S:∀(X:Cx) (c:Cc) (s:Stmt) (p:PX),GoodS X c C k→cS n c s=some p→PS X s (LS X (evS C p))
 Ss:∀(X:Cx) (c:Cc) (s:List Stmt) (p:PX),GoodS X c C k→cSs n c s=some p→PSs X s (LS X (evS C p))
theorem asg1 {X:Cx} {tg e:Expr} {pos:Pos} {ma:M} {mg:D→Nv→Sto→Res Nv} (he:PE X e (LE X.K ma)) (hg:PG X tg (LG X.K mg)) (hs:swapsWithSole [tg] e pos.line X.env=pure false) (hw:swappedStores [tg] e X.env=pure none) (ha:∀es env,assignEach (tg::es) env=(false,assign tg env)::assignEach es env):
  PS X (.Assign [tg] e pos) (LS X fun e S=>(ma e S).bind fun d S1=>(mg d e S1).bind fun e1 S2=>.ok (.nx e1) S2):=
 ZhS (ZmD he hg hs hw (by rw [ha];rfl))
theorem sole {t e:Expr} {l:Nat} {env:Env}:swapsWithSole [t] e l env=swapsWith e (some t) l env:=rfl
theorem ZfM {X:Cx} {x:Str} {px:Pos} {e:Expr}:swappedStores [.Name x px] e X.env=pure none:=by cases e<;>rfl
theorem Zlc {X:Cx} {t e:Expr} (h:ZjZ e=false):swappedStores [t] e X.env=pure none:=by
 cases t with
 |Tuple ts kt pt=>cases e<;>first|rfl|(cases h)
 |List ts pt=>cases e<;>first|rfl|(cases h)
 |_=>rfl
theorem swapC {X:Cx} {c:Cc} {x:Str} {px p:Pos} {elt:Expr} {gens:List Comprehension} {sc:Scope} {line:Nat} (g:Good X c C k) (h:Zb9 c.sc x=true):
  swapsWith (.ListComp elt gens sc p) (some (.Name x px)) line X.env=pure false:=by
 have e:X.env.kindOf x=some .cell:=by show X.env.scope.names.lookup x=_;rw [g.sc];exact ZaC h
 show (pure (X.env.blockKind==.function&&X.env.kindOf x==some .local&&px.line==p.line&& !(sc.names.any fun(n,k)=>n==x&&(k==.local||k==.cell))):Sem Bool)=pure false
 rw [e]
 have:((some NameKind.cell:Option NameKind)==some .local)=false:=by decide
 rw [this]
 simp
theorem swapL {X:Cx} {c:Cc} {x:Str} {px p:Pos} {elt:Expr} {gens:List Comprehension} {sc:Scope} {line:Nat} (g:Good X c C k) (h:isLoc c.sc x=true) (hl:(px.line==p.line)=true) (hn:Zcm sc x=false) (hk:(c.sc.kind==.function)=true):
  swapsWith (.ListComp elt gens sc p) (some (.Name x px)) line X.env=pure true:=by
 have e:X.env.kindOf x=some .local:=by show X.env.scope.names.lookup x=_;rw [g.sc];exact ZaC h
 have hb:X.env.blockKind=.function:=by
  unfold Env.blockKind
  rw [g.sc,show c.sc.kind=.function by simpa using hk]
  rfl
 show (pure (X.env.blockKind==.function&&X.env.kindOf x==some .local&&px.line==p.line&& !(Zcm sc x)):Sem Bool)=pure true
 rw [e,hb,hl,hn]
 rfl
theorem swapP {X:Cx} {c:Cc} {x y:Str} {px py pt pt2:Pos} {kt k2 n:Nat} {a b:Expr} {p:PX} (g:Good X c C k) (h:parOk c x px y py a b=true) (hl:cL n c [a,b]=some p):
  swappedStores [.Tuple [.Name x px,.Name y py] kt pt] (.Tuple [a,b] k2 pt2) X.env=pure (some [x,y]):=by
 unfold parOk at h
 simp only [Yan,YaZ,beq_iff_eq] at h
 obtain⟨⟨⟨⟨⟨⟨h1,h2⟩,h3⟩,h4⟩,h5⟩,h6⟩,h7⟩:=h
 have hx:X.env.kindOf x=some .local:=by show X.env.scope.names.lookup x=_;rw [g.sc];exact ZaC h1
 have hy:X.env.kindOf y=some .local:=by show X.env.scope.names.lookup y=_;rw [g.sc];exact ZaC h2
 have hb:X.env.blockKind=.function:=by
  unfold Env.blockKind
  rw [g.sc,h5]
  rfl
 have hne:¬x=y:=by simpa using h3
 have hed:([x,y]:List Str).eraseDups.length=2:=by
  have:(y==x)=false:=by simpa using fun z=>hne z.symm
  simp [List.eraseDups_cons,this]
 unfold swappedStores
 simp only [YaH,Ya9,hb,List.head?_cons,Ybk,Option.getD_some]
 refine(if_neg (by decide)).trans ((if_neg ?_).trans ?_)
 ·match n,hl with
  |n+1,hl=>
   simp only [cL] at hl
   obtain⟨e1,g1,hl⟩:=Yaa.mp hl
   obtain⟨l,g2,hl⟩:=Yaa.mp hl
   match n,g2 with
   |n+1,g2=>
    simp only [cL] at g2
    obtain⟨e2,g3,g2⟩:=Yaa.mp g2
    simp only [Yba,List.any_nil,Bool.or_false,Bool.not_eq_true,Ybw]
    clear h6 h7 hl
    constructor
    ·cases a<;>first|rfl|(cases g1)
    ·match n,g3 with
     |n+1,g3=>cases b<;>first|rfl|(cases g3)
 ·have q:∀(z:Pos),(Expr.Name x z).pos=z:=fun _=>rfl
  refine(if_neg ?_).trans ((if_neg ?_).trans ((if_neg ?_).trans ?_))
  ·simp [hx,hy,q,h4,hed]
  ·rw [h6];decide
  ·rw [h7];decide
  ·simp [hx,hy,q,h4]
theorem ZjJ {n:Nat} {X:Cx} {c:Cc} {x:Str} {px pos:Pos} {e:Expr} {p:PX} (g:Good X c C k) (h:cPl n c x px e=some p) (hs:swapsWithSole [.Name x px] e pos.line X.env=pure false):PS X (.Assign [.Name x px] e pos) (LS X (evS C p)):=by
 have A:=ZcH C k n
 unfold cPl at h
 split at h
 ·obtain⟨t',ht,h⟩:=Yaa.mp h
  obtain⟨g1,g2⟩:=A.G X c _ _ g ht
  split at h
  ·cases h
   exact asg1 (ZlA (X:=X)) g1 hs ZfM g2
  ·obtain⟨e',he,h⟩:=Yaa.mp h
   cases h
   exact asg1 (A.E X c _ _ g he) g1 hs ZfM g2
 ·obtain⟨t',ht,h⟩:=Yaa.mp h
  obtain⟨e',he,h⟩:=Yaa.mp h
  cases h
  obtain⟨g1,g2⟩:=A.G X c _ _ g ht
  exact asg1 (A.E X c _ _ g he) g1 hs ZfM g2
theorem Zmh {n:Nat} {X:Cx} {c:Cc} {x:Str} {px pos p0:Pos} {elt:Expr} {gens:List Comprehension} {sc:Scope} {p:PX} (g:Good X c C k) (h:cPl n c x px (.ListComp elt gens sc p0)=some p) (c1:isLoc c.sc x=true) (c2:(px.line==p0.line)=true) (c3:Zcm sc x=false) (c4:(c.sc.kind==.function)=true):
  PS X (.Assign [.Name x px] (.ListComp elt gens sc p0) pos) (LS X (evS C p)):=by
 obtain⟨t',ht,h⟩:=Yaa.mp h
 obtain⟨e',he,h⟩:=Yaa.mp h
 cases h
 cases n with
 |zero=>cases he
 |succ m=>
  have A':=ZcH C k m
  have hsw:=swapL (X:=X) (line:=pos.line) (elt:=elt) (gens:=gens) (px:=px) (p:=p0) g c1 c2 c3 c4
  have hloc:X.env.scope.names.lookup x=some .local:=by rw [g.sc];exact ZaC c1
  replace ht:(if (isLoc c.sc x||(c.fn x&&Zb9 c.sc x)) then (slot c x).bind fun i=>some (PX.tnm i) else none)=some t':=ht
  split at ht
  ·obtain⟨i,hi,ht⟩:=Yaa.mp ht
   cases ht
   cases gens with
   |nil=>cases he
   |cons gg rest=>
    obtain⟨tg,iter,ifs,asy⟩:=gg
    cases rest with
    |cons _ _=>cases he
    |nil=>
     replace he:(if asy==0&&ZcU c sc then (cI m c tg iter).bind fun it=>(cG m (ctxC c sc) tg).bind fun t=>(cF m (ctxC c sc) ifs).bind fun f=>(cE m (ctxC c sc) elt).bind fun x=>some (PX.comp (capC c sc) t it f x) else none)=some e':=he
     split at he
     ·rename_i hc
      simp only [Yan,beq_iff_eq] at hc
      obtain⟨h0,hc⟩:=hc
      subst h0
      obtain⟨it,hit,he⟩:=Yaa.mp he
      obtain⟨t,htg,he⟩:=Yaa.mp he
      obtain⟨f,hf,he⟩:=Yaa.mp he
      obtain⟨x0,hx,he⟩:=Yaa.mp he
      cases he
      obtain⟨ok,nd,_⟩:=ZdG g hc
      obtain⟨PIt,hfold⟩:=A'.I X c _ _ _ g hit
      have q:=ZkF (spos:=pos) (g:=LG X.K (evG C t)) (tt:=LT X.K (ev C f)) (te:=LE X.K (ev C x0)) (by rw [g.N];exact g.nd) (g.slot hi) hloc hsw g.calm ok nd PIt (fun cl fp s₃ H₃=>⟨(A'.G _ _ _ _ (Zbu g hc cl fp s₃ H₃) htg).1,A'.F _ _ _ _ (Zbu g hc cl fp s₃ H₃) hf,A'.E _ _ _ _ (Zbu g hc cl fp s₃ H₃) hx⟩) hfold
      refine ZhS (ma:=ev C (.comp (capC c sc) t it f x0)) (mg:=evG C (.tnm i)) (fun pins s σ H E I hq=>?_)
      refine Zhj q pins s σ H E I ?_
      obtain⟨env,S,β,d,S',rn,rs,e,go⟩:=hq
      refine⟨env,S,β,d,S',rn,rs,e,fun v H' β' x1 r1 s1=>?_⟩
      obtain⟨env2,S2,β2,d2,env',S'',rv,rn2,rs2,e2,go2⟩:=go v H' β' x1 r1 s1
      cases e2
      exact go2 _ _ _ Ex.refl (rn2.set rv) rs2
     ·cases he
  ·cases ht
theorem Zhr {n:Nat} {X:Cx} {c:Cc} {t e:Expr} {pos:Pos} {p:PX} (g:Good X c C k) (h:cGen n c t e=some p):PS X (.Assign [t] e pos) (LS X (evS C p)):=by
 have A:=ZcH C k n
 unfold cGen at h
 split at h
 ·cases h
 ·rename_i hc
  simp only [Ya8,not_or,Bool.not_eq_true] at hc
  obtain⟨t',ht,h⟩:=Yaa.mp h
  obtain⟨e',he,h⟩:=Yaa.mp h
  cases h
  obtain⟨g1,g2⟩:=A.G X c _ _ g ht
  exact asg1 (A.E X c _ _ g he) g1 (by rw [sole];exact ZhO hc.1 _ _ _) (Zlc hc.2) g2
theorem Zks {n:Nat} {X:Cx} {c:Cc} {x y:Str} {px py:Pos} {a b:Expr} {kt k2:Nat} {pt pt2 pos:Pos} {p:PX} (g:Good X c C k) (h:cPar n c x px y py a b=some p):PS X (.Assign [.Tuple [.Name x px,.Name y py] kt pt] (.Tuple [a,b] k2 pt2) pos) (LS X (evS C p)):=by
 have A:=ZcH C k n
 unfold cPar at h
 split at h
 ·rename_i hok
  obtain⟨i,hi,h⟩:=Yaa.mp h
  obtain⟨j,hj,h⟩:=Yaa.mp h
  obtain⟨l,hl,h⟩:=Yaa.mp h
  cases h
  have hw:=fun kt pt k2 pt2=>swapP (kt:=kt) (pt:=pt) (k2:=k2) (pt2:=pt2) g hok hl
  unfold parOk at hok
  simp only [Yan,YaZ,beq_iff_eq] at hok
  obtain⟨⟨⟨⟨⟨⟨h1,h2⟩,h3⟩,h4⟩,h5⟩,h6⟩,h7⟩:=hok
  have hij:i≠j:=fun z=>by
   subst z
   have e1:=g.slot hi
   have e2:=g.slot hj
   rw [e1] at e2
   simp at e2
   simp [e2] at h3
  intro pins s σ H E I q
  refine ZmB (i:=i) (j:=j) g.calm (by rw [g.N];exact g.nd) (g.slot hi) (g.slot hj) hij (by rw [g.sc];exact ZaC h1) (by rw [g.sc];exact ZaC h2) (A.L X c _ _ g hl) (hw _ _ _ _) rfl pins s σ H E I ?_
  obtain⟨env,S,β,r,S',rn,rs,e,fin⟩:=q
  obtain⟨d,S1,e1,e⟩:=Res.bind_is e
  obtain⟨ds,S2,e2,e1⟩:=Res.bind_is e1
  obtain⟨n1,S3,e3,e⟩:=Res.bind_is e
  cases e
  cases ds with
  |tup ys=>
   simp only at e1
   split at e1
   ·cases e1
    replace e3:(if ys.length=2 then evGs C (.cons (.tnm i) (.cons (.tnm j) .nil)) ys env S1 else .no)=.ok n1 _:=e3
    split at e3
    ·rename_i hl2
     obtain⟨y1,y2,rfl⟩:∃y1 y2,ys=[y1,y2]:=by
      match ys,hl2 with
      | [y1,y2],_=>exact⟨y1,y2,rfl⟩
     cases e3
     refine⟨env,S,β,[y1,y2],_,rn,rs,e2,fun vs H' β' x1 r1 s1=>?_⟩
     simp only [RepL] at r1
     obtain⟨v1,t1,rfl,p1,v2,t2,rfl,p2,rfl⟩:=r1
     exact⟨v1,v2,rfl,fin _ _ _ x1 (((rn.mono x1).set p1).set p2) s1⟩
    ·cases e3
   ·cases e1
  |_=>cases e1
 ·cases h
theorem Zkn {X:Cx} {c:Cc} {x y:Str} {px py pt pt2:Pos} {kt k2:Nat} {a b:Expr} (g:Good X c C k) (h:Zb9 c.sc x=true):
  swappedStores [.Tuple [.Name x px,.Name y py] kt pt] (.Tuple [a,b] k2 pt2) X.env=pure none:=by
 have e:X.env.kindOf x=some .cell:=by show X.env.scope.names.lookup x=_;rw [g.sc];exact ZaC h
 have e2:((some NameKind.cell:Option NameKind)==some .local)=false:=by decide
 unfold swappedStores
 simp only [YaH,Ya9,List.head?_cons,Ybk,Option.getD_some]
 split
 ·rfl
 split
 ·rfl
 refine if_pos ?_
 simp only [Ya0,List.filterMap_nil,e,e2,Bool.false_and,Ybq,if_false]
 split<;>rfl
theorem Zkt {n:Nat} {X:Cx} {c:Cc} {x y:Str} {px py:Pos} {a b:Expr} {kt k2:Nat} {pt pt2 pos:Pos} {p:PX} (g:Good X c C k) (h:cCel n c x (.Tuple [.Name x px,.Name y py] kt pt) (.Tuple [a,b] k2 pt2)=some p):PS X (.Assign [.Tuple [.Name x px,.Name y py] kt pt] (.Tuple [a,b] k2 pt2) pos) (LS X (evS C p)):=by
 have A:=ZcH C k n
 unfold cCel at h
 split at h
 ·rename_i hc
  obtain⟨t',ht,h⟩:=Yaa.mp h
  obtain⟨e',he,h⟩:=Yaa.mp h
  cases h
  obtain⟨g1,g2⟩:=A.G X c _ _ g ht
  exact asg1 (A.E X c _ _ g he) g1 (by rw [sole];exact ZhO rfl _ _ _) (Zkn g hc) g2
 ·cases h
theorem nm_is {e:Expr} {x:Str×Pos} (h:nmOf e=some x):e=.Name x.1 x.2:=by
 cases e with
 |Name y py=>cases h;rfl
 |_=>cases h
theorem Zkv {n:Nat} {X:Cx} {c:Cc} {t e:Expr} {pos:Pos} {p:PX} (g:Good X c C k) (h:cAsg n c t e=some p):PS X (.Assign [t] e pos) (LS X (evS C p)):=by
 cases t with
 |Name x px=>
  replace h:cNm n c x px e=some p:=h
  cases e with
  |ListComp elt gens sc p0=>
   replace h:(if Zb9 c.sc x&&c.fn x then cPl n c x px (.ListComp elt gens sc p0)
    else if isLoc c.sc x&&px.line==p0.line&& !Zcm sc x&&c.sc.kind==.function then cPl n c x px (.ListComp elt gens sc p0) else none)=some p:=h
   split at h
   ·rename_i hc
    simp only [Yan] at hc
    exact ZjJ g h (by rw [sole];exact swapC g hc.1)
   ·split at h
    ·rename_i hc
     simp only [Yan,YaZ] at hc
     obtain⟨⟨⟨c1,c2⟩,c3⟩,c4⟩:=hc
     exact Zmh g h c1 c2 c3 c4
    ·cases h
  |SetComp _ _ _ _=>cases h
  |DictComp _ _ _ _ _=>cases h
  |_=>exact ZjJ g h rfl
 |Tuple ts kt pt=>
  cases e with
  |Tuple es k2 pt2=>
   cases ts with
   |nil=>cases h
   |cons s ts=>cases ts with
    |nil=>cases h
    |cons r ts=>cases ts with
     |cons _ _=>cases h
     |nil=>cases es with
      |nil=>cases h
      |cons a es=>cases es with
       |nil=>cases h
       |cons b es=>cases es with
        |cons _ _=>cases h
        |nil=>
         obtain⟨x,hx,h⟩:=Yaa.mp h
         obtain⟨y,hy,h⟩:=Yaa.mp h
         rw [nm_is hx,nm_is hy] at h⊢
         split at h
         ·rename_i hp
          cases h
          exact Zks g hp
         ·exact Zkt g h
  |_=>exact Zhr g h
 |_=>exact Zhr g h
theorem sndS (n:Nat) (ih:SndS C k n) (X:Cx) (c:Cc) (s:Stmt) (p:PX) (g:GoodS X c C k) (h:cS (n+1) c s=some p):PS X s (LS X (evS C p)):=by
 have A:=ZcH C k n
 have gg:=g.toGood
 cases s with
 |Pass pos=>cases h;exact Zll
 |Raise a b pos=>
  cases b with
  |some _=>cases h
  |none=>
   cases h
   intro pins s σ H E I q
   obtain⟨env,S,β,r,S',rn,rs,e,fin⟩:=q
   cases e
 |Return v pos=>
  cases v with
  |none=>cases h
  |some v=>
   obtain⟨e',he,h⟩:=Yaa.mp (show (cE n c v).bind (fun e'=>some (PX.ret e'))=some p from h)
   cases h
   exact Znf (A.E X c _ _ gg he)
 |Expr e pos=>
  replace h:(if ZgA e then none else (cE n c e).bind fun e'=>some (PX.exp e'))=some p:=h
  split at h
  ·cases h
  ·rename_i hc
   obtain⟨e',he,h⟩:=Yaa.mp h
   cases h
   exact Znh (A.E X c _ _ gg he) (ZhO (by simpa using hc) _ _ _)
 |If t a b pos=>
  obtain⟨t',ht,h⟩:=Yaa.mp h
  obtain⟨a',ha,h⟩:=Yaa.mp h
  obtain⟨b',hb,h⟩:=Yaa.mp h
  cases h
  exact ls_if (A.T X c _ _ gg ht) (ih.Ss X c _ _ g ha) (ih.Ss X c _ _ g hb)
 |For tg it body els pos=>
  cases els with
  |cons _ _=>cases h
  |nil=>
   replace h:(if c.lp then (cI n c tg it).bind fun i=>(cG n c tg).bind fun t=>(cSs n c body).bind fun b=>some (PX.loop t i b) else none)=some p:=h
   split at h
   ·rename_i hlp
    obtain⟨i',hi,h⟩:=Yaa.mp h
    obtain⟨t',ht,h⟩:=Yaa.mp h
    obtain⟨b',hb,h⟩:=Yaa.mp h
    cases h
    obtain⟨h1,h2⟩:=A.I X c _ _ _ gg hi
    exact Zlm (gg.po hlp) gg.calm h1 (A.G X c _ _ gg ht).1 (ih.Ss X c _ _ g hb) h2
   ·cases h
 |While t body els pos=>
  cases els with
  |cons _ _=>cases h
  |nil=>
   replace h:(if c.lp then (cT n c t).bind fun t'=>(cSs n c body).bind fun b'=>some (PX.whl t' b') else none)=some p:=h
   split at h
   ·rename_i hlp
    obtain⟨t',ht,h⟩:=Yaa.mp h
    obtain⟨b',hb,h⟩:=Yaa.mp h
    cases h
    exact Zjl (gg.po hlp) (A.T X c _ _ gg ht) (ih.Ss X c _ _ g hb)
   ·cases h
 |Assign ts e pos=>
  cases ts with
  |nil=>cases h
  |cons t ts=>
   cases ts with
   |cons _ _=>cases h
   |nil=>
    exact Zkv gg h
 |_=>cases h
theorem sndSs (n:Nat) (ih:SndS C k n) (X:Cx) (c:Cc) (s:List Stmt) (p:PX) (g:GoodS X c C k) (h:cSs (n+1) c s=some p):PSs X s (LS X (evS C p)):=by
 match s,h with
 | [],h=>simp only [cSs] at h;cases h;exact Zng
 |s::ss,h=>
  simp only [cSs] at h
  obtain⟨s',hs,h⟩:=Yaa.mp h
  obtain⟨r,hr,h⟩:=Yaa.mp h
  cases h
  exact Zln (ih.S X c _ _ g hs) (ih.Ss X c _ _ g hr)
theorem Zgi (C:Cal) (k:Nat):∀n,SndS C k n
 |0=>⟨fun _ _ _ _ _ h=>(by cases h),fun _ _ _ _ _ h=>(by cases h)⟩
 |n+1=>have ih:=Zgi C k n;⟨sndS n ih,sndSs n ih⟩
end
section
variable {P:Program} {w:World} {K:Yab} {mg:Str→Option Value} {base:Heap} {fs:List Str} {gl:List (Str×D)} {xt:XT}
structure GlOk (K:Yab) (mg:Str→Option Value) (gl:List (Str×D)) (xt:XT):Prop where
 gl:∀x d,gl.lookup x=some d→∃v u,mg x=some u∧RelV v u∧∀H β,RepV K H β d v
 blt:∀x∈ZbE,mg x=none
 cls:∀x,xt.cs.contains x=true→∃C,ClsF K x C
 ops:∀x yes,xt.ops.lookup x=some yes→∃v u,((YbV K mainGlobals x=some (some u)∧mg x=some u)∨(YbV K mainGlobals x=some none∧mg x=none∧bootBuiltins x=some u∧x≠ "__name__"))∧RelV v u∧(∀u',RelV v u'→u'=u)∧∀n C,xt.cs.contains n=true→ClsF K n C→Yaj K (.ref C) u=some (yes.contains n)
noncomputable def FnsOk (P:Program) (w:World) (K:Yab) (mg:Str→Option Value) (base:Heap) (fs:List Str) (C:Cal) (k:Nat):Prop:=
 ∀(f:Nat) (x:Str),fs[f]?=some x→∃(a:Addr) (fd:FuncData) (ps:List Str) (np:Nat),FnOk P w K mg base (CXm P w) k a fd ps (spB K np (C f) (C (f+xM)))∧mg x=some (.ref a)∧Ya6 K (.ref a)=true∧L2.Binds K fd ps []∧(∀ds S d S',C f ds S=.ok d S'→ds.length=np)∧∀ds S d S',C (f+xM) ds S=.ok d S'→ds.length=np
theorem Zgh {H:Hp} {β:List Addr} {ds:List D} {vs:List V} {N:List Str} (l:RepL K H β ds vs):RepN K H β (ds.map some++Yaq (N.length-ds.length) none) (L2.start N vs):=by
 unfold L2.start
 refine⟨by simp [l.length],fun i d h=>?_⟩
 by_cases hi:i<ds.length
 ·rw [Yar (by simpa using hi),Yam] at h
  cases hd:ds[i]? with
  |none=>rw [hd] at h;cases h
  |some d'=>
   rw [hd] at h
   cases h
   obtain⟨v,hv,r⟩:=l.get hd
   refine⟨v,?_,r⟩
   rw [Yar (by simpa [←l.length] using hi),Yam,hv]
   rfl
 ·rw [Yav (by simpa using hi)] at h
  rw [List.getElem?_replicate] at h
  split at h
  ·cases h
  ·cases h
theorem Zj2 {x:Str} {st:Stmt} {f:Addr} {fd:FuncData} {N ps:List Str} {k n:Nat} {C:Cal} {body:PX} (F:Fun K x x st f fd) (S:FnScope N ps (Zab st)) (hb:cSs n ⟨N,Zab st,fs,gl,fun _=>true,xt,true⟩ (Zag st)=some body)
  (hl:GlOk K mg gl xt) (hf:FnsOk P w K mg base fs C k):FnOk P w K mg base (CXm P w) (k+1) f fd ps (spB K ps.length (runF C ⟨ps.length,N.length,body⟩) (runX C ⟨ps.length,N.length,body⟩)):=by
 obtain⟨oc,od,kV,doc,pm,an,cdv,ct,osl,rfl,lk,hcd⟩:=F.ex
 refine fn_of lk hcd S (fun vs H Q E h=>h.elim (fun z=>z.1) fun z=>z.1) fun A outer s H vs Q E hr h=>?_
 have g:GoodS (cxOf (CXm P w) P w K mg base N x (Zab st) f cdv A outer s H E) ⟨N,Zab st,fs,gl,fun _=>true,xt,true⟩ C k:=
  ⟨⟨rfl,rfl,S.nd,rfl,fun _=>PassesOwn.leaving,hl.cls,hl.ops,fun _ _=>rfl,hr,hf,hl.gl,hl.blt,ZnQ hcd⟩,rfl,rfl,rfl⟩
 refine⟨LS _ (evS C body),(Zgi C k n).Ss _ _ _ _ g hb,?_⟩
 rcases h with h|h
 ·obtain⟨hlen,ds,So,β,d,S',rl,rs,e,go⟩:=h
  unfold runF at e
  split at e
  ·rename_i hd
   obtain⟨r,S1,e1,e⟩:=Res.bind_is e
   refine⟨_,So,β,r,S1,Zgh (N:=N) rl,rs,by rw [hd];exact e1,?_⟩
   cases r with
   |nx e'=>cases e;exact fun σ' H' β' x1 n1 s1=>go _ _ _ x1 (by simp only [RepV]) s1
   |rt d'=>cases e;exact fun v H' β' x1 r1 s1=>go _ _ _ x1 r1 s1
   |bk e'=>cases e
   |ct e'=>cases e
   |ex c e'=>cases e
  ·cases e
 ·obtain⟨hlen,ds,So,β,d,S',rl,rs,e,go⟩:=h
  unfold runX at e
  split at e
  ·rename_i hd
   obtain⟨r,S1,e1,e⟩:=Res.bind_is e
   refine⟨_,So,β,r,S1,Zgh (N:=N) rl,rs,by rw [hd];exact e1,?_⟩
   cases r with
   |nx e'=>
    cases e
    rcases go with ⟨d,hd2,go⟩|⟨c,hc,_⟩
    ·cases hd2;exact fun σ' H' β' x1 n1 s1=>go _ _ _ x1 (by simp only [RepV]) s1
    ·cases hc
   |rt d'=>
    cases e
    rcases go with ⟨d,hd2,go⟩|⟨c,hc,_⟩
    ·cases hd2;exact fun v H' β' x1 r1 s1=>go _ _ _ x1 r1 s1
    ·cases hc
   |bk e'=>cases e
   |ct e'=>cases e
   |ex c e'=>
    cases e
    rcases go with ⟨d,hd2,go⟩|⟨c,hc,go⟩
    ·cases hd2
    ·cases hc
     exact fun pins σ' H' β' a C s' x1 n1 s1 I fc fl=>ZlL I fl (go a C H' β' x1 s1 fc)
  ·cases e
structure FI (K:Yab) (mg:Str→Option Value) (fs:List Str) (gl:List (Str×D)) (xt:XT) (x:Str) (fn:Fn):Prop where
 ex:∃(a:Addr) (fd:FuncData) (st:Stmt) (N ps:List Str) (n:Nat),Fun K x x st a fd∧FnScope N ps (Zab st)∧cSs n ⟨N,Zab st,fs,gl,fun _=>true,xt,true⟩ (Zag st)=some fn.body∧ps.length=fn.np∧N.length=fn.nl∧mg x=some (.ref a)∧L2.Binds K fd ps []
theorem Zn9 {fns:List Fn} {f:Nat} {fn:Fn} (h:fns[f]?=some fn):∀{k:Nat} {ds S d S'},cl fns k f ds S=.ok d S'→ds.length=fn.np
 |0,_,_,_,_,e=>by cases e
 |k+1,ds,S,d,S',e=>by
  simp only [cl,h] at e
  unfold runF at e
  split at e
  ·assumption
  ·cases e
theorem cl_x {fns:List Fn} {f:Nat} {fn:Fn} (hm:fns.length≤xM) (h:fns[f]?=some fn) (k:Nat):cl fns (k+1) (f+xM)=runX (cl fns k) fn:=by
 funext ds S
 have h1:fns[f+xM]?=none:=List.getElem?_eq_none (by omega)
 simp only [cl,h1,clN,Nat.add_sub_cancel,h]
 rw [if_neg (by omega)]
theorem ZlV {fns:List Fn} {f:Nat} {fn:Fn} (hm:fns.length≤xM) (h:fns[f]?=some fn):∀{k:Nat} {ds S d S'},cl fns k (f+xM) ds S=.ok d S'→ds.length=fn.np
 |0,_,_,_,_,e=>by cases e
 |k+1,ds,S,d,S',e=>by
  rw [cl_x hm h] at e
  unfold runX at e
  split at e
  ·assumption
  ·cases e
theorem cl_ok {fns:List Fn} (hm:fns.length≤xM) (hl:GlOk K mg gl xt) (hF:∀(f:Nat) (x:Str),fs[f]?=some x→∃fn,fns[f]?=some fn∧FI K mg fs gl xt x fn):∀k,FnsOk P w K mg base fs (cl fns k) k
 |0=>fun f x hx=>by
  obtain⟨fn,hfn,⟨a,fd,st,N,ps,n,F,S,hc,hp,hn,hmm,hb⟩⟩:=hF f x hx
  refine⟨a,fd,ps,ps.length,⟨fun vs H Q E h=>h.elim (fun z=>z.1) fun z=>z.1,fun A outer s H args us vs Q E _ _ _ _ h=>?_⟩,hmm,F.kp,hb,fun ds S d S' e=>(by cases e),fun ds S d S' e=>by cases e⟩
  rcases h with h|h
  ·obtain⟨_,ds,So,β,d,S',rl,rs,e,go⟩:=h
   cases e
  ·obtain⟨_,ds,So,β,d,S',rl,rs,e,go⟩:=h
   cases e
 |k+1=>fun f x hx=>by
  obtain⟨fn,hfn,⟨a,fd,st,N,ps,n,F,S,hc,hp,hn,hmm,hb⟩⟩:=hF f x hx
  have ih:=cl_ok hm hl hF k
  refine⟨a,fd,ps,ps.length,?_,hmm,F.kp,hb,fun ds S d S' e=>by rw [hp];exact Zn9 hfn e,fun ds S d S' e=>by rw [hp];exact ZlV hm hfn e⟩
  have q:=Zj2 (C:=cl fns k) F S hc hl ih
  have ef:fn=⟨ps.length,N.length,fn.body⟩:=by rw [hp,hn]
  have e:cl fns (k+1) f=runF (cl fns k) ⟨ps.length,N.length,fn.body⟩:=by
   funext ds So
   simp only [cl,hfn]
   rw [←ef]
  rw [e,cl_x hm hfn,ef]
  exact q
theorem Zht {H:Hp} {a:Addr} {ns:List Int} (hO:Only H) (hS:SqL K H a (ns.map V.int)):RepS K H [a] [.scr (ns.map D.int)]:=by
 have rl:∀ns:List Int,RepL K H [a] (ns.map D.int) (ns.map V.int):=by
  intro ns
  induction ns with
  |nil=>simp [RepL]
  |cons i r ih=>exact RepL.cons (by simp only [RepV]) ih
 refine⟨rfl,fun n b c h1 h2=>?_,fun n m b xs ys h1 h2 h3 h4=>?_,fun n m b xs ys h1 h2 h3 h4=>?_⟩
 ·cases n with
  |zero=>
   simp at h1 h2
   subst h1 h2
   refine⟨_,?_,rl ns⟩
   rcases hS with (h|⟨o,h⟩)|h
   ·rcases hO a with z|⟨o,xs,z⟩
    ·rw [h] at z;cases z
    ·rw [h] at z;cases z
   ·exact .inl ⟨o,h⟩
   ·exact .inr h
  |succ n=>simp at h1
 ·cases n with
  |zero=>simp at h3
  |succ n=>simp at h1
 ·cases n with
  |zero=>simp at h3
  |succ n=>simp at h1
end
end Py
namespace Py
open PySem L2 PySem.Spec PyProof.Rows
structure LawI (K:Yab) (mg:Str→Option Value) (fs:List Str) (gl:List (Str×D)) (xt:XT) (x y:Str) (fn:Fn):Prop where
 ex:∃(a:Addr) (fd:FuncData) (st:Stmt) (N:List Str) (n:Nat),Fun K x x st a fd∧FnScope N [y] (Zab st)∧cSs n ⟨N,Zab st,fs,gl,fun _=>true,xt,true⟩ (Zag st)=some fn.body∧N.length=fn.nl∧mg x=some (.ref a)∧∀(s:Shared) (u:Value),BindsTo s fd ⟨[u],[]⟩ [(y,u)]
theorem ZnJ {l:PySem.W.OpenLaw} {q:Program} {loose:List Str} {XP:(Str→Option Value)→Heap→Prop} {YP:World→Heap→Prop} {d:DefRec} {K:Params→Yab} {fs:List Str} {gl:List (Str×D)} {xt:XT} {fns:List Fn} {lx:Nat} {x:Str} {fn:Fn}
  (hn:l.most=some 63) (hdf:d.params.defaults=[]) (hfn:fns[lx]?=some fn) (hnp:fn.np=1) (hmx:fns.length≤xM) (hlaw:∀ns:List Int,ns.length≤63→∃S',cl fns 40 lx [.obj 0] [.scr (ns.map D.int)]=.ok (.bl true) S')
  (hY:∀(w:World) (h:Heap),YP w h→(K w.params).In h)
  (F:∀(w:World) (mg:Str→Option Value) (h:Heap),(K w.params).In h→h.Ns mainGlobals mg→GlOk (K w.params) mg gl xt∧LawI (K w.params) mg fs gl xt d.name x fn∧∀(f:Nat) (y:Str),fs[f]?=some y→∃fn,fns[f]?=some fn∧FI (K w.params) mg fs gl xt y fn):
  PySem.W.WalkO q loose XP YP l.row.toRowW d [] (fun f vs=>PySem.call f vs):=by
 refine L2.Zki (n:=63) (k:=40) (x:=x) (CX:=fun w=>CXm l.prog w) (sp:=fun w=>spB (K w.params) 1 (cl fns 40 lx) (cl fns 40 (lx+xM))) hn (by decide) hdf ⟨rfl,by decide,by decide⟩ hY ?_ (fun w H a ns hl hO hS=>?_) fun _ _ _ _ _ z=>(by obtain⟨_,_,_,_,_,_,_,_,_,_,_,_,_,z⟩:=z;exact z)
 ·intro w mg fa h KX G hmg
  obtain⟨g0,⟨a,fd,st,N,m,Fu,Sc,hc,hnn,hm,hbb⟩,_⟩:=F w mg h KX G
  have e1:fa=a:=by
   have:=hmg.symm.trans hm
   cases this
   rfl
  subst e1
  refine⟨fd,hbb,fun base kb nb=>?_⟩
  obtain⟨g1,_,g2⟩:=F w mg base kb nb
  have Q:=cl_ok hmx (P:=l.prog) (w:=w) (base:=base) g1 g2 39
  have R:=Zj2 (P:=l.prog) (w:=w) (base:=base) (C:=cl fns 39) Fu Sc hc g1 Q
  have e2:cl fns 40 lx=runF (cl fns 39) ⟨[x].length,N.length,fn.body⟩:=by
   funext ds So
   simp only [cl,hfn]
   rw [show fn=⟨[x].length,N.length,fn.body⟩ by rw [hnn,show [x].length=fn.np from hnp.symm]]
  have e3:cl fns 40 (lx+xM)=runX (cl fns 39) ⟨[x].length,N.length,fn.body⟩:=by
   rw [cl_x hmx hfn]
   rw [show fn=⟨[x].length,N.length,fn.body⟩ by rw [hnn,show [x].length=fn.np from hnp.symm]]
  rw [e2,e3]
  exact R
 ·obtain⟨S',e⟩:=hlaw ns hl
  exact .inl ⟨rfl,[.obj 0],[.scr (ns.map D.int)],[a],.bl true,S',RepL.cons (by simp only [RepV];exact⟨a,rfl,rfl,_,hS⟩) (by simp [RepL]),Zht hO hS,e,fun v H' β' _ r _=>by simpa only [RepV] using r⟩
end Py
namespace L2
open PySem PySem.W PySem.W.X
end L2
namespace Py
open PySem L2
noncomputable def ZjL (N P:List Str) (sc:Scope):Bool:=
 sc.kind==.function&& !sc.isCoroutine&& !sc.isGenerator&&decide N.Nodup&&(N.take P.length==P)&&P.all (fun x=>sc.names.lookup x==some .local||sc.names.lookup x==some .cell)&&sc.names.all (fun y=>y.2 !=.free)
theorem Zah {N P:List Str} {sc:Scope} (h:ZjL N P sc=true):FnScope N P sc:=by
 simp only [ZjL,Yan,decide_eq_true_eq,YaX,Ya8,beq_iff_eq,YaZ] at h
 obtain⟨⟨⟨⟨⟨⟨h1,h2⟩,h3⟩,h4⟩,h5⟩,h6⟩,h7⟩:=h
 exact⟨h1,h2,h3,h4,h5,h6,fun y hy hf=>by have:=h7 y hy;rw [hf] at this;exact absurd this (by decide)⟩
end Py
namespace Py
open PySem L2 PySem.W PyProof.Rows
theorem ZfR {f:Nat→Option Obj} {a:Nat}:∀l:List Nat,List.lookup a (l.filterMap fun i=>(f i).map fun o=>(i,o))=if a∈l then f a else none
 | []=>rfl
 |i::l=>by
  rw [Ya0]
  cases hf:f i with
  |none=>
   simp only [Option.map_none]
   rw [ZfR l]
   by_cases h:a=i
   ·subst h;simp [hf]
   ·simp [h]
  |some o=>
   simp only [Ybk]
   rw [YaD]
   by_cases h:a=i
   ·subst h;simp [hf]
   ·have:(a==i)=false:=by simpa using h
    rw [this]
    simp only
    rw [ZfR l]
    simp [h]
theorem Zdy (h:Heap) (a:Addr):(ZaG h).lookup a=h.get? a:=by
 unfold ZaG
 rw [ZfR]
 split
 ·rfl
 ·rename_i q
  cases e:h.get? a with
  |none=>rfl
  |some o=>exact absurd (YaN.mpr (Yat e)) q
theorem ZlJ (h:Heap):(ZaG h).In h:=fun a o e=>by rw [←Zdy];exact e
theorem Zi7 (st:Stmt):Zeq st=(ZcT st,Zag st,Zab st):=by cases st<;>rfl
theorem Zh8 {K:Frag} {x:Str} {st:Stmt} (h:Zam K x=Zan x st):∃f fd,nsIn K mainGlobals x=some (some (.ref f))∧Fun K x x st f fd:=by
 unfold Zan at h
 rw [Zi7] at h
 unfold Zam at h
 split at h
 ·rename_i f hf
  split at h
  ·rename_i oc od fd sl hl
   have h2:=Option.some.inj h
   have e1:blank fd=fnOf x x (ZcT st) (Zag st) (Zab st) .none .none .none .none none .none .none:=congrArg Prod.fst h2
   have e2:codeIn K fd.code x=true:=congrArg Prod.snd h2
   refine⟨f,fd,hf,⟨⟨oc,od,fd.kwdefaults,fd.doc,fd.pyModule,fd.annotations,fd.code,fd.closureTuple,sl,?_,hl,e2⟩,?_⟩⟩
   ·cases fd
    simp only [blank,fnOf,FuncData.mk.injEq] at e1⊢
    obtain⟨a1,a2,a3,a4,a5,a6,a7,a8,-,-,-,-,-,-,a9⟩:=e1
    exact⟨a1,a2,a3,a4,a5,a6,a7,a8,trivial,trivial,trivial,trivial,trivial,trivial,a9⟩
   ·unfold keepIn;simp only [hl]
  ·cases h
 ·cases h
theorem ar0 {α:Type}:∀{us:List α},us.length=0→us=[]:=fun h=>List.eq_nil_of_length_eq_zero h
theorem ar1 {α:Type} {us:List α} (h:us.length=1):∃a,us=[a]:=by
 cases us with
 |nil=>cases h
 |cons a r=>exact⟨a,by rw [ar0 (us:=r) (by simpa using h)]⟩
theorem ar2 {α:Type} {us:List α} (h:us.length=2):∃a b,us=[a,b]:=by
 cases us with
 |nil=>cases h
 |cons a r=>
  obtain⟨b,e⟩:=ar1 (us:=r) (by simpa using h)
  exact⟨a,b,by rw [e]⟩
theorem ar3 {α:Type} {us:List α} (h:us.length=3):∃a b c,us=[a,b,c]:=by
 cases us with
 |nil=>cases h
 |cons a r=>
  obtain⟨b,c,e⟩:=ar2 (us:=r) (by simpa using h)
  exact⟨a,b,c,by rw [e]⟩
theorem ar4 {α:Type} {us:List α} (h:us.length=4):∃a b c d,us=[a,b,c,d]:=by
 cases us with
 |nil=>cases h
 |cons a r=>
  obtain⟨b,c,d,e⟩:=ar3 (us:=r) (by simpa using h)
  exact⟨a,b,c,d,by rw [e]⟩
theorem FI.of2 {K:Frag} {h:Heap} {mg:Str→Option Value} {fs:List Str} {gl:List (Str×D)} {xt:XT} {x:Str} {st:Stmt} {N ps:List Str} {n:Nat} {fn:Fn}
  (S:FnScope N ps (Zab st)) (hc:cSs n ⟨N,Zab st,fs,gl,fun _=>true,xt,true⟩ (Zag st)=some fn.body) (hp:ps.length=fn.np) (hn:N.length=fn.nl)
  (hbd:∀(kV doc pm:Value) (an:Option Addr) (cdv ct:Value) (us:List Value),us.length=ps.length→bindArgs (fnOf x x (ZcT st) (Zag st) (Zab st) .none kV doc pm an cdv ct) ⟨us,[]⟩=pure (ps.zip us))
  (y:Zam K x=Zan x st) (X:K.In h) (G:h.Ns mainGlobals mg):FI K mg fs gl xt x fn:=by
 obtain⟨f,fd,a,F⟩:=Zh8 y
 exact⟨f,_,st,N,ps,n,F,S,hc,hp,hn,mg_of X G a,F.binds hbd⟩
theorem LawI.of2 {K:Frag} {h:Heap} {mg:Str→Option Value} {fs:List Str} {gl:List (Str×D)} {xt:XT} {x y:Str} {st:Stmt} {N:List Str} {n:Nat} {fn:Fn}
  (S:FnScope N [y] (Zab st)) (hc:cSs n ⟨N,Zab st,fs,gl,fun _=>true,xt,true⟩ (Zag st)=some fn.body) (hn:N.length=fn.nl)
  (hbd:∀(kV doc pm:Value) (an:Option Addr) (cdv ct u:Value),bindArgs (fnOf x x (ZcT st) (Zag st) (Zab st) .none kV doc pm an cdv ct) ⟨[u],[]⟩=pure [(y,u)])
  (z:Zam K x=Zan x st) (X:K.In h) (G:h.Ns mainGlobals mg):LawI K mg fs gl xt x y fn:=by
 obtain⟨f,fd,a,F⟩:=Zh8 z
 obtain⟨oc,od,kV,doc,pm,an,cdv,ct,osl,e,_,_⟩:=F.ex
 exact⟨f,fd,st,N,n,F,S,hc,hn,mg_of X G a,fun s u=>.of_eq (by rw [e];exact hbd kV doc pm an cdv ct u)⟩
mutual
noncomputable def gtD:GT→D
 | .non=>.non
 | .bl b=>.bl b
 | .int i=>.int i
 | .str x=>.str x
 | .tup xs=>.tup (gtsD xs)
noncomputable def gtsD:List GT→List D
 | []=>[]
 |x::xs=>gtD x::gtsD xs
end
mutual
theorem Zke {K:Frag}:∀(n:Nat) (d:GT) (u:Value),gtB K n d u=true→∃v,RelV v u∧∀H β,RepV K H β (gtD d) v
 |0,d,u,h=>by
  unfold gtB at h
  split at h
  ·exact⟨.non,rfl,fun _ _=>by simp only [RepV,gtD]⟩
  ·exact⟨.bl _,by rw [←eq_of_beq h];rfl,fun _ _=>by simp only [RepV,gtD]⟩
  ·exact⟨.int _,⟨_,by rw [←eq_of_beq h]⟩,fun _ _=>by simp only [RepV,gtD]⟩
  ·exact⟨.str _,⟨_,by rw [←eq_of_beq h]⟩,fun _ _=>by simp only [RepV,gtD]⟩
  ·contradiction
  ·cases h
 |n+1,d,u,h=>by
  unfold gtB at h
  split at h
  ·exact⟨.non,rfl,fun _ _=>by simp only [RepV,gtD]⟩
  ·exact⟨.bl _,by rw [←eq_of_beq h];rfl,fun _ _=>by simp only [RepV,gtD]⟩
  ·exact⟨.int _,⟨_,by rw [←eq_of_beq h]⟩,fun _ _=>by simp only [RepV,gtD]⟩
  ·exact⟨.str _,⟨_,by rw [←eq_of_beq h]⟩,fun _ _=>by simp only [RepV,gtD]⟩
  ·rename_i m ds a e
   cases e
   split at h
   ·rename_i t dd its m sl hl
    obtain⟨c,c3⟩:=YaG.mp h
    obtain⟨c1,c2⟩:=YaG.mp c
    obtain⟨xs,r1,r2⟩:=Zin n ds its.toList c3
    exact⟨.ref a,rfl,fun H β=>by
     simp only [RepV,gtD]
     exact⟨a,xs,rfl,.inr ⟨_,its,m,hl,by rw [eq_of_beq c1],rfl,YaC (of_decide_eq_true c2) (by decide),r1⟩,r2 H β⟩⟩
   ·cases h
  ·cases h
theorem Zin {K:Frag}:∀(n:Nat) (ds:List GT) (us:List Value),gtsB K n ds us=true→∃vs,Vals vs us∧∀H β,RepL K H β (gtsD ds) vs
 |n,[],us,h=>by
  cases us with
  |nil=>exact⟨[],.nil,fun _ _=>by simp [RepL,gtsD]⟩
  |cons u us=>unfold gtsB at h;cases h
 |0,d::ds,us,h=>by unfold gtsB at h;cases us<;>cases h
 |n+1,d::ds,us,h=>by
  cases us with
  |nil=>unfold gtsB at h;cases h
  |cons u us=>
   unfold gtsB at h
   obtain⟨c1,c2⟩:=YaG.mp h
   obtain⟨x,a1,a2⟩:=Zke n d u c1
   obtain⟨xs,b1,b2⟩:=Zin n ds us c2
   exact⟨x::xs,.cons a1 b1,fun H β=>by simp only [gtsD];exact RepL.cons (a2 H β) (b2 H β)⟩
end
noncomputable abbrev glD (gl:List (Str×GT)):List (Str×D):=gl.map fun p=>(p.1,gtD p.2)
theorem Zeu {β:Type} {x:Str} {d:β}:∀{l:List (Str×β)},l.lookup x=some d→(x,d)∈l
 | [],h=>by cases h
 |(y,e)::l,h=>by
  rw [YaD] at h
  cases hb:x==y with
  |true=>rw [hb] at h;cases h;rw [eq_of_beq hb];exact Yaw
  |false=>rw [hb] at h;exact Yas _ (Zeu h)
theorem Zgw {h h':Heap} (X:(ZaG h).In h'):∀b o,h.get? b=some o→h'.get? b=some o:=fun b o e=>X b o (by rw [Zdy];exact e)
theorem ZlW {h:Heap} {xt:XT} (e:xt.cs.all (clE (ZaG h) h xt.cs)=true) {x:Str} (hx:xt.cs.contains x=true):∃C,ClsF (ZaG h) x C:=by
 have all:=YaX.mp e
 have own:∀y∈xt.cs,∃ch∈(([]:List Str)::xt.cs.map fun y=>[y]),h.ownExcOk y ch vErr "ValueError.__new__" =true:=fun y hy=>YbN.mp (YaG.mp (all y hy)).1
 have hm:=List.contains_iff_mem.mp hx
 obtain⟨ch,hch,hok⟩:=own x hm
 have h2:=(YaG.mp (all x hm)).2
 obtain⟨C,N,nm,q,bs,hdct,sn,sub,ab,col,dd,k0,k1,k2,k3,k5,hmap,hC,hN,hni⟩:=Heap.ownExc_of_ok hok
 split at h2
 ·rename_i C' hns
  obtain⟨hk,hq⟩:=YaG.mp h2
  have eC:C=C':=by
   have:=eq_of_beq hq
   rw [hmap] at this
   exact Value.ref.inj (Option.some.inj this)
  subst eC
  have T:OwnTail h vErr ((ch.map fun n=>(h.nsMap mainGlobals n).getD .none)++vErr):=OwnTail.of_chain ch fun n hn=>by
   rcases YaB.mp hch with z|z
   ·rw [z] at hn;cases hn
   ·obtain⟨y,hy,rfl⟩:=YaR.mp z
    rw [YaI] at hn
    subst hn
    obtain⟨c,_,ho⟩:=own n hy
    exact⟨c,_,_,ho⟩
  exact⟨C,hns,⟨_,N,nm,q,bs,hdct,sn,sub,ab,col,dd,k0,k1,k2,k3,k5,h.nsMap N,by rw [Zdy];exact hC,hni,fun h' X=>⟨hN.keeps (Zgw X),T.keeps (Zgw X)⟩⟩,hk⟩
 ·cases h2
theorem ZjU {K:Frag} {cs yes:List Str} {u:Value} (e:opE K cs yes u=true):∃v,RelV v u∧(∀u',RelV v u'→u'=u)∧∀n C,cs.contains n=true→ClsF K n C→kitOne K (.ref C) u=some (yes.contains n):=by
 unfold opE at e
 obtain⟨e1,e2⟩:=YaG.mp e
 have go:∀n C,cs.contains n=true→ClsF K n C→kitOne K (.ref C) u=some (yes.contains n):=fun n C hn F=>by
  have:=YaX.mp e2 n (List.contains_iff_mem.mp hn)
  rw [F.at_] at this
  exact eq_of_beq this
 split at e1
 ·rename_i a;exact⟨.ref a,rfl,fun u' z=>z,go⟩
 ·rename_i T;exact⟨.ty T,rfl,fun u' z=>z,go⟩
 ·cases e1
theorem GlOk.of2 {s₀ h:Heap} {mg:Str→Option Value} {gl:List (Str×GT)} {xt:XT} (e:((gl.all (glB (ZaG s₀))&&bltN.all (bltB (ZaG s₀)))&&okE (ZaG s₀) s₀ xt)=true) (X:(ZaG s₀).In h) (G:h.Ns mainGlobals mg):GlOk (ZaG s₀) mg (glD gl) xt:=by
 obtain⟨e,e3⟩:=YaG.mp e
 obtain⟨e1,e2⟩:=YaG.mp e
 obtain⟨e4,e5⟩:=YaG.mp e3
 refine⟨fun x d hx=>?_,fun x hx=>?_,fun x hx=>ZlW e4 hx,fun x yes hx=>?_⟩
 ·obtain⟨⟨y,g⟩,hm,hy⟩:=YaR.mp (Zeu hx)
  cases hy
  have:=YaX.mp e1 _ hm
  unfold glB at this
  split at this
  ·rename_i u hu
   obtain⟨v,r1,r2⟩:=Zke _ _ _ this
   exact⟨v,u,mg_of X G hu,r1,r2⟩
  ·cases this
 ·have:=YaX.mp e2 x (show x∈bltN from hx)
  unfold bltB at this
  split at this
  ·rename_i hu;exact mg_none_of X G hu
  ·cases this
 ·have:=YaX.mp e5 _ (Zeu hx)
  unfold opsE at this
  split at this
  ·rename_i u hu
   obtain⟨v,r1,r2,r3⟩:=ZjU this
   exact⟨v,u,.inl ⟨hu,mg_of X G hu⟩,r1,r2,r3⟩
  ·rename_i hu
   obtain⟨n1,n2⟩:=YaG.mp this
   split at n2
   ·rename_i u hb
    obtain⟨v,r1,r2,r3⟩:=ZjU n2
    exact⟨v,u,.inr ⟨hu,mg_none_of X G hu,hb,by simpa using n1⟩,r1,r2,r3⟩
   ·cases n2
  ·cases this
theorem ZhY {l:OpenLaw} {N lx:Nat} {d:DefRec} {fs:List Str} {want:List (Option (FuncData×Bool))} {gl:List (Str×GT)} {xt:XT} {fns:List Fn} {x:Str} {fn:Fn}
  (well:l.wellSaid=true)
  (left:LeftY l.prog fs gl xt want N)
  (hdef:defOf (ZbF l.prog) l.name=some (d,[])) (hp:l.prog.theDef l.name=some (d.params,d.body,d.scope)) (hk:kwWritten? d.params.kwonlyargs d.params.kw_defaults=some [])
  (ok:(chainsOk (ZbF l.prog)&&opensWell l.prog&&(frees l.row.toRowW&&l.row.within.isEmpty))=true) (hb:l.prog.bare) (hw:l.row.toRowW.promised)
  (hn:l.most=some 63) (hdf:d.params.defaults=[]) (hfn:fns[lx]?=some fn) (hnp:fn.np=1) (hmx:fns.length≤xM)
  (hlaw:∀ns:List Int,ns.length≤63→∃S',cl fns 40 lx [.obj 0] [.scr (ns.map D.int)]=.ok (.bl true) S')
  (F:∀(K:Frag) (mg:Str→Option Value) (h:Heap),fs.map (Zam K)=want→K.In h→h.Ns mainGlobals mg→LawI K mg fs (glD gl) xt d.name x fn∧∀(f:Nat) (y:Str),fs[f]?=some y→∃fn,fns[f]?=some fn∧FI K mg fs (glD gl) xt y fn):l.Holds:=by
 refine holds_law well fun said=>?_
 refine holds_openX (q:=ZbF l.prog) (loose:=[]) (Xt:=fun _=>true) (XP:=fun _ _=>True) (Yf:=seenY fs gl xt) (Ya:=fun _=>(want,true)) (N:=N) left (fun _ _=>trivial) (fun _ _ _ _ _=>trivial) hdef hp hk
  (fun s _=>recFacts_of (s:=s) (R:=[]) rfl) (by show (!l.writes||true)=true;cases l.writes<;>rfl) said ok hb hw ?_
 intro w s₀ s₁ mg mb G y a o pm cd doc dV kV h1 h2 h3 h4 h5 h6 args vals as' L h7 h8 h9 h10 h11
 have y1:fs.map (Zam (ZaG s₀.heap))=want:=congrArg Prod.fst y
 have y2:((gl.all (glB (ZaG s₀.heap))&&bltN.all (bltB (ZaG s₀.heap)))&&okE (ZaG s₀.heap) s₀.heap xt)=true:=congrArg Prod.snd y
 have KX:(ZaG s₀.heap).In s₁.heap:=(ZlJ s₀.heap).keeps L.keeps
 have W:=ZnJ (l:=l) (q:=ZbF l.prog) (loose:=[]) (XP:=fun _ _=>True) (YP:=fun _ h=>(ZaG s₀.heap).In h) (d:=d) (K:=fun _=>ZaG s₀.heap) (fs:=fs) (gl:=glD gl) (xt:=xt) (fns:=fns) (lx:=lx) (x:=x) (fn:=fn)
  hn hdf hfn hnp hmx hlaw (fun _ _ z=>z) (fun w mg h X G=>⟨GlOk.of2 y2 X G,F _ mg h y1 X G⟩)
 exact W w s₀ s₁ mg mb G KX a o pm cd doc dV kV h1 h2 h3 h4 h5 h6 args vals as' h7 h8 h9 h10 h11
theorem nth {α:Type} {l m:List α} (e:l=m) (j:Nat) {a b:α} (ha:l[j]?=some a) (hb:m[j]?=some b):a=b:=by
 subst e
 rw [ha] at hb
 exact Option.some.inj hb
end Py
namespace Py
open PySem L2
noncomputable def Pk (q:Nat) (S:Sto):Prop:=∃x:Int,S[q]?=some (.lst [.int x])
structure Kp (p:Option Nat) (m:Nat) (S S':Sto):Prop where
 low:m≤S.length
 len:S.length≤S'.length
 keep:∀j,j<m→some j≠p→S'[j]?=S[j]?
 pk:∀q,p=some q→Pk q S→Pk q S'
theorem Kp.refl {p:Option Nat} {m:Nat} {S:Sto} (h:m≤S.length):Kp p m S S:=⟨h,Yad _,fun _ _ _=>rfl,fun _ _ h=>h⟩
theorem Kp.rfl' {p:Option Nat} {S:Sto}:Kp p S.length S S:=Kp.refl (Yad _)
theorem Kp.next {p:Option Nat} {m m':Nat} {S S1 S2:Sto} (a:Kp p m S S1) (b:Kp p m' S1 S2) (h:m≤m'):Kp p m S S2:=
 ⟨a.low,YaC a.len b.len,fun j hj hp=>(b.keep j (Yax hj h) hp).trans (a.keep j hj hp),fun q e h=>b.pk q e (a.pk q e h)⟩
theorem Kp.nx {p:Option Nat} {m:Nat} {S S1 S2:Sto} (a:Kp p m S S1) (b:Kp p S1.length S1 S2):Kp p m S S2:=a.next b (YaC a.low a.len)
theorem Kp.weak {p:Option Nat} {m m':Nat} {S S1:Sto} (a:Kp p m S S1) (h:m'≤m):Kp p m' S S1:=⟨YaC h a.low,a.len,fun j hj hp=>a.keep j (Yax hj h) hp,a.pk⟩
theorem Kp.get {p:Option Nat} {m j:Nat} {c:Cell} {S S1:Sto} (a:Kp p m S S1) (h:S[j]?=some c) (hj:j<m) (hp:some j≠p):S1[j]?=some c:=by rw [a.keep j hj hp];exact h
theorem Kp.get0 {m j:Nat} {c:Cell} {S S1:Sto} (a:Kp none m S S1) (h:S[j]?=some c) (hj:j<m):S1[j]?=some c:=a.get h hj (by intro z;cases z)
theorem Zac {j:Nat} {c:Cell} {S:Sto} (h:S[j]?=some c):j<S.length:=(Yac.mp h).1
theorem Kp.snoc {p:Option Nat} {S:Sto} {c:Cell} (hp:∀q,p=some q→q<S.length):Kp p S.length S (S++[c]):=
 ⟨Yad _,by simp,fun j hj _=>Yar hj,fun q e h=>by obtain⟨x,hx⟩:=h;exact⟨x,by rw [Yar (hp q e)];exact hx⟩⟩
theorem Kp.set {p:Option Nat} {m n:Nat} {S:Sto} {c:Cell} (hm:m≤S.length) (hn:m≤n) (hp:∀q,p=some q→q<m):Kp p m S (S.set n c):=
 ⟨hm,by simp,fun j hj _=>Yap (by omega),fun q e h=>by obtain⟨x,hx⟩:=h;have:=hp q e;exact⟨x,by rw [Yap (by omega)];exact hx⟩⟩
theorem Zal {S:Sto} {c:Cell}:(S++[c])[S.length]?=some c:=by rw [Yav (Yad _)];simp
theorem Zgs {J:Itm} {body:D→Nv→Sto→Res Fl} (P:Nat→Nv→Sto→Prop):∀(items:List D) (i:Nat) (e:Nv) (S:Sto),P i e S→(∀j e S,i≤j→j≤i+items.length→P j e S→J.still S=true)→
  (∀j x e S,items[j]?=some x→P (i+j) e S→∃e' S',(body x e S=.ok (.nx e') S'∨body x e S=.ok (.ct e') S')∧P (i+j+1) e' S')→∃e' S',loopD J body items e S=.ok (.nx e') S'∧P (i+items.length) e' S'
 | [],i,e,S,h,hst,_=>by
  refine⟨e,S,?_,h⟩
  simp only [loopD]
  rw [if_pos (hst i e S (Yad _) (Yad _) h)]
 |x::xs,i,e,S,h,hst,hb=>by
  obtain⟨e1,S1,q,h1⟩:=hb 0 x e S rfl h
  obtain⟨e2,S2,q2,h2⟩:=Zgs P xs (i+1) e1 S1 h1 (fun j e S a b c=>hst j e S (by omega) (by simp only [YaH];omega) c) (fun j y e S hy hP=>by
   have:=hb (j+1) y e S (by simpa using hy) (by rw [show i+(j+1)=i+1+j by omega];exact hP)
   rw [show i+(j+1)+1=i+1+j+1 by omega] at this
   exact this)
  refine⟨e2,S2,?_,by rw [YaH,show i+(xs.length+1)=i+1+xs.length by omega];exact h2⟩
  simp only [loopD]
  rw [if_pos (hst i e S (Yad _) (by omega) h)]
  rcases q with q|q
  ·rw [q];exact q2
  ·rw [q];exact q2
theorem Zbr {S:Sto} {xs:List D} {n:Nat} (h:lsOf S n=some xs):Itm.still ⟨xs,some n⟩ S=true:=by
 simp only [Itm.still,h]
 exact D.sames_refl xs
theorem Zad {S:Sto} {n:Nat} {xs:List D} (h:S[n]?=some (.lst xs)):lsOf S n=some xs:=by simp only [lsOf,h]
theorem Zes {S:Sto} {n:Nat} {xs:List D} (h:S[n]?=some (.scr xs)):lsOf S n=some xs:=by simp only [lsOf,h]
theorem ZgK {J:Itm} {n:Nat} {body:D→Nv→Sto→Res (Nv×Option D)} (P:Nat→List D→Nv→Sto→Prop):∀(items:List D) (i:Nat) (ys:List D) (e:Nv) (S:Sto),P i ys e S→
  (∀j ys e S,P j ys e S→J.still S=true∧ys.length<100000)→
  (∀j x ys e S,items[j]?=some x→P (i+j) ys e S→∃e' S',(∃d,body x e S=.ok (e',some d) S'∧S'[n]?=some (.lst ys)∧P (i+j+1) (ys++[d]) e' (S'.set n (.lst (ys++[d]))))∨(body x e S=.ok (e',none) S'∧P (i+j+1) ys e' S'))→
  ∃ys' e' S',compD J n body items e S=.ok (.obj n) S'∧P (i+items.length) ys' e' S'
 | [],i,ys,e,S,h,hst,_=>by
  refine⟨ys,e,S,?_,h⟩
  simp only [compD]
  rw [if_pos (hst i ys e S h).1]
 |x::xs,i,ys,e,S,h,hst,hb=>by
  have go:∀ys1 e1 S1,P (i+1) ys1 e1 S1→∃ys' e' S',compD J n body xs e1 S1=.ok (.obj n) S'∧P (i+(xs.length+1)) ys' e' S':=fun ys1 e1 S1 h1=>by
   obtain⟨ys2,e2,S2,q2,h2⟩:=ZgK P xs (i+1) ys1 e1 S1 h1 hst (fun j y ys e S hy hP=>by
    have:=hb (j+1) y ys e S (by simpa using hy) (by rw [show i+(j+1)=i+1+j by omega];exact hP)
    rw [show i+(j+1)+1=i+1+j+1 by omega] at this
    exact this)
   exact⟨ys2,e2,S2,q2,by rw [show i+(xs.length+1)=i+1+xs.length by omega];exact h2⟩
  have ⟨st,hl⟩:=hst i ys e S h
  obtain⟨e1,S1,q⟩:=hb 0 x ys e S rfl h
  simp only [compD]
  rw [if_pos st,YaH]
  rcases q with ⟨d,q,hc,h1⟩|⟨q,h1⟩
  ·rw [q]
   simp only [Res.bind_ok,appD,hc]
   rw [if_pos hl]
   exact go _ _ _ h1
  ·rw [q]
   exact go _ _ _ h1
theorem ZaK {fns:List Fn} {k f:Nat} {fn:Fn} {ds:List D} {S:Sto} (h:fns[f]?=some fn):cl fns (k+1) f ds S=runF (cl fns k) fn ds S:=by simp only [cl,h]
end Py
namespace Py
open PySem L2
noncomputable def Wp {α:Type} (r:Res α) (Q:α→Sto→Prop):Prop:=∃a S,r=.ok a S∧Q a S
section
variable {α β γ:Type} {C:Nat→List D→Sto→Res D} {e:Nv} {S:Sto}
@[simp] theorem wp_ok {a:α} {Q:α→Sto→Prop}:Wp (.ok a S) Q↔Q a S:=⟨fun⟨_,_,h,q⟩=>by cases h;exact q,fun q=>⟨a,S,rfl,q⟩⟩
@[simp] theorem wp_no {Q:α→Sto→Prop}:Wp (.no:Res α) Q↔False:=⟨fun⟨_,_,h,_⟩=>(by cases h),False.elim⟩
theorem Zae {r:Res α} {g:α→Sto→Res β} {Q1:α→Sto→Prop} {Q:β→Sto→Prop} (h:Wp r Q1) (hg:∀a S,Q1 a S→Wp (g a S) Q):Wp (r.bind g) Q:=by
 obtain⟨a,S,rfl,q⟩:=h
 exact hg a S q
theorem Zbz {r:Res α} {Q1 Q:α→Sto→Prop} (h:Wp r Q1) (hg:∀a S,Q1 a S→Q a S):Wp r Q:=by
 obtain⟨a,S,rfl,q⟩:=h
 exact⟨a,S,rfl,hg a S q⟩
@[simp] theorem Zaa {r:Res α} {f:α→Sto→Res β} {g:β→Sto→Res γ}:(r.bind f).bind g=r.bind fun a S=>(f a S).bind g:=by cases r<;>rfl
@[simp] theorem Zec {d:D}:ev C (.cst d) e S=.ok d S:=rfl
@[simp] theorem ZdD {i:Nat}:ev C (.var i) e S=(match e[i]? with|some (some d)=>.ok d S|_=>.no):=rfl
@[simp] theorem ev_op {o:Op2} {a b:PX}:ev C (.op o a b) e S=(ev C a e S).bind fun x S1=>(ev C b e S1).bind fun y S2=>op2 o x y S2:=rfl
@[simp] theorem Zpf {o o':Op2} {a b c:PX}:ev C (.chn o o' a b c) e S=(ev C a e S).bind fun x S1=>(ev C b e S1).bind fun y S2=>(op2 o x y S2).bind fun z S3=>(match z with
   | .bl true=>(ev C c e S3).bind fun w S4=>op2 o' y w S4
   | .bl false=>.ok (.bl false) S3
   |_=>.no):=rfl
@[simp] theorem Zpg {a b:PX}:ev C (.and a b) e S=(ev C a e S).bind fun x S1=>(match x with| .bl true=>ev C b e S1| .bl false=>.ok (.bl false) S1|_=>.no):=rfl
@[simp] theorem ev_or {a b:PX}:ev C (.or a b) e S=(ev C a e S).bind fun x S1=>(match x with| .bl true=>.ok (.bl true) S1| .bl false=>ev C b e S1|_=>.no):=rfl
@[simp] theorem Zo6 {a:PX}:ev C (.not a) e S=(ev C a e S).bind fun x S1=>(match x with| .bl k=>.ok (.bl (!k)) S1|_=>.no):=rfl
@[simp] theorem Zo8 {a:PX}:ev C (.neg a) e S=(ev C a e S).bind fun x S1=>(match x with| .int i=>.ok (.int (-i)) S1|_=>.no):=rfl
@[simp] theorem Zo3 {a:PX}:ev C (.tru a) e S=(ev C a e S).bind fun x S1=>(match truD x S1 with|some k=>.ok (.bl k) S1|none=>.no):=rfl
@[simp] theorem Zpa {c a b:PX}:ev C (.ife c a b) e S=(ev C c e S).bind fun x S1=>(match x with| .bl true=>ev C a e S1| .bl false=>ev C b e S1|_=>.no):=rfl
@[simp] theorem Zfv:ev C .nil e S=.ok (.tup []) S:=rfl
@[simp] theorem ZdE {a b:PX}:ev C (.cons a b) e S=(ev C a e S).bind fun x S1=>(ev C b e S1).bind fun y S2=>(match y with| .tup ys=>.ok (.tup (x::ys)) S2|_=>.no):=rfl
@[simp] theorem Zo2 {a:PX}:ev C (.tup a) e S=(ev C a e S).bind fun y S1=>(match y with| .tup ys=>if ys.length≤100000 then .ok (.tup ys) S1 else .no|_=>.no):=rfl
@[simp] theorem Zj3 {a:PX}:ev C (.lst a) e S=(ev C a e S).bind fun y S1=>(match y with| .tup ys=>if ys.length≤100000 then .ok (.obj S1.length) (S1++[.lst ys]) else .no|_=>.no):=rfl
@[simp] theorem Zj4 {a b:PX}:ev C (.idx a b) e S=(ev C a e S).bind fun x S1=>(ev C b e S1).bind fun y S2=>idxD x y S2:=rfl
@[simp] theorem ZnV {a lo hi:PX}:ev C (.slc a lo hi) e S=(ev C a e S).bind fun x S1=>(ev C lo e S1).bind fun l S2=>(ev C hi e S2).bind fun h S3=>(match partD l,partD h with
   |some l',some h'=>slcD x l' h' S3
   |_,_=>.no):=rfl
@[simp] theorem Zo4 {a:PX} {k:Nat}:ev C (.stp a k) e S=(ev C a e S).bind fun x S1=>stpD k x S1:=rfl
@[simp] theorem Zo7:ev C .noe e S=.ok .non S:=rfl
@[simp] theorem ZnW {a:PX}:ev C (.bnd a) e S=(ev C a e S).bind fun x S1=>(match x with| .int i=>.ok (.int i) S1|_=>.no):=rfl
@[simp] theorem Zif {f:Nat} {a:PX}:ev C (.call f a) e S=(ev C a e S).bind fun y S1=>(match y with| .tup ys=>C f ys S1|_=>.no):=rfl
@[simp] theorem ZnX {b:Bl} {a:PX}:ev C (.blt b a) e S=(ev C a e S).bind fun y S1=>(match y with| .tup ys=>bltD b ys S1|_=>.no):=rfl
@[simp] theorem ZnY {l x:PX}:ev C (.app l x) e S=(ev C l e S).bind fun y S1=>(ev C x e S1).bind fun d S2=>appD y d S2:=rfl
@[simp] theorem Zo9 {m:Mt} {l x:PX}:ev C (.mth m l x) e S=(ev C l e S).bind fun y S1=>(ev C x e S1).bind fun d S2=>mthD m y d S2:=rfl
@[simp] theorem ZoJ {a:PX}:ev C (.lrng a) e S=(ev C a e S).bind fun y S1=>(match y with| .tup ys=>lrngD ys S1|_=>.no):=rfl
@[simp] theorem Zpb:ev C .dnw e S=.ok (.exo "") S:=rfl
@[simp] theorem Zpe {ks:List Key} {a:PX}:ev C (.ddp ks a) e S=(ev C a e S).bind fun y S1=>dspD ks y S1:=rfl
@[simp] theorem Zpc {a b:PX}:ev C (.dix a b) e S=(ev C a e S).bind fun x S1=>(ev C b e S1).bind fun y S2=>dixD x y S2:=rfl
@[simp] theorem Zpd {a b:PX}:ev C (.dgt a b) e S=(ev C a e S).bind fun x S1=>if isDw x S1=true then (ev C b e S1).bind fun y S2=>dgtD x y S2 else .no:=rfl
@[simp] theorem ZoL {a:PX}:evI C (.idc a) e S=(ev C a e S).bind fun x S1=>itdD x S1:=rfl
@[simp] theorem ZoN {o i:PX} {d:D}:evG C (.tdx o i) d e S=(ev C o e S).bind fun x S1=>(ev C i e S1).bind fun y S2=>(setKD x y d S2).bind fun _ S3=>.ok e S3:=rfl
@[simp] theorem Zo5 {a:PX}:ev C (.rev a) e S=(ev C a e S).bind fun x S1=>revD x S1:=rfl
@[simp] theorem Zo1 {a:PX}:ev C (.upp a) e S=(ev C a e S).bind fun x S1=>uppD x S1:=rfl
@[simp] theorem rev_t {xs:List D}:revD (.tup xs) S=.ok (.tup xs.reverse) S:=rfl
@[simp] theorem ZoK {a:PX}:evI C (.iseq a) e S=(ev C a e S).bind fun x S1=>optD (itmOf S1 x) S1:=rfl
@[simp] theorem ZlP {a:PX}:evI C (.irng a) e S=(ev C a e S).bind fun y S1=>optD (rngOf y) S1:=rfl
@[simp] theorem Zos {a:PX}:evI C (.ienum a) e S=(ev C a e S).bind fun x S1=>(match x with| .tup xs=>.ok ⟨Zav 0 xs,none⟩ S1|_=>.no):=rfl
@[simp] theorem ZgG {i:Nat} {d:D}:evG C (.tnm i) d e S=.ok (e.set i (some d)) S:=rfl
@[simp] theorem ZoM {n:Nat} {ts:PX} {ds:List D}:evG C (.ttup n ts) (.tup ds) e S=if ds.length=n then evGs C ts ds e S else .no:=rfl
@[simp] theorem ZoO {o i:PX} {d:D}:evG C (.tsub o i) d e S=(ev C o e S).bind fun x S1=>(ev C i e S1).bind fun y S2=>(setD x y d S2).bind fun _ S3=>.ok e S3:=rfl
@[simp] theorem Zot:evGs C .nil [] e S=.ok e S:=rfl
@[simp] theorem Zn0 {t ts:PX} {d:D} {r:List D}:evGs C (.cons t ts) (d::r) e S=(evG C t d e S).bind fun e' S'=>evGs C ts r e' S':=rfl
@[simp] theorem ZeR:evS C .skip e S=.ok (.nx e) S:=rfl
noncomputable def seqK (C:Nat→List D→Sto→Res D) (b:PX) (r:Fl) (S1:Sto):Res Fl:=match r with| .nx e1=>evS C b e1 S1|r=>.ok r S1
@[simp] theorem Zow {b:PX} {d:D}:seqK C b (.rt d) S=.ok (.rt d) S:=rfl
@[simp] theorem Zoz {b:PX}:seqK C b (.bk e) S=.ok (.bk e) S:=rfl
@[simp] theorem Zoy {b:PX}:seqK C b (.ct e) S=.ok (.ct e) S:=rfl
@[simp] theorem Zox {b:PX} {c:Str}:seqK C b (.ex c e) S=.ok (.ex c e) S:=rfl
@[simp] theorem ZnZ {a b:PX}:evS C (.seq a b) e S=(evS C a e S).bind (seqK C b):=rfl
@[simp] theorem wp_sK {b:PX} {Q:Fl→Sto→Prop}:Wp (seqK C b (.nx e) S) Q=Wp (evS C b e S) Q:=rfl
@[simp] theorem ZoX {α:Type} {b:PX} {f:Fl→Sto→Res α} {Q:α→Sto→Prop}:Wp ((seqK C b (.nx e) S).bind f) Q=Wp ((evS C b e S).bind f) Q:=rfl
@[simp] theorem eq_sK {b:PX} {r:Res Fl}:(seqK C b (.nx e) S=r)=(evS C b e S=r):=rfl
@[simp] theorem Zpi {α:Type} {b:PX} {f:Fl→Sto→Res α} {r:Res α}:((seqK C b (.nx e) S).bind f=r)=((evS C b e S).bind f=r):=rfl
@[simp] theorem ZoP {α β:Type} {b:PX} {f:Fl→Sto→Res α} {g:α→Sto→Res β} {r:Res β}:(((seqK C b (.nx e) S).bind f).bind g=r)=(((evS C b e S).bind f).bind g=r):=rfl
noncomputable def ifK (C:Nat→List D→Sto→Res D) (a b:PX) (e:Nv) (x:D) (S1:Sto):Res Fl:=match x with| .bl true=>evS C a e S1| .bl false=>evS C b e S1|_=>.no
@[simp] theorem ifK_t {a b:PX}:ifK C a b e (.bl true) S=evS C a e S:=rfl
@[simp] theorem ifK_f {a b:PX}:ifK C a b e (.bl false) S=evS C b e S:=rfl
@[simp] theorem Zph {c a b:PX}:evS C (.ifs c a b) e S=(ev C c e S).bind (ifK C a b e):=rfl
theorem ZeS {a b:PX}:evS C (.seq a b) e S=(evS C a e S).bind fun r S1=>(match r with| .nx e1=>evS C b e1 S1|r=>.ok r S1):=rfl
@[simp] theorem Zig {t a:PX}:evS C (.asg t a) e S=(ev C a e S).bind fun d S1=>(evG C t d e S1).bind fun e1 S2=>.ok (.nx e1) S2:=rfl
@[simp] theorem ZlO {a:PX}:evS C (.exp a) e S=(ev C a e S).bind fun _ S1=>.ok (.nx e) S1:=rfl
@[simp] theorem ZlN {a:PX}:evS C (.ret a) e S=(ev C a e S).bind fun d S1=>.ok (.rt d) S1:=rfl
@[simp] theorem Zdj {a b:Int}:op2 .add (.int a) (.int b) S=.ok (.int (a+b)) S:=rfl
@[simp] theorem Zoq {a b:List D}:op2 .add (.tup a) (.tup b) S=if a.length+b.length≤100000 then .ok (.tup (a++b)) S else .no:=rfl
@[simp] theorem Zok {a b:Int}:op2 .sub (.int a) (.int b) S=.ok (.int (a-b)) S:=rfl
@[simp] theorem Zjc {a:List D} {b:Int}:op2 .mul (.tup a) (.int b) S=if a≠[]∧1≤b∧b≤1000∧a.length≤100 then .ok (.tup (Yaq b.toNat a).flatten) S else if a≠[]∧b≤0∧ -1000≤b then .ok (.tup []) S else .no:=rfl
@[simp] theorem Zor {a b:Str}:op2 .add (.str a) (.str b) S=if a.length+b.length≤100000 then .ok (.str (a++b)) S else .no:=rfl
@[simp] theorem Zon {a b:Int}:op2 .mod (.int a) (.int b) S=if 0<b then .ok (.int (a % b)) S else .no:=rfl
@[simp] theorem Zol {a b:Int}:op2 .shr (.int a) (.int b) S=if 0≤b then .ok (.int (a / 2^b.toNat)) S else .no:=rfl
@[simp] theorem ZmX {a b:Int}:op2 .band (.int a) (.int b) S=.ok (.int (Builtin.bitAnd a b)) S:=rfl
@[simp] theorem ZoH {a b:Int}:op2 .eq (.int a) (.int b) S=.ok (.bl (decide (a=b))) S:=rfl
@[simp] theorem ZoG {a b:Str}:op2 .eq (.str a) (.str b) S=.ok (.bl (decide (a=b))) S:=rfl
@[simp] theorem ZoI {a b:Bool}:op2 .eq (.bl a) (.bl b) S=.ok (.bl (decide (a=b))) S:=rfl
@[simp] theorem ZoB {a b:Int}:op2 .ne (.int a) (.int b) S=.ok (.bl (!decide (a=b))) S:=rfl
@[simp] theorem ZoA {a b:Str}:op2 .ne (.str a) (.str b) S=.ok (.bl (!decide (a=b))) S:=rfl
@[simp] theorem Zoo {a:D} {n:Nat}:op2 .mem a (.obj n) S=(match lsOf S n with|some ys=>if flatD a=true∧ys.all flatD=true then .ok (.bl (ys.any fun y=>eqF y a)) S else (match memX S a ys with|some k=>.ok (.bl k) S|none=>.no)|none=>.no):=rfl
@[simp] theorem ZmU {a:D} {n:Nat}:op2 .nmem a (.obj n) S=(match lsOf S n with|some ys=>if flatD a=true∧ys.all flatD=true then .ok (.bl (!ys.any fun y=>eqF y a)) S else (match memX S a ys with|some k=>.ok (.bl (!k)) S|none=>.no)|none=>.no):=rfl
@[simp] theorem ZoC {a b:Int}:op2 .lt (.int a) (.int b) S=.ok (.bl (decide (a<b))) S:=rfl
@[simp] theorem ZoD {a b:Int}:op2 .le (.int a) (.int b) S=.ok (.bl (decide (a≤b))) S:=rfl
@[simp] theorem ZoE {a b:Int}:op2 .gt (.int a) (.int b) S=.ok (.bl (decide (b<a))) S:=rfl
@[simp] theorem ZoF {a b:Int}:op2 .ge (.int a) (.int b) S=.ok (.bl (decide (b≤a))) S:=rfl
theorem idx_t {xs:List D} {i:Int}:idxD (.tup xs) (.int i) S=(match (L2.ixN xs.length i).bind fun j=>xs[j]? with|some d=>.ok d S|none=>.no):=rfl
theorem idx_o {n:Nat} {i:Int}:idxD (.obj n) (.int i) S=(match lsOf S n with|some xs=>(match (L2.ixN xs.length i).bind fun j=>xs[j]? with|some d=>.ok d S|none=>.no)|none=>.no):=rfl
theorem ZjY {n:Nat} {i:Int} (h0:0≤i) (h1:i<n):L2.ixN n i=some i.toNat:=by unfold L2.ixN;rw [if_pos h0,if_pos h1]
theorem Zc1 {xs:List D} {i:Int} {d:D} (h0:0≤i) (h:xs[i.toNat]?=some d):idxD (.tup xs) (.int i) S=.ok d S:=by
 have hlt:=(Yac.mp h).1
 rw [idx_t,ZjY h0 (by omega)]
 simp [h]
theorem ZeL {xs:List D} {j:Nat} {d:D} (h:xs[j]?=some d):idxD (.tup xs) (.int (j:Int)) S=.ok d S:=Zc1 (by omega) (by simpa using h)
theorem ZaR {xs:List D} {n:Nat} {i:Int} {d:D} (hl:lsOf S n=some xs) (h0:0≤i) (h:xs[i.toNat]?=some d):idxD (.obj n) (.int i) S=.ok d S:=by
 have hlt:=(Yac.mp h).1
 rw [idx_o,hl]
 simp only
 rw [ZjY h0 (by omega)]
 simp [h]
@[simp] theorem idx_0 {a:D} {r:List D}:idxD (.tup (a::r)) (.int 0) S=.ok a S:=Zc1 (by decide) rfl
@[simp] theorem idx_1 {a b:D} {r:List D}:idxD (.tup (a::b::r)) (.int 1) S=.ok b S:=Zc1 (by decide) rfl
@[simp] theorem idx_2 {a b c:D} {r:List D}:idxD (.tup (a::b::c::r)) (.int 2) S=.ok c S:=Zc1 (by decide) rfl
@[simp] theorem slc_t {xs:List D} {lo hi:Option Int}:slcD (.tup xs) lo hi S=.ok (.tup (cutD xs lo hi)) S:=rfl
@[simp] theorem ZoY:partD .non=some none:=rfl
@[simp] theorem ZmO {i:Int}:partD (.int i)=some (some i):=rfl
@[simp] theorem tru_b {b:Bool}:truD (.bl b) S=some b:=rfl
@[simp] theorem tru_i {i:Int}:truD (.int i) S=some (i !=0):=rfl
@[simp] theorem tru_t {xs:List D}:truD (.tup xs) S=some (!xs.isEmpty):=rfl
@[simp] theorem ZoT {xs:List D}:bltD .len [.tup xs] S=.ok (.int xs.length) S:=rfl
@[simp] theorem Zl5 {n:Nat}:bltD .len [.obj n] S=(match lsOf S n with|some xs=>.ok (.int xs.length) S|none=>.no):=rfl
@[simp] theorem ZoW {n:Nat}:bltD .all [.obj n] S=(match (lsOf S n).bind blsOf with|some bs=>.ok (.bl (bs.all id)) S|none=>.no):=rfl
@[simp] theorem ZoV {n:Nat}:bltD .any [.obj n] S=(match (lsOf S n).bind blsOf with|some bs=>.ok (.bl (bs.any id)) S|none=>.no):=rfl
@[simp] theorem ZoS {n:Nat}:bltD .sum [.obj n] S=(match (lsOf S n).bind Zbc with|some ns=>.ok (.int ns.sum) S|none=>(match (lsOf S n).bind blsOf with|some bs=>.ok (.int ((bs.countP id:Nat):Int)) S|none=>.no)):=rfl
@[simp] theorem ZoQ {xs:List D}:bltD .tuple [.tup xs] S=.ok (.tup xs) S:=rfl
@[simp] theorem ZoR {n:Nat}:bltD .tuple [.obj n] S=(match lsOf S n with|some xs=>.ok (.tup xs) S|none=>.no):=rfl
@[simp] theorem b_max {a b:Int}:bltD .max [.int a,.int b] S=.ok (.int (if b>a then b else a)) S:=rfl
@[simp] theorem b_min {a b:Int}:bltD .min [.int a,.int b] S=.ok (.int (if b<a then b else a)) S:=rfl
@[simp] theorem ZoU {b:Bool}:bltD .int [.bl b] S=.ok (.int (if b then 1 else 0)) S:=rfl
@[simp] theorem b_isi {x:D} {T:String}:bltD .isi [x,.ty T] S=(match tyOf x S with|some t=>if T∈tysT then .ok (.bl (isiB t T)) S else .no|none=>.no):=rfl
@[simp] theorem Zov {a b:Int}:bltD .divmod [.int a,.int b] S=if 0<b∧lg 256 b=true then .ok (.tup [.int (a / b),.int (a % b)]) S else .no:=rfl
@[simp] theorem ty_t {xs:List D}:tyOf (.tup xs) S=some "tuple" :=rfl
@[simp] theorem itm_t {xs:List D}:itmOf S (.tup xs)=some ⟨xs,none⟩:=rfl
@[simp] theorem itm_o {n:Nat}:itmOf S (.obj n)=(lsOf S n).map fun xs=>⟨xs,some n⟩:=rfl
@[simp] theorem opt_s {α:Type} {a:α}:optD (some a) S=.ok a S:=rfl
theorem Zjy {t it b:PX}:evS C (.loop t it b) e S=(evI C it e S).bind fun J S1=>loopD J (fun x e' S'=>(evG C t x e' S').bind fun e2 S2=>evS C b e2 S2) J.items e S1:=rfl
theorem ZlM {cap:List (Option Nat)} {tg it cond elt:PX}:ev C (.comp cap tg it cond elt) e S=(evI C it e S).bind fun J S1=>compD J S1.length (bodyC (evG C tg) (ev C cond) (ev C elt)) J.items (captD e cap) (S1++[.lst []]):=rfl
theorem ZaN {t it b:PX} {f:Fl→Sto→Res β} {Q:β→Sto→Prop} {J:Itm} {S1:Sto} (hI:evI C it e S=.ok J S1) (P:Nat→Nv→Sto→Prop) (h0:P 0 e S1) (hst:∀j e S,j≤J.items.length→P j e S→J.still S=true)
  (hb:∀j x e S,J.items[j]?=some x→P j e S→Wp ((evG C t x e S).bind fun e2 S2=>evS C b e2 S2) (fun r S'=>∃e',(r=.nx e'∨r=.ct e')∧P (j+1) e' S')) (hR:∀e' S',P J.items.length e' S'→Wp (f (.nx e') S') Q):
  Wp ((evS C (.loop t it b) e S).bind f) Q:=by
 obtain⟨e',S',q,h⟩:=Zgs (J:=J) (body:=fun x e' S'=>(evG C t x e' S').bind fun e2 S2=>evS C b e2 S2) P J.items 0 e S1 h0 (fun j e S _ b c=>hst j e S (by omega) c) (fun j x e S hx hP=>by
  rw [Ybv] at hP⊢
  obtain⟨r,S',q,e',hr,hP'⟩:=hb j x e S hx hP
  exact⟨e',S',hr.elim (fun z=>.inl (by rw [q,z])) (fun z=>.inr (by rw [q,z])),hP'⟩)
 rw [Zjy,hI,Res.bind_ok,q,Res.bind_ok]
 rw [Ybv] at h
 exact hR e' S' h
theorem Zcb {cap:List (Option Nat)} {tg it cond elt:PX} {f:D→Sto→Res β} {Q:β→Sto→Prop} {J:Itm} {S1:Sto} (hI:evI C it e S=.ok J S1) (P:Nat→List D→Nv→Sto→Prop)
  (h0:P 0 [] (captD e cap) (S1++[.lst []])) (hst:∀j ys e S,P j ys e S→J.still S=true∧ys.length<100000)
  (hb:∀j x ys e S,J.items[j]?=some x→P j ys e S→Wp (bodyC (evG C tg) (ev C cond) (ev C elt) x e S) (fun r S'=>(∃d,r.2=some d∧S'[S1.length]?=some (.lst ys)∧P (j+1) (ys++[d]) r.1 (S'.set S1.length (.lst (ys++[d]))))∨(r.2=none∧P (j+1) ys r.1 S')))
  (hR:∀ys e' S',P J.items.length ys e' S'→Wp (f (.obj S1.length) S') Q):Wp ((ev C (.comp cap tg it cond elt) e S).bind f) Q:=by
 obtain⟨ys,e',S',q,h⟩:=ZgK (J:=J) (n:=S1.length) (body:=bodyC (evG C tg) (ev C cond) (ev C elt)) P J.items 0 [] (captD e cap) (S1++[.lst []]) h0 hst (fun j x ys e S hx hP=>by
  rw [Ybv] at hP⊢
  obtain⟨r,S',q,hr⟩:=hb j x ys e S hx hP
  obtain⟨r1,r2⟩:=r
  refine⟨r1,S',?_⟩
  rcases hr with ⟨d,hd,h1,h2⟩|⟨hd,h1⟩
  ·exact .inl ⟨d,by rw [q,show r2=some d from hd],h1,h2⟩
  ·exact .inr ⟨by rw [q,show r2=none from hd],h1⟩)
 rw [ZlM,hI,Res.bind_ok,q,Res.bind_ok]
 rw [Ybv] at h
 exact hR ys e' S' h
theorem wp_cl {fns:List Fn} {k f:Nat} {fn:Fn} {ds:List D} {Q:D→Sto→Prop} (h:fns[f]?=some fn) (hl:ds.length=fn.np) (q:Wp ((evS (cl fns k) fn.body (ds.map some++Yaq (fn.nl-fn.np) none) S).bind fun r S1=>(match r with| .nx _=>.ok .non S1| .rt d=>.ok d S1|_=>.no)) Q):
  Wp (cl fns (k+1) f ds S) Q:=by
 rw [ZaK h]
 unfold runF
 rw [if_pos hl]
 exact q
theorem Zdi {n j:Nat} (h:j<n):(Zaj 0 1 n)[j]?=some (.int (j:Int)):=by rw [Zdn h];simp
theorem Zel {lo:Int} {n j:Nat} (h:j<n):(Zaj lo 1 n)[j]?=some (.int (lo+(j:Int))):=by rw [Zdn h];simp
theorem Zdo {n:Nat} (h:n≤100000):rngOf (.tup [.int (n:Int)])=some ⟨Zaj 0 1 n,none⟩:=by
 simp only [rngOf]
 rw [if_pos (lg_of (by decide) (by omega)),YaY]
theorem Zgk {i j:Int} (h: -100000≤i∧i≤100000∧ -100000≤j∧j≤100000):rngOf (.tup [.int i,.int j])=some ⟨Zaj i 1 (j-i).toNat,none⟩:=by
 simp only [rngOf]
 rw [if_pos ⟨lg_of (by decide) (by omega),lg_of (by decide) (by omega)⟩]
end
end Py
namespace Py
open PySem L2
theorem ZeV {α:Type} {f:α→Bool}:∀{l:List α},blsOf (l.map fun r=>D.bl (f r))=some (l.map f)
 | []=>rfl
 |a::r=>by simp [blsOf,ZeV (l:=r)]
theorem ZgO:∀{ys:List D},(∀y∈ys,y=.bl true)→∃bs,blsOf ys=some bs∧bs.all id=true
 | [],_=>⟨[],rfl,rfl⟩
 |y::r,h=>by
  obtain⟨bs,e,q⟩:=ZgO (ys:=r) fun z hz=>h z (Yas _ hz)
  have:=h y Yaw
  subst this
  exact⟨true::bs,by simp [blsOf,e],by simpa using q⟩
theorem ZaM {α:Type} {l:List α} {i:Nat} {x:α} (h:l[i]?=some x):l.take (i+1)=l.take i++[x]:=by rw [List.take_add_one,h];rfl
theorem ZaO {S:Sto} {n:Nat} {c c':Cell} (h:S[n]?=some c'):(S.set n c)[n]?=some c:=YaA (Zac h)
section
variable {C:Nat→List D→Sto→Res D} {e:Nv} {S S1:Sto} {cap:List (Option Nat)} {tg it cond elt:PX} {J:Itm}
theorem Zau {α:Type} {r:Res α} {Q:α→Sto→Prop} (h:Wp (r.bind fun a S=>.ok a S) Q):Wp r Q:=by cases r<;>exact h
theorem ZjD {p:Option Nat} (E:Nv→Prop) (R:Nat→D→Prop) (hI:evI C it e S=.ok J S1) (hst:∀S',Kp p S1.length S1 S'→J.still S'=true) (hlen:J.items.length≤50000) (hp:∀q,p=some q→q<S1.length∧Pk q S1) (h0:E (captD e cap))
  (hb:∀j x e S',J.items[j]?=some x→E e→(∀q,p=some q→Pk q S')→Kp p S1.length S1 S'→Wp (bodyC (evG C tg) (ev C cond) (ev C elt) x e S') fun r S''=>E r.1∧(∃d,r.2=some d∧R j d)∧Kp p S'.length S' S''):
  Wp (ev C (.comp cap tg it cond elt) e S) fun d S'=>∃ys,d=.obj S1.length∧S'[S1.length]?=some (.lst ys)∧ys.length=J.items.length∧(∀j d,ys[j]?=some d→R j d)∧Kp p S1.length S1 S':=by
 refine Zau (Zcb hI (fun i ys e S'=>ys.length=i∧i≤J.items.length∧(∀j d,ys[j]?=some d→R j d)∧E e∧S'[S1.length]?=some (.lst ys)∧Kp p S1.length S1 S')
  ⟨rfl,YaU _,by simp,h0,Zal,Kp.snoc fun q e=>(hp q e).1⟩ (fun j ys e S' hP=>⟨hst S' hP.2.2.2.2.2,by omega⟩) (fun j x ys e S' hx hP=>?_) (fun ys e' S' hP=>?_))
 ·obtain⟨hy,hl,hR,hE,hc,hk⟩:=hP
  have hlt:=(Yac.mp hx).1
  obtain⟨r,S2,q,hE2,⟨d,hd,hRd⟩,k2⟩:=hb j x e S' hx hE (fun q e=>hk.pk q e (hp q e).2) hk
  have hne:some S1.length≠p:=fun z=>by have:=(hp S1.length z.symm).1;omega
  have hc2:=k2.get hc (Zac hc) hne
  have hk2:=hk.nx k2
  refine⟨r,S2,q,.inl ⟨d,hd,hc2,by simp [hy],hlt,?_,hE2,ZaO hc2,hk2.next (Kp.set (p:=p) (m:=S1.length) (by have:=hk2.len;omega) (Yad _) fun q e=>(hp q e).1) (Yad _)⟩⟩
  intro j' d' hd'
  by_cases hj:j'<ys.length
  ·rw [Yar hj] at hd';exact hR j' d' hd'
  ·have:=(Yac.mp hd').1
   simp at this
   have ej:j'=ys.length:=by omega
   subst ej
   rw [Yav (Yad _)] at hd'
   simp at hd'
   subst hd'
   rw [hy]
   exact hRd
 ·obtain⟨hy,hl,hR,hE,hc,hk⟩:=hP
  exact wp_ok.mpr ⟨ys,rfl,hc,hy,hR,hk⟩
theorem Zbv (E:Nv→Prop) (hI:evI C it e S=.ok J S1) (hst:∀S',Kp none S1.length S1 S'→J.still S'=true) (hlen:J.items.length≤50000) (h0:E (captD e cap))
  (hb:∀(j:Nat) (x:D) (e:Nv) (S':Sto),J.items[j]?=some x→E e→Wp (bodyC (evG C tg) (ev C cond) (ev C elt) x e S') fun r S''=>E r.1∧(r.2=none∨r.2=some (.bl true))∧Kp none S'.length S' S''):
  Wp (ev C (.comp cap tg it cond elt) e S) fun d S'=>∃ys bs,d=.obj S1.length∧S'[S1.length]?=some (.lst ys)∧blsOf ys=some bs∧bs.all id=true∧Kp none S1.length S1 S':=by
 refine Zau (Zcb hI (fun i ys e S'=>ys.length≤i∧i≤J.items.length∧(∀y∈ys,y=.bl true)∧E e∧S'[S1.length]?=some (.lst ys)∧Kp none S1.length S1 S')
  ⟨Yad _,YaU _,by simp,h0,Zal,Kp.snoc (by intro q e;cases e)⟩ (fun j ys e S' hP=>⟨hst S' hP.2.2.2.2.2,by omega⟩) (fun j x ys e S' hx hP=>?_) (fun ys e' S' hP=>?_))
 ·obtain⟨hy,hl,hR,hE,hc,hk⟩:=hP
  have hlt:=(Yac.mp hx).1
  obtain⟨r,S2,q,hE2,hd,k2⟩:=hb j x e S' hx hE
  have hc2:=k2.get0 hc (Zac hc)
  have hk2:=hk.nx k2
  rcases hd with hd|hd
  ·exact⟨r,S2,q,.inr ⟨hd,by omega,hlt,hR,hE2,hc2,hk2⟩⟩
  ·refine⟨r,S2,q,.inl ⟨_,hd,hc2,by simp;omega,hlt,?_,hE2,ZaO hc2,hk2.next (Kp.set (p:=none) (m:=S1.length) (by have:=hk2.len;omega) (Yad _) (by intro q e;cases e)) (Yad _)⟩⟩
   intro y hy'
   rcases Ybh.mp hy' with z|z
   ·exact hR y z
   ·simpa using z
 ·obtain⟨hy,hl,hR,hE,hc,hk⟩:=hP
  obtain⟨bs,q1,q2⟩:=ZgO hR
  exact wp_ok.mpr ⟨ys,bs,rfl,hc,q1,q2,hk⟩
end
end Py
namespace Py
open PySem L2
section
variable {C:Nat→List D→Sto→Res D} {e:Nv} {S S1:Sto} {cap:List (Option Nat)} {tg it cond elt:PX}
theorem ZbK {α:Type} {p:Option Nat} {l:List α} {f g:α→D} {src:Option Nat} (E:Nv→Prop) (hI:evI C it e S=.ok ⟨l.map f,src⟩ S1) (hst:∀S',Kp p S1.length S1 S'→Itm.still ⟨l.map f,src⟩ S'=true) (hlen:l.length≤50000) (hp:∀q,p=some q→q<S1.length∧Pk q S1) (h0:E (captD e cap))
  (hb:∀(x:α) (e:Nv) (S':Sto),x∈l→E e→(∀q,p=some q→Pk q S')→Kp p S1.length S1 S'→Wp (bodyC (evG C tg) (ev C cond) (ev C elt) (f x) e S') fun r S''=>E r.1∧r.2=some (g x)∧Kp p S'.length S' S''):
  Wp (ev C (.comp cap tg it cond elt) e S) fun d S'=>d=.obj S1.length∧S'[S1.length]?=some (.lst (l.map g))∧Kp p S1.length S1 S':=by
 refine Zbz (ZjD (J:=⟨l.map f,src⟩) (S1:=S1) (p:=p) E (fun j d=>∃x,l[j]?=some x∧d=g x) hI hst (by simpa using hlen) hp h0 (fun j x e S' hx hE hpk hk=>?_)) fun d S' ⟨ys,a1,a2,a3,a4,a5⟩=>⟨a1,?_,a5⟩
 ·rw [Yam,Yao] at hx
  obtain⟨y,hy,rfl⟩:=hx
  exact Zbz (hb y e S' (Yay hy) hE hpk hk) fun r S'' ⟨b1,b2,b3⟩=>⟨b1,⟨_,b2,y,hy,rfl⟩,b3⟩
 ·have:ys=l.map g:=by
   apply Ybt
   intro j
   rw [Yam]
   cases hj:ys[j]? with
   |none=>rw [YaM.mpr (by have:=YaM.mp hj;simp at a3;omega)];rfl
   |some d=>obtain⟨x,hx,rfl⟩:=a4 j d hj;rw [hx];rfl
  rw [this] at a2
  exact a2
end
mutual
noncomputable def D.dp:D→Nat
 | .tup xs=>D.dps xs+1
 |_=>0
noncomputable def D.dps:List D→Nat
 | []=>0
 |x::r=>max x.dp (D.dps r)
end
mutual
theorem D.depth_dp:∀d:D,d.pd.depth≤d.dp
 | .non=>by simp [D.pd,PyData.depth]
 | .bl b=>by simp [D.pd,PyData.depth]
 | .int i=>by simp [D.pd,PyData.depth]
 | .str x=>by simp [D.pd,PyData.depth]
 | .obj n=>by simp [D.pd,PyData.depth]
 | .ty n=>by simp [D.pd,PyData.depth]
 | .exo n=>by simp [D.pd,PyData.depth]
 | .dic n=>by simp [D.pd,PyData.depth]
 | .tup xs=>by have:=D.depths_dps xs;simp only [D.pd,PyData.depth,D.dp];omega
theorem D.depths_dps:∀xs:List D,PyData.depthAll (D.pds xs)≤D.dps xs
 | []=>by simp [D.pds,PyData.depthAll]
 |x::r=>by have:=D.depth_dp x;have:=D.depths_dps r;simp only [D.pds,PyData.depthAll,D.dps];omega
end
theorem D.pls_map {α:Type} {f:α→D}:∀{l:List α},(∀x∈l,(f x).pl=true)→D.pls (l.map f)=true
 | [],_=>rfl
 |a::r,h=>by
  show ((f a).pl&&D.pls (r.map f))=true
  rw [h a Yaw,D.pls_map (l:=r) fun x hx=>h x (Yas _ hx)]
  rfl
theorem D.dps_map {α:Type} {f:α→D} {n:Nat}:∀{l:List α},(∀x∈l,(f x).dp≤n)→D.dps (l.map f)≤n
 | [],_=>YaU _
 |a::r,h=>by
  show max (f a).dp (D.dps (r.map f))≤n
  have:=h a Yaw
  have:=D.dps_map (l:=r) fun x hx=>h x (Yas _ hx)
  omega
theorem Zjz {S:Sto} {xs:List D} (h:D.pls xs=true) (hd:D.dps xs≤50):eqA S (.tup xs) (.tup xs)=some true:=by
 have e:eqK (.tup xs) (.tup xs)=none:=rfl
 have hp:pdS S (.tup xs)=some (D.tup xs).pd:=by
  show (if (D.tup xs).pl=true then some (D.tup xs).pd else none)=_
  rw [if_pos (show (D.tup xs).pl=true from h)]
 have hdp:(D.tup xs).pd.depth≤60:=by(have:=D.depth_dp (.tup xs);have e2:(D.tup xs).dp=D.dps xs+1:=(by simp [D.dp]);omega)
 unfold eqA
 rw [e]
 simp only [eqX,hp]
 rw [if_pos hdp,PySem.SeqAt.eqv_refl _ (ZhD (.tup xs) h)]
theorem ZgW {S:Sto} {xs:List D} (h:D.pls xs=true) (hd:D.dps xs≤50):op2 .eq (.tup xs) (.tup xs) S=.ok (.bl true) S:=by simp only [op2,o_eq,o_ne,Zjz h hd]
end Py
namespace Py
open PySem L2
end Py
namespace Py
open PySem L2
section
variable {C:Nat→List D→Sto→Res D} {e:Nv} {S S1:Sto} {cap:List (Option Nat)} {tg it cond elt:PX}
theorem ZbC {α:Type} {p:Option Nat} {l:List α} {f g:α→D} {t:α→Bool} {src:Option Nat} (E:Nv→Prop) (hI:evI C it e S=.ok ⟨l.map f,src⟩ S1) (hst:∀S',Kp p S1.length S1 S'→Itm.still ⟨l.map f,src⟩ S'=true) (hlen:l.length≤50000) (hp:∀q,p=some q→q<S1.length∧Pk q S1) (h0:E (captD e cap))
  (hb:∀(x:α) (e:Nv) (S':Sto),x∈l→E e→(∀q,p=some q→Pk q S')→Kp p S1.length S1 S'→Wp (bodyC (evG C tg) (ev C cond) (ev C elt) (f x) e S') fun r S''=>E r.1∧r.2=(if t x=true then some (g x) else none)∧Kp p S'.length S' S''):
  Wp (ev C (.comp cap tg it cond elt) e S) fun d S'=>d=.obj S1.length∧S'[S1.length]?=some (.lst ((l.filter t).map g))∧Kp p S1.length S1 S':=by
 refine Zau (Zcb hI (fun i ys e S'=>ys=((l.take i).filter t).map g∧ys.length≤i∧i≤l.length∧E e∧S'[S1.length]?=some (.lst ys)∧Kp p S1.length S1 S')
  ⟨by simp,Yad _,YaU _,h0,Zal,Kp.snoc fun q e=>(hp q e).1⟩ (fun j ys e S' hP=>⟨hst S' hP.2.2.2.2.2,by omega⟩) (fun j x ys e S' hx hP=>?_) (fun ys e' S' hP=>?_))
 ·obtain⟨hy,hl,hi,hE,hc,hk⟩:=hP
  simp only [Yam,Yao] at hx
  obtain⟨y,hy',rfl⟩:=hx
  have hlt:=(Yac.mp hy').1
  obtain⟨r,S2,q,hE2,hd,k2⟩:=hb y e S' (Yay hy') hE (fun q e=>hk.pk q e (hp q e).2) hk
  have hne:some S1.length≠p:=fun z=>by have:=(hp S1.length z.symm).1;omega
  have hc2:=k2.get hc (Zac hc) hne
  have hk2:=hk.nx k2
  by_cases ht:t y=true
  ·rw [if_pos ht] at hd
   refine⟨r,S2,q,.inl ⟨g y,hd,hc2,?_,by simp;omega,hlt,hE2,ZaO hc2,hk2.next (Kp.set (p:=p) (m:=S1.length) (by have:=hk2.len;omega) (Yad _) fun q e=>(hp q e).1) (Yad _)⟩⟩
   rw [ZaM hy',Ybs,Ya4,←hy]
   simp [ht]
  ·rw [if_neg ht] at hd
   refine⟨r,S2,q,.inr ⟨hd,?_,by omega,hlt,hE2,hc2,hk2⟩⟩
   rw [ZaM hy',Ybs,Ya4,←hy]
   simp [ht]
 ·obtain⟨hy,hl,hi,hE,hc,hk⟩:=hP
  simp only [Yak] at hy
  rw [Ybf] at hy
  rw [hy] at hc
  exact wp_ok.mpr ⟨rfl,hc,hk⟩
theorem ZgB {α:Type} {f:α→Int}:∀{l:List α},Zbc (l.map fun r=>D.int (f r))=some (l.map f)
 | []=>rfl
 |a::r=>by simp only [YaK,Zbc,ZgB (l:=r)];rfl
theorem Zge {α:Type} {f:α→Nat}:∀{l:List α},(l.map fun r=>((f r:Nat):Int)).sum=(((l.map f).sum:Nat):Int)
 | []=>rfl
 |a::r=>by simp only [YaK,Ybn,Zge (l:=r)];omega
theorem sx_n {n d:Nat} {i:Int} (h0:0≤i) (h1:i≤n):HT.sIx n d (some i)=i.toNat:=by
 obtain⟨m,rfl⟩:∃m:Nat,i=(m:Int):=⟨i.toNat,by omega⟩
 rw [HT.Zkx]
 omega
theorem Zn7 {xs:List D} {i:Int} (h0:0≤i) (h1:i≤xs.length):cutD xs none (some i)=xs.take i.toNat:=by
 unfold cutD
 rw [sx_n h0 h1,HT.Zgj]
 simp
theorem Zn8 {xs:List D} {i:Int} (h0:0≤i) (h1:i≤xs.length):cutD xs (some i) none=xs.drop i.toNat:=by
 unfold cutD
 rw [sx_n h0 h1,HT.Zgj]
 exact Ybg (by rw [YbM];exact Yad _)
theorem slcT {α:Type} {f:α→D} {l:List α} {i:Int} (h0:0≤i) (h1:i≤l.length):slcD (.tup (l.map f)) none (some i) S=.ok (.tup ((l.take i.toNat).map f)) S:=by
 rw [slc_t,Zn7 h0 (by rw [Yak];exact h1),List.map_take]
theorem slcF {α:Type} {f:α→D} {l:List α} {i:Int} (h0:0≤i) (h1:i≤l.length):slcD (.tup (l.map f)) (some i) none S=.ok (.tup ((l.drop i.toNat).map f)) S:=by
 rw [slc_t,Zn8 h0 (by rw [Yak];exact h1),List.map_drop]
theorem mulS {a b:Int} (h0:a.natAbs<2^64):op2 .mul (.int a) (.int b) S=.ok (.int (a*b)) S:=by
 show o_mul (.int a) (.int b) S=_
 simp only [o_mul]
 rw [if_pos (.inr (.inl h0))]
theorem app_l {n:Nat} {xs:List D} {d:D} (h:S[n]?=some (.lst xs)) (hl:xs.length<100000):appD (.obj n) d S=.ok .non (S.set n (.lst (xs++[d]))):=by
 simp only [appD,h]
 rw [if_pos hl]
theorem Zb3 {m n:Nat} {c:Cell} {S2:Sto} (a:Kp none m S S2) (h:m≤n):Kp none m S (S2.set n c):=a.next (Kp.set (p:=none) (m:=m) (by have:=a.len;have:=a.low;omega) h (by intro q e;cases e)) (Yad _)
theorem kn0 {m:Nat} {c:Cell} {S2:Sto} (a:Kp none m S S2):Kp none m S (S2++[c]):=a.nx (Kp.snoc (by intro q e;cases e))
end
end Py
namespace Py
open PySem L2
mutual
noncomputable def D.nb:D→Bool
 | .non=>true| .int _=>true| .str _=>true| .tup xs=>D.nbs xs|_=>false
noncomputable def D.nbs:List D→Bool
 | []=>true
 |x::r=>x.nb&&D.nbs r
end
mutual
theorem Zj5:∀a b:D,a.nb=true→b.nb=true→PyData.eqv a.pd b.pd=D.same a b
 | .non,b,_,h=>by cases b<;>first|rfl|cases h
 | .int i,b,_,h=>by cases b<;>first|rfl|cases h
 | .str i,b,_,h=>by cases b<;>first|rfl|cases h
 | .tup xs,b,h,h'=>by
  cases b with
  |tup ys=>
   simp only [D.pd,PyData.eqv,D.same]
   exact Zih xs ys h h'
  |non=>rfl
  |int i=>rfl
  |str i=>rfl
  |bl b=>cases h'
  |obj n=>cases h'
  |ty n=>cases h'
  |exo n=>cases h'
  |dic n=>cases h'
 | .bl _,_,h,_=>by cases h
 | .obj _,_,h,_=>by cases h
 | .ty _,_,h,_=>by cases h
 | .exo _,_,h,_=>by cases h
 | .dic _,_,h,_=>by cases h
theorem Zih:∀a b:List D,D.nbs a=true→D.nbs b=true→PyData.eqvAll (D.pds a) (D.pds b)=D.sames a b
 | [],[],_,_=>rfl
 | [],_::_,_,_=>rfl
 |_::_,[],_,_=>rfl
 |x::r,y::q,h,h'=>by
  simp only [D.nbs,Yan] at h h'
  simp only [D.pds,PyData.eqvAll,D.sames,Zj5 x y h.1 h'.1,Zih r q h.2 h'.2]
end
theorem D.nbs_map {α:Type} {f:α→D}:∀{l:List α},(∀x∈l,(f x).nb=true)→D.nbs (l.map f)=true
 | [],_=>rfl
 |a::r,h=>by
  show ((f a).nb&&D.nbs (r.map f))=true
  rw [h a Yaw,D.nbs_map (l:=r) fun x hx=>h x (Yas _ hx)]
  rfl
theorem ZoZ {xs:List D} (h:∀x∈xs,x.nb=true):D.nbs xs=true:=by have:=D.nbs_map (f:=id) (l:=xs) h;simpa using this
theorem Zj8 {S:Sto} {xs ys:List D} (p:D.pls xs=true) (q:D.pls ys=true) (h:D.nbs xs=true) (h':D.nbs ys=true) (hd:D.dps xs≤50):eqA S (.tup xs) (.tup ys)=some (D.sames xs ys):=by
 have e:eqK (.tup xs) (.tup ys)=none:=rfl
 have hp:pdS S (.tup xs)=some (D.tup xs).pd:=by
  show (if (D.tup xs).pl=true then some (D.tup xs).pd else none)=_
  rw [if_pos (show (D.tup xs).pl=true from p)]
 have hq:pdS S (.tup ys)=some (D.tup ys).pd:=by
  show (if (D.tup ys).pl=true then some (D.tup ys).pd else none)=_
  rw [if_pos (show (D.tup ys).pl=true from q)]
 have hdp:(D.tup xs).pd.depth≤60:=by(have:=D.depth_dp (.tup xs);have e2:(D.tup xs).dp=D.dps xs+1:=(by simp [D.dp]);omega)
 unfold eqA
 rw [e]
 simp only [eqX,hp,hq]
 rw [if_pos hdp,Zj5 (.tup xs) (.tup ys) h h']
 simp only [D.same]
theorem Zop {S:Sto} {xs ys:List D} (p:D.pls xs=true) (q:D.pls ys=true) (h:D.nbs xs=true) (h':D.nbs ys=true) (hd:D.dps xs≤50):op2 .eq (.tup xs) (.tup ys) S=.ok (.bl (D.sames xs ys)) S:=by simp only [op2,o_eq,Zj8 p q h h' hd]
theorem Zom {S:Sto} {xs ys:List D} (p:D.pls xs=true) (q:D.pls ys=true) (h:D.nbs xs=true) (h':D.nbs ys=true) (hd:D.dps xs≤50):op2 .ne (.tup xs) (.tup ys) S=.ok (.bl (!D.sames xs ys)) S:=by simp only [op2,o_ne,Zj8 p q h h' hd]
theorem Zmo {xs ys:List D}:D.sames xs ys=true↔xs=ys:=⟨D.sames_eq,fun h=>by subst h;exact D.sames_refl xs⟩
theorem Zoj {xs ys:List D} (h:xs≠ys):D.sames xs ys=false:=by
 cases e:D.sames xs ys with
 |false=>rfl
 |true=>exact absurd (D.sames_eq e) h
theorem Zou {rs:List D} {j:Nat} {x:D} (h:(Zav 0 rs)[j]?=some x):∃r,rs[j]?=some r∧x=.tup [.int (j:Int),r]:=by
 have hlt:=(Yac.mp h).1
 rw [Zdk] at hlt
 have hd:rs[j]?=some rs[j]:=Yaf hlt
 have e:=Zdl (k:=0) hd
 rw [Ybv] at e
 rw [h] at e
 cases e
 exact⟨_,hd,rfl⟩
end Py
namespace Lw
open PySem L2 Py
noncomputable def gl:List (Str×D):=[("KINDS",.tup [.str "whole",.str "either",.str "torn"]),("WHOM",.tup [.str "others",.str "lower",.str "higher"])]
noncomputable def ZcY:PX:=(.seq (.ret (.and (.blt .isi (.cons (.var 0) (.cons (.cst (.ty "int")) .nil))) (.not (.blt .isi (.cons (.var 0) (.cons (.cst (.ty "bool")) .nil))))))
 .skip)
noncomputable def ZaY:PX:=(.seq (.ret (.and (.call 0 (.cons (.var 0) .nil)) (.chn .le .le (.var 1) (.var 0) (.var 2))))
 .skip)
noncomputable def Za7:PX:=(.seq (.ret (.and (.blt .isi (.cons (.var 0) (.cons (.cst (.ty "tuple")) .nil))) (.chn .le .le (.var 1) (.blt .len (.cons (.var 0) .nil)) (.var 2))))
 .skip)
noncomputable def ZdT:PX:=(.seq (.ret (.and (.blt .isi (.cons (.var 0) (.cons (.cst (.ty "str")) .nil))) (.op .mem (.var 0) (.var 1))))
 .skip)
noncomputable def ZeW:PX:=(.loop (.tnm 3) (.iseq (.var 0)) (.seq (.ifs (.not (.tru (.call 1 (.cons (.var 3) (.cons (.var 2) (.cons (.op .sub (.var 1) (.cst (.int 1))) .nil)))))) (.seq (.ret (.cst (.bl false)))
 .skip) .skip)
 (.seq (.asg (.tnm 2) (.op .add (.var 3) (.cst (.int 1))))
 .skip)))
noncomputable def Zbe:PX:=(.seq (.ifs (.not (.tru (.blt .isi (.cons (.var 0) (.cons (.cst (.ty "tuple")) .nil))))) (.seq (.ret (.cst (.bl false)))
 .skip) .skip)
 (.seq (.asg (.tnm 2) (.cst (.int 0)))
 (.seq ZeW
 (.seq (.ret (.cst (.bl true)))
 .skip))))
noncomputable def Zei:PX:=(.comp [none,none,some 1,some 2] (.tnm 1) (.irng (.cons (.blt .len (.cons (.var 1) .nil)) .nil)) (.op .ne (.idx (.idx (.var 2) (.var 1)) (.cst (.int 0))) (.cst (.str "whole"))) (.op .le (.call 16 (.cons (.var 3) (.cons (.var 1) .nil))) (.cst (.int 1))))
noncomputable def Zeh:PX:=(.comp [none,none,some 1] (.tnm 1) (.iseq (.var 2)) (.cst (.bl true)) (.call 11 (.cons (.var 1) (.cons (.var 2) .nil))))
noncomputable def Zeg:PX:=(.comp [none,none] (.tnm 1) (.iseq (.var 1)) (.cst (.bl true)) (.call 10 (.cons (.var 1) .nil)))
noncomputable def ZcC:PX:=(.seq (.ifs (.not (.tru (.call 2 (.cons (.var 0) (.cons (.cst (.int 2)) (.cons (.cst (.int 2)) .nil)))))) (.seq (.ret (.cst (.bl false)))
 .skip) .skip)
 (.seq (.asg (.ttup 2 (.cons (.tnm 1) (.cons (.tnm 2) .nil))) (.var 0))
 (.seq (.ifs (.or (.not (.tru (.call 2 (.cons (.var 1) (.cons (.cst (.int 1)) (.cons (.cst (.int 12)) .nil)))))) (.not (.tru (.call 2 (.cons (.var 2) (.cons (.cst (.int 1)) (.cons (.cst (.int 4)) .nil))))))) (.seq (.ret (.cst (.bl false)))
 .skip) .skip)
 (.seq (.ifs (.not (.tru (.blt .all (.cons Zeg .nil)))) (.seq (.ret (.cst (.bl false)))
 .skip) .skip)
 (.seq (.ifs (.not (.tru (.blt .all (.cons Zeh .nil)))) (.seq (.ret (.cst (.bl false)))
 .skip) .skip)
 (.seq (.ret (.blt .all (.cons Zei .nil)))
 .skip))))))
noncomputable def ZbV:PX:=(.seq (.exp (.call 8 (.cons (.var 0) (.cons (.var 1) .nil))))
 (.seq (.ifs (.not (.tru (.call 1 (.cons (.var 2) (.cons (.cst (.int 0)) (.cons (.blt .len (.cons (.idx (.idx (.idx (.var 0) (.cst (.int 1))) (.var 1)) (.cst (.int 2))) .nil)) .nil)))))) (.seq .bad
 .skip) .skip)
 (.seq (.ret (.call 9 (.cons (.idx (.idx (.var 0) (.cst (.int 1))) (.var 1)) (.cons (.var 2) .nil))))
 .skip)))
noncomputable def Zbf:PX:=(.seq (.ifs (.not (.tru (.call 5 (.cons (.var 0) .nil)))) (.seq .bad
 .skip) .skip)
 .skip)
noncomputable def ZaZ:PX:=(.seq (.exp (.call 7 (.cons (.var 0) .nil)))
 (.seq (.ifs (.not (.tru (.call 1 (.cons (.var 1) (.cons (.cst (.int 0)) (.cons (.op .sub (.blt .len (.cons (.idx (.var 0) (.cst (.int 1))) .nil)) (.cst (.int 1))) .nil)))))) (.seq .bad
 .skip) .skip)
 .skip))
noncomputable def ZaT:PX:=(.seq (.asg (.ttup 2 (.cons (.tnm 2) (.cons (.tnm 3) .nil))) (.slc (.var 0) .noe (.bnd (.cst (.int 2)))))
 (.seq (.ifs (.op .eq (.var 1) (.cst (.int 0))) (.seq (.ret (.cst (.str "outside")))
 .skip) .skip)
 (.seq (.ifs (.op .le (.var 1) (.var 2)) (.seq (.ret (.cst (.str "doorway")))
 .skip) .skip)
 (.seq (.ifs (.op .lt (.var 1) (.var 3)) (.seq (.ret (.cst (.str "waiting")))
 .skip) .skip)
 (.seq (.ifs (.op .eq (.var 1) (.var 3)) (.seq (.ret (.cst (.str "within")))
 .skip) .skip)
 (.seq (.ret (.cst (.str "leaving")))
 .skip))))))
noncomputable def ZcD:PX:=(.seq (.ifs (.not (.tru (.call 2 (.cons (.var 0) (.cons (.cst (.int 3)) (.cons (.cst (.int 3)) .nil)))))) (.seq (.ret (.cst (.bl false)))
 .skip) .skip)
 (.seq (.asg (.ttup 3 (.cons (.tnm 1) (.cons (.tnm 2) (.cons (.tnm 3) .nil)))) (.var 0))
 (.seq (.ret (.and (.call 3 (.cons (.var 1) (.cons (.cst (.tup [(.str "whole"),(.str "either"),(.str "torn")])) .nil))) (.and (.call 1 (.cons (.var 2) (.cons (.cst (.int 2)) (.cons (.cst (.int 5)) .nil)))) (.call 1 (.cons (.var 3) (.cons (.cst (.int 0)) (.cons (.op .sub (.var 2) (.cst (.int 1))) .nil)))))))
 .skip)))
noncomputable def Zd4:PX:=(.loop (.ttup 2 (.cons (.tnm 5) (.cons (.tnm 6) .nil))) (.ienum (.var 4)) (.seq (.asg (.ttup 2 (.cons (.tnm 7) (.cons (.tnm 8) .nil))) (.call 13 (.cons (.op .add (.var 5) (.cst (.int 1))) (.cons (.var 3) (.cons (.blt .len (.cons (.var 4) .nil)) .nil)))))
 (.seq (.ifs (.and (.not (.tru (.call 14 (.cons (.var 6) (.cons (.var 1) .nil))))) (.not (.tru (.call 15 (.cons (.var 6) (.cons (.var 1) (.cons (.var 7) (.cons (.var 8) .nil)))))))) (.seq (.ret (.cst (.bl false)))
 .skip) .skip)
 .skip)))
noncomputable def ZaX:PX:=(.seq (.ifs (.not (.tru (.call 12 (.cons (.var 0) (.cons (.cst (.int 16)) .nil))))) (.seq (.ret (.cst (.bl false)))
 .skip) .skip)
 (.seq (.asg (.ttup 3 (.cons (.tnm 2) (.cons (.tnm 3) (.cons (.tnm 4) .nil)))) (.var 0))
 (.seq Zd4
 (.seq (.ret (.cst (.bl true)))
 .skip))))
noncomputable def ZaW:PX:=(.seq (.ifs (.not (.tru (.call 2 (.cons (.var 0) (.cons (.cst (.int 3)) (.cons (.cst (.int 3)) .nil)))))) (.seq (.ret (.cst (.bl false)))
 .skip) .skip)
 (.seq (.asg (.ttup 3 (.cons (.tnm 2) (.cons (.tnm 3) (.cons (.tnm 4) .nil)))) (.var 0))
 (.seq (.ifs (.or (.not (.tru (.call 2 (.cons (.var 4) (.cons (.cst (.int 1)) (.cons (.var 1) .nil)))))) (.not (.tru (.call 1 (.cons (.var 3) (.cons (.cst (.int 1)) (.cons (.blt .len (.cons (.var 4) .nil)) .nil))))))) (.seq (.ret (.cst (.bl false)))
 .skip) .skip)
 (.seq (.ret (.call 1 (.cons (.var 2) (.cons (.cst (.int 0)) (.cons (.op .sub (.var 3) (.cst (.int 1))) .nil)))))
 .skip))))
noncomputable def Zay:PX:=(.seq (.ifs (.op .lt (.var 0) (.var 1)) (.seq (.ret (.tup (.cons (.cst (.int 1)) (.cons (.var 1) .nil))))
 .skip) .skip)
 (.seq (.ifs (.op .eq (.var 0) (.var 1)) (.seq (.ret (.tup (.cons (.var 1) (.cons (.var 1) .nil))))
 .skip) .skip)
 (.seq (.ret (.tup (.cons (.op .add (.var 1) (.cst (.int 1))) (.cons (.var 2) .nil))))
 .skip)))
noncomputable def ZaV:PX:=(.seq (.ifs (.not (.tru (.call 2 (.cons (.var 0) (.cons (.cst (.int 3)) (.cons (.cst (.int 3)) .nil)))))) (.seq (.ret (.cst (.bl false)))
 .skip) .skip)
 (.seq (.asg (.ttup 3 (.cons (.tnm 2) (.cons (.tnm 3) (.cons (.tnm 4) .nil)))) (.var 0))
 (.seq (.ifs (.or (.not (.tru (.call 3 (.cons (.var 2) (.cons (.tup (.cons (.cst (.str "write")) .nil)) .nil))))) (.not (.tru (.call 1 (.cons (.var 3) (.cons (.cst (.int 0)) (.cons (.op .sub (.blt .len (.cons (.var 1) .nil)) (.cst (.int 1))) .nil))))))) (.seq (.ret (.cst (.bl false)))
 .skip) .skip)
 (.seq (.ret (.call 1 (.cons (.var 4) (.cons (.cst (.int 0)) (.cons (.op .sub (.idx (.idx (.var 1) (.var 3)) (.cst (.int 1))) (.cst (.int 1))) .nil)))))
 .skip))))
noncomputable def Zb0:PX:=(.seq (.ifs (.not (.tru (.call 2 (.cons (.var 0) (.cons (.cst (.int 4)) (.cons (.cst (.int 4)) .nil)))))) (.seq (.ret (.cst (.bl false)))
 .skip) .skip)
 (.seq (.asg (.ttup 4 (.cons (.tnm 4) (.cons (.tnm 5) (.cons (.tnm 6) (.cons (.tnm 7) .nil))))) (.var 0))
 (.seq (.ifs (.or (.not (.tru (.call 3 (.cons (.var 4) (.cons (.tup (.cons (.cst (.str "look")) .nil)) .nil))))) (.not (.tru (.call 1 (.cons (.var 5) (.cons (.cst (.int 0)) (.cons (.op .sub (.blt .len (.cons (.var 1) .nil)) (.cst (.int 1))) .nil))))))) (.seq (.ret (.cst (.bl false)))
 .skip) .skip)
 (.seq (.ret (.and (.call 4 (.cons (.var 6) (.cons (.idx (.idx (.var 1) (.var 5)) (.cst (.int 1))) .nil))) (.call 1 (.cons (.var 7) (.cons (.var 2) (.cons (.var 3) .nil))))))
 .skip))))
noncomputable def Zga:PX:=(.comp [none,none,none,none,some 1] (.ttup 3 (.cons (.tnm 1) (.cons (.tnm 2) (.cons (.tnm 3) .nil)))) (.iseq (.var 0)) (.tru (.call 17 (.cons (.var 3) (.cons (.var 4) .nil)))) (.var 3))
noncomputable def ZbP:PX:=(.seq (.ret (.blt .len (.cons Zga .nil)))
 .skip)
noncomputable def Zg8:PX:=(.comp [none,none,some 1] (.tnm 1) (.iseq (.var 0)) (.cst (.bl true)) (.and (.op .eq (.idx (.var 1) (.cst (.int 0))) (.cst (.str "write"))) (.op .eq (.idx (.var 1) (.cst (.int 1))) (.var 2))))
noncomputable def ZcA:PX:=(.seq (.ret (.blt .any (.cons Zg8 .nil)))
 .skip)
noncomputable def ZbZ:PX:=(.comp [none,none] (.tnm 1) (.iseq (.var 5)) (.cst (.bl true)) (.ife (.op .eq (.idx (.var 1) (.cst (.int 0))) (.cst (.str "write"))) (.cst (.int 1)) (.cst (.int 3))))
noncomputable def ZbY:PX:=(.comp [none,none,some 1] (.tnm 1) (.iseq (.slc (.var 5) (.bnd (.op .sub (.var 4) (.cst (.int 1)))) .noe)) (.cst (.bl true)) (.call 14 (.cons (.var 1) (.cons (.var 2) .nil))))
noncomputable def ZbX:PX:=(.comp [none,none,some 1,some 4] (.tnm 1) (.iseq (.slc (.var 5) .noe (.bnd (.op .sub (.var 4) (.cst (.int 1)))))) (.cst (.bl true)) (.or (.call 21 (.cons (.var 1) (.cons (.var 2) (.cons (.var 3) .nil)))) (.call 14 (.cons (.var 1) (.cons (.var 2) .nil)))))
noncomputable def ZbW:PX:=(.comp [none,none] (.tnm 1) (.iseq (.var 1)) (.cst (.bl true)) (.call 10 (.cons (.var 1) .nil)))
noncomputable def ZaU:PX:=(.seq (.ifs (.not (.tru (.call 2 (.cons (.var 0) (.cons (.cst (.int 2)) (.cons (.cst (.int 2)) .nil)))))) (.seq (.ret (.cst (.bl false)))
 .skip) .skip)
 (.seq (.asg (.ttup 2 (.cons (.tnm 1) (.cons (.tnm 2) .nil))) (.var 0))
 (.seq (.ifs (.or (.not (.tru (.call 2 (.cons (.var 1) (.cons (.cst (.int 1)) (.cons (.cst (.int 2)) .nil)))))) (.or (.not (.tru (.blt .all (.cons ZbW .nil)))) (.not (.tru (.call 12 (.cons (.var 2) (.cons (.cst (.int 8)) .nil))))))) (.seq (.ret (.cst (.bl false)))
 .skip) .skip)
 (.seq (.asg (.ttup 3 (.cons (.tnm 3) (.cons (.tnm 4) (.cons (.tnm 5) .nil)))) (.var 2))
 (.seq (.ifs (.not (.tru (.blt .all (.cons ZbX .nil)))) (.seq (.ret (.cst (.bl false)))
 .skip) .skip)
 (.seq (.ifs (.not (.tru (.blt .all (.cons ZbY .nil)))) (.seq (.ret (.cst (.bl false)))
 .skip) .skip)
 (.seq (.ret (.op .le (.blt .sum (.cons ZbZ .nil)) (.cst (.int 16))))
 .skip)))))))
noncomputable def ZdR:PX:=(.comp [none,none,some 1,some 0] (.tnm 1) (.irng (.cons (.var 1) .nil)) (.cst (.bl true)) (.call 22 (.cons (.var 3) (.cons (.var 1) (.cons (.var 2) .nil)))))
noncomputable def ZbQ:PX:=(.seq (.exp (.call 20 (.cons (.var 0) .nil)))
 (.seq (.ifs (.not (.tru (.call 1 (.cons (.var 1) (.cons (.cst (.int 1)) (.cons (.cst (.int 4)) .nil)))))) (.seq .bad
 .skip) .skip)
 (.seq (.ret (.tup (.cons (.op .mul (.idx (.var 0) (.cst (.int 0))) (.var 1)) (.cons (.blt .tuple (.cons ZdR .nil)) .nil))))
 .skip)))
noncomputable def ZaA:PX:=(.seq (.ifs (.not (.tru (.call 18 (.cons (.var 0) .nil)))) (.seq .bad
 .skip) .skip)
 .skip)
noncomputable def ZaD:PX:=(.seq (.ifs (.not (.tru (.call 2 (.cons (.var 0) (.cons (.cst (.int 5)) (.cons (.cst (.int 5)) .nil)))))) (.seq (.ret (.cst (.bl false)))
 .skip) .skip)
 (.seq (.asg (.ttup 5 (.cons (.tnm 3) (.cons (.tnm 4) (.cons (.tnm 5) (.cons (.tnm 6) (.cons (.tnm 7) .nil)))))) (.var 0))
 (.seq (.ifs (.or (.not (.tru (.call 3 (.cons (.var 3) (.cons (.tup (.cons (.cst (.str "look")) .nil)) .nil))))) (.or (.not (.tru (.call 3 (.cons (.var 4) (.cons (.cst (.tup [(.str "others"),(.str "lower"),(.str "higher")])) .nil))))) (.not (.tru (.call 1 (.cons (.var 5) (.cons (.cst (.int 0)) (.cons (.op .sub (.blt .len (.cons (.var 1) .nil)) (.cst (.int 1))) .nil)))))))) (.seq (.ret (.cst (.bl false)))
 .skip) .skip)
 (.seq (.ret (.and (.call 4 (.cons (.var 6) (.cons (.idx (.idx (.var 1) (.var 5)) (.cst (.int 1))) .nil))) (.call 1 (.cons (.var 7) (.cons (.cst (.int 1)) (.cons (.var 2) .nil))))))
 .skip))))
noncomputable def ZbU:PX:=(.loop (.tnm 8) (.iseq (.var 11)) (.seq (.exp (.app (.var 12) (.ife (.op .eq (.idx (.var 8) (.cst (.int 0))) (.cst (.str "write"))) (.var 8) (.op .add (.slc (.var 8) .noe (.bnd (.cst (.int 3)))) (.tup (.cons (.op .add (.idx (.var 10) (.op .sub (.idx (.var 8) (.cst (.int 3))) (.cst (.int 1)))) (.cst (.int 1))) .nil))))))
 .skip))
noncomputable def ZbT:PX:=(.loop (.tnm 11) (.iseq (.var 9)) (.seq ZbU
 .skip))
noncomputable def ZbS:PX:=(.loop (.tnm 11) (.iseq (.var 9)) (.seq (.exp (.app (.var 10) (.op .add (.idx (.var 10) (.neg (.cst (.int 1)))) (.blt .len (.cons (.var 11) .nil)))))
 .skip))
noncomputable def ZbR:PX:=(.comp [none,none,some 1,some 3,some 2] (.tnm 1) (.iseq (.var 7)) (.cst (.bl true)) (.call 23 (.cons (.var 1) (.cons (.blt .len (.cons (.var 3) .nil)) (.cons (.var 2) (.cons (.var 4) .nil))))))
noncomputable def ZaS:PX:=(.seq (.asg (.ttup 2 (.cons (.tnm 3) (.cons (.tnm 4) .nil))) (.var 0))
 (.seq (.asg (.ttup 3 (.cons (.tnm 5) (.cons (.tnm 6) (.cons (.tnm 7) .nil)))) (.var 4))
 (.seq (.asg (.tnm 9) ZbR)
 (.seq (.asg (.tnm 10) (.lst (.cons (.cst (.int 0)) .nil)))
 (.seq ZbS
 (.seq (.asg (.tnm 12) (.lst .nil))
 (.seq ZbT
 (.seq (.ret (.tup (.cons (.idx (.var 10) (.var 5)) (.cons (.op .add (.idx (.var 10) (.op .sub (.var 6) (.cst (.int 1)))) (.cst (.int 1))) (.cons (.blt .tuple (.cons (.var 12) .nil)) .nil)))))
 .skip))))))))
noncomputable def ZdS:PX:=(.comp [none,none,some 5,some 6,some 7,some 1] (.tnm 1) (.iseq (.call 24 (.cons (.var 4) (.cons (.var 2) (.cons (.var 3) .nil))))) (.cst (.bl true)) (.tup (.cons (.cst (.str "look")) (.cons (.op .add (.op .mul (.var 1) (.var 5)) (.var 2)) (.cons (.var 3) (.cons (.var 4) .nil))))))
noncomputable def Zbw:PX:=(.seq (.ifs (.op .eq (.idx (.var 0) (.cst (.int 0))) (.cst (.str "write"))) (.seq (.ret (.lst (.cons (.tup (.cons (.cst (.str "write")) (.cons (.op .add (.op .mul (.var 2) (.var 1)) (.idx (.var 0) (.cst (.int 1)))) (.cons (.idx (.var 0) (.cst (.int 2))) .nil)))) .nil)))
 .skip) .skip)
 (.seq (.asg (.ttup 4 (.cons (.tnm 4) (.cons (.tnm 5) (.cons (.tnm 6) (.cons (.tnm 7) .nil))))) (.slc (.var 0) (.bnd (.cst (.int 1))) .noe))
 (.seq (.ret ZdS)
 .skip)))
noncomputable def ZcB:PX:=(.comp [none,none,some 1] (.tnm 1) (.irng (.cons (.var 2) .nil)) (.op .ne (.var 1) (.var 2)) (.var 1))
noncomputable def ZaL:PX:=(.seq (.ifs (.op .eq (.var 0) (.cst (.str "lower"))) (.seq (.ret (.lrng (.cons (.var 1) .nil)))
 .skip) .skip)
 (.seq (.ifs (.op .eq (.var 0) (.cst (.str "higher"))) (.seq (.ret (.lrng (.cons (.op .add (.var 1) (.cst (.int 1))) (.cons (.var 2) .nil))))
 .skip) .skip)
 (.seq (.ret ZcB)
 .skip)))
noncomputable def Za1:PX:=(.seq (.ret (.op .mod (.op .mul (.op .mod (.var 0) (.op .pow (.cst (.int 10)) (.cst (.int 60)))) (.cst (.int 977121254719662437295027903255115309200128864190695864829866917))) (.op .pow (.cst (.int 10)) (.cst (.int 60)))))
 .skip)
noncomputable def ZeX:PX:=(.loop (.tnm 3) (.iseq (.lst (.cons (.op .add (.var 1) (.cst (.int 1))) (.cons (.var 1) .nil)))) (.seq (.asg (.tnm 4) (.op .fdiv (.call 25 (.cons (.op .add (.op .add (.op .mul (.cst (.int 6007)) (.var 3)) (.cst (.int 41))) (.op .mul (.cst (.int 11)) (.idx (.op .add (.var 0) (.lst (.cons (.cst (.int 0)) .nil))) (.cst (.int 0))))) .nil)) (.op .pow (.cst (.int 10)) (.cst (.int 25)))))
 (.seq (.asg (.tnm 2) (.op .add (.op .mul (.var 2) (.op .pow (.cst (.int 10)) (.cst (.int 60)))) (.call 25 (.cons (.idx (.op .add (.slc (.var 0) (.bnd (.var 3)) (.bnd (.op .add (.var 3) (.cst (.int 1))))) (.lst (.cons (.var 4) .nil))) (.cst (.int 0))) .nil))))
 .skip)))
noncomputable def Zbh:PX:=(.seq (.asg (.tnm 2) (.cst (.int 0)))
 (.seq ZeX
 (.seq (.ret (.lst (.cons (.var 2) .nil)))
 .skip)))
noncomputable def Zbg:PX:=(.seq (.asg (.ttup 2 (.cons (.tsub (.var 0) (.cst (.int 0))) (.cons (.tnm 2) .nil))) (.blt .divmod (.cons (.idx (.var 0) (.cst (.int 0))) (.cons (.var 1) .nil))))
 (.seq (.ret (.var 2))
 .skip))
noncomputable def ZbH:PX:=(.comp [none,none,some 2] (.tnm 1) (.irng (.cons (.var 1) .nil)) (.op .eq (.op .band (.op .shr (.var 2) (.var 1)) (.cst (.int 1))) (.cst (.int 1))) (.var 1))
noncomputable def ZaI:PX:=(.seq (.asg (.tnm 2) (.call 27 (.cons (.var 0) (.cons (.op .shl (.cst (.int 1)) (.var 1)) .nil))))
 (.seq (.ret (.blt .tuple (.cons ZbH .nil)))
 .skip))
noncomputable def Zby:PX:=(.loop (.tnm 9) (.irng (.cons (.cst (.int 1)) (.cons (.op .add (.var 4) (.cst (.int 1))) .nil))) (.seq (.asg (.tnm 10) (.op .gt (.call 27 (.cons (.var 0) (.cons (.cst (.int 3)) .nil))) (.cst (.int 0))))
 (.seq (.asg (.tnm 11) (.call 27 (.cons (.var 0) (.cons (.blt .len (.cons (.var 1) .nil)) .nil))))
 (.seq (.asg (.tnm 3) (.idx (.idx (.var 1) (.var 11)) (.cst (.int 1))))
 (.seq (.ifs (.and (.tru (.var 10)) (.and (.op .lt (.var 9) (.var 5)) (.op .gt (.var 8) (.cst (.int 1))))) (.seq (.asg (.tnm 8) (.op .sub (.var 8) (.cst (.int 2))))
 (.seq (.asg (.tnm 12) (.idx (.lst (.cons (.cst (.str "others")) (.cons (.cst (.str "lower")) (.cons (.cst (.str "higher")) .nil)))) (.call 27 (.cons (.var 0) (.cons (.cst (.int 3)) .nil)))))
 (.seq (.exp (.app (.var 7) (.tup (.cons (.cst (.str "look")) (.cons (.var 12) (.cons (.var 11) (.cons (.call 28 (.cons (.var 0) (.cons (.var 3) .nil))) (.cons (.op .add (.cst (.int 1)) (.call 27 (.cons (.var 0) (.cons (.var 5) .nil)))) .nil))))))))
 .skip))) (.seq (.exp (.app (.var 7) (.tup (.cons (.cst (.str "write")) (.cons (.var 11) (.cons (.call 27 (.cons (.var 0) (.cons (.var 3) .nil))) .nil))))))
 .skip))
 .skip)))))
noncomputable def Zbx:PX:=(.loop (.tnm 2) (.irng (.cons (.op .add (.cst (.int 1)) (.call 27 (.cons (.var 0) (.cons (.cst (.int 2)) .nil)))) .nil)) (.seq (.asg (.tnm 3) (.idx (.lst (.cons (.cst (.int 2)) (.cons (.cst (.int 2)) (.cons (.cst (.int 3)) (.cons (.cst (.int 5)) .nil))))) (.call 27 (.cons (.var 0) (.cons (.cst (.int 4)) .nil)))))
 (.seq (.exp (.app (.var 1) (.tup (.cons (.idx (.lst (.cons (.cst (.str "whole")) (.cons (.cst (.str "either")) (.cons (.cst (.str "torn")) .nil)))) (.call 27 (.cons (.var 0) (.cons (.cst (.int 3)) .nil)))) (.cons (.var 3) (.cons (.call 27 (.cons (.var 0) (.cons (.var 3) .nil))) .nil))))))
 .skip)))
noncomputable def ZaE:PX:=(.seq (.asg (.tnm 1) (.lst .nil))
 (.seq Zbx
 (.seq (.asg (.tnm 4) (.op .add (.cst (.int 1)) (.call 27 (.cons (.var 0) (.cons (.cst (.int 8)) .nil)))))
 (.seq (.asg (.tnm 5) (.op .add (.cst (.int 1)) (.call 27 (.cons (.var 0) (.cons (.var 4) .nil)))))
 (.seq (.asg (.tnm 6) (.call 27 (.cons (.var 0) (.cons (.var 5) .nil))))
 (.seq (.asg (.tnm 7) (.lst .nil))
 (.seq (.asg (.tnm 8) (.op .sub (.cst (.int 16)) (.var 4)))
 (.seq Zby
 (.seq (.ret (.tup (.cons (.blt .tuple (.cons (.var 1) .nil)) (.cons (.tup (.cons (.var 6) (.cons (.var 5) (.cons (.blt .tuple (.cons (.var 7) .nil)) .nil)))) .nil))))
 .skip)))))))))
noncomputable def ZaF:PX:=(.seq (.asg (.tnm 1) (.tup (.cons (.tup (.cons (.cst (.str "whole")) (.cons (.cst (.int 2)) (.cons (.cst (.int 0)) .nil)))) .nil)))
 (.seq (.ifs (.op .eq (.var 0) (.cst (.int 0))) (.seq (.ret (.tup (.cons (.var 1) (.cons (.tup (.cons (.cst (.int 1)) (.cons (.cst (.int 3)) (.cons (.tup (.cons (.tup (.cons (.cst (.str "write")) (.cons (.cst (.int 0)) (.cons (.cst (.int 1)) .nil)))) (.cons (.tup (.cons (.cst (.str "look")) (.cons (.cst (.str "others")) (.cons (.cst (.int 0)) (.cons (.tup (.cons (.cst (.int 0)) .nil)) (.cons (.cst (.int 2)) .nil)))))) (.cons (.tup (.cons (.cst (.str "write")) (.cons (.cst (.int 0)) (.cons (.cst (.int 0)) .nil)))) .nil)))) .nil)))) .nil))))
 .skip) .skip)
 (.seq (.asg (.tnm 2) (.tup (.cons (.tup (.cons (.cst (.str "write")) (.cons (.cst (.int 0)) (.cons (.cst (.int 0)) .nil)))) (.cons (.tup (.cons (.cst (.str "look")) (.cons (.cst (.str "lower")) (.cons (.cst (.int 0)) (.cons (.tup (.cons (.cst (.int 0)) .nil)) (.cons (.cst (.int 2)) .nil)))))) (.cons (.tup (.cons (.cst (.str "write")) (.cons (.cst (.int 0)) (.cons (.cst (.int 1)) .nil)))) (.cons (.tup (.cons (.cst (.str "look")) (.cons (.cst (.str "lower")) (.cons (.cst (.int 0)) (.cons (.tup (.cons (.cst (.int 0)) .nil)) (.cons (.cst (.int 1)) .nil)))))) .nil))))))
 (.seq (.ret (.tup (.cons (.var 1) (.cons (.tup (.cons (.cst (.int 0)) (.cons (.cst (.int 6)) (.cons (.op .add (.var 2) (.tup (.cons (.tup (.cons (.cst (.str "look")) (.cons (.cst (.str "higher")) (.cons (.cst (.int 0)) (.cons (.tup (.cons (.cst (.int 0)) .nil)) (.cons (.cst (.int 5)) .nil)))))) (.cons (.tup (.cons (.cst (.str "write")) (.cons (.cst (.int 0)) (.cons (.cst (.int 0)) .nil)))) .nil)))) .nil)))) .nil))))
 .skip))))
noncomputable def Zar:PX:=(.seq (.asg (.tnm 1) (.call 27 (.cons (.var 0) (.cons (.cst (.int 5)) .nil))))
 (.seq (.ifs (.op .lt (.var 1) (.cst (.int 2))) (.seq (.ret (.call 30 (.cons (.var 1) .nil)))
 .skip) .skip)
 (.seq (.ret (.call 29 (.cons (.var 0) .nil)))
 .skip)))
noncomputable def Za0:PX:=(.seq (.ret (.op .fdiv (.var 1) (.blt .len (.cons (.idx (.var 0) (.cst (.int 0))) .nil))))
 .skip)
noncomputable def Zbm:PX:=(.comp [none,none] (.tnm 1) (.iseq (.var 6)) (.op .eq (.idx (.var 1) (.cst (.int 0))) (.cst (.str "write"))) (.tup (.cons (.idx (.var 1) (.cst (.int 1))) (.cons (.idx (.var 1) (.cst (.int 2))) .nil))))
noncomputable def Zbl:PX:=(.comp [none,none,some 2,some 3] (.tnm 1) (.iseq (.idx (.idx (.idx (.var 1) (.cst (.int 1))) (.var 2)) (.cst (.int 2)))) (.op .eq (.idx (.var 1) (.cst (.int 0))) (.cst (.str "write"))) (.tup (.cons (.op .sub (.idx (.var 1) (.cst (.int 1))) (.op .mul (.var 2) (.blt .len (.cons (.var 3) .nil)))) (.cons (.idx (.var 1) (.cst (.int 2))) .nil))))
noncomputable def Zbk:PX:=(.comp [none,none,some 11] (.tnm 1) (.iseq (.var 6)) (.and (.op .eq (.idx (.var 1) (.cst (.int 0))) (.cst (.str "look"))) (.op .mem (.idx (.var 1) (.cst (.int 1))) (.var 2))) (.cst (.int 1)))
noncomputable def Zbj:PX:=(.loop (.tnm 10) (.irng (.cons (.blt .len (.cons (.idx (.var 1) (.cst (.int 1))) .nil)) .nil)) (.seq (.asg (.tnm 11) (.lst (.cons (.cst (.str "others")) (.cons (.idx (.lst (.cons (.cst (.str "lower")) (.cons (.cst (.str "higher")) .nil))) (.blt .int (.cons (.op .gt (.var 10) (.var 2)) .nil))) .nil))))
 (.seq (.asg (.tnm 12) (.blt .len (.cons Zbk .nil)))
 (.seq (.ifs (.and (.op .ne (.var 10) (.var 2)) (.op .ne (.dgt (.var 7) (.cons (.var 10) (.cons (.cst (.int 0)) .nil))) (.var 12))) (.seq (.ret (.cst (.bl false)))
 .skip) .skip)
 .skip))))
noncomputable def Zbi:PX:=(.loop (.tnm 8) (.iseq (.idx (.idx (.idx (.var 1) (.cst (.int 1))) (.var 2)) (.cst (.int 2)))) (.seq (.asg (.tnm 9) (.call 32 (.cons (.var 0) (.cons (.idx (.var 8) (.cst (.int 1))) .nil))))
 (.seq (.ifs (.op .ne (.op .eq (.idx (.var 8) (.cst (.int 0))) (.cst (.str "write"))) (.op .eq (.var 9) (.var 2))) (.seq (.ret (.cst (.bl false)))
 .skip) .skip)
 (.seq (.ifs (.op .eq (.idx (.var 8) (.cst (.int 0))) (.cst (.str "look"))) (.seq (.asg (.tdx (.var 7) (.var 9)) (.op .add (.dgt (.var 7) (.cons (.var 9) (.cons (.cst (.int 0)) .nil))) (.cst (.int 1))))
 .skip) .skip)
 .skip))))
noncomputable def Zaw:PX:=(.seq (.asg (.ttup 2 (.cons (.tnm 3) (.cons (.ttup 3 (.cons (.tnm 4) (.cons (.tnm 5) (.cons (.tnm 6) .nil)))) .nil))) (.var 0))
 (.seq (.asg (.tnm 7) (.ddp [] .nil))
 (.seq Zbi
 (.seq Zbj
 (.seq (.asg (.tnm 13) Zbl)
 (.seq (.ret (.op .eq (.var 13) Zbm))
 .skip))))))
noncomputable def Za5:PX:=(.comp [none,none,some 7] (.tnm 1) (.idc (.var 7)) (.cst (.bl true)) (.dix (.var 2) (.var 1)))
noncomputable def Za4:PX:=(.comp [none,none,some 12] (.tnm 1) (.idc (.var 7)) (.cst (.bl true)) (.mth .cnt (.var 2) (.var 1)))
noncomputable def Za3:PX:=(.comp [none,none,some 2,some 1] (.tnm 1) (.irng (.cons (.cst (.int 1)) (.cons (.op .add (.blt .len (.cons (.idx (.idx (.idx (.var 1) (.cst (.int 1))) (.var 2)) (.cst (.int 2))) .nil)) (.cst (.int 1))) .nil))) (.cst (.bl true)) (.call 6 (.cons (.var 3) (.cons (.var 2) (.cons (.var 1) .nil)))))
noncomputable def Za2:PX:=(.loop (.tnm 8) (.irng (.cons (.cst (.int 1)) (.cons (.op .add (.blt .len (.cons (.var 6) .nil)) (.cst (.int 1))) .nil))) (.seq (.asg (.tnm 9) (.idx (.lst (.cons (.cst (.str "doorway")) (.cons (.cst (.str "waiting")) .nil))) (.blt .int (.cons (.op .gt (.var 8) (.var 4)) .nil))))
 (.seq (.ifs (.op .ge (.var 8) (.var 5)) (.seq (.asg (.tnm 9) (.idx (.lst (.cons (.cst (.str "within")) (.cons (.cst (.str "leaving")) .nil))) (.blt .int (.cons (.op .gt (.var 8) (.var 5)) .nil))))
 .skip) .skip)
 (.seq (.asg (.tnm 10) (.cst (.int 1)))
 (.seq (.ifs (.op .eq (.idx (.idx (.var 6) (.op .sub (.var 8) (.cst (.int 1)))) (.cst (.int 0))) (.cst (.str "look"))) (.seq (.asg (.tnm 11) (.ddp [(.inr "others"),(.inr "lower"),(.inr "higher")] (.cons (.op .sub (.blt .len (.cons (.idx (.var 1) (.cst (.int 1))) .nil)) (.cst (.int 1))) (.cons (.var 2) (.cons (.op .sub (.op .sub (.blt .len (.cons (.idx (.var 1) (.cst (.int 1))) .nil)) (.cst (.int 1))) (.var 2)) .nil)))))
 (.seq (.asg (.tnm 10) (.dix (.var 11) (.idx (.idx (.var 6) (.op .sub (.var 8) (.cst (.int 1)))) (.cst (.int 1)))))
 .skip)) .skip)
 (.seq (.asg (.tdx (.var 7) (.var 9)) (.op .add (.dix (.var 7) (.var 9)) (.var 10)))
 .skip))))))
noncomputable def Zat:PX:=(.seq (.asg (.ttup 2 (.cons (.tnm 3) (.cons (.ttup 3 (.cons (.tnm 4) (.cons (.tnm 5) (.cons (.tnm 6) .nil)))) .nil))) (.var 0))
 (.seq (.asg (.tnm 7) (.ddp [(.inr "doorway"),(.inr "waiting"),(.inr "within"),(.inr "leaving")] (.cons (.cst (.int 0)) (.cons (.cst (.int 0)) (.cons (.cst (.int 0)) (.cons (.cst (.int 0)) .nil))))))
 (.seq Za2
 (.seq (.asg (.tnm 12) Za3)
 (.seq (.ret (.op .eq Za4 Za5))
 .skip)))))
noncomputable def Zbp:PX:=(.comp [none,none] (.tnm 1) (.iseq (.idx (.idx (.var 0) (.cst (.int 1))) (.cst (.int 2)))) (.cst (.bl true)) (.and (.op .eq (.idx (.var 1) (.cst (.int 0))) (.cst (.str "look"))) (.op .ne (.idx (.var 1) (.cst (.int 1))) (.cst (.str "lower")))))
noncomputable def ZaB:PX:=(.seq (.ifs (.tru (.blt .any (.cons Zbp .nil))) (.seq (.ret (.cst (.bl true)))
 .skip) .skip)
 (.seq (.ret (.op .eq (.slc (.idx (.call 19 (.cons (.var 0) (.cons (.var 1) .nil))) (.cst (.int 1))) .noe (.bnd (.op .sub (.var 1) (.cst (.int 1))))) (.idx (.call 19 (.cons (.var 0) (.cons (.op .sub (.var 1) (.cst (.int 1))) .nil))) (.cst (.int 1)))))
 .skip))
noncomputable def ZiF:PX:=(.comp [none,none] (.tnm 1) (.iseq (.idx (.idx (.idx (.call 19 (.cons (.var 2) (.cons (.cst (.int 1)) .nil))) (.cst (.int 1))) (.cst (.int 0))) (.cst (.int 2)))) (.cst (.bl true)) (.op .eq (.idx (.var 1) (.cst (.int 0))) (.cst (.str "look"))))
noncomputable def ZiE:PX:=(.loop (.tnm 5) (.irng (.cons (.var 3) .nil)) (.seq (.ifs (.or (.not (.tru (.call 33 (.cons (.var 2) (.cons (.var 4) (.cons (.var 5) .nil)))))) (.not (.tru (.call 34 (.cons (.var 2) (.cons (.var 4) (.cons (.var 5) .nil))))))) (.seq (.ret (.cst (.bl false)))
 .skip) .skip)
 .skip))
noncomputable def ZiD:PX:=(.loop (.tnm 3) (.irng (.cons (.cst (.int 1)) (.cons (.cst (.int 5)) .nil))) (.seq (.asg (.tnm 4) (.call 19 (.cons (.var 2) (.cons (.var 3) .nil))))
 (.seq ZiE
 (.seq (.ifs (.and (.op .gt (.var 3) (.cst (.int 1))) (.not (.tru (.call 35 (.cons (.var 2) (.cons (.var 3) .nil)))))) (.seq (.ret (.cst (.bl false)))
 .skip) .skip)
 .skip))))
noncomputable def ZiC:PX:=(.loop (.tnm 1) (.irng (.cons (.cst (.int 0)) (.cons (.blt .max (.cons (.cst (.int 1)) (.cons (.blt .min (.cons (.blt .len (.cons (.var 0) .nil)) (.cons (.cst (.int 12)) .nil))) .nil))) (.cons (.cst (.int 2)) .nil)))) (.seq (.asg (.tnm 2) (.call 31 (.cons (.call 26 (.cons (.var 0) (.cons (.var 1) .nil))) .nil)))
 (.seq ZiD
 (.seq (.ifs (.tru (.blt .any (.cons ZiF .nil))) (.seq (.ret (.cst (.bl false)))
 .skip) .skip)
 .skip))))
noncomputable def b_law:PX:=(.seq ZiC
 (.seq (.ret (.cst (.bl true)))
 .skip))
noncomputable def fns:List Fn:=[⟨1,1,ZcY⟩,⟨3,3,ZaY⟩,⟨3,3,Za7⟩,⟨2,2,ZdT⟩,⟨2,4,Zbe⟩,⟨1,3,ZcC⟩,⟨3,3,ZbV⟩,⟨1,1,Zbf⟩,⟨2,2,ZaZ⟩,⟨2,4,ZaT⟩,⟨1,4,ZcD⟩,⟨2,9,ZaX⟩,⟨2,5,ZaW⟩,⟨3,3,Zay⟩,⟨2,5,ZaV⟩,⟨4,8,Zb0⟩,⟨2,2,ZbP⟩,⟨2,2,ZcA⟩,⟨1,6,ZaU⟩,⟨2,2,ZbQ⟩,⟨1,1,ZaA⟩,⟨3,8,ZaD⟩,⟨3,13,ZaS⟩,⟨4,8,Zbw⟩,⟨3,3,ZaL⟩,⟨1,1,Za1⟩,⟨2,5,Zbh⟩,⟨2,3,Zbg⟩,⟨2,3,ZaI⟩,⟨1,13,ZaE⟩,⟨1,3,ZaF⟩,⟨1,2,Zar⟩,⟨2,2,Za0⟩,⟨3,14,Zaw⟩,⟨3,13,Zat⟩,⟨2,2,ZaB⟩,⟨1,6,b_law⟩]
end Lw
namespace Lw
open PySem L2 Py
structure Bx where
 k:Str
 n:Int
 s:Int
noncomputable def Bx.d (b:Bx):D:=.tup [.str b.k,.int b.n,.int b.s]
noncomputable def Bx.ok (b:Bx):Prop:=(b.k="whole" ∨b.k="either" ∨b.k="torn")∧2≤b.n∧b.n≤5∧0≤b.s∧b.s<b.n
inductive Rw where
 |wr (b x:Int)|lk (b:Int) (ns:List Int) (p:Int)
noncomputable def Rw.d:Rw→D
 | .wr b x=>.tup [.str "write",.int b,.int x]
 | .lk b ns p=>.tup [.str "look",.int b,.tup (ns.map .int),.int p]
noncomputable def Rise:Int→Int→List Int→Prop
 |_,_,[]=>True
 |l,n,x::r=>l≤x∧x<n∧Rise (x+1) n r
noncomputable def Rw.ok (sz:List Int) (lo hi:Int):Rw→Prop
 | .wr b x=>0≤b∧∃n,sz[b.toNat]?=some n∧0≤x∧x<n
 | .lk b ns p=>0≤b∧∃n,sz[b.toNat]?=some n∧Rise 0 n ns∧lo≤p∧p≤hi
structure Pg where
 door:Int
 within:Int
 rows:List Rw
noncomputable def Pg.d (p:Pg):D:=.tup [.int p.door,.int p.within,.tup (p.rows.map Rw.d)]
noncomputable def loP (at_ within many:Int):Int:=if at_<within then 1 else if at_=within then within else within+1
noncomputable def hiP (at_ within many:Int):Int:=if at_<within then within else if at_=within then within else many
structure Pg.ok (sz:List Int) (p:Pg):Prop where
 r1:1≤p.rows.length
 r2:p.rows.length≤16
 w1:1≤p.within
 w2:p.within≤p.rows.length
 d1:0≤p.door
 d2:p.door<p.within
 row:∀(j:Nat) (r:Rw),p.rows[j]?=some r→r.ok sz (loP (j+1) p.within p.rows.length) (hiP (j+1) p.within p.rows.length)
structure Wy where
 bs:List Bx
 hs:List Pg
noncomputable def Wy.d (w:Wy):D:=.tup [.tup (w.bs.map Bx.d),.tup (w.hs.map Pg.d)]
noncomputable def isWr (b:Int):Rw→Bool
 | .wr c _=>decide (c=b)
 |_=>false
noncomputable def wrs (b:Int) (p:Pg):Bool:=p.rows.any (isWr b)
structure Wy.ok (w:Wy):Prop where
 b1:1≤w.bs.length
 b2:w.bs.length≤12
 h1:1≤w.hs.length
 h2:w.hs.length≤4
 bx:∀b∈w.bs,b.ok
 pg:∀h∈w.hs,h.ok (w.bs.map (·.n))
 wr:∀(i:Nat) (b:Bx),w.bs[i]?=some b→b.k≠ "whole"→(w.hs.filter (wrs i)).length≤1
section
variable {S:Sto} {k:Nat}
theorem ZcP {i:Int}:cl fns (k+1) 0 [.int i] S=.ok (.bl true) S:=by rfl
theorem Zak {i lo hi:Int} (h1:lo≤i) (h2:i≤hi):cl fns (k+2) 1 [.int i,.int lo,.int hi] S=.ok (.bl true) S:=by
 rw [ZaK (fn:=⟨3,3,ZaY⟩) rfl]
 simp [-Zaa,runF,ZaY,ZcP,h1,h2]
theorem ZcQ {xs:List D} {lo hi:Int}:cl fns (k+1) 2 [.tup xs,.int lo,.int hi] S=.ok (.bl (decide (lo≤xs.length)&&decide ((xs.length:Int)≤hi))) S:=by
 rw [ZaK (fn:=⟨3,3,Za7⟩) rfl]
 have e:isiB "tuple" "tuple" =true:=by decide
 have e2:"tuple" ∈tysT:=by decide
 by_cases h:lo≤(xs.length:Int)
 ·simp [-Zaa,runF,Za7,e,e2,h]
 ·simp [-Zaa,runF,Za7,e,e2,h]
theorem Zao {xs:List D} {lo hi:Int} (h1:lo≤xs.length) (h2:(xs.length:Int)≤hi):cl fns (k+1) 2 [.tup xs,.int lo,.int hi] S=.ok (.bl true) S:=by
 rw [ZcQ,decide_eq_true h1,decide_eq_true h2];rfl
theorem ZfZ:cl fns (k+1) 3 [.str "write",.tup [.str "write"]] S=.ok (.bl true) S:=by rfl
theorem ZdB:cl fns (k+1) 3 [.str "look",.tup [.str "look"]] S=.ok (.bl true) S:=by rfl
theorem Zf0 {s:Str} (h:s="whole" ∨s="either" ∨s="torn"):cl fns (k+1) 3 [.str s,.tup [.str "whole",.str "either",.str "torn"]] S=.ok (.bl true) S:=by
 rcases h with rfl|rfl|rfl<;>rfl
theorem isiT:isiB "tuple" "tuple" =true:=by decide
theorem memT:"tuple" ∈tysT:=by decide
theorem Zf2 {ns:List Int} {n:Int} (h:Rise 0 n ns):Wp (cl fns (k+3) 4 [.tup (ns.map .int),.int n] S) fun d S'=>d=.bl true∧S'=S:=by
 refine wp_cl (fn:=⟨2,4,Zbe⟩) rfl rfl ?_
 simp [Zbe,isiT,memT]
 refine ZaN (J:=⟨ns.map .int,none⟩) (S1:=S) (by simp) (fun i e S'=>S'=S∧∃(l:Int) (y:Option D),e=[some (.tup (ns.map .int)),some (.int n),some (.int l),y]∧Rise l n (ns.drop i)) ⟨rfl,0,none,rfl,by simpa using h⟩ (fun _ _ _ _ _=>rfl) (fun j x e S' hx hP=>?_) (fun e' S' hP=>?_)
 ·obtain⟨rfl,l,y,rfl,hr⟩:=hP
  simp only [Yam,Yao] at hx
  obtain⟨i,hi,rfl⟩:=hx
  have hd:ns.drop j=i::ns.drop (j+1):=by
   have hlt:=(Yac.mp hi).1
   rw [YbD hlt]
   congr 1
   exact(Yac.mp hi).2
  rw [hd] at hr
  obtain⟨a,b,c⟩:=hr
  have e1:=Zak (k:=k) (S:=S') (i:=i) (lo:=l) (hi:=n-1) a (by omega)
  simp [e1]
  exact c
 ·obtain⟨rfl,l,y,rfl,hr⟩:=hP
  simp
theorem Zct {ns:List Int} {n:Int} (h:Rise 0 n ns):cl fns (k+3) 4 [.tup (ns.map .int),.int n] S=.ok (.bl true) S:=by
 obtain⟨d,S',e,rfl,rfl⟩:=Zf2 (k:=k) (S:=S) h
 exact e
theorem ZgF {b:Bx} (h:b.ok):cl fns (k+3) 10 [b.d] S=.ok (.bl true) S:=by
 obtain⟨hk,h1,h2,h3,h4⟩:=h
 rw [ZaK (fn:=⟨1,4,ZcD⟩) rfl]
 have e1:=Zao (k:=k+1) (S:=S) (xs:=[.str b.k,.int b.n,.int b.s]) (lo:=3) (hi:=3) (by simp) (by simp)
 have e2:=Zf0 (k:=k+1) (S:=S) hk
 have e3:=Zak (k:=k) (S:=S) (i:=b.n) (lo:=2) (hi:=5) h1 h2
 have e4:=Zak (k:=k) (S:=S) (i:=b.s) (lo:=0) (hi:=b.n-1) h3 (by omega)
 simp [-Zaa,runF,ZcD,Bx.d,e1,e2,e3,e4]
theorem ZeP {a w m:Int}:cl fns (k+1) 13 [.int a,.int w,.int m] S=.ok (.tup [.int (loP a w m),.int (hiP a w m)]) S:=by
 rw [ZaK (fn:=⟨3,3,Zay⟩) rfl]
 by_cases h1:a<w
 ·simp [-Zaa,runF,Zay,h1,loP,hiP]
 ·by_cases h2:a=w
  ·simp [-Zaa,runF,Zay,h1,h2,loP,hiP]
  ·simp [-Zaa,runF,Zay,h1,h2,loP,hiP]
theorem Zj1 {bs:List Bx} {b n:Int} (h0:0≤b) (h:(bs.map (·.n))[b.toNat]?=some n):∃x:Bx,x.n=n∧idxD (.tup (bs.map Bx.d)) (.int b) S=.ok x.d S∧b<bs.length:=by
 rw [Yam,Yao] at h
 obtain⟨x,hx,rfl⟩:=h
 have hlt:=(Yac.mp hx).1
 refine⟨x,rfl,?_,by omega⟩
 exact Zc1 h0 (by rw [Yam,hx];rfl)
theorem Zc4 {bs:List Bx} {b x lo hi:Int} (h:(Rw.wr b x).ok (bs.map (·.n)) lo hi):cl fns (k+3) 14 [(Rw.wr b x).d,.tup (bs.map Bx.d)] S=.ok (.bl true) S:=by
 obtain⟨h0,n,hn,h1,h2⟩:=h
 obtain⟨y,hy,hi,hb⟩:=Zj1 (S:=S) h0 hn
 rw [ZaK (fn:=⟨2,5,ZaV⟩) rfl]
 have e1:=Zao (k:=k+1) (S:=S) (xs:=[.str "write",.int b,.int x]) (lo:=3) (hi:=3) (by simp) (by simp)
 have e2:=ZfZ (k:=k+1) (S:=S)
 have e3:=Zak (k:=k) (S:=S) (i:=b) (lo:=0) (hi:=(bs.length:Int) -1) h0 (by omega)
 have e4:=Zak (k:=k) (S:=S) (i:=x) (lo:=0) (hi:=y.n-1) h1 (by omega)
 simp [-Zaa,runF,ZaV,Rw.d,e1,e2,e3,hi]
 simp [Bx.d,ixN,e4]
theorem Zfp {bs:D} {b p:Int} {ns:List Int}:cl fns (k+3) 14 [(Rw.lk b ns p).d,bs] S=.ok (.bl false) S:=by
 rw [ZaK (fn:=⟨2,5,ZaV⟩) rfl]
 have e1:=ZcQ (k:=k+1) (S:=S) (xs:=[.str "look",.int b,.tup (ns.map .int),.int p]) (lo:=3) (hi:=3)
 simp [-Zaa,runF,ZaV,Rw.d,e1]
theorem Zie {bs:List Bx} {b p lo hi:Int} {ns:List Int} (h:(Rw.lk b ns p).ok (bs.map (·.n)) lo hi):cl fns (k+4) 15 [(Rw.lk b ns p).d,.tup (bs.map Bx.d),.int lo,.int hi] S=.ok (.bl true) S:=by
 obtain⟨h0,n,hn,h1,h2,h3⟩:=h
 obtain⟨y,hy,hi',hb⟩:=Zj1 (S:=S) h0 hn
 rw [ZaK (fn:=⟨4,8,Zb0⟩) rfl]
 have e1:=Zao (k:=k+2) (S:=S) (xs:=[.str "look",.int b,.tup (ns.map .int),.int p]) (lo:=4) (hi:=4) (by simp) (by simp)
 have e2:=ZdB (k:=k+2) (S:=S)
 have e3:=Zak (k:=k+1) (S:=S) (i:=b) (lo:=0) (hi:=(bs.length:Int) -1) h0 (by omega)
 have e4:=Zak (k:=k+1) (S:=S) (i:=p) (lo:=lo) (hi:=hi) h2 h3
 have e5:=Zct (k:=k) (S:=S) (ns:=ns) (n:=y.n) (by rw [hy];exact h1)
 simp [-Zaa,runF,Zb0,Rw.d,e1,e2,e3,hi']
 simp [Bx.d,ixN,e4,e5]
theorem ZlQ {rs:List Rw} {j:Nat} {x:D} (h:(Zav 0 (rs.map Rw.d))[j]?=some x):∃r,rs[j]?=some r∧x=.tup [.int (j:Int),r.d]:=by
 have hlt:=(Yac.mp h).1
 rw [Zdk,Yak] at hlt
 have hd:(rs.map Rw.d)[j]?=some rs[j].d:=by rw [Yam,Yaf hlt];rfl
 have e:=Zdl (k:=0) hd
 rw [h] at e
 cases e
 exact⟨rs[j],Yaf hlt,by simp⟩
theorem Zg7 {p:Pg} {sz:List Int} {m:Int} (h:p.ok sz) (hm:(p.rows.length:Int)≤m):cl fns (k+3) 12 [p.d,.int m] S=.ok (.bl true) S:=by
 rw [ZaK (fn:=⟨2,5,ZaW⟩) rfl]
 have e1:=Zao (k:=k+1) (S:=S) (xs:=[.int p.door,.int p.within,.tup (p.rows.map Rw.d)]) (lo:=3) (hi:=3) (by simp) (by simp)
 have e2:=Zao (k:=k+1) (S:=S) (xs:=p.rows.map Rw.d) (lo:=1) (hi:=m) (by rw [Yak];have:=h.r1;omega) (by rw [Yak];exact hm)
 have e3:=Zak (k:=k) (S:=S) (i:=p.within) (lo:=1) (hi:=p.rows.length) h.w1 h.w2
 have e4:=Zak (k:=k) (S:=S) (i:=p.door) (lo:=0) (hi:=p.within-1) h.d1 (by have:=h.d2;omega)
 simp [-Zaa,runF,ZaW,Pg.d,e1,e2,e3,e4]
theorem Zfq {p:Pg} {bs:List Bx} (h:p.ok (bs.map (·.n))):cl fns (k+5) 11 [p.d,.tup (bs.map Bx.d)] S=.ok (.bl true) S:=by
 suffices hh:Wp (cl fns (k+5) 11 [p.d,.tup (bs.map Bx.d)] S) fun d S'=>d=.bl true∧S'=S by
  obtain⟨d,S',e,rfl,rfl⟩:=hh
  exact e
 refine wp_cl (fn:=⟨2,9,ZaX⟩) rfl rfl ?_
 have e1:=Zg7 (k:=k+1) (S:=S) h (m:=16) (by have:=h.r2;omega)
 rw [Pg.d] at e1
 simp [ZaX,Pg.d,e1]
 refine ZaN (J:=⟨Zav 0 (p.rows.map Rw.d),none⟩) (S1:=S) (by simp) (fun i e S'=>S'=S∧∃y1 y2 y3 y4,e=[some p.d,some (.tup (bs.map Bx.d)),some (.int p.door),some (.int p.within),some (.tup (p.rows.map Rw.d)),y1,y2,y3,y4]) ⟨rfl,_,_,_,_,rfl⟩ (fun _ _ _ _ _=>rfl) (fun j x e S' hx hP=>?_) (fun e' S' hP=>?_)
 ·obtain⟨rfl,y1,y2,y3,y4,rfl⟩:=hP
  obtain⟨r,hr,rfl⟩:=ZlQ hx
  have ok:=h.row j r hr
  have e5:=ZeP (k:=k+3) (S:=S') (a:=(j:Int)+1) (w:=p.within) (m:=p.rows.length)
  simp [e5]
  cases r with
  |wr b y=>
   have e6:=Zc4 (k:=k+1) (S:=S') ok
   simp [e6]
  |lk b ns q=>
   have e6:=Zfp (k:=k+1) (S:=S') (b:=b) (p:=q) (ns:=ns) (bs:=.tup (bs.map Bx.d))
   have e7:=Zie (k:=k) (S:=S') ok
   simp [e6,e7]
 ·obtain⟨rfl,y1,y2,y3,y4,rfl⟩:=hP
  simp
end
end Lw
namespace Lw
open PySem L2 Py
section
variable {S:Sto} {k:Nat}
theorem hlw:¬(("look" :Str)="write"):=by decide
theorem Zjv {rs:List Rw} {b:Int} (hlen:rs.length≤16):Wp (cl fns (k+1) 17 [.tup (rs.map Rw.d),.int b] S) fun d S'=>d=.bl (rs.any (isWr b))∧Kp none S.length S S':=by
 refine wp_cl (fn:=⟨2,2,ZcA⟩) rfl rfl ?_
 simp [ZcA]
 refine Zcb (J:=⟨rs.map Rw.d,none⟩) (S1:=S) (by simp) (fun i ys e S'=>ys=(rs.take i).map (fun r=>D.bl (isWr b r))∧(∃y,e=[none,y,some (.int b)])∧S'[S.length]?=some (.lst ys)∧Kp none S.length S S')
  ⟨rfl,⟨none,rfl⟩,Zal,Kp.snoc (by intro q e;cases e)⟩ (fun j ys e S' hP=>⟨rfl,?_⟩) (fun j x ys e S' hx hP=>?_) (fun ys e' S' hP=>?_)
 ·rw [hP.1,Yak,Ybe];omega
 ·obtain⟨rfl,⟨y,rfl⟩,hc,hk⟩:=hP
  rw [Yam,Yao] at hx
  obtain⟨r,hr,rfl⟩:=hx
  refine⟨([none,some r.d,some (.int b)],some (.bl (isWr b r))),S',?_,.inl ⟨_,rfl,hc,?_⟩⟩
  ·cases r with
   |wr c x=>simp [-Zaa,bodyC,Rw.d,ixN,isWr]
   |lk c ns p=>simp [-Zaa,bodyC,Rw.d,ixN,isWr,hlw]
  ·exact⟨by rw [ZaM hr,Ya4];rfl,⟨_,rfl⟩,ZaO hc,hk.next (Kp.set (p:=none) (m:=S.length) (by have:=hk.len;omega) (Yad _) (by intro q e;cases e)) (Yad _)⟩
 ·obtain⟨rfl,⟨y,rfl⟩,hc,hk⟩:=hP
  rw [Yak,Ybf] at hc
  have e1:=ZeV (f:=isWr b) (l:=rs)
  simp [Zad hc,e1]
  exact hk
theorem Zia {hs:List Pg} {b:Int} (hl:hs.length≤4) (hr:∀h∈hs,h.rows.length≤16):Wp (cl fns (k+2) 16 [.tup (hs.map Pg.d),.int b] S) fun d S'=>d=.int (hs.filter (wrs b)).length∧Kp none S.length S S':=by
 refine wp_cl (fn:=⟨2,2,ZbP⟩) rfl rfl ?_
 simp [ZbP]
 refine Zcb (J:=⟨hs.map Pg.d,none⟩) (S1:=S) (by simp) (fun i ys e S'=>ys.length=((hs.take i).filter (wrs b)).length∧(∃y1 y2 y3,e=[none,y1,y2,y3,some (.int b)])∧S'[S.length]?=some (.lst ys)∧Kp none S.length S S')
  ⟨rfl,⟨_,_,_,rfl⟩,Zal,Kp.snoc (by intro q e;cases e)⟩ (fun j ys e S' hP=>⟨rfl,?_⟩) (fun j x ys e S' hx hP=>?_) (fun ys e' S' hP=>?_)
 ·rw [hP.1]
  have h1:=List.length_filter_le (wrs b) (hs.take j)
  rw [Ybe] at h1
  omega
 ·obtain⟨hy,⟨y1,y2,y3,rfl⟩,hc,hk⟩:=hP
  rw [Yam,Yao] at hx
  obtain⟨h,hh,rfl⟩:=hx
  have hmem:h∈hs:=Yay hh
  obtain⟨d,S2,e2,rfl,k2⟩:=Zjv (k:=k) (S:=S') (rs:=h.rows) (b:=b) (hr h hmem)
  have hc2:=k2.get0 hc (Zac hc)
  have hk2:Kp none S.length S S2:=hk.nx k2
  have hw:wrs b h=h.rows.any (isWr b):=rfl
  by_cases hb:h.rows.any (isWr b)=true
  ·rw [hb] at e2
   refine⟨([none,some (.int h.door),some (.int h.within),some (.tup (h.rows.map Rw.d)),some (.int b)],some (.tup (h.rows.map Rw.d))),S2,?_,.inl ⟨_,rfl,hc2,?_⟩⟩
   ·simp [-Zaa,bodyC,Pg.d,e2]
   ·exact⟨by rw [ZaM hh,Ybs];simp [hw,hb,hy],⟨_,_,_,rfl⟩,ZaO hc2,hk2.next (Kp.set (p:=none) (m:=S.length) (by have:=hk2.len;omega) (Yad _) (by intro q e;cases e)) (Yad _)⟩
  ·rw [Bool.eq_false_iff.mpr hb] at e2
   refine⟨([none,some (.int h.door),some (.int h.within),some (.tup (h.rows.map Rw.d)),some (.int b)],none),S2,?_,.inr ⟨rfl,?_⟩⟩
   ·simp [-Zaa,bodyC,Pg.d,e2]
   ·exact⟨by rw [ZaM hh,Ybs];simp [hw,Bool.eq_false_iff.mpr hb,hy],⟨_,_,_,rfl⟩,hc2,hk2⟩
 ·obtain⟨hy,⟨y1,y2,y3,rfl⟩,hc,hk⟩:=hP
  rw [Yak,Ybf] at hy
  simp [Zad hc]
  exact⟨by rw [hy],hk⟩
theorem Zg4 {w:Wy} {y:Option D} {h':Option D} (h:w.ok):Wp (ev (cl fns (k+3)) Zeg [y,some (.tup (w.bs.map Bx.d)),h'] S) fun d S'=>∃ys bs,d=.obj S.length∧S'[S.length]?=some (.lst ys)∧blsOf ys=some bs∧bs.all id=true∧Kp none S.length S S':=by
 have hb2:=h.b2
 refine Zbv (J:=⟨w.bs.map Bx.d,none⟩) (S1:=S) (fun e=>∃y,e=[none,y]) (by simp) (fun _ _=>rfl) (by simp;omega) ⟨_,rfl⟩ (fun j x e S' hx hE=>?_)
 obtain⟨y,rfl⟩:=hE
 rw [Yam,Yao] at hx
 obtain⟨b,hb,rfl⟩:=hx
 have e4:=ZgF (k:=k) (S:=S') (h.bx b (Yay hb))
 exact⟨([none,some b.d],some (.bl true)),S',by simp [-Zaa,bodyC,e4],⟨_,rfl⟩,.inr rfl,Kp.rfl'⟩
theorem Zg5 {w:Wy} {y:Option D} (h:w.ok):Wp (ev (cl fns (k+5)) Zeh [y,some (.tup (w.bs.map Bx.d)),some (.tup (w.hs.map Pg.d))] S) fun d S'=>∃ys bs,d=.obj S.length∧S'[S.length]?=some (.lst ys)∧blsOf ys=some bs∧bs.all id=true∧Kp none S.length S S':=by
 have hh2:=h.h2
 refine Zbv (J:=⟨w.hs.map Pg.d,none⟩) (S1:=S) (fun e=>∃y,e=[none,y,some (.tup (w.bs.map Bx.d))]) (by simp) (fun _ _=>rfl) (by simp;omega) ⟨_,rfl⟩ (fun j x e S' hx hE=>?_)
 obtain⟨y,rfl⟩:=hE
 rw [Yam,Yao] at hx
 obtain⟨b,hb,rfl⟩:=hx
 have e4:=Zfq (k:=k) (S:=S') (h.pg b (Yay hb))
 exact⟨([none,some b.d,some (.tup (w.bs.map Bx.d))],some (.bl true)),S',by simp [-Zaa,bodyC,e4],⟨_,rfl⟩,.inr rfl,Kp.rfl'⟩
theorem Zg6 {w:Wy} {y:Option D} (h:w.ok):Wp (ev (cl fns (k+2)) Zei [y,some (.tup (w.bs.map Bx.d)),some (.tup (w.hs.map Pg.d))] S) fun d S'=>∃ys bs,d=.obj S.length∧S'[S.length]?=some (.lst ys)∧blsOf ys=some bs∧bs.all id=true∧Kp none S.length S S':=by
 have hb2:=h.b2
 refine Zbv (J:=⟨Zaj 0 1 w.bs.length,none⟩) (S1:=S) (fun e=>∃y,e=[none,y,some (.tup (w.bs.map Bx.d)),some (.tup (w.hs.map Pg.d))]) (by simp [Zdo (show w.bs.length≤100000 by omega)]) (fun _ _=>rfl) (by simp [ZaH];omega) ⟨_,rfl⟩ (fun j x e S' hx hE=>?_)
 obtain⟨y,rfl⟩:=hE
 have hlt:=(Yac.mp hx).1
 rw [ZaH] at hlt
 rw [Zdi hlt] at hx
 cases hx
 obtain⟨b,hb⟩:∃b,w.bs[j]?=some b:=⟨_,Yaf hlt⟩
 have ei:idxD (.tup (w.bs.map Bx.d)) (.int (j:Int)) S'=.ok b.d S':=ZeL (by rw [Yam,hb];rfl)
 have e0:∀S,idxD b.d (.int 0) S=.ok (.str b.k) S:=fun S=>by simp [Bx.d]
 by_cases hk':b.k="whole"
 ·refine⟨([none,some (.int (j:Int)),some (.tup (w.bs.map Bx.d)),some (.tup (w.hs.map Pg.d))],none),S',?_,⟨_,rfl⟩,.inl rfl,Kp.rfl'⟩
  simp [-Zaa,bodyC,ei,e0,hk']
 ·obtain⟨d,S4,e4,rfl,k4⟩:=Zia (k:=k) (S:=S') (hs:=w.hs) (b:=(j:Int)) h.h2 (fun p hp=>(h.pg p hp).r2)
  have hle:=h.wr j b hb hk'
  refine⟨([none,some (.int (j:Int)),some (.tup (w.bs.map Bx.d)),some (.tup (w.hs.map Pg.d))],some (.bl true)),S4,?_,⟨_,rfl⟩,.inr rfl,k4⟩
  simp [-Zaa,bodyC,ei,e0,hk',e4]
  omega
theorem Zjw {w:Wy} (h:w.ok):Wp (cl fns (k+6) 5 [w.d] S) fun d S'=>d=.bl true∧Kp none S.length S S':=by
 refine wp_cl (fn:=⟨1,3,ZcC⟩) rfl rfl ?_
 have e1:=Zao (k:=k+4) (S:=S) (xs:=[.tup (w.bs.map Bx.d),.tup (w.hs.map Pg.d)]) (lo:=2) (hi:=2) (by simp) (by simp)
 have e2:=Zao (k:=k+4) (S:=S) (xs:=w.bs.map Bx.d) (lo:=1) (hi:=12) (by rw [Yak];have:=h.b1;omega) (by rw [Yak];have:=h.b2;omega)
 have e3:=Zao (k:=k+4) (S:=S) (xs:=w.hs.map Pg.d) (lo:=1) (hi:=4) (by rw [Yak];have:=h.h1;omega) (by rw [Yak];have:=h.h2;omega)
 simp [ZcC,Wy.d,e1,e2,e3]
 refine Zae (Zg4 (k:=k+2) h) ?_
 rintro d S1 ⟨ys,bs,hd,hc,q1,q2,k1⟩
 subst hd
 simp [Zad hc,q1,q2]
 refine Zae (Zg5 (k:=k) h) ?_
 rintro d S2 ⟨ys,bs,hd,hc,q1,q2,k2⟩
 subst hd
 simp [Zad hc,q1,q2]
 refine Zae (Zg6 (k:=k+3) h) ?_
 rintro d S3 ⟨ys,bs,hd,hc,q1,q2,k3⟩
 subst hd
 simp [Zad hc,q1,q2]
 exact(k1.nx k2).nx k3
end
end Lw
namespace Lw
open PySem L2 Py
inductive Tr where
 |wr (k x:Int)|lk (s:Str) (k:Int) (ns:List Int) (p:Int)
noncomputable def Tr.d:Tr→D
 | .wr k x=>.tup [.str "write",.int k,.int x]
 | .lk s k ns p=>.tup [.str "look",.str s,.int k,.tup (ns.map .int),.int p]
noncomputable def isWh (s:Str):Prop:=s="others" ∨s="lower" ∨s="higher"
structure Tp where
 ks:List Bx
 door:Int
 within:Int
 rows:List Tr
noncomputable def Tp.d (t:Tp):D:=.tup [.tup (t.ks.map Bx.d),.tup [.int t.door,.int t.within,.tup (t.rows.map Tr.d)]]
noncomputable def Tr.cost:Tr→Nat
 | .wr .. =>1
 | .lk .. =>3
noncomputable def Tr.okW (ks:List Bx):Tr→Prop
 | .wr k x=>0≤k∧∃b,ks[k.toNat]?=some b∧0≤x∧x<b.n
 | .lk .. =>False
noncomputable def Tr.okL (ks:List Bx) (w:Int):Tr→Prop
 | .wr .. =>False
 | .lk s k ns p=>isWh s∧0≤k∧(∃b,ks[k.toNat]?=some b∧Rise 0 b.n ns)∧1≤p∧p≤w
structure Tp.ok (t:Tp):Prop where
 k1:1≤t.ks.length
 k2:t.ks.length≤2
 kb:∀b∈t.ks,b.ok
 r1:1≤t.rows.length
 r2:t.rows.length≤8
 w1:1≤t.within
 w2:t.within≤t.rows.length
 d1:0≤t.door
 d2:t.door<t.within
 row:∀(j:Nat) (r:Tr),t.rows[j]?=some r→r.okW t.ks∨(r.okL t.ks t.within∧(j:Int)+1<t.within)
 cost:(t.rows.map Tr.cost).sum≤16
noncomputable def lkB (s:Str) (h j:Nat):Bool:=(decide (j<h)&& !decide (s="higher"))||(decide (h<j)&& !decide (s="lower"))
noncomputable def lkd (s:Str) (h m:Nat):List Nat:=(Yau m).filter (lkB s h)
noncomputable def Tr.cm (h m:Nat):Tr→Nat
 | .wr .. =>1
 | .lk s .. =>(lkd s h m).length
noncomputable def Tr.out (n:Nat) (pre:Int→Int) (h m:Nat):Tr→List Rw
 | .wr k x=>[.wr ((h:Int)*n+k) x]
 | .lk s k ns p=>(lkd s h m).map fun(j:Nat)=>.lk ((j:Int)*n+k) ns (pre (p-1)+1)
noncomputable def Tp.pre (t:Tp) (h m i:Nat):Nat:=((t.rows.take i).map (Tr.cm h m)).sum
noncomputable def Tp.preI (t:Tp) (h m:Nat) (i:Int):Int:=(t.pre h m i.toNat:Nat)
noncomputable def Tp.prog (t:Tp) (m h:Nat):Pg:=⟨t.preI h m t.door,t.preI h m (t.within-1)+1,t.rows.flatMap (Tr.out t.ks.length (t.preI h m) h m)⟩
noncomputable def Tp.way (t:Tp) (m:Nat):Wy:=⟨(Yaq m t.ks).flatten,(Yau m).map (t.prog m)⟩
theorem ZfK {n:Nat} {pre:Int→Int} {h m:Nat} {r:Tr}:(r.out n pre h m).length=r.cm h m:=by
 cases r with
 |wr k x=>rfl
 |lk s k ns p=>simp [Tr.out,Tr.cm]
theorem ZjW {s:Str} {h m:Nat} (hm:h<m):(lkd s h m).length<m:=by
 have:(lkd s h m).length<(Yau m).length:=by
  rw [lkd,List.length_filter_lt_length_iff_exists]
  exact⟨h,YaN.mpr hm,by simp [lkB]⟩
 simpa using this
theorem Zf6 {h m:Nat} {r:Tr} (hm:h<m) (h4:m≤4):r.cm h m≤r.cost:=by
 cases r with
 |wr k x=>exact Yad _
 |lk s k ns p=>have:=ZjW (s:=s) hm;simp only [Tr.cm,Tr.cost];omega
theorem Zhk {α:Type} {f g:α→Nat}:∀{l:List α},(∀x∈l,f x≤g x)→(l.map f).sum≤(l.map g).sum
 | [],_=>Yad _
 |a::r,h=>by
  have h1:=h a Yaw
  have h2:=Zhk (l:=r) fun x hx=>h x (Yas _ hx)
  simp only [YaK,Ybn]
  omega
theorem Zgc {α:Type} {f:α→Nat}:∀{l:List α} {i:Nat} {x:α},l[i]?=some x→((l.take (i+1)).map f).sum=((l.take i).map f).sum+f x
 | [],i,x,h=>by simp at h
 |a::r,0,x,h=>by simp at h;subst h;simp
 |a::r,i+1,x,h=>by
  simp at h
  have:=Zgc (f:=f) h
  simp only [YbA,YaK,Ybn,this]
  omega
theorem Zgd {α:Type} {f:α→Nat}:∀{l:List α} {i j:Nat},i≤j→((l.take i).map f).sum≤((l.take j).map f).sum
 | [],i,j,_=>by simp
 |a::r,0,j,_=>by simp
 |a::r,i+1,0,h=>by omega
 |a::r,i+1,j+1,h=>by
  have:=Zgd (f:=f) (l:=r) (i:=i) (j:=j) (by omega)
  simp only [YbA,YaK,Ybn]
  omega
theorem Zh9 {α β:Type} {g:α→List β} {c:α→Nat} (hc:∀x,(g x).length=c x):∀{l:List α} {j:Nat} {r:β},(l.flatMap g)[j]?=some r→∃i t,l[i]?=some t∧r∈g t∧((l.take i).map c).sum≤j∧j<((l.take i).map c).sum+c t
 | [],j,r,h=>by simp at h
 |a::l,j,r,h=>by
  rw [Ybl] at h
  by_cases hj:j<(g a).length
  ·rw [Yar hj] at h
   exact⟨0,a,rfl,Yay h,by simp,by rw [hc] at hj;simpa using hj⟩
  ·rw [Yav (by omega)] at h
   obtain⟨i,t,h1,h2,h3,h4⟩:=Zh9 hc h
   rw [hc] at h3 h4 hj
   refine⟨i+1,t,by simpa using h1,h2,?_,?_⟩
   ·simp only [YbA,YaK,Ybn];omega
   ·simp only [YbA,YaK,Ybn];omega
theorem ZeN {α β:Type} {g:α→List β} {c:α→Nat} (hc:∀x,(g x).length=c x):∀{l:List α},(l.flatMap g).length=(l.map c).sum
 | []=>rfl
 |a::l=>by rw [Ybl,YaQ,hc,ZeN hc (l:=l),YaK,Ybn]
theorem ZjN {α:Type} {l:List α}:∀{m o k:Nat},o<m→k<l.length→(Yaq m l).flatten[o*l.length+k]?=l[k]?
 |0,o,k,h,_=>by omega
 |m+1,0,k,h,hk=>by
  rw [YaJ,YaT,Nat.zero_mul,Ybv,Yar hk]
 |m+1,o+1,k,h,hk=>by
  have e:(o+1)*l.length+k=l.length+(o*l.length+k):=by rw [Nat.succ_mul];omega
  rw [YaJ,YaT,e,Yav (by omega),show l.length+(o*l.length+k) -l.length=o*l.length+k by omega]
  exact ZjN (by omega) hk
theorem Zhw {α β:Type} {f:α→β} {l:List α}:∀{m:Nat},((Yaq m l).flatten).map f=(Yaq m (l.map f)).flatten
 |0=>rfl
 |m+1=>by rw [YaJ,YaT,Ya4,Zhw (m:=m),YaJ,YaT]
theorem Zhx {α:Type} {l:List α}:∀{m:Nat},((Yaq m l).flatten).length=m*l.length
 |0=>by simp
 |m+1=>by rw [YaJ,YaT,YaQ,Zhx (m:=m),Nat.succ_mul];omega
theorem ZjV {o n:Nat} {k:Int} (h:0≤k):((o:Int)*(n:Int)+k).toNat=o*n+k.toNat:=by
 rw [←YbT];omega
theorem filt1 {p:Pg→Bool} {f:Nat→Pg} {c:Nat}:∀{l:List Nat},l.Nodup→(∀h∈l,p (f h)=true→h=c)→((l.map f).filter p).length≤1
 | [],_,_=>by simp
 |a::r,nd,h=>by
  rw [Ya3] at nd
  have ih:=filt1 (l:=r) nd.2 fun x hx=>h x (Yas _ hx)
  rw [YaK,List.filter_cons]
  split
  ·rename_i ha
   have ea:=h a Yaw ha
   have:(r.map f).filter p=[]:=by
    rw [List.filter_eq_nil_iff]
    intro x hx hp
    obtain⟨y,hy,rfl⟩:=YaR.mp hx
    have:=h y (Yas _ hy) hp
    exact nd.1 (by rw [ea,←this];exact hy)
   rw [this]
   simp
  ·exact ih
section
variable {t:Tp} {h m:Nat}
theorem ZaP {i j:Nat} (hij:i≤j):t.pre h m i≤t.pre h m j:=Zgd hij
theorem Zcn {i:Nat} {r:Tr} (hr:t.rows[i]?=some r):t.pre h m (i+1)=t.pre h m i+r.cm h m:=Zgc hr
theorem Zen:(t.prog m h).rows.length=t.pre h m t.rows.length:=by
 simp only [Tp.prog,Tp.pre,Ybf]
 exact ZeN fun x=>ZfK
theorem Zkg {k:Int} {b:Bx} {o:Nat} (ho:o<m) (h0:0≤k) (hb:t.ks[k.toNat]?=some b):0≤(o:Int)*(t.ks.length:Int)+k∧((t.way m).bs.map (·.n))[((o:Int)*(t.ks.length:Int)+k).toNat]?=some b.n:=by
 have hk:=(Yac.mp hb).1
 have hz:(0:Int)≤(o:Int)*(t.ks.length:Int):=by rw [←YbT];omega
 refine⟨by omega,?_⟩
 rw [ZjV h0]
 show (((Yaq m t.ks).flatten).map (·.n))[_]?=_
 rw [Yam,ZjN ho hk,hb]
 rfl
theorem ZkI (ok:t.ok) (hm:h<m) (h4:m≤4):(t.prog m h).ok ((t.way m).bs.map (·.n)):=by
 have w1:=ok.w1
 have w2:=ok.w2
 have r1:=ok.r1
 have d1:=ok.d1
 have d2:=ok.d2
 obtain⟨wn,hwn⟩:∃wn:Nat,t.within=((wn+1:Nat):Int):=⟨(t.within-1).toNat,by omega⟩
 have hw':(t.within-1).toNat=wn:=by omega
 have hwl:wn<t.rows.length:=by omega
 obtain⟨rw',hrw⟩:∃r,t.rows[wn]?=some r:=⟨_,Yaf hwl⟩
 have cw:rw'.cm h m=1:=by
  rcases ok.row wn rw' hrw with hx|hx
  ·cases rw' with
   |wr k x=>rfl
   |lk s k ns p=>exact absurd hx (by simp [Tr.okW])
  ·have:=hx.2;omega
 have hn:=Zcn (h:=h) (m:=m) hrw
 rw [cw] at hn
 have htot:t.pre h m (wn+1)≤t.pre h m t.rows.length:=ZaP (by omega)
 have hlen:=Zen (t:=t) (h:=h) (m:=m)
 have hcost:t.pre h m t.rows.length≤16:=by
  have h1:t.pre h m t.rows.length≤(t.rows.map Tr.cost).sum:=by
   simp only [Tp.pre,Ybf]
   exact Zhk fun x _=>Zf6 hm h4
  exact YaC h1 ok.cost
 have hin:(t.prog m h).within=((t.pre h m wn:Nat):Int)+1:=by simp only [Tp.prog,Tp.preI,hw']
 refine⟨by omega,by omega,by omega,by omega,by simp only [Tp.prog,Tp.preI];omega,?_,fun j r hr=>?_⟩
 ·rw [hin]
  have:t.pre h m t.door.toNat≤t.pre h m wn:=ZaP (by omega)
  simp only [Tp.prog,Tp.preI]
  omega
 ·have hr':(t.rows.flatMap (Tr.out t.ks.length (t.preI h m) h m))[j]?=some r:=hr
  obtain⟨i,x,hx,hmem,hlo,hhi⟩:=Zh9 (c:=Tr.cm h m) (fun x=>ZfK) hr'
  rcases ok.row i x hx with ho|⟨ho,hi⟩
  ·cases x with
   |wr k y=>
    obtain⟨h0,b,hb,y0,y1⟩:=ho
    simp only [Tr.out,YaI] at hmem
    subst hmem
    obtain⟨q1,q2⟩:=Zkg (t:=t) (m:=m) hm h0 hb
    exact⟨q1,b.n,q2,y0,y1⟩
   |lk s k ns p=>exact absurd ho (by simp [Tr.okW])
  ·cases x with
   |wr k y=>exact absurd ho (by simp [Tr.okL])
   |lk s k ns p=>
    obtain⟨_,h0,⟨b,hb,hris⟩,p1,p2⟩:=ho
    simp only [Tr.out,YaR] at hmem
    obtain⟨o,hom,rfl⟩:=hmem
    have hol:o<m:=YaN.mp (YbB.mp hom).1
    obtain⟨q1,q2⟩:=Zkg (t:=t) (m:=m) hol h0 hb
    have hnx:=Zcn (h:=h) (m:=m) hx
    have hle:t.pre h m (i+1)≤t.pre h m wn:=ZaP (by omega)
    have hj:j<t.pre h m (i+1):=by
     rw [hnx]
     exact hhi
    have hp:t.pre h m (p-1).toNat≤t.pre h m wn:=ZaP (by omega)
    refine⟨q1,b.n,q2,hris,?_,?_⟩
    ·rw [loP,if_pos (by omega)];simp only [Tp.preI];omega
    ·rw [hiP,if_pos (by omega),hin];simp only [Tp.preI];omega
theorem Zma (ok:t.ok) (h1:1≤m) (h4:m≤4):(t.way m).ok:=by
 have k1:=ok.k1
 have k2:=ok.k2
 have hbl:(t.way m).bs.length=m*t.ks.length:=Zhx
 have hhl:(t.way m).hs.length=m:=by simp [Tp.way]
 have hmul:1≤m*t.ks.length∧m*t.ks.length≤8:=by
  have:t.ks.length=1∨t.ks.length=2:=by omega
  rcases this with e|e<;>rw [e]<;>omega
 refine⟨by rw [hbl];exact hmul.1,by rw [hbl];omega,by rw [hhl];exact h1,by rw [hhl];exact h4,fun b hb=>?_,fun p hp=>?_,fun i b _ _=>?_⟩
 ·obtain⟨l,hl,hb⟩:=List.mem_flatten.mp (show b∈(Yaq m t.ks).flatten from hb)
  rw [List.eq_of_mem_replicate hl] at hb
  exact ok.kb b hb
 ·obtain⟨h,hh,rfl⟩:=YaR.mp (show p∈(Yau m).map (t.prog m) from hp)
  exact ZkI ok (YaN.mp hh) h4
 ·refine filt1 (f:=t.prog m) (c:=i / t.ks.length) List.nodup_range fun h hh hw=>?_
  simp only [wrs,YbN] at hw
  obtain⟨r,hr,hr2⟩:=hw
  obtain⟨x,hx,hmem⟩:=List.mem_flatMap.mp (show r∈t.rows.flatMap _ from hr)
  obtain⟨j,hj,e⟩:=Ybx.mp hx
  have hro:=ok.row j x (by rw [Yaf hj,e])
  cases x with
  |wr k y=>
   simp only [Tr.out,YaI] at hmem
   subst hmem
   simp only [isWr,decide_eq_true_eq] at hr2
   rcases hro with ho|ho
   ·obtain⟨h0,b,hb,_⟩:=ho
    have hk:=(Yac.mp hb).1
    have e2:i=h*t.ks.length+k.toNat:=by
     have:=ZjV (o:=h) (n:=t.ks.length) h0
     omega
    rw [e2,Nat.mul_comm,Nat.mul_add_div (by omega),Nat.div_eq_of_lt hk]
    omega
   ·exact absurd ho.1 (by simp [Tr.okL])
  |lk s k ns p=>
   simp only [Tr.out,YaR] at hmem
   obtain⟨o,_,rfl⟩:=hmem
   simp [isWr] at hr2
end
end Lw
namespace Lw
open PySem L2 Py
noncomputable def NL (l:List Nat):List D:=l.map fun(i:Nat)=>D.int (i:Int)
theorem Zhv {n:Nat}:Zaj 0 1 n=NL (Yau n):=by
 unfold Zaj NL
 congr 1
 funext k
 simp
theorem hwl:¬(("write" :Str)="look"):=by decide
theorem Zds:∀m,m<5→∀h,h<m→lkd "lower" h m=Yau h:=by decide+kernel
theorem Zg1:∀m,m<5→∀h,h<m→lkd "higher" h m=(Yau (m- (h+1))).map (fun k=>h+1+k):=by decide+kernel
theorem Zg0:∀m,m<5→∀h,h<m→lkd "others" h m=(Yau m).filter (fun j=> !decide (j=h)):=by decide+kernel
section
variable {S:Sto} {k:Nat}
theorem Zf1 {s:Str} (h:isWh s):cl fns (k+1) 3 [.str s,.tup [.str "others",.str "lower",.str "higher"]] S=.ok (.bl true) S:=by
 rcases h with rfl|rfl|rfl<;>rfl
theorem Zfr {ks:List Bx} {w:Int} {r:Tr} (h:r.okL ks w):cl fns (k+4) 21 [r.d,.tup (ks.map Bx.d),.int w] S=.ok (.bl true) S:=by
 cases r with
 |wr a b=>exact absurd h (by simp [Tr.okL])
 |lk s kd ns p=>
  obtain⟨hs,h0,⟨b,hb,hr⟩,p1,p2⟩:=h
  have hlt:=(Yac.mp hb).1
  rw [ZaK (fn:=⟨3,8,ZaD⟩) rfl]
  have e1:=Zao (k:=k+2) (S:=S) (xs:=[.str "look",.str s,.int kd,.tup (ns.map .int),.int p]) (lo:=5) (hi:=5) (by simp) (by simp)
  have e2:=ZdB (k:=k+2) (S:=S)
  have e2':=Zf1 (k:=k+2) (S:=S) hs
  have e3:=Zak (k:=k+1) (S:=S) (i:=kd) (lo:=0) (hi:=(ks.length:Int) -1) h0 (by omega)
  have e4:=Zak (k:=k+1) (S:=S) (i:=p) (lo:=1) (hi:=w) p1 p2
  have e5:=Zct (k:=k) (S:=S) (ns:=ns) (n:=b.n) hr
  have ei:idxD (.tup (ks.map Bx.d)) (.int kd) S=.ok (.tup [.str b.k,.int b.n,.int b.s]) S:=Zc1 h0 (by rw [Yam,hb];rfl)
  simp [-Zaa,runF,ZaD,Tr.d,e1,e2,e2',e3,ei,e4,e5]
theorem Zd2 {ks:D} {w:Int} {a b:Int}:cl fns (k+4) 21 [(Tr.wr a b).d,ks,.int w] S=.ok (.bl false) S:=by
 rw [ZaK (fn:=⟨3,8,ZaD⟩) rfl]
 have e1:=ZcQ (k:=k+2) (S:=S) (xs:=[.str "write",.int a,.int b]) (lo:=5) (hi:=5)
 simp [-Zaa,runF,ZaD,Tr.d,e1]
theorem Zc5 {ks:List Bx} {r:Tr} (h:r.okW ks):cl fns (k+3) 14 [r.d,.tup (ks.map Bx.d)] S=.ok (.bl true) S:=by
 cases r with
 |wr a b=>
  obtain⟨h0,x,hx,y0,y1⟩:=h
  exact Zc4 (lo:=0) (hi:=0) ⟨h0,x.n,by rw [Yam,hx];rfl,y0,y1⟩
 |lk s kd ns p=>exact absurd h (by simp [Tr.okW])
theorem Zfs {t:Tp} (h:t.ok):cl fns (k+3) 12 [.tup [.int t.door,.int t.within,.tup (t.rows.map Tr.d)],.int 8] S=.ok (.bl true) S:=by
 rw [ZaK (fn:=⟨2,5,ZaW⟩) rfl]
 have r1:=h.r1
 have r2:=h.r2
 have e1:=Zao (k:=k+1) (S:=S) (xs:=[.int t.door,.int t.within,.tup (t.rows.map Tr.d)]) (lo:=3) (hi:=3) (by simp) (by simp)
 have e2:=Zao (k:=k+1) (S:=S) (xs:=t.rows.map Tr.d) (lo:=1) (hi:=8) (by rw [Yak];omega) (by rw [Yak];omega)
 have e3:=Zak (k:=k) (S:=S) (i:=t.within) (lo:=1) (hi:=t.rows.length) h.w1 h.w2
 have e4:=Zak (k:=k) (S:=S) (i:=t.door) (lo:=0) (hi:=t.within-1) h.d1 (by have:=h.d2;omega)
 simp [-Zaa,runF,ZaW,e1,e2,e3,e4]
theorem ZdN {t:Tp} {a b c d e:Option D} (h:t.ok):Wp (ev (cl fns (k+3)) ZbW [a,some (.tup (t.ks.map Bx.d)),b,c,d,e] S) fun d S'=>∃ys bs,d=.obj S.length∧S'[S.length]?=some (.lst ys)∧blsOf ys=some bs∧bs.all id=true∧Kp none S.length S S':=by
 have k2:=h.k2
 refine Zbv (J:=⟨t.ks.map Bx.d,none⟩) (S1:=S) (fun e=>∃y,e=[none,y]) (by simp) (fun _ _=>rfl) (by simp;omega) ⟨_,rfl⟩ (fun j x e S' hx hE=>?_)
 obtain⟨y,rfl⟩:=hE
 rw [Yam,Yao] at hx
 obtain⟨b,hb,rfl⟩:=hx
 have e4:=ZgF (k:=k) (S:=S') (h.kb b (Yay hb))
 exact⟨([none,some b.d],some (.bl true)),S',by simp [-Zaa,bodyC,e4],⟨_,rfl⟩,.inr rfl,Kp.rfl'⟩
theorem ZdO {t:Tp} {a b c:Option D} (h:t.ok):Wp (ev (cl fns (k+4)) ZbX [a,some (.tup (t.ks.map Bx.d)),b,c,some (.int t.within),some (.tup (t.rows.map Tr.d))] S) fun d S'=>∃ys bs,d=.obj S.length∧S'[S.length]?=some (.lst ys)∧blsOf ys=some bs∧bs.all id=true∧Kp none S.length S S':=by
 have r2:=h.r2
 have w1:=h.w1
 have w2:=h.w2
 have es:=slcT (S:=S) (f:=Tr.d) (l:=t.rows) (i:=t.within-1) (by omega) (by omega)
 refine Zbv (J:=⟨(t.rows.take (t.within-1).toNat).map Tr.d,none⟩) (S1:=S) (fun e=>∃y,e=[none,y,some (.tup (t.ks.map Bx.d)),some (.int t.within)]) (by simp [-slc_t,es,-List.map_take]) (fun _ _=>rfl) (by simp;omega) ⟨_,rfl⟩ (fun j x e S' hx hE=>?_)
 obtain⟨y,rfl⟩:=hE
 simp only [Yam,Yao] at hx
 obtain⟨r,hr,rfl⟩:=hx
 have hjr:t.rows[j]?=some r:=by
  have hlt:=(Yac.mp hr).1
  rw [Ybe] at hlt
  rw [List.getElem?_take_of_lt (by omega)] at hr
  exact hr
 refine⟨([none,some r.d,some (.tup (t.ks.map Bx.d)),some (.int t.within)],some (.bl true)),S',?_,⟨_,rfl⟩,.inr rfl,Kp.rfl'⟩
 rcases h.row j r hjr with ho|ho
 ·have e2:=Zc5 (k:=k+1) (S:=S') ho
  cases r with
  |wr a b=>
   have e1:=Zd2 (k:=k) (S:=S') (ks:=.tup (t.ks.map Bx.d)) (w:=t.within) (a:=a) (b:=b)
   simp [-Zaa,bodyC,e1,e2]
  |lk s kd ns p=>exact absurd ho (by simp [Tr.okW])
 ·have e1:=Zfr (k:=k) (S:=S') ho.1
  simp [-Zaa,bodyC,e1]
theorem ZdP {t:Tp} {a b c:Option D} (h:t.ok):Wp (ev (cl fns (k+3)) ZbY [a,some (.tup (t.ks.map Bx.d)),b,c,some (.int t.within),some (.tup (t.rows.map Tr.d))] S) fun d S'=>∃ys bs,d=.obj S.length∧S'[S.length]?=some (.lst ys)∧blsOf ys=some bs∧bs.all id=true∧Kp none S.length S S':=by
 have r2:=h.r2
 have w1:=h.w1
 have w2:=h.w2
 have es:=slcF (S:=S) (f:=Tr.d) (l:=t.rows) (i:=t.within-1) (by omega) (by omega)
 refine Zbv (J:=⟨(t.rows.drop (t.within-1).toNat).map Tr.d,none⟩) (S1:=S) (fun e=>∃y,e=[none,y,some (.tup (t.ks.map Bx.d))]) (by simp [-slc_t,es,-List.map_drop]) (fun _ _=>rfl) (by simp;omega) ⟨_,rfl⟩ (fun j x e S' hx hE=>?_)
 obtain⟨y,rfl⟩:=hE
 simp only [Yam,Yao] at hx
 obtain⟨r,hr,rfl⟩:=hx
 rw [List.getElem?_drop] at hr
 have ho:r.okW t.ks:=by
  rcases h.row _ r hr with ho|ho
  ·exact ho
  ·have:=ho.2;omega
 have e2:=Zc5 (k:=k) (S:=S') ho
 exact⟨([none,some r.d,some (.tup (t.ks.map Bx.d))],some (.bl true)),S',by simp [-Zaa,bodyC,e2],⟨_,rfl⟩,.inr rfl,Kp.rfl'⟩
theorem ZdQ {t:Tp} {a b c d e:Option D} (h:t.ok) {C:Nat→List D→Sto→Res D}:Wp (ev C ZbZ [a,b,c,d,e,some (.tup (t.rows.map Tr.d))] S) fun d S'=>d=.obj S.length∧S'[S.length]?=some (.lst (t.rows.map fun r=>.int (r.cost:Nat)))∧Kp none S.length S S':=by
 have r2:=h.r2
 refine ZbK (p:=none) (l:=t.rows) (f:=Tr.d) (g:=fun r=>.int (r.cost:Nat)) (src:=none) (S1:=S) (fun e=>∃a,e=[none,a]) (by simp) (fun _ _=>rfl) (by omega) (fun q e=>by cases e) ⟨_,rfl⟩ (fun r e S' hr hE _ hk=>?_)
 obtain⟨x,rfl⟩:=hE
 refine⟨([none,some r.d],some (.int (r.cost:Nat))),S',?_,⟨_,rfl⟩,rfl,Kp.rfl'⟩
 cases r with
 |wr a b=>simp [-Zaa,bodyC,Tr.d,Tr.cost]
 |lk s kd ns p=>simp [-Zaa,bodyC,Tr.d,Tr.cost,hlw]
theorem ZeQ {t:Tp} (h:t.ok):Wp (cl fns (k+5) 18 [t.d] S) fun d S'=>d=.bl true∧Kp none S.length S S':=by
 have k1:=h.k1
 have k2:=h.k2
 refine wp_cl (fn:=⟨1,6,ZaU⟩) rfl rfl ?_
 have e1:=Zao (k:=k+3) (S:=S) (xs:=[.tup (t.ks.map Bx.d),.tup [.int t.door,.int t.within,.tup (t.rows.map Tr.d)]]) (lo:=2) (hi:=2) (by simp) (by simp)
 have e2:=Zao (k:=k+3) (S:=S) (xs:=t.ks.map Bx.d) (lo:=1) (hi:=2) (by rw [Yak];omega) (by rw [Yak];omega)
 simp [ZaU,Tp.d,e1,e2]
 refine Zae (ZdN (k:=k+1) h) ?_
 rintro d S1 ⟨ys,bs,hd,hc,q1,q2,k1⟩
 subst hd
 have e3:=Zfs (k:=k+1) (S:=S1) h
 simp [Zad hc,q1,q2,e3]
 refine Zae (ZdO (k:=k) h) ?_
 rintro d S2 ⟨ys,bs,hd,hc,q1,q2,k2⟩
 subst hd
 simp [Zad hc,q1,q2]
 refine Zae (ZdP (k:=k+1) h) ?_
 rintro d S3 ⟨ys,bs,hd,hc,q1,q2,k3⟩
 subst hd
 simp [Zad hc,q1,q2]
 refine Zae (ZdQ h) ?_
 rintro d S4 ⟨hd,hc,k4⟩
 subst hd
 have es:Zbc (t.rows.map fun r=>D.int ((r.cost:Nat):Int))=some (t.rows.map fun r=>((r.cost:Nat):Int)):=ZgB
 have hs:(t.rows.map fun r=>((r.cost:Nat):Int)).sum=((t.rows.map Tr.cost).sum:Nat):=Zge
 have hco:=h.cost
 simp [Zad hc,es,hs]
 exact⟨by omega,((k1.nx k2).nx k3).nx k4⟩
theorem Zdd {t:Tp} (h:t.ok):Wp (cl fns (k+6) 20 [t.d] S) fun d S'=>d=.non∧Kp none S.length S S':=by
 refine wp_cl (fn:=⟨1,1,ZaA⟩) rfl rfl ?_
 simp [ZaA]
 refine Zae (ZeQ (k:=k) h) ?_
 rintro d S1 ⟨hd,k1⟩
 subst hd
 simp
 exact k1
theorem lrng1 {n:Nat} (hn:n≤1000):lrngD [.int (n:Int)] S=.ok (.obj S.length) (S++[.lst (NL (Yau n))]):=by
 simp only [lrngD]
 rw [if_pos ⟨lg_of (by decide) (by omega),by omega⟩,←Zhv]
 simp
theorem lrng2 {a b:Nat} (ha:a≤1000) (hb:b≤1000):lrngD [.int (a:Int),.int (b:Int)] S=.ok (.obj S.length) (S++[.lst (NL ((Yau (b-a)).map (fun k=>a+k)))]):=by
 simp only [lrngD]
 rw [if_pos ⟨lg_of (by decide) (by omega),lg_of (by decide) (by omega),by omega⟩]
 have:Zaj (a:Int) 1 ((b:Int) - (a:Int)).toNat=NL ((Yau (b-a)).map (fun k=>a+k)):=by
  rw [show ((b:Int) - (a:Int)).toNat=b-a by omega]
  simp only [Zaj,NL,YbG]
  congr 1
  funext k
  simp
 rw [this]
theorem ZeU {h m:Nat} {a:Option D} (hm:m≤4) {C:Nat→List D→Sto→Res D}:Wp (ev C ZcB [a,some (.int (h:Int)),some (.int (m:Int))] S) fun d S'=>d=.obj S.length∧S'[S.length]?=some (.lst (NL ((Yau m).filter (fun j=> !decide (j=h)))))∧Kp none S.length S S':=by
 refine ZbC (p:=none) (l:=Yau m) (f:=fun(i:Nat)=>D.int (i:Int)) (g:=fun(i:Nat)=>D.int (i:Int)) (t:=fun j=> !decide (j=h)) (src:=none) (S1:=S) (fun e=>∃a,e=[none,a,some (.int (h:Int))]) (by simp [Zdo (show m≤100000 by omega),Zhv,NL]) (fun _ _=>rfl) (by simp;omega) (fun q e=>by cases e) ⟨_,rfl⟩ (fun j e S' hj hE _ hk=>?_)
 obtain⟨x,rfl⟩:=hE
 by_cases c:j=h
 ·subst c
  exact⟨([none,some (.int (j:Int)),some (.int (j:Int))],none),S',by simp [-Zaa,bodyC],⟨_,rfl⟩,by simp,Kp.rfl'⟩
 ·have c':¬((j:Int)=(h:Int)):=by omega
  exact⟨([none,some (.int (j:Int)),some (.int (h:Int))],some (.int (j:Int))),S',by simp [-Zaa,bodyC,c'],⟨_,rfl⟩,by simp [c],Kp.rfl'⟩
theorem ZfY {s:Str} {h m:Nat} (hs:isWh s) (hh:h<m) (hm:m≤4):Wp (cl fns (k+1) 24 [.str s,.int (h:Int),.int (m:Int)] S) fun d S'=>d=.obj S.length∧S'[S.length]?=some (.lst (NL (lkd s h m)))∧Kp none S.length S S':=by
 have kk:∀c,Kp none S.length S (S++[c]):=fun c=>Kp.snoc (by intro q e;cases e)
 refine wp_cl (fn:=⟨3,3,ZaL⟩) rfl rfl ?_
 have n1:¬(("higher" :Str)="lower"):=by decide
 have n2:¬(("others" :Str)="lower"):=by decide
 have n3:¬(("others" :Str)="higher"):=by decide
 rcases hs with rfl|rfl|rfl
 ·simp [ZaL,n2,n3]
  refine Zae (ZeU hm) ?_
  rintro d S1 ⟨hd,hc,k1⟩
  subst hd
  rw [←Zg0 m (by omega) h hh] at hc
  simp
  exact⟨hc,k1⟩
 ·simp [ZaL,lrng1 (show h≤1000 by omega)]
  rw [Zds m (by omega) h hh]
  exact⟨rfl,kk _⟩
 ·have e2:=lrng2 (S:=S) (a:=h+1) (b:=m) (by omega) (by omega)
  rw [←Zg1 m (by omega) h hh] at e2
  have e3:((h+1:Nat):Int)=(h:Int)+1:=by omega
  rw [e3] at e2
  simp [ZaL,n1,e2]
  exact kk _
end
end Lw
namespace Lw
open PySem L2 Py
noncomputable def Tr.raw (n h m:Nat):Tr→List Rw
 | .wr k x=>[.wr ((h:Int)*n+k) x]
 | .lk s k ns p=>(lkd s h m).map fun(j:Nat)=>.lk ((j:Int)*n+k) ns p
noncomputable def fixR (pre:Int→Int):Rw→Rw
 | .wr b x=>.wr b x
 | .lk b ns p=>.lk b ns (pre (p-1)+1)
theorem ZkX {n:Nat} {pre:Int→Int} {h m:Nat} {r:Tr}:r.out n pre h m=(r.raw n h m).map (fixR pre):=by
 cases r with
 |wr k x=>rfl
 |lk s k ns p=>simp [Tr.out,Tr.raw,fixR]
theorem Zhz {n h m:Nat} {r:Tr}:(r.raw n h m).length=r.cm h m:=by
 cases r with
 |wr k x=>rfl
 |lk s k ns p=>simp [Tr.raw,Tr.cm]
theorem Zlj {s:Str} {h m j:Nat} (hj:j∈lkd s h m):j<m:=YaN.mp (YbB.mp hj).1
theorem Tp.ok.rowok {t:Tp} (h:t.ok) {r:Tr} (hr:r∈t.rows):r.okW t.ks∨r.okL t.ks t.within:=by
 obtain⟨j,hj,e⟩:=Ybx.mp hr
 exact(h.row j r (by rw [Yaf hj,e])).imp id And.left
section
variable {S:Sto} {k:Nat}
theorem slc51 {a b c d e:D}:slcD (.tup [a,b,c,d,e]) (some 1) none S=.ok (.tup [b,c,d,e]) S:=rfl
theorem Zf8 {s:Str} {kd p:Int} {ns:List Int} {n h m:Nat} {r0:Option D} (hs:isWh s) (hh:h<m) (hm:m≤4) (hn:n≤100):Wp (ev (cl fns (k+1)) ZdS [r0,some (.int (n:Int)),some (.int (h:Int)),some (.int (m:Int)),some (.str s),some (.int kd),some (.tup (ns.map .int)),some (.int p)] S) fun d S'=>(∃a,d=.obj a∧S'[a]?=some (.lst (((Tr.lk s kd ns p).raw n h m).map Rw.d))∧S.length≤a)∧Kp none S.length S S':=by
 obtain⟨d1,S1,e1,rfl,hc1,k1⟩:=ZfY (k:=k) (S:=S) hs hh hm
 refine Zbz (ZbK (p:=none) (l:=lkd s h m) (f:=fun(i:Nat)=>D.int (i:Int)) (g:=fun(j:Nat)=>(Rw.lk ((j:Int)*n+kd) ns p).d) (src:=some S.length) (S1:=S1) (fun e=>∃a,e=[none,a,some (.int kd),some (.tup (ns.map .int)),some (.int p),some (.int (n:Int))]) (by simp [e1,Zad hc1,NL]) (fun S' hk=>Zbr (Zad (hk.get0 hc1 (Zac hc1)))) (by have:=ZjW (s:=s) hh;omega) (fun q e=>by cases e) ⟨_,rfl⟩ (fun j e S' hj hE _ hk=>?_)) fun d S' ⟨a1,a2,a3⟩=>⟨⟨_,a1,?_,k1.len⟩,k1.nx a3⟩
 ·obtain⟨x,rfl⟩:=hE
  have hjm:=Zlj hj
  have em:=fun S=>mulS (S:=S) (a:=(j:Int)) (b:=(n:Int)) (by omega)
  exact⟨([none,some (.int (j:Int)),some (.int kd),some (.tup (ns.map .int)),some (.int p),some (.int (n:Int))],some (Rw.lk ((j:Int)*n+kd) ns p).d),S',by simp [-Zaa,bodyC,em,Rw.d],⟨_,rfl⟩,rfl,Kp.rfl'⟩
 ·rw [Tr.raw,YbG];exact a2
theorem Zib {ks:List Bx} {w:Int} {r:Tr} {n h m:Nat} (hr:r.okW ks∨r.okL ks w) (hh:h<m) (hm:m≤4) (hn:n≤100):Wp (cl fns (k+2) 23 [r.d,.int (n:Int),.int (h:Int),.int (m:Int)] S) fun d S'=>(∃a,d=.obj a∧S'[a]?=some (.lst ((r.raw n h m).map Rw.d))∧S.length≤a)∧Kp none S.length S S':=by
 refine wp_cl (fn:=⟨4,8,Zbw⟩) rfl rfl ?_
 have em:=fun S=>mulS (S:=S) (a:=(h:Int)) (b:=(n:Int)) (by omega)
 cases r with
 |wr kd x=>
  simp [Zbw,Tr.d,em,Tr.raw,Rw.d]
  exact Kp.snoc (by intro q e;cases e)
 |lk s kd ns p=>
  have hs:isWh s:=by
   rcases hr with z|z
   ·exact absurd z (by simp [Tr.okW])
   ·exact z.1
  simp [Zbw,Tr.d,hlw,-slc_t,slc51]
  refine Zae (Zf8 (k:=k) hs hh hm hn) ?_
  rintro d S1 ⟨⟨a,hd,hc,hl⟩,k1⟩
  subst hd
  simp
  exact⟨⟨hc,hl⟩,k1⟩
noncomputable def Grp (t:Tp) (h m lo:Nat) (ys:List D) (S:Sto):Prop:=∀(j:Nat) (d:D),ys[j]?=some d→∃a r,d=.obj a∧t.rows[j]?=some r∧lo≤a∧S[a]?=some (.lst ((r.raw t.ks.length h m).map Rw.d))
theorem ZdJ {t:Tp} {h m:Nat} {a b c d e f g i j:Option D} (ok:t.ok) (hh:h<m) (hm:m≤4):Wp (ev (cl fns (k+2)) ZbR [a,some (.int (h:Int)),some (.int (m:Int)),some (.tup (t.ks.map Bx.d)),b,c,d,some (.tup (t.rows.map Tr.d)),e,f,g,i,j] S) fun d S'=>∃ys,d=.obj S.length∧S'[S.length]?=some (.lst ys)∧ys.length=t.rows.length∧Grp t h m (S.length+1) ys S'∧Kp none S.length S S':=by
 have r2:=ok.r2
 have k2:=ok.k2
 refine Zau (Zcb (J:=⟨t.rows.map Tr.d,none⟩) (S1:=S) (by simp) (fun i ys e S'=>ys.length=i∧i≤t.rows.length∧Grp t h m (S.length+1) ys S'∧(∃y,e=[none,y,some (.int (h:Int)),some (.tup (t.ks.map Bx.d)),some (.int (m:Int))])∧S'[S.length]?=some (.lst ys)∧Kp none S.length S S')
  ⟨rfl,YaU _,by intro j d hd;simp at hd,⟨_,rfl⟩,Zal,Kp.snoc (by intro q e;cases e)⟩ (fun j ys e S' hP=>⟨rfl,by omega⟩) (fun j x ys e S' hx hP=>?_) (fun ys e' S' hP=>?_))
 ·obtain⟨hy,hi,hg,⟨y,rfl⟩,hc,hk⟩:=hP
  simp only [Yam,Yao] at hx
  obtain⟨r,hr,rfl⟩:=hx
  have hlt:=(Yac.mp hr).1
  obtain⟨d1,S1,e1,⟨a1,rfl,hc1,hl1⟩,k1⟩:=Zib (k:=k) (S:=S') (n:=t.ks.length) (ok.rowok (Yay hr)) hh hm (by omega)
  have hcl:=Zac hc
  have hc':=k1.get0 hc hcl
  refine⟨([none,some r.d,some (.int (h:Int)),some (.tup (t.ks.map Bx.d)),some (.int (m:Int))],some (.obj a1)),S1,by simp [-Zaa,bodyC,e1],.inl ⟨_,rfl,hc',by simp [hy],hlt,?_,⟨_,rfl⟩,ZaO hc',Zb3 (hk.nx k1) (Yad _)⟩⟩
  intro j' d' hd'
  by_cases hj:j'<ys.length
  ·rw [Yar hj] at hd'
   obtain⟨a,r',q1,q2,q3,q4⟩:=hg j' d' hd'
   exact⟨a,r',q1,q2,q3,by rw [Yap (by omega)];exact k1.get0 q4 (Zac q4)⟩
  ·have hjl:=(Yac.mp hd').1
   simp at hjl
   have ej:j'=ys.length:=by omega
   subst ej
   rw [Yav (Yad _)] at hd'
   simp at hd'
   subst hd'
   exact⟨a1,r,rfl,by rw [hy];exact hr,by omega,by rw [Yap (by omega)];exact hc1⟩
 ·obtain⟨hy,hi,hg,⟨y,rfl⟩,hc,hk⟩:=hP
  simp only [Yak] at hy
  exact wp_ok.mpr ⟨ys,rfl,hc,hy,hg,hk⟩
noncomputable def preL (t:Tp) (h m i:Nat):List D:=(Yau (i+1)).map fun(j:Nat)=>D.int ((t.pre h m j:Nat):Int)
theorem ZfH {t:Tp} {h m i j:Nat} (hj:j≤i):(preL t h m i)[j]?=some (.int ((t.pre h m j:Nat):Int)):=by
 rw [preL,Yam,List.getElem?_range (by omega)];rfl
theorem ZiW {t:Tp} {h m i:Nat}:(preL t h m i).length=i+1:=by simp [preL]
theorem ZnT {n:Nat} {xs:List D} {d:D} (hl:lsOf S n=some (xs++[d])):idxD (.obj n) (.int (-1)) S=.ok d S:=by
 rw [idx_o,hl]
 have:L2.ixN (xs++[d]).length (-1)=some xs.length:=by
  unfold L2.ixN
  rw [if_neg (by decide),if_pos (by simp;omega)]
  simp
  omega
 simp only [this,YaP]
 rw [Yav (Yad _)]
 simp
theorem Ze3 {t:Tp} {h m i:Nat}:preL t h m i=((Yau i).map fun(j:Nat)=>D.int ((t.pre h m j:Nat):Int))++[.int ((t.pre h m i:Nat):Int)]:=by
 rw [preL,YbU,Ya4];rfl
theorem ZdK {t:Tp} {h m A B lo:Nat} {ys:List D} {y0 y1 y2 y3 y4 y5 y6 y7 y8 y11 y12:Option D} (r2:t.rows.length≤8) (hA:S[A]?=some (.lst [.int 0])) (hB:S[B]?=some (.lst ys)) (hAB:A≠B) (hyl:ys.length=t.rows.length) (hg:Grp t h m lo ys S) (hlo:∀(j:Nat) (d:D) (a:Nat),ys[j]?=some d→d=.obj a→a≠A) {C:Nat→List D→Sto→Res D}:
  Wp (evS C ZbS [y0,y1,y2,y3,y4,y5,y6,y7,y8,some (.obj B),some (.obj A),y11,y12] S) fun r S'=>(∃y11,r=.nx [y0,y1,y2,y3,y4,y5,y6,y7,y8,some (.obj B),some (.obj A),y11,y12])∧S'=S.set A (.lst (preL t h m t.rows.length)):=by
 have hAl:=Zac hA
 refine Zau (ZaN (J:=⟨ys,some B⟩) (S1:=S) (by simp [Zad hB]) (fun i e S'=>i≤t.rows.length∧(∃y11,e=[y0,y1,y2,y3,y4,y5,y6,y7,y8,some (.obj B),some (.obj A),y11,y12])∧S'=S.set A (.lst (preL t h m i)))
  ⟨YaU _,⟨_,rfl⟩,?_⟩ (fun j e S' _ hP=>?_) (fun j x e S' hx hP=>?_) (fun e' S' hP=>?_))
 ·have:preL t h m 0=[.int 0]:=by simp [preL,Tp.pre]
  rw [this]
  exact(Ybt fun j=>by
   by_cases c:A=j
   ·subst c;rw [YaA hAl,hA]
   ·rw [Yap c])
 ·obtain⟨_,_,rfl⟩:=hP
  exact Zbr (Zad (by rw [Yap hAB];exact hB))
 ·obtain⟨hi,⟨z,rfl⟩,rfl⟩:=hP
  obtain⟨a,r,rfl,hr,_,hca⟩:=hg j x hx
  have hjl:j<t.rows.length:=(Yac.mp hr).1
  have hne:=hlo j _ a hx rfl
  have hA':(S.set A (.lst (preL t h m j)))[A]?=some (.lst (preL t h m j)):=YaA hAl
  have e1:idxD (.obj A) (.int (-1)) (S.set A (.lst (preL t h m j)))=.ok (.int ((t.pre h m j:Nat):Int)) (S.set A (.lst (preL t h m j))):=ZnT (by rw [←Ze3];exact Zad hA')
  have hca':lsOf (S.set A (.lst (preL t h m j))) a=some ((r.raw t.ks.length h m).map Rw.d):=Zad (by rw [Yap (Ne.symm hne)];exact hca)
  have e2:∀d,appD (.obj A) d (S.set A (.lst (preL t h m j)))=.ok .non ((S.set A (.lst (preL t h m j))).set A (.lst (preL t h m j++[d]))):=fun d=>app_l hA' (by rw [ZiW];omega)
  simp [e1,hca',e2,Zhz]
  refine⟨hjl,?_⟩
  rw [Ze3 (i:=j+1),Zcn hr,←preL]
  simp
 ·obtain⟨_,⟨z,rfl⟩,rfl⟩:=hP
  exact wp_ok.mpr ⟨⟨_,rfl⟩,by rw [hyl]⟩
theorem idx_3 {a b c d:D} {r:List D}:idxD (.tup (a::b::c::d::r)) (.int 3) S=.ok d S:=Zc1 (by decide) rfl
theorem slc43 {a b c d:D}:slcD (.tup [a,b,c,d]) none (some 3) S=.ok (.tup [a,b,c]) S:=rfl
noncomputable def xAh:PX:=(.ife (.op .eq (.idx (.var 8) (.cst (.int 0))) (.cst (.str "write"))) (.var 8) (.op .add (.slc (.var 8) .noe (.bnd (.cst (.int 3)))) (.tup (.cons (.op .add (.idx (.var 10) (.op .sub (.idx (.var 8) (.cst (.int 3))) (.cst (.int 1)))) (.cst (.int 1))) .nil))))
theorem x_ah {C:Nat→List D→Sto→Res D} {e:Nv} {t:Tp} {h m A:Nat} {r:Rw} (h8:e[8]?=some (some r.d)) (h10:e[10]?=some (some (.obj A))) (hA:S[A]?=some (.lst (preL t h m t.rows.length))) (hp:∀b ns p,r=.lk b ns p→1≤p∧p≤t.rows.length):ev C xAh e S=.ok (fixR (t.preI h m) r).d S:=by
 cases r with
 |wr b x=>simp [-Zaa,xAh,h8,Rw.d,fixR]
 |lk b ns p=>
  obtain⟨p1,p2⟩:=hp b ns p rfl
  obtain⟨q,rfl⟩:∃q:Nat,p=(q:Int)+1:=⟨(p-1).toNat,by omega⟩
  have e1:idxD (.obj A) (.int (q:Int)) S=.ok (.int ((t.pre h m q:Nat):Int)) S:=ZaR (Zad hA) (by omega) (ZfH (by omega))
  simp [-Zaa,xAh,h8,h10,Rw.d,fixR,hlw,-slc_t,slc43,idx_3,e1,Tp.preI]
noncomputable def Zdg:PX:=(.loop (.tnm 8) (.iseq (.var 11)) (.seq (.exp (.app (.var 12) xAh))
 .skip))
theorem ZdM {t:Tp} {h m A T a:Nat} {xs:List D} {rs:List Rw} {y0 y1 y2 y3 y4 y5 y6 y7 y8 y9:Option D} (hT:S[T]?=some (.lst xs)) (hA:S[A]?=some (.lst (preL t h m t.rows.length))) (hAT:A≠T) (ha:S[a]?=some (.lst (rs.map Rw.d))) (haT:a≠T) (hl:xs.length+rs.length≤1000) (hp:∀r∈rs,∀b ns p,r=.lk b ns p→1≤p∧p≤t.rows.length) {C:Nat→List D→Sto→Res D}:
  Wp (evS C ZbU [y0,y1,y2,y3,y4,y5,y6,y7,y8,y9,some (.obj A),some (.obj a),some (.obj T)] S) fun r S'=>(∃y8,r=.nx [y0,y1,y2,y3,y4,y5,y6,y7,y8,y9,some (.obj A),some (.obj a),some (.obj T)])∧S'=S.set T (.lst (xs++(rs.map (fixR (t.preI h m))).map Rw.d)):=by
 have hTl:=Zac hT
 show Wp (evS C Zdg _ S) _
 refine Zau (ZaN (J:=⟨rs.map Rw.d,some a⟩) (S1:=S) (by simp [Zad ha]) (fun i e S'=>i≤rs.length∧(∃y8,e=[y0,y1,y2,y3,y4,y5,y6,y7,y8,y9,some (.obj A),some (.obj a),some (.obj T)])∧S'=S.set T (.lst (xs++((rs.take i).map (fixR (t.preI h m))).map Rw.d)))
  ⟨YaU _,⟨_,rfl⟩,?_⟩ (fun j e S' _ hP=>?_) (fun j x e S' hx hP=>?_) (fun e' S' hP=>?_))
 ·simp only [List.take_zero,List.map_nil,Ybo]
  exact(Ybt fun j=>by
   by_cases c:T=j
   ·subst c;rw [YaA hTl,hT]
   ·rw [Yap c])
 ·obtain⟨_,_,rfl⟩:=hP
  exact Zbr (Zad (by rw [Yap (Ne.symm haT)];exact ha))
 ·obtain⟨hi,⟨z,rfl⟩,rfl⟩:=hP
  simp only [Yam,Yao] at hx
  obtain⟨r,hr,rfl⟩:=hx
  have hjl:=(Yac.mp hr).1
  have hT':(S.set T (.lst (xs++((rs.take j).map (fixR (t.preI h m))).map Rw.d)))[T]?=some (.lst (xs++((rs.take j).map (fixR (t.preI h m))).map Rw.d)):=YaA hTl
  have ex:=fun(y8:Option D)=>x_ah (C:=C) (S:=S.set T (.lst (xs++((rs.take j).map (fixR (t.preI h m))).map Rw.d))) (e:=[y0,y1,y2,y3,y4,y5,y6,y7,some r.d,y9,some (.obj A),some (.obj a),some (.obj T)]) (t:=t) (h:=h) (m:=m) (A:=A) (r:=r) rfl rfl (by rw [Yap (Ne.symm hAT)];exact hA) (hp r (Yay hr))
  have e2:=fun d=>app_l (d:=d) hT' (by simp;omega)
  simp only [ZgG,Res.bind_ok,YbH,YbI,ZeS,ZlO,ZnY,ZdD,YaW,Ybb,ex none,e2,ZeR,wp_ok]
  refine⟨_,.inl rfl,hjl,⟨_,rfl⟩,?_⟩
  rw [List.set_set,ZaM hr]
  simp
 ·obtain⟨_,⟨z,rfl⟩,rfl⟩:=hP
  exact wp_ok.mpr ⟨⟨_,rfl⟩,by simp only [Yak,Ybf]⟩
end
end Lw
namespace Lw
open PySem L2 Py
theorem Zhy {t:Tp} (ok:t.ok) {x:Tr} (hx:x∈t.rows) {n h m:Nat}:∀r∈x.raw n h m,∀b ns p,r=.lk b ns p→1≤p∧p≤t.rows.length:=by
 intro r hr b ns p e
 have w2:=ok.w2
 cases x with
 |wr kd y=>simp only [Tr.raw,YaI] at hr;subst hr;cases e
 |lk s kd ns' p'=>
  simp only [Tr.raw,YaR] at hr
  obtain⟨j,_,rfl⟩:=hr
  cases e
  rcases ok.rowok hx with z|z
  ·exact absurd z (by simp [Tr.okW])
  ·exact⟨z.2.2.2.1,Int.le_trans z.2.2.2.2 w2⟩
theorem cm_le {t:Tp} {h m i:Nat} (ok:t.ok) (hh:h<m) (hm:m≤4):t.pre h m i≤16:=by
 have h0:t.pre h m i≤t.pre h m (max i t.rows.length):=ZaP (by omega)
 have e:t.pre h m (max i t.rows.length)=(t.rows.map (Tr.cm h m)).sum:=by rw [Tp.pre,Ybg (by omega)]
 have h1:(t.rows.map (Tr.cm h m)).sum≤(t.rows.map Tr.cost).sum:=Zhk fun x _=>Zf6 hh hm
 have:=ok.cost
 omega
section
variable {S:Sto} {k:Nat}
noncomputable def outL (t:Tp) (h m i:Nat):List Rw:=(t.rows.take i).flatMap (Tr.out t.ks.length (t.preI h m) h m)
theorem Zi9 {t:Tp} {h m i:Nat}:(outL t h m i).length=t.pre h m i:=ZeN fun x=>ZfK
theorem ZhL {t:Tp} {h m i:Nat} {r:Tr} (hr:t.rows[i]?=some r):outL t h m (i+1)=outL t h m i++r.out t.ks.length (t.preI h m) h m:=by
 rw [outL,ZaM hr,List.flatMap_append]
 simp [outL]
theorem ZdL {t:Tp} {h m A B T lo:Nat} {ys:List D} {y0 y1 y2 y3 y4 y5 y6 y7 y8 y11:Option D} (ok:t.ok) (hh:h<m) (hm:m≤4) (hT:S[T]?=some (.lst [])) (hA:S[A]?=some (.lst (preL t h m t.rows.length))) (hB:S[B]?=some (.lst ys)) (hAT:A≠T) (hBT:B≠T) (hyl:ys.length=t.rows.length) (hg:Grp t h m lo ys S) (hlo:∀(j:Nat) (d:D) (a:Nat),ys[j]?=some d→d=.obj a→a≠T) {C:Nat→List D→Sto→Res D}:
  Wp (evS C ZbT [y0,y1,y2,y3,y4,y5,y6,y7,y8,some (.obj B),some (.obj A),y11,some (.obj T)] S) fun r S'=>(∃y8 y11,r=.nx [y0,y1,y2,y3,y4,y5,y6,y7,y8,some (.obj B),some (.obj A),y11,some (.obj T)])∧S'=S.set T (.lst ((outL t h m t.rows.length).map Rw.d)):=by
 have hTl:=Zac hT
 refine Zau (ZaN (J:=⟨ys,some B⟩) (S1:=S) (by simp [Zad hB]) (fun i e S'=>i≤t.rows.length∧(∃y8 y11,e=[y0,y1,y2,y3,y4,y5,y6,y7,y8,some (.obj B),some (.obj A),y11,some (.obj T)])∧S'=S.set T (.lst ((outL t h m i).map Rw.d)))
  ⟨YaU _,⟨_,_,rfl⟩,?_⟩ (fun j e S' _ hP=>?_) (fun j x e S' hx hP=>?_) (fun e' S' hP=>?_))
 ·have:outL t h m 0=[]:=rfl
  rw [this]
  exact(Ybt fun j=>by
   by_cases c:T=j
   ·subst c;rw [YaA hTl,hT];rfl
   ·rw [Yap c])
 ·obtain⟨_,_,rfl⟩:=hP
  exact Zbr (Zad (by rw [Yap (Ne.symm hBT)];exact hB))
 ·obtain⟨hi,⟨z8,z11,rfl⟩,rfl⟩:=hP
  obtain⟨a,r,rfl,hr,_,hca⟩:=hg j x hx
  have hjl:j<t.rows.length:=(Yac.mp hr).1
  have hne:=hlo j _ a hx rfl
  have hc:=cm_le (i:=j) ok hh hm
  have hc2:=Zf6 (r:=r) hh hm
  have hc3:r.cost≤3:=by cases r<;>simp [Tr.cost]
  simp
  refine Zae (ZdM (S:=S.set T (.lst ((outL t h m j).map Rw.d))) (t:=t) (h:=h) (m:=m) (A:=A) (T:=T) (a:=a) (xs:=(outL t h m j).map Rw.d) (rs:=r.raw t.ks.length h m) (YaA hTl) (by rw [Yap (Ne.symm hAT)];exact hA) hAT (by rw [Yap (Ne.symm hne)];exact hca) hne (by rw [Yak,Zi9,Zhz];omega) (Zhy ok (Yay hr))) fun r' S1 ⟨⟨y8,hr'⟩,hS1⟩=>?_
  subst hr'
  subst hS1
  simp
  refine⟨hjl,?_⟩
  rw [ZhL hr,ZkX]
  simp
 ·obtain⟨_,⟨z8,z11,rfl⟩,rfl⟩:=hP
  exact wp_ok.mpr ⟨⟨_,_,rfl⟩,by rw [hyl]⟩
theorem ZeO {t:Tp} {h m:Nat} (ok:t.ok) (hh:h<m) (hm:m≤4):Wp (cl fns (k+3) 22 [t.d,.int (h:Int),.int (m:Int)] S) fun d S'=>d=(t.prog m h).d∧Kp none S.length S S':=by
 have r2:=ok.r2
 have w1:=ok.w1
 have w2:=ok.w2
 have d1:=ok.d1
 have d2:=ok.d2
 refine wp_cl (fn:=⟨3,13,ZaS⟩) rfl rfl ?_
 simp [ZaS,Tp.d]
 refine Zae (ZdJ (k:=k) ok hh hm) ?_
 rintro d S1 ⟨ys,hd,hB,hyl,hg,k1⟩
 subst hd
 have hSl:=Zac hB
 have hgr:∀(j:Nat) (d:D) (a:Nat),ys[j]?=some d→d=.obj a→a<S1.length:=fun j d a e1 e2=>by
  obtain⟨a',r,q1,_,_,q4⟩:=hg j d e1
  rw [e2] at q1
  cases q1
  exact Zac q4
 have g2:Grp t h m (S.length+1) ys (S1++[.lst [.int 0]]):=fun j d hd=>by
  obtain⟨a,r,q1,q2,q3,q4⟩:=hg j d hd
  exact⟨a,r,q1,q2,q3,by rw [Yar (Zac q4)];exact q4⟩
 try simp
 refine Zae (ZdK (S:=S1++[.lst [.int 0]]) (t:=t) (h:=h) (m:=m) (A:=S1.length) (B:=S.length) (ys:=ys) r2 Zal (by rw [Yar hSl];exact hB) (by omega) hyl g2 (fun j d a e1 e2=>by have:=hgr j d a e1 e2;omega)) fun r S3 ⟨⟨y11,hr⟩,hS3⟩=>?_
 subst hr
 have hl3:S3.length=S1.length+1:=by rw [hS3];simp
 have hA3:S3[S1.length]?=some (.lst (preL t h m t.rows.length)):=by rw [hS3];exact YaA (by simp)
 have lo3:∀j,j<S1.length→S3[j]?=S1[j]?:=fun j hj=>by rw [hS3,Yap (by omega),Yar hj]
 try simp
 have lo4:∀j,j<S3.length→(S3++[Cell.lst []])[j]?=S3[j]?:=fun j hj=>Yar hj
 have g4:Grp t h m (S.length+1) ys (S3++[.lst []]):=fun j d hd=>by
  obtain⟨a,r,q1,q2,q3,q4⟩:=hg j d hd
  have:=Zac q4
  exact⟨a,r,q1,q2,q3,by rw [lo4 a (by omega),lo3 a this];exact q4⟩
 refine Zae (ZdL (S:=S3++[.lst []]) (t:=t) (h:=h) (m:=m) (A:=S1.length) (B:=S.length) (T:=S3.length) (ys:=ys) ok hh hm Zal (by rw [lo4 _ (by omega)];exact hA3) (by rw [lo4 _ (by omega),lo3 _ hSl];exact hB) (by omega) (by omega) hyl g4 (fun j d a e1 e2=>by have:=hgr j d a e1 e2;omega)) ?_
 rintro r S5 ⟨⟨y8,y11,hr⟩,hS5⟩
 subst hr
 have hT5:S5[S3.length]?=some (.lst ((outL t h m t.rows.length).map Rw.d)):=by rw [hS5];exact YaA (by simp)
 have hA5:S5[S1.length]?=some (.lst (preL t h m t.rows.length)):=by rw [hS5,Yap (by omega),lo4 _ (by omega)];exact hA3
 have e1:idxD (.obj S1.length) (.int t.door) S5=.ok (.int (t.preI h m t.door)) S5:=ZaR (Zad hA5) d1 (ZfH (by omega))
 have e2:idxD (.obj S1.length) (.int (t.within-1)) S5=.ok (.int (t.preI h m (t.within-1))) S5:=ZaR (Zad hA5) (by omega) (ZfH (by omega))
 simp [e1,e2,Zad hT5]
 refine⟨by simp [Tp.prog,Pg.d,outL],?_⟩
 have k3:Kp none S.length S S3:=by rw [hS3];exact Zb3 (kn0 k1) k1.len
 rw [hS5]
 exact Zb3 (kn0 k3) (by have:=k1.len;omega)
theorem Zm8 {t:Tp} {m:Nat} (ok:t.ok) (h1:1≤m) (h4:m≤4):op2 .mul (.tup (t.ks.map Bx.d)) (.int (m:Int)) S=.ok (.tup ((t.way m).bs.map Bx.d)) S:=by
 have k1:=ok.k1
 have k2:=ok.k2
 rw [Zjc,if_pos ⟨by intro z;rw [List.map_eq_nil_iff] at z;rw [z] at k1;simp at k1,by omega,by omega,by rw [Yak];omega⟩,YaY]
 rw [Tp.way,Zhw]
theorem Zf7 {t:Tp} {m:Nat} (ok:t.ok) (h4:m≤4):Wp (ev (cl fns (k+3)) ZdR [some t.d,some (.int (m:Int))] S) fun d S'=>d=.obj S.length∧S'[S.length]?=some (.lst ((t.way m).hs.map Pg.d))∧Kp none S.length S S':=by
 refine Zbz (ZbK (p:=none) (l:=Yau m) (f:=fun(i:Nat)=>D.int (i:Int)) (g:=fun(i:Nat)=>(t.prog m i).d) (src:=none) (S1:=S) (fun e=>∃a,e=[none,a,some (.int (m:Int)),some t.d]) (by simp [Zdo (show m≤100000 by omega),Zhv,NL]) (fun _ _=>rfl) (by simp;omega) (fun q e=>by cases e) ⟨_,rfl⟩ (fun j e S' hj hE _ hk=>?_)) fun d S' ⟨a1,a2,a3⟩=>⟨a1,by rw [Tp.way,YbG];exact a2,a3⟩
 obtain⟨x,rfl⟩:=hE
 obtain⟨d1,S1,e1,rfl,k1⟩:=ZeO (k:=k) (S:=S') ok (YaN.mp hj) h4
 exact⟨([none,some (.int (j:Int)),some (.int (m:Int)),some t.d],some (t.prog m j).d),S1,by simp [-Zaa,bodyC,e1],⟨_,rfl⟩,rfl,k1⟩
theorem Zcs {t:Tp} {m:Nat} (ok:t.ok) (h1:1≤m) (h4:m≤4):Wp (cl fns (k+7) 19 [t.d,.int (m:Int)] S) fun d S'=>d=(t.way m).d∧Kp none S.length S S':=by
 refine wp_cl (fn:=⟨2,2,ZbQ⟩) rfl rfl ?_
 have e0:∀S,idxD t.d (.int 0) S=.ok (.tup (t.ks.map Bx.d)) S:=fun S=>by simp [Tp.d]
 simp [ZbQ]
 refine Zae (Zdd (k:=k) ok) ?_
 rintro d S1 ⟨hd,k1⟩
 subst hd
 have e1:=Zak (k:=k+4) (S:=S1) (i:=(m:Int)) (lo:=1) (hi:=4) (by omega) (by omega)
 simp [e1,e0,Zm8 ok h1 h4]
 refine Zae (Zf7 (k:=k+3) ok h4) ?_
 rintro d S2 ⟨hd,hc,k2⟩
 subst hd
 simp [Zad hc,Wy.d]
 exact k1.nx k2
end
end Lw
namespace Lw
open PySem L2 Py
section
variable {S:Sto} {k:Nat}
end
end Lw
namespace Lw
open PySem L2 Py
theorem pl_rw {r:Rw}:r.d.pl=true:=by
 have h1:PyData.strOk (Str.ofString "write")=true:=by decide+kernel
 have h2:PyData.strOk (Str.ofString "look")=true:=by decide+kernel
 cases r with
 |wr b x=>simp [Rw.d,D.pl,D.pls,h1]
 |lk b ns p=>simp [Rw.d,D.pl,D.pls,h2,D.pls_map (f:=D.int) (l:=ns) fun _ _=>rfl]
theorem pl_pg {p:Pg}:p.d.pl=true:=by simp [Pg.d,D.pl,D.pls,D.pls_map (f:=Rw.d) (l:=p.rows) fun _ _=>pl_rw]
theorem dp_rw {r:Rw}:r.d.dp≤2:=by
 cases r with
 |wr b x=>simp [Rw.d,D.dp,D.dps]
 |lk b ns p=>
  have:=D.dps_map (f:=D.int) (l:=ns) (n:=0) fun _ _=>by simp [D.dp]
  simp [Rw.d,D.dp,D.dps]
  omega
theorem dp_pg {p:Pg}:p.d.dp≤4:=by
 have:=D.dps_map (f:=Rw.d) (l:=p.rows) (n:=2) fun _ _=>dp_rw
 simp [Pg.d,D.dp,D.dps]
 omega
section
variable {S:Sto} {k:Nat}
end
end Lw
namespace Lw
open PySem L2 Py
section
variable {S:Sto} {k:Nat}
theorem Zfu {c:Int}:∃i:Int,cl fns (k+1) 25 [.int c] S=.ok (.int i) S∧0≤i∧i<10^60:=by
 rw [ZaK (fn:=⟨1,1,Za1⟩) rfl]
 have p1:∀S,op2 .pow (.int 10) (.int 60) S=.ok (.int (10^60)) S:=fun S=>by
  simp only [op2,o_add,o_sub,o_mul,o_mod,Za9,o_pow,o_shl,o_shr,Zbn,o_eq,o_ne,o_lt,o_le,o_gt,o_ge,o_is,o_isn,o_mem,Za8]
  rw [if_pos ⟨by decide,by decide,by decide⟩]
  rfl
 have m1:∀(a:Int) S,op2 .mod (.int a) (.int (10^60)) S=.ok (.int (a % 10^60)) S:=fun a S=>by
  simp only [op2,o_add,o_sub,o_mul,o_mod,Za9,o_pow,o_shl,o_shr,Zbn,o_eq,o_ne,o_lt,o_le,o_gt,o_ge,o_is,o_isn,o_mem,Za8]
  rw [if_pos (by decide)]
 have u1:∀(a:Int) S,0≤a→a<10^60→op2 .mul (.int a) (.int 977121254719662437295027903255115309200128864190695864829866917) S=.ok (.int (a*977121254719662437295027903255115309200128864190695864829866917)) S:=fun a S h0 h1=>by
  simp only [op2,o_add,o_sub,o_mul,o_mod,Za9,o_pow,o_shl,o_shr,Zbn,o_eq,o_ne,o_lt,o_le,o_gt,o_ge,o_is,o_isn,o_mem,Za8]
  rw [if_pos (.inl ⟨by omega,by decide⟩)]
 have q1:0≤c % 10^60:=Int.emod_nonneg _ (by decide)
 have q2:c % 10^60<10^60:=YbZ _ (by decide)
 refine⟨c % 10^60*977121254719662437295027903255115309200128864190695864829866917 % 10^60,?_,Int.emod_nonneg _ (by decide),YbZ _ (by decide)⟩
 simp only [runF,Za1,YaH,Ya9,if_true,List.map,Yaq,ZeS,ZlN,ZeR,ev_op,Zec,ZdD,List.append,YaW,Res.bind_ok,Zaa,p1,m1,u1 _ _ q1 q2,List.cons_append,YbC]
end
end Lw
namespace Lw
open PySem L2 Py
theorem Kp.setp {q:Nat} {c:Cell} {y:Int} {S:Sto} (h:S[q]?=some c):Kp (some q) S.length S (S.set q (.lst [.int y])):=
 ⟨Yad _,by simp,fun j _ hp=>Yap (fun z=>hp (by rw [z])),fun q' e _=>by cases e;exact⟨y,ZaO h⟩⟩
theorem Rise.mono {n n':Int} (hn:n≤n'):∀{l:Int} {ns:List Int},Rise l n ns→Rise l n' ns
 |_,[],_=>trivial
 |l,x::r,h=>⟨h.1,by have:=h.2.1;omega,Rise.mono hn h.2.2⟩
theorem Rise.snoc {i:Int}:∀{l:Int} {ns:List Int},Rise l i ns→l≤i→Rise l (i+1) (ns++[i])
 |l,[],_,h=>⟨h,by omega,trivial⟩
 |l,x::r,h,_=>⟨h.1,by have:=h.2.1;omega,Rise.snoc h.2.2 (by have:=h.2.1;omega)⟩
theorem pk_lt {q:Nat} {S:Sto} (h:Pk q S):q<S.length:=let ⟨_,e⟩:=h;Zac e
section
variable {S:Sto} {k q:Nat}
theorem Zap {n:Int} (hq:Pk q S) (h0:0<n) (h1:n≤1000):Wp (cl fns (k+1) 27 [.obj q,.int n] S) fun d S'=>(∃i,d=.int i∧0≤i∧i<n)∧Kp (some q) S.length S S':=by
 obtain⟨x,hx⟩:=hq
 refine wp_cl (fn:=⟨2,3,Zbg⟩) rfl rfl ?_
 have e1:idxD (.obj q) (.int 0) S=.ok (.int x) S:=ZaR (Zad hx) (by decide) rfl
 have e2:lg 256 n=true:=lg_of (by decide) (by omega)
 have e3:setD (.obj q) (.int 0) (.int (x / n)) S=.ok () (S.set q (.lst [.int (x / n)])):=by simp [setD,hx,ixN]
 simp [Zbg,e1,h0,e2,e3]
 exact⟨⟨Int.emod_nonneg _ (by omega),YbZ _ h0⟩,Kp.setp hx⟩
theorem Zde {bits:Int} {z:Option D} {n:Nat} (hq:Pk q S) (hn:n≤5):Wp (ev (cl fns k) ZbH [z,some (.int (n:Int)),some (.int bits)] S) fun d S'=>∃ns:List Int,d=.obj S.length∧S'[S.length]?=some (.lst (ns.map .int))∧Rise 0 n ns∧Kp (some q) S.length S S':=by
 refine Zau (Zcb (J:=⟨Zaj 0 1 n,none⟩) (S1:=S) (by simp [Zdo (show n≤100000 by omega)]) (fun i ys e S'=>∃ns:List Int,ys=ns.map .int∧ns.length≤i∧i≤n∧Rise 0 i ns∧(∃y,e=[none,y,some (.int bits)])∧S'[S.length]?=some (.lst ys)∧Kp (some q) S.length S S')
  ⟨[],rfl,Yad _,YaU _,trivial,⟨_,rfl⟩,Zal,Kp.snoc (by intro q' e;cases e;exact pk_lt hq)⟩ (fun j ys e S' hP=>⟨rfl,?_⟩) (fun j x ys e S' hx hP=>?_) (fun ys e' S' hP=>?_))
 ·obtain⟨ns,rfl,hl,hj,_⟩:=hP
  rw [Yak];omega
 ·obtain⟨ns,rfl,hl,hj,hr,⟨y,rfl⟩,hc,hk⟩:=hP
  have hlt:=(Yac.mp hx).1
  rw [ZaH] at hlt
  rw [Zdi hlt] at hx
  cases hx
  have z0:(0:Int)≤(j:Int):=by omega
  by_cases hb:Builtin.bitAnd (bits / 2^j) 1=1
  ·refine⟨([none,some (.int (j:Int)),some (.int bits)],some (.int (j:Int))),S',by simp [-Zaa,bodyC,z0,hb],.inl ⟨_,rfl,hc,ns++[(j:Int)],by simp,by simp;omega,hlt,?_,⟨_,rfl⟩,ZaO hc,?_⟩⟩
   ·have:=hr.snoc z0;simpa using this
   ·exact hk.next (Kp.set (p:=some q) (m:=S.length) (by have:=hk.len;omega) (Yad _) (by intro q' e;cases e;exact pk_lt hq)) (Yad _)
  ·exact⟨([none,some (.int (j:Int)),some (.int bits)],none),S',by simp [-Zaa,bodyC,z0,hb],.inr ⟨rfl,ns,rfl,by omega,hlt,hr.mono (by omega),⟨_,rfl⟩,hc,hk⟩⟩
 ·obtain⟨ns,rfl,hl,hj,hr,⟨y,rfl⟩,hc,hk⟩:=hP
  rw [ZaH] at hr
  exact wp_ok.mpr ⟨ns,rfl,hc,hr,hk⟩
theorem shl1 {n:Nat} (hn:n≤5):op2 .shl (.int 1) (.int (n:Int)) S=.ok (.int (2^n)) S:=by
 simp only [op2,o_add,o_sub,o_mul,o_mod,Za9,o_pow,o_shl,o_shr,Zbn,o_eq,o_ne,o_lt,o_le,o_gt,o_ge,o_is,o_isn,o_mem,Za8]
 rw [if_pos ⟨by omega,by omega,by decide⟩]
 simp
theorem ZmE {n:Nat} (h:n≤5):(2:Int)^n≤1000∧(0:Int)<2^n:=by
 have:n=0∨n=1∨n=2∨n=3∨n=4∨n=5:=by omega
 rcases this with rfl|rfl|rfl|rfl|rfl|rfl<;>decide
theorem Zd3 {n:Int} (hq:Pk q S) (h0:0≤n) (h1:n≤5):Wp (cl fns (k+2) 28 [.obj q,.int n] S) fun d S'=>(∃ns:List Int,d=.tup (ns.map .int)∧Rise 0 n ns)∧Kp (some q) S.length S S':=by
 obtain⟨m,rfl⟩:∃m:Nat,n=(m:Int):=⟨n.toNat,by omega⟩
 have hm:m≤5:=by omega
 have pw:=ZmE hm
 refine wp_cl (fn:=⟨2,3,ZaI⟩) rfl rfl ?_
 simp [ZaI,shl1 hm]
 refine Zae (Zap (k:=k) hq pw.2 pw.1) ?_
 rintro d S1 ⟨⟨i,hd,_,_⟩,k1⟩
 subst hd
 have hq1:=k1.pk q rfl hq
 try simp
 refine Zae (Zde (k:=k+1) hq1 hm) ?_
 rintro d S2 ⟨ns,hd,hc,hr,k2⟩
 subst hd
 simp [Zad hc]
 exact⟨⟨ns,rfl,hr⟩,k1.nx k2⟩
end
end Lw
namespace Lw
open PySem L2 Py
noncomputable def T60:Int:=10^60
noncomputable def T25:Int:=10^25
section
variable {S:Sto} {k q:Nat}
theorem p60:op2 .pow (.int 10) (.int 60) S=.ok (.int T60) S:=by
 simp only [op2,o_add,o_sub,o_mul,o_mod,Za9,o_pow,o_shl,o_shr,Zbn,o_eq,o_ne,o_lt,o_le,o_gt,o_ge,o_is,o_isn,o_mem,Za8]
 rw [if_pos ⟨by decide,by decide,by decide⟩]
 rfl
theorem p25:op2 .pow (.int 10) (.int 25) S=.ok (.int T25) S:=by
 simp only [op2,o_add,o_sub,o_mul,o_mod,Za9,o_pow,o_shl,o_shr,Zbn,o_eq,o_ne,o_lt,o_le,o_gt,o_ge,o_is,o_isn,o_mem,Za8]
 rw [if_pos ⟨by decide,by decide,by decide⟩]
 rfl
theorem dv25 {a:Int}:op2 .fdiv (.int a) (.int T25) S=.ok (.int (a / T25)) S:=by
 simp only [op2,o_add,o_sub,o_mul,o_mod,Za9,o_pow,o_shl,o_shr,Zbn,o_eq,o_ne,o_lt,o_le,o_gt,o_ge,o_is,o_isn,o_mem,Za8]
 rw [if_pos ⟨by decide,by decide⟩]
theorem mu60 {a:Int} (h0:0≤a) (h1:a<T60):op2 .mul (.int a) (.int T60) S=.ok (.int (a*T60)) S:=by
 simp only [op2,o_add,o_sub,o_mul,o_mod,Za9,o_pow,o_shl,o_shr,Zbn,o_eq,o_ne,o_lt,o_le,o_gt,o_ge,o_is,o_isn,o_mem,Za8]
 have:T60=10^60:=rfl
 rw [if_pos (.inl ⟨by omega,by decide⟩)]
theorem muS {a b:Int} (h0:a.natAbs<2^64):op2 .mul (.int a) (.int b) S=.ok (.int (a*b)) S:=by
 simp only [op2,o_add,o_sub,o_mul,o_mod,Za9,o_pow,o_shl,o_shr,Zbn,o_eq,o_ne,o_lt,o_le,o_gt,o_ge,o_is,o_isn,o_mem,Za8]
 rw [if_pos (.inr (.inl h0))]
theorem Zca {c:Int}:Wp (cl fns (k+1) 25 [.int c] S) fun d S'=>(∃i,d=.int i∧0≤i∧i<T60)∧S'=S:=by
 obtain⟨i,e,h0,h1⟩:=Zfu (k:=k) (S:=S) (c:=c)
 exact⟨_,_,e,⟨i,rfl,h0,h1⟩,rfl⟩
theorem add_o {a b:Nat} {xs ys:List D} (ha:lsOf S a=some xs) (hb:lsOf S b=some ys) (h:xs.length+ys.length≤100000):op2 .add (.obj a) (.obj b) S=.ok (.obj S.length) (S++[.lst (xs++ys)]):=by
 simp only [op2,o_add,o_sub,o_mul,o_mod,Za9,o_pow,o_shl,o_shr,Zbn,o_eq,o_ne,o_lt,o_le,o_gt,o_ge,o_is,o_isn,o_mem,Za8,ha,hb]
 rw [if_pos h]
theorem slc_o {n:Nat} {xs:List D} {lo hi:Option Int} (h:lsOf S n=some xs):slcD (.obj n) lo hi S=.ok (.obj S.length) (S++[.lst (cutD xs lo hi)]):=by
 simp only [slcD,h]
theorem ZlT {xs:List D} {lo hi:Option Int}:(cutD xs lo hi).length≤xs.length:=by
 unfold cutD
 rw [Ybe,YbM]
 omega
theorem ZgC {xs:List D} {z:Int} (h:∀d∈xs,∃i:Int,d=.int i):∃i:Int,(xs++[.int z])[0]?=some (.int i):=by
 cases xs with
 |nil=>exact⟨z,rfl⟩
 |cons a r=>
  obtain⟨i,rfl⟩:=h a Yaw
  exact⟨i,rfl⟩
theorem ZlU {ns:List Int} {lo hi:Option Int}:∀d∈cutD (ns.map .int) lo hi,∃i:Int,d=.int i:=by
 intro d hd
 have:=List.mem_of_mem_drop (List.mem_of_mem_take hd)
 obtain⟨i,_,rfl⟩:=YaR.mp this
 exact⟨i,rfl⟩
theorem kn {p:Option Nat} {c:Cell} {m:Nat} {S1:Sto} (a:Kp none m S S1):Kp none m S (S1++[c]):=a.nx (Kp.snoc (by intro q e;cases e))
theorem sn0 {c:Cell} {d:Cell} {n:Nat} (h:S[n]?=some c):(S++[d])[n]?=some c:=by rw [Yar (Zac h)];exact h
noncomputable abbrev xHead:PX:=.idx (.op .add (.var 0) (.lst (.cons (.cst (.int 0)) .nil))) (.cst (.int 0))
theorem Zl8 {C:Nat→List D→Sto→Res D} {ns:List Int} {r:Nv} (h0:S[0]?=some (.scr (ns.map .int))) (hl:ns.length≤63):Wp (ev C xHead (some (.obj 0)::r) S) fun d S'=>(∃x,d=.int x)∧Kp none S.length S S':=by
 have hs1:(S++[Cell.lst [.int 0]])[0]?=some (.scr (ns.map .int)):=sn0 h0
 have e1:=add_o (S:=S++[Cell.lst [.int 0]]) (a:=0) (b:=S.length) (Zes hs1) (Zad Zal) (by simp;omega)
 obtain⟨x0,hx0⟩:=ZgC (xs:=ns.map .int) (z:=0) (fun d hd=>by obtain⟨i,_,rfl⟩:=YaR.mp hd;exact⟨i,rfl⟩)
 have e2:=ZaR (S:=S++[Cell.lst [.int 0]]++[.lst (ns.map .int++[.int 0])]) (n:=(S++[Cell.lst [.int 0]]).length) (Zad Zal) (i:=0) (by decide) hx0
 refine⟨_,S++[Cell.lst [.int 0]]++[.lst (ns.map .int++[.int 0])],?_,⟨x0,rfl⟩,kn (p:=none) (kn (p:=none) Kp.rfl')⟩
 simp only [xHead,Zj4,ev_op,ZdD,Zj3,ZdE,Zfv,Zec,Res.bind_ok,YaW,YaH,Ya9]
 rw [if_pos (by decide)]
 simp only [Res.bind_ok,e1,e2]
noncomputable abbrev xCut:PX:=.idx (.op .add (.slc (.var 0) (.bnd (.var 3)) (.bnd (.op .add (.var 3) (.cst (.int 1))))) (.lst (.cons (.var 4) .nil))) (.cst (.int 0))
theorem x_cut {C:Nat→List D→Sto→Res D} {ns:List Int} {a b:Option D} {i l:Int} (h0:S[0]?=some (.scr (ns.map .int))) (hl:ns.length≤63):Wp (ev C xCut [some (.obj 0),a,b,some (.int i),some (.int l)] S) fun d S'=>(∃x,d=.int x)∧Kp none S.length S S':=by
 have e0:=slc_o (S:=S) (lo:=some i) (hi:=some (i+1)) (Zes h0)
 let A:List D:=cutD (ns.map .int) (some i) (some (i+1))
 have hA:A.length≤63:=YaC ZlT (by rw [Yak];exact hl)
 let S1:=S++[Cell.lst A]
 let S2:=S1++[Cell.lst [.int l]]
 have hs1:S2[S.length]?=some (.lst A):=sn0 Zal
 have e1:=add_o (S:=S2) (a:=S.length) (b:=S1.length) (Zad hs1) (Zad Zal) (by simp;omega)
 obtain⟨x0,hx0⟩:=ZgC (xs:=A) (z:=l) ZlU
 have e2:=ZaR (S:=S2++[.lst (A++[.int l])]) (n:=S2.length) (Zad Zal) (i:=0) (by decide) hx0
 refine⟨_,S2++[.lst (A++[.int l])],?_,⟨x0,rfl⟩,kn (p:=none) (kn (p:=none) (kn (p:=none) Kp.rfl'))⟩
 simp only [xCut,Zj4,ev_op,ZdD,Zj3,ZnV,ZnW,ZdE,Zfv,Zec,Res.bind_ok,YaW,Ybb,YaH,Ya9,ZmO,Zdj,e0]
 rw [if_pos (by decide)]
 simp only [Res.bind_ok]
 exact(congrArg (fun r=>r.bind fun x S=>idxD x (.int 0) S) e1).trans e2
theorem Zf4 {ns:List Int} {a:Int} (h0:S[0]?=some (.scr (ns.map .int))) (hl:ns.length≤63):Wp (cl fns (k+2) 26 [.obj 0,.int a] S) fun d S'=>(∃q,d=.obj q∧Pk q S'∧S.length≤q)∧Kp none S.length S S':=by
 have hS:0<S.length:=Zac h0
 refine wp_cl (fn:=⟨2,5,Zbh⟩) rfl rfl ?_
 simp [Zbh]
 refine ZaN (J:=⟨[.int (a+1),.int a],some S.length⟩) (S1:=S++[.lst [.int (a+1),.int a]]) (by simp [Zad Zal]) (fun i e S'=>(∃f y z,e=[some (.obj 0),some (.int a),some (.int f),y,z]∧(i=0→f=0)∧(i≤1→0≤f∧f<T60))∧S'[S.length]?=some (.lst [.int (a+1),.int a])∧S'[0]?=some (.scr (ns.map .int))∧Kp none S.length S S')
  ⟨⟨0,none,none,rfl,fun _=>rfl,fun _=>⟨by decide,by decide⟩⟩,Zal,sn0 h0,Kp.snoc (by intro q e;cases e)⟩ (fun j e S' _ hP=>Zbr (Zad hP.2.1)) (fun j x e S' hx hP=>?_) (fun e' S' hP=>?_)
 ·obtain⟨⟨f,y,z,rfl,hf0,hf⟩,hc,hs,hk⟩:=hP
  have hj:j≤1:=by have:=(Yac.mp hx).1;simp at this;omega
  obtain⟨ZcP,Zak⟩:=hf hj
  obtain⟨i,rfl⟩:∃i:Int,x=.int i:=by
   have:j=0∨j=1:=by omega
   rcases this with rfl|rfl<;>simp at hx<;>exact⟨_,hx.symm⟩
  have m1:∀(b:Int) S,op2 .mul (.int 6007) (.int b) S=.ok (.int (6007*b)) S:=fun b S=>muS (by decide)
  have m2:∀(b:Int) S,op2 .mul (.int 11) (.int b) S=.ok (.int (11*b)) S:=fun b S=>muS (by decide)
  simp only [ZgG,Res.bind_ok,YbH,YbI,ZeS,Zig,ev_op,Zif,ZdE,Zfv,Zec,ZdD,Zaa,YaW,Ybb,m1,Zdj]
  refine Zae (Zl8 hs hl) ?_
  rintro d S1 ⟨⟨x,hd⟩,k1⟩
  subst hd
  have hs1:=k1.get0 hs (Zac hs)
  simp only [m2,Res.bind_ok,Zdj]
  refine Zae (Zca (k:=k)) ?_
  rintro d S2 ⟨⟨u,hd,u0,u1⟩,hS2⟩
  subst hd hS2
  simp only [p25,dv25,Res.bind_ok,YbH,YbI,ZgG,ZeS,Zig,ev_op,Zif,ZdE,Zfv,Zec,ZdD,Zaa,YaW,Ybb,p60,mu60 ZcP Zak]
  refine Zae (x_cut hs1 hl) ?_
  rintro d S3 ⟨⟨v,hd⟩,k3⟩
  subst hd
  try simp only [Res.bind_ok]
  refine Zae (Zca (k:=k)) ?_
  rintro d S4 ⟨⟨w,hd,w0,w1⟩,hS4⟩
  subst hd hS4
  have k4:=k1.nx k3
  simp only [Res.bind_ok,Zdj,YbH,YbI,ZgG,ZeR,wp_ok]
  refine⟨_,.inl rfl,⟨_,_,_,rfl,fun z=>by omega,fun hj1=>?_⟩,k4.get0 hc (Zac hc),k4.get0 hs (Zac hs),hk.nx k4⟩
  have hz:j=0:=by omega
  rw [hf0 hz,Int.zero_mul,Int.zero_add]
  exact⟨w0,w1⟩
 ·obtain⟨⟨f,y,z,rfl,_,_⟩,hc,hs,hk⟩:=hP
  simp
  exact⟨⟨⟨f,Zal⟩,hk.len⟩,kn (p:=none) hk⟩
end
end Lw
namespace Lw
open PySem L2 Py
theorem kind3 {i:Int} (h0:0≤i) (h1:i<3):∃s:Str,(s="whole" ∨s="either" ∨s="torn")∧([D.str "whole",.str "either",.str "torn"]:List D)[i.toNat]?=some (.str s):=by
 have:i=0∨i=1∨i=2:=by omega
 rcases this with rfl|rfl|rfl
 ·exact⟨"whole",.inl rfl,rfl⟩
 ·exact⟨"either",.inr (.inl rfl),rfl⟩
 ·exact⟨"torn",.inr (.inr rfl),rfl⟩
theorem whom3 {i:Int} (h0:0≤i) (h1:i<3):∃s:Str,isWh s∧([D.str "others",.str "lower",.str "higher"]:List D)[i.toNat]?=some (.str s):=by
 have:i=0∨i=1∨i=2:=by omega
 rcases this with rfl|rfl|rfl
 ·exact⟨"others",.inl rfl,rfl⟩
 ·exact⟨"lower",.inr (.inl rfl),rfl⟩
 ·exact⟨"higher",.inr (.inr rfl),rfl⟩
theorem size4 {i:Int} (h0:0≤i) (h1:i<4):∃n:Int,(2≤n∧n≤5)∧([D.int 2,.int 2,.int 3,.int 5]:List D)[i.toNat]?=some (.int n):=by
 have:i=0∨i=1∨i=2∨i=3:=by omega
 rcases this with rfl|rfl|rfl|rfl
 ·exact⟨2,by decide,rfl⟩
 ·exact⟨2,by decide,rfl⟩
 ·exact⟨3,by decide,rfl⟩
 ·exact⟨5,by decide,rfl⟩
section
variable {S:Sto} {k q:Nat}
theorem Zdw {m n:Nat} {c:Cell} {S2:Sto} (a:Kp (some q) m S S2) (h:m≤n) (hq:q<m):Kp (some q) m S (S2.set n c):=a.next (Kp.set (p:=some q) (m:=m) (by have:=a.len;have:=a.low;omega) h (by intro q' e;cases e;exact hq)) (Yad _)
noncomputable def n10:Nv:=[none,none,none,none,none,none,none,none,none]
theorem ZcW {K:Nat} {y2 y3:Option D} {r:Nv} (hq:Pk q S) (hK:S[K]?=some (.lst [])) (hqK:q<K) (hr:r.length=9):Wp (evS (cl fns (k+1)) Zbx (some (.obj q)::some (.obj K)::y2::y3::r) S) fun f S'=>(∃y2 y3,f=.nx (some (.obj q)::some (.obj K)::y2::y3::r))∧(∃bs:List Bx,S'[K]?=some (.lst (bs.map Bx.d))∧1≤bs.length∧bs.length≤2∧∀b∈bs,b.ok)∧Kp (some q) K S S':=by
 have hKl:=Zac hK
 have hql:=pk_lt hq
 have hKq:some K≠some q:=fun z=>by have:=Option.some.inj z;omega
 obtain⟨d1,S1,e1,⟨x,rfl,x0,x1⟩,k1⟩:=Zap (k:=k) (n:=2) hq (by decide) (by decide)
 obtain⟨mm,hm⟩:∃m:Nat,1+x=(m:Int):=⟨(1+x).toNat,by omega⟩
 have hK1:=k1.get hK hKl hKq
 refine Zau (ZaN (J:=⟨Zaj 0 1 mm,none⟩) (S1:=S1) (by simp [e1,hm,Zdo (show mm≤100000 by omega)]) (fun i e S'=>(∃y2 y3,e=some (.obj q)::some (.obj K)::y2::y3::r)∧(∃bs:List Bx,S'[K]?=some (.lst (bs.map Bx.d))∧bs.length=i∧∀b∈bs,b.ok)∧Kp (some q) K S S')
  ⟨⟨_,_,rfl⟩,⟨[],hK1,rfl,by simp⟩,k1.weak (by omega)⟩ (fun _ _ _ _ _=>rfl) (fun j y e S' hx hP=>?_) (fun e' S' hP=>?_))
 ·obtain⟨⟨z2,z3,rfl⟩,⟨bs,hb,hbl,hbo⟩,hk⟩:=hP
  have hlt:=(Yac.mp hx).1
  rw [ZaH] at hlt
  have hqS:q<S'.length:=by have:=hk.len;omega
  have hKS:=Zac hb
  simp
  have kA:Kp (some q) S'.length S' (S'++[.lst [.int 2,.int 2,.int 3,.int 5]]):=Kp.snoc (by intro q' e;cases e;exact hqS)
  refine Zae (Zap (k:=k) (n:=4) (kA.pk q rfl (hk.pk q rfl hq)) (by decide) (by decide)) ?_
  rintro d S2 ⟨⟨i4,hd,i0,i1⟩,k2⟩
  subst hd
  obtain⟨n,⟨n0,n1⟩,en⟩:=size4 i0 i1
  have hne:some S'.length≠some q:=fun z=>by have:=Option.some.inj z;omega
  have cA:S2[S'.length]?=some (.lst [.int 2,.int 2,.int 3,.int 5]):=k2.get Zal (by simp) hne
  have e2:idxD (.obj S'.length) (.int i4) S2=.ok (.int n) S2:=ZaR (Zad cA) i0 en
  have kB:=kA.nx k2
  have hb2:=kB.get hb hKS hKq
  simp [e2]
  have hqS2:q<S2.length:=by have:=kB.len;omega
  have kC:Kp (some q) S2.length S2 (S2++[.lst [.str "whole",.str "either",.str "torn"]]):=Kp.snoc (by intro q' e;cases e;exact hqS2)
  have kBC:=kB.nx kC
  refine Zae (Zap (k:=k) (n:=3) (kBC.pk q rfl (hk.pk q rfl hq)) (by decide) (by decide)) ?_
  rintro d S3 ⟨⟨i3,hd,j0,j1⟩,k3⟩
  subst hd
  obtain⟨kd,hkd,ekd⟩:=kind3 j0 j1
  have hne2:some S2.length≠some q:=fun z=>by have:=Option.some.inj z;omega
  have cC:S3[S2.length]?=some (.lst [.str "whole",.str "either",.str "torn"]):=k3.get Zal (by simp) hne2
  have e3:idxD (.obj S2.length) (.int i3) S3=.ok (.str kd) S3:=ZaR (Zad cC) j0 ekd
  have kD:=kBC.nx k3
  simp [e3]
  refine Zae (Zap (k:=k) (n:=n) (kD.pk q rfl (hk.pk q rfl hq)) (by omega) (by omega)) ?_
  rintro d S4 ⟨⟨st,hd,s0,s1⟩,k4⟩
  subst hd
  have kE:=kD.nx k4
  have hb4:=kE.get hb hKS hKq
  have ea:=fun d=>app_l (d:=d) hb4 (by rw [Yak];omega)
  simp [ea]
  refine⟨⟨bs++[⟨kd,n,st⟩],by rw [ZaO hb4];simp [Bx.d],by simp [hbl],fun b hbm=>?_⟩,Zdw (hk.nx kE) (Yad _) hqK⟩
  rcases Ybh.mp hbm with z|z
  ·exact hbo b z
  ·rw [YaI] at z
   subst z
   exact⟨hkd,n0,n1,s0,s1⟩
 ·obtain⟨⟨z2,z3,rfl⟩,⟨bs,hb,hbl,hbo⟩,hk⟩:=hP
  rw [ZaH] at hbl
  exact wp_ok.mpr ⟨⟨_,_,rfl⟩,⟨bs,hb,by omega,by omega,hbo⟩,hk⟩
noncomputable def E25 (q K R:Nat) (y2 y3:Option D) (m w dr l:Int) (y9 y10 y11 y12:Option D):Nv:=[some (.obj q),some (.obj K),y2,y3,some (.int m),some (.int w),some (.int dr),some (.obj R),some (.int l),y9,y10,y11,y12]
noncomputable def tWr:PX:=(.seq (.exp (.app (.var 7) (.tup (.cons (.cst (.str "write")) (.cons (.var 11) (.cons (.call 27 (.cons (.var 0) (.cons (.var 3) .nil))) .nil))))))
 .skip)
noncomputable def tLk:PX:=(.seq (.asg (.tnm 8) (.op .sub (.var 8) (.cst (.int 2))))
 (.seq (.asg (.tnm 12) (.idx (.lst (.cons (.cst (.str "others")) (.cons (.cst (.str "lower")) (.cons (.cst (.str "higher")) .nil)))) (.call 27 (.cons (.var 0) (.cons (.cst (.int 3)) .nil)))))
 (.seq (.exp (.app (.var 7) (.tup (.cons (.cst (.str "look")) (.cons (.var 12) (.cons (.var 11) (.cons (.call 28 (.cons (.var 0) (.cons (.var 3) .nil))) (.cons (.op .add (.cst (.int 1)) (.call 27 (.cons (.var 0) (.cons (.var 5) .nil)))) .nil))))))))
 .skip)))
noncomputable def ZcE:PX:=(.loop (.tnm 9) (.irng (.cons (.cst (.int 1)) (.cons (.op .add (.var 4) (.cst (.int 1))) .nil))) (.seq (.asg (.tnm 10) (.op .gt (.call 27 (.cons (.var 0) (.cons (.cst (.int 3)) .nil))) (.cst (.int 0))))
 (.seq (.asg (.tnm 11) (.call 27 (.cons (.var 0) (.cons (.blt .len (.cons (.var 1) .nil)) .nil))))
 (.seq (.asg (.tnm 3) (.idx (.idx (.var 1) (.var 11)) (.cst (.int 1))))
 (.seq (.ifs (.and (.tru (.var 10)) (.and (.op .lt (.var 9) (.var 5)) (.op .gt (.var 8) (.cst (.int 1))))) tLk tWr)
 .skip)))))
theorem x_wr {K R:Nat} {y2 y9 y10 y12:Option D} {n m w dr l kd:Int} {xs:List D} (hq:Pk q S) (hR:S[R]?=some (.lst xs)) (hRq:some R≠some q) (hl:xs.length≤100) (n0:0<n) (n1:n≤5):Wp (evS (cl fns (k+2)) tWr (E25 q K R y2 (some (.int n)) m w dr l y9 y10 (some (.int kd)) y12) S) fun f S'=>f=.nx (E25 q K R y2 (some (.int n)) m w dr l y9 y10 (some (.int kd)) y12)∧∃x S1,0≤x∧x<n∧Kp (some q) S.length S S1∧S1[R]?=some (.lst xs)∧S'=S1.set R (.lst (xs++[(Tr.wr kd x).d])):=by
 refine Zau ?_
 simp [tWr,E25]
 refine Zae (Zap (k:=k+1) (n:=n) hq n0 (by omega)) ?_
 rintro d S1 ⟨⟨x,hd,x0,x1⟩,k1⟩
 subst hd
 have hR1:=k1.get hR (Zac hR) hRq
 have ea:=fun d=>app_l (d:=d) hR1 (by omega)
 simp [ea]
 exact⟨x,x0,x1,S1,k1,hR1,rfl⟩
theorem x_lk {K R:Nat} {y2 y9 y10 y12:Option D} {n m w dr l kd:Int} {xs:List D} (hq:Pk q S) (hR:S[R]?=some (.lst xs)) (hRq:some R≠some q) (hl:xs.length≤100) (n0:0<n) (n1:n≤5) (w0:1≤w) (w1:w≤100):Wp (evS (cl fns (k+2)) tLk (E25 q K R y2 (some (.int n)) m w dr l y9 y10 (some (.int kd)) y12) S) fun f S'=>(∃y12,f=.nx (E25 q K R y2 (some (.int n)) m w dr (l-2) y9 y10 (some (.int kd)) y12))∧∃s ns p S1,isWh s∧Rise 0 n ns∧1≤p∧p≤w∧Kp (some q) S.length S S1∧S1[R]?=some (.lst xs)∧S'=S1.set R (.lst (xs++[(Tr.lk s kd ns p).d])):=by
 have hqS:=pk_lt hq
 refine Zau ?_
 simp [tLk,E25]
 have kA:Kp (some q) S.length S (S++[.lst [.str "others",.str "lower",.str "higher"]]):=Kp.snoc (by intro q' e;cases e;exact hqS)
 refine Zae (Zap (k:=k+1) (n:=3) (kA.pk q rfl hq) (by decide) (by decide)) ?_
 rintro d S2 ⟨⟨i3,hd,i0,i1⟩,k2⟩
 subst hd
 obtain⟨s,hs,es⟩:=whom3 i0 i1
 have hne:some S.length≠some q:=fun z=>by have:=Option.some.inj z;omega
 have cA:S2[S.length]?=some (.lst [.str "others",.str "lower",.str "higher"]):=k2.get Zal (by simp) hne
 have e2:idxD (.obj S.length) (.int i3) S2=.ok (.str s) S2:=ZaR (Zad cA) i0 es
 have kB:=kA.nx k2
 simp [e2]
 refine Zae (Zd3 (k:=k) (n:=n) (kB.pk q rfl hq) (by omega) n1) ?_
 rintro d S3 ⟨⟨ns,hd,hns⟩,k3⟩
 subst hd
 have kC:=kB.nx k3
 try simp
 refine Zae (Zap (k:=k+1) (n:=w) (kC.pk q rfl hq) (by omega) (by omega)) ?_
 rintro d S4 ⟨⟨p,hd,p0,p1⟩,k4⟩
 subst hd
 have kD:=kC.nx k4
 have hR1:=kD.get hR (Zac hR) hRq
 have ea:=fun d=>app_l (d:=d) hR1 (by omega)
 simp [ea]
 exact⟨s,hs,ns,hns,1+p,by omega,by omega,S4,kD,hR1,rfl⟩
end
end Lw
namespace Lw
open PySem L2 Py
theorem Kp.hide {m q:Nat} {S S1 S2:Sto} (a:Kp none m S S1) (b:Kp (some q) S1.length S1 S2) (h:m≤q):Kp none m S S2:=
 ⟨a.low,YaC a.len b.len,fun j hj _=>by
  rw [b.keep j (Yax hj (YaC a.low a.len)) (fun z=>by have:=Option.some.inj z;omega)]
  exact a.keep j hj (by intro z;cases z),fun q e _=>by cases e⟩
theorem Zmq {j:Int} (h: -100000≤j∧j≤100000):∃n,rngOf (.tup [.int 0,.int j,.int 2])=some ⟨Zaj 0 2 n,none⟩:=by
 simp only [rngOf]
 rw [if_pos ⟨by decide,lg_of (by decide) (by omega),by decide,by decide⟩]
 exact⟨_,rfl⟩
structure Rws (bs:List Bx) (m w l:Int) (i:Nat) (rs:List Tr):Prop where
 len:rs.length=i
 row:∀(j:Nat) (r:Tr),rs[j]?=some r→r.okW bs∨(r.okL bs w∧(j:Int)+1<w)
 left:0≤l
 cost:((rs.map Tr.cost).sum:Nat)+l+(m-i)=16
theorem Rws.snoc {bs:List Bx} {m w l l':Int} {i:Nat} {rs:List Tr} {r:Tr} (h:Rws bs m w l i rs) (hr:r.okW bs∨(r.okL bs w∧(i:Int)+1<w)) (h0:0≤l') (hc:(r.cost:Int)+l'=l+1):Rws bs m w l' (i+1) (rs++[r]):=by
 refine⟨by simp [h.len],fun j r' e=>?_,h0,?_⟩
 ·by_cases hj:j<rs.length
  ·rw [Yar hj] at e;exact h.row j r' e
  ·have:=(Yac.mp e).1
   simp at this
   have ej:j=rs.length:=by omega
   subst ej
   rw [Yav (Yad _)] at e
   simp at e
   subst e
   rw [h.len]
   exact hr
 ·have:=h.cost
  rw [Ya4,List.sum_append]
  simp
  omega
section
variable {S:Sto} {k q:Nat}
theorem ZcX {K R:Nat} {bs:List Bx} {m w dr:Int} {y2 y3 y9 y10 y11 y12:Option D} (hq:Pk q S) (hK:S[K]?=some (.lst (bs.map Bx.d))) (hR:S[R]?=some (.lst [])) (hKR:K<R) (hqR:q<R) (hqK:q≠K) (b1:1≤bs.length) (b2:bs.length≤2) (hb:∀b∈bs,b.ok) (m1:1≤m) (m2:m≤8) (w1:1≤w) (w2:w≤m):
  Wp (evS (cl fns (k+2)) Zby (E25 q K R y2 y3 m w dr (16-m) y9 y10 y11 y12) S) fun f S'=>(∃y3 l y9 y10 y11 y12,f=.nx (E25 q K R y2 y3 m w dr l y9 y10 y11 y12))∧(∃rs l,S'[R]?=some (.lst (rs.map Tr.d))∧Rws bs m w l m.toNat rs)∧S'[K]?=some (.lst (bs.map Bx.d))∧Kp (some q) R S S':=by
 have hRl:=Zac hR
 have hKq:some K≠some q:=fun z=>hqK (Option.some.inj z).symm
 have hRq:some R≠some q:=fun z=>by have:=Option.some.inj z;omega
 obtain⟨mn,rfl⟩:∃mn:Nat,m=(mn:Int):=⟨m.toNat,by omega⟩
 have er:rngOf (.tup [.int 1,.int ((mn:Int)+1)])=some ⟨Zaj 1 1 mn,none⟩:=by
  rw [Zgk ⟨by omega,by omega,by omega,by omega⟩]
  congr 3
  omega
 show Wp (evS (cl fns (k+2)) ZcE _ S) _
 refine Zau (ZaN (J:=⟨Zaj 1 1 mn,none⟩) (S1:=S) (by simp [E25,er]) (fun i e S'=>∃rs l,(∃y3 y9 y10 y11 y12,e=E25 q K R y2 y3 (mn:Int) w dr l y9 y10 y11 y12)∧S'[R]?=some (.lst (rs.map Tr.d))∧Rws bs (mn:Int) w l i rs∧S'[K]?=some (.lst (bs.map Bx.d))∧Kp (some q) R S S')
  ⟨[],16- (mn:Int),⟨_,_,_,_,_,rfl⟩,hR,⟨rfl,by simp,by omega,by simp⟩,hK,Kp.refl (by omega)⟩ (fun _ _ _ _ _=>rfl) (fun j x e S' hx hP=>?_) (fun e' S' hP=>?_))
 ·obtain⟨rs,l,⟨z3,z9,z10,z11,z12,rfl⟩,hR',hrw,hK',hk⟩:=hP
  have hlt:=(Yac.mp hx).1
  rw [ZaH] at hlt
  rw [Zel hlt] at hx
  cases hx
  have hrl:=hrw.len
  have hq':=hk.pk q rfl hq
  have hlR:(rs.map Tr.d).length≤100:=by rw [Yak];omega
  simp [E25]
  refine Zae (Zap (k:=k+1) (n:=3) hq' (by decide) (by decide)) ?_
  rintro d S1 ⟨⟨u,hd,u0,u1⟩,k1⟩
  subst hd
  have hK1:=k1.get hK' (Zac hK') hKq
  have hR1:=k1.get hR' (Zac hR') hRq
  simp [Zad hK1]
  refine Zae (Zap (k:=k+1) (n:=bs.length) (k1.pk q rfl hq') (by omega) (by omega)) ?_
  rintro d S2 ⟨⟨kd,hd,c0,c1⟩,k2⟩
  subst hd
  have hK2:=k2.get hK1 (Zac hK1) hKq
  have hR2:=k2.get hR1 (Zac hR1) hRq
  have k12:=k1.nx k2
  have hq2:=k12.pk q rfl hq'
  obtain⟨b,hbb⟩:∃b,bs[kd.toNat]?=some b:=⟨_,Yaf (by omega)⟩
  have bok:=hb b (Yay hbb)
  have ei:idxD (.obj K) (.int kd) S2=.ok (.tup [.str b.k,.int b.n,.int b.s]) S2:=ZaR (Zad hK2) c0 (by rw [Yam,hbb];rfl)
  simp [ei]
  have n0:=bok.2.1
  have n1:=bok.2.2.1
  have hE:∀(bb:Bool),[some (D.obj q),some (D.obj K),y2,some (D.int b.n),some (D.int (mn:Int)),some (D.int w),some (D.int dr),some (D.obj R),some (D.int l),some (D.int (1+(j:Int))),some (D.bl bb),some (D.int kd),z12]=E25 q K R y2 (some (.int b.n)) (mn:Int) w dr l (some (.int (1+(j:Int)))) (some (.bl bb)) (some (.int kd)) z12:=fun _=>rfl
  have fW:∀(bb:Bool),Wp (evS (cl fns (k+2)) tWr (E25 q K R y2 (some (.int b.n)) (mn:Int) w dr l (some (.int (1+(j:Int)))) (some (.bl bb)) (some (.int kd)) z12) S2) fun f S'=>∃e',(f=.nx e'∨f=.ct e')∧∃rs l,(∃y3 y9 y10 y11 y12,e'=E25 q K R y2 y3 (mn:Int) w dr l y9 y10 y11 y12)∧S'[R]?=some (.lst (rs.map Tr.d))∧Rws bs (mn:Int) w l (j+1) rs∧S'[K]?=some (.lst (bs.map Bx.d))∧Kp (some q) R S S':=fun bb=>by
   refine Zbz (x_wr (k:=k) hq2 hR2 hRq hlR (by omega) (by omega)) ?_
   rintro f S3 ⟨hf,x,S4,x0,x1,k4,hR4,hS3⟩
   subst hS3
   refine⟨_,.inl hf,rs++[.wr kd x],l,⟨_,_,_,_,_,rfl⟩,by rw [ZaO hR4];simp,hrw.snoc (r:=.wr kd x) (.inl ⟨c0,b,hbb,x0,x1⟩) hrw.left (by simp [Tr.cost];omega),?_,Zdw ((hk.nx k12).nx k4) (Yad _) hqR⟩
   rw [Yap (by omega)]
   exact k4.get hK2 (Zac hK2) hKq
  have fin:∀{bb:Bool} {P:PX},Wp (evS (cl fns (k+2)) P (E25 q K R y2 (some (.int b.n)) (mn:Int) w dr l (some (.int (1+(j:Int)))) (some (.bl bb)) (some (.int kd)) z12) S2) (fun f S'=>∃e',(f=.nx e'∨f=.ct e')∧∃rs l,(∃y3 y9 y10 y11 y12,e'=E25 q K R y2 y3 (mn:Int) w dr l y9 y10 y11 y12)∧S'[R]?=some (.lst (rs.map Tr.d))∧Rws bs (mn:Int) w l (j+1) rs∧S'[K]?=some (.lst (bs.map Bx.d))∧Kp (some q) R S S')→Wp ((evS (cl fns (k+2)) P (E25 q K R y2 (some (.int b.n)) (mn:Int) w dr l (some (.int (1+(j:Int)))) (some (.bl bb)) (some (.int kd)) z12) S2).bind fun r S1=>match r with|Fl.nx e1=>Res.ok (Fl.nx e1) S1|r=>Res.ok r S1) (fun f S'=>∃e',(f=.nx e'∨f=.ct e')∧∃rs l,(∃y3 y9 y10 y11 y12,e'=E25 q K R y2 y3 (mn:Int) w dr l y9 y10 y11 y12)∧S'[R]?=some (.lst (rs.map Tr.d))∧Rws bs (mn:Int) w l (j+1) rs∧S'[K]?=some (.lst (bs.map Bx.d))∧Kp (some q) R S S'):=fun {bb P} h=>by
   refine Zae h fun f S3 hf=>?_
   cases f<;>exact wp_ok.mpr hf
  have hjm:(1+(j:Int))=(j:Int)+1:=by omega
  by_cases cu:0<u
  ·by_cases cw:1+(j:Int)<w
   ·by_cases cl':1<l
    ·simp only [cu,decide_true,cw,cl',tru_b,Res.bind_ok,hE]
     refine fin (Zbz (x_lk (k:=k) hq2 hR2 hRq hlR (by omega) (by omega) w1 (by omega)) ?_)
     rintro f S3 ⟨⟨y12,hf⟩,s,ns,p,S4,hs,hns,p1,p2,k4,hR4,hS3⟩
     subst hS3
     refine⟨_,.inl hf,rs++[.lk s kd ns p],l-2,⟨_,_,_,_,_,rfl⟩,by rw [ZaO hR4];simp,hrw.snoc (r:=.lk s kd ns p) (.inr ⟨⟨hs,c0,⟨b,hbb,hns⟩,p1,p2⟩,by omega⟩) (by omega) (by simp [Tr.cost];omega),?_,Zdw ((hk.nx k12).nx k4) (Yad _) hqR⟩
     rw [Yap (by omega)]
     exact k4.get hK2 (Zac hK2) hKq
    ·simp only [cu,decide_true,cw,cl',decide_false,tru_b,Res.bind_ok,hE]
     exact fin (fW true)
   ·simp only [cu,decide_true,cw,decide_false,tru_b,Res.bind_ok,hE]
    exact fin (fW true)
  ·simp only [cu,decide_false,tru_b,Res.bind_ok,hE]
   exact fin (fW false)
 ·obtain⟨rs,l,⟨z3,z9,z10,z11,z12,rfl⟩,hR',hrw,hK',hk⟩:=hP
  rw [ZaH] at hrw
  exact wp_ok.mpr ⟨⟨_,_,_,_,_,_,rfl⟩,⟨rs,l,hR',by rw [YaY];exact hrw⟩,hK',hk⟩
end
end Lw
namespace Lw
open PySem L2 Py
section
variable {S:Sto} {k q:Nat}
theorem ZdC (hq:Pk q S):Wp (cl fns (k+3) 29 [.obj q] S) fun d S'=>(∃t:Tp,d=t.d∧t.ok)∧Kp (some q) S.length S S':=by
 have hql:=pk_lt hq
 refine wp_cl (fn:=⟨1,13,ZaE⟩) rfl rfl ?_
 simp [ZaE]
 have kA:Kp (some q) S.length S (S++[.lst []]):=Kp.snoc (by intro q' e;cases e;exact hql)
 have hh:=ZcW (k:=k+1) (S:=S++[.lst []]) (K:=S.length) (y2:=none) (y3:=none) (r:=[none,none,none,none,none,none,none,none,none]) (kA.pk q rfl hq) Zal hql rfl
 refine Zae hh ?_
 rintro f S1 ⟨⟨y2,y3,rfl⟩,⟨bs,hK,b1,b2,hb⟩,k1⟩
 have k01:Kp (some q) S.length S S1:=kA.next k1 (Yad _)
 have hKq:some S.length≠some q:=fun z=>by have:=Option.some.inj z;omega
 simp
 refine Zae (Zap (k:=k+1) (n:=8) (k01.pk q rfl hq) (by decide) (by decide)) ?_
 rintro d S2 ⟨⟨x,hd,x0,x1⟩,k2⟩
 subst hd
 have k02:=k01.nx k2
 have hK2:=k2.get hK (Zac hK) hKq
 try simp
 refine Zae (Zap (k:=k+1) (n:=1+x) (k02.pk q rfl hq) (by omega) (by omega)) ?_
 rintro d S3 ⟨⟨y,hd,y0,y1⟩,k3⟩
 subst hd
 have k03:=k02.nx k3
 have hK3:=k3.get hK2 (Zac hK2) hKq
 try simp
 refine Zae (Zap (k:=k+1) (n:=1+y) (k03.pk q rfl hq) (by omega) (by omega)) ?_
 rintro d S4 ⟨⟨z,hd,z0,z1⟩,k4⟩
 subst hd
 have k04:=k03.nx k4
 have hK4:=k4.get hK3 (Zac hK3) hKq
 have hK4l:=Zac hK4
 try simp
 have hq4:q<S4.length:=by have:=k04.len;omega
 have kB:Kp (some q) S4.length S4 (S4++[.lst []]):=Kp.snoc (by intro q' e;cases e;exact hq4)
 have hh2:=ZcX (k:=k) (S:=S4++[.lst []]) (K:=S.length) (R:=S4.length) (bs:=bs) (m:=1+x) (w:=1+y) (dr:=z) (y2:=y2) (y3:=y3) (y9:=none) (y10:=none) (y11:=none) (y12:=none) (kB.pk q rfl (k04.pk q rfl hq)) (by rw [Yar hK4l];exact hK4) Zal hK4l hq4 (by omega) b1 b2 hb (by omega) (by omega) (by omega) (by omega)
 simp only [E25] at hh2
 refine Zae hh2 ?_
 rintro f S5 ⟨⟨y3',l',y9,y10,y11,y12,rfl⟩,⟨rs,l,hR5,hrw⟩,hK5,k5⟩
 simp [Zad hK5,Zad hR5]
 have hlen:=hrw.len
 have hc:=hrw.cost
 have hl:=hrw.left
 refine⟨⟨⟨bs,z,1+y,rs⟩,rfl,⟨b1,b2,hb,?_,?_,?_,?_,z0,z1,hrw.row,?_⟩⟩,(k04.nx kB).next k5 (by have:=k04.len;omega)⟩
 ·show 1≤rs.length;omega
 ·show rs.length≤8;omega
 ·show 1≤1+y;omega
 ·show 1+y≤(rs.length:Int);omega
 ·show (rs.map Tr.cost).sum≤16;omega
noncomputable def bit:Bx:=⟨"whole",2,0⟩
noncomputable def tF:Tp:=⟨[bit],1,3,[.wr 0 1,.lk "others" 0 [0] 2,.wr 0 0]⟩
noncomputable def tO:Tp:=⟨[bit],0,6,[.wr 0 0,.lk "lower" 0 [0] 2,.wr 0 1,.lk "lower" 0 [0] 1,.lk "higher" 0 [0] 5,.wr 0 0]⟩
theorem bitk:bit.ok:=⟨.inl rfl,by decide,by decide,by decide,by decide⟩
noncomputable def Tr.okB (ks:List Bx) (w:Int) (j:Nat):Tr→Bool
 | .wr k x=>decide (0≤k)&&(match ks[k.toNat]? with|some b=>decide (0≤x)&&decide (x<b.n)|none=>false)
 | .lk s k ns p=>(decide (s="others")||decide (s="lower")||decide (s="higher"))&&decide (0≤k)&&(match ks[k.toNat]? with|some b=>ns.isEmpty||(decide (ns=[0])&&decide (1≤b.n))|none=>false)&&decide (1≤p)&&decide (p≤w)&&decide ((j:Int)+1<w)
theorem Zm7 {ks:List Bx} {w:Int} {j:Nat} {r:Tr} (h:r.okB ks w j=true):r.okW ks∨(r.okL ks w∧(j:Int)+1<w):=by
 cases r with
 |wr kd x=>
  simp only [Tr.okB,Yan,decide_eq_true_eq] at h
  cases e:ks[kd.toNat]? with
  |none=>rw [e] at h;exact absurd h.2 (by simp)
  |some b=>rw [e] at h;simp only [Yan,decide_eq_true_eq] at h;exact .inl ⟨h.1,b,e,h.2.1,h.2.2⟩
 |lk s kd ns p=>
  simp only [Tr.okB,Yan,Ya8,decide_eq_true_eq] at h
  obtain⟨⟨⟨⟨⟨h1,h2⟩,h3⟩,h4⟩,h5⟩,h6⟩:=h
  cases e:ks[kd.toNat]? with
  |none=>rw [e] at h3;exact absurd h3 (by simp)
  |some b=>
   rw [e] at h3
   simp only [Yan,Ya8,decide_eq_true_eq,List.isEmpty_iff] at h3
   refine .inr ⟨⟨by rcases h1 with (h1|h1)|h1;exact .inl h1;exact .inr (.inl h1);exact .inr (.inr h1),h2,⟨b,e,?_⟩,h4,h5⟩,h6⟩
   rcases h3 with rfl|⟨rfl,hb⟩
   ·trivial
   ·exact⟨by decide,by omega,trivial⟩
theorem Zhu {ks:List Bx} {w:Int} {rs:List Tr} (h:(Yau rs.length).all (fun j=>match rs[j]? with|some r=>r.okB ks w j|none=>true)=true):∀(j:Nat) (r:Tr),rs[j]?=some r→r.okW ks∨(r.okL ks w∧(j:Int)+1<w):=fun j r e=>by
 have:=YaX.mp h j (YaN.mpr (Yac.mp e).1)
 rw [e] at this
 exact Zm7 this
theorem tFk:tF.ok:=⟨by decide,by decide,by intro b hb;rw [YaI.mp hb];exact bitk,by decide,by decide,by decide,by decide,by decide,by decide,Zhu (by decide+kernel),by decide⟩
theorem tOk:tO.ok:=⟨by decide,by decide,by intro b hb;rw [YaI.mp hb];exact bitk,by decide,by decide,by decide,by decide,by decide,by decide,Zhu (by decide+kernel),by decide⟩
theorem ZbB:cl fns (k+1) 30 [.int 0] S=.ok tF.d S:=by rfl
theorem ZbA:cl fns (k+1) 30 [.int 1] S=.ok tO.d S:=by rfl
theorem Zb6 (hq:Pk q S):Wp (cl fns (k+4) 31 [.obj q] S) fun d S'=>(∃t:Tp,d=t.d∧t.ok)∧Kp (some q) S.length S S':=by
 refine wp_cl (fn:=⟨1,2,Zar⟩) rfl rfl ?_
 simp [Zar]
 refine Zae (Zap (k:=k+2) (n:=5) hq (by decide) (by decide)) ?_
 rintro d S1 ⟨⟨x,hd,x0,x1⟩,k1⟩
 subst hd
 by_cases c:x<2
 ·have:x=0∨x=1:=by omega
  rcases this with rfl|rfl
  ·simp [ZbB]
   exact⟨⟨tF,rfl,tFk⟩,k1⟩
  ·simp [ZbA]
   exact⟨⟨tO,rfl,tOk⟩,k1⟩
 ·simp [c]
  refine Zae (ZdC (k:=k) (k1.pk q rfl hq)) ?_
  rintro d S2 ⟨⟨t,hd,ok⟩,k2⟩
  subst hd
  simp
  exact⟨⟨t,rfl,ok⟩,k1.nx k2⟩
end
end Lw
namespace Lw
open PySem L2 Py
noncomputable def partS (d w p:Int):Str:=if p=0 then "outside" else if p≤d then "doorway" else if p<w then "waiting" else if p=w then "within" else "leaving"
section
variable {S:Sto} {k:Nat}
theorem slc3 {a b c:D}:slcD (.tup [a,b,c]) none (some 2) S=.ok (.tup [a,b]) S:=rfl
theorem Zic {p:Pg} {q:Int}:cl fns (k+1) 9 [p.d,.int q] S=.ok (.str (partS p.door p.within q)) S:=by
 rw [ZaK (fn:=⟨2,4,ZaT⟩) rfl]
 unfold partS
 by_cases h0:q=0
 ·simp [-Zaa,runF,ZaT,Pg.d,slc3,h0,-slc_t]
 ·by_cases h1:q≤p.door
  ·simp [-Zaa,runF,ZaT,Pg.d,slc3,h0,h1,-slc_t]
  ·by_cases h2:q<p.within
   ·simp [-Zaa,runF,ZaT,Pg.d,slc3,h0,h1,h2,-slc_t]
   ·by_cases h3:q=p.within
    ·subst h3
     simp [-Zaa,runF,ZaT,Pg.d,slc3,h0,h1,h2,-slc_t]
    ·simp [-Zaa,runF,ZaT,Pg.d,slc3,h0,h1,h2,h3,-slc_t]
theorem Zf3 {w:Wy} (h:w.ok):Wp (cl fns (k+7) 7 [w.d] S) fun d S'=>d=.non∧Kp none S.length S S':=by
 refine wp_cl (fn:=⟨1,1,Zbf⟩) rfl rfl ?_
 simp [Zbf]
 refine Zae (Zjw (k:=k) h) ?_
 rintro d S1 ⟨hd,k1⟩
 subst hd
 simp
 exact k1
theorem Zft {w:Wy} {i:Int} (h:w.ok) (h0:0≤i) (h1:i<w.hs.length):Wp (cl fns (k+8) 8 [w.d,.int i] S) fun d S'=>d=.non∧Kp none S.length S S':=by
 refine wp_cl (fn:=⟨2,2,ZaZ⟩) rfl rfl ?_
 simp [ZaZ]
 refine Zae (Zf3 (k:=k) h) ?_
 rintro d S1 ⟨hd,k1⟩
 subst hd
 have e1:=Zak (k:=k+5) (S:=S1) (i:=i) (lo:=0) (hi:=(w.hs.length:Int) -1) h0 (by omega)
 simp [Wy.d,e1]
 exact k1
theorem Zid {w:Wy} {j:Nat} {p:Pg} {q:Int} (h:w.ok) (hp:w.hs[j]?=some p) (h0:0≤q) (h1:q≤p.rows.length):Wp (cl fns (k+9) 6 [w.d,.int (j:Int),.int q] S) fun d S'=>d=.str (partS p.door p.within q)∧Kp none S.length S S':=by
 have hlt:=(Yac.mp hp).1
 refine wp_cl (fn:=⟨3,3,ZbV⟩) rfl rfl ?_
 simp [ZbV]
 refine Zae (Zft (k:=k) h (by omega) (by omega)) ?_
 rintro d S1 ⟨hd,k1⟩
 subst hd
 have ei:∀S,idxD (.tup (w.hs.map Pg.d)) (.int (j:Int)) S=.ok p.d S:=fun S=>ZeL (by rw [Yam,hp];rfl)
 have e2:∀S,idxD p.d (.int 2) S=.ok (.tup (p.rows.map Rw.d)) S:=fun S=>by simp [Pg.d]
 have e1:=Zak (k:=k+6) (S:=S1) (i:=q) (lo:=0) (hi:=p.rows.length) h0 h1
 have e3:=Zic (k:=k+7) (S:=S1) (p:=p) (q:=q)
 simp [Wy.d,ei,e2,e1,e3]
 exact k1
end
end Lw
namespace Lw
open PySem L2 Py
section
variable {α:Type}
theorem Zb2 {p:Key×α} {l:List (Key×α)} {k:Key}:lkv (p::l) k=if p.1=k then some p.2 else lkv l k:=by
 unfold lkv
 rw [List.find?_cons]
 by_cases e:p.1=k
 ·rw [decide_eq_true e,if_pos e];rfl
 ·rw [decide_eq_false e,if_neg e]
theorem ZhT {k j:Key} {v:α}:∀{l:List (Key×α)},lkv (l.map fun kv=>if kv.1=k then (kv.1,v) else kv) j=(lkv l j).map fun x=>if j=k then v else x
 | []=>rfl
 |p::l=>by
  rw [YaK,Zb2,Zb2,ZhT (l:=l)]
  by_cases h:p.1=k
  ·rw [if_pos h]
   by_cases e:p.1=j
   ·rw [if_pos e,if_pos e,Ybk,if_pos (e.symm.trans h)]
   ·rw [if_neg e,if_neg e]
  ·rw [if_neg h]
   by_cases e:p.1=j
   ·rw [if_pos e,if_pos e,Ybk,if_neg (fun z=>h (e.trans z))]
   ·rw [if_neg e,if_neg e]
theorem ZhV {k:Key}:∀{l:List (Key×α)},(l.any fun kv=>decide (kv.1=k))=(lkv l k).isSome
 | []=>rfl
 |p::l=>by
  rw [Yba,Zb2,ZhV (l:=l)]
  by_cases e:p.1=k
  ·rw [decide_eq_true e,if_pos e];rfl
  ·rw [decide_eq_false e,if_neg e,Yb1]
theorem ZhU {j:Key} {q:Key×α}:∀{l:List (Key×α)},lkv (l++[q]) j=(lkv l j).or (if q.1=j then some q.2 else none)
 | []=>by rw [YbC,Zb2];rfl
 |p::l=>by
  rw [List.cons_append,Zb2,Zb2,ZhU (l:=l)]
  by_cases e:p.1=j
  ·rw [if_pos e,if_pos e];rfl
  ·rw [if_neg e,if_neg e]
theorem Zlr {l:List (Key×α)} {k j:Key} {v:α}:lkv (pkv l k v) j=if j=k then some v else lkv l j:=by
 unfold pkv
 rw [ZhV]
 split
 ·rename_i h
  rw [ZhT]
  by_cases e:j=k
  ·subst e
   obtain⟨x,hx⟩:=Ybm.mp h
   rw [hx,if_pos rfl,Ybk,if_pos rfl]
  ·rw [if_neg e]
   cases lkv l j with
   |none=>rfl
   |some x=>rw [Ybk,if_neg e]
 ·rename_i h
  rw [ZhU]
  by_cases e:j=k
  ·subst e
   cases q:lkv l j with
   |none=>rw [if_pos rfl];simp
   |some x=>rw [q] at h;exact absurd rfl h
  ·rw [if_neg e,if_neg (fun z=>e z.symm)]
   cases lkv l j<;>rfl
end
section
variable {S:Sto} {k:Nat}
theorem Zka {L:Nat} {kvs:List (Key×D)} (h:S[L]?=some (.dct kvs)):isDw (.dic L) S=true:=by simp [isDw,dwOf,h]
theorem dgt_i {L:Nat} {kvs:List (Key×D)} {i:Int} {z:D} (h:S[L]?=some (.dct kvs)):dgtD (.dic L) (.tup [.int i,z]) S=.ok ((lkv kvs (.inl i)).getD z) S:=by simp [dgtD,dwOf,h,keyD]
theorem set_i {L:Nat} {kvs:List (Key×D)} {i:Int} {d:D} (h:S[L]?=some (.dct kvs)) (hl:kvs.length<100000):setKD (.dic L) (.int i) d S=.ok () (S.set L (.dct (pkv kvs (.inl i) d))):=by simp [setKD,dwOf,h,keyD,hl]
theorem set_s {L:Nat} {kvs:List (Key×D)} {i:Str} {d:D} (h:S[L]?=some (.dct kvs)) (hl:kvs.length<100000):setKD (.dic L) (.str i) d S=.ok () (S.set L (.dct (pkv kvs (.inr i) d))):=by simp [setKD,dwOf,h,keyD,hl]
theorem dix_s {L:Nat} {kvs:List (Key×D)} {i:Str} {d:D} (h:dcOf S L=some kvs) (hi:lkv kvs (.inr i)=some d):dixD (.dic L) (.str i) S=.ok d S:=by simp [dixD,h,keyD,hi]
theorem Zkc {L:Nat} {kvs:List (Key×D)} (h:S[L]?=some (.dct kvs)):dcOf S L=some kvs:=by simp [dcOf,h]
theorem Zn6 {L:Nat} {kvs:List (Key×D)} (h:S[L]?=some (.sdc kvs)):dcOf S L=some kvs:=by simp [dcOf,h]
theorem ZhM {a b:Bool}:op2 .ne (.bl a) (.bl b) S=.ok (.bl (!decide (a=b))) S:=rfl
theorem Zc6 {t:Tp} {b:Int} (k1:1≤t.ks.length) (k2:t.ks.length≤2):cl fns (k+1) 32 [t.d,.int b] S=.ok (.int (b / (t.ks.length:Int))) S:=by
 rw [ZaK (fn:=⟨2,2,Za0⟩) rfl]
 have e1:op2 .fdiv (.int b) (.int (t.ks.length:Int)) S=.ok (.int (b / (t.ks.length:Int))) S:=by
  simp only [op2,Za9]
  rw [if_pos (by omega)]
 simp [-Zaa,runF,Za0,Tp.d,e1]
noncomputable def lkAt (n:Nat) (j:Int):Rw→Bool
 | .wr .. =>false
 | .lk b _ _=>decide (b / (n:Int)=j)
noncomputable def cO (n:Nat) (j:Int) (R:List Rw):Nat:=R.countP (lkAt n j)
theorem ZfJ {h n:Nat} {kd:Int} (h0:0≤kd) (h1:kd<n):((h:Int)*(n:Int)+kd) / (n:Int)=h:=by
 rw [Int.add_comm,Int.add_mul_ediv_right _ _ (by omega),Int.ediv_eq_zero_of_lt h0 h1]
 omega
noncomputable def Own (h n:Nat):Rw→Prop
 | .wr b _=>b / (n:Int)=h
 | .lk b _ _=>b / (n:Int)≠h
theorem Zi8 {t:Tp} {h m:Nat} (ok:t.ok):∀r∈(t.prog m h).rows,Own h t.ks.length r:=by
 intro r hr
 obtain⟨x,hx,hr⟩:=List.mem_flatMap.mp hr
 have rk:=ok.rowok hx
 cases x with
 |wr kd y=>
  have:r=.wr ((h:Int)*t.ks.length+kd) y:=by simpa [Tr.out] using hr
  subst this
  rcases rk with ⟨h0,b,hb,_⟩|z
  ·have:=(Yac.mp hb).1
   exact ZfJ h0 (by omega)
  ·exact False.elim z
 |lk s kd ns p=>
  simp only [Tr.out,YaR] at hr
  obtain⟨j,hj,rfl⟩:=hr
  rcases rk with z|⟨_,h0,⟨b,hb,_⟩,_⟩
  ·exact False.elim z
  ·have hl:=(Yac.mp hb).1
   show ((j:Int)*t.ks.length+kd) / _≠_
   rw [ZfJ h0 (by omega)]
   have:=(YbB.mp hj).2
   intro z
   have:j=h:=by omega
   subst this
   simp [lkB] at*
noncomputable def Zet (h j:Nat):Tr→Bool
 | .wr .. =>false
 | .lk s .. =>lkB s h j
theorem Ze1 {j:Nat}:∀{m:Nat},(Yau m).countP (fun i=>decide (i=j))=if j<m then 1 else 0
 |0=>rfl
 |m+1=>by
  rw [YbU,Ybr,Ze1]
  by_cases c:m=j
  ·subst c;simp
  ·by_cases d:j<m
   ·simp [c,d,Nat.lt_succ_of_lt d]
   ·have:¬j<m+1:=by omega
    simp [c,d,this]
theorem ZfL {p:Nat→Bool} {m j:Nat} (hj:j<m):(((Yau m).filter p).countP fun i=>decide (i=j))=if p j=true then 1 else 0:=by
 rw [List.countP_filter]
 have e:(Yau m).countP (fun a=>decide (a=j)&&p a)=(Yau m).countP (fun a=>decide (a=j)&&p j):=by
  refine List.countP_congr fun a _=>?_
  by_cases c:a=j
  ·subst c;simp
  ·simp [c]
 rw [e]
 by_cases c:p j=true
 ·rw [if_pos c,c]
  simp only [Bool.and_true]
  rw [Ze1,if_pos hj]
 ·rw [if_neg c]
  have c':p j=false:=by simpa using c
  rw [c']
  simp
theorem Zl3 {t:Tp} {h m j:Nat} (ok:t.ok) (hj:j<m):cO t.ks.length j (t.prog m h).rows=t.rows.countP (Zet h j):=by
 show cO t.ks.length j (t.rows.flatMap _)=_
 have rk:∀x∈t.rows,x.okW t.ks∨x.okL t.ks t.within:=fun x hx=>ok.rowok hx
 generalize t.preI h m=pre
 generalize t.rows=rows at rk
 induction rows with
 |nil=>rfl
 |cons x rows ih=>
  have ih':=ih fun y hy=>rk y (Yas _ hy)
  unfold cO at ih'⊢
  rw [Ybl,Ybr,YbO,ih']
  have e:(x.out t.ks.length pre h m).countP (lkAt t.ks.length j)=if Zet h j x=true then 1 else 0:=by
   cases x with
   |wr kd y=>rfl
   |lk s kd ns p=>
    rcases rk _ Yaw with z|⟨_,h0,⟨b,hb,_⟩,_⟩
    ·exact False.elim z
    ·have hl:=(Yac.mp hb).1
     simp only [Tr.out,List.countP_map]
     rw [show Zet h j (Tr.lk s kd ns p)=lkB s h j from rfl,←ZfL (p:=lkB s h) hj]
     refine List.countP_congr fun i _=>?_
     show decide (((i:Int)*t.ks.length+kd) / _=_)=true↔_
     rw [ZfJ h0 (by omega)]
     simp
     omega
  rw [e]
  omega
end
end Lw
namespace Lw
open PySem L2 Py
section
variable {S:Sto} {k:Nat}
noncomputable def E33 (t:Tp) (m h L:Nat) (y8 y9 y10 y11 y12 y13:Option D):Nv:=[some t.d,some (t.way m).d,some (.int (h:Int)),some (.tup (t.ks.map Bx.d)),some (.int t.door),some (.int t.within),some (.tup (t.rows.map Tr.d)),some (.dic L),y8,y9,y10,y11,y12,y13]
theorem Zhb {t:Tp} {m h:Nat} (hh:h<m) {S:Sto}:idxD (.tup ((t.way m).hs.map Pg.d)) (.int (h:Int)) S=.ok (t.prog m h).d S:=ZeL (by
 rw [Yam,show (t.way m).hs[h]?=some (t.prog m h) by simp [Tp.way,hh]];rfl)
theorem Zeo {t:Tp} {h m:Nat} (ok:t.ok) (hh:h<m) (h4:m≤4):(t.prog m h).rows.length≤16:=by rw [Zen];exact cm_le ok hh h4
theorem rw_0w {b x:Int}:idxD (Rw.wr b x).d (.int 0) S=.ok (.str "write") S:=by simp [Rw.d]
theorem rw_1w {b x:Int}:idxD (Rw.wr b x).d (.int 1) S=.ok (.int b) S:=by simp [Rw.d]
theorem rw_0l {b p:Int} {ns:List Int}:idxD (Rw.lk b ns p).d (.int 0) S=.ok (.str "look") S:=by simp [Rw.d]
theorem rw_1l {b p:Int} {ns:List Int}:idxD (Rw.lk b ns p).d (.int 1) S=.ok (.int b) S:=by simp [Rw.d]
theorem Zix {n:Nat} {j:Int} {R:List Rw} {r:Rw}:cO n j (R++[r])=cO n j R+if lkAt n j r=true then 1 else 0:=by simp [cO,Ybr,YbO]
theorem Zcf {t:Tp} {m h L:Nat} {y8 y9 y10 y11 y12 y13:Option D} (ok:t.ok) (hh:h<m) (h4:m≤4) (hL:S[L]?=some (.dct [])):
  Wp (evS (cl fns (k+2)) Zbi (E33 t m h L y8 y9 y10 y11 y12 y13) S) fun r S'=>(∃y8 y9,r=.nx (E33 t m h L y8 y9 y10 y11 y12 y13))∧(∃kvs,S'[L]?=some (.dct kvs)∧∀j:Int,(lkv kvs (.inl j)).getD (.int 0)=.int ((cO t.ks.length j (t.prog m h).rows:Nat):Int))∧Kp none L S S':=by
 have hLl:=Zac hL
 have k1:=ok.k1
 have k2:=ok.k2
 have hR:=Zeo ok hh h4
 have own:=Zi8 (m:=m) (h:=h) ok
 have e2:∀S,idxD (t.prog m h).d (.int 2) S=.ok (.tup ((t.prog m h).rows.map Rw.d)) S:=fun S=>by simp [Pg.d]
 refine Zau (ZaN (J:=⟨(t.prog m h).rows.map Rw.d,none⟩) (S1:=S) (by simp [E33,Wy.d,Zhb hh,e2]) (fun i e S'=>(∃y8 y9,e=E33 t m h L y8 y9 y10 y11 y12 y13)∧(∃kvs,S'[L]?=some (.dct kvs)∧kvs.length≤i∧∀j:Int,(lkv kvs (.inl j)).getD (.int 0)=.int ((cO t.ks.length j ((t.prog m h).rows.take i):Nat):Int))∧Kp none L S S')
  ⟨⟨_,_,rfl⟩,⟨[],hL,Yad _,fun j=>rfl⟩,Kp.refl (by omega)⟩ (fun _ _ _ _ _=>rfl) (fun j x e S' hx hP=>?_) (fun e' S' hP=>?_))
 ·obtain⟨⟨z8,z9,rfl⟩,⟨kvs,hk,hkl,hkv⟩,kp⟩:=hP
  rw [Yam,Yao] at hx
  obtain⟨r,hr,rfl⟩:=hx
  have hjl:=(Yac.mp hr).1
  have ho:=own r (Yay hr)
  have tk:=ZaM hr
  cases r with
  |wr b y=>
   have ho':b / (t.ks.length:Int)=h:=ho
   simp [E33,rw_0w,rw_1w,Zc6 k1 k2,ho',ZhM,hwl]
   refine⟨⟨kvs,hk,by omega,fun i=>?_⟩,kp⟩
   rw [hkv i,tk,Zix]
   simp [lkAt]
  |lk b ns p=>
   have ho':¬b / (t.ks.length:Int)=h:=ho
   have hd:∀z,dgtD (.dic L) (.tup [.int (b / (t.ks.length:Int)),z]) S'=.ok ((lkv kvs (.inl (b / (t.ks.length:Int)))).getD z) S':=fun z=>dgt_i hk
   have hs:=fun d=>set_i (S:=S') (i:=b / (t.ks.length:Int)) (d:=d) hk (by omega)
   simp [E33,rw_0l,rw_1l,Zc6 k1 k2,ho',ZhM,hlw,Zka hk,hd,hkv,hs]
   refine⟨⟨_,ZaO hk,by have:=ZfI kvs (.inl (b / (t.ks.length:Int))) (D.int ((cO t.ks.length (b / (t.ks.length:Int)) ((t.prog m h).rows.take j):Nat)+1));omega,fun i=>?_⟩,Zb3 kp (Yad _)⟩
   rw [Zlr,tk,Zix]
   by_cases c:i=b / (t.ks.length:Int)
   ·subst c
    rw [if_pos rfl]
    simp [lkAt]
   ·rw [if_neg (by intro z;injection z with z;exact c z),hkv i]
    have c':¬b / (t.ks.length:Int)=i:=fun z=>c z.symm
    simp [lkAt,c']
 ·obtain⟨⟨z8,z9,rfl⟩,⟨kvs,hk,hkl,hkv⟩,kp⟩:=hP
  refine wp_ok.mpr ⟨⟨_,_,rfl⟩,⟨kvs,hk,fun j=>?_⟩,kp⟩
  rw [hkv j]
  simp
noncomputable def toldB (h j:Nat) (s:Str):Bool:=("others" :Str)==s||(if h<j then ("higher" :Str) else "lower")==s
noncomputable def lkT (h j:Nat):Tr→Bool
 | .wr .. =>false
 | .lk s .. =>toldB h j s
theorem Zkk {h j:Nat} {s:Str} (hs:isWh s) (hj:j≠h):toldB h j s=lkB s h j:=by
 have a1:¬(("lower" :Str)="others"):=by decide
 have a2:¬(("higher" :Str)="others"):=by decide
 have a3:¬(("others" :Str)="higher"):=by decide
 have a4:¬(("others" :Str)="lower"):=by decide
 have a5:¬(("lower" :Str)="higher"):=by decide
 have a6:¬(("higher" :Str)="lower"):=by decide
 rcases Nat.lt_or_gt_of_ne hj with c|c
 ·have c2:¬h<j:=by omega
  rcases hs with rfl|rfl|rfl<;>simp [toldB,lkB,c,c2,a1,a2,a3,a4,a5,a6]
 ·have c2:¬j<h:=by omega
  rcases hs with rfl|rfl|rfl<;>simp [toldB,lkB,c,c2,a1,a2,a3,a4,a5,a6]
theorem Zjm {t:Tp} {h j:Nat} (ok:t.ok) (hj:j≠h):t.rows.countP (lkT h j)=t.rows.countP (Zet h j):=by
 refine List.countP_congr fun x hx=>?_
 cases x with
 |wr _ _=>exact Iff.rfl
 |lk s kd ns p=>
  rcases ok.rowok hx with z|⟨hs,_⟩
  ·exact False.elim z
  ·rw [show lkT h j (Tr.lk s kd ns p)=toldB h j s from rfl,Zkk hs hj];exact Iff.rfl
theorem tr_0w {b x:Int}:idxD (Tr.wr b x).d (.int 0) S=.ok (.str "write") S:=by simp [Tr.d]
theorem tr_1w {b x:Int}:idxD (Tr.wr b x).d (.int 1) S=.ok (.int b) S:=by simp [Tr.d]
theorem tr_2w {b x:Int}:idxD (Tr.wr b x).d (.int 2) S=.ok (.int x) S:=by simp [Tr.d]
theorem tr_0l {s:Str} {b p:Int} {ns:List Int}:idxD (Tr.lk s b ns p).d (.int 0) S=.ok (.str "look") S:=by simp [Tr.d]
theorem tr_1l {s:Str} {b p:Int} {ns:List Int}:idxD (Tr.lk s b ns p).d (.int 1) S=.ok (.str s) S:=by simp [Tr.d]
end
end Lw
namespace Lw
open PySem L2 Py
section
variable {S:Sto} {k:Nat}
theorem ZjA {S:Sto} {a b:Nat} {xs:List D} (ha:lsOf S a=some xs) (hb:lsOf S b=some xs) (h:D.pls xs=true) (hd:D.dps xs≤50):eqA S (.obj a) (.obj b)=some true:=by
 have e:eqK (.obj a) (.obj b)=none:=rfl
 have hp:∀n,lsOf S n=some xs→pdS S (.obj n)=some (.list (D.pds xs)):=fun n hn=>by
  simp only [pdS,hn]
  rw [if_pos h]
 have hdp:(PyData.list (D.pds xs)).depth≤60:=by
  have:=D.depths_dps xs
  simp only [PyData.depth]
  omega
 unfold eqA
 rw [e]
 simp only [eqX,hp a ha,hp b hb]
 rw [if_pos hdp,PySem.SeqAt.eqv_refl _ (show PyData.canLay0 (.list (D.pds xs))=true from Zep xs h)]
theorem Zd7 {S:Sto} {a b:Nat} {xs:List D} (ha:lsOf S a=some xs) (hb:lsOf S b=some xs) (h:D.pls xs=true) (hd:D.dps xs≤50):op2 .eq (.obj a) (.obj b) S=.ok (.bl true) S:=by
 simp only [op2,o_eq,ZjA ha hb h hd]
noncomputable def tls (h j:Nat):List D:=[.str "others",.str (if h<j then "higher" else "lower")]
theorem ZiJ {h j:Nat}:∀x,x∈tls h j→flatD x=true:=by simp [tls,flatD]
theorem Zkl {h j:Nat} {s:Str}:((tls h j).any fun y=>eqF y (.str s))=toldB h j s:=by simp [tls,eqF,toldB]
theorem Zch {t:Tp} {m h L T j:Nat} {y8 y9 y10 y12 y13:Option D} (ok:t.ok) (hT:S[T]?=some (.lst (tls h j))):
  Wp (ev (cl fns k) Zbk (E33 t m h L y8 y9 y10 (some (.obj T)) y12 y13) S) fun d S'=>d=.obj S.length∧S'[S.length]?=some (.lst ((t.rows.filter (lkT h j)).map fun _=>D.int 1))∧Kp none S.length S S':=by
 refine ZbC (p:=none) (l:=t.rows) (f:=Tr.d) (g:=fun _=>D.int 1) (t:=lkT h j) (src:=none) (S1:=S) (fun e=>∃x,e=[none,x,some (.obj T)]) (by simp [E33]) (fun _ _=>rfl) (by have:=ok.r2;omega) (fun q e=>by cases e) ⟨_,rfl⟩ (fun x e S' hx hE _ hk=>?_)
 obtain⟨z,rfl⟩:=hE
 have hT':=hk.get0 hT (Zac hT)
 cases x with
 |wr a b=>exact⟨([none,some (Tr.wr a b).d,some (.obj T)],none),S',by simp [-Zaa,bodyC,tr_0w,hwl],⟨_,rfl⟩,by simp [lkT],Kp.rfl'⟩
 |lk s kd ns p=>
  refine⟨([none,some (Tr.lk s kd ns p).d,some (.obj T)],if toldB h j s=true then some (.int 1) else none),S',?_,⟨_,rfl⟩,rfl,Kp.rfl'⟩
  have hfs:flatD (.str s)=true:=rfl
  cases c:toldB h j s<;>simp [-Zaa,bodyC,tr_0l,tr_1l,Zad hT',Zkl,c,hfs]<;>rw [if_pos ZiJ]<;>rfl
noncomputable def isWR:Rw→Bool
 | .wr .. =>true
 | .lk .. =>false
noncomputable def isWT:Tr→Bool
 | .wr .. =>true
 | .lk .. =>false
noncomputable def gR (h n:Nat):Rw→D
 | .wr b x=>.tup [.int (b- (h:Int)*n),.int x]
 | .lk .. =>.non
noncomputable def gT:Tr→D
 | .wr b x=>.tup [.int b,.int x]
 | .lk .. =>.non
theorem Zha {t:Tp} {h m:Nat}:((t.prog m h).rows.filter isWR).map (gR h t.ks.length)=(t.rows.filter isWT).map gT:=by
 show ((t.rows.flatMap _).filter _).map _=_
 generalize t.preI h m=pre
 generalize t.rows=rows
 induction rows with
 |nil=>rfl
 |cons x rows ih=>
  rw [Ybl,Ybs,Ya4,ih]
  cases x with
  |wr kd y=>
   have:(h:Int)*t.ks.length+kd- (h:Int)*t.ks.length=kd:=by omega
   simp [Tr.out,List.filter_cons,isWR,isWT,gR,gT,this]
  |lk s kd ns p=>
   have e:((Tr.lk s kd ns p).out t.ks.length pre h m).filter isWR=[]:=by
    rw [List.filter_eq_nil_iff]
    intro r hr
    simp only [Tr.out,YaR] at hr
    obtain⟨i,_,rfl⟩:=hr
    simp [isWR]
   rw [e]
   simp [List.filter_cons,isWT]
theorem rw_2w {b x:Int}:idxD (Rw.wr b x).d (.int 2) S=.ok (.int x) S:=by simp [Rw.d]
theorem Zci {t:Tp} {m h L:Nat} {y8 y9 y10 y11 y12 y13:Option D} (ok:t.ok) (hh:h<m) (h4:m≤4):
  Wp (ev (cl fns k) Zbl (E33 t m h L y8 y9 y10 y11 y12 y13) S) fun d S'=>d=.obj S.length∧S'[S.length]?=some (.lst ((t.rows.filter isWT).map gT))∧Kp none S.length S S':=by
 have hR:=Zeo ok hh h4
 have e2:∀S,idxD (t.prog m h).d (.int 2) S=.ok (.tup ((t.prog m h).rows.map Rw.d)) S:=fun S=>by simp [Pg.d]
 rw [←Zha (h:=h) (m:=m)]
 refine ZbC (p:=none) (l:=(t.prog m h).rows) (f:=Rw.d) (g:=gR h t.ks.length) (t:=isWR) (src:=none) (S1:=S) (fun e=>∃x,e=[none,x,some (.int (h:Int)),some (.tup (t.ks.map Bx.d))]) (by simp [E33,Wy.d,Zhb hh,e2]) (fun _ _=>rfl) (by omega) (fun q e=>by cases e) ⟨_,rfl⟩ (fun x e S' hx hE _ hk=>?_)
 obtain⟨z,rfl⟩:=hE
 have em:=fun S=>mulS (S:=S) (a:=(h:Int)) (b:=(t.ks.length:Int)) (by omega)
 cases x with
 |wr a b=>exact⟨([none,some (Rw.wr a b).d,some (.int (h:Int)),some (.tup (t.ks.map Bx.d))],some (gR h t.ks.length (.wr a b))),S',by simp [-Zaa,bodyC,rw_0w,rw_1w,rw_2w,em,gR],⟨_,rfl⟩,by simp [isWR],Kp.rfl'⟩
 |lk b ns p=>exact⟨([none,some (Rw.lk b ns p).d,some (.int (h:Int)),some (.tup (t.ks.map Bx.d))],none),S',by simp [-Zaa,bodyC,rw_0l,hlw],⟨_,rfl⟩,by simp [isWR],Kp.rfl'⟩
theorem Zcj {t:Tp} {m h L:Nat} {y8 y9 y10 y11 y12 y13:Option D} (ok:t.ok):
  Wp (ev (cl fns k) Zbm (E33 t m h L y8 y9 y10 y11 y12 y13) S) fun d S'=>d=.obj S.length∧S'[S.length]?=some (.lst ((t.rows.filter isWT).map gT))∧Kp none S.length S S':=by
 refine ZbC (p:=none) (l:=t.rows) (f:=Tr.d) (g:=gT) (t:=isWT) (src:=none) (S1:=S) (fun e=>∃x,e=[none,x]) (by simp [E33]) (fun _ _=>rfl) (by have:=ok.r2;omega) (fun q e=>by cases e) ⟨_,rfl⟩ (fun x e S' hx hE _ hk=>?_)
 obtain⟨z,rfl⟩:=hE
 cases x with
 |wr a b=>exact⟨([none,some (Tr.wr a b).d],some (gT (.wr a b))),S',by simp [-Zaa,bodyC,tr_0w,tr_1w,tr_2w,gT],⟨_,rfl⟩,by simp [isWT],Kp.rfl'⟩
 |lk s kd ns p=>exact⟨([none,some (Tr.lk s kd ns p).d],none),S',by simp [-Zaa,bodyC,tr_0l,hlw],⟨_,rfl⟩,by simp [isWT],Kp.rfl'⟩
theorem Zcg {t:Tp} {m h L:Nat} {kvs:List (Key×D)} {y8 y9 y10 y11 y12 y13:Option D} (ok:t.ok) (hh:h<m) (h4:m≤4) (hL:S[L]?=some (.dct kvs)) (hkv:∀j:Int,(lkv kvs (.inl j)).getD (.int 0)=.int ((cO t.ks.length j (t.prog m h).rows:Nat):Int)):
  Wp (evS (cl fns (k+2)) Zbj (E33 t m h L y8 y9 y10 y11 y12 y13) S) fun r S'=>(∃y10 y11 y12,r=.nx (E33 t m h L y8 y9 y10 y11 y12 y13))∧Kp none S.length S S':=by
 have hLl:=Zac hL
 have hml:(t.way m).hs.length=m:=by simp [Tp.way]
 refine Zau (ZaN (J:=⟨Zaj 0 1 m,none⟩) (S1:=S) (by simp [E33,Wy.d,hml,Zdo (show m≤100000 by omega)]) (fun i e S'=>(∃y10 y11 y12,e=E33 t m h L y8 y9 y10 y11 y12 y13)∧Kp none S.length S S')
  ⟨⟨_,_,_,rfl⟩,Kp.rfl'⟩ (fun _ _ _ _ _=>rfl) (fun j x e S' hx hP=>?_) (fun e' S' hP=>?_))
 ·obtain⟨⟨z10,z11,z12,rfl⟩,kp⟩:=hP
  have hlt:=(Yac.mp hx).1
  rw [ZaH] at hlt
  rw [Zdi hlt] at hx
  cases hx
  have e1:idxD (.obj S'.length) (.int (if h<j then 1 else 0)) (S'++[.lst [.str "lower",.str "higher"]])=.ok (.str (if h<j then "higher" else "lower")) (S'++[.lst [.str "lower",.str "higher"]]):=by
   by_cases c:h<j
   ·rw [if_pos c,if_pos c];exact ZaR (Zad Zal) (by decide) rfl
   ·rw [if_neg c,if_neg c];exact ZaR (Zad Zal) (by decide) rfl
  have k1:Kp none S'.length S' (S'++[Cell.lst [.str "lower",.str "higher"],.lst (tls h j)]):=by
   have:=kn0 (c:=Cell.lst (tls h j)) (kn0 (c:=Cell.lst [.str "lower",.str "higher"]) (Kp.rfl' (p:=none) (S:=S')))
   rwa [Ya2] at this
  have hT:(S'++[Cell.lst [.str "lower",.str "higher"],.lst (tls h j)])[S'.length+1]?=some (.lst (tls h j)):=by
   rw [Yav (by omega)]
   simp
  simp [E33,e1]
  refine Zae (Zch (k:=k+2) (t:=t) (m:=m) (h:=h) (L:=L) (j:=j) (T:=S'.length+1) (S:=S'++[Cell.lst [.str "lower",.str "higher"],.lst (tls h j)]) ok hT) ?_
  rintro d S3 ⟨hd,hc,k3⟩
  subst hd
  have kp3:=(kp.nx k1).nx k3
  have hL3:=kp3.get0 hL hLl
  rw [YaQ] at hc
  have hc2:S3[S'.length+2]?=some (.lst ((t.rows.filter (lkT h j)).map fun _=>D.int 1)):=hc
  have hlen:(t.rows.filter (lkT h j)).length=t.rows.countP (lkT h j):=List.countP_eq_length_filter.symm
  simp [Zad hc2,hlen]
  by_cases c:j=h
  ·simp [c]
   exact kp3
  ·have eq:t.rows.countP (lkT h j)=cO t.ks.length j (t.prog m h).rows:=by rw [Zjm ok c,Zl3 ok hlt]
   have hd:∀z,dgtD (.dic L) (.tup [.int (j:Int),z]) S3=.ok ((lkv kvs (.inl (j:Int))).getD z) S3:=fun z=>dgt_i hL3
   have c':¬(j:Int)=(h:Int):=by omega
   simp [c',Zka hL3,hd,hkv,eq]
   exact kp3
 ·obtain⟨⟨z10,z11,z12,rfl⟩,kp⟩:=hP
  exact wp_ok.mpr ⟨⟨_,_,_,rfl⟩,kp⟩
theorem pl_gT {x:Tr}:(gT x).pl=true:=by cases x<;>rfl
theorem dp_gT {x:Tr}:(gT x).dp≤1:=by cases x<;>simp [gT,D.dp,D.dps]
theorem ZcR {t:Tp} {m h:Nat} (ok:t.ok) (hh:h<m) (h4:m≤4):Wp (cl fns (k+3) 33 [t.d,(t.way m).d,.int (h:Int)] S) fun d S'=>d=.bl true∧Kp none S.length S S':=by
 refine wp_cl (fn:=⟨3,14,Zaw⟩) rfl rfl ?_
 have ed:∀S,dspD [] (.tup []) S=.ok (.dic S.length) (S++[.dct []]):=fun S=>by simp [dspD,mkv]
 simp [Zaw,Tp.d,ed]
 have k0:Kp none S.length S (S++[Cell.dct []]):=Kp.snoc (by intro q e;cases e)
 have hh4:=Zcf (k:=k) (S:=S++[Cell.dct []]) (L:=S.length) (y8:=none) (y9:=none) (y10:=none) (y11:=none) (y12:=none) (y13:=none) ok hh h4 Zal
 simp only [E33,Tp.d] at hh4
 refine Zae hh4 ?_
 rintro f S1 ⟨⟨y8,y9,rfl⟩,⟨kvs,hL,hkv⟩,k1⟩
 have hh3:=Zcg (k:=k) (S:=S1) (L:=S.length) (y8:=y8) (y9:=y9) (y10:=none) (y11:=none) (y12:=none) (y13:=none) ok hh h4 hL hkv
 simp only [E33,Tp.d] at hh3
 simp
 refine Zae hh3 ?_
 rintro f S2 ⟨⟨y10,y11,y12,rfl⟩,k2⟩
 have hh1:=Zci (k:=k+2) (S:=S2) (L:=S.length) (y8:=y8) (y9:=y9) (y10:=y10) (y11:=y11) (y12:=y12) (y13:=none) ok hh h4
 simp only [E33,Tp.d] at hh1
 simp
 refine Zae hh1 ?_
 rintro d S3 ⟨hd,hc3,k3⟩
 subst hd
 have hh0:=Zcj (k:=k+2) (m:=m) (h:=h) (S:=S3) (L:=S.length) (y8:=y8) (y9:=y9) (y10:=y10) (y11:=y11) (y12:=y12) (y13:=some (.obj S2.length)) ok
 simp only [E33,Tp.d] at hh0
 simp
 refine Zae hh0 ?_
 rintro d S4 ⟨hd,hc4,k4⟩
 subst hd
 have hc3':=k4.get0 hc3 (Zac hc3)
 rw [Zd7 (Zad hc3') (Zad hc4) (D.pls_map (f:=gT) fun _ _=>pl_gT) (YaC (D.dps_map (f:=gT) (n:=1) fun _ _=>dp_gT) (by decide))]
 simp
 exact((k0.next k1 (Yad _)).nx k2).nx (k3.nx k4)
end
end Lw
namespace Lw
open PySem L2 Py
noncomputable def partT (t:Tp) (i:Nat):Str:=partS t.door t.within (1+(i:Int))
noncomputable def cmAt (t:Tp) (h m i:Nat):Nat:=match t.rows[i]? with
 |some r=>r.cm h m
 |none=>0
noncomputable def dueN (t:Tp) (h m:Nat) (w:Str):Nat→Nat
 |0=>0
 |i+1=>dueN t h m w i+if partT t i=w then cmAt t h m i else 0
theorem ZhK {t:Tp} {h m i p:Nat} (ok:t.ok) (hi:i<t.rows.length) (h0:t.pre h m i≤p) (h1:p<t.pre h m (i+1)):partS (t.prog m h).door (t.prog m h).within (1+(p:Int))=partT t i:=by
 have d1:=ok.d1
 have d2:=ok.d2
 have w1:=ok.w1
 have w2:=ok.w2
 obtain⟨dN,hd⟩:∃dN:Nat,t.door=dN:=⟨t.door.toNat,by omega⟩
 obtain⟨wN,hw⟩:∃wN:Nat,t.within=(wN:Int)+1:=⟨(t.within-1).toNat,by omega⟩
 have pd:(t.prog m h).door=((t.pre h m dN:Nat):Int):=by simp [Tp.prog,Tp.preI,hd]
 have pw:(t.prog m h).within=((t.pre h m wN:Nat):Int)+1:=by
  simp only [Tp.prog,Tp.preI,hw]
  rw [show ((wN:Int)+1-1).toNat=wN by omega]
 have m1:=ZaP (t:=t) (h:=h) (m:=m) (i:=dN) (j:=wN) (by omega)
 unfold partT partS
 rw [pd,pw,hd,hw]
 rw [if_neg (show ¬(1+(p:Int)=0) by omega),if_neg (show ¬(1+(i:Int)=0) by omega)]
 by_cases c1:i<dN
 ·have:=ZaP (t:=t) (h:=h) (m:=m) (i:=i+1) (j:=dN) (by omega)
  rw [if_pos (show (1+(p:Int)≤((t.pre h m dN:Nat):Int)) by omega),if_pos (show (1+(i:Int)≤(dN:Int)) by omega)]
 ·have:=ZaP (t:=t) (h:=h) (m:=m) (i:=dN) (j:=i) (by omega)
  rw [if_neg (show ¬(1+(p:Int)≤((t.pre h m dN:Nat):Int)) by omega),if_neg (show ¬(1+(i:Int)≤(dN:Int)) by omega)]
  by_cases c2:i<wN
  ·have:=ZaP (t:=t) (h:=h) (m:=m) (i:=i+1) (j:=wN) (by omega)
   rw [if_pos (show (1+(p:Int)<((t.pre h m wN:Nat):Int)+1) by omega),if_pos (show (1+(i:Int)<(wN:Int)+1) by omega)]
  ·have mm:=ZaP (t:=t) (h:=h) (m:=m) (i:=wN) (j:=i) (by omega)
   rw [if_neg (show ¬(1+(p:Int)<((t.pre h m wN:Nat):Int)+1) by omega),if_neg (show ¬(1+(i:Int)<(wN:Int)+1) by omega)]
   have hr:t.rows[wN]?=some t.rows[wN]:=Yaf (by omega)
   have c1:(t.rows[wN]).cm h m=1:=by
    rcases ok.row wN _ hr with z|⟨_,z⟩
    ·generalize t.rows[wN]=r at z
     cases r with
     |wr _ _=>rfl
     |lk _ _ _ _=>exact False.elim z
    ·omega
   have nx:=Zcn (t:=t) (h:=h) (m:=m) hr
   by_cases c3:i=wN
   ·subst c3
    rw [if_pos (show (1+(p:Int)=((t.pre h m i:Nat):Int)+1) by omega),if_pos (show (1+(i:Int)=(i:Int)+1) by omega)]
   ·have:=ZaP (t:=t) (h:=h) (m:=m) (i:=wN+1) (j:=i) (by omega)
    rw [if_neg (show ¬(1+(p:Int)=((t.pre h m wN:Nat):Int)+1) by omega),if_neg (show ¬(1+(i:Int)=(wN:Int)+1) by omega)]
theorem Zdq {t:Tp} {h m:Nat} {w:Str} (ok:t.ok):∀i,i≤t.rows.length→((Yau (t.pre h m i)).map fun(p:Nat)=>partS (t.prog m h).door (t.prog m h).within (1+(p:Int))).countP (· ==w)=dueN t h m w i
 |0,_=>by simp [Tp.pre,dueN]
 |i+1,hi=>by
  have hr:t.rows[i]?=some t.rows[i]:=Yaf (by omega)
  have nx:=Zcn (t:=t) (h:=h) (m:=m) hr
  have ih:=Zdq (w:=w) ok (h:=h) (m:=m) i (by omega)
  rw [nx,List.range_add,Ya4,Ybr,ih]
  show _=dueN t h m w i+_
  congr 1
  have e:(((Yau ((t.rows[i]).cm h m)).map fun x=>t.pre h m i+x).map fun(p:Nat)=>partS (t.prog m h).door (t.prog m h).within (1+(p:Int)))=Yaq ((t.rows[i]).cm h m) (partT t i):=by
   rw [List.eq_replicate_iff]
   refine⟨by simp,fun x hx=>?_⟩
   simp only [YbG,YaR,YaN] at hx
   obtain⟨a,ha,rfl⟩:=hx
   exact ZhK ok (by omega) (by dsimp only;omega) (by dsimp only;omega)
  rw [e]
  have ca:cmAt t h m i=(t.rows[i]).cm h m:=by unfold cmAt;rw [hr]
  by_cases c:partT t i=w
  ·rw [if_pos c,List.countP_eq_length.mpr fun x hx=>by rw [(List.mem_replicate.mp hx).2];simp [c]]
   simp [ca]
  ·rw [if_neg c,List.countP_eq_zero.mpr fun x hx=>by rw [(List.mem_replicate.mp hx).2];simp [c]]
theorem Ze5 {t:Tp} (i:Nat) (ok:t.ok):partT t i=(if t.within≤1+(i:Int) then (if t.within<1+(i:Int) then ("leaving" :Str) else "within") else if t.door<1+(i:Int) then "waiting" else "doorway"):=by
 have d2:=ok.d2
 unfold partT partS
 rw [if_neg (by omega)]
 by_cases c1:1+(i:Int)≤t.door
 ·rw [if_pos c1,if_neg (show ¬(t.within≤1+(i:Int)) by omega),if_neg (show ¬(t.door<1+(i:Int)) by omega)]
 ·rw [if_neg c1]
  by_cases c2:1+(i:Int)<t.within
  ·rw [if_pos c2,if_neg (show ¬(t.within≤1+(i:Int)) by omega),if_pos (show (t.door<1+(i:Int)) by omega)]
  ·rw [if_neg c2]
   by_cases c3:1+(i:Int)=t.within
   ·rw [if_pos c3,if_pos (show (t.within≤1+(i:Int)) by omega),if_neg (show ¬(t.within<1+(i:Int)) by omega)]
   ·rw [if_neg c3,if_pos (show (t.within≤1+(i:Int)) by omega),if_pos (show (t.within<1+(i:Int)) by omega)]
noncomputable def W4:List Str:=["doorway","waiting","within","leaving"]
theorem ZhJ {t:Tp} (i:Nat) (ok:t.ok):partT t i="doorway" ∨partT t i="waiting" ∨partT t i="within" ∨partT t i="leaving" :=by
 rw [Ze5 i ok]
 split
 ·split
  ·exact .inr (.inr (.inr rfl))
  ·exact .inr (.inr (.inl rfl))
 ·split
  ·exact .inr (.inl rfl)
  ·exact .inl rfl
noncomputable def dueL (t:Tp) (h m i:Nat):List (Key×D):=W4.map fun w=>(.inr w,.int ((dueN t h m w i:Nat):Int))
theorem ZlS {t:Tp} {h m i j:Nat} (ok:t.ok):lkv (dueL t h m i) (.inr (partT t j))=some (.int ((dueN t h m (partT t j) i:Nat):Int)):=by
 rcases ZhJ j ok with e|e|e|e<;>rw [e]<;>rfl
theorem ZlR {t:Tp} {h m i:Nat} (ok:t.ok):pkv (dueL t h m i) (.inr (partT t i)) (.int (((dueN t h m (partT t i) i:Nat):Int)+((cmAt t h m i:Nat):Int)))=dueL t h m (i+1):=by
 have nxt:∀w,dueN t h m w (i+1)=dueN t h m w i+if partT t i=w then cmAt t h m i else 0:=fun w=>rfl
 have n1:¬(("doorway" :Str)="waiting"):=by decide
 have n2:¬(("doorway" :Str)="within"):=by decide
 have n3:¬(("doorway" :Str)="leaving"):=by decide
 have n4:¬(("waiting" :Str)="within"):=by decide
 have n5:¬(("waiting" :Str)="leaving"):=by decide
 have n6:¬(("within" :Str)="leaving"):=by decide
 have n1':¬(("waiting" :Str)="doorway"):=by decide
 have n2':¬(("within" :Str)="doorway"):=by decide
 have n3':¬(("leaving" :Str)="doorway"):=by decide
 have n4':¬(("within" :Str)="waiting"):=by decide
 have n5':¬(("leaving" :Str)="waiting"):=by decide
 have n6':¬(("leaving" :Str)="within"):=by decide
 rcases ZhJ i ok with e|e|e|e<;>simp [e,dueL,W4,nxt,pkv,n1,n2,n3,n4,n5,n6,n1',n2',n3',n4',n5',n6']
theorem Zjn:∀m,m<5→∀h,h<m→(lkd "others" h m).length=m-1∧(lkd "lower" h m).length=h∧(lkd "higher" h m).length=m-1-h:=by decide+kernel
theorem Zgf {α:Type} {f:α→Str}:∀{l:List α},Zcl (l.map fun r=>D.str (f r))=some (l.map f)
 | []=>rfl
 |x::r=>by simp [Zcl,Zgf (l:=r)]
end Lw
namespace Lw
open PySem L2 Py
section
variable {S:Sto} {k:Nat}
noncomputable def E34 (t:Tp) (m h L:Nat) (y8 y9 y10 y11 y12:Option D):Nv:=[some t.d,some (t.way m).d,some (.int (h:Int)),some (.tup (t.ks.map Bx.d)),some (.int t.door),some (.int t.within),some (.tup (t.rows.map Tr.d)),some (.dic L),y8,y9,y10,y11,y12]
noncomputable def cW (rest:PX):PX:=(.seq (.asg (.tnm 9) (.idx (.lst (.cons (.cst (.str "doorway")) (.cons (.cst (.str "waiting")) .nil))) (.blt .int (.cons (.op .gt (.var 8) (.var 4)) .nil))))
 (.seq (.ifs (.op .ge (.var 8) (.var 5)) (.seq (.asg (.tnm 9) (.idx (.lst (.cons (.cst (.str "within")) (.cons (.cst (.str "leaving")) .nil))) (.blt .int (.cons (.op .gt (.var 8) (.var 5)) .nil))))
 .skip) .skip) rest))
noncomputable def cC (rest:PX):PX:=(.seq (.asg (.tnm 10) (.cst (.int 1)))
 (.seq (.ifs (.op .eq (.idx (.idx (.var 6) (.op .sub (.var 8) (.cst (.int 1)))) (.cst (.int 0))) (.cst (.str "look"))) (.seq (.asg (.tnm 11) (.ddp [(.inr "others"),(.inr "lower"),(.inr "higher")] (.cons (.op .sub (.blt .len (.cons (.idx (.var 1) (.cst (.int 1))) .nil)) (.cst (.int 1))) (.cons (.var 2) (.cons (.op .sub (.op .sub (.blt .len (.cons (.idx (.var 1) (.cst (.int 1))) .nil)) (.cst (.int 1))) (.var 2)) .nil)))))
 (.seq (.asg (.tnm 10) (.dix (.var 11) (.idx (.idx (.var 6) (.op .sub (.var 8) (.cst (.int 1)))) (.cst (.int 1)))))
 .skip)) .skip) rest))
noncomputable def cS:PX:=(.seq (.asg (.tdx (.var 7) (.var 9)) (.op .add (.dix (.var 7) (.var 9)) (.var 10))) .skip)
noncomputable def ZbI:PX:=(.loop (.tnm 8) (.irng (.cons (.cst (.int 1)) (.cons (.op .add (.blt .len (.cons (.var 6) .nil)) (.cst (.int 1))) .nil))) (cW (cC cS)))
theorem pick2 {S:Sto} {a b:Str} {c:Prop} [Decidable c]:idxD (.obj S.length) (.int (if c then 1 else 0)) (S++[.lst [.str a,.str b]])=.ok (.str (if c then b else a)) (S++[.lst [.str a,.str b]]):=by
 by_cases h:c
 ·rw [if_pos h,if_pos h];exact ZaR (Zad Zal) (by decide) rfl
 ·rw [if_neg h,if_neg h];exact ZaR (Zad Zal) (by decide) rfl
theorem Zl7 {t:Tp} {m h L i:Nat} {y9 y10 y11 y12:Option D} {rest:PX} {Q:Fl→Sto→Prop} (ok:t.ok) (q:∀S',Kp none S.length S S'→Wp (evS (cl fns (k+1)) rest (E34 t m h L (some (.int (1+(i:Int)))) (some (.str (partT t i))) y10 y11 y12) S') Q):
  Wp (evS (cl fns (k+1)) (cW rest) (E34 t m h L (some (.int (1+(i:Int)))) y9 y10 y11 y12) S) Q:=by
 rw [Ze5 i ok] at q
 by_cases c:t.within≤1+(i:Int)
 ·rw [if_pos c] at q
  simp [cW,E34,pick2,c]
  have e2:=pick2 (S:=S++[Cell.lst [.str "doorway",.str "waiting"]]) (a:="within") (b:="leaving") (c:=t.within<1+(i:Int))
  rw [Ya2,YaQ] at e2
  have e3:idxD (.obj (S.length+1)) (.int (if t.within<1+(i:Int) then 1 else 0)) (S++[Cell.lst [.str "doorway",.str "waiting"],.lst [.str "within",.str "leaving"]])=.ok (.str (if t.within<1+(i:Int) then "leaving" else "within")) (S++[Cell.lst [.str "doorway",.str "waiting"],.lst [.str "within",.str "leaving"]]):=e2
  have kk:=kn0 (c:=Cell.lst [.str "within",.str "leaving"]) (kn0 (c:=Cell.lst [.str "doorway",.str "waiting"]) (Kp.rfl' (p:=none) (S:=S)))
  rw [Ya2] at kk
  simp [e3]
  exact q _ kk
 ·rw [if_neg c] at q
  simp [cW,E34,pick2,c]
  exact q _ (kn0 Kp.rfl')
noncomputable def K3 (m h:Nat):List (Key×D):=[(.inr "others",.int ((m:Int) -1)),(.inr "lower",.int (h:Int)),(.inr "higher",.int ((m:Int) -1- (h:Int)))]
theorem ZnR {m h:Nat} {s:Str} (hs:isWh s) (hh:h<m) (h4:m≤4):lkv (K3 m h) (.inr s)=some (.int (((lkd s h m).length:Nat):Int)):=by
 obtain⟨e1,e2,e3⟩:=Zjn m (by omega) h hh
 rcases hs with rfl|rfl|rfl
 ·rw [e1,show ((m-1:Nat):Int)=(m:Int) -1 by omega];rfl
 ·rw [e2];rfl
 ·rw [e3,show ((m-1-h:Nat):Int)=(m:Int) -1- (h:Int) by omega];rfl
theorem Zl9 {t:Tp} {m h L i:Nat} {y9 y10 y11 y12:Option D} {rest:PX} {Q:Fl→Sto→Prop} (ok:t.ok) (hh:h<m) (h4:m≤4) (hi:i<t.rows.length) (q:∀S' y11,Kp none S.length S S'→Wp (evS (cl fns (k+1)) rest (E34 t m h L (some (.int (1+(i:Int)))) y9 (some (.int ((cmAt t h m i:Nat):Int))) y11 y12) S') Q):
  Wp (evS (cl fns (k+1)) (cC rest) (E34 t m h L (some (.int (1+(i:Int)))) y9 y10 y11 y12) S) Q:=by
 have hr:t.rows[i]?=some t.rows[i]:=Yaf hi
 have rk:=ok.rowok (Yay hr)
 have ei:∀S,idxD (.tup (t.rows.map Tr.d)) (.int (i:Int)) S=.ok (t.rows[i]).d S:=fun S=>ZeL (by rw [Yam,hr];rfl)
 have hc:cmAt t h m i=(t.rows[i]).cm h m:=by unfold cmAt;rw [hr]
 have hml:(t.way m).hs.length=m:=by simp [Tp.way]
 rw [hc] at q
 generalize t.rows[i]=r at ei q rk
 have ea:(1:Int)+(i:Int) -1=i:=by omega
 cases r with
 |wr a b=>
  simp [cC,E34,ea,ei,tr_0w,hwl]
  exact q S _ Kp.rfl'
 |lk s kd ns p=>
  rcases rk with z|⟨hs,_⟩
  ·exact False.elim z
  ·have ed:∀S,dspD [.inr "others",.inr "lower",.inr "higher"] (.tup [.int ((m:Int) -1),.int (h:Int),.int ((m:Int) -1- (h:Int))]) S=.ok (.dic S.length) (S++[.dct (K3 m h)]):=fun S=>by
    have e:mkv [] ((List.zip [.inr "others",.inr "lower",.inr "higher"] [.int ((m:Int) -1),.int (h:Int),.int ((m:Int) -1- (h:Int))]):List (Key×D))=K3 m h:=by rfl
    simp only [dspD]
    rw [if_pos (by simp),e]
   have ex:=dix_s (S:=S++[.dct (K3 m h)]) (Zkc Zal) (ZnR hs hh h4)
   simp [cC,E34,ea,ei,tr_0l,tr_1l,Wy.d,hml,ed,ex]
   exact q _ _ (kn0 Kp.rfl')
end
end Lw
namespace Lw
open PySem L2 Py
section
variable {S:Sto} {k:Nat}
theorem ZjB {t:Tp} {h m i:Nat}:(dueL t h m i).length=4:=by simp [dueL,W4]
theorem ZbL {t:Tp} {m h L:Nat} {y8 y9 y10 y11 y12:Option D} (ok:t.ok) (hh:h<m) (h4:m≤4) (hL:S[L]?=some (.dct (dueL t h m 0))):
  Wp (evS (cl fns (k+1)) Za2 (E34 t m h L y8 y9 y10 y11 y12) S) fun r S'=>(∃y8 y9 y10 y11,r=.nx (E34 t m h L y8 y9 y10 y11 y12))∧S'[L]?=some (.dct (dueL t h m t.rows.length))∧Kp none L S S':=by
 have hLl:=Zac hL
 have r2:=ok.r2
 have er:rngOf (.tup [.int 1,.int ((t.rows.length:Int)+1)])=some ⟨Zaj 1 1 t.rows.length,none⟩:=by
  rw [Zgk ⟨by omega,by omega,by omega,by omega⟩]
  congr 3
  omega
 show Wp (evS (cl fns (k+1)) ZbI _ S) _
 refine Zau (ZaN (J:=⟨Zaj 1 1 t.rows.length,none⟩) (S1:=S) (by simp [E34,er]) (fun i e S'=>(∃y8 y9 y10 y11,e=E34 t m h L y8 y9 y10 y11 y12)∧S'[L]?=some (.dct (dueL t h m i))∧Kp none L S S')
  ⟨⟨_,_,_,_,rfl⟩,hL,Kp.refl (by omega)⟩ (fun _ _ _ _ _=>rfl) (fun i x e S' hx hP=>?_) (fun e' S' hP=>?_))
 ·obtain⟨⟨z8,z9,z10,z11,rfl⟩,hk,kp⟩:=hP
  have hlt:=(Yac.mp hx).1
  rw [ZaH] at hlt
  rw [Zel hlt] at hx
  cases hx
  have es:(E34 t m h L z8 z9 z10 z11 y12).set 8 (some (.int (1+(i:Int))))=E34 t m h L (some (.int (1+(i:Int)))) z9 z10 z11 y12:=rfl
  simp [-ZnZ,es]
  refine Zl7 ok fun S1 k1=>?_
  refine Zl9 ok hh h4 hlt fun S2 w11 k2=>?_
  have kp2:=(kp.nx k1).nx k2
  have hk1:=k1.get0 hk (Zac hk)
  have hk2:=k2.get0 hk1 (Zac hk1)
  have ed:=dix_s (Zkc hk2) (ZlS (j:=i) ok)
  have ep:=set_s (S:=S2) (i:=partT t i) (d:=.int (((dueN t h m (partT t i) i:Nat):Int)+((cmAt t h m i:Nat):Int))) hk2 (by rw [ZjB];omega)
  rw [ZlR ok] at ep
  simp [cS,E34,ed,ep]
  exact⟨ZaO hk2,Zb3 kp2 (Yad _)⟩
 ·obtain⟨⟨z8,z9,z10,z11,rfl⟩,hk,kp⟩:=hP
  rw [ZaH] at hk
  exact wp_ok.mpr ⟨⟨_,_,_,_,rfl⟩,hk,kp⟩
noncomputable def fnd (t:Tp) (h m:Nat):List Str:=(Yau (t.prog m h).rows.length).map fun(p:Nat)=>partS (t.prog m h).door (t.prog m h).within (1+(p:Int))
theorem ZbM {t:Tp} {m h L:Nat} {y8 y9 y10 y11 y12:Option D} (ok:t.ok) (hh:h<m) (h1:1≤m) (h4:m≤4):
  Wp (ev (cl fns (k+9)) Za3 (E34 t m h L y8 y9 y10 y11 y12) S) fun d S'=>d=.obj S.length∧S'[S.length]?=some (.lst ((fnd t h m).map D.str))∧Kp none S.length S S':=by
 have hR:=Zeo ok hh h4
 have wok:=Zma ok h1 h4
 have e2:∀S,idxD (t.prog m h).d (.int 2) S=.ok (.tup ((t.prog m h).rows.map Rw.d)) S:=fun S=>by simp [Pg.d]
 have hp:(t.way m).hs[h]?=some (t.prog m h):=by simp [Tp.way,hh]
 have er:rngOf (.tup [.int 1,.int (((t.prog m h).rows.length:Int)+1)])=some ⟨(Yau (t.prog m h).rows.length).map fun(k:Nat)=>D.int (1+(k:Int)*1),none⟩:=by
  rw [Zgk ⟨by omega,by omega,by omega,by omega⟩]
  rw [show (((t.prog m h).rows.length:Int)+1-1).toNat=(t.prog m h).rows.length by omega]
  rfl
 refine Zbz (ZbK (p:=none) (l:=Yau (t.prog m h).rows.length) (f:=fun(k:Nat)=>D.int (1+(k:Int)*1)) (g:=fun(p:Nat)=>D.str (partS (t.prog m h).door (t.prog m h).within (1+(p:Int)))) (src:=none) (S1:=S) (fun e=>∃x,e=[none,x,some (.int (h:Int)),some (t.way m).d]) (by simp [E34,Wy.d,Zhb hh,e2,er]) (fun _ _=>rfl) (by simp;omega) (fun q e=>by cases e) ⟨_,rfl⟩ (fun p e S' hj hE _ hk=>?_)) fun d S' ⟨a1,a2,a3⟩=>⟨a1,by rw [fnd,YbG];exact a2,a3⟩
 obtain⟨x,rfl⟩:=hE
 have hpl:=YaN.mp hj
 obtain⟨d1,S1,e1,rfl,k1⟩:=Zid (k:=k) (S:=S') (q:=1+(p:Int)) wok hp (by omega) (by omega)
 exact⟨([none,some (.int (1+(p:Int))),some (.int (h:Int)),some (t.way m).d],some (.str (partS (t.prog m h).door (t.prog m h).within (1+(p:Int))))),S1,by simp [-Zaa,bodyC,e1],⟨_,rfl⟩,rfl,k1⟩
theorem Zgv {t:Tp} {h m i:Nat}:(dueL t h m i).map (fun q=>kD q.1)=W4.map D.str:=rfl
theorem ZlI {L:Nat} {kvs:List (Key×D)} (h:S[L]?=some (.dct kvs)):itdD (.dic L) S=.ok ⟨kvs.map fun q=>kD q.1,none⟩ (S.set L (.sdc kvs)):=by simp [itdD,h]
theorem ZlH {L:Nat} {kvs:List (Key×D)} (h:S[L]?=some (.sdc kvs)):itdD (.dic L) S=.ok ⟨kvs.map fun q=>kD q.1,none⟩ S:=by simp [itdD,h]
theorem cnt_s {F:Nat} {zs:List Str} {w:Str} (h:S[F]?=some (.lst (zs.map D.str))):mthD .cnt (.obj F) (.str w) S=.ok (.int ((zs.countP (· ==w):Nat):Int)) S:=by
 have e:Zcl (zs.map D.str)=some zs:=by have:=Zgf (f:=id) (l:=zs);simpa using this
 simp [mthD,m_cnt,h,e]
theorem Zh7 {t:Tp} {h m:Nat} {w:Str} (ok:t.ok):(fnd t h m).countP (· ==w)=dueN t h m w t.rows.length:=by
 rw [fnd,Zen]
 exact Zdq ok _ (Yad _)
noncomputable def resL (t:Tp) (h m:Nat):List D:=W4.map fun w=>.int ((dueN t h m w t.rows.length:Nat):Int)
theorem ZbN {t:Tp} {m h L F:Nat} {y8 y9 y10 y11:Option D} (ok:t.ok) (hL:S[L]?=some (.dct (dueL t h m t.rows.length))) (hF:S[F]?=some (.lst ((fnd t h m).map D.str))) (hLF:L<F):
  Wp (ev (cl fns k) Za4 (E34 t m h L y8 y9 y10 y11 (some (.obj F))) S) fun d S'=>d=.obj S.length∧S'[S.length]?=some (.lst (resL t h m))∧S'[L]?=some (.sdc (dueL t h m t.rows.length))∧Kp none L S S':=by
 have hLl:=Zac hL
 have hs:(S.set L (.sdc (dueL t h m t.rows.length))).length=S.length:=Ybi
 have hF1:(S.set L (.sdc (dueL t h m t.rows.length)))[F]?=some (.lst ((fnd t h m).map D.str)):=by rw [Yap (by omega)];exact hF
 have ks:Kp none L S (S.set L (.sdc (dueL t h m t.rows.length))):=Zb3 (Kp.refl (by omega)) (Yad _)
 refine Zbz (ZbK (p:=none) (l:=W4) (f:=D.str) (g:=fun w=>.int ((dueN t h m w t.rows.length:Nat):Int)) (src:=none) (S1:=S.set L (.sdc (dueL t h m t.rows.length))) (fun e=>∃x,e=[none,x,some (.obj F)]) (by simp [E34,ZlI hL,Zgv]) (fun _ _=>rfl) (by decide) (fun q e=>by cases e) ⟨_,rfl⟩ (fun w e S' hj hE _ hk=>?_)) fun d S' ⟨a1,a2,a3⟩=>?_
 ·obtain⟨x,rfl⟩:=hE
  have hF':=hk.get0 hF1 (Zac hF1)
  exact⟨([none,some (.str w),some (.obj F)],some (.int ((dueN t h m w t.rows.length:Nat):Int))),S',by simp [-Zaa,bodyC,cnt_s hF',Zh7 ok],⟨_,rfl⟩,rfl,Kp.rfl'⟩
 ·rw [hs] at a1 a2 a3
  exact⟨a1,a2,a3.get0 (ZaO hL) hLl,ks.next a3 (by omega)⟩
theorem ZbO {t:Tp} {m h L:Nat} {y8 y9 y10 y11 y12:Option D} (ok:t.ok) (hL:S[L]?=some (.sdc (dueL t h m t.rows.length))):
  Wp (ev (cl fns k) Za5 (E34 t m h L y8 y9 y10 y11 y12) S) fun d S'=>d=.obj S.length∧S'[S.length]?=some (.lst (resL t h m))∧Kp none S.length S S':=by
 refine ZbK (p:=none) (l:=W4) (f:=D.str) (g:=fun w=>.int ((dueN t h m w t.rows.length:Nat):Int)) (src:=none) (S1:=S) (fun e=>∃x,e=[none,x,some (.dic L)]) (by simp [E34,ZlH hL,Zgv]) (fun _ _=>rfl) (by decide) (fun q e=>by cases e) ⟨_,rfl⟩ (fun w e S' hj hE _ hk=>?_)
 obtain⟨x,rfl⟩:=hE
 have hL':=hk.get0 hL (Zac hL)
 have hg:lkv (dueL t h m t.rows.length) (.inr w)=some (.int ((dueN t h m w t.rows.length:Nat):Int)):=by
  simp only [W4,YaB,List.not_mem_nil,or_false] at hj
  rcases hj with rfl|rfl|rfl|rfl<;>rfl
 exact⟨([none,some (.str w),some (.dic L)],some (.int ((dueN t h m w t.rows.length:Nat):Int))),S',by simp [-Zaa,bodyC,dix_s (Zn6 hL') hg],⟨_,rfl⟩,rfl,Kp.rfl'⟩
theorem Zce {t:Tp} {m h:Nat} (ok:t.ok) (hh:h<m) (h4:m≤4):Wp (cl fns (k+10) 34 [t.d,(t.way m).d,.int (h:Int)] S) fun d S'=>d=.bl true∧Kp none S.length S S':=by
 refine wp_cl (fn:=⟨3,13,Zat⟩) rfl rfl ?_
 have ed:∀S,dspD [.inr "doorway",.inr "waiting",.inr "within",.inr "leaving"] (.tup [.int 0,.int 0,.int 0,.int 0]) S=.ok (.dic S.length) (S++[.dct (dueL t h m 0)]):=fun S=>by
  have e:mkv [] ((List.zip [.inr "doorway",.inr "waiting",.inr "within",.inr "leaving"] [.int 0,.int 0,.int 0,.int 0]):List (Key×D))=dueL t h m 0:=rfl
  simp only [dspD]
  rw [if_pos (by simp),e]
 simp [Zat,Tp.d,ed]
 have k0:Kp none S.length S (S++[Cell.dct (dueL t h m 0)]):=Kp.snoc (by intro q e;cases e)
 have hh3:=ZbL (k:=k+8) (S:=S++[Cell.dct (dueL t h m 0)]) (L:=S.length) (y8:=none) (y9:=none) (y10:=none) (y11:=none) (y12:=none) ok hh h4 Zal
 simp only [E34,Tp.d] at hh3
 refine Zae hh3 ?_
 rintro f S1 ⟨⟨y8,y9,y10,y11,rfl⟩,hL,k1⟩
 have hh2:=ZbM (k:=k) (S:=S1) (L:=S.length) (y8:=y8) (y9:=y9) (y10:=y10) (y11:=y11) (y12:=none) ok hh (by omega) h4
 simp only [E34,Tp.d] at hh2
 simp
 refine Zae hh2 ?_
 rintro d S2 ⟨hd,hF,k2⟩
 subst hd
 have hL2:=k2.get0 hL (Zac hL)
 have hlt:=Zac hL
 have hh1:=ZbN (k:=k+9) (S:=S2) (L:=S.length) (F:=S1.length) (y8:=y8) (y9:=y9) (y10:=y10) (y11:=y11) ok hL2 hF hlt
 simp only [E34,Tp.d] at hh1
 simp
 refine Zae hh1 ?_
 rintro d S3 ⟨hd,hc3,hL3,k3⟩
 subst hd
 have hh0:=ZbO (k:=k+9) (S:=S3) (L:=S.length) (y8:=y8) (y9:=y9) (y10:=y10) (y11:=y11) (y12:=some (.obj S1.length)) ok hL3
 simp only [E34,Tp.d] at hh0
 try simp
 refine Zae hh0 ?_
 rintro d S4 ⟨hd,hc4,k4⟩
 subst hd
 have hc3':=k4.get0 hc3 (Zac hc3)
 rw [Zd7 (Zad hc3') (Zad hc4) (D.pls_map (f:=fun w=>D.int ((dueN t h m w t.rows.length:Nat):Int)) fun _ _=>rfl) (YaC (D.dps_map (f:=fun w=>D.int ((dueN t h m w t.rows.length:Nat):Int)) (n:=0) fun _ _=>Yad _) (by decide))]
 simp
 have k12:=(k0.next k1 (Yad _)).nx k2
 exact(k12.next k3 (by have:=k1.low;have:=k2.len;omega)).nx k4
end
end Lw
namespace Lw
open PySem L2 Py
section
variable {S:Sto} {k:Nat}
noncomputable def badT:Tr→Bool
 | .wr .. =>false
 | .lk s .. => !decide (s="lower")
theorem Zeb {α β:Type} {f g:α→List β}:∀{l:List α},(∀x∈l,f x=g x)→l.flatMap f=l.flatMap g
 | [],_=>rfl
 |x::r,h=>by rw [Ybl,Ybl,h x Yaw,Zeb fun y hy=>h y (Yas _ hy)]
theorem Zlo {t:Tp} (ok:t.ok) (hb:∀r∈t.rows,badT r=false) {h m m':Nat} (h1:h<m) (h2:h<m') (h4:m≤4) (h5:m'≤4):t.prog m h=t.prog m' h:=by
 have lw:∀r∈t.rows,r.cm h m=r.cm h m'∧∀n pre,r.out n pre h m=r.out n pre h m':=fun r hr=>by
  cases r with
  |wr a b=>exact⟨rfl,fun _ _=>rfl⟩
  |lk s kd ns p=>
   have:s="lower" :=by simpa [badT] using hb _ hr
   subst this
   have e:lkd "lower" h m=lkd "lower" h m':=by rw [Zds m (by omega) h h1,Zds m' (by omega) h h2]
   exact⟨by simp only [Tr.cm,e],fun n pre=>by simp only [Tr.out,e]⟩
 have ep:∀i,t.pre h m i=t.pre h m' i:=fun i=>by
  unfold Tp.pre
  congr 1
  exact List.map_congr_left fun r hr=>(lw r (List.mem_of_mem_take hr)).1
 have eI:t.preI h m=t.preI h m':=by funext i;simp only [Tp.preI,ep]
 unfold Tp.prog
 rw [eI]
 congr 1
 exact Zeb fun r hr=>(lw r hr).2 _ _
theorem Zni {t:Tp} (ok:t.ok) (hb:∀r∈t.rows,badT r=false) {m:Nat} (h4:m+1≤4):(t.way (m+1)).hs.take m=(t.way m).hs:=by
 simp only [Tp.way]
 rw [←List.map_take,List.take_range,show min m (m+1)=m by omega]
 exact List.map_congr_left fun h hh=>Zlo ok hb (by have:=YaN.mp hh;omega) (YaN.mp hh) h4 (by omega)
theorem Zcy {t:Tp} {a:Option D} (ok:t.ok):Wp (ev (cl fns k) Zbp [some t.d,a] S) fun d S'=>d=.obj S.length∧S'[S.length]?=some (.lst (t.rows.map fun r=>D.bl (badT r)))∧Kp none S.length S S':=by
 refine ZbK (p:=none) (l:=t.rows) (f:=Tr.d) (g:=fun r=>D.bl (badT r)) (src:=none) (S1:=S) (fun e=>∃x,e=[none,x]) (by simp [Tp.d]) (fun _ _=>rfl) (by have:=ok.r2;omega) (fun q e=>by cases e) ⟨_,rfl⟩ (fun r e S' hj hE _ hk=>?_)
 obtain⟨x,rfl⟩:=hE
 refine⟨([none,some r.d],some (.bl (badT r))),S',?_,⟨_,rfl⟩,rfl,Kp.rfl'⟩
 cases r with
 |wr a b=>simp [-Zaa,bodyC,tr_0w,hwl,badT]
 |lk s kd ns p=>simp [-Zaa,bodyC,tr_0l,tr_1l,badT]
theorem Zdf {t:Tp} {m:Nat} (ok:t.ok) (h1:1≤m) (h4:m+1≤4):Wp (cl fns (k+8) 35 [t.d,.int ((m:Int)+1)] S) fun d S'=>d=.bl true∧Kp none S.length S S':=by
 refine wp_cl (fn:=⟨2,2,ZaB⟩) rfl rfl ?_
 simp [ZaB]
 refine Zae (Zcy (k:=k+7) ok) ?_
 rintro d S1 ⟨hd,hc,k1⟩
 subst hd
 have hbl:=ZeV (f:=badT) (l:=t.rows)
 simp [Zad hc,hbl]
 cases c:t.rows.any badT with
 |true=>
  simp
  exact k1
 |false=>
  have hb:∀r∈t.rows,badT r=false:=fun r hr=>by simpa using List.any_eq_false.mp c r hr
  have w1:=Zcs (k:=k) (S:=S1) (t:=t) (m:=m+1) ok (by omega) h4
  rw [show ((m+1:Nat):Int)=(m:Int)+1 by omega] at w1
  simp
  refine Zae w1 ?_
  rintro d S2 ⟨hd,k2⟩
  subst hd
  have i1:∀n S,idxD (t.way n).d (.int 1) S=.ok (.tup ((t.way n).hs.map Pg.d)) S:=fun n S=>by simp [Wy.d]
  have hl:(t.way (m+1)).hs.length=m+1:=by simp [Tp.way]
  have sl:=slcT (S:=S2) (f:=Pg.d) (l:=(t.way (m+1)).hs) (i:=(m:Int)) (by omega) (by omega)
  rw [show ((m:Int)).toNat=m by omega,Zni ok hb h4] at sl
  have ea:(m:Int)+1-1=m:=by omega
  simp [i1,ea,sl]
  refine Zae (Zcs (k:=k) (S:=S2) (t:=t) (m:=m) ok h1 (by omega)) ?_
  rintro d S3 ⟨hd,k3⟩
  subst hd
  have eq:=ZgW (S:=S3) (D.pls_map (f:=Pg.d) (l:=(t.way m).hs) fun _ _=>pl_pg) (YaC (D.dps_map (f:=Pg.d) (n:=4) fun _ _=>dp_pg) (by decide))
  simp [i1,eq]
  exact(k1.nx k2).nx k3
theorem Zji {t:Tp} (ok:t.ok):∀r∈(t.prog 1 0).rows,isWR r=true:=by
 intro r hr
 obtain⟨x,hx,hr⟩:=List.mem_flatMap.mp hr
 cases x with
 |wr a b=>
  have e:r=.wr ((0:Nat)*t.ks.length+a) b:=by simpa [Tr.out] using hr
  subst e
  rfl
 |lk s kd ns p=>
  rcases ok.rowok hx with z|⟨hs,_⟩
  ·exact False.elim z
  ·have:lkd s 0 1=[]:=by rcases hs with rfl|rfl|rfl<;>decide
   simp [Tr.out,this] at hr
theorem Zl2 {t:Tp} {a b c d e:Option D} (ok:t.ok):Wp (ev (cl fns (k+7)) ZiF [a,b,some t.d,c,d,e] S) fun d S'=>∃(n:Nat) (bs:List Bool),d=.obj n∧S'[n]?=some (.lst (bs.map D.bl))∧bs.any id=false∧Kp none S.length S S':=by
 obtain⟨d1,S1,e1,rfl,k1⟩:=Zcs (k:=k) (S:=S) (t:=t) (m:=1) ok (by decide) (by decide)
 have hR:=Zeo (h:=0) (m:=1) ok (by decide) (by decide)
 have e1':cl fns (k+7) 19 [t.d,.int 1] S=.ok (t.way 1).d S1:=e1
 have i1:∀S,idxD (t.way 1).d (.int 1) S=.ok (.tup ((t.way 1).hs.map Pg.d)) S:=fun S=>by simp [Wy.d]
 have i2:∀S,idxD (.tup ((t.way 1).hs.map Pg.d)) (.int 0) S=.ok (t.prog 1 0).d S:=fun S=>Zc1 (by decide) rfl
 have i3:∀S,idxD (t.prog 1 0).d (.int 2) S=.ok (.tup ((t.prog 1 0).rows.map Rw.d)) S:=fun S=>by simp [Pg.d]
 refine Zbz (ZbK (p:=none) (l:=(t.prog 1 0).rows) (f:=Rw.d) (g:=fun r=>D.bl (!isWR r)) (src:=none) (S1:=S1) (fun e=>∃x,e=[none,x]) (by simp [e1',i1,i2,i3]) (fun _ _=>rfl) (by omega) (fun q e=>by cases e) ⟨_,rfl⟩ (fun r e S' hj hE _ hk=>?_)) fun d S' ⟨a1,a2,a3⟩=>⟨_,(t.prog 1 0).rows.map fun r=> !isWR r,a1,by rw [YbG];exact a2,?_,k1.nx a3⟩
 ·obtain⟨x,rfl⟩:=hE
  refine⟨([none,some r.d],some (.bl (!isWR r))),S',?_,⟨_,rfl⟩,rfl,Kp.rfl'⟩
  cases r with
  |wr a b=>simp [-Zaa,bodyC,rw_0w,hwl,isWR]
  |lk b ns p=>simp [-Zaa,bodyC,rw_0l,isWR]
 ·rw [List.any_eq_false]
  intro x hx
  obtain⟨r,hr,rfl⟩:=YaR.mp hx
  simp [Zji ok r hr]
end
end Lw
namespace Lw
open PySem L2 Py
section
variable {S:Sto} {k:Nat}
theorem Zl1 {t:Tp} {m:Nat} {a b y:Option D} (ok:t.ok) (h4:m≤4):Wp (evS (cl fns (k+10)) ZiE [a,b,some t.d,some (.int (m:Int)),some (t.way m).d,y] S) fun r S'=>∃y,r=.nx [a,b,some t.d,some (.int (m:Int)),some (t.way m).d,y]∧Kp none S.length S S':=by
 refine Zau (ZaN (J:=⟨Zaj 0 1 m,none⟩) (S1:=S) (by simp [Zdo (show m≤100000 by omega)]) (fun i e S'=>(∃y,e=[a,b,some t.d,some (.int (m:Int)),some (t.way m).d,y])∧Kp none S.length S S') ⟨⟨_,rfl⟩,Kp.rfl'⟩ (fun _ _ _ _ _=>rfl) (fun j x e S' hx hP=>?_) (fun e' S' hP=>?_))
 ·obtain⟨⟨y,rfl⟩,hk⟩:=hP
  have hlt:=(Yac.mp hx).1
  rw [ZaH] at hlt
  rw [Zdi hlt] at hx
  cases hx
  simp
  refine Zae (ZcR (k:=k+7) ok hlt h4) ?_
  rintro d S1 ⟨hd,k1⟩
  subst hd
  simp
  refine Zae (Zce (k:=k) ok hlt h4) ?_
  rintro d S2 ⟨hd,k2⟩
  subst hd
  simp
  exact(hk.nx k1).nx k2
 ·obtain⟨⟨y,rfl⟩,hk⟩:=hP
  exact wp_ok.mpr ⟨_,rfl,hk⟩
theorem Zl0 {t:Tp} {a b y3 y4 y5:Option D} (ok:t.ok):Wp (evS (cl fns (k+10)) ZiD [a,b,some t.d,y3,y4,y5] S) fun r S'=>∃y3 y4 y5,r=.nx [a,b,some t.d,y3,y4,y5]∧Kp none S.length S S':=by
 have er:rngOf (.tup [.int 1,.int 5])=some ⟨Zaj 1 1 4,none⟩:=Zgk ⟨by omega,by omega,by omega,by omega⟩
 refine Zau (ZaN (J:=⟨Zaj 1 1 4,none⟩) (S1:=S) (by simp [er]) (fun i e S'=>(∃y3 y4 y5,e=[a,b,some t.d,y3,y4,y5])∧Kp none S.length S S') ⟨⟨_,_,_,rfl⟩,Kp.rfl'⟩ (fun _ _ _ _ _=>rfl) (fun j x e S' hx hP=>?_) (fun e' S' hP=>?_))
 ·obtain⟨⟨z3,z4,z5,rfl⟩,hk⟩:=hP
  have hlt:=(Yac.mp hx).1
  rw [ZaH] at hlt
  rw [Zel hlt] at hx
  obtain⟨m,hm,h1,h4⟩:∃m:Nat,m=j+1∧1≤m∧m≤4:=⟨j+1,rfl,by omega,by omega⟩
  rw [show (1:Int)+(j:Int)=(m:Int) by omega] at hx
  cases hx
  simp
  refine Zae (Zcs (k:=k+3) ok h1 h4) ?_
  rintro d S1 ⟨hd,k1⟩
  subst hd
  try simp
  refine Zae (Zl1 (k:=k) (m:=m) ok h4) ?_
  rintro f S2 ⟨y,rfl,k2⟩
  have kk:=(hk.nx k1).nx k2
  simp
  by_cases c:m=1
  ·subst c
   simp
   exact kk
  ·have c':(1:Int)<(m:Int):=by omega
   obtain⟨n,rfl⟩:∃n,m=n+1:=⟨m-1,by omega⟩
   have lr:=Zdf (k:=k+2) (S:=S2) (t:=t) (m:=n) ok (by omega) h4
   rw [show (n:Int)+1=((n+1:Nat):Int) by omega] at lr
   simp [c',-Int.natCast_add]
   refine Zae lr ?_
   rintro d S3 ⟨hd,k3⟩
   subst hd
   simp
   exact kk.nx k3
 ·obtain⟨⟨z3,z4,z5,rfl⟩,hk⟩:=hP
  exact wp_ok.mpr ⟨_,_,_,rfl,hk⟩
theorem ZlZ {ns:List Int} {a b c d f:Option D} (hs0:S[0]?=some (.scr (ns.map .int))) (hns:ns.length≤63):Wp (evS (cl fns (k+10)) ZiC [some (.obj 0),a,b,c,d,f] S) fun r S'=>∃a b c d f,r=.nx [some (.obj 0),a,b,c,d,f]∧Kp none S.length S S':=by
 obtain⟨n,hn⟩:=Zmq (j:=if (if (12:Int)<(ns.length:Int) then (12:Int) else (ns.length:Int))>1 then (if (12:Int)<(ns.length:Int) then (12:Int) else (ns.length:Int)) else 1) (by split<;>split<;>omega)
 refine Zau (ZaN (J:=⟨Zaj 0 2 n,none⟩) (S1:=S) ?_ (fun i e S'=>(∃a b c d f,e=[some (.obj 0),a,b,c,d,f])∧Kp none S.length S S') ⟨⟨_,_,_,_,_,rfl⟩,Kp.rfl'⟩ (fun _ _ _ _ _=>rfl) (fun j x e S' hx hP=>?_) (fun e' S' hP=>?_))
 ·simp only [ZlP,ZdE,Zfv,Zec,ZnX,ZdD,Res.bind_ok,YaW,Zl5,Zes hs0,b_min,b_max,Yak]
  rw [hn]
  rfl
 ·obtain⟨⟨a,b,c,d,f,rfl⟩,hk⟩:=hP
  have hlt:=(Yac.mp hx).1
  rw [ZaH] at hlt
  rw [Zdn hlt] at hx
  cases hx
  simp
  refine Zae (Zf4 (k:=k+8) (hk.get0 hs0 (Zac hs0)) hns) ?_
  rintro d S1 ⟨⟨q,hd,hq,hql⟩,k1⟩
  subst hd
  try simp
  refine Zae (Zb6 (k:=k+6) hq) ?_
  rintro d S2 ⟨⟨t,hd,ok⟩,k2⟩
  subst hd
  have k02:=hk.nx (Kp.hide k1 k2 hql)
  try simp
  refine Zae (Zl0 (k:=k) ok) ?_
  rintro f S3 ⟨y3,y4,y5,rfl,k3⟩
  simp
  refine Zae (Zl2 (k:=k+3) ok) ?_
  rintro d S4 ⟨n,bs,hd,hc,hb,k4⟩
  subst hd
  have hbl:=ZeV (f:=id) (l:=bs)
  simp only [id] at hbl
  simp [Zad hc,hbl,hb]
  exact(k02.nx k3).nx k4
 ·obtain⟨⟨a,b,c,d,f,rfl⟩,hk⟩:=hP
  exact wp_ok.mpr ⟨_,_,_,_,_,rfl,hk⟩
end
theorem Zjq:∀ns:List Int,ns.length≤63→∃S',cl fns 40 36 [.obj 0] [.scr (ns.map D.int)]=.ok (.bl true) S':=by
 intro ns hns
 suffices h:Wp (cl fns (39+1) 36 [.obj 0] [.scr (ns.map D.int)]) fun d _=>d=.bl true by
  obtain⟨d,S',e,rfl⟩:=h
  exact⟨S',e⟩
 refine wp_cl (fn:=⟨1,6,b_law⟩) rfl rfl ?_
 simp [b_law]
 refine Zae (ZlZ (k:=29) rfl hns) ?_
 rintro r S1 ⟨a,b,c,d,f,hr,k1⟩
 subst hr
 simp
end Lw
namespace Lw
open PySem L2 Py
theorem s0:FnScope ["thing"] ["thing"] (Zab (top 8)):=Zah (by kernel_rfl)
theorem c0:cSs 200 ⟨["thing"],Zab (top 8),fs,gl,fun _=>true,xt,true⟩ (Zag (top 8))=some ZcY:=by kernel_rfl
theorem s1:FnScope ["thing","low","high"] ["thing","low","high"] (Zab (top 9)):=Zah (by kernel_rfl)
theorem c1:cSs 200 ⟨["thing","low","high"],Zab (top 9),fs,gl,fun _=>true,xt,true⟩ (Zag (top 9))=some ZaY:=by kernel_rfl
theorem s2:FnScope ["thing","low","high"] ["thing","low","high"] (Zab (top 10)):=Zah (by kernel_rfl)
theorem c2:cSs 200 ⟨["thing","low","high"],Zab (top 10),fs,gl,fun _=>true,xt,true⟩ (Zag (top 10))=some Za7:=by kernel_rfl
theorem s3:FnScope ["thing","words"] ["thing","words"] (Zab (top 11)):=Zah (by kernel_rfl)
theorem c3:cSs 200 ⟨["thing","words"],Zab (top 11),fs,gl,fun _=>true,xt,true⟩ (Zag (top 11))=some ZdT:=by kernel_rfl
theorem s4:FnScope ["thing","size","least","number"] ["thing","size"] (Zab (top 12)):=Zah (by kernel_rfl)
theorem c4:cSs 200 ⟨["thing","size","least","number"],Zab (top 12),fs,gl,fun _=>true,xt,true⟩ (Zag (top 12))=some Zbe:=by kernel_rfl
theorem s5:FnScope ["thing","boxes","hands"] ["thing"] (Zab (top 15)):=Zah (by kernel_rfl)
theorem c5:cSs 200 ⟨["thing","boxes","hands"],Zab (top 15),fs,gl,fun _=>true,xt,true⟩ (Zag (top 15))=some ZcC:=by kernel_rfl
theorem s6:FnScope ["way","hand","place"] ["way","hand","place"] (Zab (top 16)):=Zah (by kernel_rfl)
theorem c6:cSs 200 ⟨["way","hand","place"],Zab (top 16),fs,gl,fun _=>true,xt,true⟩ (Zag (top 16))=some ZbV:=by kernel_rfl
theorem s7:FnScope ["way"] ["way"] (Zab (top 17)):=Zah (by kernel_rfl)
theorem c7:cSs 200 ⟨["way"],Zab (top 17),fs,gl,fun _=>true,xt,true⟩ (Zag (top 17))=some Zbf:=by kernel_rfl
theorem s8:FnScope ["way","hand"] ["way","hand"] (Zab (top 18)):=Zah (by kernel_rfl)
theorem c8:cSs 200 ⟨["way","hand"],Zab (top 18),fs,gl,fun _=>true,xt,true⟩ (Zag (top 18))=some ZaZ:=by kernel_rfl
theorem s9:FnScope ["program","place","door","within"] ["program","place"] (Zab (top 19)):=Zah (by kernel_rfl)
theorem c9:cSs 200 ⟨["program","place","door","within"],Zab (top 19),fs,gl,fun _=>true,xt,true⟩ (Zag (top 19))=some ZaT:=by kernel_rfl
theorem s10:FnScope ["thing","kind","size","start"] ["thing"] (Zab (top 20)):=Zah (by kernel_rfl)
theorem c10:cSs 200 ⟨["thing","kind","size","start"],Zab (top 20),fs,gl,fun _=>true,xt,true⟩ (Zag (top 20))=some ZcD:=by kernel_rfl
theorem s11:FnScope ["thing","boxes","door","within","rows","at","row","low","high"] ["thing","boxes"] (Zab (top 21)):=Zah (by kernel_rfl)
theorem c11:cSs 200 ⟨["thing","boxes","door","within","rows","at","row","low","high"],Zab (top 21),fs,gl,fun _=>true,xt,true⟩ (Zag (top 21))=some ZaX:=by kernel_rfl
theorem s12:FnScope ["thing","most","door","within","rows"] ["thing","most"] (Zab (top 22)):=Zah (by kernel_rfl)
theorem c12:cSs 200 ⟨["thing","most","door","within","rows"],Zab (top 22),fs,gl,fun _=>true,xt,true⟩ (Zag (top 22))=some ZaW:=by kernel_rfl
theorem s13:FnScope ["at","within","many"] ["at","within","many"] (Zab (top 23)):=Zah (by kernel_rfl)
theorem c13:cSs 200 ⟨["at","within","many"],Zab (top 23),fs,gl,fun _=>true,xt,true⟩ (Zag (top 23))=some Zay:=by kernel_rfl
theorem s14:FnScope ["row","boxes","word","box","number"] ["row","boxes"] (Zab (top 24)):=Zah (by kernel_rfl)
theorem c14:cSs 200 ⟨["row","boxes","word","box","number"],Zab (top 24),fs,gl,fun _=>true,xt,true⟩ (Zag (top 24))=some ZaV:=by kernel_rfl
theorem s15:FnScope ["row","boxes","low","high","word","box","numbers","place"] ["row","boxes","low","high"] (Zab (top 25)):=Zah (by kernel_rfl)
theorem c15:cSs 200 ⟨["row","boxes","low","high","word","box","numbers","place"],Zab (top 25),fs,gl,fun _=>true,xt,true⟩ (Zag (top 25))=some Zb0:=by kernel_rfl
theorem s16:FnScope ["hands","box"] ["hands","box"] (Zab (top 26)):=Zah (by kernel_rfl)
theorem c16:cSs 200 ⟨["hands","box"],Zab (top 26),fs,gl,fun _=>true,xt,true⟩ (Zag (top 26))=some ZbP:=by kernel_rfl
theorem s17:FnScope ["rows","box"] ["rows","box"] (Zab (top 27)):=Zah (by kernel_rfl)
theorem c17:cSs 200 ⟨["rows","box"],Zab (top 27),fs,gl,fun _=>true,xt,true⟩ (Zag (top 27))=some ZcA:=by kernel_rfl
theorem s18:FnScope ["thing","kinds","program","door","within","rows"] ["thing"] (Zab (top 30)):=Zah (by kernel_rfl)
theorem c18:cSs 200 ⟨["thing","kinds","program","door","within","rows"],Zab (top 30),fs,gl,fun _=>true,xt,true⟩ (Zag (top 30))=some ZaU:=by kernel_rfl
theorem s19:FnScope ["template","many"] ["template","many"] (Zab (top 31)):=Zah (by kernel_rfl)
theorem c19:cSs 200 ⟨["template","many"],Zab (top 31),fs,gl,fun _=>true,xt,true⟩ (Zag (top 31))=some ZbQ:=by kernel_rfl
theorem s20:FnScope ["template"] ["template"] (Zab (top 32)):=Zah (by kernel_rfl)
theorem c20:cSs 200 ⟨["template"],Zab (top 32),fs,gl,fun _=>true,xt,true⟩ (Zag (top 32))=some ZaA:=by kernel_rfl
theorem s21:FnScope ["row","kinds","within","word","whom","kind","numbers","place"] ["row","kinds","within"] (Zab (top 33)):=Zah (by kernel_rfl)
theorem c21:cSs 200 ⟨["row","kinds","within","word","whom","kind","numbers","place"],Zab (top 33),fs,gl,fun _=>true,xt,true⟩ (Zag (top 33))=some ZaD:=by kernel_rfl
theorem s22:FnScope ["template","hand","many","kinds","program","door","within","rows","row","become","ahead","group","told"] ["template","hand","many"] (Zab (top 34)):=Zah (by kernel_rfl)
theorem c22:cSs 200 ⟨["template","hand","many","kinds","program","door","within","rows","row","become","ahead","group","told"],Zab (top 34),fs,gl,fun _=>true,xt,true⟩ (Zag (top 34))=some ZaS:=by kernel_rfl
theorem s23:FnScope ["row","size","hand","many","whom","kind","numbers","place"] ["row","size","hand","many"] (Zab (top 35)):=Zah (by kernel_rfl)
theorem c23:cSs 200 ⟨["row","size","hand","many","whom","kind","numbers","place"],Zab (top 35),fs,gl,fun _=>true,xt,true⟩ (Zag (top 35))=some Zbw:=by kernel_rfl
theorem s24:FnScope ["whom","hand","many"] ["whom","hand","many"] (Zab (top 36)):=Zah (by kernel_rfl)
theorem c24:cSs 200 ⟨["whom","hand","many"],Zab (top 36),fs,gl,fun _=>true,xt,true⟩ (Zag (top 36))=some ZaL:=by kernel_rfl
theorem s25:FnScope ["_law_cell"] ["_law_cell"] (Zab (top 38)):=Zah (by kernel_rfl)
theorem c25:cSs 200 ⟨["_law_cell"],Zab (top 38),fs,gl,fun _=>true,xt,true⟩ (Zag (top 38))=some Za1:=by kernel_rfl
theorem s26:FnScope ["_law_script","_law_k","_law_found","_law_at","_law_lack"] ["_law_script","_law_k"] (Zab (top 39)):=Zah (by kernel_rfl)
theorem c26:cSs 200 ⟨["_law_script","_law_k","_law_found","_law_at","_law_lack"],Zab (top 39),fs,gl,fun _=>true,xt,true⟩ (Zag (top 39))=some Zbh:=by kernel_rfl
theorem s27:FnScope ["_law_pack_here","_law_size","_law_digit"] ["_law_pack_here","_law_size"] (Zab (top 40)):=Zah (by kernel_rfl)
theorem c27:cSs 200 ⟨["_law_pack_here","_law_size","_law_digit"],Zab (top 40),fs,gl,fun _=>true,xt,true⟩ (Zag (top 40))=some Zbg:=by kernel_rfl
theorem s28:FnScope ["_law_pack_here","_law_size","_law_bits"] ["_law_pack_here","_law_size"] (Zab (top 41)):=Zah (by kernel_rfl)
theorem c28:cSs 200 ⟨["_law_pack_here","_law_size","_law_bits"],Zab (top 41),fs,gl,fun _=>true,xt,true⟩ (Zag (top 41))=some ZaI:=by kernel_rfl
theorem s29:FnScope ["_law_pack_here","_law_kinds","_law_turn","_law_size","_law_many","_law_within","_law_door","_law_rows","_law_left","_law_place","_law_looks","_law_kind","_law_whom"] ["_law_pack_here"] (Zab (top 42)):=Zah (by kernel_rfl)
theorem c29:cSs 200 ⟨["_law_pack_here","_law_kinds","_law_turn","_law_size","_law_many","_law_within","_law_door","_law_rows","_law_left","_law_place","_law_looks","_law_kind","_law_whom"],Zab (top 42),fs,gl,fun _=>true,xt,true⟩ (Zag (top 42))=some ZaE:=by kernel_rfl
theorem s30:FnScope ["_law_pick","_law_bit","_law_first"] ["_law_pick"] (Zab (top 43)):=Zah (by kernel_rfl)
theorem c30:cSs 200 ⟨["_law_pick","_law_bit","_law_first"],Zab (top 43),fs,gl,fun _=>true,xt,true⟩ (Zag (top 43))=some ZaF:=by kernel_rfl
theorem s31:FnScope ["_law_pack_here","_law_pick"] ["_law_pack_here"] (Zab (top 44)):=Zah (by kernel_rfl)
theorem c31:cSs 200 ⟨["_law_pack_here","_law_pick"],Zab (top 44),fs,gl,fun _=>true,xt,true⟩ (Zag (top 44))=some Zar:=by kernel_rfl
theorem s32:FnScope ["_law_template_here","_law_box"] ["_law_template_here","_law_box"] (Zab (top 45)):=Zah (by kernel_rfl)
theorem c32:cSs 200 ⟨["_law_template_here","_law_box"],Zab (top 45),fs,gl,fun _=>true,xt,true⟩ (Zag (top 45))=some Za0:=by kernel_rfl
theorem s33:FnScope ["_law_template_here","_law_way","_law_hand","_law_kinds","_law_door","_law_within","_law_rows","_law_looks","_law_row","_law_owner_here","_law_other","_law_told","_law_due","_law_writes"] ["_law_template_here","_law_way","_law_hand"] (Zab (top 46)):=Zah (by kernel_rfl)
theorem c33:cSs 200 ⟨["_law_template_here","_law_way","_law_hand","_law_kinds","_law_door","_law_within","_law_rows","_law_looks","_law_row","_law_owner_here","_law_other","_law_told","_law_due","_law_writes"],Zab (top 46),fs,gl,fun _=>true,xt,true⟩ (Zag (top 46))=some Zaw:=by kernel_rfl
theorem s34:FnScope ["_law_template_here","_law_way","_law_hand","_law_kinds","_law_door","_law_within","_law_rows","_law_due","_law_at","_law_word","_law_come","_law_told","_law_found"] ["_law_template_here","_law_way","_law_hand"] (Zab (top 47)):=Zah (by kernel_rfl)
theorem c34:cSs 200 ⟨["_law_template_here","_law_way","_law_hand","_law_kinds","_law_door","_law_within","_law_rows","_law_due","_law_at","_law_word","_law_come","_law_told","_law_found"],Zab (top 47),fs,gl,fun _=>true,xt,true⟩ (Zag (top 47))=some Zat:=by kernel_rfl
theorem s35:FnScope ["_law_template_here","_law_many"] ["_law_template_here","_law_many"] (Zab (top 48)):=Zah (by kernel_rfl)
theorem c35:cSs 200 ⟨["_law_template_here","_law_many"],Zab (top 48),fs,gl,fun _=>true,xt,true⟩ (Zag (top 48))=some ZaB:=by kernel_rfl
theorem s36:FnScope ["_law_script","_law_k","_law_template_here","_law_many","_law_way","_law_hand"] ["_law_script"] (Zab (top 49)):=Zah (by kernel_rfl)
theorem c36:cSs 200 ⟨["_law_script","_law_k","_law_template_here","_law_many","_law_way","_law_hand"],Zab (top 49),fs,gl,fun _=>true,xt,true⟩ (Zag (top 49))=some b_law:=by kernel_rfl
section
variable {K:Yab} {mg:Str→Option Value} {h:Heap}
theorem fiq0 (y:fs.map (Zam K)=want) (X:K.In h) (G:h.Ns mainGlobals mg):FI K mg fs gl xt "is_whole" ⟨1,1,ZcY⟩:=
 FI.of2 s0 c0 rfl rfl (fun _ _ _ _ _ _ us hl=>by obtain⟨_,rfl⟩:=ar1 hl;rfl) (nth y 0 rfl rfl) X G
theorem fiq1 (y:fs.map (Zam K)=want) (X:K.In h) (G:h.Ns mainGlobals mg):FI K mg fs gl xt "is_from_to" ⟨3,3,ZaY⟩:=
 FI.of2 s1 c1 rfl rfl (fun _ _ _ _ _ _ us hl=>by obtain⟨_,_,_,rfl⟩:=ar3 hl;rfl) (nth y 1 rfl rfl) X G
theorem fiq2 (y:fs.map (Zam K)=want) (X:K.In h) (G:h.Ns mainGlobals mg):FI K mg fs gl xt "is_tuple" ⟨3,3,Za7⟩:=
 FI.of2 s2 c2 rfl rfl (fun _ _ _ _ _ _ us hl=>by obtain⟨_,_,_,rfl⟩:=ar3 hl;rfl) (nth y 2 rfl rfl) X G
theorem fiq3 (y:fs.map (Zam K)=want) (X:K.In h) (G:h.Ns mainGlobals mg):FI K mg fs gl xt "is_word" ⟨2,2,ZdT⟩:=
 FI.of2 s3 c3 rfl rfl (fun _ _ _ _ _ _ us hl=>by obtain⟨_,_,rfl⟩:=ar2 hl;rfl) (nth y 3 rfl rfl) X G
theorem fiq4 (y:fs.map (Zam K)=want) (X:K.In h) (G:h.Ns mainGlobals mg):FI K mg fs gl xt "is_rising" ⟨2,4,Zbe⟩:=
 FI.of2 s4 c4 rfl rfl (fun _ _ _ _ _ _ us hl=>by obtain⟨_,_,rfl⟩:=ar2 hl;rfl) (nth y 4 rfl rfl) X G
theorem fiq5 (y:fs.map (Zam K)=want) (X:K.In h) (G:h.Ns mainGlobals mg):FI K mg fs gl xt "is_way" ⟨1,3,ZcC⟩:=
 FI.of2 s5 c5 rfl rfl (fun _ _ _ _ _ _ us hl=>by obtain⟨_,rfl⟩:=ar1 hl;rfl) (nth y 5 rfl rfl) X G
theorem fiq6 (y:fs.map (Zam K)=want) (X:K.In h) (G:h.Ns mainGlobals mg):FI K mg fs gl xt "part_at" ⟨3,3,ZbV⟩:=
 FI.of2 s6 c6 rfl rfl (fun _ _ _ _ _ _ us hl=>by obtain⟨_,_,_,rfl⟩:=ar3 hl;rfl) (nth y 6 rfl rfl) X G
theorem fiq7 (y:fs.map (Zam K)=want) (X:K.In h) (G:h.Ns mainGlobals mg):FI K mg fs gl xt "check_way" ⟨1,1,Zbf⟩:=
 FI.of2 s7 c7 rfl rfl (fun _ _ _ _ _ _ us hl=>by obtain⟨_,rfl⟩:=ar1 hl;rfl) (nth y 7 rfl rfl) X G
theorem fiq8 (y:fs.map (Zam K)=want) (X:K.In h) (G:h.Ns mainGlobals mg):FI K mg fs gl xt "check_hand" ⟨2,2,ZaZ⟩:=
 FI.of2 s8 c8 rfl rfl (fun _ _ _ _ _ _ us hl=>by obtain⟨_,_,rfl⟩:=ar2 hl;rfl) (nth y 8 rfl rfl) X G
theorem fiq9 (y:fs.map (Zam K)=want) (X:K.In h) (G:h.Ns mainGlobals mg):FI K mg fs gl xt "part_of" ⟨2,4,ZaT⟩:=
 FI.of2 s9 c9 rfl rfl (fun _ _ _ _ _ _ us hl=>by obtain⟨_,_,rfl⟩:=ar2 hl;rfl) (nth y 9 rfl rfl) X G
theorem fiq10 (y:fs.map (Zam K)=want) (X:K.In h) (G:h.Ns mainGlobals mg):FI K mg fs gl xt "is_box" ⟨1,4,ZcD⟩:=
 FI.of2 s10 c10 rfl rfl (fun _ _ _ _ _ _ us hl=>by obtain⟨_,rfl⟩:=ar1 hl;rfl) (nth y 10 rfl rfl) X G
theorem fiq11 (y:fs.map (Zam K)=want) (X:K.In h) (G:h.Ns mainGlobals mg):FI K mg fs gl xt "is_program" ⟨2,9,ZaX⟩:=
 FI.of2 s11 c11 rfl rfl (fun _ _ _ _ _ _ us hl=>by obtain⟨_,_,rfl⟩:=ar2 hl;rfl) (nth y 11 rfl rfl) X G
theorem fiq12 (y:fs.map (Zam K)=want) (X:K.In h) (G:h.Ns mainGlobals mg):FI K mg fs gl xt "is_frame" ⟨2,5,ZaW⟩:=
 FI.of2 s12 c12 rfl rfl (fun _ _ _ _ _ _ us hl=>by obtain⟨_,_,rfl⟩:=ar2 hl;rfl) (nth y 12 rfl rfl) X G
theorem fiq13 (y:fs.map (Zam K)=want) (X:K.In h) (G:h.Ns mainGlobals mg):FI K mg fs gl xt "places_from" ⟨3,3,Zay⟩:=
 FI.of2 s13 c13 rfl rfl (fun _ _ _ _ _ _ us hl=>by obtain⟨_,_,_,rfl⟩:=ar3 hl;rfl) (nth y 13 rfl rfl) X G
theorem fiq14 (y:fs.map (Zam K)=want) (X:K.In h) (G:h.Ns mainGlobals mg):FI K mg fs gl xt "is_write" ⟨2,5,ZaV⟩:=
 FI.of2 s14 c14 rfl rfl (fun _ _ _ _ _ _ us hl=>by obtain⟨_,_,rfl⟩:=ar2 hl;rfl) (nth y 14 rfl rfl) X G
theorem fiq15 (y:fs.map (Zam K)=want) (X:K.In h) (G:h.Ns mainGlobals mg):FI K mg fs gl xt "is_look" ⟨4,8,Zb0⟩:=
 FI.of2 s15 c15 rfl rfl (fun _ _ _ _ _ _ us hl=>by obtain⟨_,_,_,_,rfl⟩:=ar4 hl;rfl) (nth y 15 rfl rfl) X G
theorem fiq16 (y:fs.map (Zam K)=want) (X:K.In h) (G:h.Ns mainGlobals mg):FI K mg fs gl xt "writers" ⟨2,2,ZbP⟩:=
 FI.of2 s16 c16 rfl rfl (fun _ _ _ _ _ _ us hl=>by obtain⟨_,_,rfl⟩:=ar2 hl;rfl) (nth y 16 rfl rfl) X G
theorem fiq17 (y:fs.map (Zam K)=want) (X:K.In h) (G:h.Ns mainGlobals mg):FI K mg fs gl xt "writes" ⟨2,2,ZcA⟩:=
 FI.of2 s17 c17 rfl rfl (fun _ _ _ _ _ _ us hl=>by obtain⟨_,_,rfl⟩:=ar2 hl;rfl) (nth y 17 rfl rfl) X G
theorem fiq18 (y:fs.map (Zam K)=want) (X:K.In h) (G:h.Ns mainGlobals mg):FI K mg fs gl xt "is_template" ⟨1,6,ZaU⟩:=
 FI.of2 s18 c18 rfl rfl (fun _ _ _ _ _ _ us hl=>by obtain⟨_,rfl⟩:=ar1 hl;rfl) (nth y 18 rfl rfl) X G
theorem fiq19 (y:fs.map (Zam K)=want) (X:K.In h) (G:h.Ns mainGlobals mg):FI K mg fs gl xt "way_for" ⟨2,2,ZbQ⟩:=
 FI.of2 s19 c19 rfl rfl (fun _ _ _ _ _ _ us hl=>by obtain⟨_,_,rfl⟩:=ar2 hl;rfl) (nth y 19 rfl rfl) X G
theorem fiq20 (y:fs.map (Zam K)=want) (X:K.In h) (G:h.Ns mainGlobals mg):FI K mg fs gl xt "check_template" ⟨1,1,ZaA⟩:=
 FI.of2 s20 c20 rfl rfl (fun _ _ _ _ _ _ us hl=>by obtain⟨_,rfl⟩:=ar1 hl;rfl) (nth y 20 rfl rfl) X G
theorem fiq21 (y:fs.map (Zam K)=want) (X:K.In h) (G:h.Ns mainGlobals mg):FI K mg fs gl xt "is_look_at" ⟨3,8,ZaD⟩:=
 FI.of2 s21 c21 rfl rfl (fun _ _ _ _ _ _ us hl=>by obtain⟨_,_,_,rfl⟩:=ar3 hl;rfl) (nth y 21 rfl rfl) X G
theorem fiq22 (y:fs.map (Zam K)=want) (X:K.In h) (G:h.Ns mainGlobals mg):FI K mg fs gl xt "program_for" ⟨3,13,ZaS⟩:=
 FI.of2 s22 c22 rfl rfl (fun _ _ _ _ _ _ us hl=>by obtain⟨_,_,_,rfl⟩:=ar3 hl;rfl) (nth y 22 rfl rfl) X G
theorem fiq23 (y:fs.map (Zam K)=want) (X:K.In h) (G:h.Ns mainGlobals mg):FI K mg fs gl xt "rows_of" ⟨4,8,Zbw⟩:=
 FI.of2 s23 c23 rfl rfl (fun _ _ _ _ _ _ us hl=>by obtain⟨_,_,_,_,rfl⟩:=ar4 hl;rfl) (nth y 23 rfl rfl) X G
theorem fiq24 (y:fs.map (Zam K)=want) (X:K.In h) (G:h.Ns mainGlobals mg):FI K mg fs gl xt "looked_at" ⟨3,3,ZaL⟩:=
 FI.of2 s24 c24 rfl rfl (fun _ _ _ _ _ _ us hl=>by obtain⟨_,_,_,rfl⟩:=ar3 hl;rfl) (nth y 24 rfl rfl) X G
theorem fiq25 (y:fs.map (Zam K)=want) (X:K.In h) (G:h.Ns mainGlobals mg):FI K mg fs gl xt "_law_mixed" ⟨1,1,Za1⟩:=
 FI.of2 s25 c25 rfl rfl (fun _ _ _ _ _ _ us hl=>by obtain⟨_,rfl⟩:=ar1 hl;rfl) (nth y 25 rfl rfl) X G
theorem fiq26 (y:fs.map (Zam K)=want) (X:K.In h) (G:h.Ns mainGlobals mg):FI K mg fs gl xt "_law_pack" ⟨2,5,Zbh⟩:=
 FI.of2 s26 c26 rfl rfl (fun _ _ _ _ _ _ us hl=>by obtain⟨_,_,rfl⟩:=ar2 hl;rfl) (nth y 26 rfl rfl) X G
theorem fiq27 (y:fs.map (Zam K)=want) (X:K.In h) (G:h.Ns mainGlobals mg):FI K mg fs gl xt "_law_take" ⟨2,3,Zbg⟩:=
 FI.of2 s27 c27 rfl rfl (fun _ _ _ _ _ _ us hl=>by obtain⟨_,_,rfl⟩:=ar2 hl;rfl) (nth y 27 rfl rfl) X G
theorem fiq28 (y:fs.map (Zam K)=want) (X:K.In h) (G:h.Ns mainGlobals mg):FI K mg fs gl xt "_law_numbers" ⟨2,3,ZaI⟩:=
 FI.of2 s28 c28 rfl rfl (fun _ _ _ _ _ _ us hl=>by obtain⟨_,_,rfl⟩:=ar2 hl;rfl) (nth y 28 rfl rfl) X G
theorem fiq29 (y:fs.map (Zam K)=want) (X:K.In h) (G:h.Ns mainGlobals mg):FI K mg fs gl xt "_law_template" ⟨1,13,ZaE⟩:=
 FI.of2 s29 c29 rfl rfl (fun _ _ _ _ _ _ us hl=>by obtain⟨_,rfl⟩:=ar1 hl;rfl) (nth y 29 rfl rfl) X G
theorem fiq30 (y:fs.map (Zam K)=want) (X:K.In h) (G:h.Ns mainGlobals mg):FI K mg fs gl xt "_law_known_template" ⟨1,3,ZaF⟩:=
 FI.of2 s30 c30 rfl rfl (fun _ _ _ _ _ _ us hl=>by obtain⟨_,rfl⟩:=ar1 hl;rfl) (nth y 30 rfl rfl) X G
theorem fiq31 (y:fs.map (Zam K)=want) (X:K.In h) (G:h.Ns mainGlobals mg):FI K mg fs gl xt "_law_some_template" ⟨1,2,Zar⟩:=
 FI.of2 s31 c31 rfl rfl (fun _ _ _ _ _ _ us hl=>by obtain⟨_,rfl⟩:=ar1 hl;rfl) (nth y 31 rfl rfl) X G
theorem fiq32 (y:fs.map (Zam K)=want) (X:K.In h) (G:h.Ns mainGlobals mg):FI K mg fs gl xt "_law_owner" ⟨2,2,Za0⟩:=
 FI.of2 s32 c32 rfl rfl (fun _ _ _ _ _ _ us hl=>by obtain⟨_,_,rfl⟩:=ar2 hl;rfl) (nth y 32 rfl rfl) X G
theorem fiq33 (y:fs.map (Zam K)=want) (X:K.In h) (G:h.Ns mainGlobals mg):FI K mg fs gl xt "_law_hand_right" ⟨3,14,Zaw⟩:=
 FI.of2 s33 c33 rfl rfl (fun _ _ _ _ _ _ us hl=>by obtain⟨_,_,_,rfl⟩:=ar3 hl;rfl) (nth y 33 rfl rfl) X G
theorem fiq34 (y:fs.map (Zam K)=want) (X:K.In h) (G:h.Ns mainGlobals mg):FI K mg fs gl xt "_law_counts_right" ⟨3,13,Zat⟩:=
 FI.of2 s34 c34 rfl rfl (fun _ _ _ _ _ _ us hl=>by obtain⟨_,_,_,rfl⟩:=ar3 hl;rfl) (nth y 34 rfl rfl) X G
theorem fiq35 (y:fs.map (Zam K)=want) (X:K.In h) (G:h.Ns mainGlobals mg):FI K mg fs gl xt "_law_low_right" ⟨2,2,ZaB⟩:=
 FI.of2 s35 c35 rfl rfl (fun _ _ _ _ _ _ us hl=>by obtain⟨_,_,rfl⟩:=ar2 hl;rfl) (nth y 35 rfl rfl) X G
theorem fiq36 (y:fs.map (Zam K)=want) (X:K.In h) (G:h.Ns mainGlobals mg):FI K mg fs gl xt "law" ⟨1,6,b_law⟩:=
 FI.of2 s36 c36 rfl rfl (fun _ _ _ _ _ _ us hl=>by obtain⟨_,rfl⟩:=ar1 hl;rfl) (nth y 36 rfl rfl) X G
theorem fiql (y:fs.map (Zam K)=want) (X:K.In h) (G:h.Ns mainGlobals mg):LawI K mg fs gl xt "law" "_law_script" ⟨1,6,b_law⟩:=
 LawI.of2 s36 c36 rfl (fun _ _ _ _ _ _ _=>rfl) (nth y 36 rfl rfl) X G
theorem fiqa (y:fs.map (Zam K)=want) (X:K.In h) (G:h.Ns mainGlobals mg):∀(f:Nat) (x:Str),fs[f]?=some x→∃fn,fns[f]?=some fn∧FI K mg fs gl xt x fn
 |0,_,hy=>by cases hy;exact⟨_,rfl,fiq0 y X G⟩
 |1,_,hy=>by cases hy;exact⟨_,rfl,fiq1 y X G⟩
 |2,_,hy=>by cases hy;exact⟨_,rfl,fiq2 y X G⟩
 |3,_,hy=>by cases hy;exact⟨_,rfl,fiq3 y X G⟩
 |4,_,hy=>by cases hy;exact⟨_,rfl,fiq4 y X G⟩
 |5,_,hy=>by cases hy;exact⟨_,rfl,fiq5 y X G⟩
 |6,_,hy=>by cases hy;exact⟨_,rfl,fiq6 y X G⟩
 |7,_,hy=>by cases hy;exact⟨_,rfl,fiq7 y X G⟩
 |8,_,hy=>by cases hy;exact⟨_,rfl,fiq8 y X G⟩
 |9,_,hy=>by cases hy;exact⟨_,rfl,fiq9 y X G⟩
 |10,_,hy=>by cases hy;exact⟨_,rfl,fiq10 y X G⟩
 |11,_,hy=>by cases hy;exact⟨_,rfl,fiq11 y X G⟩
 |12,_,hy=>by cases hy;exact⟨_,rfl,fiq12 y X G⟩
 |13,_,hy=>by cases hy;exact⟨_,rfl,fiq13 y X G⟩
 |14,_,hy=>by cases hy;exact⟨_,rfl,fiq14 y X G⟩
 |15,_,hy=>by cases hy;exact⟨_,rfl,fiq15 y X G⟩
 |16,_,hy=>by cases hy;exact⟨_,rfl,fiq16 y X G⟩
 |17,_,hy=>by cases hy;exact⟨_,rfl,fiq17 y X G⟩
 |18,_,hy=>by cases hy;exact⟨_,rfl,fiq18 y X G⟩
 |19,_,hy=>by cases hy;exact⟨_,rfl,fiq19 y X G⟩
 |20,_,hy=>by cases hy;exact⟨_,rfl,fiq20 y X G⟩
 |21,_,hy=>by cases hy;exact⟨_,rfl,fiq21 y X G⟩
 |22,_,hy=>by cases hy;exact⟨_,rfl,fiq22 y X G⟩
 |23,_,hy=>by cases hy;exact⟨_,rfl,fiq23 y X G⟩
 |24,_,hy=>by cases hy;exact⟨_,rfl,fiq24 y X G⟩
 |25,_,hy=>by cases hy;exact⟨_,rfl,fiq25 y X G⟩
 |26,_,hy=>by cases hy;exact⟨_,rfl,fiq26 y X G⟩
 |27,_,hy=>by cases hy;exact⟨_,rfl,fiq27 y X G⟩
 |28,_,hy=>by cases hy;exact⟨_,rfl,fiq28 y X G⟩
 |29,_,hy=>by cases hy;exact⟨_,rfl,fiq29 y X G⟩
 |30,_,hy=>by cases hy;exact⟨_,rfl,fiq30 y X G⟩
 |31,_,hy=>by cases hy;exact⟨_,rfl,fiq31 y X G⟩
 |32,_,hy=>by cases hy;exact⟨_,rfl,fiq32 y X G⟩
 |33,_,hy=>by cases hy;exact⟨_,rfl,fiq33 y X G⟩
 |34,_,hy=>by cases hy;exact⟨_,rfl,fiq34 y X G⟩
 |35,_,hy=>by cases hy;exact⟨_,rfl,fiq35 y X G⟩
 |36,_,hy=>by cases hy;exact⟨_,rfl,fiq36 y X G⟩
 |(f+37),_,hy=>by cases hy
end
end Lw
set_option maxRecDepth 100000 in
set_option maxHeartbeats 0 in
theorem PySem.Challenge.cw_onewithin_k44_whole_more_hands_holds : PySem.Challenge.rw_onewithin_k44_whole_more_hands.Holds := by
 exact Py.ZhY (fs:=Lw.fs) (want:=Lw.want) (gl:=Lw.glT) (xt:=Lw.xt) (fns:=Lw.fns) (lx:=36) (x:="_law_script") Lw.well (Py.Zly Lw.leftA Lw.leftB Lw.leftC Lw.leftD) rfl rfl rfl Lw.ok ⟨rfl,rfl,rfl,rfl,rfl,by decide+kernel⟩ ⟨[PySem.W.WData.list []],by decide+kernel,by decide+kernel⟩ rfl rfl rfl rfl (by decide) Lw.Zjq (fun K mg h y X G=>⟨Lw.fiql y X G,Lw.fiqa y X G⟩)
