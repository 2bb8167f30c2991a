import PyProof.Rows.All
import Wide.All
import OpenK.AllK
import Wide.FinOn
import Lean
import PyProof.EqAt
import PyProof.EqKinds
import PyProof.TupleCall
import PyProof.ExcArgs
import KE.KSortAsk
import PySem.Str
import PyProof.EqLayable
import PyProof.Rows.EqDataRows
import PyProof.StrBlockI
import KE.KSortTup
import KE.KDictSum
import KE.KLam
import PyProof.StrLawsRepr
import PyProof.FString4
import PyProof.ListRange
import PyProof.StrOps2
import PyProof.DictItems
import KE.KPairComp
import PyProof.AttrMissHeap
import KE.KDictOf
import PyProof.DictWalks
import PyProof.StrBlockL
import PyProof.StrLawsIn
import KE.IntText
import PyProof.StrLoop
import PyProof.StrWalks
import PyProof.ConsumeWalk
import KE.KIntText
import PyProof.Rows.StrIntSpec
import PySem.Challenge.RW_riverdue_k20_a_day
set_option linter.all false
set_option maxRecDepth 100000
set_option maxHeartbeats 4000000
noncomputable section
open List renaming getElem?_cons_zero->aM,getElem?_cons_succ->aR,getElem?_eq_some_iff->bN,getElem?_map->bj,map_cons->bz,lookup_cons->bW,length_map->bS,mem_cons->bK,replicate->bU,mem_of_getElem?->de,size_toArray->cE,mem_singleton->cT,mem_map->bO,mem_cons_of_mem->dO,map_map->bX,mem_map_of_mem->dI,mem_append_right->eN,set_cons_succ->d0,set_cons_zero->d5,map_append->dm,getElem?_append_left->gB,range->ci,mem_cons_self->fA,map_congr_left->gA,length_cons->fG,mem_append->fu,take_add_one->fR,replicate_succ->gS,getElem?_range->gR,lookup->dQ,getD_eq_getElem?_getD->jL,nodup_cons->gu,nodup_append->hG,getElem?_replicate->jF,getElem?_set_self->jU,length_append->iQ,length_take->il,getElem?_append_right->ma,take_of_length_le->kn,getElem?_set_ne->kJ,pairwise_iff_getElem->nL,getElem?_eq_none_iff->mO,drop_eq_getElem_cons->mV,length_nil->jc,mem_append_left->mv,mem_range->jk,ext_getElem?->kR,foldl_cons->jq,filter_eq_self->ly,take_length->kP,zip_cons_cons->lY,getElem?_eq_none->mM,getElem?_of_mem->oO,getElem?_take_of_lt->sf,flatten_cons->lV,any_cons->jC,not_mem_nil->lL,cons_append->lX,length->i9,find?_cons->mF,mem_iff_getElem?->tu,cons_lt_cons_iff->qk,take_sublist->oR,foldl_append->nY,filter->jI,mem_filter->ol,range_succ->nj,filter_cons_of_neg->u8,filter_cons_of_pos->vG,map_nil->lH,drop_length->r6,mem_of_mem_take->wd,all_cons->nh,map->iA,foldl->kK,filterMap_cons->vd,of_mem_zip->pF,toList_toArray->uB,lookup_nil->oW,range'->nr,all_eq_true->vQ,append_nil->up,nil_append->wo
open PySem.Heap renaming get?_push_of_some->bI,lt_size->bD,get?_push_size->eM,get?_update_other->jv,get?_none_of_le->mh,get?_update_ne->me,size_update->lB,get?_update_self->qu,SameBut->nu
open PySem.Str renaming ofString->aQ
open Nat renaming le_refl->bo,lt_of_lt_of_le->dN,le_trans->cL,ne_of_lt->cS,zero_le->fB,le_of_not_lt->kI,lt_irrefl->jn,ne_of_gt->jb,le_of_lt->mi,not_lt_of_le->qg,lt_of_le_of_lt->vN,lt_or_gt_of_ne->vB,lt_succ_self->uH,le_of_eq->pS,lt_trans->qe,beq->ju
open Bool renaming false_ne_true->cK,false_eq_true->cJ,and_eq_true->ip,not_true->gJ,eq_iff_iff->sg
open PySem.F renaming excBase_ValueError->gP,slot_dict_get->vA
open Int renaming emod_nonneg->gZ,emod_lt_of_pos->jf,le_refl->mw
open Option renaming isSome_iff_exists->ny,isSome_map->ww,map_some->wk
open Classical renaming propDecidable->mU
open Array renaming length_toList->rP
open PySem renaming Value->ai,Shared->ak,Addr->af,Program->br,World->aX,Around->bB,Expr->aw,Stmt->aT,Heap->aP,Obj->aE,FuncData->bf,sizeLine->bh,model->aD,eval->aO,wpAny->aB,wpAny_bind->aC,wpAny_pure->bg,wpAny_mono->cN,starEach->aV,Paired->cf,compareOp->d4,mainGlobals->dP
set_option Elab.async false
namespace L2
open PySem PySem.Spec PyProof.Rows
theorem b8{α β γ:Type}{p q r s:α->β->γ->Prop}{t:Prop}(e:∃a b c,p a b c/\q a b c/\r a b c/\s a b c)(f:∀a b c,p a b c->q a b c->r a b c->s a b c->t):t:=e.elim λa e=>e.elim λb e=>e.elim λc e=>f a b c e.1 e.2.1 e.2.2.1 e.2.2.2
theorem bA{α β:Type}{p q r:α->β->Prop}{t:Prop}(e:∃a b,p a b/\q a b/\r a b)(f:∀a b,p a b->q a b->r a b->t):t:=e.elim λa e=>e.elim λb e=>f a b e.1 e.2.1 e.2.2
abbrev Key:=Sum Int Str
noncomputable def jr:Key->ai->Bool
 |.inl k,v=>Value.isInt k v
 |.inr x,v=>Value.isStrOf x v
noncomputable def En(w:aX):Key->Int
 |.inl k=>hashInt k
 |.inr x=>hashStr w x
theorem ia:∀{k:Key}{v:ai},jr k v=true->(∃i t,k=Sum.inl i/\v=Value.int i t)∨(∃x t,k=Sum.inr x/\v=Value.str x t)
 |.inl i,v,h=>by
   obtain⟨t,e⟩:=Value.isInt_shape (k:=i) (v:=v) h;exact .inl ⟨i,t,rfl,e⟩
 |.inr x,v,h=>by
   obtain⟨t,e⟩:=Value.isStrOf_shape (x:=x) (v:=v) h;exact .inr ⟨x,t,rfl,e⟩
theorem ES(i:Int)(t:Tok):jr (.inl i) (.int i t)=true:=by simp[jr,Value.isInt]
theorem E2(x:Str)(t:Tok):jr (.inr x) (.str x t)=true:=by simp[jr,Value.isStrOf]
theorem CZ(a b:Int):decide ((Sum.inl a:Key)=Sum.inl b)=(a == b):=by
 by_cases e:a=b
 ·subst e;simp
 ·have h:¬(Sum.inl a:Key)=Sum.inl b:=λq=>e (Sum.inl.inj q);rw[decide_eq_false h];exact(beq_eq_false_iff_ne.mpr e).symm
theorem FH(a b:Str):decide ((Sum.inr a:Key)=Sum.inr b)=decide (a=b):=by
 by_cases e:a=b
 ·subst e;simp
 ·have h:¬(Sum.inr a:Key)=Sum.inr b:=λq=>e (Sum.inr.inj q);rw[decide_eq_false h,decide_eq_false e]
theorem CN(a:Int)(b:Str):decide ((Sum.inl a:Key)=Sum.inr b)=false:=decide_eq_false (λq=>nomatch q)
theorem IQ(a:Str)(b:Int):decide ((Sum.inr a:Key)=Sum.inl b)=false:=decide_eq_false (λq=>nomatch q)
noncomputable def cn(prog:br)(w:aX):PySem.KeyKind prog w Key where
 is:=jr
 hash:=En w
 inj:=λv a b ha hb=>by
  rcases ia ha with⟨i,t,rfl,rfl⟩|⟨x,t,rfl,rfl⟩
  ·rcases ia hb with⟨j,u,rfl,e⟩|⟨y,u,rfl,e⟩
   ·injection e with e1 _;rw[e1]
   ·exact nomatch e
  ·rcases ia hb with⟨j,u,rfl,e⟩|⟨y,u,rfl,e⟩
   ·exact nomatch e
   ·injection e with e1 _;rw[e1]
 byValue:=λk v h=>by
  rcases ia h with⟨i,t,rfl,rfl⟩|⟨x,t,rfl,rfl⟩ <;> rfl
 pyHash:=λhv h=>by
  rcases ia hv with⟨i,t,rfl,rfl⟩|⟨x,t,rfl,rfl⟩
  ·exact wpAny_pyHash_int h
  ·exact wpAny_pyHash_str h
 eqBool:=λhu hv h=>by
  rcases ia hu with⟨i,t,rfl,rfl⟩|⟨x,t,rfl,rfl⟩
  ·rcases ia hv with⟨j,u,rfl,rfl⟩|⟨y,u,rfl,rfl⟩
   ·rw[CZ]at h;exact wpAny_eqBool_int h
   ·rw[CN]at h;exact SeqAt.EqAt.int_str i t y u _ _ _ _ h
  ·rcases ia hv with⟨j,u,rfl,rfl⟩|⟨y,u,rfl,rfl⟩
   ·rw[IQ]at h;exact SeqAt.EqAt.str_int x t j u _ _ _ _ h
   ·rw[FH]at h;exact wpAny_eqBool_str h
 «strs»:=λk x t v h=>by
  rcases ia h with⟨i,u,rfl,e⟩|⟨y,u,rfl,e⟩
  ·exact nomatch e
  ·injection e with e1 _;subst e1;cases v <;> rfl
theorem G8(prog:br)(w:aX)(i:Int)(t:Tok):(cn prog w).is (.inl i) (.int i t)=true:=ES i t
theorem Ii(prog:br)(w:aX)(x:Str)(t:Tok):(cn prog w).is (.inr x) (.str x t)=true:=E2 x t
inductive V where
 |non|bl (b:Bool)|int (i:Int)|str (x:Str)|byt (b:Array UInt8)|flt (b:UInt64)|ref (a:af)|ty (n:String)
 deriving DecidableEq
def aU:V->ai->Prop
 |.non,u=>u=Value.none
 |.bl b,u=>u=Value.bool b
 |.int i,u=>∃t,u=Value.int i t
 |.str x,u=>∃t,u=Value.str x t
 |.byt b,u=>∃t,u=Value.bytes b t
 |.flt b,u=>∃t,u=Value.float b t
 |.ref a,u=>u=Value.ref a
 |.ty n,u=>u=Value.type n
abbrev Vals:List V->List ai->Prop:=cf aU
theorem Vals.length{xs:List V}{us:List ai}(r:Vals xs us):xs.length=us.length:=Paired.length r
theorem Vals.get:∀{xs:List V}{us:List ai}{i:Nat}{x:V},Vals xs us->xs[i]?=some x->∃u,us[i]?=some u/\aU x u
 |_,_,_,_,.nil,e=>by simp at e
 |_,_,0,_,.cons r _,e=>by simp at e;subst e;exact⟨_,rfl,r⟩
 |_,_,i+1,x,.cons _ t,e=>by
   obtain⟨u,h1,h2⟩:=Vals.get (i:=i) (x:=x) t (by simpa using e);exact⟨u,by simpa using h1,h2⟩
theorem Vals.set{x:V}{u:ai}(r:aU x u):∀{xs:List V}{us:List ai}(i:Nat),Vals xs us->Vals (xs.set i x) (us.set i u)
 |_,_,_,.nil=>.nil
 |_,_,0,.cons _ t=>.cons r t
 |_,_,i+1,.cons q t=>.cons q (Vals.set r i t)
theorem Vals.append:∀{xs ys:List V}{us ws:List ai},Vals xs us->Vals ys ws->Vals (xs++ys) (us++ws)
 |_,_,_,_,.nil,s=>s
 |_,_,_,_,.cons r t,s=>.cons r (Vals.append t s)
theorem Vals.take:∀{xs:List V}{us:List ai}(n:Nat),Vals xs us->Vals (xs.take n) (us.take n)
 |_,_,0,_=>.nil
 |_,_,_+1,.nil=>.nil
 |_,_,n+1,.cons r t=>.cons r (Vals.take n t)
theorem Vals.drop:∀{xs:List V}{us:List ai}(n:Nat),Vals xs us->Vals (xs.drop n) (us.drop n)
 |_,_,0,r=>r
 |_,_,_+1,.nil=>.nil
 |_,_,n+1,.cons _ t=>Vals.drop n t
def ft:Option V->Option ai->Prop
 |some v,some u=>aU v u
 |none,none=>True
 |_,_=>False
def KV{κ:Type}:List (κ×V)->List (κ×ai)->Prop:=cf λ(p:κ×V) (q:κ×ai)=>p.1=q.1/\aU p.2 q.2
noncomputable def kV:Key->V
 |.inl i=>.int i
 |.inr x=>.str x
inductive HO where
  |lst (xs:List V)
  |tup (xs:List V)
  |dK (kvs:List (Key×V))|dT (kvs:List (List Key×V))
  |set (S:Int->Bool) (n:Nat)
  |ins (C dx:af) (fs:List (Str×V))
  |own (x:af)
  |xd (fs:List (Str×V))
  |met (f x:af)
  |rng (lo hi:Int)
  |frz (o:aE) (u:HO)
  |tbl (ps:Array ai)
  |ext (φ:aP->Prop)
abbrev Hp:=af->Option HO
noncomputable def upd(H:Hp)(a:af)(o:HO):Hp:=λb=>if b=a then some o else H b
theorem dw{H:Hp}{a:af}{o:HO}:upd H a o a=some o:=by unfold upd;rw[if_pos rfl]
theorem ba{H:Hp}{a b:af}{o:HO}(h:b≠a):upd H a o b=H b:=by unfold upd;rw[if_neg h]
theorem GU{H:Hp}{a b:af}{o u:HO}(h:H a=some o)(h':H b=some u)(d:o≠u):a≠b:=by
 intro e;subst e;rw[h]at h';exact d (Option.some.inj h')
theorem dY{H:Hp}{a b:af}{o:HO}(h:H a=some o)(h':H b=none):a≠b:=by
 intro e;subst e;rw[h]at h';cases h'
section
variable (P:br)(w:aX)
def bQ(H:Hp)(h:aP)(a:af):HO->Prop
 |.lst xs=>xs.length≤bh/\∃(its:List ai) (n:Nat),Vals xs its/\h.get? a=some { cls:=.type "list",data:=.seq its.toArray n }
 |.tup xs=>xs.length≤bh/\∃its:List ai,Vals xs its/\IsTup h a its.toArray
 |.dK kvs=>kvs.length≤bh/\(a == sysModules)=false/\∃vs,KV kvs vs/\h.DictOf (cn P w) a vs
 |.dT kvs=>kvs.length≤bh/\(a == sysModules)=false/\∃xs:List (List Key×af×ai),
   cf (λ(p:List Key×V) (q:List Key×af×ai)=>p.1=q.1/\H q.2.1=some (.tup (p.1.map kV))/\aU p.2 q.2.2) kvs xs /\
   ∃o es ep,h.get? a=some o/\o.ExactDict/\o.data=.dict es ep/\es.toList=xs.map (entryOfKey (tupleKind (cn P w)))/\(xs.map (·.1)).Nodup
 |.set S n=>h.SetOf (intKind P w) a S n
 |.ins C dx fs=>H dx=some (.own a)/\fs.length≤1000/\dx≠a/\h.get? a=some (PySem.W.instObj C dx) /\
   ∃mA,h.Ns1 dx mA/\(∀f,ft (fs.lookup f) (mA f))/\PySem.Within mA (fs.map (·.1))
 |.own _=>∃o,h.get? a=some o
 |.xd fs=>∃mA,h.Ns1 a mA/\∀f,ft (fs.lookup f) (mA f)
 |.rng lo hi=>∃t u v,h.get? a=some { cls:=.type "range",data:=.fields #[.int lo t,.int hi u,.int 1 v] }
 |.frz o u=>h.get? a=some o/\bQ H h a u
 |.tbl ps=>h.get? a=some { cls:=.none,data:=.fields ps }
 |.met f x=>h.get? a=some (PySem.W.methodObj (.ref f) (.ref x))
 |.ext φ=>φ h/\(∃o,h.get? a=some o)/\∀h1 h2:aP,φ h1->(∀o,h1.get? a=some o->h2.get? a=some o)->φ h2
def HOk(H:Hp)(h:aP):Prop:=∀a o,H a=some o->bQ P w H h a o
end
section
variable {P:br}{w:aX}{H H':Hp}{h h':aP}{a:af}{o:HO}
theorem bQ.lt(x:bQ P w H h a o):a<h.objs.size:=by
 cases o with
 |lst xs=>obtain⟨_,_,_,_,e⟩:=x;exact bD e
 |tup xs=>obtain⟨_,_,_,p⟩:=x;exact p.lt
 |dK kvs=>obtain⟨_,_,_,_,o,_,_,e,_⟩:=x;exact bD e
 |dT kvs=>obtain⟨_,_,_,_,o,_,_,e,_⟩:=x;exact bD e
 |set S n=>obtain⟨o,_,_,_,e,_⟩:=x;exact bD e
 |ins C dx fs=>obtain⟨_,_,_,e,_⟩:=x;exact bD e
 |own y=>obtain⟨_,e⟩:=x;exact bD e
 |xd fs=>obtain⟨_,⟨_,_,_,e,_⟩,_⟩:=x;exact bD e
 |rng lo hi=>obtain⟨_,_,_,e⟩:=x;exact bD e
 |frz ob u=>obtain⟨e,_⟩:=x;exact bD e
 |tbl ps=>exact bD (show h.get? a=some _ from x)
 |met f y=>exact bD (show h.get? a=some _ from x)
 |ext φ=>obtain⟨_,⟨_,e⟩,_⟩:=x;exact bD e
theorem Paired.mapP{α β:Type}{F G:α->β->Prop}:∀{l₁:List α}{l₂:List β},cf F l₁ l₂->(∀a b,F a b->G a b)->cf G l₁ l₂
 |_,_,.nil,_=>.nil
 |_,_,.cons r t,f=>.cons (f _ _ r) (Paired.mapP t f)
theorem Paired.imp'{α β:Type}{F G:α->β->Prop}(f:∀a b,F a b->G a b){l₁:List α}{l₂:List β}(r:cf F l₁ l₂):cf G l₁ l₂:=Paired.mapP r f
theorem bQ.stay(x:bQ P w H h a o)(k:∀b u,(b=a∨H b=some (.own a))->h.get? b=some u->h'.get? b=some u)
  (ho:∀b,H b=some (.own a)->H' b=some (.own a)) (ht:∀b xs,H b=some (.tup xs)->H' b=some (.tup xs)):bQ P w H' h' a o:=by
 induction o with
 |lst xs=>obtain⟨z,its,n,r,e⟩:=x;exact⟨z,its,n,r,k _ _ (.inl rfl) e⟩
 |tup xs=>obtain⟨z,its,r,ob,e,c⟩:=x;exact⟨z,its,r,ob,k _ _ (.inl rfl) e,c⟩
 |dK kvs=>obtain⟨z,y,vs,r,ob,es,ep,e,c⟩:=x;exact⟨z,y,vs,r,ob,es,ep,k _ _ (.inl rfl) e,c⟩
 |dT kvs=>
   obtain⟨z,y,xs,r,ob,es,ep,e,c⟩:=x;exact⟨z,y,xs,Paired.mapP r λp q z=>⟨z.1,ht _ _ z.2.1,z.2.2⟩,ob,es,ep,k _ _ (.inl rfl) e,c⟩
 |set S n=>obtain⟨ob,es,ep,t,e,c⟩:=x;exact⟨ob,es,ep,t,k _ _ (.inl rfl) e,c⟩
 |ins C dx fs=>
   obtain⟨d,z,ne,e,mA,⟨od,es,ep,e2,c⟩,r⟩:=x;exact⟨ho _ d,z,ne,k _ _ (.inl rfl) e,mA,⟨od,es,ep,k _ _ (.inr d) e2,c⟩,r⟩
 |own y=>obtain⟨ob,e⟩:=x;exact⟨ob,k _ _ (.inl rfl) e⟩
 |xd fs=>obtain⟨mA,⟨od,es,ep,e,c⟩,r⟩:=x;exact⟨mA,⟨od,es,ep,k _ _ (.inl rfl) e,c⟩,r⟩
 |rng lo hi=>obtain⟨t,u,v,e⟩:=x;exact⟨t,u,v,k _ _ (.inl rfl) e⟩
 |frz ob u ih=>obtain⟨e,q⟩:=x;exact⟨k _ _ (.inl rfl) e,ih q⟩
 |tbl ps=>
   have e:h.get? a=some { cls:=.none,data:=.fields ps }:=x;show h'.get? a=some { cls:=.none,data:=.fields ps };exact k a _ (.inl rfl) e
 |met f y=>
   have e:h.get? a=some (PySem.W.methodObj (.ref f) (.ref y)):=x;show h'.get? a=some (PySem.W.methodObj (.ref f) (.ref y));exact k a _ (.inl rfl) e
 |ext φ=>obtain⟨p,⟨o,e⟩,st⟩:=x;exact⟨st _ _ p λo q=>k _ _ (.inl rfl) q,⟨o,k _ _ (.inl rfl) e⟩,st⟩
theorem HOk.lt(x:HOk P w H h)(e:H a=some o):a<h.objs.size:=(x a o e).lt
theorem HOk.fresh(x:HOk P w H h)(e:h.objs.size≤a):H a=none:=by
 cases q:H a with
 |none=>rfl
 |some u=>exact absurd (dN (x.lt q) e) (jn _)
theorem HOk.kept(x:HOk P w H h)(k:∀b u,h.get? b=some u->h'.get? b=some u):HOk P w H h':=λa o e=>
 (x a o e).stay (λb u _ q=>k b u q) (λ_ q=>q) λ_ _ q=>q
theorem HOk.laid(x:HOk P w H h)(k:∀b u,h.get? b=some u->h'.get? b=some u)(hp:h.objs.size≤a)(new:bQ P w (upd H a o) h' a o):HOk P w (upd H a o) h':=λb u e=>by
 have hn:=x.fresh hp;by_cases hb:b=a
 ·subst hb;rw[dw]at e;cases e;exact new
 ·rw[ba hb]at e;exact(x b u e).stay (λc v _ q=>k c v q) (λc q=>by rw[ba (dY q hn)];exact q) λc xs q=>by rw[ba (dY q hn)];exact q
end
def Rd(H:Hp)(a:af)(u:HO):Prop:=H a=some u∨∃o,H a=some (.frz o u)
theorem Rd.ok{P:br}{w:aX}{H:Hp}{h:aP}{a:af}{u:HO}(r:Rd H a u)(x:HOk P w H h):bQ P w H h a u:=by
 rcases r with r|⟨o,r⟩
 ·exact x a u r
 ·obtain⟨_,q⟩:=x a _ r;exact q
def Mut:Option HO->Prop
 |some (.lst _)=>True
 |some (.dK _)=>True
 |some (.dT _)=>True
 |some (.set _ _)=>True
 |some (.ins _ _ _)=>True
 |some (.ext _)=>True
 |_=>False
section
variable {P:br}{w:aX}{H:Hp}{h h':aP}{x e:af}{o':HO}
theorem HOk.write(ok:HOk P w H h)(mu:Mut (H x))(he:e=x∨H e=some (.own x))(k:∀b u,b≠e->h.get? b=some u->h'.get? b=some u)(heo:∃u,h'.get? e=some u)
  (new:bQ P w (upd H x o') h' x o'):HOk P w (upd H x o') h':=λb u q=>by
 have nown:∀c y,H c=some (.own y)->c≠x:=λc y r z=>by subst z;rw[r]at mu;exact mu
 have ntup:∀c xs,H c=some (.tup xs)->c≠x:=λc xs r z=>by subst z;rw[r]at mu;exact mu
 by_cases hb:b=x
 ·subst hb;rw[dw]at q;cases q;exact new
 ·rw[ba hb]at q;by_cases hbe:b=e
  ·have q':H b=some (.own x):=by
    rcases he with z|z
    ·exact absurd (hbe.trans z) hb
    ·rw[hbe];exact z
   rw[q]at q';cases q';obtain⟨v,hv⟩:=heo;exact⟨v,by rw[hbe];exact hv⟩
  ·refine(ok b u q).stay (λc v hc r=>k c v ?_ r) (λc r=>by rw[ba (nown c b r)];exact r) λc xs r=>by rw[ba (ntup c xs r)];exact r
   rcases hc with rfl|hc
   ·exact hbe
   ·rintro rfl;rcases he with z|z
    ·exact nown c b hc z
    ·rw[hc]at z;cases z;exact hb rfl
end
structure Un(fs ex:List af)(H H':Hp)(h h':aP):Prop where
 keep:∀b o,h.get? b=some o->H b=none->b∉fs->b∉ex->h'.get? b=some o
 slot:∀b o,h.get? b=some o->H b=none->b∈fs->b∉ex->∃sl,h'.get? b=some { o with slots:=sl }
 free:∀b o,h.get? b=some o->H b=none->b∉ex->H' b=none
 there:∀b o,h.get? b=some o->b∉ex->∃o',h'.get? b=some o'
 tups:∀b xs,H b=some (.tup xs)->H' b=some (.tup xs)
 frzs:∀b o u,H b=some (.frz o u)->H' b=some (.frz o u)
 tbls:∀b ps,H b=some (.tbl ps)->∃more,H' b=some (.tbl (ps++more))
section
variable {fs fs' ex ex':List af}{H H1 H2:Hp}{h h1 h2 h':aP}{a x e:af}{o:HO}
theorem Un.any(u:Un fs ex H H1 h h1){b:af}{ob:aE}(q:h.get? b=some ob)(n:H b=none)(hx:b∉ex):∃sl,h1.get? b=some { ob with slots:=sl }:=by
 by_cases hb:b∈fs
 ·exact u.slot b ob q n hb hx
 ·exact⟨ob.slots,u.keep b ob q n hb hx⟩
theorem Un.kept(k:∀b u,h.get? b=some u->h'.get? b=some u):Un fs ex H H h h':=
 ⟨λb ob q _ _ _=>k b ob q,λb ob q _ _ _=>⟨ob.slots,k b ob q⟩,λ_ _ _ n _=>n,λb ob q _=>⟨ob,k b ob q⟩,λ_ _ q=>q,λ_ _ _ q=>q,λ_ ps q=>⟨#[],by rw[q];simp⟩⟩
theorem Un.refl:Un fs ex H H h h:=Un.kept λ_ _ q=>q
theorem Un.laid(k:∀b u,h.get? b=some u->h'.get? b=some u)(hp:h.objs.size≤a)(hn:H a=none):Un fs ex H (upd H a o) h h' where
 keep:=λb u q _ _ _=>k b u q
 slot:=λb u q _ _ _=>⟨u.slots,k b u q⟩
 free:=λb u q n _=>by rw[ba (cS (dN (bD q) hp))];exact n
 there:=λb u q _=>⟨u,k b u q⟩
 tups:=λb xs q=>by rw[ba (dY q hn)];exact q
 frzs:=λb u xs q=>by rw[ba (dY q hn)];exact q
 tbls:=λb ps q=>⟨#[],by rw[ba (dY q hn),q];simp⟩
theorem Un.write(mu:Mut (H x))(he:e=x∨H e=some (.own x))(k:∀b u,b≠e->h.get? b=some u->h'.get? b=some u)(heo:∃u,h'.get? e=some u):Un fs ex H (upd H x o) h h':=by
 have hx:∀b,H b=none->b≠x:=λb n z=>by subst z;rw[n]at mu;exact mu
 have hb:∀b,H b=none->b≠e:=λb n z=>by
  subst z;rcases he with r|r
  ·exact hx b n r
  ·rw[n]at r;cases r
 have hm:∀b u,H b=some u->¬Mut (some u)->b≠x:=λb u q nm z=>by subst z;rw[q]at mu;exact nm mu
 refine ⟨λb u q n _ _=>k b u (hb b n) q,λb u q n _ _=>⟨u.slots,k b u (hb b n) q⟩,λb u q n _=>by rw [ba (hx b n)];exact n,λb u q _=>?_,
  λb xs q=>by rw [ba (hm b _ q λz=>z)];exact q,λb u xs q=>by rw [ba (hm b _ q λz=>z)];exact q,λb ps q=>⟨#[],by rw [ba (hm b _ q λz=>z),q];simp⟩⟩
 by_cases hbe:b=e
 ·subst hbe;exact heo
 ·exact⟨u,k b u hbe q⟩
end
noncomputable def trk(h:aP)(H:Hp):List af:=(ci h.objs.size).filter λa=>(H a).isSome
noncomputable def jh(h:aP)(H:Hp):aP:=PySem.W.hideAll h (trk h H)
theorem C2(h:aP)(H:Hp):(jh h H).objs.size=h.objs.size:=PySem.W.hideAll_size _ _
theorem HD{h:aP}{H:Hp}{b:af}{o:aE}(e:h.get? b=some o)(n:H b=none):(jh h H).get? b=some o:=
 PySem.W.hideAll_get _ e λhm=>by
  have q:(H b).isSome=true:=(ol.mp hm).2;rw[n]at q;simp at q
theorem EW{h:aP}{H:Hp}{b:af}{o:aE}(e:(jh h H).get? b=some o):h.get? b=some o/\H b=none:=by
 have e':h.get? b=some o:=PySem.W.of_hideAll (trk h H) e;refine⟨e',?_⟩;cases q:H b with
 |none=>rfl
 |some x=>
   have hm:b∈trk h H:=ol.mpr ⟨jk.mpr (bD e'),by simp[q]⟩;have z:(jh h H).get? b=none:=PySem.W.hideAll_none (trk h H) hm;rw[z]at e;cases e
structure Mod(K:PySem.W.Frag)(mg:Str->Option ai)(base:aP):Prop where
 kin:K.In base
 glob:base.Ns dP mg
 blt:∃mb,base.Ns builtinsNs mb/\∀x:Str,x≠"__name__"->mb x=bootBuiltins x
 nolimit:base.NoLimit
structure Cx where
 prog:br
 w:aX
 K:PySem.W.Frag
 mg:Str->Option ai
 base:aP
 A:bB
 N:List Str
 s₀:ak
 H₀:Hp
 env:Env
 outer:List Env
 stack:List Env
 ex:List af
 fn:Str->Bool
 calm:Bool
 pn:List (af×aE)
 xe:ai->ak->Prop
noncomputable def frs(l:List Env):List af:=l.filterMap (·.frame)
noncomputable abbrev Cx.fs(X:Cx):List af:=frs X.outer
def Vis(sc:Scope)(x:Str):Prop:=sc.names.lookup x=some .local∨sc.names.lookup x=some .cell∨sc.names.lookup x=some .free
def Loc(sc:Scope)(x:Str):Prop:=sc.names.lookup x=some .local∨sc.names.lookup x=some .cell
def Look(env:Env)(h:aP)(m:Str->Option ai)(x:Str)(u:ai):Prop:=
 (env.kindOf x=some .local/\m x=some u)∨((env.kindOf x=some .cell∨env.kindOf x=some .free)/\∃c,env.cells.lookup x=some c/\h.IsCell c (some u))
structure Cx.Ok(X:Cx):Prop where
 mod:Mod X.K X.mg X.base
 kind:X.env.scope.kind=.function
 glob:X.env.globals=dP
 blt:X.env.builtins=builtinsNs
 above:X.s₀.heap.objs.size≤X.env.locals
 inj:∀x y c,X.env.cells.lookup x=some c->X.env.cells.lookup y=some c->x=y
 has:∀x,(X.env.kindOf x=some .cell∨X.env.kindOf x=some .free)->∃c,X.env.cells.lookup x=some c
 cab:∀x c,X.fn x=true->X.env.cells.lookup x=some c->X.s₀.heap.objs.size≤c
 hd:X.calm=true->X.A.handled=none
 frames:X.A.frames=some X.stack
 stk:X.stack=X.outer∨(X.stack=X.env::X.outer/\X.env.frame=some X.env.locals)
 exf:∀b∈X.ex,b≠X.env.locals/\∀x c,X.env.cells.lookup x=some c->c≠b
 bs:∀b o,X.base.get? b=some o->X.s₀.heap.get? b=some o/\X.H₀ b=none
 bsz:X.base.objs.size≤X.s₀.heap.objs.size
 noex:∀b o,X.base.get? b=some o->b∉X.ex
 exfs:∀b∈X.ex,b∉X.fs
 funs:X.s₀.heap.FunFrames X.base X.outer
 frf:∀b∈X.fs,X.H₀ b=none
structure Inv(X:Cx)(pins:List (af×aE))(σ:List (Option V))(H:Hp)(s:ak):Prop where
 ok:X.Ok
 os:s.os=X.s₀.os
 bare:AllBare s.gens
 base:Un X.fs X.ex X.H₀ H X.s₀.heap s.heap
 loc:∃m,s.heap.Ns X.env.locals m/\∀(i:Nat) (x:Str) (v:V),X.N[i]?=some x->σ[i]?=some (some v)->Vis X.env.scope x->∃u,aU v u/\Look X.env s.heap m x u
 cell:∀x c,X.env.cells.lookup x=some c->∃v,s.heap.IsCell c v
 free:H X.env.locals=none
 freeC:∀x c,X.env.cells.lookup x=some c->H c=none
 pin:∀p∈X.pn++pins,s.heap.get? p.1=some p.2/\H p.1=none/\p.1≠X.env.locals/\p.1∉X.fs/\∀v,p.2.data≠.cell v
 hok:HOk X.prog X.w H s.heap
 len:σ.length=X.N.length
section
variable {X:Cx}{pins:List (af×aE)}{σ:List (Option V)}{H H':Hp}{s:ak}{h':aP}
theorem Cx.Ok.nofr(ok:X.Ok){b:af}{o:aE}(e:X.base.get? b=some o):b∉X.fs:=λhb=>by
 have:=(ok.funs.mem hb).1;rw[e]at this;cases this
theorem Inv.bs(I:Inv X pins σ H s):∀b o,X.base.get? b=some o->s.heap.get? b=some o/\H b=none:=λb o e=>
 ⟨I.base.keep b o (I.ok.bs b o e).1 (I.ok.bs b o e).2 (I.ok.nofr e) (I.ok.noex b o e),I.base.free b o (I.ok.bs b o e).1 (I.ok.bs b o e).2 (I.ok.noex b o e)⟩
theorem Inv.bk(I:Inv X pins σ H s):∀b o,X.base.get? b=some o->s.heap.get? b=some o:=λb o e=>(I.bs b o e).1
theorem Inv.mod(I:Inv X pins σ H s):Mod X.K X.mg X.base:=I.ok.mod
theorem Inv.kIn(I:Inv X pins σ H s):X.K.In s.heap:=I.ok.mod.kin.keeps I.bk
theorem Inv.nolimit(I:Inv X pins σ H s):s.heap.NoLimit:=I.ok.mod.nolimit.keeps I.bk
theorem Inv.lt(I:Inv X pins σ H s):X.env.locals<s.heap.objs.size:=let ⟨_,hn,_⟩:=I.loc;hn.lt
theorem Inv.sz(I:Inv X pins σ H s):X.s₀.heap.objs.size≤s.heap.objs.size:=cL I.ok.above (mi I.lt)
theorem Inv.nofs(I:Inv X pins σ H s){a:af}(h:s.heap.objs.size≤a):a∉X.fs:=λhb=>by
 obtain⟨_,o,ho,_⟩:=I.ok.funs.mem hb;exact absurd (dN (bD ho) (cL I.sz h)) (jn _)
theorem Inv.cne(I:Inv X pins σ H s):∀x c,X.env.cells.lookup x=some c->c≠X.env.locals:=λx c e z=>by
 obtain⟨v,o,ho,hd⟩:=I.cell x c e;obtain⟨m,⟨o',es,ep,ho',hd',_⟩,_⟩:=I.loc;rw[z,ho']at ho;cases ho;rw[hd']at hd;cases hd
theorem Inv.funs(I:Inv X pins σ H s):s.heap.FunFrames X.base X.outer:=by
 have all:∀(l:List Env),(∀b∈frs l,b∈X.fs)->X.s₀.heap.FunFrames X.base l->s.heap.FunFrames X.base l:=by
  intro l
  induction l with
  |nil=>intro _ _;trivial
  |cons env r ih=>
    intro hs hl;obtain⟨hk,⟨L,o,hf,hn,ho,hd⟩,hr⟩:=hl;have hL:L∈X.fs:=hs L (by unfold frs;rw[vd,hf];exact fA);obtain⟨sl,e⟩:=I.base.slot L o ho (I.ok.frf L hL) hL λz=>I.ok.exfs L z hL;exact⟨hk,⟨L,_,hf,hn,e,hd⟩,ih (λb hb=>hs b (by unfold frs;rw[vd,hf];exact dO _ hb)) hr⟩
 exact all X.outer (λ_ hb=>hb) I.ok.funs
theorem Inv.stack(I:Inv X pins σ H s):s.heap.FunFrames X.base X.stack:=by
 rcases I.ok.stk with e|⟨e,hf⟩
 ·rw[e];exact I.funs
 ·rw[e];obtain⟨m,hn,_⟩:=I.loc;refine .cons (by rw[I.ok.kind];decide) hf hn ?_ I.funs;exact mh (cL I.ok.bsz I.ok.above)
theorem Inv.stkSub(I:Inv X pins σ H s):∀b∈frs X.stack,b∈X.env.locals::X.fs:=λb hb=>by
 rcases I.ok.stk with e|⟨e,hf⟩
 ·rw[e]at hb;exact dO _ hb
 ·rw[e]at hb;unfold frs at hb;rw[vd,hf]at hb;exact hb
theorem Inv.stkFree(I:Inv X pins σ H s):∀b∈frs X.stack,H b=none:=λb hb=>by
 rcases bK.mp (I.stkSub b hb) with e|hb
 ·rw[e];exact I.free
 ·obtain⟨_,o,ho,_⟩:=I.ok.funs.mem hb;exact I.base.free b o ho (I.ok.frf b hb) λz=>I.ok.exfs b z hb
theorem Inv.step{g':Array GenState}{t':Nat}{d':Drawn}{ch:List af}(I:Inv X pins σ H s)
  (hch:∀b∈ch,(b∈X.ex∨X.s₀.heap.objs.size≤b)/\b≠X.env.locals/\(∀x c,X.env.cells.lookup x=some c->c≠b)/\∀p∈X.pn++pins,p.1≠b)
  (keep:∀b o,b≠X.env.locals->b∉X.fs->b∉ch->s.heap.get? b=some o->H b=none->h'.get? b=some o)
  (slot:∀b o,b≠X.env.locals->b∈X.fs->b∉ch->s.heap.get? b=some o->H b=none->∃sl,h'.get? b=some { o with slots:=sl }) (free:∀b o,b∉ch->s.heap.get? b=some o->H b=none->H' b=none)
  (there:∀b o,b∉ch->s.heap.get? b=some o->∃o',h'.get? b=some o')
  (tups:∀b xs,H b=some (.tup xs)->H' b=some (.tup xs)) (frzs:∀b o u,H b=some (.frz o u)->H' b=some (.frz o u)) (tbls:∀b ps,H b=some (.tbl ps)->∃more,H' b=some (.tbl (ps++more)))
  (ns:∀m,s.heap.Ns X.env.locals m->h'.Ns X.env.locals m) (hok:HOk X.prog X.w H' h') (hg:AllBare g') :
  Inv X pins σ H' { s with heap:=h',gens:=g',drawn:=d',toks:=t' }:=by
 have neL:∀b o,X.s₀.heap.get? b=some o->b≠X.env.locals:=λb o e=>cS (dN (bD e) I.ok.above);have neC:∀b o,X.s₀.heap.get? b=some o->b∉X.ex->b∉ch:=λb o e hx hb=>by
  rcases(hch b hb).1 with z|z
  ·exact hx z
  ·exact absurd (dN (bD e) z) (jn _)
 have cellK:∀x c,X.env.cells.lookup x=some c->∀v,s.heap.IsCell c v->h'.IsCell c v:=λx c e v e0=>e0.elim λo e1=>e1.elim λho hd=>by
  have nch:c∉ch:=λz=>(hch c z).2.2.1 x c e rfl;by_cases hc:c∈X.fs
  ·obtain⟨sl,q⟩:=slot c o (I.cne x c e) hc nch ho (I.freeC x c e);exact⟨_,q,hd⟩
  ·exact⟨o,keep c o (I.cne x c e) hc nch ho (I.freeC x c e),hd⟩
 refine⟨I.ok,I.os,hg,⟨λb o e n hb hx=>?_,λb o e n hb hx=>?_,λb o e n hx=>?_,λb o e hx=>?_,λb xs e=>tups b xs (I.base.tups b xs e),λb o xs e=>frzs b o xs (I.base.frzs b o xs e),λb ps e=>?_⟩,?_,λx c e=>?_,?_,λx c e=>?_,λp hp=>?_,hok,I.len⟩
 ·exact keep b o (neL b o e) hb (neC b o e hx) (I.base.keep b o e n hb hx) (I.base.free b o e n hx)
 ·obtain⟨sl,e1⟩:=I.base.slot b o e n hb hx;obtain⟨sl',e2⟩:=slot b _ (neL b o e) hb (neC b o e hx) e1 (I.base.free b o e n hx);exact⟨sl',e2⟩
 ·obtain⟨o',e1⟩:=I.base.there b o e hx;exact free b o' (neC b o e hx) e1 (I.base.free b o e n hx)
 ·obtain⟨o',e1⟩:=I.base.there b o e hx;exact there b o' (neC b o e hx) e1
 ·obtain⟨m1,e1⟩:=I.base.tbls b ps e;obtain⟨m2,e2⟩:=tbls b _ e1;exact⟨m1++m2,by rw[e2,Array.append_assoc]⟩
 ·obtain⟨m,hn,hl⟩:=I.loc;refine⟨m,ns m hn,λi x v e1 e2 e3=>?_⟩;obtain⟨u,r,l⟩:=hl i x v e1 e2 e3;refine⟨u,r,?_⟩;rcases l with l|⟨k,c,e,z⟩
  ·exact .inl l
  ·exact .inr ⟨k,c,e,cellK x c e _ z⟩
 ·obtain⟨v,z⟩:=I.cell x c e;exact⟨v,cellK x c e v z⟩
 ·obtain⟨m,⟨o,_,_,ho,_⟩,_⟩:=I.loc;exact free _ o (λz=>(hch _ z).2.1 rfl) ho I.free
 ·obtain⟨v,o,ho,hd⟩:=I.cell x c e;exact free c o (λz=>(hch c z).2.2.1 x c e rfl) ho (I.freeC x c e)
 ·obtain⟨e,n,ne,nf,d⟩:=I.pin p hp;have nch:p.1∉ch:=λz=>(hch p.1 z).2.2.2 p hp rfl;exact⟨keep p.1 p.2 ne nf nch e n,free p.1 p.2 nch e n,ne,nf,d⟩
theorem Inv.un{t':Nat}(I:Inv X pins σ H s)(u:Un X.fs [] H H' s.heap h')(hok:HOk X.prog X.w H' h'):Inv X pins σ H' { s with heap:=h',toks:=t' }:=by
 obtain⟨m,⟨o,es,ep,ho,r⟩,_⟩:=id I.loc;obtain⟨sl,hL⟩:=u.any ho I.free (by simp);exact I.step (g':=s.gens) (d':=s.drawn) (ch:=[]) (λ_ z=>nomatch z) (λb o _ hb _ e n=>u.keep b o e n hb (by simp)) (λb o _ hb _ e n=>u.slot b o e n hb (by simp)) (λb o _ e n=>u.free b o e n (by simp)) (λb o _ e=>u.there b o e (by simp)) u.tups u.frzs u.tbls (λm' hm=>by
  obtain ⟨o',es',ep',ho',r'⟩:=hm;rw [ho] at ho';cases ho';exact ⟨_,es',ep',hL,r'⟩) hok I.bare
theorem Inv.call{g':Array GenState}{t':Nat}{d':Drawn}{ch:List af}(I:Inv X pins σ H s)(u:Un (frs X.stack) ch H H' s.heap h')(hok:HOk X.prog X.w H' h')(hg:AllBare g')
  (hch:∀b∈ch,(b∈X.ex∨X.s₀.heap.objs.size≤b)/\b≠X.env.locals/\(∀x c,X.env.cells.lookup x=some c->c≠b)/\∀p∈X.pn++pins,p.1≠b) :
  Inv X pins σ H' { s with heap:=h',gens:=g',drawn:=d',toks:=t' }:=by
 obtain ⟨m,⟨o,es,ep,ho,r⟩,_⟩:=id I.loc;obtain ⟨sl,hL⟩:=u.any ho I.free λz=>(hch _ z).2.1 rfl;exact I.step (ch:=ch) hch (λb o hL hb hc e n=>u.keep b o e n (λz=>(bK.mp (I.stkSub b z)).elim hL hb) hc) (λb o _ _ hc e n=>u.any e n hc) (λb o hc e n=>u.free b o e n hc) (λb o hc e=>u.there b o e hc) u.tups u.frzs u.tbls (λm' hm=>by
  obtain ⟨o',es',ep',ho',r'⟩:=hm;rw [ho] at ho';cases ho';exact ⟨_,es',ep',hL,r'⟩) hok hg
theorem Inv.turned{t':Nat}{it:af}(I:Inv X pins σ H s)(k:∀b o,b≠it->s.heap.get? b=some o->h'.get? b=some o)(hn:H it=none)(hL:it≠X.env.locals)
  (h1:it∈X.ex∨X.s₀.heap.objs.size≤it) (h2:∀x c,X.env.cells.lookup x=some c->c≠it) (h3:∀p∈X.pn++pins,p.1≠it):Inv X pins σ H { s with heap:=h',toks:=t' }:=by
 have nit:∀b u,H b=some u->b≠it:=λb u e z=>by rw[z,hn]at e;cases e
 refine I.step (g':=s.gens) (d':=s.drawn) (ch:=[it]) (λb hb=>?_) (λb o _ _ hc e _=>k b o (λz=>hc (by simp[z])) e) (λb o _ _ hc e _=>⟨o.slots,k b o (λz=>hc (by simp[z])) e⟩) (λ_ _ _ _ n=>n)
  (λb o hc e=>⟨o,k b o (λz=>hc (by simp[z])) e⟩) (λ_ _ e=>e) (λ_ _ _ e=>e) (λb ps e=>⟨#[],by rw[e];simp⟩) (λm hm=>?_) (λb u e=>?_) I.bare
 ·have e:b=it:=by simpa using hb
  subst e;exact⟨h1,hL,h2,h3⟩
 ·obtain⟨o,es,ep,ho,r⟩:=hm;exact⟨o,es,ep,k _ o (Ne.symm hL) ho,r⟩
 ·refine(I.hok b u e).stay (λc v hc q=>k c v ?_ q) (λ_ q=>q) λ_ _ q=>q;rcases hc with z|z
  ·rw[z];exact nit b u e
  ·exact nit c _ z
theorem Inv.tok(I:Inv X pins σ H s)(t:Nat):Inv X pins σ H { s with toks:=t }:=I.un (h':=s.heap) (t':=t) Un.refl I.hok
theorem Inv.kept{t':Nat}(I:Inv X pins σ H s)(k:∀b u,s.heap.get? b=some u->h'.get? b=some u):Inv X pins σ H { s with heap:=h',toks:=t' }:=I.un (Un.kept k) (I.hok.kept k)
theorem Inv.laid{a:af}{o:HO}{t':Nat}(I:Inv X pins σ H s)(k:∀b u,s.heap.get? b=some u->h'.get? b=some u)(hp:s.heap.objs.size≤a)(new:bQ X.prog X.w (upd H a o) h' a o) :
  Inv X pins σ (upd H a o) { s with heap:=h',toks:=t' }:=I.un (Un.laid k hp (I.hok.fresh hp)) (I.hok.laid k hp new)
theorem Inv.write{x e:af}{o:HO}{t':Nat}(I:Inv X pins σ H s)(mu:Mut (H x))(he:e=x∨H e=some (.own x))(k:∀b u,b≠e->s.heap.get? b=some u->h'.get? b=some u)(heo:∃u,h'.get? e=some u)
  (new:bQ X.prog X.w (upd H x o) h' x o):Inv X pins σ (upd H x o) { s with heap:=h',toks:=t' }:=I.un (Un.write mu he k heo) (I.hok.write mu he k heo new)
theorem Inv.pins_of{pins':List (af×aE)}(I:Inv X pins σ H s)(h:∀p∈pins',s.heap.get? p.1=some p.2/\H p.1=none/\p.1≠X.env.locals/\p.1∉X.fs/\∀v,p.2.data≠.cell v):Inv X pins' σ H s:=
 ⟨I.ok,I.os,I.bare,I.base,I.loc,I.cell,I.free,I.freeC,λp hp=>(fu.mp hp).elim (λz=>I.pin p (mv _ z)) (h p),I.hok,I.len⟩
theorem Bl{N:List Str}(hN:N.Nodup){i j:Nat}{x:Str}(a:N[i]?=some x)(b:N[j]?=some x):i=j:=by
 obtain⟨h1,e1⟩:=bN.mp a;obtain⟨h2,e2⟩:=bN.mp b;exact(List.getElem_inj hN).mp (e1.trans e2.symm)
theorem DP{M:Model}{A:bB}{E:ai->ak->Prop}{i:Nat}{x:Str}{v:V}{u:ai}{Q:Unit->ak->Prop}(I:Inv X pins σ H s)(hN:X.N.Nodup)(hi:X.N[i]?=some x)(hx:Loc X.env.scope x)(r:aU v u)
  (h:∀s',Inv X pins (σ.set i (some v)) H s'->(∃a,nu a s.heap s'.heap/\(a=X.env.locals∨X.env.cells.lookup x=some a))->Q () s') (hf:X.fn x=true∨X.env.scope.names.lookup x=some .local:=by first|exact .inl rfl|exact .inr rfl|assumption):aB M A (storeName X.env x u) Q E s:=by
 obtain⟨m,hn,hl⟩:=id I.loc;have hcls:(X.env.scope.kind == .class||(X.env.scope.kind == .module&&X.env.locals != X.env.globals))=false:=by rw[I.ok.kind];rfl
 have hiσ:i<σ.length:=by rw[I.len];exact(bN.mp hi).1
 have cne:=I.cne;have tracked:∀{a:af}{h':aP},(∃o,s.heap.get? a=some o/\H a=none)->nu a s.heap h'->HOk X.prog X.w H h':=λ{a h'} ha hs b ob e=>by
  obtain⟨_,_,hfree⟩:=ha;refine(I.hok b ob e).stay (λc w' hc q=>(hs.2 c ?_).trans q) (λ_ q=>q) λ_ _ q=>q;rintro rfl;rcases hc with rfl|hc
  ·rw[hfree]at e;cases e
  ·rw[hfree]at hc;cases hc
 rcases hx with hk|hk
 ·refine wpAny_storeName_local hk hn (λh' hn' hs=>?_) hcls;obtain⟨oL,_,_,hoL,_⟩:=id hn;refine h _ ⟨I.ok,I.os,I.bare,⟨λb o e n hb hx=>?_,λb o e n hb hx=>?_,I.base.free,λb o e hx=>?_,I.base.tups,I.base.frzs,I.base.tbls⟩,⟨_,hn',λj y v' e1 e2 e3=>?_⟩,λy c e=>?_,I.free,I.freeC,λp hp=>?_,tracked ⟨oL,hoL,I.free⟩ hs,by simpa using I.len⟩ ⟨_,hs,.inl rfl⟩
  ·exact(hs.2 b (cS (dN (bD e) I.ok.above))).trans (I.base.keep b o e n hb hx)
  ·obtain⟨sl,e1⟩:=I.base.slot b o e n hb hx;exact⟨sl,(hs.2 b (cS (dN (bD e) I.ok.above))).trans e1⟩
  ·obtain⟨o',e1⟩:=I.base.there b o e hx;exact⟨o',(hs.2 b (cS (dN (bD e) I.ok.above))).trans e1⟩
  ·by_cases hj:j=i
   ·subst hj;rw[hi]at e1;cases e1;rw[jU hiσ]at e2;cases e2;exact⟨u,r,.inl ⟨hk,by simp⟩⟩
   ·rw[kJ (Ne.symm hj)]at e2;obtain⟨u',r',q⟩:=hl j y v' e1 e2 e3;refine⟨u',r',?_⟩;rcases q with⟨k,e⟩|⟨k,c,e,z⟩
    ·refine .inl ⟨k,?_⟩;have:y≠x:=λe=>hj (Bl hN e1 (e▸hi));simp[this,e]
    ·exact .inr ⟨k,c,e,z.sameBut hs (cne y c e)⟩
  ·obtain⟨w',z⟩:=I.cell y c e;exact⟨w',z.sameBut hs (cne y c e)⟩
  ·obtain⟨e,n,ne,nf,d⟩:=I.pin p hp;exact⟨(hs.2 p.1 ne).trans e,n,ne,nf,d⟩
 ·have hfn:X.fn x=true:=by
   rcases hf with z|z
   ·exact z
   ·rw[z]at hk;cases hk
  obtain⟨c,hc⟩:=I.ok.has x (.inl hk);obtain⟨w',z⟩:=I.cell x c hc;refine wpAny_storeName_cell I.ok.kind hk hc z (λh' hc' hs=>?_);obtain⟨oc,hoc,hocd⟩:=id z;refine h { s with heap:=h' } ⟨I.ok,I.os,I.bare,⟨λb o e n hb hx=>?_,λb o e n hb hx=>?_,I.base.free,λb o e hx=>?_,I.base.tups,I.base.frzs,I.base.tbls⟩,⟨m,hn.sameBut hs (Ne.symm (cne x c hc)),λj y v' e1 e2 e3=>?_⟩,λy c' e=>?_,I.free,I.freeC,λp hp=>?_,tracked ⟨oc,hoc,I.freeC x c hc⟩ hs,by simpa using I.len⟩ ⟨c,hs,.inr hc⟩
  ·exact(hs.2 b (cS (dN (bD e) (I.ok.cab x c hfn hc)))).trans (I.base.keep b o e n hb hx)
  ·obtain⟨sl,e1⟩:=I.base.slot b o e n hb hx;exact⟨sl,(hs.2 b (cS (dN (bD e) (I.ok.cab x c hfn hc)))).trans e1⟩
  ·obtain⟨o',e1⟩:=I.base.there b o e hx;exact⟨o',(hs.2 b (cS (dN (bD e) (I.ok.cab x c hfn hc)))).trans e1⟩
  ·by_cases hj:j=i
   ·subst hj;rw[hi]at e1;cases e1;rw[jU hiσ]at e2;cases e2;exact⟨u,r,.inr ⟨.inl hk,c,hc,hc'⟩⟩
   ·rw[kJ (Ne.symm hj)]at e2;obtain⟨u',r',q⟩:=hl j y v' e1 e2 e3;refine⟨u',r',?_⟩;rcases q with q|⟨k,c',e,z'⟩
    ·exact .inl q
    ·refine .inr ⟨k,c',e,z'.sameBut hs ?_⟩;rintro rfl;exact hj (Bl hN e1 (I.ok.inj _ _ _ e hc▸hi))
  ·by_cases hcc:c'=c
   ·subst hcc;exact⟨_,hc'⟩
   ·obtain⟨w2,z2⟩:=I.cell y c' e;exact⟨w2,z2.sameBut hs hcc⟩
  ·obtain⟨e,n,ne,nf,d⟩:=I.pin p hp;refine⟨(hs.2 p.1 ?_).trans e,n,ne,nf,d⟩;intro q;rw[q,hoc]at e;have q':oc=p.2:=Option.some.inj e;exact d w' (by rw[←q'];exact hocd)
theorem vF{M:Model}{A:bB}{E:ai->ak->Prop}{i:Nat}{x:Str}{v:V}{u:ai}{Q:Unit->ak->Prop}(I:Inv X pins σ H s)(hN:X.N.Nodup)(hi:X.N[i]?=some x)(hx:Loc X.env.scope x)(r:aU v u)
  (h:∀s',Inv X pins (σ.set i (some v)) H s'->Q () s') (hf:X.fn x=true∨X.env.scope.names.lookup x=some .local:=by first|exact .inl rfl|exact .inr rfl|assumption):aB M A (storeName X.env x u) Q E s:=
 DP I hN hi hx r (λs' I' _=>h s' I') hf
theorem Inv.call'{s':ak}{ch:List af}(I:Inv X pins σ H s)(ho:s'.os=s.os)(u:Un (frs X.stack) ch H H' s.heap s'.heap)(hok:HOk X.prog X.w H' s'.heap)(hg:AllBare s'.gens)
  (hch:∀b∈ch,(b∈X.ex∨X.s₀.heap.objs.size≤b)/\b≠X.env.locals/\(∀x c,X.env.cells.lookup x=some c->c≠b)/\∀p∈X.pn++pins,p.1≠b):Inv X pins σ H' s':=by
 obtain⟨h',g',d',t',o'⟩:=s';have e:o'=s.os:=ho;subst e;exact I.call (g':=g') (t':=t') (d':=d') u hok hg hch
end
abbrev XK:=ai->Option af->Hp->Prop
abbrev St:=List (Option V)
abbrev VK:=V->Hp->Prop
abbrev TE:=St->Hp->VK->Prop
abbrev TT:=St->Hp->(Bool->Hp->Prop)->Prop
abbrev TA:=St->Hp->(List V->Hp->Prop)->Prop
structure Ends where
 nx:St->Hp->Prop
 rt:VK
 bk:St->Hp->Prop:=λ_ _=>False
 ct:St->Hp->Prop:=λ_ _=>False
abbrev TS:=Ends->St->Hp->Prop
def EP(X:Cx)(pins:List (af×aE))(σ:St)(Q:VK)(u:ai)(s':ak):Prop:=∃v H',Inv X pins σ H' s'/\aU v u/\Q v H'
def TP(X:Cx)(pins:List (af×aE))(σ:St)(Q:Bool->Hp->Prop)(b:Bool)(s':ak):Prop:=∃H',Inv X pins σ H' s'/\Q b H'
def AP(X:Cx)(pins:List (af×aE))(σ:St)(Q:List V->Hp->Prop)(us:List ai)(s':ak):Prop:=∃vs H',Inv X pins σ H' s'/\Vals vs us/\Q vs H'
def SP(X:Cx)(pins:List (af×aE))(D:Ends)(f:Flow)(s':ak):Prop:=
 match f with
 |.next=>∃σ' H',Inv X pins σ' H' s'/\D.nx σ' H'
 |.brk=>∃σ' H',Inv X pins σ' H' s'/\D.bk σ' H'
 |.cont=>∃σ' H',Inv X pins σ' H' s'/\D.ct σ' H'
 |.ret u=>∃v σ' H',Inv X pins σ' H' s'/\aU v u/\D.rt v H'
def PE(X:Cx)(e:aw)(t:TE):Prop:=
 ∀(pins:List (af×aE)) (s:ak) (σ:St) (H:Hp) (Q:VK),Inv X pins σ H s->t σ H Q->aB (aD X.prog X.w) X.A (aO e X.env) (EP X pins σ Q) X.xe s
def PT(X:Cx)(e:aw)(t:TT):Prop:=
 ∀(pins:List (af×aE)) (s:ak) (σ:St) (H:Hp) (Q:Bool->Hp->Prop),Inv X pins σ H s->t σ H Q->aB (aD X.prog X.w) X.A (isTrue e X.env (aO e X.env)) (TP X pins σ Q) X.xe s
def PW(X:Cx)(e:aw)(t:TT):Prop:=
 ∀(whole:Sem ai) (pins:List (af×aE)) (s:ak) (σ:St) (H:Hp) (Q:Bool->Hp->Prop),Inv X pins σ H s->t σ H Q->aB (aD X.prog X.w) X.A (isTrue e X.env whole) (TP X pins σ Q) X.xe s
theorem PW.pt{X:Cx}{e:aw}{t:TT}(h:PW X e t):PT X e t:=h _
def PA(X:Cx)(es:List aw)(t:TA):Prop:=
 ∀(pos:Pos) (pins:List (af×aE)) (s:ak) (σ:St) (H:Hp) (Q:List V->Hp->Prop),Inv X pins σ H s->t σ H Q->aB (aD X.prog X.w) X.A (spliced (backTo pos (aV es X.env))) (AP X pins σ Q) X.xe s
def PS(X:Cx)(st:aT)(t:TS):Prop:=
 ∀(pins:List (af×aE)) (s:ak) (σ:St) (H:Hp) (D:Ends),Inv X pins σ H s->t D σ H->aB (aD X.prog X.w) X.A (exec st X.env) (SP X pins D) X.xe s
def PSs(X:Cx)(st:List aT)(t:TS):Prop:=
 ∀(pins:List (af×aE)) (s:ak) (σ:St) (H:Hp) (D:Ends),Inv X pins σ H s->t D σ H->aB (aD X.prog X.w) X.A (execs st X.env) (SP X pins D) X.xe s
theorem thn{α:Type}{t:Sem α}{Q Q':α->ak->Prop}{M:Model}{A:bB}{E:ai->ak->Prop}{s:ak}(h:aB M A t Q E s)(hQ:∀a s,Q a s->Q' a s):aB M A t Q' E s:=cN h hQ λ_ _ x=>x
section
variable {X:Cx}
def Gg(i:Nat):TE:=λσ H Q=>∃v,σ[i]?=some (some v)/\Q v H
def tC(v:V):TE:=λ_ H Q=>Q v H
theorem C5{i:Nat}{x:Str}{pos:Pos}(hN:X.N[i]?=some x)(hv:Vis X.env.scope x)(hd:(x == ("__debug__":Str))=false:=by decide)(hcd:(x == ("__classdict__":Str))=false:=by decide):PE X (.Name x pos) (Gg i):=by
 intro pins s σ H Q I h;obtain⟨v,e,h⟩:=h;obtain⟨m,hn,hl⟩:=I.loc;obtain⟨u,r,l⟩:=hl i x v hN e hv;have fin:EP X pins σ Q u s:=⟨v,H,I,r,h⟩;rcases l with⟨hk,hm⟩|⟨hk,c,hc,hcell⟩
 ·exact wpAny_Name (wpAny_loadName_local I.ok.kind hk hn hm fin) hd
 ·rcases hk with hk|hk
  ·exact wpAny_Name (wpAny_loadName_cell I.ok.kind hk hc hcell fin) hd
  ·exact wpAny_Name (wpAny_loadName_free I.ok.kind hk hc hcell fin hcd) hd
theorem yo{i j pos}:PE X (.Constant (.int i) j pos) (tC (.int i)):=λ_ _ _ H _ I h=>wpAny_Constant_int ⟨.int i,H,I.tok _,⟨_,rfl⟩,h⟩
theorem HK{b j pos}:PE X (.Constant (.bool b) j pos) (tC (.bl b)):=λ_ _ _ H _ I h=>Constant_bool ⟨.bl b,H,I,rfl,h⟩
theorem uo{j pos}:PE X (.Constant .none j pos) (tC .non):=λ_ _ _ H _ I h=>Constant_none ⟨.non,H,I,rfl,h⟩
theorem wW{x j pos}:PE X (.Constant (.str x) j pos) (tC (.str x)):=λ_ _ _ H _ I h=>Calls.Constant_str ⟨.str x,H,I.tok _,⟨_,rfl⟩,h⟩
def Gl(X:Cx)(x:Str):Prop:=X.env.kindOf x=some .globalImplicit
theorem pK{E:ai->ak->Prop}{pins:List (af×aE)}{s:ak}{σ:St}{H:Hp}{x:Str}{u:ai}{pos:Pos}{Q:ai->ak->Prop}(I:Inv X pins σ H s)(hg:Gl X x)(hm:X.mg x=some u)(h:Q u s)
  (hd:(x == ("__debug__":Str))=false:=by decide):aB (aD X.prog X.w) X.A (aO (.Name x pos) X.env) Q E s:=
 Calls.Name_function_global I.ok.kind hg (Calls.loadGlobal_global (by rw[I.ok.glob];exact I.mod.glob.keeps I.bk) hm h) hd
theorem jD{E:ai->ak->Prop}{pins:List (af×aE)}{s:ak}{σ:St}{H:Hp}{x:Str}{u:ai}{pos:Pos}{Q:ai->ak->Prop}(I:Inv X pins σ H s)(hg:Gl X x)(hm:X.mg x=none)(hv:bootBuiltins x=some u)(h:Q u s)
  (hn:x≠"__name__":=by decide) (hd:(x == ("__debug__":Str))=false:=by decide):aB (aD X.prog X.w) X.A (aO (.Name x pos) X.env) Q E s:=by
 obtain⟨mb,h1,h2⟩:=I.mod.blt;exact Calls.Name_function_global I.ok.kind hg (Calls.loadGlobal_builtin (by rw[I.ok.glob];exact I.mod.glob.keeps I.bk) hm (by rw[I.ok.blt];exact h1.keeps I.bk) ((h2 x hn).trans hv) h) hd
theorem Jg{x:Str}{v:V}{u:ai}{pos:Pos}(hg:Gl X x)(hm:X.mg x=some u)(r:aU v u)(hd:(x == ("__debug__":Str))=false:=by decide):PE X (.Name x pos) (tC v):=
 λ_ _ _ H _ I h=>pK I hg hm ⟨v,H,I,r,h⟩ hd
theorem mB{x:Str}{v:V}{u:ai}{pos:Pos}(hg:Gl X x)(hm:X.mg x=none)(hv:bootBuiltins x=some u)(r:aU v u)(hn:x≠"__name__":=by decide)(hd:(x == ("__debug__":Str))=false:=by decide):PE X (.Name x pos) (tC v):=
 λ_ _ _ H _ I h=>jD I hg hm hv ⟨v,H,I,r,h⟩ hn hd
variable {a b:aw}{ta tb:TE}{pos:Pos}
def tB(t:TE):TT:=λσ H Q=>t σ H λx H1=>∃c,x=.bl c/\Q c H1
theorem GQ{e:aw}{t:TE}(h:PE X e t)(he:∀whole,isTrue e X.env whole=(do let v ←whole;standAt e.pos;holding [v] (truthy v)):=by intro _;rfl):PT X e (tB t):=by
 intro pins s σ H Q I hw;refine isTrue_plain (thn (h pins s σ H _ I hw) λv s1 e0=>bA e0 λx H1 I1 r1 q1=>?_) (he _);obtain⟨d,rfl,q⟩:=q1;cases r1;exact wpAny_truthy_bool ⟨H1,I1,q⟩
variable {tA tB':TT}{rest:List aw}
def tOr(t u:TT):TT:=λσ H Q=>t σ H λc H1=>if c=true then Q true H1 else u σ H1 Q
def Ib(t:TT):TT:=λσ H Q=>t σ H λc H1=>Q (!c) H1
theorem HI(ha:PT X a tA):PW X (.BoolOp .And [a] pos) tA:=by
 intro wh pins s σ H Q I h;refine isTrue_and (thn (ha pins s σ H Q I h) λc s1 e=>?_);cases c with
 |true=>exact isTrue_and_nil e
 |false=>exact e
theorem E7(ha:PT X a tA):PW X (.BoolOp .Or [a] pos) tA:=by
 intro wh pins s σ H Q I h;refine isTrue_or (thn (ha pins s σ H Q I h) λc s1 e=>?_);cases c with
 |false=>exact isTrue_or_nil e
 |true=>exact e
theorem FT(ha:PT X a tA)(hb:PW X (.BoolOp .Or (b::rest) pos) tB'):PW X (.BoolOp .Or (a::b::rest) pos) (tOr tA tB'):=by
 intro wh pins s σ H Q I h;refine isTrue_or (thn (ha pins s σ H _ I h) λc s1 e0=>e0.elim λH1 e1=>e1.elim λI1 q1=>?_);cases c with
 |true=>exact⟨H1,I1,q1⟩
 |false=>exact hb wh pins s1 σ H1 Q I1 q1
theorem Ea(ha:PT X a tA):PT X (.UnaryOp .Not a pos) (Ib tA):=by
 intro pins s σ H Q I h;exact isTrue_not (ha pins s σ H (λc H1=>Q (!c) H1) I h)
def GD(ta tb:TE):TE:=λσ H Q=>ta σ H λx H1=>∃c,x=.bl c/\if c=true then tb σ H1 Q else Q (.bl false) H1
def Eo(ta:TE):TE:=λσ H Q=>ta σ H λx H1=>∃c,x=.bl c/\Q (.bl (!c)) H1
theorem Gk{op}{t:TE}(h:PE X a t):PE X (.BoolOp op [a] pos) t:=λpins s σ H Q I hw=>BoolOp_one (h pins s σ H Q I hw)
theorem Hv(ha:PE X a ta)(hb:PE X (.BoolOp .And (b::rest) pos) tb):PE X (.BoolOp .And (a::b::rest) pos) (GD ta tb):=by
 intro pins s σ H Q I h;refine BoolOp_and (thn (ha pins s σ H _ I h) λv s1 e0=>bA e0 λx H1 I1 r1 q1=>?_);obtain⟨c,rfl,q1⟩:=q1;cases r1;refine wpAny_truthy_bool ?_;cases c with
 |true=>exact hb pins s1 σ H1 Q I1 q1
 |false=>exact⟨.bl false,H1,I1,rfl,q1⟩
theorem F1(ha:PE X a ta):PE X (.UnaryOp .Not a pos) (Eo ta):=by
 intro pins s σ H Q I h;refine UnaryOp_ (thn (ha pins s σ H _ I h) λv s1 e0=>bA e0 λx H1 I1 r1 q1=>?_);obtain⟨c,rfl,q1⟩:=q1;cases r1;exact not_of (wpAny_truthy_bool ⟨.bl (!c),H1,I1,rfl,q1⟩)
end
def SqL(K:PySem.W.Frag)(H:Hp)(a:af)(xs:List V):Prop:=
 Rd H a (.lst xs) ∨
  ∃(o:aE) (its:Array ai) (n:Nat),K.lookup a=some o/\o.cls=.type "list"/\o.dict=none/\o.data=.seq its n/\its.size≤bh/\Vals xs its.toList
def SqT(K:PySem.W.Frag)(H:Hp)(a:af)(xs:List V):Prop:=
 Rd H a (.tup xs) ∨
  ∃(o:aE) (its:Array ai) (n:Nat),K.lookup a=some o/\o.cls=.type "tuple"/\o.data=.seq its n/\its.size≤bh/\Vals xs its.toList
noncomputable def Cj:ai->Option V
 |.none=>some .non
 |.bool b=>some (.bl b)
 |.int i _=>some (.int i)
 |.str x _=>some (.str x)
 |.bytes b _=>some (.byt b)
 |.float b _=>some (.flt b)
 |.ref a=>some (.ref a)
 |.type n=>some (.ty n)
 |_=>none
theorem aU.abs{x:V}{u:ai}(r:aU x u):Cj u=some x:=by
 cases x with
 |non=>cases r;rfl
 |bl _=>cases r;rfl
 |int _=>obtain⟨t,rfl⟩:=r;rfl
 |str _=>obtain⟨t,rfl⟩:=r;rfl
 |byt _=>obtain⟨t,rfl⟩:=r;rfl
 |flt _=>obtain⟨t,rfl⟩:=r;rfl
 |ref _=>cases r;rfl
 |ty _=>cases r;rfl
theorem aU.inj{x y:V}{u:ai}(r:aU x u)(q:aU y u):x=y:=Option.some.inj (r.abs.symm.trans q.abs)
theorem Vals.inj:∀{xs ys:List V}{us:List ai},Vals xs us->Vals ys us->xs=ys
 |_,_,_,.nil,.nil=>rfl
 |_,_,_,.cons r t,.cons r' t'=>by rw[r.inj r',Vals.inj t t']
section
variable {X:Cx}{pins:List (af×aE)}{σ:St}{H:Hp}{s:ak}{a:af}{xs ys:List V}
theorem SqL.of{K:PySem.W.Frag}(h:H a=some (.lst xs)):SqL K H a xs:=.inl (.inl h)
theorem SqT.of{K:PySem.W.Frag}(h:H a=some (.tup xs)):SqT K H a xs:=.inl (.inl h)
theorem Inv.list(I:Inv X pins σ H s)(h:SqL X.K H a xs):∃its:List ai,Vals xs its/\PlainL s.heap a its.toArray/\xs.length≤bh:=by
 rcases h with h|⟨o,its,n,hk,hc,hd,hs,hz,r⟩
 ·obtain⟨z,its,n,r,e⟩:=h.ok I.hok;exact⟨its,r,⟨_,n,e,rfl,rfl,rfl⟩,z⟩
 ·refine⟨its.toList,r,⟨o,n,I.kIn a o hk,hc,hd,by simpa using hs⟩,?_⟩;have e:=r.length;simp only[rP]at e;lia
theorem Inv.tuple(I:Inv X pins σ H s)(h:SqT X.K H a xs):∃its:List ai,Vals xs its/\IsTup s.heap a its.toArray/\xs.length≤bh:=by
 rcases h with h|⟨o,its,n,hk,hc,hs,hz,r⟩
 ·obtain⟨z,its,r,p⟩:=h.ok I.hok;exact⟨its,r,p,z⟩
 ·refine⟨its.toList,r,⟨o,I.kIn a o hk,hc,n,by simpa using hs⟩,?_⟩;have e:=r.length;simp only[rP]at e;lia
theorem Inv.list_inj(I:Inv X pins σ H s)(h:SqL X.K H a xs)(h':SqL X.K H a ys):xs=ys:=by
 obtain⟨its,r,⟨o,n,e,_,_,d⟩,_⟩:=I.list h;obtain⟨its',r',⟨o',n',e',_,_,d'⟩,_⟩:=I.list h';rw[e]at e';cases e';rw[d]at d';injection d' with d1 _;have:its=its':=by simpa using congrArg Array.toList d1
 subst this;exact r.inj r'
end
noncomputable abbrev Cx.wish(X:Cx)(E:ai->ak->Prop):Cx:={ X with xe:=E }
theorem Cx.Ok.wish{X:Cx}(ok:X.Ok)(E:ai->ak->Prop):(X.wish E).Ok:=
 ⟨ok.mod,ok.kind,ok.glob,ok.blt,ok.above,ok.inj,ok.has,ok.cab,ok.hd,ok.frames,ok.stk,ok.exf,ok.bs,ok.bsz,ok.noex,ok.exfs,ok.funs,ok.frf⟩
theorem Cx.Ok.unwish{X:Cx}{E:ai->ak->Prop}(ok:(X.wish E).Ok):X.Ok:=
 ⟨ok.mod,ok.kind,ok.glob,ok.blt,ok.above,ok.inj,ok.has,ok.cab,ok.hd,ok.frames,ok.stk,ok.exf,ok.bs,ok.bsz,ok.noex,ok.exfs,ok.funs,ok.frf⟩
section
variable {X:Cx}{pins:List (af×aE)}{σ:St}{H:Hp}{s:ak}{E:ai->ak->Prop}
theorem Inv.wish(I:Inv X pins σ H s)(E:ai->ak->Prop):Inv (X.wish E) pins σ H s:=⟨I.ok.wish E,I.os,I.bare,I.base,I.loc,I.cell,I.free,I.freeC,I.pin,I.hok,I.len⟩
theorem Inv.unwish(I:Inv (X.wish E) pins σ H s):Inv X pins σ H s:=⟨I.ok.unwish,I.os,I.bare,I.base,I.loc,I.cell,I.free,I.freeC,I.pin,I.hok,I.len⟩
theorem SP.unwish{D:Ends}{f:Flow}{s':ak}(h:SP (X.wish E) pins D f s'):SP X pins D f s':=by
 cases f with
 |next=>obtain⟨σ',H',I,q⟩:=h;exact⟨σ',H',I.unwish,q⟩
 |brk=>obtain⟨σ',H',I,q⟩:=h;exact⟨σ',H',I.unwish,q⟩
 |cont=>obtain⟨σ',H',I,q⟩:=h;exact⟨σ',H',I.unwish,q⟩
 |ret u=>obtain⟨v,σ',H',I,r,q⟩:=h;exact⟨v,σ',H',I.unwish,r,q⟩
end
section
variable {X:Cx}{st:aT}{rest:List aT}{t u:TS}{e:aw}{te:TE}{pos:Pos}
def G9:TS:=λD σ H=>D.nx σ H
def EL(t u:TS):TS:=λD σ H=>t { D with nx:=u D } σ H
theorem Hb:PSs X [] G9:=λ_ _ σ H _ I h=>wpAny_execs_nil ⟨σ,H,I,h⟩
theorem Jh(h1:PS X st t)(h2:PSs X rest u):PSs X (st::rest) (EL t u):=by
 intro pins s σ H D I h;refine wpAny_execs_cons (thn (h1 pins s σ H { D with nx:=u D } I h) λf s1 q=>?_);cases f with
 |next=>
   obtain⟨σ',H',I',q⟩:=q;exact h2 pins s1 σ' H' D I' q
 |ret v=>exact q
 |brk=>exact q
 |cont=>exact q
theorem IH(h1:PS X st t):PSs X [st] t:=by
 intro pins s σ H D I h;refine wpAny_execs_cons (thn (h1 pins s σ H D I h) λf s1 q=>?_);cases f with
 |next=>exact wpAny_execs_nil q
 |ret v=>exact q
 |brk=>exact q
 |cont=>exact q
theorem Inv.quiet{pins:List (af×aE)}{σ:St}{H:Hp}{s:ak}(I:Inv X pins σ H s):interactive X.env=false:=by simp[interactive,I.ok.kind]
def II(te:TE):TS:=λD σ H=>te σ H λ_ H1=>D.nx σ H1
theorem Ee(he:PE X e te)(hs:swapsWith e none pos.line X.env=pure false:=by rfl):PS X (.Expr e pos) (II te):=by
 intro pins s σ H D I h;exact wpAny_Expr_any (thn (he pins s σ H _ I h) λv s1 e0=>bA e0 λx H1 I1 r1 q1=>⟨σ,H1,I1,q1⟩) I.quiet hs
def C6(te:TE):TS:=λD σ H=>te σ H D.rt
theorem CK(he:PE X e te):PS X (.Return (some e) pos) (C6 te):=by
 intro pins s σ H D I h;exact wpAny_Return_some (thn (he pins s σ H _ I h) λv s1 e0=>bA e0 λx H1 I1 r1 q1=>⟨x,σ,H1,I1,r1,q1⟩)
def Dn:TS:=λD _ H=>D.rt .non H
theorem IN:PS X (.Return none pos) Dn:=λ_ _ σ H _ I h=>wpAny_Return_none ⟨.non,σ,H,I,rfl,h⟩
def Gi(c:TT)(t u:TS):TS:=λD σ H=>c σ H λb H1=>if b=true then t D σ H1 else u D σ H1
theorem G6{c:aw}{a b:List aT}{tc:TT}(hc:PT X c tc)(ha:PSs X a t)(hb:PSs X b u):PS X (.If c a b pos) (Gi tc t u):=by
 intro pins s σ H D I h;refine wpAny_If (thn (hc pins s σ H _ I h) λd s1 e0=>e0.elim λH1 e1=>e1.elim λI1 q1=>?_);cases d with
 |true=>exact ha pins s1 σ H1 D I1 q1
 |false=>exact hb pins s1 σ H1 D I1 q1
end
abbrev TG:=V->St->Hp->(St->Hp->Prop)->Prop
abbrev TGs:=List V->St->Hp->(St->Hp->Prop)->Prop
def PG(X:Cx)(target:aw)(t:TG):Prop:=
 ∀(pins:List (af×aE)) (s:ak) (σ:St) (H:Hp) (v:V) (u:ai) (Q:St->Hp->Prop),Inv X pins σ H s->aU v u->t v σ H Q ->
  aB (aD X.prog X.w) X.A (assign target X.env u) (λ_ s'=>∃σ' H',Inv X pins σ' H' s'/\Q σ' H') X.xe s
def PGs(X:Cx)(ts:List aw)(t:TGs):Prop:=
 ∀(pins:List (af×aE)) (s:ak) (σ:St) (H:Hp) (vs:List V) (us:List ai) (Q:St->Hp->Prop),Inv X pins σ H s->Vals vs us->t vs σ H Q ->
  aB (aD X.prog X.w) X.A (assignInOrder ((assignEach ts X.env).map (·.2)) us) (λ_ s'=>∃σ' H',Inv X pins σ' H' s'/\Q σ' H') X.xe s
abbrev TSet:=V->V->V->Hp->(Hp->Prop)->Prop
def PSet(X:Cx)(t:TSet):Prop:=
 ∀(pins:List (af×aE)) (s:ak) (σ:St) (H:Hp) (o i v:V) (ov iv u:ai) (Q:Hp->Prop),Inv X pins σ H s->aU o ov->aU i iv->aU v u->t o i v H Q ->
  aB (aD X.prog X.w) X.A (setItem ov iv u) (λ_ s'=>∃H',Inv X pins σ H' s'/\Q H') X.xe s
abbrev TIp:=V->V->Hp->VK->Prop
def PIp(X:Cx)(op:Operator)(t:TIp):Prop:=
 ∀(pins:List (af×aE)) (s:ak) (σ:St) (H:Hp) (x y:V) (v u:ai) (Q:VK),Inv X pins σ H s->aU x v->aU y u->t x y H Q ->
  aB (aD X.prog X.w) X.A (inplaceOp op v u) (EP X pins σ Q) X.xe s
section
variable {X:Cx}{pos:Pos}
def qv(i:Nat):TG:=λv σ H Q=>Q (σ.set i (some v)) H
theorem ym{i:Nat}{x:Str}(hN:X.N.Nodup)(hi:X.N[i]?=some x)(hx:Loc X.env.scope x)(hf:X.fn x=true∨X.env.scope.names.lookup x=some .local:=by first|exact .inl rfl|exact .inr rfl|assumption):PG X (.Name x pos) (qv i):=by
 intro pins s σ H v u Q I r h;exact wpAny_assign_Name (vF I hN hi hx r (λs' I'=>⟨_,H,I',h⟩) hf)
def Ar:TGs:=λvs σ H Q=>vs=[]/\Q σ H
def yf(t:TG)(u:TGs):TGs:=λvs σ H Q=>∃v r,vs=v::r/\t v σ H λσ' H'=>u r σ' H' Q
theorem FU:PGs X [] Ar:=by
 intro pins s σ H vs us Q I r h;obtain⟨e,h⟩:=h;subst e;cases r;exact assignInOrder_nil ⟨σ,H,I,h⟩
theorem Cl{e:aw}{es:List aw}{t:TG}{u:TGs}(h1:PG X e t)(h2:PGs X es u)
  (hs:(assignEach (e::es) X.env).map (·.2)=assign e X.env::(assignEach es X.env).map (·.2):=by rfl):PGs X (e::es) (yf t u):=by
 intro pins s σ H vs us Q I r h;obtain⟨v,vr,e1,h⟩:=h;subst e1;cases r with
 |cons r rr=>
   rw[hs];refine assignInOrder_cons (thn (h1 pins s σ H _ _ _ I r h) λ_ s1 e0=>e0.elim λσ1 e1=>e1.elim λH1 e2=>e2.elim λI1 q1=>?_);exact h2 pins s1 σ1 H1 _ _ Q I1 rr q1
def yU(K:PySem.W.Frag)(n:Nat)(t:TGs):TG:=λv σ H Q=>∃a xs,v=.ref a/\SqT K H a xs/\xs.length=n/\t xs σ H Q
theorem Ck{es:List aw}{k:Nat}{t:TGs}{n:Nat}(hc:X.calm=true)(h:PGs X es t)
  (hn:(assignEach es X.env).length=n:=by rfl) (hst:(assignEach es X.env).findIdx? (·.1)=none:=by rfl):PG X (.Tuple es k pos) (yU X.K n t):=by
 intro pins s σ H v u Q I r hw;obtain⟨a,xs,e1,hq,hl,hw⟩:=hw;subst e1;cases r;obtain⟨its,rv,ht,hz⟩:=I.tuple hq;refine assign_Tuple_tuple (I.ok.hd hc) ht (by simp[hn,←hl,rv.length]) hst λh' hx=>?_
 have I1:Inv X pins σ H { s with heap:=h' }:=I.kept (t':=s.toks) λb o e=>hx b o (cS (bD e)) e;exact h pins _ σ H xs _ Q I1 (by simpa using rv) hw
def yd(to ti:TE)(t:TSet):TG:=λv σ H Q=>to σ H λo H1=>ti σ H1 λi H2=>t o i v H2 λH3=>Q σ H3
theorem ib{o i:aw}{to ti:TE}{t:TSet}(ho:PE X o to)(hi:PE X i ti)(hs:PSet X t)
  (ha:∀v,assign (.Subscript o i pos) X.env v=(do
   let ov ←holding [v] (aO o X.env)
   let iv ←holding [v,ov] (aO i X.env)
   standAt pos
   holding [v,ov,iv] (setItem ov iv v)
   release [v,ov,iv] []):=by intro _;rfl):PG X (.Subscript o i pos) (yd to ti t):=by
 intro pins s σ H v u Q I r h;rw[ha];refine aC (wpAny_holding (thn (ho pins s σ H _ I h) λov s1 e0=>bA e0 λx H1 I1 r1 q1=>?_));refine aC (wpAny_holding (thn (hi pins s1 σ H1 _ I1 q1) λiv s2 e0=>bA e0 λy H2 I2 r2 q2=>?_));refine aC (wpAny_standAt (aC (wpAny_holding (thn (hs pins s2 σ H2 x y v ov iv u _ I2 r1 r2 r q2) λ_ s3 e0=>e0.elim λH3 e1=>e1.elim λI3 q3=>?_))));exact wpAny_release ⟨σ,H3,I3,q3⟩
def wZ(te:TE)(g:TG):TS:=λD σ H=>te σ H λx H1=>g x σ H1 D.nx
theorem Ab{tg e:aw}{te:TE}{g:TG}(he:PE X e te)(hg:PG X tg g)(hs:swapsWithSole [tg] e pos.line X.env=pure false:=by rfl)(hw:swappedStores [tg] e X.env=pure none:=by rfl)
  (h1:(assignEach [tg] X.env).map (·.2)=[assign tg X.env]:=by rfl):PS X (.Assign [tg] e pos) (wZ te g):=by
 intro pins s σ H D I h;refine wpAny_Assign_stores (thn (he pins s σ H _ I h) λv s1 e0=>bA e0 λx H1 I1 r1 q1=>?_) hs hw;rw[h1];exact thn (hg pins s1 σ H1 x v _ I1 r1 q1) λ_ s2 q=>q
theorem DN{i:Nat}{x:Str}{e:aw}{te:TE}{pos':Pos}(hN:X.N.Nodup)(hi:X.N[i]?=some x)(hx:Loc X.env.scope x)(he:PE X e te)(hs:swapsWith e (some (.Name x pos')) pos.line X.env=pure false:=by rfl)(hf:X.fn x=true∨X.env.scope.names.lookup x=some .local:=by first|exact .inl rfl|exact .inr rfl|assumption) :
  PS X (.Assign [.Name x pos'] e pos) (wZ te (qv i)):=by
 intro pins s σ H D I h;refine wpAny_Assign_Name (thn (he pins s σ H _ I h) λv s1 e0=>bA e0 λy H1 I1 r1 q1=>?_) hs;exact vF I1 hN hi hx r1 (λs2 I2=>⟨_,H1,I2,q1⟩) hf
def Cp(to ti te:TE)(tget:V->V->Hp->VK->Prop)(tip:TIp)(tset:TSet):TS:=λD σ H=>to σ H λo H1=>ti σ H1 λi H2=>tget o i H2 λx H3=>te σ H3 λy H4=>tip x y H4 λz H5=>tset o i z H5 λH6=>D.nx σ H6
def PGet(X:Cx)(t:V->V->Hp->VK->Prop):Prop:=
 ∀(pins:List (af×aE)) (s:ak) (σ:St) (H:Hp) (o i:V) (ov iv:ai) (Q:VK),Inv X pins σ H s->aU o ov->aU i iv->t o i H Q ->
  aB (aD X.prog X.w) X.A (getItem ov iv) (EP X pins σ Q) X.xe s
theorem Ew{o i e:aw}{to ti te:TE}{tget:V->V->Hp->VK->Prop}{tip:TIp}{tset:TSet}{op:Operator}{tpos:Pos}(ho:PE X o to)(hi:PE X i ti)(hg:PGet X tget)(he:PE X e te)(hp:PIp X op tip)(hs:PSet X tset)
  (ha:∀ov iv new,augStore i ov iv new=(do holding [new,ov,iv] (setItem ov iv new);release [new,ov,iv] [];pure .next):=by intros;rfl):PS X (.AugAssign (.Subscript o i tpos) op e pos) (Cp to ti te tget tip tset):=by
 intro pins s σ H D I h;refine wpAny_AugAssign_SubscriptAny (thn (ho pins s σ H _ I h) λov s1 e0=>bA e0 λx1 H1 I1 r1 q1=>?_) ha;refine thn (hi pins s1 σ H1 _ I1 q1) λiv s2 e0=>bA e0 λx2 H2 I2 r2 q2=>?_;refine thn (hg pins s2 σ H2 x1 x2 ov iv _ I2 r1 r2 q2) λold s3 e0=>bA e0 λx3 H3 I3 r3 q3=>?_;refine thn (he pins s3 σ H3 _ I3 q3) λv s4 e0=>bA e0 λx4 H4 I4 r4 q4=>?_;refine thn (hp pins s4 σ H4 x3 x4 old v _ I4 r3 r4 q4) λnew s5 e0=>bA e0 λx5 H5 I5 r5 q5=>?_;exact thn (hs pins s5 σ H5 x1 x2 x5 ov iv new _ I5 r1 r2 r5 q5) λ_ s6 e0=>e0.elim λH6 e1=>e1.elim λI6 q6=>⟨σ,H6,I6,q6⟩
def ipI(f:Int->Int->Int):TIp:=λx y H Q=>∃i j,x=.int i/\y=.int j/\Q (.int (f i j)) H
theorem IT:PIp X .Add (ipI λi j=>i+j):=by
 intro pins s σ H x y v u Q I r1 r2 h;obtain⟨i,j,e1,e2,q⟩:=h;subst e1;subst e2;obtain⟨t,rfl⟩:=r1;obtain⟨t',rfl⟩:=r2;exact iadd_int ⟨.int _,H,I.tok _,⟨_,rfl⟩,q⟩
theorem HP:PIp X .Sub (ipI λi j=>i-j):=by
 intro pins s σ H x y v u Q I r1 r2 h;obtain⟨i,j,e1,e2,q⟩:=h;subst e1;subst e2;obtain⟨t,rfl⟩:=r1;obtain⟨t',rfl⟩:=r2;exact isub_int ⟨.int _,H,I.tok _,⟨_,rfl⟩,q⟩
end
section
variable {X:Cx}{pos:Pos}
def FF(c:TT)(tb:TS):TS:=λD σ H=>∃W:Nat->St->Hp->Prop,(∃m,W m σ H)/\∀m σ H,W m σ H ->
 c σ H λb H1=>if b=true then ∃N:St->Hp->Prop,(∀σ' H',N σ' H'->∃m',m'<m/\W m' σ' H')/\tb { D with nx:=N,ct:=N,bk:=D.nx } σ H1 else D.nx σ H1
theorem DF{c:aw}{body:List aT}{tc:TT}{tb:TS}(hp:PassesOwn (aD X.prog X.w) X.A X.env X.xe)(hc:PT X c tc)(hb:PSs X body tb):PS X (.While c body [] pos) (FF tc tb):=by
 intro pins s σ H D I h;obtain⟨W,⟨m0,w0⟩,turn⟩:=h;refine wpAny_While (codeAny_whileLoop (λn s'=>∃σ' H',Inv X pins σ' H' s'/\W n σ' H') ?_ m0 ⟨σ,H,I,w0⟩);rintro n s1 ⟨σ1,H1,I1,w1⟩;refine wpAny_passesOwn hp (thn (hc pins s1 σ1 H1 _ I1 (turn n σ1 H1 w1)) λb s2 e0=>e0.elim λH2 e1=>e1.elim λI2 q2=>?_);cases b with
 |true=>
   obtain⟨N,hN,q2⟩:=q2;rw[if_pos rfl];refine wpAny_passesOwn hp (thn (hb pins s2 σ1 H2 _ I2 q2) λf s3 q3=>?_);cases f with
   |next=>
     obtain⟨σ3,H3,I3,n3⟩:=q3;obtain⟨m',hm,w3⟩:=hN σ3 H3 n3;exact⟨m',hm,σ3,H3,I3,w3⟩
   |cont=>
     obtain⟨σ3,H3,I3,n3⟩:=q3;obtain⟨m',hm,w3⟩:=hN σ3 H3 n3;exact⟨m',hm,σ3,H3,I3,w3⟩
   |brk=>exact q3
   |ret v=>exact q3
 |false=>
   rw[if_neg cK];exact wpAny_execs_nil ⟨σ1,H2,I2,q2⟩
end
structure It where
 go:Nat->Hp->Prop
 yld:Nat->Hp->V->Hp->Prop
 stop:Nat->Hp->Prop
def g4(X:Cx)(pins:List (af×aE))(H:Hp)(b:af):Prop:=
 H b=none/\b≠X.env.locals/\b∉X.fs/\(b∈X.ex∨X.s₀.heap.objs.size≤b)/\(∀x c,X.env.cells.lookup x=some c->c≠b)/\∀p∈X.pn++pins,p.1≠b
theorem Inv.fpOk{X:Cx}{pins:List (af×aE)}{σ:St}{H H':Hp}{s:ak}{b:af}(I:Inv X pins σ H s)(hb:s.heap.objs.size≤b)(hn:H' b=none):g4 X pins H' b:=by
 refine⟨hn,jb (dN I.lt hb),I.nofs hb,.inr (cL I.sz hb),λx c e z=>?_,λp hp z=>?_⟩
 ·obtain⟨v,q⟩:=I.cell x c e;exact absurd (dN q.lt (by rw[z];exact hb)) (jn _)
 ·exact absurd (dN (bD (I.pin p hp).1) (by rw[z];exact hb)) (jn _)
structure Turn(P:br)(w:aX)(K:PySem.W.Frag)(tg:aw)(J:It)(fp:List af)(it:af)(tn:Nat->aP->Prop):Prop where
 mem:it∈fp
 obj:∀i h,tn i h->∀b∈fp,∃o,h.get? b=some o/\∀v,o.data≠.cell v
 keep:∀i h h',tn i h->(∀b∈fp,∀o,h.get? b=some o->h'.get? b=some o)->tn i h'
 item:∀(X:Cx),X.prog=P->X.w=w->X.K=K->X.calm=true->∀(i:Nat) (pins:List (af×aE)) (s:ak) (σ:St) (H:Hp) (E:ai->ak->Prop),Inv X pins σ H s->(∀b∈fp,g4 X pins H b)->tn i s.heap->J.go i H ->
  aB (aD P w) X.A (pyNext (.ref it)) (λr s1=>∃u,r=some u /\
   aB (aD P w) X.A (letOwnedTupleGo tg (.ref it) u) (λ_ s2=>∃x H',Inv X pins σ H' s2/\aU x u/\J.yld i H x H'/\tn (i + 1) s2.heap/\∀b∈fp,H' b=none) E s1) E s
 done:∀(X:Cx),X.prog=P->X.w=w->X.K=K->X.calm=true->∀(i:Nat) (pins:List (af×aE)) (s:ak) (σ:St) (H:Hp) (E:ai->ak->Prop),Inv X pins σ H s->(∀b∈fp,g4 X pins H b)->tn i s.heap->J.stop i H ->
  aB (aD P w) X.A (pyNext (.ref it)) (λr s1=>r=none/\Inv X pins σ H s1) E s
 self:∀(A:bB) (i:Nat) (s:ak) (Q:ai->ak->Prop) (E:ai->ak->Prop),tn i s.heap->Q (.ref it) s->aB (aD P w) A (pyIter (.ref it)) Q E s
abbrev TI:=St->Hp->(It->Hp->Prop)->Prop
def PIE(X:Cx)(pins:List (af×aE))(σ:St)(tg:aw)(R:It->Hp->Prop)(itv:ai)(s2:ak):Prop:=
 ∃(it:af) (fp:List af) (tn:Nat->aP->Prop) (J:It) (H':Hp),itv=.ref it/\Inv X pins σ H' s2/\Turn X.prog X.w X.K tg J fp it tn/\tn 0 s2.heap/\(∀b∈fp,g4 X pins H' b)/\R J H'
def PI(X:Cx)(tg iter:aw)(wi:TI):Prop:=
 ∀(pins:List (af×aE)) (s:ak) (σ:St) (H:Hp) (R:It->Hp->Prop),Inv X pins σ H s->wi σ H R ->
  aB (aD X.prog X.w) X.A (aO iter X.env) (λv s1=>aB (aD X.prog X.w) X.A (pyIter v) (PIE X pins σ tg R) X.xe s1) X.xe s
theorem uA{M:Model}{A:bB}{E:ai->ak->Prop}{s:ak}{tg:aw}{it:af}{u:ai}{o:aE}{n:String}{vs:Array ai}{Q:Unit->ak->Prop}(ho:s.heap.get? it=some o)(hc:o.cls=.type n)(hd:o.data=.fields vs)
  (hn:["enumerate","zip","dict_itemiterator","dict_reverseitemiterator","odict_iterator","itertools.zip_longest","itertools.pairwise"].contains n=false) (hQ:Q () s):aB M A (letOwnedTupleGo tg (.ref it) u) Q E s:=by
 unfold letOwnedTupleGo;cases tg <;> first
  |exact bg hQ
  | (cases u <;> first
    |exact bg hQ
    | (refine aC (wpAny_load ho ?_)
       rw[hc,hd];show aB M A (if(["enumerate","zip","dict_itemiterator","dict_reverseitemiterator","odict_iterator","itertools.zip_longest","itertools.pairwise"].contains n&&vs[0]? == some (rawInt _))=true then _ else _) Q E s;rw[if_neg (by intro h;rw[hn,Bool.false_and]at h;cases h)];exact bg hQ))
noncomputable def Itl(K:PySem.W.Frag)(a:af):It:=
 ⟨λi H=>∃xs x,SqL K H a xs/\xs[i]?=some x,λi H x H'=>H'=H/\∀xs,SqL K H a xs->xs[i]?=some x,λi H=>∃xs,SqL K H a xs/\xs.length≤i⟩
noncomputable def Itr(lo:Int)(n:Nat):It:=⟨λi _=>i<n,λi H x H'=>H'=H/\x=.int (lo+i),λi _=>n≤i⟩
theorem IM{P:br}{w:aX}{K:PySem.W.Frag}{tg:aw}(a it:af):Turn P w K tg (Itl K a) [it] it (λi h=>h.IsListIter it a i) where
 mem:=by simp
 obj:=λi h st b hb=>by
  have e:b=it:=by simpa using hb
  subst e;obtain⟨o,e,c,d⟩:=st;exact⟨o,e,λv z=>by rw[d]at z;cases z⟩
 keep:=λi h h' st k=>st.at λo e=>k it (by simp) o e
 item:=by
  intro X hP hw hK hc i pins s σ H E I hf st hg;subst hP hw hK;obtain⟨xs,x,hq,hx⟩:=hg;obtain⟨its,rv,p,hz⟩:=I.list hq;obtain⟨u,hu,ru⟩:=rv.get hx;obtain⟨f0,f1,f2,f3,f4,f5⟩:=hf it (by simp);refine wpAny_pyNext_list_item st p.isList (x:=u) (by simpa using hu) λh' st' sb=>?_;have I1:Inv X pins σ H { s with heap:=h' }:=I.turned (t':=s.toks) (λb o hb e=>(sb.2 b hb).trans e) f0 f1 f3 f4 f5;obtain⟨o,e,c,d⟩:=id st';exact⟨u,rfl,uA (s:={ s with heap:=h' }) e c d (by decide) ⟨x,H,I1,ru,⟨rfl,λys hy=>by rw[I.list_inj hy hq];exact hx⟩,st',λb hb=>(hf b hb).1⟩⟩
 done:=by
  intro X hP hw hK hc i pins s σ H E I hf st hg;subst hP hw hK;obtain⟨xs,hq,hx⟩:=hg;obtain⟨its,rv,p,hz⟩:=I.list hq;obtain⟨f0,f1,f2,f3,f4,f5⟩:=hf it (by simp);have hl:=rv.length;exact wpAny_pyNext_list_end (I.ok.hd hc) st p.isList (by simp;lia) λh' eb=>⟨rfl,I.turned (t':=s.toks) (λb o hb e=>eb b o hb e) f0 f1 f3 f4 f5⟩
 self:=λ_ _ _ _ _ st h=>wpAny_pyIter_listiter st h
theorem G5{P:br}{w:aX}{K:PySem.W.Frag}{tg:aw}(it:af)(lo:Int)(n:Nat):Turn P w K tg (Itr lo n) [it] it (λi h=>IsRangeIter h it (lo+(i:Nat)*1) ((n:Int)-(i:Nat)) 1) where
 mem:=by simp
 obj:=λi h st b hb=>by
  have e:b=it:=by simpa using hb
  subst e;exact ⟨_,st,λv z=>by
   have z':Data.fields _=Data.cell v:=z;cases z'⟩
 keep:=λi h h' st k=>k it (by simp) _ st
 item:=by
  intro X hP hw hK hc i pins s σ H E I hf st hg;subst hP hw hK;obtain⟨f0,f1,f2,f3,f4,f5⟩:=hf it (by simp);have W:=Walks.range (prog:=X.prog) (w:=X.w) (I.ok.hd hc) it lo 1 n;refine W.item i s _ _ hg st λv h' tk hv st' kk=>?_;obtain⟨t,rfl⟩:=hv;have I1:Inv X pins σ H { s with heap:=h',toks:=tk }:=I.turned (λb o hb e=>kk b o (by simpa using hb) e) f0 f1 f3 f4 f5;refine⟨_,rfl,uA (s:={ s with heap:=h',toks:=tk }) (n:="range_iterator") st' rfl rfl (by decide) ⟨.int (lo+i),H,I1,⟨t,?_⟩,⟨rfl,rfl⟩,st',λb hb=>(hf b hb).1⟩⟩;rw[Int.mul_one]
 done:=by
  intro X hP hw hK hc i pins s σ H E I hf st hg;subst hP hw hK;obtain⟨f0,f1,f2,f3,f4,f5⟩:=hf it (by simp);exact wpAny_pyNext_range_end (I.ok.hd hc) st (by have:n≤i:=hg;lia) λh' eb=>⟨rfl,I.turned (t':=s.toks) (λb o hb e=>eb b o hb e) f0 f1 f3 f4 f5⟩
 self:=λ_ _ _ _ _ st h=>wpAny_pyIter_rangeiter st h
section
variable {X:Cx}{tg:aw}
def c9(K:PySem.W.Frag)(tl:TE):TI:=λσ H R=>tl σ H λx H1=>∃a,x=.ref a/\(∃xs,SqL K H1 a xs)/\R (Itl K a) H1
theorem yG{l:aw}{tl:TE}(hl:PE X l tl):PI X tg l (c9 X.K tl):=by
 intro pins s σ H R I h;refine thn (hl pins s σ H _ I h) λv s1 e0=>bA e0 λx H1 I1 r1 q1=>?_;obtain⟨a,e,⟨xs,hq⟩,q⟩:=q1;subst e;cases r1;obtain⟨its,rv,p,hz⟩:=I1.list hq;refine wpAny_pyIter_list p.isList ?_;refine⟨s1.heap.objs.size,[s1.heap.objs.size],_,_,H1,rfl,I1.kept (t':=s1.toks) λb o e=>bI _ e,IM a _,⟨_,eM _ rfl,rfl,rfl⟩,λb hb=>?_,q⟩;have e:b=s1.heap.objs.size:=by simpa using hb
 subst e;exact I1.fpOk (bo _) (I1.hok.fresh (bo _))
theorem zR{pins:List (af×aE)}{σ:St}{H:Hp}{s:ak}{R:It->Hp->Prop}{E:ai->ak->Prop}{lo hi:Int}{t u v:Tok}{tk:Nat}(I:Inv X pins σ H s)(h1:-(2 ^ 62)≤lo)(h2:lo<2 ^ 62)(h3:-(2 ^ 62)≤hi)(h4:hi<2 ^ 62)
  (q:R (Itr lo (hi-lo).toNat) H):aB (aD X.prog X.w) X.A (pyIter (.ref s.heap.objs.size)) (PIE X pins σ tg R) E { s with heap:=s.heap.push { cls:=.type "range",data:=.fields #[.int lo t,.int hi u,.int 1 v] },toks:=tk }:=by
 refine wpAny_pyIter_range (IsRange.new ..) (small_one h1 h2 h3 h4) ?_;have I1:Inv X pins σ H { s with heap:=s.heap.push { cls:=.type "range",data:=.fields #[.int lo t,.int hi u,.int 1 v] },toks:=tk }:=I.kept λb o e=>bI _ e;refine ⟨(s.heap.push { cls:=.type "range",data:=.fields #[.int lo t,.int hi u,.int 1 v] }).objs.size,[(s.heap.push { cls:=.type "range",data:=.fields #[.int lo t,.int hi u,.int 1 v] }).objs.size],_,_,H,rfl,
  I1.kept (t':=tk) λb o e=>bI _ e,G5 _ lo (hi - lo).toNat,?_,λb hb=>?_,q⟩
 ·have e1:lo+((0:Nat):Int)*1=lo:=by simp
  have e2:(((hi-lo).toNat:Nat):Int)-((0:Nat):Int)=Builtin.Range.rangeSize lo hi 1:=by rw[rangeSize_one];split <;> lia
  show IsRangeIter _ _ (lo+((0:Nat):Int)*1) ((((hi-lo).toNat:Nat):Int)-((0:Nat):Int)) 1;rw[e1,e2];exact eM _ rfl
 ·have e:b=(s.heap.push { cls:=.type "range",data:=.fields #[.int lo t,.int hi u,.int 1 v] }).objs.size:=by simpa using hb
  subst e;exact I1.fpOk (bo _) (I1.hok.fresh (bo _))
def fX(ta:TA):TI:=λσ H R=>ta σ H λvs H1=>∃j:Int,vs=[.int j]/\-(2 ^ 62)≤j/\j<2 ^ 62/\R (Itr 0 j.toNat) H1
def i5(ta:TA):TI:=λσ H R=>ta σ H λvs H1=>∃i j:Int,vs=[.int i,.int j]/\(-(2 ^ 62)≤i/\i<2 ^ 62/\-(2 ^ 62)≤j/\j<2 ^ 62)/\R (Itr i (j-i).toNat) H1
theorem FV{a:aw}{ta:TA}{p pos:Pos}(hg:Gl X "range")(hm:X.mg "range"=none)(ha:PA X [a] ta)(hs:aV [a] X.env=[(false,aO a X.env)]:=by rfl):PI X tg (.Call (.Name "range" p) [a] [] pos) (fX ta):=by
 intro pins s σ H R I h;refine Call_ (jD I hg hm boot_range (PyProof.Rows.callWith_type1 (thn (ha pos pins s σ H _ I h) λus s1 e0=>bA e0 λvs H1 I1 r1 q1=>?_) hs rfl));obtain⟨j,e,q1,q2,q⟩:=q1;subst e;cases r1 with
 |cons r rr=>
   cases rr;obtain⟨t,rfl⟩:=r;exact call_range_1 (zR I1 (by lia) (by lia) q1 q2 (by simpa using q))
theorem Hr{a b:aw}{ta:TA}{p pos:Pos}(hg:Gl X "range")(hm:X.mg "range"=none)(ha:PA X [a,b] ta)(hs:aV [a,b] X.env=[(false,aO a X.env),(false,aO b X.env)]:=by rfl)(hs2:aV [b] X.env=[(false,aO b X.env)]:=by rfl) :
  PI X tg (.Call (.Name "range" p) [a,b] [] pos) (i5 ta):=by
 intro pins s σ H R I h;refine Call_ (jD I hg hm boot_range (PyProof.Rows.callWith_type1 (thn (ha pos pins s σ H _ I h) λus s1 e0=>bA e0 λvs H1 I1 r1 q1=>?_) (by rw[hs,hs2]) (by rw[hs2];rfl)));obtain⟨i,j,e,⟨q1,q2,q3,q4⟩,q⟩:=q1;subst e;cases r1 with
 |cons r rr=>
   cases rr with
   |cons r' rr=>
     cases rr;obtain⟨t,rfl⟩:=r;obtain⟨t',rfl⟩:=r';exact call_range_2 (zR I1 q1 q2 q3 q4 q)
def D5(wi:TI)(g:TG)(tb:TS):TS:=λD σ H=>wi σ H λJ H1=>∃W:Nat->Nat->St->Hp->Prop,(∃m,W 0 m σ H1)/\∀i m σ H,W i m σ H ->
 (J.stop i H/\D.nx σ H)∨(J.go i H/\∃N:St->Hp->Prop,(∀σ' H',N σ' H'->∃m',m'<m/\W (i+1) m' σ' H')/\∀x H',J.yld i H x H'->g x σ H' λσ2 H2=>tb { D with nx:=N,ct:=N,bk:=D.nx } σ2 H2)
noncomputable def kh(fp:List af)(h:aP):List (af×aE):=fp.filterMap λb=>(h.get? b).map λo=>(b,o)
theorem uk{fp:List af}{h:aP}{b:af}{o:aE}(hb:b∈fp)(e:h.get? b=some o):(b,o)∈kh fp h:=List.mem_filterMap.mpr ⟨b,hb,by rw[e];rfl⟩
theorem C9{fp:List af}{h:aP}{p:af×aE}(hp:p∈kh fp h):p.1∈fp/\h.get? p.1=some p.2:=by
 obtain⟨b,hb,e⟩:=List.mem_filterMap.mp hp;cases q:h.get? b with
 |none=>rw[q]at e;cases e
 |some o=>
   rw[q]at e;have e':(b,o)=p:=Option.some.inj e;subst e';exact⟨hb,q⟩
theorem Inv.pinned{pins:List (af×aE)}{σ:St}{H:Hp}{s:ak}{fp:List af}(I:Inv X pins σ H s)(hf:∀b∈fp,g4 X pins H b)(ho:∀b∈fp,∃o,s.heap.get? b=some o/\∀v,o.data≠.cell v):Inv X (pins++kh fp s.heap) σ H s:=
 I.pins_of λp hp=>(fu.mp hp).elim (λz=>I.pin p (eN _ z)) λz=>by
  obtain⟨hb,e⟩:=C9 z;obtain⟨f0,f1,f2,_⟩:=hf p.1 hb;obtain⟨o,e',d⟩:=ho p.1 hb;rw[e]at e';cases e';exact⟨e,f0,f1,f2,d⟩
theorem Inv.unpinned{pins pl:List (af×aE)}{σ:St}{H:Hp}{s:ak}(I:Inv X (pins++pl) σ H s):Inv X pins σ H s:=I.pins_of λp hp=>I.pin p (eN _ (mv _ hp))
theorem AD{iter:aw}{body:List aT}{wi:TI}{g:TG}{tb:TS}{pos:Pos}(hp:PassesOwn (aD X.prog X.w) X.A X.env X.xe)(hc:X.calm=true)(hi:PI X tg iter wi)(hg:PG X tg g)(hb:PSs X body tb)
  (hs:∀x,foldedSetIterable iter X.env x=pure x:=by intro _;rfl):PS X (.For tg iter body [] pos) (D5 wi g tb):=by
 intro pins s σ H D I h;refine wpAny_For (thn (hi pins s σ H _ I h) λv s1 h1=>thn h1 λitv s2 h2=>?_) hs;obtain⟨it,fp,tn,J,H2,e,I2,T,st2,f2,W,⟨m0,w0⟩,turn⟩:=h2;subst e;have stat:∀{H':Hp},(∀b∈fp,H' b=none)->∀b∈fp,g4 X pins H' b:=λhn b hb=>⟨hn b hb,(f2 b hb).2⟩;refine codeAny_forLoop_any (λn s'=>∃i σ' H',Inv X pins σ' H' s'/\tn i s'.heap/\(∀b∈fp,H' b=none)/\W i n σ' H') ?_ m0 ⟨0,σ,H2,I2,st2,λb hb=>(f2 b hb).1,w0⟩;rintro n s3 ⟨i,σ3,H3,I3,st3,fr3,w3⟩;rcases turn i n σ3 H3 w3 with⟨stop,qn⟩|⟨go,N,hN,step⟩
 ·refine wpAny_passesOwn hp (thn (T.done X rfl rfl rfl hc i pins s3 σ3 H3 X.xe I3 (stat fr3) st3 stop) λr s4 e0=>e0.elim λhr I4=>?_);subst hr;exact wpAny_execs_nil ⟨σ3,H3,I4,qn⟩
 ·refine wpAny_passesOwn hp (thn (T.item X rfl rfl rfl hc i pins s3 σ3 H3 X.xe I3 (stat fr3) st3 go) λr s4 e0=>e0.elim λu e1=>e1.elim λhr h4=>?_);subst hr;refine wpAny_passesOwn hp (thn h4 λ_ s5 e0=>bA e0 λx H5 I5 r5 e4=>e4.elim λy5 e5=>e5.elim λst5 fr5=>?_);have I5':=I5.pinned (stat fr5) (T.obj _ _ st5);refine wpAny_passesOwn hp (thn (hg _ s5 σ3 H5 x u _ I5' r5 (step x H5 y5)) λ_ s6 e0=>e0.elim λσ6 e1=>e1.elim λH6 e2=>e2.elim λI6 q6=>?_);refine wpAny_passesOwn hp (thn (hb _ s6 σ6 H6 _ I6 q6) λf s7 q7=>?_);have again:∀{σ7:St}{H7:Hp},Inv X (pins++kh fp s5.heap) σ7 H7 s7->N σ7 H7->∃m,m<n/\∃i σ' H',Inv X pins σ' H' s7/\tn i s7.heap/\(∀b∈fp,H' b=none)/\W i m σ' H':=λ{σ7 H7} I7 n7=>by
   obtain⟨m',hm,w7⟩:=hN σ7 H7 n7;refine⟨m',hm,i+1,σ7,H7,I7.unpinned,T.keep _ _ _ st5 λb hb o e=>(I7.pin (b,o) (eN _ (eN _ (uk hb e)))).1,λb hb=>?_,w7⟩;obtain⟨o,e,d⟩:=T.obj _ _ st5 b hb;exact(I7.pin (b,o) (eN _ (eN _ (uk hb e)))).2.1
  cases f with
  |next=>obtain⟨σ7,H7,I7,n7⟩:=q7;exact again I7 n7
  |cont=>obtain⟨σ7,H7,I7,n7⟩:=q7;exact again I7 n7
  |brk=>obtain⟨σ7,H7,I7,q7⟩:=q7;exact⟨σ7,H7,I7.unpinned,q7⟩
  |ret v=>obtain⟨x7,σ7,H7,I7,r7,q7⟩:=q7;exact⟨x7,σ7,H7,I7.unpinned,r7,q7⟩
end
abbrev R2:=V->V->Hp->VK->Prop
def OpR(X:Cx)(f:ai->ai->Sem ai)(r:R2):Prop:=
 ∀(pins:List (af×aE)) (s:ak) (σ:St) (H:Hp) (x y:V) (v u:ai) (Q:VK),Inv X pins σ H s->aU x v->aU y u->r x y H Q ->
  aB (aD X.prog X.w) X.A (f v u) (EP X pins σ Q) X.xe s
def UnR(X:Cx)(f:ai->Sem ai)(r:V->Hp->VK->Prop):Prop:=
 ∀(pins:List (af×aE)) (s:ak) (σ:St) (H:Hp) (x:V) (v:ai) (Q:VK),Inv X pins σ H s->aU x v->r x H Q ->
  aB (aD X.prog X.w) X.A (f v) (EP X pins σ Q) X.xe s
def eO(X:Cx)(f:ai)(r:List V->Hp->VK->Prop):Prop:=
 ∀(pins:List (af×aE)) (s:ak) (σ:St) (H:Hp) (xs:List V) (us:List ai) (Q:VK),Inv X pins σ H s->Vals xs us->r xs H Q ->
  aB (aD X.prog X.w) X.A (call f us) (EP X pins σ Q) X.xe s
def tOp(r:R2)(ta tb:TE):TE:=λσ H Q=>ta σ H λx H1=>tb σ H1 λy H2=>r x y H2 Q
def tUn(r:V->Hp->VK->Prop)(ta:TE):TE:=λσ H Q=>ta σ H λx H1=>r x H1 Q
def rI(C:Int->Int->Prop)(g:Int->Int->V):R2:=λx y H Q=>∃i j,x=.int i/\y=.int j/\C i j/\Q (g i j) H
def rI0(g:Int->Int->V):R2:=λx y H Q=>∃i j,x=.int i/\y=.int j/\Q (g i j) H
def rU(g:Int->V):V->Hp->VK->Prop:=λx H Q=>∃i,x=.int i/\Q (g i) H
section
variable {X:Cx}{a b c:aw}{ta tb tc:TE}{pos:Pos}
theorem vf(ha:PE X a ta)(hb:PE X b tb){pins:List (af×aE)}{s:ak}{σ:St}{H:Hp}{R:V->V->Hp->Prop}(I:Inv X pins σ H s)
  (h:ta σ H λx H1=>tb σ H1 λy H2=>R x y H2) {Q:ai->ak->Prop} {f:ai->ai->Sem ai}
  (hf:∀v u s2 x y H2,Inv X pins σ H2 s2->aU x v->aU y u->R x y H2->aB (aD X.prog X.w) X.A (f v u) Q X.xe s2) :
  aB (aD X.prog X.w) X.A (aO a X.env) (λv s₁=>aB (aD X.prog X.w) X.A (aO b X.env) (λu s₂=>aB (aD X.prog X.w) X.A (f v u) Q X.xe s₂) X.xe s₁) X.xe s:=by
 refine thn (ha pins s σ H _ I h) λv s1 e0=>bA e0 λx H1 I1 r1 q1=>?_;refine thn (hb pins s1 σ H1 _ I1 q1) λu s2 e0=>bA e0 λy H2 I2 r2 q2=>?_;exact hf v u s2 x y H2 I2 r1 r2 q2
theorem HU{op:Operator}{r:R2}(ho:OpR X (binaryOp op) r)(ha:PE X a ta)(hb:PE X b tb):PE X (.BinOp a op b pos) (tOp r ta tb):=by
 intro pins s σ H Q I h;exact wpAny_BinOp (vf ha hb I h λv u s2 x y H2 I2 rx ry q=>ho pins s2 σ H2 x y v u Q I2 rx ry q)
theorem yP{op:UnaryOp}{r:V->Hp->VK->Prop}(ho:UnR X (unaryOp op) r)(ha:PE X a ta):PE X (.UnaryOp op a pos) (tUn r ta):=by
 intro pins s σ H Q I h;exact UnaryOp_ (thn (ha pins s σ H _ I h) λv s1 e0=>bA e0 λx H1 I1 r1 q1=>ho pins s1 σ H1 x v Q I1 r1 q1)
theorem opI{f:ai->ai->Sem ai}{C:Int->Int->Prop}{g:Int->Int->Int}
  (rule:∀(i j:Int) (t u:Tok) (s:ak) (Q:ai->ak->Prop) (E:ai->ak->Prop),C i j->Q (.int (g i j) s.toks) { s with toks:=s.toks+1 }->aB (aD X.prog X.w) X.A (f (.int i t) (.int j u)) Q E s) :
  OpR X f (rI C λi j=>.int (g i j)):=by
 intro pins s σ H x y v u Q I rx ry h;obtain⟨i,j,rfl,rfl,hc,q⟩:=h;obtain⟨t,rfl⟩:=rx;obtain⟨t',rfl⟩:=ry;exact rule i j t t' s _ _ hc ⟨.int (g i j),H,I.tok _,⟨_,rfl⟩,q⟩
theorem zZ{f:ai->ai->Sem ai}{g:Int->Int->Int}
  (rule:∀(i j:Int) (t u:Tok) (s:ak) (Q:ai->ak->Prop) (E:ai->ak->Prop),Q (.int (g i j) s.toks) { s with toks:=s.toks+1 }->aB (aD X.prog X.w) X.A (f (.int i t) (.int j u)) Q E s) :
  OpR X f (rI0 λi j=>.int (g i j)):=by
 intro pins s σ H x y v u Q I rx ry h;obtain⟨i,j,rfl,rfl,q⟩:=h;obtain⟨t,rfl⟩:=rx;obtain⟨t',rfl⟩:=ry;exact rule i j t t' s _ _ ⟨.int (g i j),H,I.tok _,⟨_,rfl⟩,q⟩
theorem vM{f:ai->ai->Sem ai}{g:Int->Int->Bool}
  (rule:∀(i j:Int) (t u:Tok) (s:ak) (Q:ai->ak->Prop) (E:ai->ak->Prop),Q (.bool (g i j)) s->aB (aD X.prog X.w) X.A (f (.int i t) (.int j u)) Q E s) :
  OpR X f (rI0 λi j=>.bl (g i j)):=by
 intro pins s σ H x y v u Q I rx ry h;obtain⟨i,j,rfl,rfl,q⟩:=h;obtain⟨t,rfl⟩:=rx;obtain⟨t',rfl⟩:=ry;exact rule i j t t' s _ _ ⟨.bl (g i j),H,I,rfl,q⟩
def CDiv(i j:Int):Prop:=0<j/\j<1073741824
def CMul(i j:Int):Prop:=(-(2 ^ 64)<i/\i<2 ^ 64)∨(-(2 ^ 64)<j/\j<2 ^ 64)
theorem CMul.ok{i j:Int}(h:CMul i j):IntMulOk i j:=by
 rcases h with⟨h1,h2⟩|⟨h1,h2⟩
 ·exact .of_left (intBits_le_64 h1 h2)
 ·exact .of_right (intBits_le_64 h1 h2)
theorem Cm:OpR X (binaryOp .Add) (rI0 λi j=>.int (i+j)):=zZ λ_ _ _ _ _ _ _ q=>add_int q
theorem jW:OpR X (binaryOp .Sub) (rI0 λi j=>.int (i-j)):=zZ λ_ _ _ _ _ _ _ q=>sub_int q
theorem Gy:OpR X (binaryOp .Mult) (rI CMul λi j=>.int (i*j)):=opI λ_ _ _ _ _ _ _ hc q=>mul_int q hc.ok
theorem eX:OpR X (binaryOp .FloorDiv) (rI CDiv λi j=>.int (i/j)):=opI λi j _ _ _ _ _ hc q=>by
 have h1:(0:Int)<j:=hc.1;have h2:j<1073741824:=hc.2;exact floordiv_int (by lia) (by rw[Int.fdiv_eq_ediv_of_nonneg i (by lia)];exact q) (.inl (PyProof.noPylong_small (by lia)))
theorem cR:OpR X (binaryOp .Mod) (rI (λ_ j=>0<j) λi j=>.int (i%j)):=opI λi j _ _ _ _ _ hc q=>by
 have h1:(0:Int)<j:=hc;exact mod_int' (by lia) (by rw[Int.fmod_eq_emod_of_nonneg i (by lia)];exact q)
theorem unI{f:ai->Sem ai}{g:Int->Int}
  (rule:∀(i:Int) (t:Tok) (s:ak) (Q:ai->ak->Prop) (E:ai->ak->Prop),Q (.int (g i) s.toks) { s with toks:=s.toks+1 }->aB (aD X.prog X.w) X.A (f (.int i t)) Q E s) :
  UnR X f (rU λi=>.int (g i)):=by
 intro pins s σ H x v Q I rx h;obtain⟨i,rfl,q⟩:=h;obtain⟨t,rfl⟩:=rx;exact rule i t s _ _ ⟨.int (g i),H,I.tok _,⟨_,rfl⟩,q⟩
theorem zE:UnR X (unaryOp .USub) (rU λi=>.int (-i)):=unI λ_ _ _ _ _ q=>neg_int q
end
noncomputable def scal:V->V->Bool
 |.non,.non=>true|.non,.int _=>true|.int _,.non=>true|.non,.bl _=>true|.bl _,.non=>true|.non,.str _=>true|.str _,.non=>true
 |.int _,.int _=>true|.bl _,.bl _=>true|.str _,.str _=>true|.byt _,.byt _=>true
 |.int _,.str _=>true|.str _,.int _=>true|.bl _,.str _=>true|.str _,.bl _=>true
 |_,_=>false
def rEq:R2:=λx y H Q=>scal x y=true/\Q (.bl (decide (x=y))) H
def rNe:R2:=λx y H Q=>scal x y=true/\Q (.bl (!decide (x=y))) H
theorem z9{i j:Int}:decide (V.int i=V.int j)=(i == j):=by
 rw[sg];simp
theorem BI{i j:Bool}:decide (V.bl i=V.bl j)=(i == j):=by
 rw[sg];simp
theorem Bz{i j:Str}:decide (V.str i=V.str j)=(i == j):=by
 rw[sg];simp
theorem yj{i j:Array UInt8}:decide (V.byt i=V.byt j)=(i.toList == j.toList):=by
 rw[sg];cases i;cases j;simp
section
variable {X:Cx}{a b c:aw}{ta tb tc:TE}{pos:Pos}
theorem cM{pins:List (af×aE)}{σ:St}{H:Hp}{s:ak}{Q:VK}{k k':Bool}(I:Inv X pins σ H s)(q:Q (.bl k) H)(e:k=k'):EP X pins σ Q (.bool k') s:=by
 subst e;exact⟨.bl k,H,I,rfl,q⟩
theorem DB:OpR X (d4 .Eq) rEq:=by
 intro pins s σ H x y v u Q I rx ry h;obtain⟨hs,q⟩:=h;cases x with
 |non=>
   cases rx;cases y with
   |non=>cases ry;exact PySem.EqNone.eq_none_none (cM I q (by simp))
   |bl j=>cases ry;exact PySem.EqNone.eq_none_bool (cM I q (by simp))
   |int j=>obtain⟨t',rfl⟩:=ry;exact PySem.EqNone.eq_none_int (cM I q (by simp))
   |str j=>obtain⟨t',rfl⟩:=ry;exact PySem.EqNone.eq_none_str (cM I q (by simp))
   |_=>exact absurd (show false=true from hs) cK
 |bl i=>
   cases rx;cases y with
   |non=>cases ry;exact PySem.EqNone.eq_bool_none (cM I q (by simp))
   |bl j=>cases ry;exact eq_bool (cM I q BI)
   |str j=>obtain⟨t',rfl⟩:=ry;exact PySem.EqMixed.eq_bool_str (cM I q (by simp))
   |_=>exact absurd (show false=true from hs) cK
 |int i=>
   obtain⟨t,rfl⟩:=rx;cases y with
   |non=>cases ry;exact PySem.EqNone.eq_int_none (cM I q (by simp))
   |int j=>obtain⟨t',rfl⟩:=ry;exact eq_int (cM I q z9)
   |str j=>obtain⟨t',rfl⟩:=ry;exact PySem.EqMixed.eq_int_str (cM I q (by simp))
   |_=>exact absurd (show false=true from hs) cK
 |str i=>
   obtain⟨t,rfl⟩:=rx;cases y with
   |non=>cases ry;exact PySem.EqNone.eq_str_none (cM I q (by simp))
   |bl j=>cases ry;exact PySem.EqMixed.eq_str_bool (cM I q (by simp))
   |int j=>obtain⟨t',rfl⟩:=ry;exact PySem.EqMixed.eq_str_int (cM I q (by simp))
   |str j=>obtain⟨t',rfl⟩:=ry;exact eq_str (cM I q Bz)
   |_=>exact absurd (show false=true from hs) cK
 |byt i=>
   obtain⟨t,rfl⟩:=rx;cases y with
   |byt j=>obtain⟨t',rfl⟩:=ry;exact PySem.W.eq_bytes (cM I q yj)
   |_=>exact absurd (show false=true from hs) cK
 |_=>cases y <;> exact absurd (show false=true from hs) cK
theorem De:OpR X (d4 .NotEq) rNe:=by
 intro pins s σ H x y v u Q I rx ry h;obtain⟨hs,q⟩:=h;cases x with
 |non=>
   cases rx;cases y with
   |non=>cases ry;exact PySem.EqNone.ne_none_none (cM I q (by simp))
   |bl j=>cases ry;exact PySem.EqNone.ne_none_bool (cM I q (by simp))
   |int j=>obtain⟨t',rfl⟩:=ry;exact PySem.EqNone.ne_none_int (cM I q (by simp))
   |str j=>obtain⟨t',rfl⟩:=ry;exact PySem.EqNone.ne_none_str (cM I q (by simp))
   |_=>exact absurd (show false=true from hs) cK
 |bl i=>
   cases rx;cases y with
   |non=>cases ry;exact PySem.EqNone.ne_bool_none (cM I q (by simp))
   |bl j=>cases ry;exact ne_bool (cM I q (congrArg not BI))
   |str j=>obtain⟨t',rfl⟩:=ry;exact PySem.EqMixed.ne_bool_str (cM I q (by simp))
   |_=>exact absurd (show false=true from hs) cK
 |int i=>
   obtain⟨t,rfl⟩:=rx;cases y with
   |non=>cases ry;exact PySem.EqNone.ne_int_none (cM I q (by simp))
   |int j=>obtain⟨t',rfl⟩:=ry;exact ne_int (cM I q (congrArg not z9))
   |str j=>obtain⟨t',rfl⟩:=ry;exact PySem.EqMixed.ne_int_str (cM I q (by simp))
   |_=>exact absurd (show false=true from hs) cK
 |str i=>
   obtain⟨t,rfl⟩:=rx;cases y with
   |non=>cases ry;exact PySem.EqNone.ne_str_none (cM I q (by simp))
   |bl j=>cases ry;exact PySem.EqMixed.ne_str_bool (cM I q (by simp))
   |int j=>obtain⟨t',rfl⟩:=ry;exact PySem.EqMixed.ne_str_int (cM I q (by simp))
   |str j=>obtain⟨t',rfl⟩:=ry;exact ne_str (cM I q (congrArg not Bz))
   |_=>exact absurd (show false=true from hs) cK
 |byt i=>
   obtain⟨t,rfl⟩:=rx;cases y with
   |byt j=>obtain⟨t',rfl⟩:=ry;exact PySem.W.ne_bytes (cM I q (congrArg not yj))
   |_=>exact absurd (show false=true from hs) cK
 |_=>cases y <;> exact absurd (show false=true from hs) cK
theorem om:OpR X (d4 .Lt) (rI0 λi j=>.bl (decide (i<j))):=vM λ_ _ _ _ _ _ _ q=>lt_int q
theorem nF:OpR X (d4 .Gt) (rI0 λi j=>.bl (decide (j<i))):=vM λ_ _ _ _ _ _ _ q=>gt_int q
theorem BH:OpR X (d4 .GtE) (rI0 λi j=>.bl (decide (j≤i))):=vM λ_ _ _ _ _ _ _ q=>ge_int q
theorem IF:OpR X (d4 .Is) (λx y H Q=>y=.non/\Q (.bl (decide (x=.non))) H):=by
 intro pins s σ H x y v u Q I rx ry h;obtain⟨rfl,q⟩:=h;cases ry;refine is_none_gen (cM I q ?_);cases x <;> first
  |(cases rx;rfl)
  |(obtain⟨t,rfl⟩:=rx;rfl)
theorem CV:OpR X (d4 .IsNot) (λx y H Q=>y=.non/\Q (.bl (!decide (x=.non))) H):=by
 intro pins s σ H x y v u Q I rx ry h;obtain⟨rfl,q⟩:=h;cases ry;refine isnot_none_gen (cM I q ?_);cases x <;> first
  |(cases rx;rfl)
  |(obtain⟨t,rfl⟩:=rx;rfl)
theorem OpR.or{f:ai->ai->Sem ai}{r r':R2}(h:OpR X f r)(h':OpR X f r'):OpR X f (λx y H Q=>r x y H Q∨r' x y H Q):=by
 intro pins s σ H x y v u Q I rx ry q;rcases q with q|q
 ·exact h pins s σ H x y v u Q I rx ry q
 ·exact h' pins s σ H x y v u Q I rx ry q
theorem cu(b:aw){op:CmpOp}(h:op≠.In:=by decide)(h2:op≠.NotIn:=by decide):behindInMarks op b=false:=by
 have e1:(op == CmpOp.In)=false:=by cases op <;> first|rfl|exact absurd rfl h
 have e2:(op == CmpOp.NotIn)=false:=by cases op <;> first|rfl|exact absurd rfl h2
 cases b <;> simp[behindInMarks,e1,e2]
theorem CA{op:CmpOp}{r:R2}(ho:OpR X (d4 op) r)(ha:PE X a ta)(hb:PE X b tb)(hm:behindInMarks op b=false):PE X (.Compare a [op] [b] pos) (tOp r ta tb):=by
 intro pins s σ H Q I h;exact wpAny_Compare1 (vf ha hb I h λv u s2 x y H2 I2 rx ry q=>ho pins s2 σ H2 x y v u Q I2 rx ry q) hm
def IE(t:TE):TT:=λσ H Q=>t σ H λx H'=>∃k,x=.bl k/\Q k H'
theorem uU{op:CmpOp}{r:R2}(ho:OpR X (d4 op) r)(ha:PE X a ta)(hb:PE X b tb)(hm:behindInMarks op b=false):PT X (.Compare a [op] [b] pos) (IE (tOp r ta tb)):=by
 intro pins s σ H Q I h;refine wpAny_isTrue_Compare1 (thn (ha pins s σ H _ I h) λv s1 e0=>bA e0 λx H1 I1 r1 q1=>thn (hb pins s1 σ H1 _ I1 q1) λu s2 e0=>bA e0 λy H2 I2 r2 q2=>
  thn (ho pins s2 σ H2 x y v u _ I2 r1 r2 q2) λc s3 e0=>bA e0 λz H3 I3 r3 e4=>e4.elim λk e5=>e5.elim λe q3=>?_) hm
 subst e;cases r3;exact wpAny_truthy_bool ⟨H3,I3,q3⟩
theorem l4:(bh:Nat)<2 ^ 63:=by rw[sizeLine_eq];decide
theorem CW:OpR X (binaryOp .Add) (λx y H Q=>∃i j,x=.str i/\y=.str j/\i.length+j.length≤bh/\Q (.str (i++j)) H):=by
 intro pins s σ H x y v u Q I rx ry h;obtain⟨i,j,rfl,rfl,hz,q⟩:=h;obtain⟨t,rfl⟩:=rx;obtain⟨t',rfl⟩:=ry;exact add_str (λt' tk=>⟨.str (i++j),H,I.tok _,⟨_,rfl⟩,q⟩) hz
theorem vals1{x:V}{us:List ai}(r:Vals [x] us):∃u,us=[u]/\aU x u:=by
 cases r with
 |cons r1 r2=>cases r2;exact⟨_,rfl,r1⟩
theorem vals2{x y:V}{us:List ai}(r:Vals [x,y] us):∃u w',us=[u,w']/\aU x u/\aU y w':=by
 cases r with
 |cons r1 r2=>
   cases r2 with
   |cons r3 r4=>cases r4;exact⟨_,_,rfl,r1,r3⟩
theorem Ie:eO X (.type "int") (λxs H Q=>(∃i,xs=[.int i]/\Q (.int i) H)∨∃k,xs=[.bl k]/\Q (.int (if k then 1 else 0)) H):=by
 intro pins s σ H xs us Q I r h;rcases h with⟨i,rfl,q⟩|⟨k,rfl,q⟩
 ·obtain⟨u,rfl,t,rfl⟩:=vals1 r;exact call_int_int ⟨.int i,H,I,⟨_,rfl⟩,q⟩
 ·obtain⟨u,rfl,r1⟩:=vals1 r;cases r1;exact call_int_bool ⟨.int (if k then 1 else 0),H,I.tok _,⟨_,rfl⟩,q⟩
def AO(K:PySem.W.Frag)(x:V)(H:Hp)(n:Nat):Prop:=
 match x with
 |.str y=>y.length≤bh/\n=y.length
 |.byt y=>y.size≤bh/\n=y.size
 |.ref p=>(∃xs,SqL K H p xs/\n=xs.length)∨∃xs,SqT K H p xs/\n=xs.length
 |_=>False
theorem DT:eO X (.builtin "len") (λxs H Q=>∃x n,xs=[x]/\AO X.K x H n/\Q (.int n) H):=by
 intro pins s σ H xs us Q I r h;obtain⟨x,n,rfl,e,q⟩:=h;obtain⟨u,rfl,rx⟩:=vals1 r;have hl:=l4;have hs:bh=16777216:=sizeLine_eq;cases x with
 |str y=>
   obtain⟨t,rfl⟩:=rx;obtain⟨hy,e'⟩:y.length≤bh/\n=y.length:=e;subst e';exact len_str (by lia) ⟨.int _,H,I.tok _,⟨_,rfl⟩,q⟩
 |byt y=>
   obtain⟨t,rfl⟩:=rx;obtain⟨hy,e'⟩:y.size≤bh/\n=y.size:=e;subst e';exact PySem.W.len_bytes (by lia) ⟨.int _,H,I.tok _,⟨_,rfl⟩,q⟩
 |ref p=>
   cases rx;have e':(∃xs,SqL X.K H p xs/\n=xs.length)∨∃xs,SqT X.K H p xs/\n=xs.length:=e;rcases e' with⟨xs,hx,e'⟩|⟨xs,hx,e'⟩
   ·subst e';obtain⟨its,r',pl,hz⟩:=I.list hx;have hlen:=r'.length;exact Calls.call_len_list pl.isList (by simp only[cE];lia) ⟨.int xs.length,H,I.tok _,⟨_,by simp only[cE];rw[hlen]⟩,q⟩
   ·subst e';obtain⟨its,r',pl,hz⟩:=I.tuple hx;have hlen:=r'.length;exact len_tuple pl (by simp only[cE];lia) ⟨.int xs.length,H,I.tok _,⟨_,by simp only[cE];rw[hlen]⟩,q⟩
 |_=>exact(show False from e).elim
end
structure k8(h:aP)(x dx C:af)(mA:Str->Option ai):Prop where
 obj:h.get? x=some (PySem.W.instObj C dx)
 ns:h.Ns1 dx mA
 ne:dx≠x
theorem D8{h:aP}{dx:af}{mA:Str->Option ai}(n:h.Ns1 dx mA):∃od,h.get? dx=some od/\∀name,PySem.W.lookIn name od=some (mA name):=by
 obtain⟨o,es,ep,ho,hd,hk,_,hm⟩:=n;refine⟨o,ho,λname=>?_⟩;have e:=hm name;unfold nsFind findBy at e;rw[←Array.find?_toList]at e;unfold PySem.W.lookIn;rw[hd];dsimp only;split
 ·rename_i y q;rw[q]at e;exact congrArg some e
 ·rename_i q;rw[q]at e;have a:es.toList.any (·.refKey)=false:=by
   rw[List.any_eq_false];intro y hy;obtain⟨z,t,hkey⟩:=hk y (Array.mem_toList_iff.mp hy);simp[DictEntry.refKey,hkey]
  have a':¬es.toList.any (·.refKey)=true:=by rw[a];exact cK
  rw[if_neg a'];exact congrArg some e
theorem k8.look{h:aP}{x dx C:af}{mA:Str->Option ai}(I:k8 h x dx C mA):∃od,PySem.W.InstAt h x (PySem.W.instObj C dx) C (some od)/\∀name,PySem.W.lookIn name od=some (mA name):=
 let ⟨od,ho,hl⟩:=D8 I.ns
 ⟨od,⟨I.obj,rfl,rfl,ho⟩,hl⟩
section
variable {prog:br}{w:aX}{A:bB}{E:ai->ak->Prop}{s:ak}{K:PySem.W.Frag}{x dx C f:af}{mA:Str->Option ai}{name:Str}{v:ai}
theorem B7{expr:Bool}{Q:ai->ak->Prop}(X:K.In s.heap)(I:k8 s.heap x dx C mA)(hg:PySem.W.plainGet K C name=true)(hh:PySem.W.hasDictIn K C=true)
  (ha:PySem.W.findIn K (.ref C) name=some none) (hv:mA name=some v) (hv':PySem.W.handedIn v=true) (h:Q v { s with toks:=s.toks+1 }) :
  aB (aD prog w) A (getAttr (.ref x) name expr) Q E s:=by
 obtain⟨od,J,hl⟩:=I.look;exact PySem.W.get_value X J (PySem.W.plainGet_of hg).1 (PySem.W.findObj_own hh ha rfl (by rw[hl,hv])) hv' h
theorem Ha{pl:Sem Bool}{Q:ai×List ai->ak->Prop}(X:K.In s.heap)(I:k8 s.heap x dx C mA)(hg:PySem.W.plainGet K C name=true)
  (hf:PySem.W.findIn K (.ref C) name=some (some (.ref f))) (ht:PySem.W.isFn K (.ref f)=true) (hv:mA name=none) (h:Q (.ref f,[.ref x]) s) :
  aB (aD prog w) A (getMethod (.ref x) name pl) Q E s:=by
 obtain⟨od,J,hl⟩:=I.look;exact PySem.W.method_fn X J (PySem.W.plainGet_of hg).1 (PySem.W.plainGet_of hg).2 hf (beq_iff_eq.mp ht) (by show(PySem.W.lookIn name od).map (·.isSome)=some false;rw[hl,hv];rfl) h
theorem GH{ns:List Str}{Q:Unit->ak->Prop}(X:K.In s.heap)(I:k8 s.heap x dx C mA)
  (hs:PySem.W.findIn K (.ref C) "__setattr__"=some (some (.builtin "object.__setattr__"))) (hp:PySem.W.plainOver K C=true) (ht:PySem.W.takerIn K C name=some none) (hh:PySem.W.hasDictIn K C=true)
  (hw:PySem.Within mA ns) (hsz:ns.length≤bh)
  (h:∀h',k8 h' x dx C (λy=>if y=name then some v else mA y)->nu dx s.heap h'->Q () { s with heap:=h',toks:=s.toks+2 }) :
  aB (aD prog w) A (setAttr (.ref x) name v) Q E s:=by
 obtain⟨od,J,hl⟩:=I.look;refine PySem.W.set_plain X J hs (PySem.W.osa_open (s:={ s with toks:=s.toks+1 }) (r:=none) X J hp ht λb=>?_);obtain⟨cd,hc,hd'⟩:=PySem.W.any_some hh;have hx:s.heap.get? x=some ⟨.ref C,some dx,.plain,#[]⟩:=I.obj;refine aC (bg (aC (aC (wpAny_loadPart hx (aC (PySem.W.Looks.here (s:={ s with toks:=s.toks+1 }) (PySem.W.looks_clsIn X hc) ?_))))));rw[hd'];refine bg (a:=some dx) (aC (bg (aC ?_)));refine wpAny_nsSet1 (s:={ s with toks:=s.toks+1 }) I.ns λh' hn2 hs2=>?_;obtain⟨oD,esD,epD,hoD,hdD,hcD⟩:=hn2.count (PySem.Within.cons name v hw);refine aC (wpAny_lookBehind hoD (by rw[hdD];exact pastItsLine_dict (cL hcD (by rw[fG];lia))) ?_);exact bg (h _ ⟨(hs2.2 _ (Ne.symm I.ne)).trans I.obj,hn2,I.ne⟩ hs2)
theorem C0{R:Result->ak->Prop}{vs:List ai}{kw:List (Str×ai)}(X:K.In s.heap)(hm:PySem.W.makesIn K C=true)
  (hi:PySem.W.findIn K (.ref C) "__init__"=some (some (.ref f))) (hf:PySem.W.typeIn K (.ref f)=some (.type "function"))
  (h:codeAny (aD prog w) (A.under (.builtin "type.__call__" ⟨.ref C::vs,kw⟩)) (.call (.ref f) ⟨.ref (s.heap.objs.size + 1)::vs,kw⟩) (PySem.W.InitBack (s.heap.objs.size + 1) R)
   { s with heap:=(s.heap.push PySem.W.emptyDict).push (PySem.W.instObj C s.heap.objs.size) }) :
  codeAny (aD prog w) A (.call (.ref C) ⟨vs,kw⟩) R s:=by
 obtain⟨hh,g,d,t,os⟩:=s;exact PySem.W.make_core (PySem.W.makes_of X hm) (PySem.W.looks_findIn X hi) (λself=>PySem.W.bind_fn X self hf) (.inl rfl) h
end
noncomputable def putF(f:Str)(v:V):List (Str×V)->List (Str×V)
 |[]=>[(f,v)]
 |(g,x)::r=>if g=f then(g,v)::r else(g,x)::putF f v r
theorem A1(f g:Str)(v:V):∀fs:List (Str×V),(putF f v fs).lookup g=if g=f then some v else fs.lookup g
 |[]=>by
   show dQ g [(f,v)]=_;by_cases h:g=f
   ·have hb:(g == f)=true:=beq_iff_eq.mpr h;simp only[dQ,hb,if_pos h]
   ·have hb:(g == f)=false:=beq_eq_false_iff_ne.mpr h;simp only[dQ,hb,if_neg h]
 |(k,x)::r=>by
   have ih:=A1 f g v r;rw[show putF f v ((k,x)::r)=(if k=f then(k,v)::r else(k,x)::putF f v r) from rfl];by_cases hk:k=f
   ·rw[if_pos hk];by_cases h:g=k
    ·have hb:(g == k)=true:=beq_iff_eq.mpr h;simp only[dQ,hb,if_pos (h.trans hk)]
    ·have hb:(g == k)=false:=beq_eq_false_iff_ne.mpr h;simp only[dQ,hb,if_neg (λe:g=f=>h (e.trans hk.symm))]
   ·rw[if_neg hk];by_cases h:g=k
    ·have hb:(g == k)=true:=beq_iff_eq.mpr h;simp only[dQ,hb,if_neg (λe:g=f=>hk (h.symm.trans e))]
    ·have hb:(g == k)=false:=beq_eq_false_iff_ne.mpr h;simp only[dQ,hb];exact ih
theorem uP(f:Str)(v:V):∀fs:List (Str×V),f∈(putF f v fs).map (·.1)/\∀g,g∈fs.map (·.1)->g∈(putF f v fs).map (·.1)
 |[]=>⟨by simp[putF],λg h=>by simp at h⟩
 |(k,x)::r=>by
   obtain⟨i1,i2⟩:=uP f v r;rw[show putF f v ((k,x)::r)=(if k=f then(k,v)::r else(k,x)::putF f v r) from rfl];by_cases hk:k=f
   ·rw[if_pos hk];subst hk;exact⟨by simp,λg h=>by simpa using h⟩
   ·rw[if_neg hk];refine⟨?_,λg h=>?_⟩
    ·rw[bz];exact dO _ i1
    ·rw[bz]at h ⊢;rcases bK.mp h with e|e
     ·exact bK.mpr (.inl e)
     ·exact dO _ (i2 g e)
theorem xR(f:Str)(v:V):∀fs:List (Str×V),(putF f v fs).length≤fs.length+1
 |[]=>by simp[putF]
 |(k,x)::r=>by
   have ih:=xR f v r;rw[show putF f v ((k,x)::r)=(if k=f then(k,v)::r else(k,x)::putF f v r) from rfl];by_cases hk:k=f
   ·rw[if_pos hk,fG,fG];lia
   ·rw[if_neg hk,fG,fG];lia
theorem ft.some_of{v:V}{o:Option ai}(r:ft (some v) o):∃u,o=some u/\aU v u:=by
 cases o with
 |none=>exact(show False from r).elim
 |some u=>exact⟨u,rfl,r⟩
theorem ft.none_of{o:Option ai}(r:ft none o):o=none:=by
 cases o with
 |none=>rfl
 |some u=>exact(show False from r).elim
theorem Ic{v:V}{u:ai}(r:aU v u):PySem.W.handedIn u=true:=by
 cases v with
 |non=>cases(show u=Value.none from r);rfl
 |bl b=>cases(show u=Value.bool b from r);rfl
 |int i=>obtain⟨t,e⟩:=(show ∃t,u=Value.int i t from r);cases e;rfl
 |str x=>obtain⟨t,e⟩:=(show ∃t,u=Value.str x t from r);cases e;rfl
 |byt b=>obtain⟨t,e⟩:=(show ∃t,u=Value.bytes b t from r);cases e;rfl
 |flt b=>obtain⟨t,e⟩:=(show ∃t,u=Value.float b t from r);cases e;rfl
 |ref a=>cases(show u=Value.ref a from r);rfl
 |ty n=>cases(show u=Value.type n from r);rfl
section
variable {P:br}{w:aX}{H H':Hp}{h h':aP}{a C dx:af}{fs fs':List (Str×V)}
theorem qY(hok:HOk P w H h)(e:H a=some (.ins C dx fs)):∃mA,k8 h a dx C mA/\(∀f,ft (fs.lookup f) (mA f))/\PySem.Within mA (fs.map (·.1))/\fs.length≤1000/\H dx=some (.own a):=by
 obtain⟨d,z,ne,ob,mA,n,r,q⟩:=(show bQ P w H h a (.ins C dx fs) from hok a _ e);exact⟨mA,⟨ob,n,ne⟩,r,q,z,d⟩
end
structure Cls(K:PySem.W.Frag)(C:af):Prop where
 pg:PySem.W.plainGet K C Str.empty=true
 hd:PySem.W.hasDictIn K C=true
 po:PySem.W.plainOver K C=true
 sa:PySem.W.findIn K (.ref C) "__setattr__"=some (some (.builtin "object.__setattr__"))
theorem Cls.get{K:PySem.W.Frag}{C:af}(c:Cls K C)(f:Str):PySem.W.plainGet K C f=true:=c.pg
def dh(K:PySem.W.Frag)(C:af)(f:Str):Prop:=PySem.W.findIn K (.ref C) f=some none
theorem dh.taker{K:PySem.W.Frag}{C:af}{f:Str}(n:dh K C f):PySem.W.takerIn K C f=some none:=by
 unfold PySem.W.takerIn;rw[show PySem.W.findIn K (.ref C) f=some none from n];rfl
structure Meth(K:PySem.W.Frag)(C:af)(m:Str)(f:af):Prop where
 at_:PySem.W.findIn K (.ref C) m=some (some (.ref f))
 fn:PySem.W.isFn K (.ref f)=true
 kp:PySem.W.keepIn K (.ref f)=true
section
variable {X:Cx}{pins:List (af×aE)}{σ:St}{H:Hp}{s:ak}{a C dx:af}{fs:List (Str×V)}{f:Str}{v:V}{A:bB}{E:ai->ak->Prop}
theorem AE{b:Bool}{Q:ai->ak->Prop}(I:Inv X pins σ H s)(e:H a=some (.ins C dx fs))(c:Cls X.K C)(n:dh X.K C f)(l:fs.lookup f=some v)
  (h:∀u s',Inv X pins σ H s'->aU v u->Q u s'):aB (aD X.prog X.w) A (getAttr (.ref a) f b) Q E s:=by
 obtain⟨mA,O,r,_,_,_⟩:=qY I.hok e;obtain⟨u,hu,ru⟩:=ft.some_of (v:=v) (o:=mA f) (by rw[←l];exact r f);exact B7 I.kIn O (c.get f) c.hd n hu (Ic ru) (h u _ (I.tok _) ru)
theorem BV{m:Str}{g:af}{pl:Sem Bool}{Q:ai×List ai->ak->Prop}(I:Inv X pins σ H s)(e:H a=some (.ins C dx fs))(c:Cls X.K C)(k:Meth X.K C m g)(l:fs.lookup m=none)
  (h:Q (.ref g,[.ref a]) s):aB (aD X.prog X.w) A (getMethod (.ref a) m pl) Q E s:=by
 obtain⟨mA,O,r,_,_,_⟩:=qY I.hok e;have hn:mA m=none:=ft.none_of (by rw[←l];exact r m);exact Ha I.kIn O (c.get m) k.at_ k.fn hn h
theorem zB{y:V}{u:ai}{Q:Unit->ak->Prop}(I:Inv X pins σ H s)(e:H a=some (.ins C dx fs))(c:Cls X.K C)(n:dh X.K C f)(hl:fs.length<1000)(ry:aU y u)
  (h:∀s',Inv X pins σ (upd H a (.ins C dx (putF f y fs))) s'->Q () s'):aB (aD X.prog X.w) A (setAttr (.ref a) f u) Q E s:=by
 obtain⟨mA,O,r,wi,_,ho⟩:=qY I.hok e;have hz:(fs.map (·.1)).length≤bh:=by rw[bS,sizeLine_eq];lia
 refine GH I.kIn O c.sa c.po n.taker c.hd wi hz λh' O' sb=>h _ ?_;have hd:∃o,h'.get? dx=some o:=let ⟨o,_,_,e',_⟩:=O'.ns;⟨o,e'⟩;refine I.write (x:=a) (e:=dx) (by rw[e];exact True.intro) (.inr ho) (λb q hb z=>(sb.2 b hb).trans z) hd ?_;refine⟨by rw[ba O.ne];exact ho,?_,O.ne,O'.obj,_,O'.ns,λg=>?_,λg hg=>?_⟩
 ·have:=xR f y fs;lia
 ·show ft ((putF f y fs).lookup g) (if g=f then some u else mA g);rw[A1];by_cases q:g=f
  ·rw[if_pos q,if_pos q];exact ry
  ·rw[if_neg q,if_neg q];exact r g
 ·by_cases q:g=f
  ·rw[q];exact(uP f y fs).1
  ·refine(uP f y fs).2 g (wi g λz=>hg ?_);show(if g=f then some u else mA g)=none;rw[if_neg q];exact z
theorem Inv.made(I:Inv X pins σ H s):Inv X pins σ (upd (upd H s.heap.objs.size (.own (s.heap.objs.size+1))) (s.heap.objs.size+1) (.ins C s.heap.objs.size []))
  { s with heap:=(s.heap.push PySem.W.emptyDict).push (PySem.W.instObj C s.heap.objs.size) }:=by
 have e1:(s.heap.push PySem.W.emptyDict).get? s.heap.objs.size=some PySem.W.emptyDict:=eM s.heap rfl;have e2:((s.heap.push PySem.W.emptyDict).push (PySem.W.instObj C s.heap.objs.size)).get? (s.heap.objs.size+1)=some (PySem.W.instObj C s.heap.objs.size):=by
  have:=eM (s.heap.push PySem.W.emptyDict) (o:=PySem.W.instObj C s.heap.objs.size) rfl
  rwa [Heap.size_push]at this
 have e3:(s.heap.push PySem.W.emptyDict).Ns s.heap.objs.size (λ_=>none):=⟨PySem.W.emptyDict,#[],_,e1,rfl,(λe he=>absurd he (by simp)),λ_=>rfl⟩
 have I1:=I.laid (a:=s.heap.objs.size) (o:=.own (s.heap.objs.size+1)) (h':=s.heap.push PySem.W.emptyDict) (t':=s.toks) (λb u q=>bI _ q) (bo _) ⟨_,e1⟩;refine I1.laid (a:=s.heap.objs.size+1) (o:=.ins C s.heap.objs.size []) (t':=s.toks) (λb u q=>bI _ q) (pS (Heap.size_push _ _)) ?_;have ne:s.heap.objs.size≠s.heap.objs.size+1:=cS (uH _);refine⟨by rw[ba ne,dw],fB _,ne,e2,λ_=>none,(Heap.Ns1.of_empty e3).at λo q=>bI _ q,λ_=>True.intro,λy hy=>absurd rfl hy⟩
theorem Ih{prog:br}{w:aX}{env:Env}{e:aw}{f:Str}{pos:Pos}{s:ak}{Q:ai->ak->Prop}(hb:attributeBase e f env (aO e env)=aO e env)
  (h:aB (aD prog w) A (aO e env) (λo s₁=>aB (aD prog w) A (getAttr o f true) Q E s₁) E s):aB (aD prog w) A (aO (.Attribute e f pos) env) Q E s:=
 Attribute_any_ h (by rw[arm_eval_Attribute,hb])
end
def Gf(K:PySem.W.Frag)(ta:TE)(f:Str):TE:=λσ H Q=>ta σ H λx H1=>∃a C dx fs v,x=.ref a/\H1 a=some (.ins C dx fs)/\Cls K C/\dh K C f/\fs.lookup f=some v/\Q v H1
def ee(K:PySem.W.Frag)(ta tv:TE)(f:Str):TS:=λD σ H=>tv σ H λy H1=>ta σ H1 λx H2=>∃a C dx fs,x=.ref a/\H2 a=some (.ins C dx fs)/\Cls K C/\dh K C f/\fs.length<1000 /\
 D.nx σ (upd H2 a (.ins C dx (putF f y fs)))
def rW(X:Cx)(op:Operator)(rd:V->V->Hp->VK->Prop):Prop:=
 ∀(pins:List (af×aE)) (s:ak) (σ:St) (H:Hp) (x y:V) (u v:ai) (Q:VK),Inv X pins σ H s->aU x u->aU y v->rd x y H Q->aB (aD X.prog X.w) X.A (inplaceOp op u v) (EP X pins σ Q) X.xe s
def Hm(K:PySem.W.Frag)(ta tv:TE)(rd:V->V->Hp->VK->Prop)(f:Str):TS:=λD σ H=>ta σ H λx H1=>∃a C dx fs v,x=.ref a/\H1 a=some (.ins C dx fs)/\Cls K C/\dh K C f/\fs.lookup f=some v /\
 tv σ H1 λy H2=>rd v y H2 λz H3=>∃dx' fs',H3 a=some (.ins C dx' fs')/\fs'.length<1000/\D.nx σ (upd H3 a (.ins C dx' (putF f z fs')))
section
variable {X:Cx}{o e value:aw}{f:Str}{pos pos' tpos:Pos}{ta tv:TE}
theorem E9(he:PE X e ta)(hb:attributeBase e f X.env (aO e X.env)=aO e X.env):PE X (.Attribute e f pos) (Gf X.K ta f):=by
 intro pins s σ H Q I h;refine Ih hb (thn (he pins s σ H _ I h) λu s1 e0=>bA e0 λx H1 I1 rx e4=>e4.elim λa e5=>e5.elim λC e6=>e6.elim λdx e7=>e7.elim λfs e8=>e8.elim λv e9=>e9.elim λex e10=>e10.elim λea e11=>e11.elim λc e12=>e12.elim λn e13=>e13.elim λl q=>?_);subst ex;obtain rfl:u=Value.ref a:=rx;exact AE I1 ea c n l λu' s2 I2 ru=>⟨v,H1,I2,ru,q⟩
theorem GJ(ha:PE X o ta)(hv:PE X value tv)(hs:swapsWith value (some (.Attribute o f pos')) pos.line X.env=pure false):PS X (.Assign [.Attribute o f pos'] value pos) (ee X.K ta tv f):=by
 intro pins s σ H D I h;refine plainObj_wpAny_Assign_Attribute (thn (hv pins s σ H _ I h) λu s1 e0=>bA e0 λy H1 I1 ry q=>thn (ha pins s1 σ H1 _ I1 q) λov s2 e0=>bA e0 λx H2 I2 rx e4=>e4.elim λa e5=>e5.elim λC e6=>e6.elim λdx e7=>e7.elim λfs e8=>e8.elim λex e9=>e9.elim λea e10=>e10.elim λc e11=>e11.elim λn e12=>e12.elim λl q2=>?_) hs;subst ex;obtain rfl:ov=Value.ref a:=rx;exact zB I2 ea c n l ry λs3 I3=>⟨σ,_,I3,q2⟩
theorem Cc{op:Operator}{rd:V->V->Hp->VK->Prop}(ha:PE X o ta)(hv:PE X value tv)(hop:rW X op rd):PS X (.AugAssign (.Attribute o f tpos) op value pos) (Hm X.K ta tv rd f):=by
 intro pins s σ H D I h;refine wpAny_AugAssign_AttributeAny (thn (ha pins s σ H _ I h) λov s1 e0=>bA e0 λx H1 I1 rx e4=>e4.elim λa e5=>e5.elim λC e6=>e6.elim λdx e7=>e7.elim λfs e8=>e8.elim λv e9=>e9.elim λex e10=>e10.elim λea e11=>e11.elim λc e12=>e12.elim λn e13=>e13.elim λl q=>?_);subst ex;obtain rfl:ov=Value.ref a:=rx;refine AE I1 ea c n l λu s2 I2 ru=>thn (hv pins s2 σ H1 _ I2 q) λw3 s3 e0=>bA e0 λy H2 I3 ry q3=>thn (hop pins s3 σ H2 v y u w3 _ I3 ru ry q3) λw4 s4 e0=>bA e0 λz H3 I4 rz e4=>e4.elim λdx' e5=>e5.elim λfs' e6=>e6.elim λea' e7=>e7.elim λl' q4=>?_;exact zB I4 ea' c n l' rz λs5 I5=>⟨σ,_,I5,q4⟩
def qp:V->V->Hp->VK->Prop:=λx y H Q=>∃i j,x=.int i/\y=.int j/\Q (.int (i+j)) H
def Dm:V->V->Hp->VK->Prop:=λx y H Q=>∃i j,x=.int i/\y=.int j/\Q (.int (i-j)) H
theorem Al:rW X .Add qp:=by
 rintro pins s σ H x y u v Q I rx ry ⟨i,j,rfl,rfl,q⟩;obtain⟨t,rfl⟩:=(show ∃t,u=Value.int i t from rx);obtain⟨t',rfl⟩:=(show ∃t',v=Value.int j t' from ry);exact PyProof.Rows.iadd_int ⟨.int (i+j),H,I.tok _,⟨_,rfl⟩,q⟩
theorem Dk:rW X .Sub Dm:=by
 rintro pins s σ H x y u v Q I rx ry ⟨i,j,rfl,rfl,q⟩;obtain⟨t,rfl⟩:=(show ∃t,u=Value.int i t from rx);obtain⟨t',rfl⟩:=(show ∃t',v=Value.int j t' from ry);exact PyProof.Rows.isub_int ⟨.int (i-j),H,I.tok _,⟨_,rfl⟩,q⟩
end
section
variable {X:Cx}{pins:List (af×aE)}{σ:St}{H:Hp}{s:ak}{A:bB}{E:ai->ak->Prop}{Q:ai->ak->Prop}{c:ai}{b:Bool}
inductive gF(K:PySem.W.Frag)(H:Hp):V->ai->Prop where
 |non:gF K H .non (.type "NoneType")
 |bl (x:Bool):gF K H (.bl x) (.type "bool")
 |int (i:Int):gF K H (.int i) (.type "int")
 |str (x:Str):gF K H (.str x) (.type "str")
 |flt (x:UInt64):gF K H (.flt x) (.type "float")
 |lst {a:af} {xs:List V} (e:H a=some (.lst xs)):gF K H (.ref a) (.type "list")
 |frz {a:af} {o:aE} {xs:List V} (e:H a=some (.frz o (.lst xs))):gF K H (.ref a) (.type "list")
 |tup {a:af} {xs:List V} (e:H a=some (.tup xs)):gF K H (.ref a) (.type "tuple")
 |dK {a:af} {kvs:List (Key×V)} (e:H a=some (.dK kvs)):gF K H (.ref a) (.type "dict")
 |dT {a:af} {kvs:List (List Key×V)} (e:H a=some (.dT kvs)):gF K H (.ref a) (.type "dict")
 |ins {a C dx:af} {fs:List (Str×V)} (e:H a=some (.ins C dx fs)) (cl:Cls K C) (ha:PySem.W.findIn K (.ref C) "__class__"=some (some (.builtin "object.__class__")))
   (hn:PySem.W.specialIn K (.builtin "object.__class__") "__get__"=some (some (.builtin "getset_descriptor.__get__"))) (htk:PySem.W.takesIn K (.builtin "object.__class__")=some true)
   (hm:PySem.W.mroIn K C (.type "object")=some true):gF K H (.ref a) (.ref C)
theorem Il{x:V}{u t:ai}(I:Inv X pins σ H s)(rx:aU x u)(ty:gF X.K H x t)(e:PySem.W.kitOne X.K t c=some b)(h:∀tk,Q (.bool b) { s with toks:=tk }) :
  aB (aD X.prog X.w) A (call (.builtin "isinstance") [u,c]) Q E s:=by
 cases ty with
 |non=>cases(show u=Value.none from rx);exact PySem.W.kia_one PySem.W.kitx_none I.kIn True.intro e (λz=>nomatch z) h
 |bl y=>cases(show u=Value.bool y from rx);exact PySem.W.kia_one PySem.W.kitx_bool I.kIn True.intro e (λz=>nomatch z) h
 |int i=>obtain⟨t,q⟩:=(show ∃t,u=Value.int i t from rx);cases q;exact PySem.W.kia_one PySem.W.kitx_int I.kIn True.intro e (λz=>nomatch z) h
 |str y=>obtain⟨t,q⟩:=(show ∃t,u=Value.str y t from rx);cases q;exact PySem.W.kia_one PySem.W.kitx_str I.kIn True.intro e (λz=>nomatch z) h
 |flt y=>obtain⟨t,q⟩:=(show ∃t,u=Value.float y t from rx);cases q;exact PySem.W.kia_one PySem.W.kitx_float I.kIn True.intro e (λz=>nomatch z) h
 |@lst a xs ea=>
   cases(show u=Value.ref a from rx);obtain⟨_,_,n,_,h1⟩:=(show bQ X.prog X.w H s.heap a (.lst xs) from I.hok a _ ea);exact PySem.W.kia_one PySem.W.kitx_list I.kIn ⟨_,h1,rfl⟩ e (λz=>nomatch z) h
 |@frz a ob xs ea=>
   cases(show u=Value.ref a from rx);obtain⟨_,_,_,n,_,h1⟩:=(show bQ X.prog X.w H s.heap a (.frz ob (.lst xs)) from I.hok a _ ea);exact PySem.W.kia_one PySem.W.kitx_list I.kIn ⟨_,h1,rfl⟩ e (λz=>nomatch z) h
 |@tup a xs ea=>
   cases(show u=Value.ref a from rx);obtain⟨_,_,_,p⟩:=(show bQ X.prog X.w H s.heap a (.tup xs) from I.hok a _ ea);obtain⟨o,h1,h2,_⟩:=p;exact PySem.W.kia_one PySem.W.kitx_tuple I.kIn ⟨o,h1,h2⟩ e (λz=>nomatch z) h
 |@dK a kvs ea=>
   cases(show u=Value.ref a from rx);obtain⟨_,_,vs,_,p⟩:=(show bQ X.prog X.w H s.heap a (.dK kvs) from I.hok a _ ea);obtain⟨o,es,ep,h1,h2,_⟩:=p;exact PySem.W.kia_one PySem.W.kitx_dict I.kIn ⟨o,h1,h2.1⟩ e (λz=>nomatch z) h
 |@dT a kvs ea=>
   cases(show u=Value.ref a from rx);obtain⟨_,_,xs,_,o,es,ep,h1,h2,_⟩:=(show bQ X.prog X.w H s.heap a (.dT kvs) from I.hok a _ ea);exact PySem.W.kia_one PySem.W.kitx_dict I.kIn ⟨o,h1,h2.1⟩ e (λz=>nomatch z) h
 |@ins a C dx fs ea cl ha hn htk hm=>
   cases(show u=Value.ref a from rx);obtain⟨mA,O,_⟩:=qY I.hok ea;obtain⟨od,J,_⟩:=O.look;exact PySem.W.kia_one (PySem.W.kitx_own (cl.get _) cl.hd ha hn htk hm) I.kIn J e (λz=>nomatch z) h
end
structure Room(k:Nat)(A:bB):Prop where
 hd:A.handled=none
 dp:A.depth+3*k+5<recursionLimit
 un:A.units+16*k+200<cLine
theorem Room.mono{j k:Nat}{A:bB}(r:Room k A)(h:j≤k):Room j A:=⟨r.hd,by have:=r.dp;lia,by have:=r.un;lia⟩
theorem Room.deeper{k:Nat}{A:bB}(r:Room (k+1) A)(env:Env):Room k (A.deeper env):=
 ⟨r.hd,by have:=r.dp;show A.depth+1+3*k+5<_;lia,by have:=r.un;show A.units+3+16*k+200<_;lia⟩
theorem D3{A:bB}{C:af}{us:List ai}{kw:List (Str×ai)}:(A.under (.builtin "type.__call__" ⟨.ref C::us,kw⟩)).depth=A.depth+1:=by
 first|rfl|simp[Around.under,Code.weight,Code.isCreation,Code.isGuard,Code.isCaller,Code.frames,Code.isFrame,guardIds]
theorem IG{A:bB}{C:af}{us:List ai}{kw:List (Str×ai)}:(A.under (.builtin "type.__call__" ⟨.ref C::us,kw⟩)).units=A.units+1:=by
 first|rfl|simp[Around.under,Code.cUnits,Code.frames,Code.isFrame]
theorem Room.make{k:Nat}{A:bB}(r:Room (k+1) A)(C:af)(us:List ai)(kw:List (Str×ai)):Room k (A.under (.builtin "type.__call__" ⟨.ref C::us,kw⟩)):=
 ⟨r.hd,by have:=r.dp;rw[D3];lia,by have:=r.un;rw[IG];lia⟩
theorem Room.depth{k:Nat}{A:bB}(r:Room k A):A.depth<recursionLimit:=by have:=r.dp;lia
theorem Room.units{k:Nat}{A:bB}(r:Room k A):A.units+64<cLine:=by have:=r.un;lia
def wA:TA:=λ_ H Q=>Q [] H
def uh(ta:TE)(tr:TA):TA:=λσ H Q=>ta σ H λx H1=>tr σ H1 λxs H2=>Q (x::xs) H2
section
variable {X:Cx}{e:aw}{es:List aw}{te:TE}{t:TA}{pos:Pos}
theorem qO:PA X [] wA:=λ_ _ _ _ H Q I h=>Calls.spliced_nil ⟨[],H,I,.nil,h⟩
theorem i7(ha:PE X e te)(hr:PA X es t)(hs:aV (e::es) X.env=(false,aO e X.env)::aV es X.env:=by rfl):PA X (e::es) (uh te t):=by
 intro pos pins s σ H Q I h;rw[hs];show aB _ _ (spliced ((false,aO e X.env)::backTo pos (aV es X.env))) _ _ s;refine Calls.spliced_cons (thn (ha pins s σ H _ I h) λu s1 e0=>bA e0 λx H1 I1 r1 q1=>?_);exact thn (hr pos pins s1 σ H1 _ I1 q1) λus s2 e0=>bA e0 λxs H2 I2 r2 q2=>⟨x::xs,H2,I2,.cons r1 r2,q2⟩
def CC(t:TA):TE:=λσ H Q=>t σ H λxs H1=>xs.length≤bh/\∀p,H1 p=none->Q (.ref p) (upd H1 p (.tup xs))
def GY(t:TA):TE:=λσ H Q=>t σ H λxs H1=>xs.length≤bh/\∀p,H1 p=none->Q (.ref p) (upd H1 p (.lst xs))
theorem G4{x1}(h:PA X es t):PE X (.Tuple es x1 pos) (CC t):=by
 intro pins s σ H Q I hq;refine wpAny_Tuple_spliced (thn (h pos pins s σ H _ I hq) λus s1 e0=>bA e0 λxs H1 I1 r e4=>e4.elim λz q=>⟨by rw[←r.length];exact z,?_⟩);have hf:H1 s1.heap.objs.size=none:=I1.hok.fresh (bo _);refine⟨.ref s1.heap.objs.size,upd H1 s1.heap.objs.size (.tup xs),I1.laid (t':=s1.toks) (λb u e=>bI _ e) (bo _) ?_,rfl,q _ hf⟩;exact⟨z,us,r,⟨_,eM _ rfl,rfl,_,rfl⟩⟩
theorem DI(h:PA X es t):PE X (.List es pos) (GY t):=by
 intro pins s σ H Q I hq;refine wpAny_List_spliced (thn (h pos pins s σ H _ I hq) λus s1 e0=>bA e0 λxs H1 I1 r e4=>e4.elim λz q=>⟨by rw[←r.length];exact z,?_⟩);have hf:H1 s1.heap.objs.size=none:=I1.hok.fresh (bo _);refine⟨.ref s1.heap.objs.size,upd H1 s1.heap.objs.size (.lst xs),I1.laid (t':=s1.toks) (λb u e=>bI _ e) (bo _) ?_,rfl,q _ hf⟩;exact⟨z,us,0,r,eM _ rfl⟩
end
abbrev Sp:=List V->Hp->VK->XK->Prop
abbrev CXT:=List Env->Hp->ak->XK->ai->ak->Prop
structure Env0(P:br)(w:aX)(K:PySem.W.Frag)(mg:Str->Option ai)(base:aP)(A:bB)(outer:List Env)(s:ak)(H:Hp):Prop where
 frames:A.frames=some outer
 mod:Mod K mg base
 bs:∀b o,base.get? b=some o->s.heap.get? b=some o/\H b=none
 bsz:base.objs.size≤s.heap.objs.size
 funs:s.heap.FunFrames base outer
 frf:∀b∈frs outer,H b=none
 hok:HOk P w H s.heap
 bare:AllBare s.gens
def CE(outer:List Env)(P:br)(w:aX)(H:Hp)(s:ak)(Q:VK)(u:ai)(s':ak):Prop:=
 ∃v H',s'.os=s.os/\AllBare s'.gens/\Un (frs outer) [] H H' s.heap s'.heap/\HOk P w H' s'.heap/\aU v u/\Q v H'
def CR(CX:CXT)(outer:List Env)(P:br)(w:aX)(H:Hp)(s:ak)(Q:VK)(E:XK)(r:Result)(s':ak):Prop:=
 match r with
 |.ok (.ret u)=>CE outer P w H s Q u s'
 |.ok _=>False
 |.error e=>CX outer H s E e s'
structure ji(P:br)(w:aX)(K:PySem.W.Frag)(mg:Str->Option ai)(base:aP)(CX:CXT)(k:Nat)(f:af)(fd:bf)(ps:List Str)(sp:Sp):Prop where
 len:∀vs H Q E,sp vs H Q E->vs.length=ps.length
 run:∀(A:bB) (outer:List Env) (s:ak) (H:Hp) (args:Args) (us:List ai) (vs:List V) (Q:VK) (E:XK),Room k A->Env0 P w K mg base A outer s H->BindsTo s fd args (ps.zip us)->Vals vs us->sp vs H Q E ->
  codeAny (aD P w) A (.call (.ref f) args) (CR CX outer P w H s Q E) s
theorem ji.imp{P:br}{w:aX}{K:PySem.W.Frag}{mg:Str->Option ai}{base:aP}{CX:CXT}{k:Nat}{f:af}{fd:bf}{ps:List Str}{sp sp':Sp}(F:ji P w K mg base CX k f fd ps sp)
  (h:∀vs H Q E,sp' vs H Q E->sp vs H Q E):ji P w K mg base CX k f fd ps sp':=
 ⟨λvs H Q E q=>F.len vs H Q E (h _ _ _ _ q),λA outer s H args us vs Q E hr he hb hv hs=>F.run A outer s H args us vs Q E hr he hb hv (h _ _ _ _ hs)⟩
theorem Env0.make{P:br}{w:aX}{K:PySem.W.Frag}{mg:Str->Option ai}{base:aP}{A:bB}{outer:List Env}{s:ak}{H:Hp}(e:Env0 P w K mg base A outer s H)(C:af)(us:List ai)(kw:List (Str×ai)) :
  Env0 P w K mg base (A.under (.builtin "type.__call__" ⟨.ref C::us,kw⟩)) outer s H:=⟨by first|exact e.frames|(simpa[Around.under,Code.envs,Code.isFrame,pushEnvs] using e.frames),e.mod,e.bs,e.bsz,e.funs,e.frf,e.hok,e.bare⟩
section
variable {X:Cx}{pins:List (af×aE)}{σ:St}{H:Hp}{s s':ak}
theorem Inv.env0(I:Inv X pins σ H s):Env0 X.prog X.w X.K X.mg X.base X.A X.stack s H:=
 ⟨I.ok.frames,I.ok.mod,I.bs,cL I.ok.bsz I.sz,I.stack,I.stkFree,I.hok,I.bare⟩
theorem Inv.after{Q:VK}{u:ai}(I:Inv X pins σ H s)(h:CE X.stack X.prog X.w H s Q u s'):EP X pins σ Q u s':=by
 obtain⟨v,H',os,bare,un,hok,r,q⟩:=h;obtain⟨hh,g,d,t,os'⟩:=s';obtain rfl:os'=s.os:=os;exact⟨v,H',I.call (h':=hh) (g':=g) (d':=d) (t':=t) (ch:=[]) un hok bare (λb z=>absurd z (by simp)),r,q⟩
end
def Binds(K:PySem.W.Frag)(fd:bf)(ps:List Str)(ds:List ai):Prop:=
 ∀(s:ak) (us:List ai),K.In s.heap->(us++ds).length=ps.length->BindsTo s fd ⟨us,[]⟩ (ps.zip (us++ds))
theorem Binds.all{K:PySem.W.Frag}{fd:bf}{ps:List Str}(h:∀us:List ai,us.length=ps.length->bindArgs fd ⟨us,[]⟩=pure (ps.zip us)):Binds K fd ps []:=λs us _ hl=>by
 rw[up]at hl ⊢;exact .of_eq (h us hl)
section
variable {X:Cx}{CX:CXT}{k:Nat}{f C:af}{fd:bf}{ps:List Str}{sp:Sp}{dvs:List V}{ds:List ai}{E:XK}{x m:Str}{p pos apos:Pos}{e o:aw}{es:List aw}{ta:TE}{t:TA}
structure Mk(K:PySem.W.Frag)(C f:af):Prop where
 makes:PySem.W.makesIn K C=true
 init:PySem.W.findIn K (.ref C) "__init__"=some (some (.ref f))
 fn:PySem.W.isFn K (.ref f)=true
 kp:PySem.W.keepIn K (.ref C)=true
end
section
variable {X:Cx}{CX:CXT}{k:Nat}{f C:af}{fd:bf}{ps ks:List Str}{sp:Sp}{E:XK}{x m:Str}{p pos apos kpos:Pos}{e o:aw}{es:List aw}{kws:List Keyword}{te ta:TE}{t tk:TA}{nm:Option Str}
variable {g:List ai->List ai->List ai}{gV:List V->List V->List V}
end
structure bC(N P:List Str)(sc:Scope):Prop where
 kind:sc.kind=.function
 co:sc.isCoroutine=false
 gen:sc.isGenerator=false
 nd:N.Nodup
 pre:N.take P.length=P
 par:∀x∈P,sc.names.lookup x=some .local∨sc.names.lookup x=some .cell
 nofree:∀y∈sc.names,y.2≠.free
theorem BD{kindOf:Str->Option NameKind}{x:Str}:∀{binds:List (Str×ai)}{m:Str->Option ai},(∀v,(x,v)∉binds)->bindL kindOf binds m x=m x
 |[],_,_=>rfl
 |(n,v)::r,m,h=>by
   unfold bindL;rw[BD λw hw=>h w (dO _ hw)];split
   ·have:x≠n:=by rintro rfl;exact h v fA
    simp[this]
   ·rfl
theorem Be{kindOf:Str->Option NameKind}{x:Str}:∀{binds:List (Str×ai)}{m:Str->Option ai},(∀v,(x,v)∉binds)->bindC kindOf binds m x=m x
 |[],_,_=>rfl
 |(n,v)::r,m,h=>by
   unfold bindC;rw[Be λw hw=>h w (dO _ hw)];split
   ·rfl
   ·have:x≠n:=by rintro rfl;exact h v fA
    simp[this]
theorem xM{kindOf:Str->Option NameKind}{x:Str}{v:ai}:∀{P:List Str}{vs:List ai}{i:Nat}{m:Str->Option ai},P.Nodup->P[i]?=some x->vs[i]?=some v->kindOf x=some .local ->
  bindL kindOf (P.zip vs) m x=some v
 |[],_,_,_,_,h,_,_=>by simp at h
 |_::_,[],_,_,_,_,h,_=>by simp at h
 |p::P,w::vs,0,m,nd,h1,h2,hk=>by
   simp at h1 h2;subst h1;subst h2;show bindL kindOf ((p,w)::P.zip vs) m p=_;unfold bindL;rw[BD λv hv=>(gu.mp nd).1 (pF hv).1,if_pos hk];simp
 |p::P,w::vs,i+1,m,nd,h1,h2,hk=>by
   show bindL kindOf ((p,w)::P.zip vs) m x=_;unfold bindL;exact xM (i:=i) (gu.mp nd).2 (by simpa using h1) (by simpa using h2) hk
theorem AC{kindOf:Str->Option NameKind}{x:Str}{v:ai}:∀{P:List Str}{vs:List ai}{i:Nat}{m:Str->Option ai},P.Nodup->P[i]?=some x->vs[i]?=some v->kindOf x≠some .local ->
  bindC kindOf (P.zip vs) m x=some v
 |[],_,_,_,_,h,_,_=>by simp at h
 |_::_,[],_,_,_,_,h,_=>by simp at h
 |p::P,w::vs,0,m,nd,h1,h2,hk=>by
   simp at h1 h2;subst h1;subst h2;show bindC kindOf ((p,w)::P.zip vs) m p=_;unfold bindC;rw[Be λv hv=>(gu.mp nd).1 (pF hv).1,if_neg hk];simp
 |p::P,w::vs,i+1,m,nd,h1,h2,hk=>by
   show bindC kindOf ((p,w)::P.zip vs) m x=_;unfold bindC;exact AC (i:=i) (gu.mp nd).2 (by simpa using h1) (by simpa using h2) hk
noncomputable def start(N:List Str)(vs:List V):St:=vs.map some++bU (N.length-vs.length) none
noncomputable def jG(CX:CXT)(P:br)(w:aX)(K:PySem.W.Frag)(mg:Str->Option ai)(base:aP)(N:List Str)(qual:Str)(scope:Scope)(f:af)(cd:ai)(A:bB)(outer:List Env)(s:ak)(H:Hp)(E:XK):Cx where
 prog:=P
 w:=w
 K:=K
 mg:=mg
 base:=base
 A:=A.deeper (envOfC qual scope s.heap.objs.size f cd)
 N:=N
 s₀:=s
 H₀:=H
 env:=envOfC qual scope s.heap.objs.size f cd
 outer:=outer
 stack:=envOfC qual scope s.heap.objs.size f cd::outer
 ex:=[]
 calm:=true
 fn:=λ_=>true
 pn:=[]
 xe:=λe s'=>aB (aD P w) (A.deeper (envOfC qual scope s.heap.objs.size f cd)) (leaving (envOfC qual scope s.heap.objs.size f cd) e) (λ_ s''=>CX outer H s E e s'') (λe' s''=>CX outer H s E e' s'') s'
theorem xi{sc:Scope}{n:Nat}{x:Str}(h:sc.names.lookup x=some .cell):∃c,(cellsFrom n sc.names []).lookup x=some c:=by
 have q:=PySem.W.cellsFrom_some sc.names n [] (.inl h);exact ny.mp q
theorem Fk{CX:CXT}{P:br}{w:aX}{K:PySem.W.Frag}{mg:Str->Option ai}{base:aP}{N ps:List Str}{qual:Str}{scope:Scope}{f:af}{cd:ai}{A:bB}{outer:List Env}{s s1:ak}{H:Hp}{E:XK}{us:List ai}{vs:List V}
  (S:bC N ps scope) (hd:A.handled=none) (e0:Env0 P w K mg base A outer s H) (hl:vs.length=ps.length) (r:Vals vs us)
  (x:InCallC s s.heap.objs.size (bindL (envOfC qual scope s.heap.objs.size f cd).kindOf (ps.zip us) λ_=>none) (cellsFrom (s.heap.objs.size+1) scope.names []) (bindC (envOfC qual scope s.heap.objs.size f cd).kindOf (ps.zip us) λ_=>none) s1) :
  Inv (jG CX P w K mg base N qual scope f cd A outer s H E) [] (start N vs) H s1:=by
 have hpl:ps.length≤N.length:=by have:=congrArg i9 S.pre;rw[il]at this;lia
 obtain⟨h1,tk,rfl,hk⟩:=x.done;have noA:∀b:af,b∉(jG CX P w K mg base N qual scope f cd A outer s H E).ex:=λb z=>absurd (show b∈([]:List af) from z) (by simp);refine ⟨⟨e0.mod,S.kind,rfl,rfl,bo _,λy z c h1 h2=>?_,λy hy=>?_,λy c _ h=>?_,λ_=>hd,Around.frames_deeper e0.frames,.inr ⟨rfl,rfl⟩,λb z=>absurd z (noA b),e0.bs,e0.bsz,λb _ _=>noA b,λb z=>absurd z (noA b),e0.funs,e0.frf⟩,
  rfl,e0.bare,Un.kept hk,⟨_,x.toInCall.ns,λi y v h1 h2 h3=>?_⟩,λy c h=>⟨_,x.cell y c h⟩,e0.hok.fresh (bo _),λy c h=>?_,λp hp=>absurd (show p∈([]:List (af × aE)) from hp) (by simp),e0.hok.kept hk,?_⟩
 ·exact name_of_addr x.apart (PySem.mem_of_lookup h1) (PySem.mem_of_lookup h2)
 ·have hy:scope.names.lookup y=some .cell∨scope.names.lookup y=some .free:=hy;rcases hy with hy|hy
  ·exact xi hy
  ·exact absurd rfl (S.nofree _ (PySem.mem_of_lookup hy))
 ·exact mi (x.above y c (PySem.mem_of_lookup h))
 ·have hi:i<vs.length:=by
   unfold start at h2;by_cases hi:i<vs.length
   ·exact hi
   ·rw[ma (by simpa using hi)]at h2;rw[jF]at h2;split at h2 <;> cases h2
  have ha:vs[i]?=some v:=by
   unfold start at h2;rw[gB (by simpa using hi),bj]at h2;cases e:vs[i]? with
   |none=>rw[e]at h2;cases h2
   |some a=>rw[e]at h2;cases h2;rfl
  obtain⟨u,hu,rv⟩:=r.get ha;have hp:ps[i]?=some y:=by
   rw[←S.pre,sf (by lia)];exact h1
  have ndP:ps.Nodup:=by rw[←S.pre];exact S.nd.sublist (oR _ _)
  refine⟨u,rv,?_⟩;rcases S.par y (de hp) with k|k
  ·exact .inl ⟨k,xM ndP hp hu k⟩
  ·obtain⟨c,e⟩:=xi (n:=s.heap.objs.size+1) k;refine .inr ⟨.inl k,c,e,?_⟩;have q:=x.cell y c e;rw[AC ndP hp hu (by show scope.names.lookup y≠_;rw[k];decide)]at q;exact q
 ·exact e0.hok.fresh (mi (x.above y c (PySem.mem_of_lookup h)))
 ·unfold start;show _=N.length;rw[iQ,bS,List.length_replicate];lia
theorem Fb{CX:CXT}{P:br}{w:aX}{K:PySem.W.Frag}{mg:Str->Option ai}{base:aP}{k:Nat}{f:af}{name qual:Str}{params:Arguments}{body:List aT}{scope:Scope}{dV kV doc pm cdv ct oc:ai}{an od:Option af}
  {osl:Array (Option ai)} {N ps:List Str} {sp:Sp} (lk:K.lookup f=some ⟨oc,od,.func (PySem.W.fnOf name qual params body scope dV kV doc pm an cdv ct),osl⟩) (hcd:PySem.W.codeIn K cdv qual=true) (S:bC N ps scope)
  (len:∀vs H Q E,sp vs H Q E->vs.length=ps.length)
  (hbody:∀(A:bB) (outer:List Env) (s:ak) (H:Hp) (vs:List V) (Q:VK) (E:XK),Room k (A.deeper (envOfC qual scope s.heap.objs.size f cdv))->sp vs H Q E ->
   ∃t,PSs (jG CX P w K mg base N qual scope f cdv A outer s H E) body t/\t { nx:=λ_ H'=>Q .non H',rt:=Q } (start N vs) H) :
  ji P w K mg base CX (k+1) f (PySem.W.fnOf name qual params body scope dV kV doc pm an cdv ct) ps sp:=by
 refine⟨len,λA outer s H args us vs Q E hr e0 hb r hsp=>?_⟩;have hl:=len _ _ _ _ hsp;have KX:K.In s.heap:=e0.mod.kin.keeps λb o e=>(e0.bs b o e).1;have lim:s.heap.NoLimit:=e0.mod.nolimit.keeps λb o e=>(e0.bs b o e).1;have hkind:∀y∈ps.zip us,scope.names.lookup y.1=some .local∨(scope.names.lookup y.1=some .cell/\((cellsFrom (s.heap.objs.size+1) scope.names []).lookup y.1).isSome=true):=λ⟨n,v⟩ hy=>by
  rcases S.par n (pF hy).1 with q|q
  ·exact .inl q
  ·exact .inr ⟨q,PySem.W.cellsFrom_some _ _ _ (.inl q)⟩
 refine codeAny_call_function hr.depth (KX _ _ lk) rfl S.co S.gen rfl (PySem.W.codeRec_of KX hcd) (hb _ _ _ _ ?_);refine wpAny_newFunctionEnv_cells S.kind hkind λenv he s1 x=>?_;subst he;refine⟨lim.keeps x.toInCall.keep,codeAny_func ?_⟩;obtain⟨t,ht,hq⟩:=hbody A outer s H vs Q E (hr.deeper _) hsp;have I:Inv (jG CX P w K mg base N qual scope f cdv A outer s H E) [] (start N vs) H s1:=Fk S hr.hd e0 hl r x;refine cN (ht [] s1 (start N vs) H _ I hq) (λfl s' hs=>?_) λe s' hs=>hs;have fin:∀{σ':St}{H':Hp}{v:V}{u:ai},Inv (jG CX P w K mg base N qual scope f cdv A outer s H E) [] σ' H' s'->aU v u->Q v H'->CE outer P w H s Q u s':=
  λ{σ' H' v u} J rv q=>⟨v,H',J.os,J.bare,J.base,J.hok,rv,q⟩
 cases fl with
 |ret u=>
   obtain⟨v,σ',H',J,rv,q⟩:=hs;exact fin J rv q
 |next=>
   obtain⟨σ',H',J,q⟩:=hs;exact fin (v:=V.non) (u:=Value.none) J rfl q
 |brk=>
   obtain⟨_,_,_,q⟩:=hs;exact False.elim q
 |cont=>
   obtain⟨_,_,_,q⟩:=hs;exact False.elim q
section
variable {X:Cx}{x:Str}{p pos:Pos}{e:aw}{es:List aw}{t:TA}{id T:String}{r:List V->Hp->VK->Prop}
def tCB(r:List V->Hp->VK->Prop)(t:TA):TE:=λσ H Q=>t σ H λvs H1=>r vs H1 Q
theorem vn(hc:eO X (.builtin id) r)(hg:Gl X x)(hm:X.mg x=none)(hv:bootBuiltins x=some (.builtin id))(ha:PA X (e::es) t)(hn:x≠"__name__":=by decide)(hdb:(x == ("__debug__":Str))=false:=by decide)
  (he:aV (e::es) X.env=(false,aO e X.env)::aV es X.env:=by rfl) (hpl:(backTo pos (aV es X.env)).any (·.1)=false:=by rfl):PE X (.Call (.Name x p) (e::es) [] pos) (tCB r t):=by
 intro pins s σ H Q I h;refine wpAny_Call_Name_kw (jD I hg hm hv ?_ hn hdb);exact PyProof.Rows.callWith_builtin1 (thn (ha pos pins s σ H _ I h) λus s1 e0=>bA e0 λvs H1 I1 r1 q1=>hc pins s1 σ H1 vs us Q I1 r1 q1) he hpl
theorem Hc(hc:eO X (.type T) r)(hg:Gl X x)(hm:X.mg x=none)(hv:bootBuiltins x=some (.type T))(ha:PA X (e::es) t)(hn:x≠"__name__":=by decide)(hdb:(x == ("__debug__":Str))=false:=by decide)
  (he:aV (e::es) X.env=(false,aO e X.env)::aV es X.env:=by rfl) (hpl:(backTo pos (aV es X.env)).any (·.1)=false:=by rfl):PE X (.Call (.Name x p) (e::es) [] pos) (tCB r t):=by
 intro pins s σ H Q I h;refine wpAny_Call_Name_kw (jD I hg hm hv ?_ hn hdb);exact PyProof.Rows.callWith_type1 (thn (ha pos pins s σ H _ I h) λus s1 e0=>bA e0 λvs H1 I1 r1 q1=>hc pins s1 σ H1 vs us Q I1 r1 q1) he hpl
end
end L2
namespace HT
open PySem PyProof.Rows
section
open PySem.SeqAt
open PySem.AutoSeq1 (wpAny_loadPart')
open PySem.MeetsSeq PySem.MeetsSeq2 PySem.MeetsSeq3
end
section
variable {prog:br}{w:aX}{A:bB}{E:ai->ak->Prop}{s:ak}
noncomputable def sIx(n d:Nat):Option Int->Nat
 |none=>d
 |some v=>if v<0 then(v+(n:Int)).toNat else min v.toNat n
theorem F2(n d:Nat)(hd:d≤n)(o:Option Int):sIx n d o≤n:=by
 cases o with
 |none=>exact hd
 |some v=>
   show(if v<0 then(v+(n:Int)).toNat else min v.toNat n)≤n;by_cases hv:v<0
   ·rw[if_pos hv];lia
   ·rw[if_neg hv];exact Nat.min_le_right _ _
theorem zn(v:Int)(n d:Nat):(if v<0 then max (v+(n:Int)) 0 else min v (n:Int))=((sIx n d (some v):Nat):Int):=by
 show(if v<0 then max (v+(n:Int)) 0 else min v (n:Int))=(((if v<0 then(v+(n:Int)).toNat else min v.toNat n):Nat):Int);by_cases hv:v<0
 ·simp only[if_pos hv];lia
 ·simp only[if_neg hv];lia
theorem DG(lo hi:Option Int)(n:Nat):Builtin.Slice.sliceAdjust lo hi 1 (n:Int)=(((sIx n 0 lo:Nat):Int),((sIx n n hi:Nat):Int)):=by
 have h1:¬((1:Int)<0):=by lia
 unfold Builtin.Slice.sliceAdjust;simp only[h1,if_false];refine Prod.ext ?_ ?_
 ·cases lo with
  |none=>rfl
  |some v=>exact zn v n 0
 ·cases hi with
  |none=>rfl
  |some v=>exact zn v n n
theorem Ek(i j:Nat):Builtin.Slice.slicePlaces (i:Int) (j:Int) 1=j-i:=by
 unfold Builtin.Slice.slicePlaces;have h1:(1:Int)>0:=by lia
 simp only[h1,if_true,Int.ediv_one];split <;> lia
theorem xn{v:ai}{o:Option Int}{Q:Option Int->ak->Prop}(p:IsPart v o)(h:Q o s):aB (aD prog w) A (Builtin.Slice.slicePartIndex v) Q E s:=by
 cases p with
 |none=>exact slicePart_none h
 |int i t=>exact slicePart_int h
theorem Iz{sl:af}{vl vu:ai}{lo hi:Option Int}{n:Nat}{Q:Int×Int×Nat->ak->Prop}(hs:s.heap.IsSliceOf sl vl vu .none)(pl:IsPart vl lo)(pu:IsPart vu hi)
  (h:Q (((sIx n 0 lo:Nat):Int),1,sIx n n hi-sIx n 0 lo) s):aB (aD prog w) A (Builtin.Slice.sliceApplied (.ref sl) (pure (n:Int))) Q E s:=by
 obtain⟨os,hos,hcs,hds⟩:=id hs;unfold Builtin.Slice.sliceApplied Builtin.Slice.sliceFields;refine aC (aC (wpAny_field hos hds (x:=vl) rfl (aC (wpAny_field hos hds (x:=vu) rfl (aC (wpAny_field hos hds (x:=.none) rfl (bg ?_)))))));refine aC (slicePart_none ?_);show aB _ _ (if((1:Int) == 0)=true then _ else _) _ _ s;rw[if_neg (by decide)];refine aC (xn pl (aC (xn pu (aC (bg ?_)))));show aB _ _ (match Builtin.Slice.sliceAdjust lo hi 1 (n:Int) with|(lo,hi)=>pure (lo,(1:Int),Builtin.Slice.slicePlaces lo hi 1)) _ _ s;rw[DG lo hi n];show aB _ _ (pure (((sIx n 0 lo:Nat):Int),(1:Int),Builtin.Slice.slicePlaces ((sIx n 0 lo:Nat):Int) ((sIx n n hi:Nat):Int) 1)) _ _ s;rw[Ek];exact bg h
theorem Cy(xs:Array ai)(i k:Nat):((ci k).filterMap λ(m:Nat)=>xs[((i:Int)+(m:Int)*1).toNat]?).toArray=((xs.toList.drop i).take k).toArray:=by
 have e:(λ(m:Nat)=>xs[((i:Int)+(m:Int)*1).toNat]?)=λm=>xs[i+m]?:=by
  funext m;have:((i:Int)+(m:Int)*1).toNat=i+m:=by lia
  rw[this]
 rw[e];have:=pick_run xs i k;rw[List.filterMap_map]at this;have e2:((λx=>xs[x]?)∘λx=>i+x)=λm=>xs[i+m]?:=rfl;rw[e2]at this;rw[this]
theorem getItem_tuple_cut{t sl:af}{items:Array ai}{vl vu:ai}{lo hi:Option Int}{Q:ai->ak->Prop}(ht:IsTup s.heap t items)(hs:s.heap.IsSliceOf sl vl vu .none)(pl:IsPart vl lo)(pu:IsPart vu hi)
  (hw:¬(sIx items.size 0 lo=0/\sIx items.size items.size hi=items.size))
  (h:Q (.ref s.heap.objs.size) { s with heap:=s.heap.push { cls:=.type "tuple",data:=.seq ((items.toList.drop (sIx items.size 0 lo)).take (sIx items.size items.size hi-sIx items.size 0 lo)).toArray } })
  (hsz:items.size≤bh):aB (aD prog w) A (getItem (.ref t) (.ref sl)) Q E s:=by
 have htake:sizeOk (.seq ((items.toList.drop (sIx items.size 0 lo)).take (sIx items.size items.size hi-sIx items.size 0 lo)).toArray):=by
  show((items.toList.drop (sIx items.size 0 lo)).take (sIx items.size items.size hi-sIx items.size 0 lo)).toArray.size≤bh;rw[cE,il,List.length_drop,rP];lia
 have hj:sIx items.size items.size hi≤items.size:=F2 _ _ (bo _) hi;obtain⟨os,hos,hcs,hds⟩:=id hs;have hTs:s.TypeIs (.ref sl) "slice":=⟨os,hos,hcs⟩
 unfold getItem
 try with_reducible refine wpAny_holding ?_
 first|refine aC (bg ?_)|skip
 refine aC (wpAny_sequenceKey ht.typeIs (by decide) ?_);refine aC (wpAny_callSpecial?_slot (name:=aQ "__getitem__") ht.typeIs PyProof.Rows.slot_tuple_getitem
  (wpAny_call_entry PyProof.Rows.slot_tuple_getitem ht.typeIs entry_tuple_getitem ?_ (args_tuple_getitem _ _)))
 show aB _ _ (Builtin.Tuple.tupleItemsOf (.ref t) >>= _) _ _ s;refine aC (tupleItemsOf_ ht ?_);refine aC (wpAny_typeOf hTs ?_);rw[if_pos (by decide)];refine aC (Iz hs pl pu ?_);have hno:¬((((sIx items.size 0 lo:Nat):Int) == 0&&(1:Int) == 1&&(sIx items.size items.size hi-sIx items.size 0 lo) == items.size)=true):=by
  intro q;rw[ip,ip]at q;have q1:((sIx items.size 0 lo:Nat):Int)=0:=eq_of_beq q.1.1;have q2:sIx items.size items.size hi-sIx items.size 0 lo=items.size:=eq_of_beq q.2;exact hw ⟨by lia,by lia⟩
 show aB _ _ (if(((sIx items.size 0 lo:Nat):Int) == 0&&(1:Int) == 1&&(sIx items.size items.size hi-sIx items.size 0 lo) == items.size)=true then _ else _) _ _ s;rw[if_neg hno,Cy]
 first
  |exact aC (m:=Builtin.Tuple.tupleExact _) (wpAny_newObj_type (bg ⟨_,rfl,bg h⟩) htake)
  |exact aC (m:=Builtin.Tuple.tupleExact _) (wpAny_newObj_type (aC (bg (bg ⟨_,rfl,bg h⟩))) htake)
  |exact aC (aC (m:=Builtin.Tuple.tupleExact _) (wpAny_newObj_type (bg (bg ⟨_,rfl,bg h⟩)) htake))
  |exact aC (aC (m:=Builtin.Tuple.tupleExact _) (wpAny_newObj_type (bg ⟨_,rfl,bg h⟩) htake))
end
end HT
namespace L2
open PySem PySem.Spec PyProof.Rows
abbrev TO:=St->Hp->(Option Int->Hp->Prop)->Prop
def PO(X:Cx)(e:Option aw)(t:TO):Prop:=
 ∀(pins:List (af×aE)) (s:ak) (σ:St) (H:Hp) (Q:Option Int->Hp->Prop),Inv X pins σ H s->t σ H Q ->
  aB (aD X.prog X.w) X.A (evalPart e X.env) (λu s'=>∃o H',Inv X pins σ H' s'/\IsPart u o/\Q o H') X.xe s
def BB:TO:=λ_ H Q=>Q none H
def A6(t:TE):TO:=λσ H Q=>t σ H λx H1=>∃i,x=.int i/\Q (some i) H1
section
variable {X:Cx}{e:aw}{te:TE}{lo hi:Option aw}{tl th:TO}{pos p2:Pos}
theorem D2:PO X none BB:=by
 intro pins s σ H Q I h;rw[evalPart_none];exact bg ⟨none,H,I,.none,h⟩
theorem DX(h:PE X e te):PO X (some e) (A6 te):=by
 intro pins s σ H Q I hw;rw[evalPart_some];refine thn (h pins s σ H _ I hw) λu s1 e0=>bA e0 λx H1 I1 r1 q1=>?_;obtain⟨i,rfl,q⟩:=q1;obtain⟨t,rfl⟩:=r1;exact⟨some i,H1,I1,.int i t,q⟩
def SlR(X:Cx)(r:V->Option Int->Option Int->Hp->VK->Prop):Prop:=
 ∀(pins:List (af×aE)) (s:ak) (σ:St) (H:Hp) (x:V) (v vl vu:ai) (lo hi:Option Int) (sl:af) (Q:VK),Inv X pins σ H s->aU x v->s.heap.IsSliceOf sl vl vu .none->IsPart vl lo->IsPart vu hi->r x lo hi H Q ->
  ∃T id,typeLookup (.type T) "__getitem__"=pure (some (.builtin id))/\s.TypeIs v T/\aB (aD X.prog X.w) X.A (getItem v (.ref sl)) (EP X pins σ Q) X.xe s
theorem SlR.or{r r':V->Option Int->Option Int->Hp->VK->Prop}(h:SlR X r)(h':SlR X r'):SlR X (λx lo hi H Q=>r x lo hi H Q∨r' x lo hi H Q):=by
 intro pins s σ H x v vl vu lo hi sl Q I rx hs pl pu q;rcases q with q|q
 ·exact h pins s σ H x v vl vu lo hi sl Q I rx hs pl pu q
 ·exact h' pins s σ H x v vl vu lo hi sl Q I rx hs pl pu q
def tSl(r:V->Option Int->Option Int->Hp->VK->Prop)(te:TE)(tl th:TO):TE:=λσ H Q=>te σ H λx H1=>tl σ H1 λl H2=>th σ H2 λu H3=>r x l u H3 Q
theorem Hd{r:V->Option Int->Option Int->Hp->VK->Prop}(hr:SlR X r)(he:PE X e te)(hl:PO X lo tl)(hu:PO X hi th):PE X (.Subscript e (.Slice lo hi none p2) pos) (tSl r te tl th):=by
 intro pins s σ H Q I h;refine Subscript_ (thn (he pins s σ H _ I h) λv s1 e0=>bA e0 λx H1 I1 r1 q1=>?_);refine wpAny_Slice (thn (hl pins s1 σ H1 _ I1 q1) λvl s2 e0=>bA e0 λl H2 I2 pl q2=>thn (hu pins s2 σ H2 _ I2 q2) λvu s3 e0=>bA e0 λu H3 I3 pu q3=>?_);rw[evalPart_none];refine bg ?_;have I4:Inv X pins σ H3 { s3 with heap:=s3.heap.push { cls:=.type "slice",data:=.fields #[vl,vu,.none] } }:=I3.kept (t':=s3.toks) λb ob q=>bI _ q;obtain⟨T,id,hT,ht,hg⟩:=hr pins { s3 with heap:=s3.heap.push { cls:=.type "slice",data:=.fields #[vl,vu,.none] } } σ H3 x v vl vu l u s3.heap.objs.size Q I4 r1 (Heap.IsSliceOf.new ..) pl pu q3;show aB (aD X.prog X.w) X.A (subscriptTail e (.Slice lo hi none p2) v (.ref s3.heap.objs.size)) (EP X pins σ Q) X.xe { s3 with heap:=s3.heap.push { cls:=.type "slice",data:=.fields #[vl,vu,.none] } };exact tail_any (ops:=[.ref s3.heap.objs.size,v]) ht hT hg (by with_unfolding_all rfl)
noncomputable def j7(xs:List V)(lo hi:Option Int):List V:=(xs.drop (HT.sIx xs.length 0 lo)).take (HT.sIx xs.length xs.length hi-HT.sIx xs.length 0 lo)
theorem xQ(xs:List V)(lo hi:Option Int):(j7 xs lo hi).length≤xs.length:=by
 unfold j7;rw[il,List.length_drop];lia
def w5(K:PySem.W.Frag):V->Option Int->Option Int->Hp->VK->Prop:=λx lo hi H Q=>∃a xs,x=.ref a/\SqT K H a xs /\
 ¬(HT.sIx xs.length 0 lo=0/\HT.sIx xs.length xs.length hi=xs.length)/\∀p,H p=none->Q (.ref p) (upd H p (.tup (j7 xs lo hi)))
theorem G2:SlR X (w5 X.K):=by
 intro pins s σ H x v vl vu lo hi sl Q I rx hs pl pu h;obtain⟨a,xs,rfl,hx,hw,q⟩:=h;cases rx;obtain⟨its,r,ht,hz⟩:=I.tuple hx;have hlen:its.toArray.size=xs.length:=by rw[cE];exact r.length.symm
 refine⟨"tuple",_,PyProof.Rows.slot_tuple_getitem.lookup,ht.typeIs,?_⟩;refine HT.getItem_tuple_cut ht hs pl pu (by rw[hlen];exact hw) ?_ (by rw[hlen];exact hz);rw[hlen];refine⟨.ref s.heap.objs.size,_,I.laid (t':=s.toks) (o:=.tup (j7 xs lo hi)) (λb ob q=>bI _ q) (bo _) ?_,rfl,q _ (I.hok.fresh (bo _))⟩;exact⟨cL (xQ xs lo hi) hz,_,(r.drop (HT.sIx xs.length 0 lo)).take (HT.sIx xs.length xs.length hi-HT.sIx xs.length 0 lo),IsTup.new _ _⟩
end
noncomputable def ixN(n:Nat)(i:Int):Option Nat:=if 0≤i then(if i<n then some i.toNat else none) else if -(n:Int)≤i then some (i+n).toNat else none
noncomputable def atI{α:Type}(xs:List α)(i:Int):Option α:=(ixN xs.length i).bind λj=>xs[j]?
theorem xW{n:Nat}{i:Int}{j:Nat}(h:ixN n i=some j):seqIndex? i n=some j/\j<n/\-(n:Int)≤i/\i<n:=by
 unfold ixN at h;by_cases h0:0≤i
 ·rw[if_pos h0]at h;by_cases h1:i<n
  ·rw[if_pos h1]at h;have e:i.toNat=j:=Option.some.inj h;exact⟨by rw[seqIndex_of h0 h1,e],by lia,by lia,h1⟩
  ·rw[if_neg h1]at h;cases h
 ·rw[if_neg h0]at h;by_cases h1:-(n:Int)≤i
  ·rw[if_pos h1]at h;have e:(i+n).toNat=j:=Option.some.inj h;exact⟨by rw[seqIndex_neg (by lia) h1,e],by lia,h1,by lia⟩
  ·rw[if_neg h1]at h;cases h
theorem rR{α:Type}{xs:List α}{i:Int}{v:α}(h:atI xs i=some v):∃j,seqIndex? i xs.length=some j/\xs[j]?=some v/\j<xs.length/\-(xs.length:Int)≤i/\i<xs.length:=by
 unfold atI at h;cases e:ixN xs.length i with
 |none=>rw[e]at h;cases h
 |some j=>
   rw[e]at h;obtain⟨h1,h2,h3,h4⟩:=xW e;exact⟨j,h1,h,h2,h3,h4⟩
def xJ(b:aw):Prop:=∀o i,subscripted b false o i=operate [o,i] (getItem o i)
def IxR(X:Cx)(r:R2):Prop:=
 ∀(value slice:aw) (pins:List (af×aE)) (s:ak) (σ:St) (H:Hp) (x y:V) (v u:ai) (Q:VK),Inv X pins σ H s->aU x v->aU y u->r x y H Q ->
  subscripted slice false v u=operate [v,u] (getItem v u)->aB (aD X.prog X.w) X.A (subscriptTail value slice v u) (EP X pins σ Q) X.xe s
def MtR(X:Cx)(id:String)(r:V->List V->Hp->VK->Prop):Prop:=
 ∀(pins:List (af×aE)) (s:ak) (σ:St) (H:Hp) (x:V) (xs:List V) (v:ai) (us:List ai) (Q:VK),Inv X pins σ H s->aU x v->Vals xs us->r x xs H Q ->
  aB (aD X.prog X.w) X.A (call (.builtin id) (v::us)) (EP X pins σ Q) X.xe s
section
variable {X:Cx}{a b:aw}{ta tb:TE}{pos:Pos}
theorem IxR.or{r r':R2}(h:IxR X r)(h':IxR X r'):IxR X (λx y H Q=>r x y H Q∨r' x y H Q):=by
 intro value slice pins s σ H x y v u Q I rx ry q hs;rcases q with q|q
 ·exact h value slice pins s σ H x y v u Q I rx ry q hs
 ·exact h' value slice pins s σ H x y v u Q I rx ry q hs
theorem Fz{r:R2}(hr:IxR X r)(ha:PE X a ta)(hb:PE X b tb)(hs:xJ b):PE X (.Subscript a b pos) (tOp r ta tb):=by
 intro pins s σ H Q I h;exact Subscript_ (vf ha hb I h λv u s2 x y H2 I2 rx ry q=>hr a b pins s2 σ H2 x y v u Q I2 rx ry q (hs _ _))
def wK(K:PySem.W.Frag):R2:=λx y H Q=>∃p xs i v,x=.ref p/\y=.int i/\SqL K H p xs/\atI xs i=some v/\Q v H
def xI(K:PySem.W.Frag):R2:=λx y H Q=>∃p xs i v,x=.ref p/\y=.int i/\SqT K H p xs/\atI xs i=some v/\Q v H
def yc:R2:=λx y H Q=>∃z i c,x=.str z/\y=.int i/\z.length≤bh/\atI z.cps.toList i=some c/\Q (.str ⟨#[c]⟩) H
theorem Dl:IxR X (wK X.K):=by
 intro value slice pins s σ H x y v u Q I rx ry h hs;obtain⟨p,xs,i,z,rfl,rfl,hq,he,q⟩:=h;cases rx;obtain⟨t,rfl⟩:=ry;obtain⟨its,r,pl,hz⟩:=I.list hq;obtain⟨j,h1,h2,h3,h4,h5⟩:=rR he;obtain⟨w,ew,rw'⟩:=r.get h2;have hl:=r.length;have hn:=l4;have fin:EP X pins σ Q w s:=⟨z,H,I,rw',q⟩
 by_cases h0:0≤i
 ·have hj:i.toNat=j:=by
   rw[seqIndex_of h0 h5]at h1;exact Option.some.inj h1
  exact item_listR pl.isList h0 (by lia) (by rw[hj];simpa using ew) fin hs
 ·have hj:(i+(its.toArray.size:Int)).toNat=j:=by
   rw[seqIndex_neg (by lia) h4]at h1;rw[cE,←hl];exact Option.some.inj h1
  exact subscriptTail_builtinR (x:=w) pl.isList.typeIs slot_list_getitem.lookup
   (wpAny_getItem_list_neg (Q:=λr s'=>r=w/\EP X pins σ Q r s') pl.isList (by lia) (by rw[cE] <;> lia) (by lia) (by rw[hj];simpa using ew) ⟨rfl,fin⟩) hs
theorem C3:IxR X (xI X.K):=by
 intro value slice pins s σ H x y v u Q I rx ry h hs;obtain⟨p,xs,i,z,rfl,rfl,hq,he,q⟩:=h;cases rx;obtain⟨t,rfl⟩:=ry;obtain⟨its,r,pl,hz⟩:=I.tuple hq;obtain⟨j,h1,h2,h3,h4,h5⟩:=rR he;obtain⟨w,ew,rw'⟩:=r.get h2;have hl:=r.length;have hn:=l4;have fin:EP X pins σ Q w s:=⟨z,H,I,rw',q⟩;exact subscriptTail_builtinR (x:=w) pl.typeIs slot_tuple_getitem.lookup
  (getItem_tuple (j:=j) (Q:=λr s'=>r=w/\EP X pins σ Q r s') pl (by lia) (by lia) (by rw[cE,←hl];exact h1) (by simpa using ew) ⟨rfl,fin⟩) hs
theorem GZ:IxR X yc:=by
 intro value slice pins s σ H x y v u Q I rx ry h hs;obtain⟨z,i,c,rfl,rfl,hz,he,q⟩:=h;obtain⟨t,rfl⟩:=rx;obtain⟨t',rfl⟩:=ry;obtain⟨j,h1,h2,h3,h4,h5⟩:=rR he;have hl:z.cps.toList.length=z.length:=by simp[Str.length]
 rw [hl] at h1 h4 h5;have hn:=l4;exact tail_any (typeIs_str s z t) slot_str_getitem.lookup (getItem_str (c:=c) (by
  have e1:decide (i < -(2 ^ 63:Int))=false:=decide_eq_false (by lia);have e2:decide (i≥2 ^ 63)=false:=decide_eq_false (by lia);rw [e1,e2,Bool.or_false]) (by rw [h1];simpa using h2) ⟨.str ⟨#[c]⟩,H,I.tok _,⟨_,rfl⟩,q⟩) hs
def rIx(K:PySem.W.Frag):R2:=λx y H Q=>wK K x y H Q∨xI K x y H Q∨yc x y H Q
theorem GB:IxR X (rIx X.K):=Dl.or (C3.or GZ)
theorem IZ(its:List ai)(n j:Nat)(u:ai):Obj.mapSeq (·.setIfInBounds j u) { cls:=.type "list",data:=.seq its.toArray n }={ cls:=.type "list",data:=.seq (its.set j u).toArray n }:=by
 simp[Obj.mapSeq]
theorem Inv.lst{pins:List (af×aE)}{σ:St}{H:Hp}{s:ak}{p:af}{xs:List V}(I:Inv X pins σ H s)(h:H p=some (.lst xs)) :
  ∃(its:List ai) (n:Nat),Vals xs its/\s.heap.get? p=some { cls:=.type "list",data:=.seq its.toArray n }/\xs.length≤bh:=by
 obtain⟨z,its,n,r,e⟩:=I.hok p _ h;exact⟨its,n,r,e,z⟩
theorem Inv.lstUpd{pins:List (af×aE)}{σ:St}{H:Hp}{s:ak}{p:af}{xs ys:List V}{its its':List ai}{n n':Nat}{f:aE->aE}(I:Inv X pins σ H s)(h:H p=some (.lst xs))
  (ho:s.heap.get? p=some { cls:=.type "list",data:=.seq its.toArray n }) (hf:f { cls:=.type "list",data:=.seq its.toArray n }={ cls:=.type "list",data:=.seq its'.toArray n' }) (r:Vals ys its') (hz:ys.length≤bh) (t:Nat) :
  Inv X pins σ (upd H p (.lst ys)) { s with heap:=s.heap.update p f,toks:=t }:=by
 have e:(s.heap.update p f).get? p=some { cls:=.type "list",data:=.seq its'.toArray n' }:=by
  rw[qu f ho (by rw[hf] <;> rfl),hf]
 refine I.write (x:=p) (e:=p) (by rw[h];trivial) (.inl rfl) (λb u hb q=>(jv _ _ (Ne.symm hb)).trans q) ⟨_,e⟩ ?_;exact⟨hz,its',n',r,e⟩
def BQ:V->V->V->Hp->(Hp->Prop)->Prop:=λo i v H Q=>∃p xs k j,o=.ref p/\i=.int k/\H p=some (.lst xs)/\ixN xs.length k=some j/\Q (upd H p (.lst (xs.set j v)))
theorem E3:PSet X BQ:=by
 intro pins s σ H o i v ov iv u Q I ro ri rv h;obtain⟨p,xs,k,j,rfl,rfl,hp,hj,q⟩:=h;cases ro;obtain⟨t,rfl⟩:=ri;obtain⟨its,n,r,ho,hz⟩:=I.lst hp;obtain⟨h1,h2,h3,h4⟩:=xW hj;have hl:=r.length;have hn:=l4;have I':Inv X pins σ (upd H p (.lst (xs.set j v))) { s with heap:=s.heap.update p (Obj.mapSeq (·.setIfInBounds j u)) }:=
  I.lstUpd hp ho (IZ its n j u) (r.set rv j) (by rw[List.length_set];exact hz) s.toks
 by_cases h0:0≤k
 ·have hk:k.toNat=j:=by
   rw[seqIndex_of h0 h4]at h1;exact Option.some.inj h1
  exact PySem.W.ki_setAt ho h0 (by lia) (by rw[cE,←hl];exact h4) (by rw[hk];exact⟨_,I',q⟩)
 ·have hk:(k+(its.toArray.size:Int)).toNat=j:=by
   rw[seqIndex_neg (by lia) h3]at h1;rw[cE,←hl];exact Option.some.inj h1
  exact PySem.W.ki_setBack ho (by lia) (by rw[cE,←hl];exact h3) (by lia) (by rw[hk];exact⟨_,I',q⟩)
theorem FO(lo hi:Option Int)(n:Nat):(sliceBounds lo hi none n).1=((HT.sIx n 0 lo:Nat):Int)/\(sliceBounds lo hi none n).2.1=((HT.sIx n n hi:Nat):Int)/\(sliceBounds lo hi none n).2.2=1:=by
 refine⟨?_,?_,rfl⟩
 ·cases lo with
  |none=>simp[sliceBounds,HT.sIx]
  |some i=>
    simp only[sliceBounds,HT.sIx,Option.getD_none,show(1:Int)>0 by decide,if_true];by_cases h:i<0
    ·simp only[h,if_true] <;> lia
    ·simp only[h,if_false] <;> lia
 ·cases hi with
  |none=>simp[sliceBounds,HT.sIx]
  |some i=>
    simp only[sliceBounds,HT.sIx,Option.getD_none,show(1:Int)>0 by decide,if_true];by_cases h:i<0
    ·simp only[h,if_true] <;> lia
    ·simp only[h,if_false] <;> lia
theorem IW(its:List ai)(lo hi:Option Int):slicePick its.toArray lo hi none=((its.drop (HT.sIx its.length 0 lo)).take (HT.sIx its.length its.length hi-HT.sIx its.length 0 lo)).toArray:=by
 obtain⟨h1,h2,h3⟩:=FO lo hi its.toArray.size;unfold slicePick;rw[h1,h2,h3];simp only[sliceRange_one,pick_run,cE] <;> rfl
def yD(K:PySem.W.Frag):V->Option Int->Option Int->Hp->VK->Prop:=λx lo hi H Q=>∃a xs,x=.ref a/\SqL K H a xs/\∀p,H p=none->Q (.ref p) (upd H p (.lst (j7 xs lo hi)))
theorem Gx:SlR X (yD X.K):=by
 intro pins s σ H x v vl vu lo hi sl Q I rx hs pl pu h;obtain⟨a,xs,rfl,hx,q⟩:=h;cases rx;obtain⟨its,r,ht,hz⟩:=I.list hx;have hlen:=r.length;refine⟨"list",_,slot_list_getitem.lookup,ht.isList.typeIs,?_⟩
 refine wpAny_getItem_list_slice ht.isList hs pl pu .none (by simp) ?_ (by rw[cE] <;> lia);rw[IW,←hlen];refine⟨.ref s.heap.objs.size,_,I.laid (t':=s.toks) (o:=.lst (j7 xs lo hi)) (λb ob q=>bI _ q) (bo _) ?_,rfl,q _ (I.hok.fresh (bo _))⟩;exact⟨cL (xQ xs lo hi) hz,_,0,(r.drop (HT.sIx xs.length 0 lo)).take (HT.sIx xs.length xs.length hi-HT.sIx xs.length 0 lo),eM _ rfl⟩
noncomputable def iG:V->Bool
 |.non=>true
 |.bl _=>true
 |.int _=>true
 |.str _=>true
 |_=>false
noncomputable def eqV:V->V->Bool
 |.non,.non=>true
 |.bl a,.bl b=>a == b
 |.bl a,.int b=>(if a then 1 else 0) == b
 |.int a,.bl b=>a == (if b then 1 else 0)
 |.int a,.int b=>a == b
 |.str a,.str b=>a == b
 |_,_=>false
theorem HL{A:bB}{s:ak}{y x:V}{u v:ai}(ry:aU y u)(rx:aU x v)(fy:iG y=true)(fx:iG x=true):SeqAt.EqAt A s u v (eqV y x):=by
 cases y with
 |non=>
   cases ry;cases x with
   |non=>cases rx;exact SeqAt.EqAt.same _
   |bl b=>cases rx;exact SeqAt.EqAt.none_bool b
   |int b=>obtain⟨t,rfl⟩:=rx;exact SeqAt.EqAt.none_int b t
   |str b=>obtain⟨t,rfl⟩:=rx;exact SeqAt.EqAt.none_str b t
   |_=>exact absurd (show false=true from fx) cK
 |bl a=>
   cases ry;cases x with
   |non=>cases rx;exact SeqAt.EqAt.bool_none a
   |bl b=>cases rx;exact SeqAt.EqAt.bool_bool a b
   |int b=>obtain⟨t,rfl⟩:=rx;exact SeqAt.EqAt.bool_int a b t
   |str b=>obtain⟨t,rfl⟩:=rx;exact SeqAt.EqAt.bool_str a b t
   |_=>exact absurd (show false=true from fx) cK
 |int a=>
   obtain⟨t',rfl⟩:=ry;cases x with
   |non=>cases rx;exact SeqAt.EqAt.int_none a t'
   |bl b=>cases rx;exact SeqAt.EqAt.int_bool a t' b
   |int b=>obtain⟨t,rfl⟩:=rx;exact SeqAt.EqAt.int_int a t' b t
   |str b=>obtain⟨t,rfl⟩:=rx;exact SeqAt.EqAt.int_str a t' b t
   |_=>exact absurd (show false=true from fx) cK
 |str a=>
   obtain⟨t',rfl⟩:=ry;cases x with
   |non=>cases rx;exact SeqAt.EqAt.str_none a t'
   |bl b=>cases rx;exact SeqAt.EqAt.str_bool a t' b
   |int b=>obtain⟨t,rfl⟩:=rx;exact SeqAt.EqAt.str_int a t' b t
   |str b=>obtain⟨t,rfl⟩:=rx;exact SeqAt.EqAt.str_str a t' b t
   |_=>exact absurd (show false=true from fx) cK
 |_=>exact absurd (show false=true from fy) cK
noncomputable def eqU(x:V)(u:ai):Bool:=match u with
 |.none=>eqV .non x
 |.bool b=>eqV (.bl b) x
 |.int i _=>eqV (.int i) x
 |.str z _=>eqV (.str z) x
 |_=>false
theorem yJ{x y:V}{u:ai}(r:aU y u)(f:iG y=true):eqU x u=eqV y x:=by
 cases y with
 |non=>cases r;rfl
 |bl b=>cases r;rfl
 |int i=>obtain⟨t,rfl⟩:=r;rfl
 |str z=>obtain⟨t,rfl⟩:=r;rfl
 |_=>exact absurd (show false=true from f) cK
theorem oV{x:V}:∀{xs:List V}{us:List ai},Vals xs us->xs.all iG=true->us.any (eqU x)=xs.any λy=>eqV y x
 |_,_,.nil,_=>rfl
 |y::xs,u::us,.cons r t,f=>by
   rw[nh,ip]at f;rw[jC,jC,yJ r f.1,oV t f.2]
theorem ng{A:bB}{s:ak}{x:V}{v:ai}(rx:aU x v)(fx:iG x=true):∀{xs:List V}{us:List ai},Vals xs us->xs.all iG=true->∀u∈us,SeqAt.EqAt A s u v (eqU x u)
 |_,_,.nil,_=>λu hu=>by cases hu
 |y::xs,u::us,.cons r t,f=>λu' hu=>by
   rw[nh,ip]at f;rcases bK.mp hu with rfl|hu
   ·rw[yJ r f.1];exact HL r rx f.1 fx
   ·exact ng rx fx t f.2 u' hu
noncomputable def inV(x:V)(xs:List V):Bool:=xs.any λy=>eqV y x
def rIn(K:PySem.W.Frag)(neg:Bool):R2:=λx y H Q=>∃p xs,y=.ref p/\(SqL K H p xs∨SqT K H p xs)/\iG x=true/\xs.all iG=true/\Q (.bl (if neg then !inV x xs else inV x xs)) H
theorem Do:OpR X (d4 .In) (rIn X.K false):=by
 intro pins s σ H x y v u Q I rx ry h;obtain⟨p,xs,rfl,hq,fx,fs,q⟩:=h;cases ry;rcases hq with hq|hq
 ·obtain⟨its,r,pl,hz⟩:=I.list hq;refine SeqAt.in_listAt (eqU x) pl.isList (λw hw=>ng rx fx r fs w (by simpa using hw)) ⟨.bl _,H,I,rfl,?_⟩;rw[show its.toArray.any (eqU x)=its.any (eqU x) by simp,oV r fs];exact q
 ·obtain⟨its,r,pl,hz⟩:=I.tuple hq;refine SeqAt.in_tupleAt (eqU x) pl (λw hw=>ng rx fx r fs w (by simpa using hw)) ⟨.bl _,H,I,rfl,?_⟩;rw[show its.toArray.any (eqU x)=its.any (eqU x) by simp,oV r fs];exact q
theorem HC:OpR X (d4 .NotIn) (rIn X.K true):=by
 intro pins s σ H x y v u Q I rx ry h;obtain⟨p,xs,rfl,hq,fx,fs,q⟩:=h;cases ry;rcases hq with hq|hq
 ·obtain⟨its,r,pl,hz⟩:=I.list hq;refine SeqAt.notIn_listAt (eqU x) pl.isList (λw hw=>ng rx fx r fs w (by simpa using hw)) ⟨.bl _,H,I,rfl,?_⟩;rw[show its.toArray.any (eqU x)=its.any (eqU x) by simp,oV r fs];exact q
 ·obtain⟨its,r,pl,hz⟩:=I.tuple hq;refine SeqAt.notIn_tupleAt (eqU x) pl (λw hw=>ng rx fx r fs w (by simpa using hw)) ⟨.bl _,H,I,rfl,?_⟩;rw[show its.toArray.any (eqU x)=its.any (eqU x) by simp,oV r fs];exact q
theorem eO.or{f:ai}{r r':List V->Hp->VK->Prop}(h:eO X f r)(h':eO X f r'):eO X f (λxs H Q=>r xs H Q∨r' xs H Q):=by
 intro pins s σ H xs us Q I rs q;rcases q with q|q
 ·exact h pins s σ H xs us Q I rs q
 ·exact h' pins s σ H xs us Q I rs q
theorem Bd:eO X (.type "list") (λxs H Q=>∃p ys,xs=[.ref p]/\(SqL X.K H p ys∨SqT X.K H p ys)/\∀l,H l=none->Q (.ref l) (upd H l (.lst ys))):=by
 intro pins s σ H xs us Q I r h;obtain⟨p,ys,rfl,hq,q⟩:=h;obtain⟨u,rfl,rx⟩:=vals1 r;cases rx;have fin:∀(its:List ai),Vals ys its->ys.length≤bh->∀(h':aP) (c':Nat),(∀b o',s.heap.get? b=some o'->h'.get? b=some o') ->
   h'.get? s.heap.objs.size=some { cls:=.type "list",dict:=none,data:=.seq its.toArray c',slots:=#[] }->EP X pins σ Q (.ref s.heap.objs.size) { s with heap:=h' }:=λits r' hz h' c' kp e=>
  ⟨.ref s.heap.objs.size,_,I.laid (t':=s.toks) kp (bo _) (show bQ X.prog X.w _ h' _ (.lst ys) from⟨hz,its,c',r',e⟩),rfl,q _ (I.hok.fresh (bo _))⟩
 rcases hq with hq|hq
 ·obtain⟨its,r',pl,hz⟩:=I.list hq;have hlen:=r'.length;obtain⟨o,ho,hc,n,hd⟩:=pl.isList;exact call_list_seq p (.inl rfl) ho hc hd (λh' c' kp e=>fin its r' hz h' c' kp e) (by simp only[cE] <;> lia)
 ·obtain⟨its,r',pl,hz⟩:=I.tuple hq;have hlen:=r'.length;obtain⟨o,ho,hc,n,hd⟩:=pl;exact call_list_seq p (.inr rfl) ho hc hd (λh' c' kp e=>fin its r' hz h' c' kp e) (by simp only[cE] <;> lia)
def tyV(K:PySem.W.Frag)(T:String)(x:V)(H:Hp):Prop:=match x with
 |.str _=>T="str"
 |.int _=>T="int"
 |.ref p=>(T="list"/\∃xs,SqL K H p xs)∨(T="tuple"/\∃o,K.lookup p=some o/\o.cls=.type "tuple"/\o.dict=none) ∨
   (T="dict"/\((∃kvs,H p=some (.dK kvs))∨∃kvs,H p=some (.dT kvs)))∨(T="set"/\∃S n,H p=some (.set S n))
 |_=>False
theorem Bs{pins:List (af×aE)}{σ:St}{H:Hp}{s:ak}{T:String}{x:V}{v:ai}(I:Inv X pins σ H s)(r:aU x v)(ty:tyV X.K T x H) :
  s.TypeIs v T/\∀a,v=.ref a->∃ob,s.heap.get? a=some ob/\ob.dict=none:=by
 cases x with
 |str z=>
   obtain⟨t,rfl⟩:=r;cases(show T="str" from ty)
   exact⟨typeIs_str s z t,λ_ e=>nomatch e⟩
 |int i=>
   obtain⟨t,rfl⟩:=r;cases(show T="int" from ty)
   exact⟨typeIs_int s i t,λ_ e=>nomatch e⟩
 |ref p=>
   cases r;rcases ty with⟨rfl,xs,hq⟩|⟨rfl,o,hk,hc,hd⟩|⟨rfl,hk⟩|⟨rfl,S,n,hk⟩
   ·obtain⟨its,_,pl,_⟩:=I.list hq;refine⟨pl.isList.typeIs,λa e=>?_⟩;cases e;obtain⟨o,n,e,c,hd,_⟩:=pl;exact⟨o,e,hd⟩
   ·refine⟨⟨o,I.kIn p o hk,hc⟩,λa e=>?_⟩;cases e;exact⟨o,I.kIn _ o hk,hd⟩
   ·have z:∃o,s.heap.get? p=some o/\o.ExactDict:=by
     rcases hk with⟨kvs,hk⟩|⟨kvs,hk⟩
     ·obtain⟨_,_,_,_,o,_,_,e,ex,_⟩:=I.hok p _ hk;exact⟨o,e,ex⟩
     ·obtain⟨_,_,_,_,o,_,_,e,ex,_⟩:=I.hok p _ hk;exact⟨o,e,ex⟩
    obtain⟨o,e,ex⟩:=z;refine⟨⟨o,e,ex.1⟩,λa e2=>?_⟩;cases e2;exact⟨o,e,ex.2.1⟩
   ·obtain⟨o,_,_,_,e,ex,_⟩:=I.hok p _ hk;refine⟨⟨o,e,ex.1⟩,λa e2=>?_⟩;cases e2;exact⟨o,e,ex.2.1⟩
 |_=>exact False.elim ty
def IY(K:PySem.W.Frag)(T:String)(r:V->List V->Hp->VK->Prop)(to:TE):TE:=λσ H Q=>to σ H λx H1=>tyV K T x H1/\r x [] H1 Q
def tBM(K:PySem.W.Frag)(T:String)(r:V->List V->Hp->VK->Prop)(to:TE)(t:TA):TE:=λσ H Q=>to σ H λx H1=>tyV K T x H1/\t σ H1 λxs H2=>r x xs H2 Q
variable {o e:aw}{es:List aw}{to:TE}{t:TA}{name:Str}{apos cpos:Pos}{T id:String}{r:V->List V->Hp->VK->Prop}
theorem Je(pa:PlainAttrs T)(slot:Slot T name id)(hty:typeOf (.builtin id)=pure (.type "method_descriptor"))(hm:MtR X id r)(ho:PE X o to)
  (hbase:attributeBase o name X.env (aO o X.env)=aO o X.env:=by rfl) (hline:(apos.endLine == cpos.line)=true:=by rfl):PE X (.Call (.Attribute o name apos) [] [] cpos) (IY X.K T r to):=by
 intro pins s σ H Q I h;refine wpAny_Call_method0_late hbase hline (thn (ho pins s σ H _ I h) λv s1 e0=>bA e0 λx H1 I1 r1 e4=>e4.elim λty q1=>?_);obtain⟨h1,h2⟩:=Bs I1 r1 ty;exact⟨T,id,pa,slot,hty,h1,h2,Calls.callWith_builtin rfl (PySem.evalArgs_none (hm pins s1 σ H1 x [] v [] Q I1 r1 .nil q1))⟩
theorem ze(pa:PlainAttrs T)(slot:Slot T name id)(hty:typeOf (.builtin id)=pure (.type "method_descriptor"))(hm:MtR X id r)(ho:PE X o to)(ha:PA X (e::es) t)
  (hbase:attributeBase o name X.env (aO o X.env)=aO o X.env:=by rfl)
  (hfew:((backTo cpos (aV (e::es) X.env)).all (λx=>!x.1) && (backToKw cpos (keywordEach [] X.env)).all (λx=>x.1.isSome)
   && decide ((e::es).length + ([]:List Keyword).length + (if ([]:List Keyword).isEmpty then 0 else 1) < 30))=true:=by rfl)
  (hline:(apos.endLine == cpos.line)=true:=by rfl) (hs:aV (e::es) X.env=(false,aO e X.env)::aV es X.env:=by rfl) (hplain:(backTo cpos (aV es X.env)).any (·.1)=false:=by rfl) :
  PE X (.Call (.Attribute o name apos) (e::es) [] cpos) (tBM X.K T r to t):=by
 intro pins s σ H Q I h;refine wpAny_Call_method_late hbase hfew hline rfl (thn (ho pins s σ H _ I h) λv s1 e0=>bA e0 λx H1 I1 r1 e4=>e4.elim λty q1=>?_);obtain⟨h1,h2⟩:=Bs I1 r1 ty;refine⟨T,id,pa,slot,hty,h1,h2,?_⟩;have hA:=ha cpos pins s1 σ H1 _ I1 q1;rw[hs]at hA ⊢;refine Calls.callWith_builtin (by show(false||(backTo cpos (aV es X.env)).any (·.1))=false;rw[hplain] <;> rfl) (Calls.evalArgs_plain ?_);exact thn hA λus s2 e0=>bA e0 λvs H2 I2 r2 q2=>hm pins s2 σ H2 x vs v us Q I2 r1 r2 q2
/- xs.append(e),list.index on a module's tuple .. are MtR facts of 06m -/
end
def MtM(X:Cx)(id:String)(r:V->List V->Hp->VK->Prop):Prop:=
 ∀(pins:List (af×aE)) (s:ak) (σ:St) (H:Hp) (x:V) (xs:List V) (v:ai) (us:List ai) (Q:VK),Inv X pins σ H s->aU x v->Vals xs us->r x xs H Q ->
  aB (aD X.prog X.w) X.A (call (.builtin id) (v::us)) (EP X pins σ Q) X.xe s
theorem Vals.one:∀{x:V}{us:List ai},Vals [x] us->∃u,us=[u]/\aU x u
 |_,_,.cons r .nil=>⟨_,rfl,r⟩
theorem Vals.zero:∀{us:List ai},Vals [] us->us=[]
 |_,.nil=>rfl
theorem Vals.rep{xs:List V}{us:List ai}(h:Vals xs us):∀k:Nat,Vals (bU k xs).flatten (bU k us).flatten
 |0=>.nil
 |k+1=>by
   rw[gS,gS,lV,lV];exact Vals.append h (Vals.rep h k)
theorem zt(its:List ai):∀(k:Nat) (acc:List ai),
  kK (λx1 x2=>x1++x2) acc.toArray (bU k its.toArray)=(acc++(bU k its).flatten).toArray
 |0,acc=>by simp
 |k+1,acc=>by
   have e:acc.toArray++its.toArray=(acc++its).toArray:=by simp
   have e2:(acc++its)++(bU k its).flatten=acc++(bU (k+1) its).flatten:=by
    rw[gS,lV,List.append_assoc]
   rw[←e2,←zt its k (acc++its),←e,gS,jq]
section
variable {X:Cx}{pins:List (af×aE)}{σ:St}{H:Hp}{s:ak}{l b:af}{xs ys zs:List V}
theorem Inv.lset{its its':List ai}{n:Nat}{f:Array ai->Array ai}{t':Nat}(I:Inv X pins σ H s)(hH:H l=some (.lst xs))
  (e:s.heap.get? l=some { cls:=.type "list",data:=.seq its.toArray n }) (hf:f its.toArray=its'.toArray) (hv:Vals ys its') (hz:ys.length≤bh) :
  Inv X pins σ (upd H l (.lst ys)) { s with heap:=s.heap.update l (Obj.mapSeq f),toks:=t' }:=by
 have q:=PySem.IsL.update e f;rw[hf]at q;refine I.write (x:=l) (e:=l) (by rw[hH];exact trivial) (.inl rfl) (λb' u hb hu=>(jv s.heap (Obj.mapSeq f) (Ne.symm hb)).trans hu) ⟨_,q⟩ ?_;exact⟨hz,its',_,hv,q⟩
theorem Inv.lnew{its:List ai}{t':Nat}(I:Inv X pins σ H s)(hv:Vals ys its)(hz:ys.length≤bh) :
  Inv X pins σ (upd H s.heap.objs.size (.lst ys)) { s with heap:=s.heap.push { cls:=.type "list",data:=.seq its.toArray },toks:=t' }:=
 I.laid (λ_ _ q=>bI _ q) (bo _) ⟨hz,its,0,hv,eM _ rfl⟩
theorem Inv.fresh(I:Inv X pins σ H s):H s.heap.objs.size=none:=I.hok.fresh (bo _)
theorem Inv.lstM(I:Inv X pins σ H s)(hH:H l=some (.lst xs)):xs.length≤bh/\∃(its:List ai) (n:Nat),Vals xs its/\xs.length=its.length/\s.heap.get? l=some { cls:=.type "list",data:=.seq its.toArray n }:=by
 obtain⟨z,its,n,r,e⟩:=I.hok l _ hH;exact⟨z,its,n,r,r.length,e⟩
theorem HA{n:Nat}(h:n≤bh):Builtin.List.listTooLong n=false:=by
 unfold Builtin.List.listTooLong;exact decide_eq_false (by lia)
end
section
variable {X:Cx}
def Fo:V->List V->Hp->VK->Prop:=λx vs H Q=>∃l xs y,x=.ref l/\vs=[y]/\H l=some (.lst xs)/\xs.length<bh/\Q .non (upd H l (.lst (xs++[y])))
theorem xD:MtM X "list.append" Fo:=by
 intro pins s σ H x vs v us Q I rx rv h;obtain⟨l,xs,y,rfl,rfl,hH,hz,q⟩:=h;cases rx;obtain⟨u,rfl,ru⟩:=rv.one;obtain⟨z,its,n,r,hl,e⟩:=I.lstM hH;refine call_meets F.slot_list_append ⟨_,e,rfl⟩ F.entry_list_append (F.args_list_append_2 _ _) (PySem.list_append l its.toArray n u (by rw[cE];lia)) ⟨e,?_⟩
 refine⟨.non,_,I.lset (its':=its++[u]) hH e (by simp) (r.append (.cons ru .nil)) ?_,rfl,q⟩;rw[iQ,List.length_singleton];lia
def FA:V->List V->Hp->VK->Prop:=λx vs H Q=>∃l xs,x=.ref l/\vs=[]/\H l=some (.lst xs)/\Q .non (upd H l (.lst []))
theorem Iw:MtM X "list.clear" FA:=by
 intro pins s σ H x vs v us Q I rx rv h;obtain⟨l,xs,rfl,rfl,hH,q⟩:=h;cases rx;have hus:=rv.zero;subst hus;obtain⟨z,its,n,r,hl,e⟩:=I.lstM hH;refine call_meets F.slot_list_clear ⟨_,e,rfl⟩ F.entry_list_clear (F.args_list_clear_1 _) (AutoSeq1.list_clear_list_0 l its.toArray n (by rw[cE];lia)) ⟨e,?_⟩
 exact⟨.non,_,I.lset (its':=[]) (ys:=[]) hH e rfl .nil (fB _),rfl,q⟩
def zO:R2:=λx y H Q=>∃l b xs zs,x=.ref l/\y=.ref b/\H l=some (.lst xs)/\H b=some (.lst zs)/\xs.length+zs.length≤bh/\∀p,H p=none->Q (.ref p) (upd H p (.lst (xs++zs)))
theorem CJ:OpR X (binaryOp .Add) zO:=by
 intro pins s σ H x y v u Q I rx ry h;obtain⟨l,b,xs,zs,rfl,rfl,hH,hB,hz,q⟩:=h;cases rx;cases ry;obtain⟨z,its,n,r,hl,e⟩:=I.lstM hH;obtain⟨z2,its2,n2,r2,hl2,e2⟩:=I.lstM hB;refine PySem.P.add_list e e2 ?_ (by rw[cE,cE];lia)
 have ea:its.toArray++its2.toArray=(its++its2).toArray:=by simp
 rw[ea];exact⟨.ref _,_,I.lnew (t':=s.toks) (r.append r2) (by rw[iQ];lia),rfl,q _ I.fresh⟩
def Bq:R2:=λx y H Q=>∃l k xs,x=.ref l/\y=.int k/\H l=some (.lst xs)/\-(2 ^ 63)≤k/\k<2 ^ 63/\xs.length*k.toNat≤bh /\
 ∀p,H p=none->Q (.ref p) (upd H p (.lst (bU k.toNat xs).flatten))
theorem DW{α:Type}(xs:List α)(k:Nat):(bU k xs).flatten.length=k*xs.length:=by
 induction k with
 |zero=>simp
 |succ k ih=>rw[gS,lV,iQ,ih,Nat.succ_mul,Nat.add_comm]
theorem EZ:OpR X (binaryOp .Mult) Bq:=by
 intro pins s σ H x y v u Q I rx ry h;obtain⟨l,k,xs,rfl,rfl,hH,h1,h2,hz,q⟩:=h;cases rx;obtain⟨t,rfl⟩:=ry;obtain⟨z,its,n,r,hl,e⟩:=I.lstM hH;have hlen:its.toArray.size*k.toNat≤bh:=by rw[cE,←hl];exact hz
 have hcap:¬its.toArray.size*k.toNat>(2 ^ 63-1)/8:=by
  have:(bh:Nat)≤(2 ^ 63-1)/8:=by decide
  lia
 have hfit:¬(!Builtin.List.listFitsIndex k)=true:=by
  rw[fitsIndex_both h1 h2];exact cK
 have hlong:¬Builtin.List.listTooLong (its.toArray.size*k.toNat)=true:=by
  rw[HA hlen];exact cK
 have hnew:kK (λx1 x2=>x1++x2) #[] (bU (if its.toArray.isEmpty=true then 0 else k.toNat) its.toArray)=(bU k.toNat its).flatten.toArray:=by
  have f0:∀m:Nat,kK (λx1 x2=>x1++x2) #[] (bU m its.toArray)=(bU m its).flatten.toArray:=λm=>by
   have:=zt its m [];rw[wo]at this;exact this
  rw[f0];cases its with
  |nil=>simp
  |cons a r'=>rw[if_neg (by simp)]
 refine wpAny_binaryOp_repeat_ref (T:="list") (U:="int") (by decide) ⟨_,e,rfl⟩ (λs'=>typeIs_int s' k t) noFill_list_mul F.fills_int_mul F.slot_int_rmul repeat_list F.slot_int_index.lookup
  (call_meets F.slot_int_rmul (typeIs_int s k t) F.entry_int_rmul (F.args_int_rmul_2 _ _) (int___rmul___int_list k t l its.toArray n)
   ⟨e,rfl,⟨_,e,rfl⟩,call_meets F.slot_list_mul ⟨_,e,rfl⟩ F.entry_list_mul (F.args_list_mul_2 _ _) (AutoListH.list___mul___list_int_3 l its.toArray n k t hfit hcap hlong) ⟨e,?_⟩⟩)
 rw[hnew];exact⟨.ref _,_,I.lnew (t':=s.toks) (r.rep k.toNat) (by rw[DW,Nat.mul_comm];exact hz),rfl,q _ I.fresh⟩
end
section
variable {prog:br}{w:aX}{A:bB}{E:ai->ak->Prop}{s:ak}
end
section
variable {X:Cx}
end
section
variable {κ:Type}[DecidableEq κ]
noncomputable def fW(kvs:List (κ×V))(k:κ):Option V:=(kvs.find? λkv=>decide (kv.1=k)).map (·.2)
noncomputable def eU(kvs:List (κ×V))(k:κ)(v:V):List (κ×V):=
 if(kvs.any λkv=>decide (kv.1=k))=true then kvs.map (λkv=>if kv.1=k then(kv.1,v) else kv) else kvs++[(k,v)]
theorem pY{p:κ×V}{r:List (κ×V)}{k:κ}(e:p.1=k):fW (p::r) k=some p.2:=by simp[fW,mF,e]
theorem sO{p:κ×V}{r:List (κ×V)}{k:κ}(e:¬p.1=k):fW (p::r) k=fW r k:=by simp[fW,mF,e]
theorem oY(k:κ):∀kvs:List (κ×V),(kvs.any λkv=>decide (kv.1=k))=(fW kvs k).isSome
 |[]=>rfl
 |p::r=>by
   rw[jC];by_cases e:p.1=k
   ·simp only[pY e,decide_eq_true e,Bool.true_or,Option.isSome_some]
   ·rw[sO e,decide_eq_false e,Bool.false_or];exact oY k r
theorem wG(kvs:List (κ×V))(k:κ)(v:V):(eU kvs k v).length≤kvs.length+1:=by
 unfold eU;split
 ·rw[bS];lia
 ·rw[iQ,fG,jc];lia
theorem ft.isSome_eq{o:Option V}{u:Option ai}(r:ft o u):o.isSome=u.isSome:=by
 cases o with
 |none=>cases u with
   |none=>rfl
   |some _=>exact(show False from r).elim
 |some _=>cases u with
   |none=>exact(show False from r).elim
   |some _=>rfl
theorem ft.getD{o:Option V}{u:Option ai}{d:V}{d':ai}(r:ft o u)(rd:aU d d'):aU (o.getD d) (u.getD d'):=by
 cases o with
 |none=>cases u with
   |none=>exact rd
   |some _=>exact(show False from r).elim
 |some _=>cases u with
   |none=>exact(show False from r).elim
   |some _=>exact r
theorem KV.val{kvs:List (κ×V)}{vs:List (κ×ai)}(r:KV kvs vs)(k:κ):ft (fW kvs k) (valueAt vs k):=by
 unfold KV at r
 induction r with
 |nil=>exact True.intro
 |@cons p q ps qs h t ih=>
   obtain⟨h1,h2⟩:=h;by_cases e:p.1=k
   ·have e':q.1=k:=h1.symm.trans e;have b:valueAt (q::qs) k=some q.2:=by simp[valueAt,mF,e']
    rw[pY e,b];exact h2
   ·have e':¬q.1=k:=λz=>e (h1.trans z);have b:valueAt (q::qs) k=valueAt qs k:=by simp[valueAt,mF,e']
    rw[sO e,b];exact ih
theorem KV.any{kvs:List (κ×V)}{vs:List (κ×ai)}(r:KV kvs vs)(k:κ):(kvs.any λkv=>decide (kv.1=k))=vs.any λkv=>decide (kv.1=k):=by
 unfold KV at r
 induction r with
 |nil=>rfl
 |cons h t ih=>rw[jC,jC,ih,h.1]
theorem KV.repl{kvs:List (κ×V)}{vs:List (κ×ai)}(r:KV kvs vs)(k:κ){y:V}{u:ai}(ry:aU y u) :
  KV (kvs.map λkv=>if kv.1=k then(kv.1,y) else kv) (vs.map λkv=>if kv.1=k then(kv.1,u) else kv):=by
 unfold KV at r ⊢
 induction r with
 |nil=>exact .nil
 |@cons p q ps qs h t ih=>
   rw[bz,bz];refine .cons ?_ ih;obtain⟨h1,h2⟩:=h;by_cases e:p.1=k
   ·rw[if_pos e,if_pos (h1.symm.trans e)];exact⟨h1,ry⟩
   ·rw[if_neg e,if_neg (λz=>e (h1.trans z))];exact⟨h1,h2⟩
theorem KV.put{kvs:List (κ×V)}{vs:List (κ×ai)}(r:KV kvs vs)(k:κ){y:V}{u:ai}(ry:aU y u):KV (eU kvs k y) (stored vs k u):=by
 unfold eU stored;rw[r.any k];by_cases e:(vs.any λkv=>decide (kv.1=k))=true
 ·rw[if_pos e,if_pos e];exact r.repl k ry
 ·rw[if_neg e,if_neg e];exact Paired.snoc r ⟨rfl,ry⟩
theorem KV.length{kvs:List (κ×V)}{vs:List (κ×ai)}(r:KV kvs vs):kvs.length=vs.length:=Paired.length r
end
theorem ku{P:br}{w:aX}{k:Key}{u:ai}(r:aU (kV k) u):(cn P w).is k u=true:=by
 cases k with
 |inl i=>obtain⟨t,e⟩:=(show ∃t,u=Value.int i t from r);subst e;exact G8 P w i t
 |inr x=>obtain⟨t,e⟩:=(show ∃t,u=Value.str x t from r);subst e;exact Ii P w x t
theorem zq{P:br}{w:aX}:∀{ks:List Key}{us:List ai},Vals (ks.map kV) us->ItemsAre (cn P w) ks us
 |[],_,r=>by rw[lH]at r;cases r;exact .nil
 |k::ks,_,r=>by
   rw[bz]at r;cases r with
   |cons h t=>exact .cons (ku h) (zq t)
abbrev KT(H:Hp):List (List Key×V)->List (List Key×af×ai)->Prop:=cf λp q=>p.1=q.1/\H q.2.1=some (.tup (p.1.map kV))/\aU p.2 q.2.2
theorem KT.val{H:Hp}{kvs:List (List Key×V)}{xs:List (List Key×af×ai)}(r:KT H kvs xs)(k:List Key):ft (fW kvs k) ((atKey xs k).map (·.2)):=by
 induction r with
 |nil=>exact True.intro
 |@cons p q ps qs h t ih=>
   obtain⟨h1,_,h2⟩:=h;by_cases e:p.1=k
   ·have e':q.1=k:=h1.symm.trans e;have b:atKey (q::qs) k=some q.2:=by simp[atKey,mF,e']
    rw[pY e,b];exact h2
   ·have e':¬q.1=k:=λz=>e (h1.trans z);have b:atKey (q::qs) k=atKey qs k:=by simp[atKey,mF,e']
    rw[sO e,b];exact ih
theorem KT.repl{H:Hp}{kvs:List (List Key×V)}{xs:List (List Key×af×ai)}(r:KT H kvs xs)(k:List Key){y:V}{u:ai}(ry:aU y u) :
  KT H (kvs.map λkv=>if kv.1=k then(kv.1,y) else kv) (xs.map (putAt k u)):=by
 induction r with
 |nil=>exact .nil
 |@cons p q ps qs h t ih=>
   rw[bz,bz];refine .cons ?_ ih;obtain⟨h1,h2,h3⟩:=h;unfold putAt;by_cases e:p.1=k
   ·rw[if_pos e,if_pos (h1.symm.trans e)];exact⟨h1,h2,ry⟩
   ·rw[if_neg e,if_neg (λz=>e (h1.trans z))];exact⟨h1,h2,h3⟩
theorem KT.put{H:Hp}{kvs:List (List Key×V)}{xs:List (List Key×af×ai)}(r:KT H kvs xs)(k:List Key){b:af}{y:V}{u:ai}(hb:H b=some (.tup (k.map kV)))(ry:aU y u) :
  KT H (eU kvs k y) (storedH xs k b u):=by
 have e:(kvs.any λkv=>decide (kv.1=k))=(atKey xs k).isSome:=by
  rw[oY,(r.val k).isSome_eq,ww]
 unfold eU storedH;rw[e];by_cases q:(atKey xs k).isSome=true
 ·rw[if_pos q,if_pos q];exact r.repl k ry
 ·rw[if_neg q,if_neg q];exact Paired.snoc r ⟨rfl,hb,ry⟩
theorem KT.keeps{H H':Hp}{kvs:List (List Key×V)}{xs:List (List Key×af×ai)}(r:KT H kvs xs)(ht:∀b ys,H b=some (.tup ys)->H' b=some (.tup ys)):KT H' kvs xs:=
 Paired.mapP r λ_ _ z=>⟨z.1,ht _ _ z.2.1,z.2.2⟩
section
variable {P:br}{w:aX}{H:Hp}{h:aP}{a:af}
theorem xa{u:HO}(ok:HOk P w H h)(e:Rd H a u):bQ P w H h a u:=e.ok ok
theorem jX{kvs:List (Key×V)}(ok:HOk P w H h)(e:Rd H a (.dK kvs)):kvs.length≤bh/\(a == sysModules)=false/\∃vs,KV kvs vs/\h.DictOf (cn P w) a vs:=
 show bQ P w H h a (.dK kvs) from xa ok e
theorem uE{kvs:List (Key×V)}(ok:HOk P w H h)(e:H a=some (.dK kvs)):kvs.length≤bh/\(a == sysModules)=false/\∃vs,KV kvs vs/\h.DictOf (cn P w) a vs:=jX ok (.inl e)
theorem i4{ks:List Key}(ok:HOk P w H h)(e:H a=some (.tup (ks.map kV))):(tupleKind (cn P w)).is h ks a:=by
 obtain⟨_,its,r,o,h1,h2,n,h3⟩:=(show bQ P w H h a (.tup (ks.map kV)) from ok a _ e);exact⟨o,its.toArray,n,h1,h2,h3,by simpa using zq r⟩
theorem kD{kvs:List (List Key×V)}(ok:HOk P w H h)(e:Rd H a (.dT kvs)):kvs.length≤bh/\(a == sysModules)=false /\
  ∃xs,KT H kvs xs/\h.DictOfH (tupleKind (cn P w)) a xs:=by
 obtain⟨z,y,xs,r,o,es,ep,h1,h2,h3,h4,h5⟩:=(show bQ P w H h a (.dT kvs) from xa ok e);refine⟨z,y,xs,r,o,es,ep,h1,h2,h3,h4,λx hx=>?_,h5⟩;have all:∀{l:List (List Key×V)}{m:List (List Key×af×ai)},KT H l m->∀x∈m,(tupleKind (cn P w)).is h x.1 x.2.1:=by
  intro l m q
  induction q with
  |nil=>intro x hx;exact nomatch hx
  |@cons p q ps qs hq t ih=>
    intro x hx;rcases bK.mp hx with e|hx
    ·subst e;exact i4 ok (by rw[←hq.1];exact hq.2.1)
    ·exact ih x hx
 exact all r x hx
theorem GP{kvs:List (List Key×V)}(ok:HOk P w H h)(e:H a=some (.dT kvs)):kvs.length≤bh/\(a == sysModules)=false /\
  ∃xs,KT H kvs xs/\h.DictOfH (tupleKind (cn P w)) a xs:=kD ok (.inl e)
end
def DGet(H:Hp)(a:af)(y:V)(r:Option V):Prop:=
 (∃kvs k,Rd H a (.dK kvs)/\y=kV k/\r=fW kvs k)∨∃kvs k b,Rd H a (.dT kvs)/\y=.ref b/\H b=some (.tup (k.map kV))/\r=fW kvs k
def DPut(H:Hp)(a:af)(y v:V)(H':Hp):Prop:=
 (∃kvs k,H a=some (.dK kvs)/\y=kV k/\kvs.length<bh/\H'=upd H a (.dK (eU kvs k v))) ∨
 ∃kvs k b,H a=some (.dT kvs)/\y=.ref b/\H b=some (.tup (k.map kV))/\kvs.length<bh/\H'=upd H a (.dT (eU kvs k v))
theorem DGet.k{H:Hp}{a:af}{kvs:List (Key×V)}{k:Key}(e:H a=some (.dK kvs)):DGet H a (kV k) (fW kvs k):=.inl ⟨kvs,k,.inl e,rfl,rfl⟩
theorem DPut.k{H:Hp}{a:af}{kvs:List (Key×V)}{k:Key}{v:V}(e:H a=some (.dK kvs))(hl:kvs.length<bh):DPut H a (kV k) v (upd H a (.dK (eU kvs k v))):=.inl ⟨kvs,k,e,rfl,hl,rfl⟩
section
variable {X:Cx}{pins:List (af×aE)}{σ:St}{H:Hp}{s:ak}{a:af}{y v:V}{u r:ai}{o:Option V}{A:bB}{E:ai->ak->Prop}
theorem Inv.big(I:Inv X pins σ H s):sysModules<s.heap.objs.size:=by
 have h:dP<s.heap.objs.size:=(I.mod.glob.keeps I.bk).lt;exact qe (by decide) h
theorem BP{Q:ai->ak->Prop}(hu:A.units+1<cLine)(I:Inv X pins σ H s)(g:DGet H a y (some v))(ry:aU y u)(h:∀w' s',Inv X pins σ H s'->aU v w'->Q w' s') :
  aB (aD X.prog X.w) A (getItem (.ref a) u) Q E s:=by
 rcases g with⟨kvs,k,e,ey,l⟩|⟨kvs,k,b,e,ey,eb,l⟩
 ·subst ey;obtain⟨z,hd,vs,rel,dd⟩:=jX I.hok e;obtain⟨w',hw,rw'⟩:=ft.some_of (v:=v) (o:=valueAt vs k) (by rw[l];exact rel.val k);exact wpAny_getItem_of (ku ry) dd.mapOf hw (h w' _ (I.tok _) rw')
 ·subst ey;cases(show u=Value.ref b from ry);obtain⟨z,hd,xs,rel,dd⟩:=kD I.hok e;obtain⟨w',hw,rw'⟩:=ft.some_of (v:=v) (o:=(atKey xs k).map (·.2)) (by rw[l];exact rel.val k)
  obtain⟨p,hp,hp2⟩:=Option.map_eq_some_iff.mp hw;refine wpAny_getItem_heap (tupleKind_room_in1 hu) (i4 I.hok eb) dd hp ?_;rw[hp2];exact h w' _ (I.tok _) rw'
theorem EV{Q:ai->ak->Prop}(hu:A.units+1<cLine)(I:Inv X pins σ H s)(g:DGet H a y o)(ry:aU y u)(h:∀s',Inv X pins σ H s'->Q (.bool o.isSome) s') :
  aB (aD X.prog X.w) A (d4 .In u (.ref a)) Q E s:=by
 rcases g with⟨kvs,k,e,ey,l⟩|⟨kvs,k,b,e,ey,eb,l⟩
 ·subst ey;obtain⟨z,hd,vs,rel,dd⟩:=jX I.hok e;refine wpAny_in_of (ku ry) hd dd.mapOf ?_;rw[←(rel.val k).isSome_eq,←l];exact h _ (I.tok _)
 ·subst ey;cases(show u=Value.ref b from ry);obtain⟨z,hd,xs,rel,dd⟩:=kD I.hok e;refine wpAny_in_heap (tupleKind_room_in1 hu) (i4 I.hok eb) hd dd ?_;have q:=(rel.val k).isSome_eq;rw[ww]at q;rw[←q,←l];exact h _ (I.tok _)
theorem C1{Q:ai->ak->Prop}(hu:A.units+1<cLine)(I:Inv X pins σ H s)(g:DGet H a y o)(ry:aU y u)(h:∀s',Inv X pins σ H s'->Q (.bool (!o.isSome)) s') :
  aB (aD X.prog X.w) A (d4 .NotIn u (.ref a)) Q E s:=by
 rcases g with⟨kvs,k,e,ey,l⟩|⟨kvs,k,b,e,ey,eb,l⟩
 ·subst ey;obtain⟨z,hd,vs,rel,dd⟩:=jX I.hok e;refine wpAny_notIn_of (ku ry) hd dd.mapOf ?_;rw[←(rel.val k).isSome_eq,←l];exact h _ (I.tok _)
 ·subst ey;cases(show u=Value.ref b from ry);obtain⟨z,hd,xs,rel,dd⟩:=kD I.hok e;refine wpAny_notIn_heap (tupleKind_room_in1 hu) (i4 I.hok eb) hd dd ?_;have q:=(rel.val k).isSome_eq;rw[ww]at q;rw[←q,←l];exact h _ (I.tok _)
theorem xY{h':aP}{t':Nat}{ob:HO}(I:Inv X pins σ H s)(mu:Mut (H a))(hs:nu a s.heap h')(he:∃q,h'.get? a=some q)(new:bQ X.prog X.w (upd H a ob) h' a ob) :
  Inv X pins σ (upd H a ob) { s with heap:=h',toks:=t' }:=
 I.write (x:=a) (e:=a) mu (.inl rfl) (λb q hb z=>(hs.2 b hb).trans z) he new
theorem BJ{P:br}{w:aX}{H':Hp}{h':aP}{kvs:List (Key×V)}{vs:List (Key×ai)}(z:kvs.length≤bh)(hd:(a == sysModules)=false)(rel:KV kvs vs)(dd:h'.DictOf (cn P w) a vs) :
  bQ P w H' h' a (.dK kvs):=⟨z,hd,vs,rel,dd⟩
theorem HG{H':Hp}{Q:Unit->ak->Prop}(hu:A.units+1<cLine)(I:Inv X pins σ H s)(g:DPut H a y v H')(ry:aU y u)(rv:aU v r)(h:∀s',Inv X pins σ H' s'->Q () s') :
  aB (aD X.prog X.w) A (setItem (.ref a) u r) Q E s:=by
 rcases g with⟨kvs,k,e,ey,l,eH⟩|⟨kvs,k,b,e,ey,eb,l,eH⟩
 ·subst ey eH;obtain⟨z,hd,vs,rel,dd⟩:=uE I.hok e;have hz:vs.length≤bh:=by rw[←rel.length];exact z
  have hl:(eU kvs k v).length≤bh:=by have:=wG kvs k v;lia
  refine wpAny_setItem_pairs (hsz:=hz) (ku ry) dd λh' dd' hs=>h _ ?_;have he:∃q,h'.get? a=some q:=let ⟨q,_,_,hq,_⟩:=dd';⟨q,hq⟩;exact xY I (by rw[e];exact True.intro) hs he (BJ hl hd (rel.put k rv) dd')
 ·subst ey eH;cases(show u=Value.ref b from ry);obtain⟨z,hd,xs,rel,dd⟩:=GP I.hok e;have hz:xs.length≤bh:=by rw[←Paired.length rel];exact z
  have hl:(eU kvs k v).length≤bh:=by have:=wG kvs k v;lia
  refine wpAny_setItem_heap (hsz:=hz) (tupleKind_room_in1 hu) (i4 I.hok eb) dd λh' dd' hs=>h _ ?_;obtain⟨q,es,ep,hq,h2,h3,h4,_,h5⟩:=dd';refine xY I (by rw[e];exact True.intro) hs ⟨q,hq⟩ ⟨hl,hd,_,(rel.put k eb rv).keeps λc ys ec=>?_,q,es,ep,hq,h2,h3,h4,h5⟩;rw[ba (GU ec e (λz=>nomatch z))];exact ec
end
section
variable {X:Cx}{pins:List (af×aE)}{σ:St}{H:Hp}{s:ak}{a:af}{kvs:List (Key×V)}{k:Key}{u:ai}{A:bB}{E:ai->ak->Prop}
theorem FQ{Q:ai->ak->Prop}(I:Inv X pins σ H s)(e:Rd H a (.dK kvs))(h:∀t s',Inv X pins σ H s'->Q (.int kvs.length t) s'):aB (aD X.prog X.w) A (call (.builtin "len") [.ref a]) Q E s:=by
 obtain⟨z,hd,vs,rel,dd⟩:=jX I.hok e;refine call_len_dict hd dd (by rw[←rel.length];rw[sizeLine_eq]at z;lia) ?_;rw[←rel.length];exact h _ _ (I.tok _)
end
theorem FM{X:Cx}{pins:List (af×aE)}{σ:St}{H:Hp}{s:ak}{a:af}{y:V}{o:Option V}(I:Inv X pins σ H s)(g:DGet H a y o):s.TypeIs (.ref a) "dict":=by
 rcases g with⟨kvs,k,e,_,_⟩|⟨kvs,k,b,e,_,_,_⟩
 ·obtain⟨_,_,vs,_,dd⟩:=jX I.hok e;exact dd.typeIs
 ·obtain⟨_,_,xs,_,dd⟩:=kD I.hok e;exact dd.typeIs
section
variable {X:Cx}{o i e value:aw}{pos pos' tpos:Pos}{td ty tv:TE}
end
theorem Fa{P:br}{w:aX}{H:Hp}(h:aP)(hb:sysModules<h.objs.size):bQ P w H (h.push { cls:=.type "dict",data:=.dict #[] }) h.objs.size (.dK []):=
 ⟨fB _,beq_eq_false_iff_ne.mpr (Ne.symm (cS hb)),[],.nil,Heap.DictOf.new h⟩
def Gs:TE:=λ_ H Q=>∀p,H p=none->Q (.ref p) (upd H p (.dK []))
section
variable {X:Cx}{pos:Pos}
theorem Cv:PE X (.Dict [] [] pos) Gs:=λpins s σ H Q I h=>
 wpAny_Dict_empty ⟨.ref s.heap.objs.size,_,I.laid (a:=s.heap.objs.size) (o:=.dK []) (t':=s.toks) (λ_ _ q=>bI _ q) (bo _) (Fa s.heap I.big),rfl,h _ (I.hok.fresh (bo _))⟩
end
structure M2(X:Cx)(o:aw)(m:Str)(apos:Pos)(e f:aw)(cpos:Pos):Prop where
 base:attributeBase o m X.env (aO o X.env)=aO o X.env
 few:((backTo cpos (aV [e,f] X.env)).all (λx=>!x.1) && (backToKw cpos (keywordEach [] X.env)).all (λx=>x.1.isSome)
  && decide (([e,f]:List aw).length + ([]:List Keyword).length + (if ([]:List Keyword).isEmpty then 0 else 1) < 30))=true
 line:(apos.endLine == cpos.line)=true
 trees:backTo cpos (aV [e,f] X.env)=[(false,aO e X.env),(false,aO f X.env)]
def IsD(H:Hp)(a:af):Prop:=(∃kvs,Rd H a (.dK kvs))∨∃kvs,Rd H a (.dT kvs)
theorem AJ{X:Cx}{pins:List (af×aE)}{σ:St}{H:Hp}{s:ak}{a:af}(I:Inv X pins σ H s)(d:IsD H a) :
  s.TypeIs (.ref a) "dict"/\(∀b,Value.ref a=.ref b->∃ob,s.heap.get? b=some ob/\ob.dict=none)/\(a == sysModules)=false:=by
 rcases d with⟨kvs,e⟩|⟨kvs,e⟩
 ·obtain⟨_,hd,vs,_,dd⟩:=jX I.hok e;refine⟨dd.typeIs,λb q=>?_,hd⟩;cases q;obtain⟨ob,_,_,h1,h2,_⟩:=dd;exact⟨ob,h1,h2.2.1⟩
 ·obtain⟨_,hd,xs,_,dd⟩:=kD I.hok e;refine⟨dd.typeIs,λb q=>?_,hd⟩;cases q;obtain⟨ob,_,_,h1,h2,_⟩:=dd;exact⟨ob,h1,h2.2.1⟩
section
variable {X:Cx}{pins:List (af×aE)}{σ:St}{H:Hp}{s:ak}{a:af}{y d:V}{u r:ai}{o:Option V}{A:bB}{E:ai->ak->Prop}
theorem Ei{Q:ai->ak->Prop}(hu:A.units+1<cLine)(I:Inv X pins σ H s)(g:DGet H a y o)(ry:aU y u)(rd:aU d r)(h:∀w' s',Inv X pins σ H s'->aU (o.getD d) w'->Q w' s') :
  aB (aD X.prog X.w) A (call (.builtin "dict.get") [.ref a,u,r]) Q E s:=by
 rcases g with⟨kvs,k,e,ey,l⟩|⟨kvs,k,b,e,ey,eb,l⟩
 ·subst ey;obtain⟨z,hd,vs,rel,dd⟩:=jX I.hok e;refine call_meetsIn vA dd.typeIs PySem.F.entry_dict_get (PySem.F.args_dict_get_3 _ _ _) (meets_dict_get_default (cn X.prog X.w) a (ku ry) hd r) ⟨_,dd.mapOf,h _ _ (I.tok _) ?_⟩;rw[l];exact(rel.val k).getD rd
 ·subst ey;cases(show u=Value.ref b from ry);obtain⟨z,hd,xs,rel,dd⟩:=kD I.hok e;refine call_meetsIn vA dd.typeIs PySem.F.entry_dict_get (PySem.F.args_dict_get_3 _ _ _) (meetsH_dict_get_default (tupleKind (cn X.prog X.w)) a b hd r) ⟨tupleKind_room_in1 hu,k,xs,i4 I.hok eb,dd,h _ _ (I.tok _) ?_⟩;rw[l];exact(rel.val k).getD rd
end
def Gq(td ty tx:TE):TE:=λσ H Q=>td σ H λx H1=>∃a,x=.ref a/\IsD H1 a/\ty σ H1 λy H2=>tx σ H2 λz H3=>∃o,DGet H3 a y o/\Q (o.getD z) H3
section
variable {X:Cx}{o e f:aw}{apos cpos:Pos}{td ty tx:TE}
theorem D1(hu:X.A.units+1<cLine)(ho:PE X o td)(he:PE X e ty)(hf:PE X f tx)(m:M2 X o "get" apos e f cpos):PE X (.Call (.Attribute o "get" apos) [e,f] [] cpos) (Gq td ty tx):=by
 intro pins s σ H Q I h;refine wpAny_Call_method m.base m.few m.line PySem.F.plainAttrs_dict vA PySem.F.type_dict_get (thn (ho pins s σ H _ I h) λu s1 e0=>bA e0 λx H1 I1 rx e4=>e4.elim λa e5=>e5.elim λex e6=>e6.elim λd q1=>?_);subst ex;obtain rfl:u=Value.ref a:=rx;obtain ⟨t1,t2,_⟩:=AJ I1 d;refine ⟨t1,t2,?_⟩;rw [m.trees];refine Calls.callWith_builtin rfl (Calls.evalArgs_plain (Calls.spliced_cons (thn (he pins s1 σ H1 _ I1 q1) λiv s2 e0=>bA e0 λy H2 I2 ry q2=>
  Calls.spliced_cons (thn (hf pins s2 σ H2 _ I2 q2) λfv s3 e0=>bA e0 λz H3 I3 rz e4=>e4.elim λov e5=>e5.elim λg q3=>Calls.spliced_nil ?_))))
 exact Ei hu I3 g ry rz λw' s4 I4 rw'=>⟨_,H3,I4,rw',q3⟩
end
section
variable {X:Cx}{pins:List (af×aE)}{σ:St}{H:Hp}{s:ak}{a:af}{kvs:List (Key×V)}{A:bB}{E:ai->ak->Prop}
end
section
variable {X:Cx}{pins:List (af×aE)}{σ:St}{H:Hp}{s:ak}{a:af}{y:V}{u:ai}{A:bB}{E:ai->ak->Prop}
end
end L2
namespace Att
open PySem PySem.W PySem.Calls PyProof.Rows
theorem Er{P:Params}{h:aP}:∀(ns:List Int) (vs:List ai),WellAll P h vs (ns.map WData.int)->IntsAre vs ns:=by
 intro ns
 induction ns with
 |nil=>
   intro vs w;rw[lH]at w;cases w;exact .nil
 |cons n ns ih=>
   intro vs w;rw[bz]at w;cases w with
   |cons a b=>
     cases a;exact .cons _ _ (ih _ b)
theorem Hh{l:OpenLaw}{n:Nat}(hn:l.most=some n){P:Params}{h:aP}{args:List WData}{vals:List ai}
  (hpre:l.row.toRowW.claim.pre args=true) (hwl:WellAll P h vals args) :
  ∃a vs ns,vals=[Value.ref a]/\args=[WData.list (ns.map WData.int)]/\h.get? a=some { cls:=.type "list",data:=.seq vs.toArray }/\IntsAre vs ns/\ns.length≤n:=by
 have hsh:WShape.hasAll [] args [.list .int]=true:=(pre_splitW hpre).1;have hc:l.pre.holds [] { args:=args }=true:=(pre_splitW hpre).2;obtain⟨d,r,rfl,h1,h2⟩:=hasAllW_cons hsh;obtain rfl:=hasAllW_nil h2;obtain⟨xs,rfl,h3⟩:=hasW_list h1;obtain⟨ns,rfl⟩:=items_int h3;have hlen:ns.length≤n:=by
  unfold OpenLaw.pre at hc;have h4:(WTm.not (.lt (.lit (.int (n:Int))) (.len (.arg 0)))).holds [] { args:=[.list (ns.map .int)] }=true:=by
   have h4:=(holds_andW hc).1;rw[hn]at h4;exact h4
  have h5:=condW_of h4 (w_not (w_lt w_lit (w_len_list (w_arg rfl))));rw[bS]at h5;refine kI λq=>?_;have q':(n:Int)<((ns.length:Nat):Int):=by lia
  first
   |(rw[decide_eq_true q']at h5;exact absurd h5 (by decide))
   |(simp at h5;lia)
 cases hwl with
 |cons w1 w2=>
   cases w2;cases w1 with
   |list ho hall=>exact⟨_,_,ns,rfl,rfl,ho,Er ns _ hall,hlen⟩
theorem Dz(l:OpenLaw)(args:List WData):l.row.toRowW.claim.post args (.bool true) args=true:=
 postW_of (r:=l.row.toRowW) (X:=(true == true))
  (show WShape.has [] (.bool true) .bool=true by first|rfl|decide|simp[WShape.has,WShape.arms,WShape.armsAll])
  (show(WTm.eq .res (.lit (.bool true))).value [] { args:=args,res:=some (.bool true),after:=args }=some (.bool (true == true)) from w_eq_bool (w_res rfl) w_lit) rfl
theorem attach_call{l:OpenLaw}{n:Nat}{q:br}{loose:List Str}{XP:(Str->Option ai)->aP->Prop}{YP:aX->aP->Prop}{d:DefRec}
  (hn:l.most=some n) (hdf:d.params.defaults=[])
  (call:∀(w:aX) (s₀ s₁:ak) (mg mb:Str->Option ai) (fa:af) (o:aE) (pm cd doc:ai) (a:af) (vs:List ai) (ns:List Int),
   Ground q loose [] XP w s₀ mg mb s₁.heap->YP w s₁.heap ->
   s₁.heap.get? fa=some o->o.data=.func (docDef d.name d.params d.body d.scope pm cd doc)->s₁.heap.CodeRec cd d.name->mg d.name=some (.ref fa) ->
   s₁.heap.get? a=some { cls:=.type "list",data:=.seq vs.toArray }->IntsAre vs ns->ns.length≤n->s₁.gens=#[] ->
   codeAny (aD l.prog w) callerA (.call (.ref fa) ⟨[.ref a],[]⟩) (λr s'=>r=.ok (.ret (.bool true))/\OldK s₁.heap s'.heap/\s'.os=s₁.os/\AllBare s'.gens) s₁) :
  WalkO q loose XP YP l.row.toRowW d [] (λf vs=>PySem.call f vs):=by
 intro w s₀ s₁ mg mb G Y fa o pm cd doc dV kV ho hd hcd hD hmg hg args vals as hpre hlay hrd hwl hlo;obtain rfl:dV=.none:=Dflts.none hD hdf;obtain rfl:kV=.none:=Dflts.noKw hD;obtain⟨a,vs,ns,rfl,rfl,hobj,hints,hlen⟩:=Hh hn hpre hwl;refine enter_call (codeAny_mono (call w s₀ s₁ mg mb fa o pm cd doc a vs ns G Y ho (fd_plain hd) hcd hmg hobj hints hlen hg) λr s' hq=>?_);obtain⟨rfl,h2,h3,h4⟩:=hq;exact⟨.inl ⟨.bool true,.bool true,[],rfl,λ_=>rfl,.bool true,Dz l _,λ_=>⟨List.Pairwise.nil,λ_ hm=>(nomatch hm)⟩⟩,h2,h3,h4⟩
section
variable {prog:br}{w:aX}{A:bB}{E:ai->ak->Prop}{s:ak}{K:Frag}
end
end Att
namespace L2
open PySem PySem.Spec PyProof.Rows
theorem xE:∀{vs:List ai}{ns:List Int},IntsAre vs ns->Vals (ns.map V.int) vs
 |_,_,.nil=>.nil
 |_,_,.cons n t h=>.cons ⟨t,rfl⟩ (xE h)
end L2
/- THE LAST THEOREM (shape;LID,My.* are yours):
  My.Adr: a structure of the addresses that your layer names (classes,functions);My.Txt K t: a structure (Prop) of the equations over K;
  My.txt_mk:{K} {implicit addresses ..} (e1:nsIn K dP "law"=some (some (.ref f))) (e2:K.lookup f=some ⟨oc,od,.func (fnOf "law" "law" params body scope dV kV doc pm an cdv ct),sl⟩) (e3:codeIn K cdv "law"=true) ..:∃t,My.Txt K t
set_option maxRecDepth 100000 in
set_option maxHeartbeats 0 in
theorem PySem.Challenge.cw_LID_holds:PySem.Challenge.rw_LID.Holds:=by
 w_on;o_law;k_head;(case hw=>w_witness2)
 k_fill
 refine L2.walk_of (l:=PySem.Challenge.rw_LID) (n:=63) (k:=40) (x:="script") (CX:=λw=>..) (sp:=λ_=>My.sp_law) rfl (by decide) rfl ⟨rfl,by decide,by decide⟩ (λw h Y=>PySem.W.kIn_of Y) ?F ?S ?C
 case F=>
  intro w mg fa h KX G hmg;have T:∃t,My.Txt (L2.KOf KX) t:=by
   dsimp only[L2.KOf]                          -- K must stand as «<heap const> w.params» for k_is;refine' My.txt_mk ?e1 ?e2 ?e3 ..
   (case e1=>PySem.W.k_is)                    -- in the order: a name -> its address -> its object -> its parts
   (case e2=>PySem.W.k_is)
   ..
  obtain⟨t,T⟩:=T;have e0:=hmg.symm.trans (PySem.W.mg_of KX G T.law);cases e0                                       -- fa is the law's own address;exact⟨_,λs u=>.of_eq rfl,λbase kb nb=>My.law_fn T kb nb⟩     -- if «.of_eq rfl» comes too early: refine' ⟨_,?b,λbase kb nb=>My.law_fn T kb nb⟩;exact λs u=>.of_eq rfl
 case S=>exact λw H a ns hl hO hS=>..
 case C=>exact ..
(the tactic k_is has no namespace: write k_is) -/
namespace L2
open PySem PySem.Spec PyProof.Rows
noncomputable def cU(s:aT)(j:Nat):aT:=match s with
 |.ClassDef _ _ _ body _ _ _ _ _ _ _=>body.getD j (.Pass ⟨0,0,0,0⟩)
 |_=>.Pass ⟨0,0,0,0⟩
noncomputable def nU(s:aT):Arguments:=match s with
 |.FunctionDef _ a _ _ _ _ _ _ _ _=>a
 |_=>{ posonlyargs:=[],args:=[],vararg:=none,kwonlyargs:=[],kw_defaults:=[],kwarg:=none,defaults:=[] }
noncomputable def k9(s:aT):List aT:=match s with
 |.FunctionDef _ _ b _ _ _ _ _ _ _=>b
 |_=>[]
noncomputable def bu(s:aT):Scope:=match s with
 |.FunctionDef _ _ _ _ _ _ sc _ _ _=>sc
 |_=>{ kind:=.function,names:=[],isGenerator:=false,isCoroutine:=false }
structure Fun(K:PySem.W.Frag)(x qual:Str)(st:aT)(f:af)(fd:bf):Prop where
 ex:∃(oc:ai) (od:Option af) (kV doc pm:ai) (an:Option af) (cdv ct:ai) (osl:Array (Option ai)),
  fd=PySem.W.fnOf x qual (nU st) (k9 st) (bu st) .none kV doc pm an cdv ct/\K.lookup f=some ⟨oc,od,.func fd,osl⟩/\PySem.W.codeIn K cdv qual=true
 kp:PySem.W.keepIn K (.ref f)=true
section
variable {P:br}{w:aX}{K:PySem.W.Frag}{mg:Str->Option ai}{base:aP}
theorem Ep{x qual:Str}{st:aT}{f:af}{oc:ai}{od an:Option af}{osl:Array (Option ai)}{kV doc pm cdv ct:ai}(l:K.lookup f=some ⟨oc,od,.func (PySem.W.fnOf x qual (nU st) (k9 st) (bu st) .none kV doc pm an cdv ct),osl⟩)
  (c:PySem.W.codeIn K cdv qual=true) (k:PySem.W.keepIn K (.ref f)=true):Fun K x qual st f (PySem.W.fnOf x qual (nU st) (k9 st) (bu st) .none kV doc pm an cdv ct):=⟨⟨oc,od,kV,doc,pm,an,cdv,ct,osl,rfl,l,c⟩,k⟩
end
theorem av{A:bB}{k:Nat}(hr:Room k A):A.units+1<cLine:=vN (Nat.add_le_add_left (by decide:1≤64) _) hr.units
theorem Dh{n:Nat}(h:n≤1000):n<bh:=vN h (by decide)
section
variable {X:Cx}
end
section
variable {X:Cx}
theorem EK:eO X (.builtin "len") (λxs H Q=>∃a kvs,xs=[V.ref a]/\H a=some (.dK kvs)/\Q (.int kvs.length) H):=by
 intro pins s σ H xs us Q I r h;obtain⟨a,kvs,rfl,ha,q⟩:=h;obtain⟨u,rfl,ru⟩:=vals1 r;cases ru;exact FQ I (.inl ha) λt s' I'=>⟨.int kvs.length,H,I',⟨t,rfl⟩,q⟩
end
section
variable {κ:Type}[DecidableEq κ]
end
end L2
namespace L2.Rv
open PySem PySem.Spec PySem.W PyProof.Rows
section
variable {prog:br}{w:aX}{A:bB}{E:ai->ak->Prop}{s:ak}{K:Frag}{x C:af}{ox:aE}
theorem EF{M:Model}{v:ai}{Q:Unit->ak->Prop}(kx:K.In s.heap)(I:InstAt s.heap x ox C none)(hsub:subIn K (.ref C) (.type "BaseException")=some true)(hQ:Q () s) :
  aB M A (checkBuiltinCall "BaseException.__getattribute__" ⟨[.ref x,v],[]⟩) Q E s:=by
 have hsplit:splitId "BaseException.__getattribute__"=some ("BaseException","__getattribute__"):=by decide +kernel
 have hk:builtinKind "BaseException.__getattribute__"=some .slot:=by decide +kernel
 have ha:=F.args_bexc_ga (.ref x) v;obtain⟨hh,g,d,t,os⟩:=s;have L0:=I.type (M:=M);have L1:=looks_subIn (M:=M) kx hsub;simp only[checkBuiltinCall,hk,hsplit];unfold isInstance;refine aC (aC (L0.at (L1.at ?_)));simp only[gJ,cJ,if_false];cases hsig:Manifest.signature? "BaseException.__getattribute__" with
 |none=>exact bg hQ
 |some sig=>
   simp only[argsOk,hsig]at ha;exact wpAny_of_eq ha hQ
theorem Fh{tk:Tok}{P:ai->ak->Prop}(kx:K.In s.heap)(I:InstAt s.heap x ox C none)(hf:findObj K C none "__class__"=some (.bind (.builtin "getset_descriptor.__get__") (.builtin "object.__class__")))
  (hm:mroIn K C (.type "object")=some true) (h:P (.ref C) s) :
  aB (aD prog w) A (Builtin.«object.__getattribute__» ⟨[.ref x,.str "__class__" tk],[]⟩) (λfin s'=>match fin with|.done (.ret v)=>P v s'|_=>False) E s:=by
 obtain⟨hh,g,d,t,os⟩:=s;have L0:=I.type (M:=aD prog w);have L1:=looks_find (M:=aD prog w) kx I hf;unfold Builtin.«object.__getattribute__»;refine aC (bg (aC (bg (aC (L0.at (aC (L1.at ?_)))))));show aB _ _ (holding [Value.builtin "object.__class__"] (call (.builtin "getset_descriptor.__get__") [.builtin "object.__class__",.ref x,.ref C]) >>= ret) _ _ _;exact aC (wpAny_holding (wpAny_call (class_get (s:=⟨hh,g,d,t,os⟩) kx I hm (bg h))))
theorem IB{Q:Option ai->ak->Prop}(kx:K.In s.heap)(I:InstAt s.heap x ox C none)(hga:findIn K (.ref C) "__getattribute__"=some (some (.builtin "BaseException.__getattribute__")))(hk:findIn K (.ref C) "__getattr__"=some none)
  (hsub:subIn K (.ref C) (.type "BaseException")=some true) (hf:findObj K C none "__class__"=some (.bind (.builtin "getset_descriptor.__get__") (.builtin "object.__class__"))) (hm:mroIn K C (.type "object")=some true)
  (h:Q (some (.ref C)) { s with toks:=s.toks+1 }):aB (aD prog w) A (getAttr? (.ref x) "__class__") Q E s:=by
 obtain⟨hh,g,d,t,os⟩:=s;have L0:=I.type (M:=aD prog w);have L1:=looks_findIn (M:=aD prog w) kx hga;have L2:=looks_findIn (M:=aD prog w) kx hk;have hb:bindSpecial (.builtin "BaseException.__getattribute__") (.ref x)=pure (.builtin "BaseException.__getattribute__",[.ref x]):=F.excAttr_ValueError.ga.bind _;unfold getAttr? getAttrBy? getAttrBy;refine aC (wpAny_mkText (aC (wpAny_attempt (wpAny_holding (aC (L0.at (aC (L1.at ?_))))))));dsimp only;rw[if_neg (show ¬((onTheHeap (Value.ref C)&&(Value.builtin "BaseException.__getattribute__" == Value.builtin "object.__getattribute__"))=true) from by simp)];unfold getAttrByItsOwn hookBefore;rw[if_pos (show onTheHeap (.ref C)=true from rfl)];refine aC (L2.at (aC (wpAny_attempt (wpAny_holding ?_))));unfold callGetattribute boundAndCalled;rw[if_neg (by decide)];refine aC (wpAny_of_eq hb ?_);refine wpAny_call (codeAny_call_builtin F.excAttr_ValueError.ga.plain F.entry_bexc_ga (EF (s:=⟨hh,g,d,t+1,os⟩) kx I hsub ?_));refine cN (Fh (s:=⟨hh,g,d,t+1,os⟩) (P:=λv s'=>aB (aD prog w) A (handedOut v) (λv s''=>Q (some v) s'') (λ_ _=>False) s') kx I hf hm (handed_on rfl h)) (λfin s' z=>?_) λ_ _ z=>z;cases fin with
 |done fl=>
   cases fl with
   |ret v=>exact cN z (λ_ _ y=>bg y) (λ_ _ y=>absurd y id)
   |_=>exact z.elim
 |_=>exact z.elim
theorem Cs{a:af}(hga:findIn K (.ref C) "__getattribute__"=some (some (.builtin "BaseException.__getattribute__")))(hk:findIn K (.ref C) "__getattr__"=some none)(hsub:subIn K (.ref C) (.type "BaseException")=some true)
  (hf:findObj K C none "__class__"=some (.bind (.builtin "getset_descriptor.__get__") (.builtin "object.__class__"))) (hm:mroIn K C (.type "object")=some true) (hc:(clsIn K C).isSome=true) :
  KitX K (.ref a) (.ref C) (λhp=>∃o vs,hp.get? a=some o/\o.cls=.ref C/\o.dict=none/\o.data=.fields vs) where
 ty:=λM hp kx e0=>e0.elim λo e1=>e1.elim λvs e2=>e2.elim λe1 e3=>e3.elim λe2 e4=>e4.elim λe3 e4=>(show InstAt hp a o C none from⟨e1,e2,by unfold notCls;rw[e4],by rw[e3];trivial⟩).type
 it:=λM hp kx _=>by
  obtain⟨cd,hcd⟩:=ny.mp hc;unfold clsIn at hcd;split at hcd
  ·rename_i z1 z2 z3 z4 ho;intro A' Q' E' s' kk q;unfold isType loadHead;exact aC (wpAny_loadPart (kk _ _ (kx _ _ ho)) (bg q))
  ·cases hcd
 ne:=λhp tp dd its n sl kx htp=>by
  obtain⟨cd,hcd⟩:=ny.mp hc;refine Bool.eq_false_iff.mpr λq=>?_;cases Value.ref.inj (beq_iff_eq.mp q);unfold clsIn at hcd
  split at hcd
  ·rename_i z1 z2 z3 z4 ho;have z:=(kx _ _ ho).symm.trans htp;cases z
  ·cases hcd
 ca:=λ{prog w A E Q s} kx ⟨o,vs,e1,e2,e3,e4⟩ k=>IB kx (show InstAt s.heap a o C none from⟨e1,e2,by unfold notCls;rw[e4],by rw[e3];trivial⟩) hga hk hsub hf hm k
end
end L2.Rv
namespace L2.Rv
open PySem.W PyProof.Rows
noncomputable def dq{α:Type}(ask:Nat->Nat->Option Bool):KasT α->Option α
 |.ret a=>some a
 |.ask i j k=>match ask i j with
   |some b=>dq ask (k b)
   |none=>none
theorem mj{α β:Type}{ask:Nat->Nat->Option Bool}{f:α->KasT β}:∀(t:KasT α),dq ask (t.bind f)=(dq ask t).bind λa=>dq ask (f a)
 |.ret a=>rfl
 |.ask i j k=>by
   simp only[KasT.bind,dq];cases ask i j with
   |none=>rfl
   |some b=>exact mj (k b)
structure SOrd(ask:Nat->Nat->Option Bool)(lt:Nat->Nat->Bool)(n:Nat):Prop where
 an:∀i j,i<n->j<n->i≠j->ask i j=some (lt i j)
 tot:∀i j,i<n->j<n->i≠j->lt i j=false->lt j i=true
 asy:∀i j,i<n->j<n->lt i j=true->lt j i=false
 tr:∀i j k,i<n->j<n->k<n->lt i j=true->lt j k=true->lt i k=true
structure SPm(n:Nat)(p:Array Nat):Prop where
 pm:p.Perm (ci n).toArray
section
variable {ask:Nat->Nat->Option Bool}{lt:Nat->Nat->Bool}{n:Nat}{p:Array Nat}
theorem SPm.size(P:SPm n p):p.size=n:=by have:=P.pm.size_eq;simpa using this
theorem SPm.list(P:SPm n p):p.toList.Perm (ci n):=by have:=Array.perm_iff_toList_perm.mp P.pm;simpa using this
theorem SPm.lo(P:SPm n p){i:Nat}(hi:i<n):p.getD i 0<n:=by
 have hs:=P.size;have hi':i<p.size:=by lia
 have e:p.getD i 0=p[i]:=by simp[Array.getD,hi']
 rw[e];have:p[i]∈p.toList:=by simp
 have:=P.list.mem_iff.mp this;simpa using this
theorem SPm.inj(P:SPm n p){i j:Nat}(hi:i<n)(hj:j<n)(hne:i≠j):p.getD i 0≠p.getD j 0:=by
 have hs:=P.size;have hi':i<p.size:=by lia
 have hj':j<p.size:=by lia
 have nd:p.toList.Nodup:=P.list.nodup_iff.mpr List.nodup_range;have ei:p.getD i 0=p.toList[i]'(by simpa using hi'):=by simp[Array.getD,hi']
 have ej:p.getD j 0=p.toList[j]'(by simpa using hj'):=by simp[Array.getD,hj']
 rw[ei,ej];intro z;have pw:=nL.mp nd;rcases vB hne with q|q
 ·exact pw i j _ _ q z
 ·exact pw j i _ _ q z.symm
abbrev SUp(lt:Nat->Nat->Bool)(p:Array Nat)(k:Nat):Prop:=∀i j,i<j->j<k->lt (p.getD i 0) (p.getD j 0)=true
abbrev SDn(lt:Nat->Nat->Bool)(p:Array Nat)(k:Nat):Prop:=∀i j,i<j->j<k->lt (p.getD j 0) (p.getD i 0)=true
theorem uK(O:SOrd ask lt n)(P:SPm n p):∀(f a:Nat),1≤a->a+f≤n->SUp lt p a->∃m,dq ask (kas_asc p f a)=some m/\a≤m/\m≤a+f/\SUp lt p m/\(m<a+f->lt (p.getD m 0) (p.getD (m-1) 0)=true)
 |0,a,_,_,u=>⟨a,rfl,bo _,bo _,u,λz=>absurd z (jn _)⟩
 |f+1,a,h1,h2,u=>by
   have b1:a<n:=by lia
   have b2:a-1<n:=by lia
   have e:=O.an _ _ (P.lo b1) (P.lo b2) (P.inj b1 b2 (by lia));unfold kas_asc;simp only[dq,e];cases c:lt (p.getD a 0) (p.getD (a-1) 0) with
   |true=>exact⟨a,rfl,bo _,by lia,u,λ_=>c⟩
   |false=>
     have t:=O.tot _ _ (P.lo b1) (P.lo b2) (P.inj b1 b2 (by lia)) c;have u':SUp lt p (a+1):=λi j hij hj=>by
      by_cases hja:j<a
      ·exact u i j hij hja
      ·have ej:j=a:=by lia
       subst ej;by_cases hi:i=j-1
       ·subst hi;exact t
       ·exact O.tr _ _ _ (P.lo (by lia)) (P.lo b2) (P.lo b1) (u i (j-1) (by lia) (by lia)) t
     obtain⟨m,q1,q2,q3,q4,q5⟩:=uK O P f (a+1) (by lia) (by lia) u';exact⟨m,by simpa using q1,by lia,by lia,q4,λz=>q5 (by lia)⟩
theorem Aa(O:SOrd ask lt n)(P:SPm n p):∀(f a:Nat),1≤a->a+f≤n->SDn lt p a->∃m,dq ask (kas_desc f p a 0)=some (p,m,0)/\a≤m/\m≤a+f/\SDn lt p m
 |0,a,_,_,u=>⟨a,rfl,bo _,bo _,u⟩
 |f+1,a,h1,h2,u=>by
   have b1:a<n:=by lia
   have b2:a-1<n:=by lia
   have e:=O.an _ _ (P.lo b1) (P.lo b2) (P.inj b1 b2 (by lia));have e':=O.an _ _ (P.lo b2) (P.lo b1) (P.inj b2 b1 (by lia));unfold kas_desc;simp only[dq,e];cases c:lt (p.getD a 0) (p.getD (a-1) 0) with
   |true=>
     have u':SDn lt p (a+1):=λi j hij hj=>by
      by_cases hja:j<a
      ·exact u i j hij hja
      ·have ej:j=a:=by lia
       subst ej;by_cases hi:i=j-1
       ·subst hi;exact c
       ·exact O.tr _ _ _ (P.lo b1) (P.lo b2) (P.lo (by lia)) c (u i (j-1) (by lia) (by lia))
     obtain⟨m,q1,q2,q3,q4⟩:=Aa O P f (a+1) (by lia) (by lia) u';exact⟨m,by simpa using q1,by lia,by lia,q4⟩
   |false=>
     have t:=O.tot _ _ (P.lo b1) (P.lo b2) (P.inj b1 b2 (by lia)) c;refine⟨a,?_,bo _,by lia,u⟩;simp only[cJ,if_false,dq,e',t,if_true]
theorem A2{j k:Nat}(hj:j≤p.size)(hk:k<p.size):(kas_rev p 0 j).getD k 0=if k<j then p.getD (j-1-k) 0 else p.getD k 0:=by
 have e:=getElem?_mirror_all (xs:=p) (i:=0) hj k;have h1:(kas_rev p 0 j).getD k 0=((kas_rev p 0 j)[k]?).getD 0:=by simp
 rw[h1];unfold kas_rev;rw[e];by_cases c:k<j
 ·rw[if_pos ⟨fB _,c⟩,if_pos c];simp
 ·rw[if_neg (by lia),if_neg c];simp
theorem DV(P:SPm n p){k:Nat}(hk:k≤n)(d:SDn lt p k):SPm n (kas_rev p 0 k)/\SUp lt (kas_rev p 0 k) k:=by
 have hs:=P.size;refine⟨⟨(mirror_perm _ _ _ _).trans P.pm⟩,λi j hij hj=>?_⟩;rw[A2 (by lia) (by lia),A2 (by lia) (by lia),if_pos (by lia),if_pos (by lia)];exact d _ _ (by lia) (by lia)
theorem G3(O:SOrd ask lt n)(P:SPm n p)(hn:1≤n):∃m p',dq ask (kas_count n p)=some (m,p')/\SPm n p'/\1≤m/\m≤n/\SUp lt p' m:=by
 obtain⟨m,q1,q2,q3,q4,q5⟩:=uK O P (n-1) 1 (bo _) (by lia) (λi j hij hj=>by lia);unfold kas_count;rw[mj,q1];show ∃m' p',dq ask (if(m == n)=true then _ else _)=_/\_;by_cases hm:m=n
 ·rw[if_pos (by simpa using hm)];exact⟨m,p,rfl,P,q2,by lia,q4⟩
 ·rw[if_neg (by simpa using hm)];by_cases h1:m>1
  ·rw[if_pos h1];have e:=O.an _ _ (P.lo (i:=0) (by lia)) (P.lo (i:=m-1) (by lia)) (P.inj (by lia) (by lia) (by lia));have t:=q4 0 (m-1) (by lia) (by lia);simp only[dq,e,t,if_true];exact⟨m,p,rfl,P,q2,by lia,q4⟩
  ·rw[if_neg h1];have em:m=1:=by lia
   subst em;have d2:SDn lt p 2:=λi j hij hj=>by
    have:i=0:=by lia
    have:j=1:=by lia
    subst i;subst j;exact q5 (by lia)
   obtain⟨k,w1,w2,w3,w4⟩:=Aa O P (n-2) 2 (by lia) (by lia) d2;unfold kas_descPart;rw[mj,w1];show ∃m' p',dq ask (if 0>0 then _ else kas_tail3 k n p)=_/\_;rw[if_neg (by lia)];obtain⟨P2,U2⟩:=DV P (k:=k) (by lia) w4;obtain⟨m,r1,r2,r3,r4,r5⟩:=uK O P2 (n-k) k (by lia) (by lia) U2;unfold kas_tail3;rw[mj,r1];exact⟨m,_,rfl,P2,by lia,by lia,r4⟩
theorem ug(O:SOrd ask lt n)(P:SPm n p){k:Nat}(hk:k<n):∀(f l r:Nat),l≤r->r≤k->r-l≤f->(∀i,i<l->lt (p.getD i 0) (p.getD k 0)=true)->(∀i,r≤i->i<k->lt (p.getD k 0) (p.getD i 0)=true)->SUp lt p k ->
  ∃l',dq ask (kas_place p k f l r)=some l'/\l'≤k/\(∀i,i<l'->lt (p.getD i 0) (p.getD k 0)=true)/\(∀i,l'≤i->i<k->lt (p.getD k 0) (p.getD i 0)=true)
 |0,l,r,h1,h2,h3,a,b,u=>⟨l,rfl,by lia,a,λi x y=>b i (by lia) y⟩
 |f+1,l,r,h1,h2,h3,a,b,u=>by
   unfold kas_place;by_cases c:l≥r
   ·rw[if_pos c];exact⟨l,rfl,by lia,a,λi x y=>b i (by lia) y⟩
   ·rw[if_neg c];have hm:(l+r)/2<k:=by lia
    have e:=O.an _ _ (P.lo hk) (P.lo (i:=(l+r)/2) (by lia)) (P.inj hk (by lia) (by lia));simp only[dq,e];cases t:lt (p.getD k 0) (p.getD ((l+r)/2) 0) with
    |true=>
      simp only[if_true];refine ug O P hk f l ((l+r)/2) (by lia) (by lia) (by lia) a (λi x y=>?_) u;by_cases z:i=(l+r)/2
      ·subst z;exact t
      ·exact O.tr _ _ _ (P.lo hk) (P.lo (by lia)) (P.lo (by lia)) t (u _ _ (by lia) y)
    |false=>
      have t':=O.tot _ _ (P.lo hk) (P.lo (i:=(l+r)/2) (by lia)) (P.inj hk (by lia) (by lia)) t;simp only[cJ,if_false];refine ug O P hk f ((l+r)/2+1) r (by lia) (by lia) (by lia) (λi x=>?_) b u;by_cases z:i=(l+r)/2
      ·subst z;exact t'
      ·exact O.tr _ _ _ (P.lo (by lia)) (P.lo (i:=(l+r)/2) (by lia)) (P.lo hk) (u _ _ (by lia) hm) t'
theorem xt{k d i:Nat}(hk:k<p.size)(hd:d≤k):(bubble p k d).getD i 0=if i=k-d then p.getD k 0 else if k-d<i/\i≤k then p.getD (i-1) 0 else p.getD i 0:=by
 have e:=getElem?_bubble hk d hd i;have h1:(bubble p k d).getD i 0=((bubble p k d)[i]?).getD 0:=by simp
 rw[h1,e];have g:∀q:Nat,(p[q]?).getD 0=p.getD q 0:=λq=>by simp
 by_cases c1:i=k-d
 ·rw[if_pos c1,if_pos c1];exact g _
 ·rw[if_neg c1,if_neg c1];by_cases c2:k-d<i/\i≤k
  ·rw[if_pos c2,if_pos c2];exact g _
  ·rw[if_neg c2,if_neg c2];exact g _
theorem AA(O:SOrd ask lt n):∀(f k:Nat) (p:Array Nat),SPm n p->k+f≤n->SUp lt p k->∃p',dq ask (kas_bin f p k)=some p'/\SPm n p'/\SUp lt p' (k+f)
 |0,k,p,P,_,u=>⟨p,rfl,P,u⟩
 |f+1,k,p,P,h,u=>by
   have hs:=P.size;obtain⟨l,q1,q2,q3,q4⟩:=ug O P (k:=k) (by lia) k 0 k (by lia) (bo _) (by lia) (λi z=>by lia) (λi x y=>by lia) u;unfold kas_bin;rw[mj,q1];have P2:SPm n (bubble p k (k-l)):=⟨(bubble_perm _ _ _).trans P.pm⟩;have U2:SUp lt (bubble p k (k-l)) (k+1):=λi j hij hj=>by
    rw[xt (by lia) (by lia),xt (by lia) (by lia)];have e:k-(k-l)=l:=by lia
    rw[e];by_cases a1:i=l
    ·rw[if_pos a1,if_neg (by lia),if_pos (by lia)];exact q4 (j-1) (by lia) (by lia)
    ·rw[if_neg a1];by_cases a2:j=l
     ·rw[if_pos a2,if_neg (by lia)];exact q3 i (by lia)
     ·rw[if_neg a2];by_cases b1:l<i/\i≤k
      ·rw[if_pos b1,if_pos (by lia)];exact u _ _ (by lia) (by lia)
      ·rw[if_neg b1];by_cases b2:l<j/\j≤k
       ·rw[if_pos b2];exact u _ _ (by lia) (by lia)
       ·rw[if_neg b2];exact u _ _ (by lia) (by lia)
   obtain⟨p',r1,r2,r3⟩:=AA O f (k+1) _ P2 (by lia) U2;exact⟨p',r1,r2,(show k+1+f=k+(f+1) by lia)▸r3⟩
theorem Ae(O:SOrd ask lt n)(hn:1≤n):∃p,dq ask (kas_sort n)=some p/\SPm n p/\SUp lt p n:=by
 obtain⟨m,p',q1,q2,q3,q4,q5⟩:=G3 O (p:=(ci n).toArray) ⟨Array.Perm.refl _⟩ hn;unfold kas_sort;rw[mj,q1];show ∃p,dq ask (if m<n then kas_bin (n-max m 1) p' (max m 1) else .ret p')=some p/\_;have em:max m 1=m:=by lia
 rw[em];by_cases h:m<n
 ·rw[if_pos h];obtain⟨p2,r1,r2,r3⟩:=AA O (n-m) m p' q2 (by lia) q5;exact⟨p2,r1,r2,(show m+(n-m)=n by lia)▸r3⟩
 ·rw[if_neg h];have:m=n:=by lia
  subst this;exact⟨p',rfl,q2,q5⟩
end
end L2.Rv
namespace L2.Rv
noncomputable section
open PySem (Str)
inductive MV where
 |non|bl (b:Bool)|int (i:Int)|str (s:Str)|ref (n:Nat)|scr (ns:List Int)|tup (xs:List MV)|any
instance:DecidableEq MV:=λ_ _=>mU _
inductive MO where
 |lst (xs:List MV)|dct (kvs:List (Str×MV))|ins (c:Nat) (fs:List (String×MV))|exn (c:Nat)
  |frz (kvs:List (Str×MV))
instance:DecidableEq MO:=λ_ _=>mU _
abbrev MH:=List MO
inductive Res(α:Type) where
 |ok (a:α) (h:MH)|exc (c:Nat) (h:MH)|stuck
abbrev M(α:Type):=MH->Res α
noncomputable def bnd{α β:Type}(m:M α)(f:α->M β):M β:=λh=>match m h with
 |.ok a h'=>f a h'
 |.exc c h'=>.exc c h'
 |.stuck=>.stuck
noncomputable def ret{α:Type}(a:α):M α:=λh=>.ok a h
noncomputable def stk{α:Type}:M α:=λ_=>.stuck
noncomputable def rse{α:Type}(c:Nat):M α:=λh=>.exc c h
noncomputable def new(o:MO):M MV:=λh=>.ok (.ref h.length) (h++[o])
noncomputable def look(n:Nat):M MO:=λh=>match h[n]? with
 |some o=>.ok o h
 |none=>.stuck
noncomputable def put(n:Nat)(o:MO):M Unit:=λh=>if n<h.length then .ok () (h.set n o) else .stuck
abbrev MSt:=List (Option MV)
abbrev ME:=MSt->M MV
inductive MF where
 |next (σ:MSt)|brk (σ:MSt)|cnt (σ:MSt)|ret (v:MV)
abbrev MS:=MSt->M MF
noncomputable def ae(i:Nat):ME:=λσ=>match σ[i]? with
 |some (some v)=>ret v
 |_=>stk
noncomputable def eC(v:MV):ME:=λ_=>ret v
abbrev Op2:=MV->MV->M MV
abbrev Op1:=MV->M MV
noncomputable def aj(f:Op2)(a b:ME):ME:=λσ=>bnd (a σ) λx=>bnd (b σ) λy=>f x y
noncomputable def eUn(f:Op1)(a:ME):ME:=λσ=>bnd (a σ) f
noncomputable def asB:MV->M Bool
 |.bl b=>ret b
 |_=>stk
noncomputable def tst(g:ME)(σ:MSt):M Bool:=bnd (g σ) asB
noncomputable def fH(a:ME):ME:=λσ=>bnd (tst a σ) λb=>ret (.bl (!b))
noncomputable def mE(a b:ME):ME:=λσ=>bnd (tst a σ) λc=>if c=true then b σ else ret (.bl false)
noncomputable def eOr(a b:ME):ME:=λσ=>bnd (tst a σ) λc=>if c=true then ret (.bl true) else b σ
abbrev MA:=MSt->M (List MV)
noncomputable def az:MA:=λ_=>ret []
noncomputable def ao(e:ME)(r:MA):MA:=λσ=>bnd (e σ) λx=>bnd (r σ) λxs=>ret (x::xs)
noncomputable def eT(a:MA):ME:=λσ=>bnd (a σ) λxs=>if xs.length≤1000 then new (.lst xs) else stk
noncomputable def dX(a:MA):ME:=λσ=>bnd (a σ) λxs=>if xs.length≤1000 then ret (.tup xs) else stk
abbrev Fn:=List MV->M MV
noncomputable def bM(f:Fn)(a:MA):ME:=λσ=>bnd (a σ) f
noncomputable def js(c:Nat)(f:Fn)(a:MA):ME:=λσ=>bnd (a σ) λxs=>bnd (new (.ins c [])) λo=>bnd (f (o::xs)) λv=>match v with
 |.non=>ret o
 |_=>stk
noncomputable def bG(c:Nat)(mth:String)(f:Fn)(o:ME)(a:MA):ME:=λσ=>bnd (o σ) λx=>match x with
 |.ref n=>bnd (look n) λob=>match ob with
   |.ins c' fs=>if c'=c/\fs.lookup mth=none then bnd (a σ) λxs=>f (x::xs) else stk
   |_=>stk
 |_=>stk
noncomputable def aZ(o:ME)(cs:List Nat)(f:String):ME:=λσ=>bnd (o σ) λx=>match x with
 |.ref n=>bnd (look n) λob=>match ob with
   | .ins c fs=>if cs.contains c=true then (match fs.lookup f with
     |some v=>ret v
     | none=>stk) else stk
   |_=>stk
 |_=>stk
noncomputable def bY:Op2:=λx y=>match x,y with
 |.int i,.int j=>ret (.int (i+j))
 |.str i,.str j=>if i.length+j.length≤100000 then ret (.str (i++j)) else stk
 |.ref a,.ref b=>bnd (look a) λoa=>bnd (look b) λob=>match oa,ob with
   |.lst xs,.lst ys=>if xs.length+ys.length≤100000 then new (.lst (xs++ys)) else stk
   |_,_=>stk
 |_,_=>stk
noncomputable def gE:Op2:=λx y=>match x,y with
 |.int i,.int j=>ret (.int (i-j))
 |_,_=>stk
noncomputable def fL:Op2:=λx y=>match x,y with
 |.int i,.int j=>if(-(2 ^ 64)<i/\i<2 ^ 64)∨(-(2 ^ 64)<j/\j<2 ^ 64) then ret (.int (i*j)) else stk
 |.ref a,.int k=>bnd (look a) λo=>match o with
   |.lst xs=>if -1000000≤k/\k≤1000000/\xs.length*k.toNat≤100000 then new (.lst (bU k.toNat xs).flatten) else stk
   |_=>stk
 |_,_=>stk
noncomputable def cx:Op2:=λx y=>match x,y with
 |.int i,.int j=>if 0<j then ret (.int (i%j)) else stk
 |_,_=>stk
noncomputable def dS:Op2:=λx y=>match x,y with
 |.int i,.int j=>if 0<j/\j<1073741824 then ret (.int (i/j)) else stk
 |_,_=>stk
noncomputable def oI:Op1:=λx=>match x with
 |.int i=>ret (.int (-i))
 |_=>stk
noncomputable def oLt:Op2:=λx y=>match x,y with
 |.int i,.int j=>ret (.bl (decide (i<j)))
 |_,_=>stk
noncomputable def oGt:Op2:=λx y=>match x,y with
 |.int i,.int j=>ret (.bl (decide (j<i)))
 |_,_=>stk
noncomputable def oGe:Op2:=λx y=>match x,y with
 |.int i,.int j=>ret (.bl (decide (j≤i)))
 |_,_=>stk
noncomputable def iW:MV->Bool
 |.non=>true
 |_=>false
noncomputable def sT:Op1:=λx=>match x with
 |.any=>stk
 |x=>ret (.bl (iW x))
noncomputable def kY:Op1:=λx=>match x with
 |.any=>stk
 |x=>ret (.bl (!iW x))
noncomputable def dget(k:Str):List (Str×MV)->Option MV
 |[]=>none
 |(a,v)::r=>if a=k then some v else dget k r
noncomputable def dput(k:Str)(v:MV)(kvs:List (Str×MV)):List (Str×MV):=if(dget k kvs).isSome=true then kvs.map (λkv=>if kv.1=k then(kv.1,v) else kv) else kvs++[(k,v)]
noncomputable def atN{α:Type}(xs:List α)(i:Int):Option α:=
 if 0≤i then xs[i.toNat]? else if -(xs.length:Int)≤i then xs[(i+xs.length).toNat]? else none
noncomputable def oIx:Op2:=λx y=>match x,y with
 |.ref a,.int i=>bnd (look a) λo=>match o with
   | .lst xs=>(match atN xs i with
     |some v=>ret v
     | none=>stk)
   |_=>stk
 | .tup xs,.int i=>(match atN xs i with
   |some v=>ret v
   | none=>stk)
 | .scr ns,.int i=>(match atN ns i with
   |some v=>ret (.int v)
   | none=>stk)
 | .str s,.int i=>if s.length≤100000 then (match atN s.cps.toList i with
   |some c=>ret (.str ⟨#[c]⟩)
   | none=>stk) else stk
 |.ref a,.str k=>bnd (look a) λo=>match o with
   | .dct kvs=>(match dget k kvs with
     |some v=>ret v
     | none=>stk)
   |_=>stk
 |_,_=>stk
noncomputable def cz:Op1:=λx=>match x with
 |.ref a=>bnd (look a) λo=>match o with
   |.lst xs=>ret (.int xs.length)
   |.dct xs=>ret (.int xs.length)
   |_=>stk
 |.str s=>if s.length≤100000 then ret (.int s.length) else stk
 |.scr ns=>ret (.int ns.length)
 |.tup xs=>ret (.int xs.length)
 |_=>stk
noncomputable def mx:Op1:=λx=>match x with
 |.ref a=>bnd (look a) λo=>match o with
   |.lst xs=>new (.lst xs)
   |_=>stk
 |_=>stk
noncomputable def ur:Op1:=λx=>match x with
 |.int i=>ret (.int i)
 |.bl b=>ret (.int (if b then 1 else 0))
 |_=>stk
noncomputable def flat:MV->Bool
 |.ref _=>false
 |.scr _=>false
 |.tup _=>false
 |.any=>false
 |_=>true
noncomputable def n8:MV->MV->Bool
 |.int _,.int _=>true
 |.bl _,.bl _=>true
 |.str _,.str _=>true
 |_,_=>false
noncomputable def jB(f:MV->Option PySem.PyData):List MV->Option (List PySem.PyData)
 |[]=>some []
 |x::r=>match f x,jB f r with
   |some d,some ds=>some (d::ds)
   |_,_=>none
noncomputable def dat(h:MH):Nat->MV->Option PySem.PyData
 |_,.non=>some .none
 |_,.bl b=>some (.bool b)
 |_,.int i=>some (.int i)
 |_,.str s=>some (.str s)
 | n + 1,.tup xs=>(match jB (dat h n) xs with
   |some ds=>some (.tuple ds)
   | none=>none)
 | n + 1,.ref a=>(match h[a]? with
   | some (.lst xs)=>(match jB (dat h n) xs with
     |some ds=>some (.list ds)
     | none=>none)
   | _=>none)
 |_,_=>none
noncomputable def qG(x y:MV):M Bool:=λh=>match dat h 6 x,dat h 6 y with
 |some d,some e=>if PySem.SeqAt.shaped d=true/\PySem.SeqAt.shaped e=true then .ok (PySem.PyData.eqv d e) h else .stuck
 |_,_=>.stuck
def oEq:Op2:=λx y=>if n8 x y=true then ret (.bl (decide (x=y))) else bnd (qG x y) λb=>ret (.bl b)
def oNe:Op2:=λx y=>if n8 x y=true then ret (.bl (!decide (x=y))) else bnd (qG x y) λb=>ret (.bl (!b))
noncomputable def eqM:MV->MV->Bool
 |.non,.non=>true
 |.bl a,.bl b=>a == b
 |.bl a,.int b=>(if a then 1 else 0) == b
 |.int a,.bl b=>a == (if b then 1 else 0)
 |.int a,.int b=>a == b
 |.str a,.str b=>a == b
 |_,_=>false
noncomputable def inM(x:MV)(xs:List MV):Bool:=xs.any λy=>eqM y x
noncomputable def oIn(neg:Bool):Op2:=λx y=>match y with
 |.ref a=>bnd (look a) λo=>match o with
   |.lst xs=>if flat x=true/\xs.all flat=true then ret (.bl (if neg then !inM x xs else inM x xs)) else stk
   | .dct kvs=>(match x with
     |.str k=>ret (.bl (if neg then !(dget k kvs).isSome else(dget k kvs).isSome))
     | _=>stk)
   |_=>stk
 |.tup xs=>if flat x=true/\xs.all flat=true then ret (.bl (if neg then !inM x xs else inM x xs)) else stk
 |_=>stk
noncomputable def pI:Op2:=λx y=>match x,y with
 |.int i,.int j=>ret (.int (if j<i then j else i))
 |_,_=>stk
noncomputable def qX:Op2:=λx y=>match x,y with
 |.int i,.int j=>ret (.int (if i<j then j else i))
 |_,_=>stk
abbrev MKey:=Sum Int Str
noncomputable def rD:MV->Option MKey
 |.int i=>some (.inl i)
 |.str s=>some (.inr s)
 |_=>none
noncomputable def km:List MV->Option (List MKey)
 |[]=>some []
 |x::r=>match rD x,km r with
   |some k,some ks=>some (k::ks)
   |_,_=>none
noncomputable def gH:MV->Option (List MKey)
 |.tup xs=>km xs
 |_=>none
noncomputable def va:MV->Option (List MKey)
 |.tup (x::_)=>gH x
 |_=>none
noncomputable def fJ(f:MV->Option (List MKey)):List MV->Option (List (List MKey))
 |[]=>some []
 |x::r=>match f x,fJ f r with
   |some k,some ks=>some (k::ks)
   |_,_=>none
noncomputable def ltK:List MKey->List MKey->Option Bool
 |[],[]=>some false
 |[],_::_=>some true
 |_::_,[]=>some false
 |x::xs,y::ys=>if x=y then ltK xs ys else match x,y with
   |.inl i,.inl j=>some (decide (i<j))
   |.inr a,.inr b=>some (decide (a.cps.toList<b.cps.toList))
   |_,_=>none
noncomputable def iT(rows:List (List MKey))(i j:Nat):Option Bool:=match rows[i]?,rows[j]? with
 |some x,some y=>if x=y then none else ltK x y
 |_,_=>none
noncomputable def dA(rows:List (List MKey)):Option (List Nat):=
 if rows.length < 2 then some (ci rows.length) else if rows.length < 64 then (match dq (iT rows) (PySem.W.kas_sort rows.length) with
  |some p=>some p.toList
  | none=>none) else none
noncomputable def hU:List MKey->Bool
 |.inl _::_=>true
 |_=>false
noncomputable def pick(xs:List MV)(ix:List Nat):List MV:=ix.map λi=>xs.getD i .non
noncomputable def lO:Op1:=λx=>match x with
 |.ref a=>bnd (look a) λo=>match o with
   | .lst xs=>(match fJ gH xs with
     | some rows=>if rows.all hU=true then (match dA rows with
       |some ix=>new (.lst (pick xs ix))
       | none=>stk) else stk
     | none=>(match fJ va xs with
       | some rows=>(match dA rows with
         |some ix=>new (.lst (pick xs ix))
         | none=>stk)
       | none=>stk))
   |_=>stk
 |_=>stk
def eR(ke:ME)(fr:MSt):List Str->M (List MV)
 |[]=>ret []
 |k::r=>λh=>match ke (some (.str k)::fr) h with
   |.ok v h'=>if h'=h then bnd (eR ke fr r) (λvs=>ret (v::vs)) h else .stuck
   |_=>.stuck
def rC(o:ME)(i:Nat)(ke:ME):ME:=λσ=>bnd (o σ) λd=>match d with
 |.ref n=>bnd (look n) λob=>match ob with
   | .dct kvs=>if kvs.length < 64 then bnd (eR ke [(σ[i]?).getD none] (kvs.map (·.1))) λks=>(match fJ gH ks with
     | some rows=>if rows.all hU=true then (match dA rows with
       |some ix=>new (.lst (pick (kvs.map λkv=>.str kv.1) ix))
       | none=>stk) else stk
     | none=>stk) else stk
   |_=>stk
 |_=>stk
inductive FP where
 |lit (s:Str)|pl (e:ME)|rp (e:ME)
noncomputable def md(s:Str):Bool:=decide (s.length≤1000)&&s.cps.toList.all λc=>decide (c<16 ^ 8)
noncomputable def jm:FP->MSt->M (Option Str)
 |.lit s,_=>if s.length≤1000 then ret (some s) else stk
 |.pl e,σ=>bnd (e σ) λv=>match v with
   |.str s=>if s.length≤10000 then ret (some s) else stk
   |.int i=>if i.natAbs.log2<100 then ret (some (aQ (toString i))) else stk
   |_=>stk
 |.rp e,σ=>bnd (e σ) λv=>match v with
   |.str s=>if md s=true then ret none else stk
   |_=>stk
noncomputable def gY:List FP->MSt->M (List (Option Str))
 |[],_=>ret []
 |p::r,σ=>bnd (jm p σ) λx=>bnd (gY r σ) λxs=>ret (x::xs)
noncomputable def jH:Str->List (Option Str)->Option Str
 |acc,[]=>some acc
 |acc,some y::r=>jH (acc++y) r
 |_,none::_=>none
noncomputable def jT(ps:List FP):ME:=λσ=>if ps.length≤100 then bnd (gY ps σ) λxs=>ret (match jH PySem.Str.empty xs with
 |some s=>.str s
 | none=>.any) else stk
noncomputable def jo:List MV->Option (List Str)
 |[]=>some []
 | .str s::r=>(match jo r with
   |some ss=>some (s::ss)
   | none=>none)
 |_=>none
noncomputable def tS:Op2:=λx y=>match x,y with
 |.str sep,.ref a=>bnd (look a) λo=>match o with
   | .lst xs=>(match jo xs with
     |some ss=>if sep.length≤16/\(ss.map (·.length)).sum+ss.length≤100000 then ret (.str (PySem.Txt.join sep ss)) else stk
     | none=>stk)
   |_=>stk
 |_,_=>stk
noncomputable def sE(o e:ME):ME:=λσ=>bnd (o σ) λx=>match x with
 |.str s=>bnd (e σ) λy=>tS (.str s) y
 |_=>stk
noncomputable def ja:List MV->Option (List Int)
 |[]=>some []
 | .int i::r=>(match ja r with
   |some is=>some (i::is)
   | none=>none)
 |_=>none
noncomputable def di:Int->List Int->Int
 |a,[]=>a
 |a,b::r=>di (if b<a then b else a) r
noncomputable def nQ:Op1:=λx=>match x with
 |.ref a=>bnd (look a) λo=>match o with
   | .lst xs=>(match ja xs with
     |some (i::is)=>if is.length≤10000 then ret (.int (di i is)) else stk
     | _=>stk)
   |_=>stk
 |_=>stk
noncomputable def lG:List Int->Int
 |[]=>0
 |a::r=>a+lG r
inductive Ty where
 |int|bool|str|list|tuple|exn (al cs:List Nat)
noncomputable def gU(t:Ty):Op1:=λx=>match x with
 | .non=>(match t with
   |.exn _ _=>stk
   | _=>ret (.bl false))
 | .bl _=>(match t with
   |.bool=>ret (.bl true)
   |.int=>ret (.bl true)
   |.exn _ _=>stk
   | _=>ret (.bl false))
 | .int _=>(match t with
   |.int=>ret (.bl true)
   |.exn _ _=>stk
   | _=>ret (.bl false))
 | .str _=>(match t with
   |.str=>ret (.bl true)
   |.exn _ _=>stk
   | _=>ret (.bl false))
 |.ref n=>bnd (look n) λo=>match o,t with
   |.lst _,.list=>ret (.bl true)
   |.lst _,.exn _ _=>stk
   |.lst _,_=>ret (.bl false)
   |.exn c,.exn al cs=>if al.contains c=true then ret (.bl (cs.contains c)) else stk
   |_,_=>stk
 | .tup _=>(match t with
   |.tuple=>ret (.bl true)
   |.exn _ _=>stk
   | _=>ret (.bl false))
 |.scr _=>stk
 |.any=>stk
noncomputable def b9:MS:=λσ=>ret (.next σ)
noncomputable def au(a b:MS):MS:=λσ=>bnd (a σ) λf=>match f with
 |.next σ'=>b σ'
 |f=>ret f
noncomputable def cG(e:ME):MS:=λσ=>bnd (e σ) λ_=>ret (.next σ)
noncomputable def aY(i:Nat)(e:ME):MS:=λσ=>bnd (e σ) λv=>ret (.next (σ.set i (some v)))
noncomputable def bn(e:ME):MS:=λσ=>bnd (e σ) λv=>ret (.ret v)
noncomputable def sIf(c:ME)(a b:MS):MS:=λσ=>bnd (tst c σ) λk=>if k=true then a σ else b σ
noncomputable def fQ(c:Nat)(a:MA):MS:=λσ=>bnd (a σ) λxs=>if xs.length≤1000 then rse c else stk
noncomputable def putF(f:String)(v:MV):List (String×MV)->List (String×MV)
 |[]=>[(f,v)]
 |(g,u)::r=>if g=f then(g,v)::r else(g,u)::putF f v r
noncomputable def ee(o:ME)(cs:List Nat)(f:String)(e:ME):MS:=λσ=>bnd (e σ) λv=>bnd (o σ) λx=>match x with
 |.ref n=>bnd (look n) λob=>match ob with
   |.ins c fs=>if cs.contains c=true/\fs.length<1000 then bnd (put n (.ins c (putF f v fs))) λ_=>ret (.next σ) else stk
   |_=>stk
 |_=>stk
noncomputable def ixN(n:Nat)(i:Int):Option Nat:=if 0≤i then(if i<n then some i.toNat else none) else if -(n:Int)≤i then some (i+n).toNat else none
noncomputable def iU(o i v:MV):M Unit:=match o,i with
 |.ref n,.int k=>bnd (look n) λob=>match ob with
   | .lst xs=>(match ixN xs.length k with
     |some j=>put n (.lst (xs.set j v))
     | none=>stk)
   |_=>stk
 |.ref n,.str k=>bnd (look n) λob=>match ob with
   |.dct kvs=>if kvs.length<1000 then put n (.dct (dput k v kvs)) else stk
   |_=>stk
 |_,_=>stk
noncomputable def f9(o i e:ME):MS:=λσ=>bnd (e σ) λv=>bnd (o σ) λx=>bnd (i σ) λy=>bnd (iU x y v) λ_=>ret (.next σ)
noncomputable def tT:Op2:=λx y=>match x with
 |.ref _=>oIx x y
 |_=>stk
noncomputable def ot:Op2:=λx y=>match x,y with
 |.int i,.int j=>ret (.int (i+j))
 |_,_=>stk
noncomputable def nO(f:Op2)(o i e:ME):MS:=λσ=>bnd (o σ) λx=>bnd (i σ) λy=>bnd (tT x y) λu=>bnd (e σ) λv=>bnd (f u v) λz=>bnd (iU x y z) λ_=>ret (.next σ)
noncomputable def lR(f2:Op2)(o:ME)(cs:List Nat)(f:String)(e:ME):MS:=λσ=>bnd (o σ) λx=>match x with
 |.ref n=>bnd (look n) λob=>match ob with
   | .ins c fs=>if cs.contains c=true then (match fs.lookup f with
     | some u=>bnd (e σ) λv=>bnd (f2 u v) λz=>bnd (look n) λob'=>(match ob' with
       |.ins c' fs'=>if c'=c/\fs'.length<1000 then bnd (put n (.ins c' (putF f z fs'))) λ_=>ret (.next σ) else stk
       | _=>stk)
     | none=>stk) else stk
   |_=>stk
 |_=>stk
noncomputable def iy:ME:=λ_=>new (.dct [])
noncomputable def iE(o k x:ME):ME:=λσ=>bnd (o σ) λd=>match d with
 |.ref n=>bnd (look n) λob=>match ob with
   |.dct _=>bnd (k σ) λy=>bnd (x σ) λz=>match y with
     | .str s=>bnd (look n) λob'=>(match ob' with
       |.dct kvs=>ret ((dget s kvs).getD z)
       | _=>stk)
     |_=>stk
   |_=>stk
 |_=>stk
noncomputable def dF(n d:Nat):Option Int->Nat
 |none=>d
 |some v=>if v<0 then(v+(n:Int)).toNat else min v.toNat n
noncomputable def fV{α:Type}(xs:List α)(lo hi:Option Int):List α:=(xs.drop (dF xs.length 0 lo)).take (dF xs.length xs.length hi-dF xs.length 0 lo)
noncomputable def part(e:Option ME)(σ:MSt):M (Option Int):=match e with
 |none=>ret none
 |some g=>bnd (g σ) λv=>match v with
   |.int i=>ret (some i)
   |_=>stk
noncomputable def iw(x:MV)(lo hi:Option Int):M MV:=match x with
 |.ref a=>bnd (look a) λo=>match o with
   |.lst xs=>new (.lst (fV xs lo hi))
   |_=>stk
 |.tup xs=>if dF xs.length 0 lo=0/\dF xs.length xs.length hi=xs.length then stk else ret (.tup (fV xs lo hi))
 |.str s=>if s.length≤100000 then ret (.str (PySem.Txt.slice s lo hi)) else stk
 |_=>stk
noncomputable def eSl(a:ME)(lo hi:Option ME):ME:=λσ=>bnd (a σ) λx=>bnd (part lo σ) λl=>bnd (part hi σ) λu=>iw x l u
noncomputable def zN(x v:MV):M MV:=match x with
 |.ref n=>bnd (look n) λob=>match ob with
   |.lst xs=>if xs.length<100000 then bnd (put n (.lst (xs++[v]))) λ_=>ret .non else stk
   |_=>stk
 |_=>stk
noncomputable def gN(o e:ME):ME:=λσ=>bnd (o σ) λx=>match x with
 |.ref n=>bnd (look n) λob=>match ob with
   |.lst _=>bnd (e σ) λv=>zN x v
   |_=>stk
 |_=>stk
inductive Stay where
 |l (p:Nat×List MV)|d (n:Nat) (kvs:List (Str×MV))
instance:Coe (Nat×List MV) Stay:=⟨Stay.l⟩
structure Src where
 items:List (List MV)
 stays:List Stay
def iO(h:MH):List Stay->Bool
 |[]=>true
 |.l (n,xs)::r=>decide (h[n]?=some (.lst xs))&&iO h r
 |.d n kvs::r=>decide (h[n]?=some (.frz kvs))&&iO h r
def Src.okIn(s:Src)(h:MH):Bool:=iO h s.stays
abbrev MI:=MSt->M Src
noncomputable def c9(e:ME):MI:=λσ=>bnd (e σ) λx=>match x with
 |.ref n=>bnd (look n) λo=>match o with
   |.lst xs=>ret ⟨xs.map λv=>[v],[(n,xs)]⟩
   |_=>stk
 |_=>stk
noncomputable def fU(k:Nat):List MV->Option (List (List MV))
 |[]=>some []
 | .tup ys::r=>if ys.length=k then (match fU k r with
   |some rs=>some (ys::rs)
   | none=>none) else none
 |_::_=>none
noncomputable def lM(k:Nat)(e:ME):MI:=λσ=>bnd (e σ) λx=>match x with
 |.ref n=>bnd (look n) λo=>match o with
   | .lst xs=>(match fU k xs with
     |some rs=>ret ⟨rs,[(n,xs)]⟩
     | none=>stk)
   |_=>stk
 |_=>stk
noncomputable def dM:List MV->List MV->List (List MV)
 |x::xs,y::ys=>[x,y]::dM xs ys
 |_,_=>[]
noncomputable def l7(e e':ME):MI:=λσ=>bnd (e σ) λx=>bnd (e' σ) λy=>match x,y with
 |.ref n,.ref k=>bnd (look n) λo=>bnd (look k) λo'=>match o,o' with
   |.lst xs,.lst ys=>ret ⟨dM xs ys,[(n,xs),(k,ys)]⟩
   |_,_=>stk
 |_,_=>stk
noncomputable def iX(lo:Int)(n:Nat):List (List MV):=(ci n).map λk=>[.int (lo-(k:Nat))]
noncomputable def rK(e e':ME):MI:=λσ=>bnd (e σ) λx=>bnd (e' σ) λy=>match x,y with
 |.int i,.int j=>if -1000000≤i/\i<1000000/\-1000000≤j/\j<1000000 then ret ⟨iX i (i-j).toNat,[]⟩ else stk
 |_,_=>stk
noncomputable def dE(lo:Int)(n:Nat):List (List MV):=(ci n).map λk=>[.int (lo+(k:Nat))]
noncomputable def fX(e:ME):MI:=λσ=>bnd (e σ) λx=>match x with
 |.int j=>if -(2 ^ 62)≤j/\j<2 ^ 62 then ret ⟨dE 0 j.toNat,[]⟩ else stk
 |_=>stk
noncomputable def i5(e e':ME):MI:=λσ=>bnd (e σ) λx=>bnd (e' σ) λy=>match x,y with
 |.int i,.int j=>if -(2 ^ 62)≤i/\i<2 ^ 62/\-(2 ^ 62)≤j/\j<2 ^ 62 then ret ⟨dE i (j-i).toNat,[]⟩ else stk
 |_,_=>stk
noncomputable def cj:List Nat->List MV->MSt->MSt
 |i::is,v::vs,σ=>cj is vs (σ.set i (some v))
 |_,_,σ=>σ
def dZ(s:Src)(is:List Nat)(body:MS):List (List MV)->MSt->M MF
 |[],σ=>λh=>if s.okIn h=true then .ok (.next σ) h else .stuck
 | vs::r,σ=>λh=>if s.okIn h=true then bnd (body (cj is vs σ)) (λf=>match f with
   |.next σ'=>dZ s is body r σ'
   |.cnt σ'=>dZ s is body r σ'
   |.brk σ'=>ret (.next σ')
   | .ret v=>ret (.ret v)) h else .stuck
def dC(is:List Nat)(src:MI)(body:MS):MS:=λσ=>bnd (src σ) λs=>dZ s is body s.items σ
noncomputable def kU(t:ME)(body:MS):Nat->MSt->M MF
 |0,_=>stk
 |n+1,σ=>bnd (tst t σ) λk=>if k=true then bnd (body σ) λf=>match f with
   |.next σ'=>kU t body n σ'
   |.cnt σ'=>kU t body n σ'
   |.brk σ'=>ret (.next σ')
   |.ret v=>ret (.ret v)
  else ret (.next σ)
noncomputable def qI(t:ME)(body:MS):MS:=kU t body 1000
def df(s:Src)(cond:Option ME)(elt:ME)(σ:MSt):List (List MV)->M (List MV)
 |[]=>λh=>if s.okIn h=true then .ok [] h else .stuck
 | vs::r=>λh=>if s.okIn h=true then bnd (match cond with
   |none=>ret true
   | some c=>tst c (σ++vs.map some)) (λk=>if k=true then bnd (elt (σ++vs.map some)) λv=>bnd (df s cond elt σ r) λws=>ret (v::ws) else df s cond elt σ r) h else .stuck
noncomputable def mf{α:Type}(m:M α):M α:=λh=>match m h with
 |.exc _ _=>.stuck
 |r=>r
def eZ(src:MI)(cond:Option ME)(elt:ME):ME:=λσ=>bnd (src σ) λs=>if s.items.length≤100000 then bnd (mf (df s cond elt σ s.items)) λvs=>new (.lst vs) else stk
noncomputable def fnOf(p n:Nat)(body:MS):Fn:=λvs=>if vs.length=p then bnd (body (vs.map some++bU (n-vs.length) none)) λf=>match f with
 |.next _=>ret .non
 |.ret v=>ret v
 |_=>stk
 else stk
end
end L2.Rv
namespace L2.Rv
open PySem PySem.Spec PyProof.Rows
structure Gb where
 cl:Nat->af
 K:PySem.W.Frag
 sa:af
 ns:List Int
variable {G:Gb}{m m' m1 m2:List af}{h h' h1 h2:MH}{H H' H1 H2:Hp}
mutual
def VR(G:Gb)(m:List af)(H:Hp):MV->V->Prop
 |.non,v=>v=.non
 |.bl b,v=>v=.bl b
 |.int i,v=>v=.int i
 |.str s,v=>v=.str s
 |.ref n,v=>∃a,m[n]?=some a/\v=.ref a
 |.scr ns,v=>ns=G.ns/\v=.ref G.sa
 |.tup xs,v=>∃a vs,v=.ref a/\a∉m/\H a=some (.tup vs)/\VRl G m H xs vs
 |.any,_=>True
def VRl(G:Gb)(m:List af)(H:Hp):List MV->List V->Prop
 |[],vs=>vs=[]
 |x::xs,vs=>∃y ys,vs=y::ys/\VR G m H x y/\VRl G m H xs ys
end
abbrev VRs(G:Gb)(m:List af)(H:Hp):List MV->List V->Prop:=cf (VR G m H)
theorem VRl.to:∀{xs:List MV}{vs:List V},VRl G m H xs vs->VRs G m H xs vs
 |[],vs,r=>by cases(show vs=[] from r);exact .nil
 |x::xs,vs,r=>by
   obtain⟨y,ys,e,q,t⟩:=(show ∃y ys,vs=y::ys/\VR G m H x y/\VRl G m H xs ys from r);subst e;exact .cons q (VRl.to t)
theorem VRl.of:∀{xs:List MV}{vs:List V},VRs G m H xs vs->VRl G m H xs vs
 |_,_,.nil=>rfl
 |_,_,.cons q t=>⟨_,_,rfl,q,VRl.of t⟩
def FR(G:Gb)(m:List af)(H:Hp):List (String×MV)->List (Str×V)->Prop:=cf λp q=>q.1=aQ p.1/\VR G m H p.2 q.2
def DR(G:Gb)(m:List af)(H:Hp):List (Str×MV)->List (Key×V)->Prop:=cf λp q=>q.1=Sum.inr p.1/\VR G m H p.2 q.2
def ExcΦ(a C:af)(hp:aP):Prop:=∃o vs,hp.get? a=some o/\o.cls=.ref C/\o.dict=none/\o.data=.fields vs
def OR(G:Gb)(m:List af)(H:Hp)(a:af):MO->Prop
 |.lst xs=>∃vs,VRs G m H xs vs/\H a=some (.lst vs)
 |.dct kvs=>∃ws,DR G m H kvs ws/\H a=some (.dK ws)
 |.ins c fs=>∃dx ws,FR G m H fs ws/\H a=some (.ins (G.cl c) dx ws)
 |.exn c=>H a=some (.ext (ExcΦ a (G.cl c)))
 |.frz kvs=>∃ws o,DR G m H kvs ws/\H a=some (.frz o (.dK ws))
noncomputable def iN:Str:="Book.names.<locals>.<lambda>"
def LamΦ(c:af)(hp:aP):Prop:=∃oc vs t,hp.get? c=some oc/\oc.data=.fields vs/\vs[1]?=some (.str iN t)
def tF(G:Gb)(m:List af)(H:Hp):Prop:=G.cl 996=0∨(G.cl 999∉m/\(H (G.cl 999)=some (.tbl #[]) ∨
 ∃c,c∉m/\H c=some (.ext (LamΦ c))/\H (G.cl 999)=some (.tbl #[rawInt (G.cl 998),rawInt (G.cl 997),.ref c])))
def TbX:HO->Prop
 |.tbl _=>True
 |.ext _=>True
 |_=>False
theorem tF.keep(t:tF G m H)(k:∀a u,H a=some u->a∉m->TbX u->H' a=some u/\a∉m'):tF G m' H':=by
 rcases t with t|⟨n,t⟩
 ·exact .inl t
 ·rcases t with t|⟨c,nc,ec,t⟩
  ·obtain⟨e,n'⟩:=k _ _ t n trivial;exact .inr ⟨n',.inl e⟩
  ·obtain⟨e,n'⟩:=k _ _ t n trivial;obtain⟨e2,n2⟩:=k _ _ ec nc trivial;exact .inr ⟨n',.inr ⟨c,n2,e2,e⟩⟩
structure HR(G:Gb)(m:List af)(h:MH)(H:Hp):Prop where
 len:m.length=h.length
 nd:m.Nodup
 ob:∀(n:Nat) (a:af) (o:MO),m[n]?=some a->h[n]?=some o->OR G m H a o
 scr:(∃o,H G.sa=some (.frz o (.lst (G.ns.map V.int))))∨∀H0:Hp,SqL G.K H0 G.sa (G.ns.map V.int)
 tab:tF G m H
structure Ext(m:List af)(H:Hp)(m':List af)(H':Hp):Prop where
 pre:∃e,m'=m++e
 fr:∀a o,H a=some o->a∉m->(∀ps,o≠.tbl ps)->H' a=some o/\a∉m'
 fz:∀a o u,H a=some (.frz o u)->H' a=some (.frz o u)
theorem Ext.refl:Ext m H m H:=⟨⟨[],by simp⟩,λ_ _ e n _=>⟨e,n⟩,λ_ _ _ e=>e⟩
theorem Ext.trans(x:Ext m H m1 H1)(y:Ext m1 H1 m2 H2):Ext m H m2 H2:=by
 obtain⟨e,rfl⟩:=x.pre;obtain⟨f,rfl⟩:=y.pre;exact⟨⟨e++f,by simp⟩,λa o q n nt=>let ⟨q1,n1⟩:=x.fr a o q n nt;y.fr a o q1 n1 nt,λa o u q=>y.fz a o u (x.fz a o u q)⟩
theorem Ext.get(x:Ext m H m' H'){n:Nat}{a:af}(e:m[n]?=some a):m'[n]?=some a:=by
 obtain⟨f,rfl⟩:=x.pre;have hn:n<m.length:=(bN.mp e).1;rw[gB hn];exact e
structure Mn(m:List af)(H:Hp)(m':List af)(H':Hp):Prop where
 get:∀(n:Nat) (a:af),m[n]?=some a->m'[n]?=some a
 tup:∀a vs,H a=some (.tup vs)->a∉m->H' a=some (.tup vs)/\a∉m'
theorem Ext.mn(x:Ext m H m' H'):Mn m H m' H':=⟨λ_ _=>x.get,λa vs e n=>x.fr a _ e n λ_ z=>nomatch z⟩
mutual
theorem VR.mono(x:Mn m H m' H'):∀{v:MV}{v':V},VR G m H v v'->VR G m' H' v v'
 |.ref n,v',r=>by
   obtain⟨a,e,q⟩:=(show ∃a,m[n]?=some a/\v'=.ref a from r);exact⟨a,x.get n a e,q⟩
 |.tup xs,v',r=>by
   obtain⟨a,vs,q,e,z,t⟩:=(show ∃a vs,v'=.ref a/\a∉m/\H a=some (.tup vs)/\VRl G m H xs vs from r);obtain⟨z',e'⟩:=x.tup a vs z e;exact⟨a,vs,q,e',z',VRl.mono x t⟩
 |.non,_,r=>r
 |.bl _,_,r=>r
 |.int _,_,r=>r
 |.str _,_,r=>r
 |.scr _,_,r=>r
 |.any,_,r=>trivial
theorem VRl.mono(x:Mn m H m' H'):∀{xs:List MV}{vs:List V},VRl G m H xs vs->VRl G m' H' xs vs
 |[],_,r=>r
 |y::ys,vs,r=>by
   obtain⟨z,zs,e,q,t⟩:=(show ∃z zs,vs=z::zs/\VR G m H y z/\VRl G m H ys zs from r);exact⟨z,zs,e,VR.mono x q,VRl.mono x t⟩
end
theorem Ext.vr{v:MV}{v':V}(x:Ext m H m' H')(r:VR G m H v v'):VR G m' H' v v':=VR.mono x.mn r
theorem VRs.mono{xs:List MV}{vs:List V}(x:Mn m H m' H')(r:VRs G m H xs vs):VRs G m' H' xs vs:=Paired.imp' (λ_ _ q=>VR.mono x q) r
theorem Ext.vrs{xs:List MV}{vs:List V}(x:Ext m H m' H')(r:VRs G m H xs vs):VRs G m' H' xs vs:=VRs.mono x.mn r
theorem OR.mono{a:af}{o:MO}(x:Mn m H m' H')(e:H' a=H a)(r:OR G m H a o):OR G m' H' a o:=by
 cases o with
 |lst xs=>obtain⟨vs,q,z⟩:=r;exact⟨vs,VRs.mono x q,e.trans z⟩
 |dct kvs=>obtain⟨ws,q,z⟩:=r;exact⟨ws,Paired.imp' (λ_ _ p=>⟨p.1,VR.mono x p.2⟩) q,e.trans z⟩
 |ins c fs=>obtain⟨dx,ws,q,z⟩:=r;exact⟨dx,ws,Paired.imp' (λ_ _ p=>⟨p.1,VR.mono x p.2⟩) q,e.trans z⟩
 |exn c=>exact e.trans r
 |frz kvs=>obtain⟨ws,o,q,z⟩:=r;exact⟨ws,o,Paired.imp' (λ_ _ p=>⟨p.1,VR.mono x p.2⟩) q,e.trans z⟩
theorem OR.some{a:af}{o:MO}(r:OR G m H a o):∃u,H a=some u:=by
 cases o with
 |lst xs=>obtain⟨vs,q,z⟩:=r;exact⟨_,z⟩
 |dct kvs=>obtain⟨ws,q,z⟩:=r;exact⟨_,z⟩
 |ins c fs=>obtain⟨dx,ws,q,z⟩:=r;exact⟨_,z⟩
 |exn c=>exact⟨_,r⟩
 |frz kvs=>obtain⟨_,_,_,z⟩:=r;exact⟨_,z⟩
theorem HR.get(R:HR G m h H){n:Nat}{a:af}(e:m[n]?=some a):∃o,h[n]?=some o/\OR G m H a o:=by
 have hn:n<m.length:=(bN.mp e).1;have hn':n<h.length:=by rw[←R.len];exact hn
 exact⟨h[n],by simp[hn'],R.ob n a _ e (by simp[hn'])⟩
theorem HR.mem(R:HR G m h H){a:af}(e:a∈m):∃u,H a=some u:=by
 obtain⟨n,hn⟩:=tu.mp e;obtain⟨o,_,q⟩:=R.get hn;exact OR.some q
theorem HR.fresh(R:HR G m h H){p:af}(e:H p=none):p∉m:=λz=>by
 obtain⟨u,q⟩:=R.mem z;rw[e]at q;cases q
theorem zw{α:Type}{l:List α}{x:α}{n:Nat}{a:α}(e:l[n]?=some a):(l++[x])[n]?=some a:=by
 rw[gB (bN.mp e).1];exact e
theorem mJ{α:Type}{l:List α}{x:α}{n:Nat}{a:α}(e:(l++[x])[n]?=some a):l[n]?=some a∨(n=l.length/\a=x):=by
 by_cases hn:n<l.length
 ·rw[gB hn]at e;exact .inl e
 ·rw[ma (by lia)]at e;have:n-l.length=0:=by
   have:=(bN.mp e).1;simp at this;lia
  rw[this]at e;simp at e;exact .inr ⟨by lia,e.symm⟩
theorem HR.new(R:HR G m h H){p:af}{o:MO}{u:HO}(e:H p=none)(ro:OR G (m++[p]) (upd H p u) p o):HR G (m++[p]) (h++[o]) (upd H p u):=by
 have np:=R.fresh e;refine⟨by simp[R.len],?_,λn a ob ea eo=>?_,?_,R.tab.keep λb u z nb _=>⟨by rw[ba (dY z e)];exact z,by simp[nb];exact dY z e⟩⟩
 ·rw[hG];exact⟨R.nd,by simp,λa ha b hb=>by simp at hb;subst hb;intro z;subst z;exact np ha⟩
 ·rcases mJ ea with ea|⟨rfl,rfl⟩
  ·have hne:a≠p:=λz=>np (z▸de ea);have eo':h[n]?=some ob:=by
    rcases mJ eo with eo|⟨q,_⟩
    ·exact eo
    ·have:=(bN.mp ea).1;rw[R.len]at this;lia
   exact OR.mono ⟨λ_ _=>zw,λb vs z nb=>⟨by rw[ba (dY z e)];exact z,by simp[nb];exact dY z e⟩⟩ (ba hne) (R.ob n a ob ea eo')
  ·have:ob=o:=by
    rcases mJ eo with eo|⟨_,q⟩
    ·have:=(bN.mp eo).1;rw[←R.len]at this;lia
    ·exact q
   subst this;exact ro
 ·rcases R.scr with⟨o',q⟩|q
  ·exact .inl ⟨o',by rw[ba (dY q e)];exact q⟩
  ·exact .inr q
theorem Ext.new(R:HR G m h H){p:af}{u:HO}(e:H p=none):Ext m H (m++[p]) (upd H p u):=
 ⟨⟨[p],rfl⟩,λa o q n _=>⟨by rw[ba (dY q e)];exact q,by simp[n];exact dY q e⟩,λa o u q=>by rw[ba (dY q e)];exact q⟩
theorem tL{α:Type}{l:List α}(nd:l.Nodup){i j:Nat}{a:α}(e:l[i]?=some a)(f:l[j]?=some a):i=j:=by
 obtain⟨hi,ei⟩:=bN.mp e;obtain⟨hj,ej⟩:=bN.mp f;have p:=nL.mp nd;rcases Nat.lt_trichotomy i j with z|z|z
 ·exact absurd (ei.trans ej.symm) (p i j hi hj z)
 ·exact z
 ·exact absurd (ej.trans ei.symm) (p j i hj hi z)
theorem HR.upd(R:HR G m h H){n:Nat}{a:af}{o:MO}{u:HO}(ea:m[n]?=some a)(nz:∀o' ys,H a≠some (.frz o' (.lst ys)))(ro:OR G m (L2.upd H a u) a o):HR G m (h.set n o) (L2.upd H a u):=by
 refine⟨by simp[R.len],R.nd,λk b ob eb eo=>?_,?_,R.tab.keep λb u z nb _=>⟨by rw[ba (show b≠a from λy=>nb (by rw[y];exact de ea))];exact z,nb⟩⟩
 ·by_cases hk:k=n
  ·subst hk;rw[ea]at eb;cases eb;rw[jU (by have:=(bN.mp ea).1;rw[←R.len];exact this)]at eo
   cases eo;exact ro
  ·rw[kJ (Ne.symm hk)]at eo;have hne:b≠a:=λz=>by
    subst z;exact hk (tL R.nd eb ea)
   exact OR.mono ⟨λ_ _ q=>q,λc vs z nc=>⟨by rw[ba (show c≠a from λy=>nc (by rw[y];exact de ea))];exact z,nc⟩⟩ (ba hne) (R.ob k b ob eb eo)
 ·rcases R.scr with⟨o',q⟩|q
  ·exact .inl ⟨o',by rw[ba (λz=>nz o' _ (z▸q))];exact q⟩
  ·exact .inr q
theorem Ext.upd{n:Nat}{a:af}{u v:HO}(ea:m[n]?=some a)(z:H a=some v)(nf:∀o w,v≠.frz o w:=by intro _ _ q;cases q):Ext m H m (L2.upd H a u):=
 ⟨⟨[],by simp⟩,λb o q nb _=>⟨by rw[ba (show b≠a from λz=>nb (by rw[z];exact de ea))];exact q,nb⟩,λb o w q=>by rw[ba (show b≠a from λy=>nf o w (Option.some.inj (z.symm.trans (y▸q))))];exact q⟩
theorem Ext.side{q:af}{u:HO}(e:H q=none):Ext m H m (L2.upd H q u):=⟨⟨[],by simp⟩,λa o z n _=>⟨by rw[ba (dY z e)];exact z,n⟩,λa o u z=>by rw[ba (dY z e)];exact z⟩
theorem HR.side{q:af}{u:HO}(R:HR G m h H)(e:H q=none):HR G m h (L2.upd H q u):=
 ⟨R.len,R.nd,λn a ob ea eo=>OR.mono (Ext.side e).mn (ba (show a≠q from λz=>R.fresh e (by rw [←z];exact de ea))) (R.ob n a ob ea eo),by
  rcases R.scr with⟨o',z⟩|z
  ·exact .inl ⟨o',by rw[ba (dY z e)];exact z⟩
  ·exact .inr z,R.tab.keep λb u z nb _=>⟨by rw [ba (dY z e)];exact z,nb⟩⟩
theorem Mn.sideSet{q:af}{u:HO}(nt:∀ys,H q≠some (.tup ys)):Mn m H m (L2.upd H q u):=⟨λ_ _ e=>e,λa vs z n=>⟨by rw[ba (show a≠q from λy=>nt vs (by rw[←y];exact z))];exact z,n⟩⟩
theorem HR.sideSet{q:af}{u:HO}(R:HR G m h H)(nq:q∉m)(nt:∀ys,H q≠some (.tup ys))(nz:∀o' ys,H q≠some (.frz o' ys))(nx:∀v,H q=some v->¬TbX v):HR G m h (L2.upd H q u):=
 ⟨R.len,R.nd,λn a ob ea eo=>OR.mono (Mn.sideSet nt) (ba (show a≠q from λz=>nq (by rw [←z];exact de ea))) (R.ob n a ob ea eo),by
  rcases R.scr with⟨o',z⟩|z
  ·exact .inl ⟨o',by rw[ba (show G.sa≠q from λy=>nz o' _ (by rw[←y];exact z))];exact z⟩
  ·exact .inr z,R.tab.keep λb u z nb tx=>⟨by rw [ba (show b≠q from λy=>nx u (by rw [←y];exact z) tx)];exact z,nb⟩⟩
structure SR(G:Gb)(m:List af)(H:Hp)(σ:MSt)(σ':St):Prop where
 len:σ.length=σ'.length
 sl:∀(i:Nat) (v:MV),σ[i]?=some (some v)->∃v',σ'[i]?=some (some v')/\VR G m H v v'
theorem SR.mono{σ:MSt}{σ':St}(x:Ext m H m' H')(S:SR G m H σ σ'):SR G m' H' σ σ':=⟨S.len,λi v e=>let ⟨v',q,r⟩:=S.sl i v e;⟨v',q,x.vr r⟩⟩
theorem SR.mn{σ:MSt}{σ':St}(x:Mn m H m' H')(S:SR G m H σ σ'):SR G m' H' σ σ':=⟨S.len,λi v e=>let ⟨v',q,r⟩:=S.sl i v e;⟨v',q,VR.mono x r⟩⟩
theorem SR.set{σ:MSt}{σ':St}(S:SR G m H σ σ')(i:Nat){v:MV}{v':V}(r:VR G m H v v'):SR G m H (σ.set i (some v)) (σ'.set i (some v')):=by
 refine⟨by simp[S.len],λj w e=>?_⟩;by_cases hj:i=j
 ·subst hj;have hl:i<σ.length:=by
   have:=(bN.mp e).1;simpa using this
  rw[jU hl]at e;cases e;exact⟨v',by rw[jU (by rw[←S.len];exact hl)],r⟩
 ·rw[kJ hj]at e ⊢;exact S.sl j w e
def lF(C a:af)(ok:af->Prop)(hp:aP):Prop:=
 ∃oe vs,hp.get? a=some oe/\oe.cls=.ref C/\oe.dict=none/\oe.data=.fields vs/\1<vs.size/\ok a /\
  (vs[1]?=some .none∨∃T oT ts,vs[1]?=some (.ref T)/\T≠a/\hp.get? T=some oT/\oT.data=.fields ts/\3<ts.size/\ok T)
structure Fp(X:Cx)(pins:List (af×aE))(H:Hp)(b:af):Prop where
 un:H b=none
 loc:b≠X.env.locals
 fs:b∉X.fs
 new:b∈X.ex∨X.s₀.heap.get? b=none
 ce:∀x c,X.env.cells.lookup x=some c->c≠b
 pin:∀p∈X.pn++pins,p.1≠b
abbrev Exc(X:Cx)(pins:List (af×aE))(H:Hp)(C a:af)(s:ak):Prop:=lF C a (Fp X pins H) s.heap
theorem lF.imp{C a:af}{p q:af->Prop}{hp:aP}(f:∀b,p b->q b)(x:lF C a p hp):lF C a q hp:=by
 obtain⟨oe,vs,a1,a2,a3,a4,a5,a6,a7⟩:=x;refine⟨oe,vs,a1,a2,a3,a4,a5,f _ a6,?_⟩;rcases a7 with a7|⟨T,oT,ts,b1,b2,b3,b4,b5,b6⟩
 ·exact .inl a7
 ·exact .inr ⟨T,oT,ts,b1,b2,b3,b4,b5,f _ b6⟩
def XP(G:Gb)(X:Cx)(E:ai->ak->Prop)(EX:St->Prop)(m:List af)(H:Hp)(c:Nat)(h':MH):Prop:=
 ∀(pins:List (af×aE)) (σ':St) (m':List af) (H':Hp) (a:af) (s':ak),EX σ'->Ext m H m' H'->HR G m' h' H'->Inv X pins σ' H' s'->Exc X pins H' (G.cl c) a s'->E (.ref a) s'
def Post{α:Type}(G:Gb)(X:Cx)(E:ai->ak->Prop)(EX:St->Prop)(m:List af)(H:Hp)(r:Res α)(Q:α->List af->MH->Hp->Prop):Prop:=
 match r with
 |.ok v h'=>∀m' H',Ext m H m' H'->HR G m' h' H'->Q v m' h' H'
 |.exc c h'=>XP G X E EX m H c h'
 |.stuck=>False
variable {X:Cx}{E:ai->ak->Prop}{EX:St->Prop}
theorem Post.ext{α:Type}{r:Res α}{Q:α->List af->MH->Hp->Prop}(x:Ext m H m1 H1)(P:Post G X E EX m H r Q):Post G X E EX m1 H1 r Q:=by
 cases r with
 |ok v h'=>exact λm' H' y R=>P m' H' (x.trans y) R
 |exc c h'=>exact λpins σ' m' H' a s' ex y R I q=>P pins σ' m' H' a s' ex (x.trans y) R I q
 |stuck=>exact P
theorem Post.bind{α β:Type}{a:M α}{k:α->M β}{Q:β->List af->MH->Hp->Prop}(P:Post G X E EX m H (bnd a k h) Q):Post G X E EX m H (a h) λv m1 h1 H1=>Post G X E EX m1 H1 (k v h1) Q:=by
 unfold bnd at P;cases e:a h with
 |ok v h1=>
   rw[e]at P;exact λm' H' y _=>P.ext y
 |exc c h1=>rw[e]at P;exact P
 |stuck=>rw[e]at P;exact P
theorem Post.mono{α:Type}{r:Res α}{Q Q':α->List af->MH->Hp->Prop}(P:Post G X E EX m H r Q)(f:∀v m' h' H',Ext m H m' H'->HR G m' h' H'->Q v m' h' H'->Q' v m' h' H'):Post G X E EX m H r Q':=by
 cases r with
 |ok v h'=>exact λm' H' y R=>f _ _ _ _ y R (P m' H' y R)
 |exc c h'=>exact P
 |stuck=>exact P
theorem Post.here{α:Type}{v:α}{Q:α->List af->MH->Hp->Prop}(R:HR G m h H)(P:Post G X E EX m H (.ok v h) Q):Q v m h H:=P m H .refl R
def TGe(G:Gb)(X:Cx)(E:ai->ak->Prop)(EX:St->Prop)(g:ME):TE:=λσ' H Q=>
 ∃m h σ,EX σ'/\SR G m H σ σ'/\HR G m h H/\Post G X E EX m H (g σ h) λv m' _ H'=>∀v',VR G m' H' v v'->Q v' H'
def TGt(G:Gb)(X:Cx)(E:ai->ak->Prop)(EX:St->Prop)(g:ME):TT:=λσ' H Q=>
 ∃m h σ,EX σ'/\SR G m H σ σ'/\HR G m h H/\Post G X E EX m H (tst g σ h) λb _ _ H'=>Q b H'
def TGa(G:Gb)(X:Cx)(E:ai->ak->Prop)(EX:St->Prop)(g:MA):TA:=λσ' H Q=>
 ∃m h σ,EX σ'/\SR G m H σ σ'/\HR G m h H/\Post G X E EX m H (g σ h) λvs m' _ H'=>∀vs',VRs G m' H' vs vs'->Q vs' H'
def TGs(G:Gb)(X:Cx)(E:ai->ak->Prop)(EX:St->Prop)(g:MS):TS:=λD σ' H=>
 ∃m h σ,EX σ'/\SR G m H σ σ'/\HR G m h H/\Post G X E EX m H (g σ h) λf m' _ H'=>match f with
  |.next σ1=>∀σ1',SR G m' H' σ1 σ1'->D.nx σ1' H'
  |.brk σ1=>∀σ1',SR G m' H' σ1 σ1'->D.bk σ1' H'
  |.cnt σ1=>∀σ1',SR G m' H' σ1 σ1'->D.ct σ1' H'
  |.ret v=>∀v',VR G m' H' v v'->D.rt v' H'
end L2.Rv
namespace L2.Rv
open PySem PySem.Spec PyProof.Rows
variable {G:Gb}{m m' m1 m2:List af}{h h' h1 h2:MH}{H H' H1 H2:Hp}{X:Cx}{E:ai->ak->Prop}{EX:St->Prop}{σ:MSt}{σ':St}
def GE(G:Gb)(X:Cx)(e:aw)(g:ME):Prop:=∀E EX,PE (X.wish E) e (TGe G X E EX g)
def GT(G:Gb)(X:Cx)(e:aw)(g:ME):Prop:=∀E EX,PT (X.wish E) e (TGt G X E EX g)
def GW(G:Gb)(X:Cx)(e:aw)(g:ME):Prop:=∀E EX,PW (X.wish E) e (TGt G X E EX g)
def GA(G:Gb)(X:Cx)(es:List aw)(g:MA):Prop:=∀E EX,PA (X.wish E) es (TGa G X E EX g)
def GS(G:Gb)(EX:St->Prop)(X:Cx)(st:aT)(g:MS):Prop:=∀E,PassesOwn (aD X.prog X.w) X.A X.env E->PS (X.wish E) st (TGs G X E EX g)
def GSs(G:Gb)(EX:St->Prop)(X:Cx)(st:List aT)(g:MS):Prop:=∀E,PassesOwn (aD X.prog X.w) X.A X.env E->PSs (X.wish E) st (TGs G X E EX g)
abbrev ET:St->Prop:=λ_=>True
theorem eB{e:aw}{t t':TE}(p:PE X e t)(f:∀σ H Q,t' σ H Q->t σ H Q):PE X e t':=λpins s σ H Q I hw=>p pins s σ H Q I (f σ H Q hw)
theorem oF{e:aw}{t t':TT}(p:PT X e t)(f:∀σ H Q,t' σ H Q->t σ H Q):PT X e t':=λpins s σ H Q I hw=>p pins s σ H Q I (f σ H Q hw)
theorem Gu{e:aw}{t t':TT}(p:PW X e t)(f:∀σ H Q,t' σ H Q->t σ H Q):PW X e t':=λwh pins s σ H Q I hw=>p wh pins s σ H Q I (f σ H Q hw)
theorem Bk{e:List aw}{t t':TA}(p:PA X e t)(f:∀σ H Q,t' σ H Q->t σ H Q):PA X e t':=λpos pins s σ H Q I hw=>p pos pins s σ H Q I (f σ H Q hw)
theorem gI{e:aT}{t t':TS}(p:PS X e t)(f:∀D σ H,t' D σ H->t D σ H):PS X e t':=λpins s σ H D I hw=>p pins s σ H D I (f D σ H hw)
theorem Ax{e:List aT}{t t':TS}(p:PSs X e t)(f:∀D σ H,t' D σ H->t D σ H):PSs X e t':=λpins s σ H D I hw=>p pins s σ H D I (f D σ H hw)
theorem sub{ga:ME}{β:Type}{k:MV->M β}{Q:β->List af->MH->Hp->Prop}(ex:EX σ')(S:SR G m H σ σ')(R:HR G m h H)(P:Post G X E EX m H (bnd (ga σ) k h) Q){Rr:V->Hp->Prop}
  (hk:∀v m1 h1 H1 v',Ext m H m1 H1->HR G m1 h1 H1->VR G m1 H1 v v'->Post G X E EX m1 H1 (k v h1) Q->Rr v' H1):TGe G X E EX ga σ' H Rr:=
 ⟨m,h,σ,ex,S,R,P.bind.mono λv m1 h1 H1 x R1 P1 v' r=>hk v m1 h1 H1 v' x R1 r P1⟩
theorem kj{ga:MA}{β:Type}{k:List MV->M β}{Q:β->List af->MH->Hp->Prop}(ex:EX σ')(S:SR G m H σ σ')(R:HR G m h H)(P:Post G X E EX m H (bnd (ga σ) k h) Q){Rr:List V->Hp->Prop}
  (hk:∀v m1 h1 H1 v',Ext m H m1 H1->HR G m1 h1 H1->VRs G m1 H1 v v'->Post G X E EX m1 H1 (k v h1) Q->Rr v' H1):TGa G X E EX ga σ' H Rr:=
 ⟨m,h,σ,ex,S,R,P.bind.mono λv m1 h1 H1 x R1 P1 v' r=>hk v m1 h1 H1 v' x R1 r P1⟩
theorem xP{ga:ME}{β:Type}{k:Bool->M β}{Q:β->List af->MH->Hp->Prop}(ex:EX σ')(S:SR G m H σ σ')(R:HR G m h H)(P:Post G X E EX m H (bnd (tst ga σ) k h) Q){Rr:Bool->Hp->Prop}
  (hk:∀b m1 h1 H1,Ext m H m1 H1->HR G m1 h1 H1->Post G X E EX m1 H1 (k b h1) Q->Rr b H1):TGe G X E EX ga σ' H λx H1=>∃c,x=.bl c/\Rr c H1:=by
 refine⟨m,h,σ,ex,S,R,(Post.bind (a:=ga σ) (k:=asB) P.bind).mono λv m1 h1 H1 x R1 P1 v' r=>?_⟩;cases v with
 |bl b=>
   cases(show v'=V.bl b from r);exact⟨b,rfl,hk b m1 h1 H1 x R1 (Post.here R1 P1)⟩
 |_=>exact P1.elim
theorem sk{ga:ME}{β:Type}{k:Bool->M β}{Q:β->List af->MH->Hp->Prop}(ex:EX σ')(S:SR G m H σ σ')(R:HR G m h H)(P:Post G X E EX m H (bnd (tst ga σ) k h) Q){Rr:Bool->Hp->Prop}
  (hk:∀b m1 h1 H1,Ext m H m1 H1->HR G m1 h1 H1->Post G X E EX m1 H1 (k b h1) Q->Rr b H1):TGt G X E EX ga σ' H Rr:=
 ⟨m,h,σ,ex,S,R,P.bind.mono λb m1 h1 H1 x R1 P1=>hk b m1 h1 H1 x R1 P1⟩
theorem rX{ga:ME}{Rr:Bool->Hp->Prop}(t:TGt G X E EX ga σ' H Rr):TGe G X E EX ga σ' H λx H1=>∃c,x=.bl c/\Rr c H1:=by
 obtain⟨m,h,σ,ex,S,R,P⟩:=t;refine⟨m,h,σ,ex,S,R,(Post.bind (a:=ga σ) (k:=asB) P).mono λv m1 h1 H1 x R1 P1 v' r=>?_⟩;cases v with
 |bl b=>
   cases(show v'=V.bl b from r);exact⟨b,rfl,Post.here R1 P1⟩
 |_=>exact P1.elim
theorem ah(i:Nat){x:Str}{pos:Pos}(hN:X.N[i]?=some x:=by rfl)(hv:Vis X.env.scope x:=by first|exact Or.inl rfl|exact Or.inr (Or.inl rfl)|exact Or.inr (Or.inr rfl))(hd:(x == ("__debug__":Str))=false:=by decide)
  (hcd:(x == ("__classdict__":Str))=false:=by decide):GE G X (.Name x pos) (ae i):=λE EX=>eB (C5 (X:=X.wish E) hN hv hd hcd) λσ' H Q e0=>b8 e0 λm h σ ex S R P=>by
 unfold ae at P;cases e:σ[i]? with
 |none=>simp only[e]at P;exact P.elim
 |some u=>cases u with
   |none=>simp only[e]at P;exact P.elim
   |some v=>
     simp only[e]at P;obtain⟨v',q,r⟩:=S.sl i v e;exact⟨v',q,Post.here R P v' r⟩
theorem oj{e:aw}{v:MV}{v':V}(p:∀E,PE (X.wish E) e (tC v'))(r:∀m H,VR G m H v v'):GE G X e (eC v):=λE EX=>eB (p E) λσ' H Q ⟨m,h,σ,ex,S,R,P⟩=>Post.here R P v' (r m H)
theorem ge_int{i j pos}:GE G X (.Constant (.int i) j pos) (eC (.int i)):=oj (λ_=>yo) λ_ _=>rfl
theorem gO{i j pos}:GE G X (.Constant (.bool i) j pos) (eC (.bl i)):=oj (λ_=>HK) λ_ _=>rfl
theorem Iu{j pos}:GE G X (.Constant .none j pos) (eC .non):=oj (λ_=>uo) λ_ _=>rfl
theorem gW{x j pos}:GE G X (.Constant (.str x) j pos) (eC (.str x)):=oj (λ_=>wW) λ_ _=>rfl
theorem lQ{x:Str}{i:Int}{u:ai}{pos:Pos}(hg:Gl X x)(hm:X.mg x=some u)(r:aU (.int i) u)(hd:(x == ("__debug__":Str))=false:=by decide):GE G X (.Name x pos) (eC (.int i)):=
 oj (λE=>Jg (X:=X.wish E) hg hm r hd) λ_ _=>rfl
def VO(G:Gb)(f:Op2)(r:R2):Prop:=∀(X:Cx) (E:ai->ak->Prop) (EX:St->Prop) (m:List af) (h:MH) (H:Hp) (x y:MV) (x' y':V) (Q:VK),HR G m h H->VR G m H x x'->VR G m H y y' ->
 Post G X E EX m H (f x y h) (λv m' _ H'=>∀v',VR G m' H' v v'->Q v' H')->r x' y' H Q
section
variable {a b:aw}{ga gb:ME}{pos:Pos}{f:Op2}{r:R2}
theorem opG{ta:TE->TE->TE}(vo:VO G f r){Q:VK}(t:TGe G X E EX (aj f ga gb) σ' H Q):tOp r (TGe G X E EX ga) (TGe G X E EX gb) σ' H Q:=by
 obtain⟨m,h,σ,ex,S,R,P⟩:=t;exact sub ex S R P λv m1 h1 H1 v' x1 R1 r1 P1=>sub ex (S.mono x1) R1 P1 λw m2 h2 H2 w' x2 R2 r2 P2=>vo _ _ _ _ _ _ _ _ _ _ _ R2 (x2.vr r1) r2 P2
theorem aI{op:Operator}(ho:∀E,OpR (X.wish E) (binaryOp op) r)(vo:VO G f r)(ha:GE G X a ga)(hb:GE G X b gb):GE G X (.BinOp a op b pos) (aj f ga gb):=λE EX=>
 eB (HU (ho E) (ha E EX) (hb E EX)) λ_ _ _ t=>opG (ta:=λa _=>a) vo t
theorem Ia{op:CmpOp}(ho:∀E,OpR (X.wish E) (d4 op) r)(vo:VO G f r)(ha:GE G X a ga)(hb:GE G X b gb)(hm:behindInMarks op b=false):GE G X (.Compare a [op] [b] pos) (aj f ga gb):=λE EX=>
 eB (CA (ho E) (ha E EX) (hb E EX) hm) λ_ _ _ t=>opG (ta:=λa _=>a) vo t
theorem bZ{op:CmpOp}(ho:∀E,OpR (X.wish E) (d4 op) r)(vo:VO G f r)(ha:GE G X a ga)(hb:GE G X b gb)(hm:behindInMarks op b=false):GT G X (.Compare a [op] [b] pos) (aj f ga gb):=λE EX=>
 oF (uU (ho E) (ha E EX) (hb E EX) hm) λ_ _ _ t=>opG (ta:=λa _=>a) vo (rX t)
end
theorem VR.non_iff{v:MV}{v':V}(na:v≠.any)(r:VR G m H v v'):decide (v'=.non)=iW v:=by
 cases v with
 |ref n=>obtain⟨a,_,q⟩:=r;subst q;simp[iW]
 |scr n=>obtain⟨_,q⟩:=r;subst q;simp[iW]
 |tup n=>obtain⟨a,vs,q,_⟩:=r;subst q;simp[iW]
 |non=>cases(show v'=V.non from r);simp[iW]
 |bl b=>cases(show v'=V.bl b from r);simp[iW]
 |int b=>cases(show v'=V.int b from r);simp[iW]
 |str b=>cases(show v'=V.str b from r);simp[iW]
 |any=>exact absurd rfl na
section
variable {a:aw}{ga:ME}{pos pos':Pos}{j:Nat}
theorem isG{Q:VK}(t:TGe G X E EX (eUn sT ga) σ' H Q):tOp (λx y H Q=>y=.non/\Q (.bl (decide (x=.non))) H) (TGe G X E EX ga) (tC .non) σ' H Q:=by
 obtain ⟨m,h,σ,ex,S,R,P⟩:=t;exact sub ex S R P λv m1 h1 H1 v' x1 R1 r1 P1=>⟨rfl,by
  by_cases na:v=.any
  ·subst na;exact P1.elim
  ·rw [r1.non_iff na];cases v <;> first | exact Post.here R1 P1 _ rfl | exact absurd rfl na⟩
theorem Jc{Q:VK}(t:TGe G X E EX (eUn kY ga) σ' H Q):tOp (λx y H Q=>y=.non/\Q (.bl (!decide (x=.non))) H) (TGe G X E EX ga) (tC .non) σ' H Q:=by
 obtain ⟨m,h,σ,ex,S,R,P⟩:=t;exact sub ex S R P λv m1 h1 H1 v' x1 R1 r1 P1=>⟨rfl,by
  by_cases na:v=.any
  ·subst na;exact P1.elim
  ·rw [r1.non_iff na];cases v <;> first | exact Post.here R1 P1 _ rfl | exact absurd rfl na⟩
theorem Ds(ha:GE G X a ga):GT G X (.Compare a [.Is] [.Constant .none j pos'] pos) (eUn sT ga):=λE EX=>oF (uU IF (ha E EX) uo (cu _)) λ_ _ _ t=>isG (rX t)
theorem vI(ha:GE G X a ga):GT G X (.Compare a [.IsNot] [.Constant .none j pos'] pos) (eUn kY ga):=λE EX=>oF (uU CV (ha E EX) uo (cu _)) λ_ _ _ t=>Jc (rX t)
theorem vJ(ha:GE G X a ga):GE G X (.UnaryOp .USub a pos) (eUn oI ga):=λE EX=>eB (yP zE (ha E EX)) λσ' H Q e0=>b8 e0 λm h σ ex S R P=>
 sub ex S R P λv m1 h1 H1 v' x1 R1 r1 P1=>by
  cases v with
  |int i=>cases(show v'=V.int i from r1);exact⟨i,rfl,Post.here R1 P1 _ rfl⟩
  |_=>exact P1.elim
end
section
variable {a b c:aw}{ga gb gc:ME}{pos:Pos}{rest:List aw}
theorem iZ(ha:GE G X a ga)(he:∀whole,isTrue a X.env whole=(do let v ←whole;standAt a.pos;holding [v] (truthy v)):=by intro _;rfl):GT G X a ga:=λE EX=>
 oF (GQ (X:=X.wish E) (ha E EX) he) λσ' H Q t=>rX t
theorem GW.gt(h:GW G X a ga):GT G X a ga:=λE EX=>(h E EX).pt
theorem gg(op:BoolOp)(ha:GT G X a ga):GW G X (.BoolOp op [a] pos) ga:=λE EX=>by
 cases op with
 |And=>exact HI (ha E EX)
 |Or=>exact E7 (ha E EX)
theorem kH{α β γ:Type}(a:M α)(f:α->M β)(g:β->M γ):bnd (bnd a f) g=bnd a λx=>bnd (f x) g:=by
 funext h;unfold bnd;cases a h <;> rfl
theorem Cu:tst (eOr ga gb) σ=bnd (tst ga σ) λc=>if c=true then ret true else tst gb σ:=by
 show bnd (bnd (tst ga σ) _) asB=_;rw[kH];congr 1;funext c;cases c <;> rfl
theorem FE:tst (fH ga) σ=bnd (tst ga σ) λc=>ret (!c):=by
 show bnd (bnd (tst ga σ) _) asB=_;rw[kH];rfl
theorem fh(ha:GT G X a ga)(hb:GW G X (.BoolOp .Or (b::rest) pos) gb):GW G X (.BoolOp .Or (a::b::rest) pos) (eOr ga gb):=λE EX=>
 Gu (FT (ha E EX) (hb E EX)) λσ' H Q e0=>b8 e0 λm h σ ex S R P=>by
  rw[Cu]at P;refine sk ex S R P λk m1 h1 H1 x1 R1 P1=>?_;cases k with
  |false=>exact⟨m1,h1,σ,ex,S.mono x1,R1,P1⟩
  |true=>exact Post.here R1 P1
theorem i8(ha:GT G X a ga):GT G X (.UnaryOp .Not a pos) (fH ga):=λE EX=>
 oF (Ea (ha E EX)) λσ' H Q e0=>b8 e0 λm h σ ex S R P=>by
  rw[FE]at P;exact sk ex S R P λk m1 h1 H1 x1 R1 P1=>Post.here R1 P1
theorem Bh{op:BoolOp}(ha:GE G X a ga):GE G X (.BoolOp op [a] pos) ga:=λE EX=>Gk (ha E EX)
theorem zA(ha:GE G X a ga)(hb:GE G X (.BoolOp .And (b::rest) pos) gb):GE G X (.BoolOp .And (a::b::rest) pos) (mE ga gb):=λE EX=>
 eB (Hv (ha E EX) (hb E EX)) λσ' H Q e0=>b8 e0 λm h σ ex S R P=>xP ex S R P λk m1 h1 H1 x1 R1 P1=>by
  cases k with
  |true=>exact⟨m1,h1,σ,ex,S.mono x1,R1,P1⟩
  |false=>exact Post.here R1 P1 _ rfl
theorem HH(ha:GE G X a ga):GE G X (.UnaryOp .Not a pos) (fH ga):=λE EX=>
 eB (F1 (ha E EX)) λσ' H Q ⟨m,h,σ,ex,S,R,P⟩=>xP ex S R P λk m1 h1 H1 x1 R1 P1=>Post.here R1 P1 _ rfl
end
section
variable {e:aw}{es:List aw}{ge:ME}{ga:MA}{pos:Pos}
theorem aG:GA G X [] az:=λE EX=>Bk qO λσ' H Q ⟨m,h,σ,ex,S,R,P⟩=>Post.here R P _ .nil
theorem aq(he:GE G X e ge)(hr:GA G X es ga)(hs:aV (e::es) X.env=(false,aO e X.env)::aV es X.env:=by rfl):GA G X (e::es) (ao ge ga):=λE EX=>
 Bk (i7 (X:=X.wish E) (he E EX) (hr E EX) hs) λσ' H Q ⟨m,h,σ,ex,S,R,P⟩=>sub ex S R P λv m1 h1 H1 v' x1 R1 r1 P1=>kj ex (S.mono x1) R1 P1 λw m2 h2 H2 w' x2 R2 r2 P2=>Post.here R2 P2 _ (.cons (x2.vr r1) r2)
theorem small{n:Nat}(q:n≤1000):n≤bh:=mi (Dh q)
theorem big{n:Nat}(q:n≤100000):n≤bh:=cL q (by decide)
theorem jR{xs:List MV}{vs:List V}{Q:VK}(R:HR G m h H)(r:VRs G m H xs vs)(P:Post G X E EX m H (new (.lst xs) h) λv m' _ H'=>∀v',VR G m' H' v v'->Q v' H'){p:af}(hp:H p=none):Q (.ref p) (upd H p (.lst vs)):=by
 have x:=Ext.new (u:=.lst vs) R hp;refine P (m++[p]) (upd H p (.lst vs)) x (R.new hp ⟨vs,x.vrs r,dw⟩) (.ref p) ⟨p,?_,rfl⟩;rw[←R.len];simp
theorem wX{xs:List MV}{vs:List V}{Q:VK}(R:HR G m h H)(r:VRs G m H xs vs)(P:Post G X E EX m H (.ok (.tup xs) h) λv m' _ H'=>∀v',VR G m' H' v v'->Q v' H'){p:af}(hp:H p=none):Q (.ref p) (upd H p (.tup vs)):=by
 have x:Ext m H m (upd H p (.tup vs)):=Ext.side hp;exact P m (upd H p (.tup vs)) x (R.side hp) (.ref p) ⟨p,vs,rfl,R.fresh hp,dw,VRl.of (x.vrs r)⟩
theorem fN(ha:GA G X es ga):GE G X (.List es pos) (eT ga):=λE EX=>
 eB (DI (ha E EX)) λσ' H Q e0=>b8 e0 λm h σ ex S R P=>kj ex S R P λxs m1 h1 H1 vs x1 R1 r1 P1=>by
  split at P1
  ·rename_i hz;exact⟨by rw[←Paired.length r1];exact small hz,λp hp=>jR R1 r1 P1 hp⟩
  ·exact P1.elim
theorem fY{k}(ha:GA G X es ga):GE G X (.Tuple es k pos) (dX ga):=λE EX=>
 eB (G4 (ha E EX)) λσ' H Q e0=>b8 e0 λm h σ ex S R P=>kj ex S R P λxs m1 h1 H1 vs x1 R1 r1 P1=>by
  split at P1
  ·rename_i hz;exact⟨by rw[←Paired.length r1];exact small hz,λp hp=>wX R1 r1 P1 hp⟩
  ·exact P1.elim
end
theorem ij{α β:Type}{R:α->β->Prop}:∀{xs:List α}{ys:List β}{i:Nat}{x:α},cf R xs ys->xs[i]?=some x->∃y,ys[i]?=some y/\R x y
 |_,_,_,_,.nil,e=>by simp at e
 |_,_,0,_,.cons r _,e=>by simp at e;subst e;exact⟨_,rfl,r⟩
 |_,_,i+1,x,.cons _ t,e=>by
   obtain⟨u,h1,h2⟩:=ij (i:=i) (x:=x) t (by simpa using e);exact⟨u,by simpa using h1,h2⟩
theorem jQ{α β:Type}{R:α->β->Prop}:∀{xs zs:List α}{ys ws:List β},cf R xs ys->cf R zs ws->cf R (xs++zs) (ys++ws)
 |_,_,_,_,.nil,s=>s
 |_,_,_,_,.cons r t,s=>.cons r (jQ t s)
theorem wQ{α β:Type}{R:α->β->Prop}{x:α}{y:β}(r:R x y):∀{xs:List α}{ys:List β}(i:Nat),cf R xs ys->cf R (xs.set i x) (ys.set i y)
 |_,_,_,.nil=>.nil
 |_,_,0,.cons _ t=>.cons r t
 |_,_,i+1,.cons q t=>.cons q (wQ r i t)
theorem cy{β:Type}{n:Nat}{a:af}{k:MO->M β}{Q:β->List af->MH->Hp->Prop}(R:HR G m h H)(e:m[n]?=some a)(P:Post G X E EX m H (bnd (look n) k h) Q) :
  ∃o,h[n]?=some o/\OR G m H a o/\Post G X E EX m H (k o h) Q:=by
 obtain⟨o,e1,q⟩:=R.get e;refine⟨o,e1,q,?_⟩;simpa only[bnd,look,e1] using P
theorem AM{f:Op2}{C:Int->Int->Prop}{g:Int->Int->V}{gm:Int->Int->MV}(hf:∀i j h (Q:MV->List af->MH->Hp->Prop) X E EX m H,HR G m h H->Post G X E EX m H (f (.int i) (.int j) h) Q->C i j/\Q (gm i j) m h H)(hg:∀m H i j,VR G m H (gm i j) (g i j))
  (hn:∀x y h,(∀i j,¬(x=.int i/\y=.int j))->f x y h=.stuck):VO G f (rI C g):=by
 intro X E EX m h H x y x' y' Q R rx ry P;by_cases e:∃i j,x=.int i/\y=.int j
 ·obtain⟨i,j,rfl,rfl⟩:=e;obtain⟨c,q⟩:=hf i j h _ X E EX m H R P;exact⟨i,j,rx,ry,c,q _ (hg m H i j)⟩
 ·rw[hn x y h λi j z=>e ⟨i,j,z⟩]at P;exact P.elim
theorem qT{f:Op2}{g:Int->Int->V}{gm:Int->Int->MV}(hf:∀i j h,f (.int i) (.int j) h=.ok (gm i j) h)(hg:∀m H i j,VR G m H (gm i j) (g i j))
  (hn:∀x y h,(∀i j,¬(x=.int i/\y=.int j))->f x y h=.stuck):VO G f (rI0 g):=by
 intro X E EX m h H x y x' y' Q R rx ry P;by_cases e:∃i j,x=.int i/\y=.int j
 ·obtain⟨i,j,rfl,rfl⟩:=e;rw[hf]at P;exact⟨i,j,rx,ry,Post.here R P _ (hg m H i j)⟩
 ·rw[hn x y h λi j z=>e ⟨i,j,z⟩]at P;exact P.elim
theorem j5:VO G gE (rI0 λi j=>.int (i-j)):=qT (gm:=λi j=>.int (i-j)) (λ_ _ _=>rfl) (λ_ _ _ _=>rfl) λx y h n=>by
 cases x <;> cases y <;> first|rfl|exact absurd ⟨rfl,rfl⟩ (n _ _)
theorem oQ:VO G oLt (rI0 λi j=>.bl (decide (i<j))):=qT (gm:=λi j=>.bl (decide (i<j))) (λ_ _ _=>rfl) (λ_ _ _ _=>rfl) λx y h n=>by
 cases x <;> cases y <;> first|rfl|exact absurd ⟨rfl,rfl⟩ (n _ _)
theorem oA:VO G oGt (rI0 λi j=>.bl (decide (j<i))):=qT (gm:=λi j=>.bl (decide (j<i))) (λ_ _ _=>rfl) (λ_ _ _ _=>rfl) λx y h n=>by
 cases x <;> cases y <;> first|rfl|exact absurd ⟨rfl,rfl⟩ (n _ _)
theorem yQ:VO G oGe (rI0 λi j=>.bl (decide (j≤i))):=qT (gm:=λi j=>.bl (decide (j≤i))) (λ_ _ _=>rfl) (λ_ _ _ _=>rfl) λx y h n=>by
 cases x <;> cases y <;> first|rfl|exact absurd ⟨rfl,rfl⟩ (n _ _)
def zr:R2:=λx y H Q=>rI CMul (λi j=>.int (i*j)) x y H Q∨Bq x y H Q
theorem iH:OpR X (binaryOp .Mult) zr:=Gy.or EZ
theorem Bv{α β:Type}{Rr:α->β->Prop}{xs:List α}{ys:List β}(r:cf Rr xs ys):∀k,cf Rr (bU k xs).flatten (bU k ys).flatten
 |0=>.nil
 |k+1=>by
   rw[gS,gS,lV,lV];exact jQ r (Bv r k)
theorem iP:VO G fL zr:=by
 intro X E EX m h H x y x' y' Q R rx ry P;cases x with
 |int i=>cases y with
   |int j=>
     unfold fL at P;dsimp only at P;split at P
     ·rename_i c;exact .inl ⟨i,j,rx,ry,c,Post.here R P _ rfl⟩
     ·exact P.elim
   |_=>exact P.elim
 |ref a=>cases y with
   |int j=>
     obtain⟨aa,ea,rfl⟩:=rx;obtain⟨oa,e1,q1,P1⟩:=cy R ea P;cases oa with
     |lst xs=>
       obtain⟨vs,r,z⟩:=q1;dsimp only at P1;split at P1
       ·rename_i c;refine .inr ⟨aa,j,vs,rfl,ry,z,by lia,by lia,by rw[←Paired.length r];exact big c.2.2,λp hp=>jR R (Bv r j.toNat) P1 hp⟩
       ·exact P1.elim
     |_=>exact P1.elim
   |_=>exact P.elim
 |_=>exact P.elim
theorem cQ:VO G cx (rI (λ_ j=>0 < j) λi j=>.int (i % j)):=AM (gm:=λi j=>.int (i % j)) (λi j h Q X E EX m H R P=>by
  unfold cx at P;dsimp only at P;split at P
  ·rename_i c;exact⟨c,Post.here R P⟩
  ·exact P.elim) (λ_ _ _ _=>rfl) λx y h n=>by
 cases x <;> cases y <;> first|rfl|exact absurd ⟨rfl,rfl⟩ (n _ _)
theorem eQ:VO G dS (rI CDiv λi j=>.int (i / j)):=AM (gm:=λi j=>.int (i / j)) (λi j h Q X E EX m H R P=>by
  unfold dS at P;dsimp only at P;split at P
  ·rename_i c;exact⟨c,Post.here R P⟩
  ·exact P.elim) (λ_ _ _ _=>rfl) λx y h n=>by
 cases x <;> cases y <;> first|rfl|exact absurd ⟨rfl,rfl⟩ (n _ _)
def qp:R2:=λx y H Q=>rI0 (λi j=>.int (i+j)) x y H Q∨((∃i j,x=.str i/\y=.str j/\i.length+j.length≤bh/\Q (.str (i++j)) H)∨zO x y H Q)
theorem cD:OpR X (binaryOp .Add) qp:=Cm.or (CW.or CJ)
theorem cH:VO G bY qp:=by
 intro X E EX m h H x y x' y' Q R rx ry P;cases x with
 |int i=>cases y with
   |int j=>exact .inl ⟨i,j,rx,ry,Post.here R P _ rfl⟩
   |_=>exact P.elim
 |str i=>cases y with
   |str j=>
     unfold bY at P;dsimp only at P;split at P
     ·rename_i c;exact .inr (.inl ⟨i,j,rx,ry,big c,Post.here R P _ rfl⟩)
     ·exact P.elim
   |_=>exact P.elim
 |ref a=>cases y with
   |ref b=>
     obtain⟨aa,ea,rfl⟩:=rx;obtain⟨bb,eb,rfl⟩:=ry;obtain⟨oa,e1,q1,P1⟩:=cy R ea P;obtain⟨ob,e2,q2,P2⟩:=cy R eb P1;cases oa with
     |lst xs=>cases ob with
       |lst ys=>
         dsimp only at P2;split at P2
         ·rename_i c;obtain⟨vs,r1,z1⟩:=q1;obtain⟨ws,r2,z2⟩:=q2;exact .inr (.inr ⟨aa,bb,vs,ws,rfl,rfl,z1,z2,by rw[←Paired.length r1,←Paired.length r2];exact big c,λp hp=>jR R (jQ r1 r2) P2 hp⟩)
         ·exact P2.elim
       |_=>exact P2.elim
     |_=>exact P2.elim
   |_=>exact P.elim
 |non=>exact P.elim
 |bl _=>exact P.elim
 |scr _=>exact P.elim
 |tup _=>exact P.elim
 |any=>exact P.elim
theorem vE{f:MV->Option PyData}{s:ak}:∀{xs:List MV}{vs:List V}{us:List ai}{ds:List PyData},VRs G m H xs vs->Vals vs us->(∀x v u d,VR G m H x v->aU v u->f x=some d->∃as,Reads s.heap u d as)->jB f xs=some ds->∃as,ReadsAll s.heap us ds as
 |_,_,_,ds,.nil,.nil,_,e=>by
   cases(show([]:List PyData)=ds from Option.some.inj e);exact⟨_,.nil⟩
 |x::xs,_,_,ds,.cons r t,.cons q w,k,e=>by
   unfold jB at e;cases e1:f x with
   |none=>rw[e1]at e;cases e
   |some d=>
     cases e2:jB f xs with
     |none=>rw[e1,e2]at e;cases e
     |some es=>
       rw[e1,e2]at e;cases e;obtain⟨as,h1⟩:=k _ _ _ _ r q e1;obtain⟨bs,h2⟩:=vE t w k e2;exact⟨_,.cons h1 h2⟩
theorem qQ{pins:List (af×aE)}{s:ak}{σ2:St}(I:Inv X pins σ2 H s)(R:HR G m h H):∀(n:Nat) (x:MV) (v:V) (u:ai) (d:PyData),VR G m H x v->aU v u->dat h n x=some d->∃as,Reads s.heap u d as:=by
 intro n
 induction n with
 |zero=>
   intro x v u d r q e;cases x with
   |non=>cases(show v=V.non from r);cases q;cases(show some PyData.none=some d from e);exact⟨_,.none⟩
   |bl b=>cases(show v=V.bl b from r);cases q;cases(show some (PyData.bool b)=some d from e);exact⟨_,.bool b⟩
   |int i=>cases(show v=V.int i from r);obtain⟨t,rfl⟩:=q;cases(show some (PyData.int i)=some d from e);exact⟨_,.int i t⟩
   |str i=>cases(show v=V.str i from r);obtain⟨t,rfl⟩:=q;cases(show some (PyData.str i)=some d from e);exact⟨_,.str i t⟩
   |_=>cases(show none=some d from e)
 |succ n ih=>
   intro x v u d r q e;cases x with
   |non=>cases(show v=V.non from r);cases q;cases(show some PyData.none=some d from e);exact⟨_,.none⟩
   |bl b=>cases(show v=V.bl b from r);cases q;cases(show some (PyData.bool b)=some d from e);exact⟨_,.bool b⟩
   |int i=>cases(show v=V.int i from r);obtain⟨t,rfl⟩:=q;cases(show some (PyData.int i)=some d from e);exact⟨_,.int i t⟩
   |str i=>cases(show v=V.str i from r);obtain⟨t,rfl⟩:=q;cases(show some (PyData.str i)=some d from e);exact⟨_,.str i t⟩
   |tup xs=>
     obtain⟨a,vs,rfl,_,z,rl⟩:=(show ∃a vs,v=.ref a/\a∉m/\H a=some (.tup vs)/\VRl G m H xs vs from r);cases q;unfold dat at e;cases e1:jB (dat h n) xs with
     |none=>rw[e1]at e;cases e
     |some ds=>
       rw[e1]at e;cases e;obtain⟨its,rv,p,hz⟩:=I.tuple (SqT.of z);obtain⟨as,hr⟩:=vE (VRl.to rl) rv (λx v u d=>ih x v u d) e1;obtain⟨o,ho,hc,k,hd⟩:=(show s.heap.IsTuple a its.toArray from p);exact⟨_,reads_tuple_at ho hc hd (by simpa using hr)⟩
   |ref i=>
     obtain⟨a,ea,rfl⟩:=(show ∃a,m[i]?=some a/\v=.ref a from r);cases q;obtain⟨ob,eo,qo⟩:=R.get ea;unfold dat at e;rw[eo]at e;cases ob with
     |lst xs=>
       dsimp only at e;obtain⟨vs,rl,z⟩:=qo;cases e1:jB (dat h n) xs with
       |none=>rw[e1]at e;cases e
       |some ds=>
         rw[e1]at e;cases e;obtain⟨its,rv,p,hz⟩:=I.list (SqL.of z);obtain⟨as,hr⟩:=vE rl rv (λx v u d=>ih x v u d) e1;obtain⟨o,ho,hc,k,hd⟩:=p.isList;exact⟨_,reads_list_at ho hc hd (by simpa using hr)⟩
     |_=>cases(show none=some d from e)
   |scr _=>cases(show none=some d from e)
   |any=>cases(show none=some d from e)
def qt(neg:Bool):R2:=λx y H Q=>(∃(G:Gb) (m:List af) (h:MH) (a b:MV) (d e:PyData),HR G m h H/\VR G m H a x/\VR G m H b y/\dat h 6 a=some d/\dat h 6 b=some e/\(SeqAt.shaped d=true/\SeqAt.shaped e=true)/\Q (.bl (if neg then !PyData.eqv d e else PyData.eqv d e)) H)
theorem hV(hu:X.A.units+64<cLine):OpR X (d4 .Eq) (λx y H Q=>rEq x y H Q∨qt false x y H Q):=by
 refine DB.or ?_;rintro pins s σ2 H x y v u Q I rx ry ⟨G,m,h,a,b,d,e,R,ra,rb,da,db,sh,q⟩;obtain⟨as,r1⟩:=qQ I R 6 a x v d ra rx da;obtain⟨bs,r2⟩:=qQ I R 6 b y u e rb ry db;exact eq_dataH r1 r2 sh.1 sh.2 hu ⟨.bl _,H,I,rfl,q⟩
theorem iI(hu:X.A.units+64<cLine):OpR X (d4 .NotEq) (λx y H Q=>rNe x y H Q∨qt true x y H Q):=by
 refine De.or ?_;rintro pins s σ2 H x y v u Q I rx ry ⟨G,m,h,a,b,d,e,R,ra,rb,da,db,sh,q⟩;obtain⟨as,r1⟩:=qQ I R 6 a x v d ra rx da;obtain⟨bs,r2⟩:=qQ I R 6 b y u e rb ry db;exact ne_dataH r1 r2 sh.1 sh.2 hu ⟨.bl _,H,I,rfl,q⟩
theorem zi{β:Type}{x y:MV}{k:Bool->M β}{Q:β->List af->MH->Hp->Prop}(P:Post G X E EX m H (bnd (qG x y) k h) Q):∃d e,dat h 6 x=some d/\dat h 6 y=some e/\(SeqAt.shaped d=true/\SeqAt.shaped e=true)/\Post G X E EX m H (k (PyData.eqv d e) h) Q:=by
 unfold bnd qG at P;cases e1:dat h 6 x with
 |none=>rw[e1]at P;exact P.elim
 |some d=>
   cases e2:dat h 6 y with
   |none=>rw[e1,e2]at P;exact P.elim
   |some e=>
     rw[e1,e2]at P;dsimp only at P;by_cases c:SeqAt.shaped d=true/\SeqAt.shaped e=true
     ·rw[if_pos c]at P;exact⟨d,e,rfl,rfl,c,P⟩
     ·rw[if_neg c]at P;exact P.elim
theorem gX:VO G oEq (λx y H Q=>rEq x y H Q∨qt false x y H Q):=by
 intro X E EX m h H x y x' y' Q R rx ry P;unfold oEq at P;split at P
 ·rename_i c;refine .inl ?_;cases x <;> cases y <;> first|(exfalso;exact cK c)|(cases rx;cases ry;refine⟨rfl,?_⟩;have q:=Post.here R P _ rfl;simpa using q)
 ·obtain⟨d,e,h1,h2,c,P1⟩:=zi P;exact .inr ⟨G,m,h,x,y,d,e,R,rx,ry,h1,h2,c,Post.here R P1 _ rfl⟩
theorem iF:VO G oNe (λx y H Q=>rNe x y H Q∨qt true x y H Q):=by
 intro X E EX m h H x y x' y' Q R rx ry P;unfold oNe at P;split at P
 ·rename_i c;refine .inl ?_;cases x <;> cases y <;> first|(exfalso;exact cK c)|(cases rx;cases ry;refine⟨rfl,?_⟩;have q:=Post.here R P _ rfl;simpa using q)
 ·obtain⟨d,e,h1,h2,c,P1⟩:=zi P;exact .inr ⟨G,m,h,x,y,d,e,R,rx,ry,h1,h2,c,Post.here R P1 _ rfl⟩
theorem mY{k:Str}:∀{kvs:List (Str×MV)}{ws:List (Key×V)},DR G m H kvs ws->(∀v,dget k kvs=some v->∃v',fW ws (Sum.inr k)=some v'/\VR G m H v v')/\(dget k kvs=none->fW ws (Sum.inr k)=none)
 |_,_,.nil=>⟨λv e=>(by cases e),λ_=>rfl⟩
 |(a,u)::kvs,(b,u')::ws,.cons ⟨q,r⟩ t=>by
   have q:b=Sum.inr a:=q;subst q;have ih:=mY (k:=k) t;unfold dget;by_cases e:a=k
   ·subst e;rw[if_pos rfl,pY rfl];exact⟨λv e=>⟨u',rfl,by cases e;exact r⟩,λe=>by cases e⟩
   ·rw[if_neg e,sO (λz=>e (Sum.inr.inj z))];exact ih
theorem wV{k:Str}{kvs:List (Str×MV)}{ws:List (Key×V)}(r:DR G m H kvs ws):(ws.any λkv=>decide (kv.1=Sum.inr k))=(dget k kvs).isSome:=by
 rw[oY];obtain⟨a,b⟩:=mY (k:=k) r;cases e:dget k kvs with
 |none=>rw[b e];rfl
 |some v=>obtain⟨v',e',_⟩:=a v e;rw[e'];rfl
theorem zD{k:Str}{v:MV}{v':V}(rv:VR G m H v v'){kvs:List (Str×MV)}{ws:List (Key×V)}(r:DR G m H kvs ws):DR G m H (dput k v kvs) (eU ws (Sum.inr k) v'):=by
 unfold dput eU;rw[wV r];by_cases c:(dget k kvs).isSome=true
 ·rw[if_pos c,if_pos c]
  clear c
  induction r with
  |nil=>exact .nil
  |cons p t ih=>
    rename_i x y l1 l2;simp only[bz];by_cases e:x.1=k
    ·rw[if_pos e,if_pos (by rw[p.1,e])];exact .cons ⟨p.1,rv⟩ ih
    ·rw[if_neg e,if_neg (by rw[p.1];exact λz=>e (Sum.inr.inj z))];exact .cons p ih
 ·rw[if_neg c,if_neg c];exact jQ r (.cons ⟨rfl,rv⟩ .nil)
def vm:R2:=λx y H Q=>∃a v,x=.ref a/\DGet H a y (some v)/\Q v H
theorem IS(hu:X.A.units+1<cLine):IxR X vm:=by
 rintro value slice pins s σ H x y v u Q I rx ry ⟨a,w,ex,g,q⟩ hs;subst ex;cases rx;exact tail_any (FM I g) PySem.F.slot_dict_getitem.lookup (BP hu I g ry λw' s3 I3 rw'=>⟨w,H,I3,rw',q⟩) hs
def HV(K:PySem.W.Frag):R2:=λx y H Q=>rIx K x y H Q∨vm x y H Q
theorem mR{α:Type}(xs:List α)(i:Int):atI xs i=atN xs i:=by
 unfold atI atN L2.ixN;by_cases h0:0≤i
 ·rw[if_pos h0,if_pos h0];by_cases hn:i<xs.length
  ·rw[if_pos hn];rfl
  ·rw[if_neg hn];exact(mO.mpr (by lia)).symm
 ·rw[if_neg h0,if_neg h0];by_cases hn:-(xs.length:Int)≤i
  ·rw[if_pos hn,if_pos hn];rfl
  ·rw[if_neg hn,if_neg hn];rfl
theorem ud{α β:Type}{Rr:α->β->Prop}{xs:List α}{ys:List β}{i:Int}{x:α}(r:cf Rr xs ys)(e:atN xs i=some x):∃y,atN ys i=some y/\Rr x y:=by
 unfold atN at e ⊢;rw[←Paired.length r];split at e
 ·rename_i c;rw[if_pos c];exact ij r e
 ·rename_i c;rw[if_neg c];split at e
  ·rename_i d;rw[if_pos d];exact ij r e
  ·cases e
theorem HR.sq(R:HR G m h H):SqL G.K H G.sa (G.ns.map V.int):=by
 rcases R.scr with⟨o,q⟩|q
 ·exact .inl (.inr ⟨o,q⟩)
 ·exact q H
theorem Ji:VO G oIx (HV G.K):=by
 intro X E EX m h H x y x' y' Q R rx ry P;cases x with
 |ref a=>cases y with
   |int i=>
     obtain⟨aa,ea,rfl⟩:=rx;obtain⟨oa,e1,q1,P1⟩:=cy R ea P;cases oa with
     |lst xs=>
       obtain⟨vs,r,z⟩:=q1;dsimp only at P1;cases e:atN xs i with
       |none=>simp only[e]at P1;exact P1.elim
       |some v=>
         simp only[e]at P1;obtain⟨v',e',rv⟩:=ud r e;exact .inl (.inl ⟨aa,vs,i,v',rfl,ry,SqL.of z,by rw[mR];exact e',Post.here R P1 _ rv⟩)
     |_=>exact P1.elim
   |str k=>
     obtain⟨aa,ea,rfl⟩:=rx;obtain⟨oa,e1,q1,P1⟩:=cy R ea P;cases oa with
     |dct kvs=>
       obtain⟨ws,r,z⟩:=q1;dsimp only at P1;cases e:dget k kvs with
       |none=>simp only[e]at P1;exact P1.elim
       |some v=>
         simp only[e]at P1;obtain⟨v',e',rv⟩:=(mY (k:=k) r).1 v e;cases(show y'=V.str k from ry);exact .inr ⟨aa,v',rfl,e'▸DGet.k (k:=Sum.inr k) z,Post.here R P1 _ rv⟩
     |_=>exact P1.elim
   |_=>exact P.elim
 |tup xs=>cases y with
   |int i=>
     obtain⟨aa,vs,rfl,_,z,r⟩:=rx;have r:=VRl.to r;unfold oIx at P;dsimp only at P;cases e:atN xs i with
     |none=>simp only[e]at P;exact P.elim
     |some v=>
       simp only[e]at P;obtain⟨v',e',rv⟩:=ud r e;exact .inl (.inr (.inl ⟨aa,vs,i,v',rfl,ry,SqT.of z,by rw[mR];exact e',Post.here R P _ rv⟩))
   |_=>exact P.elim
 |any=>exact P.elim
 |scr ns=>cases y with
   |int i=>
     obtain⟨e0,rfl⟩:=rx;subst e0;unfold oIx at P;dsimp only at P;cases e:atN G.ns i with
     |none=>simp only[e]at P;exact P.elim
     |some v=>
       simp only[e]at P;refine .inl (.inl ⟨G.sa,G.ns.map V.int,i,.int v,rfl,ry,R.sq,?_,Post.here R P _ rfl⟩);rw[mR];unfold atN at e ⊢;rw[bS];split at e
       ·rename_i c;rw[if_pos c,bj,e];rfl
       ·rename_i c;rw[if_neg c];split at e
        ·rename_i d;rw[if_pos d,bj,e];rfl
        ·cases e
   |_=>exact P.elim
 |non=>exact P.elim
 |bl _=>exact P.elim
 |int _=>exact P.elim
 |str z=>cases y with
   |int i=>
     unfold oIx at P;dsimp only at P;split at P
     ·rename_i c;cases e:atN z.cps.toList i with
      |none=>simp only[e]at P;exact P.elim
      |some cc=>
        simp only[e]at P;exact .inl (.inr (.inr ⟨z,i,cc,rx,ry,big c,by rw[mR];exact e,Post.here R P _ rfl⟩))
     ·exact P.elim
   |_=>exact P.elim
section
variable {a b:aw}{ga gb:ME}{pos:Pos}
theorem aF(hu:X.A.units+1<cLine)(ha:GE G X a ga)(hb:GE G X b gb)(hs:xJ b:=by intro _ _;rfl)(hK:X.K=G.K:=by rfl):GE G X (.Subscript a b pos) (aj oIx ga gb):=λE EX=>
 eB (Fz (X:=X.wish E) (GB.or (IS hu)) (ha E EX) (hb E EX) hs) λ_ _ _ t=>by
  have:=opG (ta:=λa _=>a) Ji t;rw[←hK]at this;exact this
end
def VO1(G:Gb)(f:Op1)(r:List V->Hp->VK->Prop):Prop:=∀(X:Cx) (E:ai->ak->Prop) (EX:St->Prop) (m:List af) (h:MH) (H:Hp) (x:MV) (x':V) (Q:VK),HR G m h H->VR G m H x x' ->
 Post G X E EX m H (f x h) (λv m' _ H'=>∀v',VR G m' H' v v'->Q v' H')->r [x'] H Q
section
variable {e:aw}{ge:ME}{x:Str}{p pos:Pos}{id T:String}{f:Op1}{r:List V->Hp->VK->Prop}
theorem GE.a1(he:GE G X e ge)(hs:aV [e] X.env=[(false,aO e X.env)]):∀E EX,PA (X.wish E) [e] (uh (TGe G X E EX ge) wA):=λE EX=>i7 (X:=X.wish E) (he E EX) qO hs
theorem AU{Q:VK}(vo:VO1 G f r)(t:TGe G X E EX (eUn f ge) σ' H Q):tCB r (uh (TGe G X E EX ge) wA) σ' H Q:=by
 obtain⟨m,h,σ,ex,S,R,P⟩:=t;exact sub ex S R P λv m1 h1 H1 v' x1 R1 r1 P1=>vo _ _ _ _ _ _ _ _ _ R1 r1 P1
theorem dv(hc:∀E,eO (X.wish E) (.builtin id) r)(vo:VO1 G f r)(he:GE G X e ge)(hm:X.mg x=none)(hv:bootBuiltins x=some (.builtin id))(hg:Gl X x:=by rfl)(hn:x≠"__name__":=by decide)(hdb:(x == ("__debug__":Str))=false:=by decide)
  (hs:aV [e] X.env=[(false,aO e X.env)]:=by rfl):GE G X (.Call (.Name x p) [e] [] pos) (eUn f ge):=λE EX=>
 eB (vn (X:=X.wish E) (hc E) hg hm hv (he.a1 hs E EX) hn hdb hs rfl) λ_ _ _ t=>AU vo t
theorem tE(hc:∀E,eO (X.wish E) (.type T) r)(vo:VO1 G f r)(he:GE G X e ge)(hm:X.mg x=none)(hv:bootBuiltins x=some (.type T))(hg:Gl X x:=by rfl)(hn:x≠"__name__":=by decide)(hdb:(x == ("__debug__":Str))=false:=by decide)
  (hs:aV [e] X.env=[(false,aO e X.env)]:=by rfl):GE G X (.Call (.Name x p) [e] [] pos) (eUn f ge):=λE EX=>
 eB (Hc (X:=X.wish E) (hc E) hg hm hv (he.a1 hs E EX) hn hdb hs rfl) λ_ _ _ t=>AU vo t
end
def wR(K:PySem.W.Frag):List V->Hp->VK->Prop:=λxs H Q=>(∃x n,xs=[x]/\AO K x H n/\Q (.int n) H)∨∃a kvs,xs=[V.ref a]/\H a=some (.dK kvs)/\Q (.int kvs.length) H
theorem eJ:eO X (.builtin "len") (wR X.K):=DT.or EK
theorem eF:VO1 G cz (wR G.K):=by
 intro X E EX m h H x x' Q R rx P;cases x with
 |ref a=>
   obtain⟨aa,ea,rfl⟩:=rx;obtain⟨oa,e1,q1,P1⟩:=cy R ea P;cases oa with
   |lst xs=>
     obtain⟨vs,r,z⟩:=q1;exact .inl ⟨_,vs.length,rfl,.inl ⟨vs,SqL.of z,rfl⟩,by rw[←Paired.length r];exact Post.here R P1 _ rfl⟩
   |dct kvs=>
     obtain⟨ws,r,z⟩:=q1;exact .inr ⟨aa,ws,rfl,z,by rw[←Paired.length r];exact Post.here R P1 _ rfl⟩
   |_=>exact P1.elim
 |str y=>
   unfold cz at P;dsimp only at P;split at P
   ·rename_i c;cases(show x'=V.str y from rx);exact .inl ⟨_,y.length,rfl,⟨big c,rfl⟩,Post.here R P _ rfl⟩
   ·exact P.elim
 |scr ns=>
   obtain⟨e0,rfl⟩:=rx;subst e0;exact .inl ⟨_,(G.ns.map V.int).length,rfl,.inl ⟨_,R.sq,rfl⟩,by rw[bS];exact Post.here R P _ rfl⟩
 |tup xs=>
   obtain⟨aa,vs,rfl,_,z,r⟩:=rx;exact .inl ⟨_,vs.length,rfl,.inr ⟨vs,SqT.of z,rfl⟩,by rw[←Paired.length (VRl.to r)];exact Post.here R P _ rfl⟩
 |non=>exact P.elim
 |bl _=>exact P.elim
 |int _=>exact P.elim
 |any=>exact P.elim
def EY(K:PySem.W.Frag):List V->Hp->VK->Prop:=λxs H Q=>∃p ys,xs=[.ref p]/\(SqL K H p ys∨SqT K H p ys)/\∀l,H l=none->Q (.ref l) (L2.upd H l (.lst ys))
theorem zW:VO1 G mx (EY G.K):=by
 intro X E EX m h H x x' Q R rx P;cases x with
 |ref a=>
   obtain⟨aa,ea,rfl⟩:=rx;obtain⟨oa,e1,q1,P1⟩:=cy R ea P;cases oa with
   |lst xs=>
     obtain⟨vs,r,z⟩:=q1;exact⟨aa,vs,rfl,.inl (SqL.of z),λl hl=>jR R r P1 hl⟩
   |_=>exact P1.elim
 |_=>exact P.elim
def Eb:List V->Hp->VK->Prop:=λxs H Q=>(∃i,xs=[.int i]/\Q (.int i) H)∨∃k,xs=[.bl k]/\Q (.int (if k then 1 else 0)) H
theorem Dw:VO1 G ur Eb:=by
 intro X E EX m h H x x' Q R rx P;cases x with
 |int i=>cases(show x'=V.int i from rx);exact .inl ⟨i,rfl,Post.here R P _ rfl⟩
 |bl k=>cases(show x'=V.bl k from rx);exact .inr ⟨k,rfl,Post.here R P _ rfl⟩
 |_=>exact P.elim
section
variable {e o i c:aw}{ge go gi gc:ME}{pos pos':Pos}{st:aT}{rest sa sb:List aT}{a b:MS}
theorem cO:GSs G EX X [] b9:=λE hp=>Ax Hb λD σ' H ⟨m,h,σ,ex,S,R,P⟩=>Post.here R P σ' S
theorem aH(h1:GS G EX X st a):GSs G EX X [st] a:=λE hp=>IH (h1 E hp)
theorem aA(h1:GS G ET X st a)(h2:GSs G ET X rest b):GSs G ET X (st::rest) (au a b):=λE hp=>Ax (Jh (h1 E hp) (h2 E hp)) λD σ' H e0=>b8 e0 λm h σ ex S R P=>
 ⟨m,h,σ,ex,S,R,P.bind.mono λf m1 h1 H1 x R1 P1=>by
  cases f with
  |next σ1=>exact λσ1' S1=>⟨m1,h1,σ1,trivial,S1,R1,P1⟩
  |brk σ1=>exact Post.here R1 P1
  |cnt σ1=>exact Post.here R1 P1
  | ret v=>exact Post.here R1 P1⟩
theorem cV(he:GE G X e ge)(hs:swapsWith e none pos.line X.env=pure false:=by rfl):GS G EX X (.Expr e pos) (cG ge):=λE hp=>gI (Ee (X:=X.wish E) (he E EX) hs) λD σ' H ⟨m,h,σ,ex,S,R,P⟩=>
 sub ex S R P λv m1 h1 H1 v' x1 R1 r1 P1=>Post.here R1 P1 σ' (S.mono x1)
theorem bH(he:GE G X e ge):GS G EX X (.Return (some e) pos) (bn ge):=λE hp=>gI (CK (X:=X.wish E) (he E EX)) λD σ' H ⟨m,h,σ,ex,S,R,P⟩=>
 sub ex S R P λv m1 h1 H1 v' x1 R1 r1 P1=>Post.here R1 P1 v' r1
theorem cF(hc:GT G X c gc)(ha:GSs G EX X sa a)(hb:GSs G EX X sb b):GS G EX X (.If c sa sb pos) (sIf gc a b):=λE hp=>gI (G6 (hc E EX) (ha E hp) (hb E hp)) λD σ' H e0=>b8 e0 λm h σ ex S R P=>
 sk ex S R P λk m1 h1 H1 x1 R1 P1=>by
  cases k with
  |true=>exact⟨m1,h1,σ,ex,S.mono x1,R1,P1⟩
  |false=>exact⟨m1,h1,σ,ex,S.mono x1,R1,P1⟩
theorem bi{n:Nat}{x:Str}(he:GE G X e ge)(hN:X.N.Nodup)(hi:X.N[n]?=some x:=by rfl)(hx:Loc X.env.scope x:=by first|exact Or.inl rfl|exact Or.inr rfl)
  (hs:swapsWith e (some (.Name x pos')) pos.line X.env=pure false:=by rfl) (hf:X.fn x=true∨X.env.scope.names.lookup x=some .local:=by first|exact .inl rfl|exact .inr rfl) :
  GS G EX X (.Assign [.Name x pos'] e pos) (aY n ge):=λE hp=>gI (DN (X:=X.wish E) hN hi hx (he E EX) hs hf) λD σ' H ⟨m,h,σ,ex,S,R,P⟩=>
 sub ex S R P λv m1 h1 H1 v' x1 R1 r1 P1=>Post.here R1 P1 _ ((S.mono x1).set n r1)
theorem t4{a b:String}(e:aQ a=aQ b):a=b:=by
 rw[Str.ofString_eq_toList,Str.ofString_eq_toList]at e;have e1:a.toList.map Char.toNat=b.toList.map Char.toNat:=by simpa using congrArg (λs:Str=>s.cps.toList) e
 have e2:a.toList=b.toList:=by
  have inj:∀(l k:List Char),l.map Char.toNat=k.map Char.toNat->l=k:=by
   intro l
   induction l with
   |nil=>intro k q;cases k with
     |nil=>rfl
     |cons _ _=>simp at q
   |cons x l ih=>intro k q;cases k with
     |nil=>simp at q
     |cons y k=>
       simp only[bz,List.cons.injEq]at q;rw[ih k q.2,Char.toNat_inj.mp q.1]
  exact inj _ _ e1
 exact String.toList_inj.mp e2
theorem wu{f:String}:∀{fs:List (String×MV)}{ws:List (Str×V)}{v:MV},FR G m H fs ws->fs.lookup f=some v->∃v',ws.lookup (aQ f)=some v'/\VR G m H v v'
 |_,_,_,.nil,e=>by simp at e
 |(g,u)::fs,(g',u')::ws,v,.cons ⟨q,r⟩ t,e=>by
   have q:g'=aQ g:=q;subst q;by_cases hg:f=g
   ·subst hg;simp only[bW,beq_self_eq_true]at e ⊢;cases e;exact⟨u',rfl,r⟩
   ·have h1:(f == g)=false:=by simpa using hg
    have h2:(aQ f == aQ g)=false:=by
     rw[beq_eq_false_iff_ne];exact λz=>hg (t4 z)
    simp only[bW,h1,h2]at e ⊢;exact wu t e
theorem BA{f:String}:∀{fs:List (String×MV)}{ws:List (Str×V)},FR G m H fs ws->fs.lookup f=none->ws.lookup (aQ f)=none
 |_,_,.nil,e=>by simp
 |(g,u)::fs,(g',u')::ws,.cons ⟨q,r⟩ t,e=>by
   have q:g'=aQ g:=q;subst q;by_cases hg:f=g
   ·subst hg;simp only[bW,beq_self_eq_true]at e;cases e
   ·have h1:(f == g)=false:=by simpa using hg
    have h2:(aQ f == aQ g)=false:=by
     rw[beq_eq_false_iff_ne];exact λz=>hg (t4 z)
    simp only[bW,h1,h2]at e ⊢;exact BA t e
theorem FR.mono{m':List af}{H':Hp}{fs:List (String×MV)}{ws:List (Str×V)}(x:Mn m H m' H')(r:FR G m H fs ws):FR G m' H' fs ws:=Paired.imp' (λ_ _ p=>⟨p.1,VR.mono x p.2⟩) r
theorem DR.mono{m':List af}{H':Hp}{fs:List (Str×MV)}{ws:List (Key×V)}(x:Mn m H m' H')(r:DR G m H fs ws):DR G m' H' fs ws:=Paired.imp' (λ_ _ p=>⟨p.1,VR.mono x p.2⟩) r
theorem uj{f:String}{v:MV}{v':V}(r:VR G m H v v'):∀{fs:List (String×MV)}{ws:List (Str×V)},FR G m H fs ws->FR G m H (putF f v fs) (L2.putF (aQ f) v' ws)
 |_,_,.nil=>.cons ⟨rfl,r⟩ .nil
 |(g,u)::fs,(g',u')::ws,.cons ⟨q,ru⟩ t=>by
   have q:g'=aQ g:=q;subst q;unfold putF L2.putF;by_cases hg:g=f
   ·subst hg;rw[if_pos rfl,if_pos rfl];exact .cons ⟨rfl,r⟩ t
   ·rw[if_neg hg,if_neg λz=>hg (t4 z)];exact .cons ⟨rfl,ru⟩ (uj r t)
def bc(G:Gb)(cs:List Nat)(f:String):Prop:=∀c∈cs,Cls G.K (G.cl c)/\dh G.K (G.cl c) (aQ f)
theorem bc.one{c:Nat}{f:String}(a:Cls G.K (G.cl c))(b:dh G.K (G.cl c) (aQ f)):bc G [c] f:=λc' q=>by
 cases cT.mp q;exact⟨a,b⟩
theorem bP{f:String}{cs:List Nat}(he:GE G X e ge)(hf:bc G cs f)(hb:attributeBase e (aQ f) X.env (aO e X.env)=aO e X.env:=by rfl)(hK:X.K=G.K:=by rfl):GE G X (.Attribute e (aQ f) pos) (aZ ge cs f):=λE EX=>
 eB (E9 (X:=X.wish E) (he E EX) hb) λσ' H Q e0=>b8 e0 λm h σ ex S R P=>sub ex S R P λv m1 h1 H1 v' x1 R1 r1 P1=>by
  cases v with
  |ref n=>
    obtain⟨aa,ea,rfl⟩:=r1;obtain⟨oa,e1,q1,P2⟩:=cy R1 ea P1;cases oa with
    |ins c fs=>
      obtain⟨dx,ws,r,z⟩:=q1;dsimp only at P2;split at P2
      ·rename_i hc;cases ew:fs.lookup f with
       |none=>simp only[ew]at P2;exact P2.elim
       |some w=>
         simp only[ew]at P2;obtain⟨w',ew',rw'⟩:=wu r ew;have k:=hf c (by simpa using hc);rw[←hK]at k;exact⟨aa,_,dx,ws,w',rfl,z,k.1,k.2,ew',Post.here R1 P2 _ rw'⟩
      ·exact P2.elim
    |_=>exact P2.elim
  |_=>exact P1.elim
theorem oq{β:Type}{n:Nat}{o:MO}{k:Unit->M β}{Q:β->List af->MH->Hp->Prop}{aa:af}(R:HR G m h H)(e:m[n]?=some aa)(P:Post G X E EX m H (bnd (put n o) k h) Q):Post G X E EX m H (k () (h.set n o)) Q:=by
 have hn:n<h.length:=by rw[←R.len];exact(bN.mp e).1
 simpa only[bnd,put,hn,if_true] using P
theorem fI{f:String}{cs:List Nat}(ho:GE G X o go)(he:GE G X e ge)(hf:bc G cs f)(hs:swapsWith e (some (.Attribute o (aQ f) pos')) pos.line X.env=pure false:=by rfl)(hK:X.K=G.K:=by rfl) :
  GS G EX X (.Assign [.Attribute o (aQ f) pos'] e pos) (ee go cs f ge):=λE hp=>
 gI (GJ (X:=X.wish E) (ho E EX) (he E EX) hs) λD σ' H e0=>b8 e0 λm h σ ex S R P=>sub ex S R P λv m1 h1 H1 v' x1 R1 r1 P1=>sub ex (S.mono x1) R1 P1 λw m2 h2 H2 w' x2 R2 r2 P2=>by
  cases w with
  |ref n=>
    obtain⟨aa,ea,rfl⟩:=r2;obtain⟨oa,e1,q1,P3⟩:=cy R2 ea P2;cases oa with
    |ins c fs=>
      obtain⟨dx,ws,r,z⟩:=q1;dsimp only at P3;split at P3
      ·rename_i hl;have k:=hf c (by simpa using hl.1);rw[←hK]at k;refine⟨aa,_,dx,ws,rfl,z,k.1,k.2,by rw[←Paired.length r];exact hl.2,?_⟩;have P4:=oq R2 ea P3;have x3:Ext m2 H2 m2 (upd H2 aa (.ins (G.cl c) dx (L2.putF (aQ f) v' ws))):=Ext.upd ea z;exact P4 _ _ x3 (R2.upd ea (λo' ys z'=>by rw[z]at z';cases z') ⟨dx,_,FR.mono x3.mn (uj (x2.vr r1) r),dw⟩) σ' (((S.mono x1).mono x2).mono x3)
      ·exact P3.elim
    |_=>exact P3.elim
  |_=>exact P2.elim
def GN:V->V->V->Hp->(Hp->Prop)->Prop:=λo i v H Q=>∃a H4,o=.ref a/\DPut H a i v H4/\Q H4
def pD:V->V->V->Hp->(Hp->Prop)->Prop:=λo i v H Q=>BQ o i v H Q∨GN o i v H Q
theorem hZ(hu:X.A.units+1<cLine):PSet X pD:=by
 intro pins s σ H o i v ov iv u Q I ro ri rv q;rcases q with q|⟨a,H4,eo,g,q⟩
 ·exact E3 pins s σ H o i v ov iv u Q I ro ri rv q
 ·subst eo;cases ro;exact HG hu I g ri rv λs4 I4=>⟨H4,I4,q⟩
theorem Az{β:Type}{k:Unit->M β}{Q:β->List af->MH->Hp->Prop}{x y v:MV}{x' y' v':V}(R:HR G m h H)(rx:VR G m H x x')(ry:VR G m H y y')(rv:VR G m H v v')(P:Post G X E EX m H (bnd (iU x y v) k h) Q) :
  pD x' y' v' H λH'=>∃h',Ext m H m H'/\HR G m h' H'/\Post G X E EX m H' (k () h') Q:=by
 have P:=Post.bind P;cases x with
 |ref n=>cases y with
   |int i=>
     obtain⟨aa,ea,rfl⟩:=rx;obtain⟨oa,e1,q1,P4⟩:=cy R ea P;cases oa with
     |lst xs=>
       obtain⟨vs,r,z⟩:=q1;dsimp only at P4;cases ej:ixN xs.length i with
       |none=>simp only[ej]at P4;exact P4.elim
       |some j=>
         simp only[ej]at P4;have hj:L2.ixN vs.length i=some j:=by rw[←Paired.length r];exact ej
         refine .inl ⟨aa,vs,i,j,rfl,ry,z,hj,?_⟩;have hn:n<h.length:=by rw[←R.len];exact(bN.mp ea).1
         have x4:Ext m H m (upd H aa (.lst (vs.set j v'))):=Ext.upd ea z;simp only[put,hn,if_true]at P4;have R4:=R.upd (u:=.lst (vs.set j v')) (o:=.lst (xs.set j v)) ea (λo' ys z'=>by rw[z]at z';cases z') ⟨_,x4.vrs (wQ rv j r),dw⟩;exact⟨_,x4,R4,P4 _ _ x4 R4⟩
     |_=>exact P4.elim
   |str i=>
     obtain⟨aa,ea,rfl⟩:=rx;obtain⟨oa,e1,q1,P4⟩:=cy R ea P;cases oa with
     |dct kvs=>
       obtain⟨ws,r,z⟩:=q1;dsimp only at P4;split at P4
       ·rename_i hz;cases(show y'=V.str i from ry);refine .inr ⟨aa,_,rfl,DPut.k (k:=Sum.inr i) z (by rw[←Paired.length r];exact dN hz (small (bo _))),?_⟩
        have hn:n<h.length:=by rw[←R.len];exact(bN.mp ea).1
        have x4:Ext m H m (upd H aa (.dK (eU ws (Sum.inr i) v'))):=Ext.upd ea z;simp only[put,hn,if_true]at P4;have R4:=R.upd (u:=.dK (eU ws (Sum.inr i) v')) (o:=.dct (dput i v kvs)) ea (λo' ys z'=>by rw[z]at z';cases z') ⟨_,DR.mono x4.mn (zD rv r),dw⟩;exact⟨_,x4,R4,P4 _ _ x4 R4⟩
       ·exact P4.elim
     |_=>exact P4.elim
   |_=>exact P.elim
 |_=>exact P.elim
theorem iq(ho:GE G X o go)(hi:GE G X i gi)(he:GE G X e ge)(hs:swapsWithSole [.Subscript o i pos'] e pos.line X.env=pure false:=by rfl)(hw:swappedStores [.Subscript o i pos'] e X.env=pure none:=by rfl)
  (h1:(assignEach [.Subscript o i pos'] X.env).map (·.2)=[assign (.Subscript o i pos') X.env]:=by rfl) (hg:∀E t t',PE (X.wish E) o t->PE (X.wish E) i t'->PG (X.wish E) (.Subscript o i pos') (yd t t' pD)) :
  GS G EX X (.Assign [.Subscript o i pos'] e pos) (f9 go gi ge):=λE hp=>
 gI (Ab (X:=X.wish E) (he E EX) (hg E _ _ (ho E EX) (hi E EX)) hs hw h1) λD σ' H e0=>b8 e0 λm h σ ex S R P=>sub ex S R P λv m1 h1 H1 v' x1 R1 r1 P1=>sub ex (S.mono x1) R1 P1 λw m2 h2 H2 w' x2 R2 r2 P2=>
  sub ex ((S.mono x1).mono x2) R2 P2 λy m3 h3 H3 y' x3 R3 r3 P3=>by
   rcases Az R3 (x3.vr r2) r3 ((x2.trans x3).vr r1) P3 with q|q
   ·obtain⟨p,xs,k,j,e1,e2,e3,e4,h4,x4,R4,P4⟩:=q;exact .inl ⟨p,xs,k,j,e1,e2,e3,e4,Post.here R4 P4 σ' ((((S.mono x1).mono x2).mono x3).mono x4)⟩
   ·obtain⟨a,H4,e1,g,h4,x4,R4,P4⟩:=q;exact .inr ⟨a,H4,e1,g,Post.here R4 P4 σ' ((((S.mono x1).mono x2).mono x3).mono x4)⟩
end
theorem Ao{c:aw}{body:List aT}{gc:ME}{gb:MS}{pos:Pos}(hc:GT G X c gc)(hb:GSs G ET X body gb):GS G ET X (.While c body [] pos) (qI gc gb):=λE hp=>
 gI (DF (X:=X.wish E) hp (hc E ET) (hb E hp)) λD σ' H e0=>b8 e0 λm h σ ex S R P=>by
  let QD:MF->List af->MH->Hp->Prop:=λf m' _ H'=>match f with
   |.next σ1=>∀σ1',SR G m' H' σ1 σ1'->D.nx σ1' H'
   |.brk σ1=>∀σ1',SR G m' H' σ1 σ1'->D.bk σ1' H'
   |.cnt σ1=>∀σ1',SR G m' H' σ1 σ1'->D.ct σ1' H'
   |.ret v=>∀v',VR G m' H' v v'->D.rt v' H'
  refine⟨λn σ2' H2=>∃m2 h2 σ2,SR G m2 H2 σ2 σ2'/\HR G m2 h2 H2/\Post G X E ET m2 H2 (kU gc gb n σ2 h2) QD,⟨1000,m,h,σ,S,R,P⟩,?_⟩;rintro n σ2' H2 ⟨m2,h2,σ2,S2,R2,P2⟩;cases n with
  |zero=>exact P2.elim
  |succ n=>
    refine sk (σ:=σ2) trivial S2 R2 P2 λk m3 h3 H3 x3 R3 P3=>?_;cases k with
    |false=>
      rw[if_neg cK];exact Post.here R3 P3 σ2' (S2.mono x3)
    |true=>
      rw[if_pos rfl];refine⟨λσ4' H4=>∃m4 h4 σ4,SR G m4 H4 σ4 σ4'/\HR G m4 h4 H4/\Post G X E ET m4 H4 (kU gc gb n σ4 h4) QD,λσ4' H4 q=>⟨n,uH n,q⟩,?_⟩;refine⟨m3,h3,σ2,trivial,S2.mono x3,R3,(Post.bind P3).mono λf m4 h4 H4 x4 R4 P4=>?_⟩;cases f with
      |next σ4=>exact λσ4' S4=>⟨m4,h4,σ4,S4,R4,P4⟩
      |cnt σ4=>exact λσ4' S4=>⟨m4,h4,σ4,S4,R4,P4⟩
      |brk σ4=>exact Post.here R4 P4
      |ret v=>exact Post.here R4 P4
def Row(G:Gb)(m:List af)(H:Hp)(one:Bool)(vs:List MV)(x:V):Prop:=if one=true then ∃v,vs=[v]/\VR G m H v x else VR G m H (.tup vs) x
def JOk(G:Gb)(J:It)(s:Src)(one:Bool)(k:Nat)(m0:List af)(H0:Hp):Prop:=∀m h H,Ext m0 H0 m H->HR G m h H->s.okIn h=true ->
 (∀i vs,s.items[i]?=some vs->vs.length=k/\J.go i H/\∀x H',J.yld i H x H'->Ext m H m H'/\HR G m h H'/\Row G m H' one vs x)/\J.stop s.items.length H
def GI(G:Gb)(X:Cx)(tg iter:aw)(one:Bool)(k:Nat)(gi:MI):Prop:=∀E EX,∃wi,PI (X.wish E) tg iter wi/\∀σ' H R,(∃m h σ,EX σ'/\SR G m H σ σ'/\HR G m h H/\Post G X E EX m H (gi σ h) λs m1 h1 H1=>∀J,JOk G J s one k m1 H1->R J H1)->wi σ' H R
def GTg(G:Gb)(X:Cx)(tg:aw)(one:Bool)(is:List Nat):Prop:=∀E,∃g,PG (X.wish E) tg g/\∀m H vs x σ σ' Q,SR G m H σ σ'->Row G m H one vs x->vs.length=is.length->(∀σ1',SR G m H (cj is vs σ) σ1'->Q σ1' H)->g x σ' H Q
theorem c8{n:Nat}{x:Str}{pos:Pos}(hN:X.N.Nodup)(hi:X.N[n]?=some x:=by rfl)(hx:Loc X.env.scope x:=by first|exact Or.inl rfl|exact Or.inr rfl)(hf:X.fn x=true∨X.env.scope.names.lookup x=some .local:=by first|exact .inl rfl|exact .inr rfl):GTg G X (.Name x pos) true [n]:=λE=>
 ⟨qv n,ym (X:=X.wish E) hN hi hx hf,λm H vs v σ σ' Q S r hl q=>by
  obtain ⟨w,rfl,rw'⟩:=r;exact q _ (S.set n rw')⟩
def GTn(G:Gb)(X:Cx)(es:List aw)(is:List Nat):Prop:=∀E,∃g,PGs (X.wish E) es g/\∀m H vs xs σ σ' Q,SR G m H σ σ'->VRs G m H vs xs->vs.length=is.length->(∀σ1',SR G m H (cj is vs σ) σ1'->Q σ1' H)->g xs σ' H Q
theorem jN:GTn G X [] []:=λE=>⟨Ar,FU,λm H vs xs σ σ' Q S r hl q=>by
 cases r with
 |nil=>exact⟨rfl,q _ S⟩
 | cons _ _=>simp at hl⟩
theorem fF{n:Nat}{x:Str}{pos:Pos}{es:List aw}{is:List Nat}(h:GTn G X es is)(hN:X.N.Nodup)(hi:X.N[n]?=some x:=by rfl)(hx:Loc X.env.scope x:=by first|exact Or.inl rfl|exact Or.inr rfl)(hf:X.fn x=true∨X.env.scope.names.lookup x=some .local:=by first|exact .inl rfl|exact .inr rfl)
  (hs:(assignEach (.Name x pos::es) X.env).map (·.2)=assign (.Name x pos) X.env::(assignEach es X.env).map (·.2):=by rfl):GTn G X (.Name x pos::es) (n::is):=λE=>by
 obtain⟨g,pg,hg⟩:=h E;refine⟨yf (qv n) g,Cl (X:=X.wish E) (ym (X:=X.wish E) hN hi hx hf) pg hs,λm H vs xs σ σ' Q S r hl q=>?_⟩;cases r with
 |nil=>simp at hl
 |cons r t=>exact⟨_,_,rfl,hg m H _ _ _ _ _ (S.set n r) t (by simpa using hl) q⟩
theorem kq{es:List aw}{k:Nat}{is:List Nat}{pos:Pos}(h:GTn G X es is)(hl:(assignEach es X.env).length=is.length:=by rfl)(hst:(assignEach es X.env).findIdx? (·.1)=none:=by rfl)(hc:X.calm=true:=by rfl)(hK:X.K=G.K:=by rfl):GTg G X (.Tuple es k pos) false is:=λE=>by
 obtain⟨g,pg,hg⟩:=h E;refine⟨yU X.K is.length g,Ck (X:=X.wish E) hc pg hl hst,λm H vs x σ σ' Q S r hl' q=>?_⟩;obtain⟨a,ws,rfl,_,z,t⟩:=(show ∃a ws,x=.ref a/\a∉m/\H a=some (.tup ws)/\VRl G m H vs ws from r);have t:=VRl.to t;exact⟨a,ws,rfl,SqT.of z,by rw[←Paired.length t];exact hl',hg m H vs ws σ σ' Q S t hl' q⟩
theorem dW{tg iter:aw}{body:List aT}{gi:MI}{gb:MS}{one:Bool}{is:List Nat}{pos:Pos}(hi:GI G X tg iter one is.length gi)(hg:GTg G X tg one is)(hb:GSs G ET X body gb)(hc:X.calm=true:=by rfl)(hs:∀x,foldedSetIterable iter X.env x=pure x:=by intro _;rfl) :
  GS G ET X (.For tg iter body [] pos) (dC is gi gb):=λE hp=>by
 obtain⟨wi,pw,hw⟩:=hi E ET;obtain⟨g,pg,hg⟩:=hg E;refine gI (AD (X:=X.wish E) hp hc pw pg (hb E hp) hs) λD σ' H e0=>b8 e0 λm h σ ex S R P=>?_
 let QD:MF->List af->MH->Hp->Prop:=λf m' _ H'=>match f with
  |.next σ1=>∀σ1',SR G m' H' σ1 σ1'->D.nx σ1' H'
  |.brk σ1=>∀σ1',SR G m' H' σ1 σ1'->D.bk σ1' H'
  |.cnt σ1=>∀σ1',SR G m' H' σ1 σ1'->D.ct σ1' H'
  |.ret v=>∀v',VR G m' H' v v'->D.rt v' H'
 refine hw σ' H _ ⟨m,h,σ,trivial,S,R,(Post.bind P).mono λs m1 h1 H1 x1 R1 P1 J hJ=>?_⟩;refine ⟨λk n' σ2' H2=>n'=s.items.length - k/\k≤s.items.length/\∃m2 h2 σ2,Ext m1 H1 m2 H2/\SR G m2 H2 σ2 σ2'/\HR G m2 h2 H2/\Post G X E ET m2 H2 (dZ s is gb (s.items.drop k) σ2 h2) QD,
  ⟨s.items.length,rfl,fB _,m1,h1,σ,.refl,S.mono x1,R1,P1⟩,?_⟩
 rintro k n' σ2' H2 ⟨rfl,hk,m2,h2,σ2,pre2,S2,R2,P2⟩;by_cases hlt:k<s.items.length
 ·have ed:s.items.drop k=s.items[k]::s.items.drop (k+1):=(mV hlt);rw[ed]at P2;unfold dZ at P2;split at P2
  ·rename_i hok;obtain⟨j1,_⟩:=hJ m2 h2 H2 pre2 R2 hok;obtain⟨lv,go,yl⟩:=j1 k s.items[k] (by simp[hlt]);refine .inr ⟨go,λσ4' H4=>∃m4 h4 σ4,Ext m1 H1 m4 H4/\SR G m4 H4 σ4 σ4'/\HR G m4 h4 H4/\Post G X E ET m4 H4 (dZ s is gb (s.items.drop (k+1)) σ4 h4) QD,λσ4' H4 q=>⟨s.items.length-(k+1),by lia,rfl,hlt,q⟩,λx H' y=>?_⟩;obtain⟨x3,R3,rx⟩:=yl x H' y;refine hg m2 H' _ x σ2 σ2' _ (S2.mono x3) rx lv λσ3' S3=>?_;refine⟨m2,h2,cj is s.items[k] σ2,trivial,S3,R3,((Post.bind P2).ext x3).mono λf m4 h4 H4 x4 R4 P4=>?_⟩;have pre4:Ext m1 H1 m4 H4:=pre2.trans (x3.trans x4);cases f with
   |next σ4=>exact λσ4' S4=>⟨m4,h4,σ4,pre4,S4,R4,P4⟩
   |cnt σ4=>exact λσ4' S4=>⟨m4,h4,σ4,pre4,S4,R4,P4⟩
   |brk σ4=>exact Post.here R4 P4
   |ret v=>exact Post.here R4 P4
  ·exact P2.elim
 ·have e:k=s.items.length:=by lia
  subst e;rw[r6]at P2;unfold dZ at P2;split at P2
  ·rename_i hok;obtain⟨_,st⟩:=hJ m2 h2 H2 pre2 R2 hok;exact .inl ⟨st,Post.here R2 P2 σ2' S2⟩
  ·exact P2.elim
theorem FW{n:Nat}{a:af}{xs:List MV}(K:PySem.W.Frag)(ea:m[n]?=some a):JOk G (Itl K a) ⟨xs.map λv=>[v],[(n,xs)]⟩ true 1 m H:=by
 intro m2 h2 H2 pre R ok;have ea2:m2[n]?=some a:=pre.get ea;have eo:h2[n]?=some (.lst xs):=by simpa[Src.okIn,iO] using ok
 obtain⟨vs,r,z⟩:=R.ob n a _ ea2 eo;refine⟨λi ws ei=>?_,⟨vs,SqL.of z,by simp[Paired.length r]⟩⟩;rw[bj]at ei;cases ev:xs[i]? with
 |none=>rw[ev]at ei;cases ei
 |some v=>
   rw[ev]at ei;cases ei;obtain⟨v',e1,rv⟩:=ij r ev;refine⟨rfl,⟨vs,v',SqL.of z,e1⟩,λx H' y=>?_⟩;obtain⟨rfl,y2⟩:=y;have:=y2 vs (SqL.of z);rw[e1]at this;cases this;exact⟨.refl,R,v,rfl,rv⟩
theorem fq{tg l:aw}{gl:ME}(hl:GE G X l gl):GI G X tg l true 1 (c9 gl):=λE EX=>by
 refine⟨_,yG (X:=X.wish E) (hl E EX),λσ' H R e0=>b8 e0 λm h σ ex S Rr P=>?_⟩;refine sub ex S Rr P λv m1 h1 H1 v' x1 R1 r1 P1=>?_;cases v with
 |ref n=>
   obtain⟨aa,ea,rfl⟩:=r1;obtain⟨oa,e1,q1,P2⟩:=cy R1 ea P1;cases oa with
   |lst xs=>
     obtain⟨vs,r,z⟩:=q1;exact⟨aa,rfl,⟨vs,SqL.of z⟩,Post.here R1 P2 _ (FW _ ea)⟩
   |_=>exact P2.elim
 |_=>exact P1.elim
theorem A3{k:Nat}:∀{xs:List MV}{rs:List (List MV)}{i:Nat}{vs:List MV},fU k xs=some rs->rs[i]?=some vs->xs[i]?=some (.tup vs)/\vs.length=k
 |[],rs,i,vs,e,g=>by
   cases(show([]:List (List MV))=rs from Option.some.inj e);simp at g
 |.tup ys::xs,rs,i,vs,e,g=>by
   unfold fU at e;split at e
   ·rename_i hk;cases er:fU k xs with
    |none=>rw[er]at e;cases e
    |some r'=>
      rw[er]at e;cases e;cases i with
      |zero=>simp at g;subst g;exact⟨rfl,hk⟩
      |succ i=>exact A3 (i:=i) er (by simpa using g)
   ·cases e
 |.non::xs,rs,i,vs,e,g=>by cases e
 |.bl _::xs,rs,i,vs,e,g=>by cases e
 |.int _::xs,rs,i,vs,e,g=>by cases e
 |.str _::xs,rs,i,vs,e,g=>by cases e
 |.ref _::xs,rs,i,vs,e,g=>by cases e
 |.scr _::xs,rs,i,vs,e,g=>by cases e
 |.any::xs,rs,i,vs,e,g=>by cases e
theorem As{k:Nat}:∀{xs:List MV}{rs:List (List MV)},fU k xs=some rs->rs.length=xs.length
 |[],rs,e=>by cases(show([]:List (List MV))=rs from Option.some.inj e);rfl
 |.tup ys::xs,rs,e=>by
   unfold fU at e;split at e
   ·cases er:fU k xs with
    |none=>rw[er]at e;cases e
    |some r'=>rw[er]at e;cases e;simp[As er]
   ·cases e
 |.non::xs,rs,e=>by cases e
 |.bl _::xs,rs,e=>by cases e
 |.int _::xs,rs,e=>by cases e
 |.str _::xs,rs,e=>by cases e
 |.ref _::xs,rs,e=>by cases e
 |.scr _::xs,rs,e=>by cases e
 |.any::xs,rs,e=>by cases e
theorem CM{n k:Nat}{a:af}{xs:List MV}{rs:List (List MV)}(K:PySem.W.Frag)(ea:m[n]?=some a)(er:fU k xs=some rs):JOk G (Itl K a) ⟨rs,[(n,xs)]⟩ false k m H:=by
 intro m2 h2 H2 pre R ok;have ea2:m2[n]?=some a:=pre.get ea;have eo:h2[n]?=some (.lst xs):=by simpa[Src.okIn,iO] using ok
 obtain⟨vs,r,z⟩:=R.ob n a _ ea2 eo;refine⟨λi ws ei=>?_,⟨vs,SqL.of z,by rw[As er,Paired.length r];exact bo _⟩⟩;obtain⟨ev,hk⟩:=A3 er ei;obtain⟨v',e1,rv⟩:=ij r ev;refine⟨hk,⟨vs,v',SqL.of z,e1⟩,λx H' y=>?_⟩;obtain⟨rfl,y2⟩:=y;have:=y2 vs (SqL.of z);rw[e1]at this;cases this;exact⟨.refl,R,rv⟩
theorem wr{k:Nat}{tg l:aw}{gl:ME}(hl:GE G X l gl):GI G X tg l false k (lM k gl):=λE EX=>by
 refine⟨_,yG (X:=X.wish E) (hl E EX),λσ' H R e0=>b8 e0 λm h σ ex S Rr P=>?_⟩;refine sub ex S Rr P λv m1 h1 H1 v' x1 R1 r1 P1=>?_;cases v with
 |ref n=>
   obtain⟨aa,ea,rfl⟩:=r1;obtain⟨oa,e1,q1,P2⟩:=cy R1 ea P1;cases oa with
   |lst xs=>
     obtain⟨vs,r,z⟩:=q1;dsimp only at P2;cases er:fU k xs with
     |none=>simp only[er]at P2;exact P2.elim
     |some rs=>
       simp only[er]at P2;exact⟨aa,rfl,⟨vs,SqL.of z⟩,Post.here R1 P2 _ (CM _ ea er)⟩
   |_=>exact P2.elim
 |_=>exact P1.elim
theorem zV{lo:Int}{n:Nat}:JOk G (Itr lo n) ⟨dE lo n,[]⟩ true 1 m H:=by
 intro m2 h2 H2 _ R ok;refine⟨λi vs ei=>?_,by simp[dE,Itr]⟩;have hi:i<n:=by
  have:=(bN.mp ei).1;simpa[dE] using this
 unfold dE at ei;rw[bj,gR hi]at ei;cases ei;refine⟨rfl,hi,λx H' y=>?_⟩;obtain⟨rfl,y2⟩:=y;exact⟨.refl,R,_,rfl,y2⟩
theorem ka{tg a:aw}{ga:ME}{p pos:Pos}(ha:GE G X a ga)(hm:X.mg "range"=none)(hg:Gl X "range":=by rfl)(hs:aV [a] X.env=[(false,aO a X.env)]:=by rfl):GI G X tg (.Call (.Name "range" p) [a] [] pos) true 1 (fX ga):=λE EX=>by
 refine⟨_,FV (X:=X.wish E) hg hm (ha.a1 hs E EX) hs,λσ' H R e0=>b8 e0 λm h σ ex S Rr P=>?_⟩;refine sub ex S Rr P λv m1 h1 H1 v' x1 R1 r1 P1=>?_;cases v with
 |int j=>
   cases(show v'=V.int j from r1);dsimp only at P1
   split at P1
   ·rename_i c;exact⟨j,rfl,c.1,c.2,Post.here R1 P1 _ zV⟩
   ·exact P1.elim
 |_=>exact P1.elim
theorem AG{tg a b:aw}{ga gb:ME}{p pos:Pos}(ha:GE G X a ga)(hb:GE G X b gb)(hm:X.mg "range"=none)(hg:Gl X "range":=by rfl)(hs:aV [a,b] X.env=[(false,aO a X.env),(false,aO b X.env)]:=by rfl)
  (hs2:aV [b] X.env=[(false,aO b X.env)]:=by rfl):GI G X tg (.Call (.Name "range" p) [a,b] [] pos) true 1 (i5 ga gb):=λE EX=>by
 refine⟨_,Hr (X:=X.wish E) hg hm (i7 (X:=X.wish E) (ha E EX) (hb.a1 hs2 E EX) (by show aV [a,b] X.env=(false,aO a X.env)::aV [b] X.env;rw[hs,hs2])) hs hs2,λσ' H R e0=>b8 e0 λm h σ ex S Rr P=>?_⟩;refine sub ex S Rr P λv m1 h1 H1 v' x1 R1 r1 P1=>sub ex (S.mono x1) R1 P1 λw m2 h2 H2 w' x2 R2 r2 P2=>?_;cases v with
 |int i=>cases w with
   |int j=>
     cases(show v'=V.int i from r1);cases(show w'=V.int j from r2);dsimp only at P2
     split at P2
     ·rename_i c;exact⟨i,j,rfl,c,Post.here R2 P2 _ zV⟩
     ·exact P2.elim
   |_=>exact P2.elim
 |_=>exact P2.elim
def lT(C a:af)(ok:af->Prop)(hp:aP):Prop:=
 ∃oe vs T oT ts,hp.get? a=some oe/\oe.cls=.ref C/\oe.dict=none/\oe.data=.fields vs/\1<vs.size/\ok a/\vs[1]?=some (.ref T)/\T≠a/\hp.get? T=some oT/\oT.data=.fields ts/\3<ts.size/\ok T
theorem lT.sh{C a:af}{ok:af->Prop}{hp:aP}(x:lT C a ok hp):lF C a ok hp:=by
 obtain⟨oe,vs,T,oT,ts,a1,a2,a3,a4,a5,a6,b1,b2,b3,b4,b5,b6⟩:=x;exact⟨oe,vs,a1,a2,a3,a4,a5,a6,.inr ⟨T,oT,ts,b1,b2,b3,b4,b5,b6⟩⟩
section
variable {M:Model}{A:bB}{pins:List (af×aE)}{s:ak}{C a:af}{Q:Unit->ak->Prop}
theorem Fp.of{b:af}(I:Inv X pins σ' H s)(e:s.heap.get? b=none)(n:H' b=none):Fp X pins H' b:=by
 have ne:∀c o,s.heap.get? c=some o->c≠b:=λc o q z=>by rw[z,e]at q;cases q
 refine⟨n,?_,λz=>?_,?_,λx c q=>?_,λp hp=>?_⟩
 ·obtain⟨_,⟨o,_,_,ho,_⟩,_⟩:=I.loc;exact λz=>ne _ o ho z.symm
 ·obtain⟨_,o,ho,_⟩:=I.funs.mem z;exact ne _ o ho rfl
 ·by_cases hx:b∈X.ex
  ·exact .inl hx
  ·cases q:X.s₀.heap.get? b with
   |none=>exact .inr rfl
   |some o=>
     obtain⟨o',q'⟩:=I.base.there b o q hx;exact absurd rfl (ne b o' q')
 ·obtain⟨v,o,ho,_⟩:=I.cell x c q;exact ne c o ho
 ·exact ne _ _ (I.pin p hp).1
theorem Fp.turned{b:af}{h':aP}{t':Nat}(f:Fp X pins H b)(I:Inv X pins σ' H s)(k:∀c o,c≠b->s.heap.get? c=some o->h'.get? c=some o):Inv X pins σ' H { s with heap:=h',toks:=t' }:=by
 have n0:∀c o,X.s₀.heap.get? c=some o->c∉X.ex->c≠b:=λc o q hx z=>by
  rcases f.new with y|y
  ·exact hx (z▸y)
  ·rw[z,y]at q;cases q
 have ck:∀x c v,X.env.cells.lookup x=some c->s.heap.IsCell c v->h'.IsCell c v:=λx c v q e0=>e0.elim λo e1=>e1.elim λho hd=>⟨o,k c o (f.ce x c q) ho,hd⟩;refine⟨I.ok,I.os,I.bare,⟨λc o q n hb hx=>k c o (n0 c o q hx) (I.base.keep c o q n hb hx),λc o q n hb hx=>?_,λc o q n hx=>I.base.free c o q n hx,λc o q hx=>?_,I.base.tups,I.base.frzs,I.base.tbls⟩,?_,λx c q=>?_,I.free,I.freeC,λp hp=>?_,λc u e=>?_,I.len⟩
 ·obtain⟨sl,z⟩:=I.base.slot c o q n hb hx;exact⟨sl,k c _ (n0 c o q hx) z⟩
 ·obtain⟨o',z⟩:=I.base.there c o q hx;exact⟨o',k c o' (n0 c o q hx) z⟩
 ·obtain⟨mm,⟨o,es,ep,ho,r⟩,hl⟩:=I.loc;refine⟨mm,⟨o,es,ep,k _ o (Ne.symm f.loc) ho,r⟩,λi x v e1 e2 e3=>?_⟩;obtain⟨u,ru,l⟩:=hl i x v e1 e2 e3;refine⟨u,ru,?_⟩;rcases l with l|⟨kk,c,e,z⟩
  ·exact .inl l
  ·exact .inr ⟨kk,c,e,ck x c _ e z⟩
 ·obtain⟨v,z⟩:=I.cell x c q;exact⟨v,ck x c v q z⟩
 ·obtain⟨a1,a2,a3,a4,a5⟩:=I.pin p hp;exact⟨k _ _ (f.pin p hp) a1,a2,a3,a4,a5⟩
 ·refine(I.hok c u e).stay (λd v hd q=>k d v ?_ q) (λ_ q=>q) λ_ _ q=>q;rcases hd with z|z
  ·rw[z];exact λy=>by rw[y,f.un]at e;cases e
  ·exact λy=>by rw[y,f.un]at z;cases z
theorem A4{fr:Option af}(I:Inv X pins σ' H s)(x:lT C a (Fp X pins H) s.heap)(k:∀s',Inv X pins σ' H s'->lT C a (Fp X pins H) s'.heap->Q () s'):aB M A (setFlight (.ref a) fr) Q E s:=by
 obtain⟨oe,vs,T,oT,ts,a1,a2,a3,a4,a5,a6,b1,b2,b3,b4,b5,b6⟩:=x;unfold setFlight;refine aC (wpAny_field a1 a4 b1 ?_);rw[if_pos (show(Value.ref T != Value.none)=true from by simp)];have hd:=Obj.data_mapFields b4 (·.setIfInBounds 3 (fr.elim Value.none λf=>rawInt f));refine wpAny_setField b3 b4 b5 (k { s with heap:=s.heap.update T (Obj.mapFields (·.setIfInBounds 3 (fr.elim Value.none λf=>rawInt f))) } (b6.turned (t':=s.toks) I λc o hc q=>?_) ⟨oe,vs,T,_,_,?_,a2,a3,a4,a5,a6,b1,b2,qu _ b3 (Obj.isFreed_of_fields hd),hd,by simpa using b5,b6⟩)
 ·exact(jv _ _ (Ne.symm hc)).trans q
 ·exact(jv _ _ b2).trans a1
theorem Inv.slots{h':aP}(I:Inv X pins σ' H s)(hs:Heap.SlotsOnly (frs X.stack) s.heap h'):Inv X pins σ' H { s with heap:=h' }:=by
 have nt:∀b u,H b=some u->b∉frs X.stack:=λb u e z=>by rw[I.stkFree b z]at e;cases e
 refine I.call' (s':={ s with heap:=h' }) (ch:=[]) rfl ?_ ?_ I.bare (λb z=>absurd z (by simp))
 ·exact⟨λb o e n nf _=>(hs.2.1 b nf).trans e,λb o e n _ _=>hs.2.2 b o e,λb o e n _=>n,λb o e _=>let ⟨sl,q⟩:=hs.2.2 b o e;⟨_,q⟩,λb xs e=>e,λb o u e=>e,λb ps e=>⟨#[],by rw[e];simp⟩⟩
 ·intro b u e;refine(I.hok b u e).stay (λc v hc q=>?_) (λ_ q=>q) λ_ _ q=>q;rcases hc with z|z
  ·rw[z]at q ⊢;exact(hs.2.1 b (nt b u e)).trans q
  ·exact(hs.2.1 c (nt c _ z)).trans q
theorem xL{head:ai}{hn:Bool}(hfr:A.frames=some (X.env::X.outer))(hst:X.stack=X.env::X.outer)(hf:X.env.frame=some X.env.locals)(I:Inv X pins σ' H s)(x:Exc X pins H C a s)
  (k:∀s',Inv X pins σ' H s'->lT C a (Fp X pins H) s'.heap->Q () s') :
  aB M A (do let b ←frameOf X.env;let pl ←entryPlaceOf X.env.locals hn;let t ←EntryCells.newEntry head b .none (rawInt X.env.locals) .none pl;setField (.ref a) 1 t) Q E s:=by
 obtain⟨oe,vs,a1,a2,a3,a4,a5,a6,a7⟩:=id x;have hl:s.heap.FunFrames X.base (X.env::X.outer):=hst▸I.stack;refine aC (wpAny_frameOf_fun hfr hl hf λh₁ hs₁=>?_);refine aC (wpAny_entryPlaceOf λpl hpl=>?_);unfold EntryCells.newEntry newFields;refine aC (wpAny_newObj_type ?_ (hpl.sizeOk5 _ _ _ _ _));have hne:a∉frs X.stack:=λhm=>by
  rw[hst]at hm;obtain⟨_,o,ho,hnf⟩:=hl.mem hm;rw[a1]at ho;cases ho;exact hnf vs a4
 have I₁:Inv X pins σ' H { s with heap:=h₁ }:=Inv.slots I (by rw[hst];exact hs₁);have e₁:h₁.get? a=some oe:=(hs₁.2.1 a (by rw[hst]at hne;exact hne)).trans a1;have e₂:=bI (h:=h₁) { cls:=.type "traceback",dict:=none,data:=.fields ([head,.ref X.env.locals,.none,rawInt X.env.locals,.none]++(if pl.isEmpty then bU 6 Value.none else pl)).toArray } e₁;have I₂:=I₁.kept (t':=s.toks) (h':=h₁.push { cls:=.type "traceback",dict:=none,data:=.fields ([head,.ref X.env.locals,.none,rawInt X.env.locals,.none]++(if pl.isEmpty then bU 6 Value.none else pl)).toArray }) λb o e=>bI _ e;have hTa:h₁.objs.size≠a:=jb (bD e₁);have fT:Fp X pins H h₁.objs.size:=Fp.of I₁ (mh (bo _)) (I₁.hok.fresh (bo _));have hd:=Obj.data_mapFields a4 (·.setIfInBounds 1 (Value.ref h₁.objs.size));refine wpAny_setField e₂ a4 a5 (k _ (a6.turned (t':=s.toks) I₂ λc o hc q=>(jv _ _ (Ne.symm hc)).trans q) ?_);have hT:=(jv (h₁.push { cls:=.type "traceback",dict:=none,data:=.fields ([head,.ref X.env.locals,.none,rawInt X.env.locals,.none]++(if pl.isEmpty then bU 6 Value.none else pl)).toArray }) (Obj.mapFields (·.setIfInBounds 1 (Value.ref h₁.objs.size))) (Ne.symm hTa)).trans (eM h₁ rfl);refine⟨_,_,h₁.objs.size,_,_,qu _ e₂ (Obj.isFreed_of_fields hd),(Obj.cls_mapFields _ _).trans a2,?_,hd,by simpa using a5,a6,by simp[a5],hTa,hT,rfl,?_,fT⟩
 ·obtain⟨c,d,dt,sl⟩:=oe;cases dt <;> exact a3
 ·simp only[cE,iQ,fG,jc];lia
theorem zf(hfr:A.frames=some (X.env::X.outer))(hst:X.stack=X.env::X.outer)(hf:X.env.frame=some X.env.locals)(I:Inv X pins σ' H s)(x:Exc X pins H C a s)
  (k:∀s',Inv X pins σ' H s'->lT C a (Fp X pins H) s'.heap->Q () s'):aB M A (noteFrame (.ref a) X.env) Q E s:=by
 obtain⟨oe,vs,a1,a2,a3,a4,a5,a6,a7⟩:=id x;unfold noteFrame;simp only[hf];rcases a7 with a7|⟨T,oT,ts,b1,b2,b3,b4,b5,b6⟩
 ·refine aC (wpAny_field a1 a4 a7 ?_);rw[if_neg (by decide)];exact xL hfr hst hf I x k
 ·refine aC (wpAny_field a1 a4 b1 ?_);rw[if_pos (show(Value.ref T != Value.none)=true from by simp)];obtain⟨v3,h3⟩:∃v,ts[3]?=some v:=⟨ts[3],by simp[b5]⟩
  refine aC (wpAny_field b3 b4 h3 ?_);by_cases hq:(v3 == rawInt X.env.locals)=true
  ·rw[if_pos hq];exact bg (k s I ⟨oe,vs,T,oT,ts,a1,a2,a3,a4,a5,a6,b1,b2,b3,b4,b5,b6⟩)
  ·rw[if_neg hq];have hd:=Obj.data_mapFields b4 (·.setIfInBounds 3 Value.none);refine aC (wpAny_setField b3 b4 b5 ?_);refine xL hfr hst hf (s:={ s with heap:=s.heap.update T (Obj.mapFields (·.setIfInBounds 3 Value.none)) }) (b6.turned (t':=s.toks) I λc o hc q=>?_) ?_ k
   ·exact(jv _ _ (Ne.symm hc)).trans q
   ·exact⟨oe,vs,(jv _ _ b2).trans a1,a2,a3,a4,a5,a6,.inr ⟨T,_,_,b1,b2,qu _ b3 (Obj.isFreed_of_fields hd),hd,by simpa using b5,b6⟩⟩
end
def EB(G:Gb)(X:Cx)(EX:St->Prop)(pins:List (af×aE))(m:List af)(H:Hp)(c:Nat)(h0:MH):ai->ak->Prop:=λe s'=>
 ∃σ' m' H' a,EX σ'/\Ext m H m' H'/\HR G m' h0 H'/\Inv X pins σ' H' s'/\e=.ref a/\Exc X pins H' (G.cl c) a s'
theorem EB.passes{pins:List (af×aE)}{c:Nat}{h0:MH}(hfr:X.A.frames=some (X.env::X.outer))(hst:X.stack=X.env::X.outer)(hf:X.env.frame=some X.env.locals) :
  PassesOwn (aD X.prog X.w) X.A X.env (EB G X EX pins m H c h0):=by
 rintro e s ⟨σ',m',H',a,ex,x,R,I,rfl,q⟩;refine zf hfr hst hf I q λs1 I1 q1=>?_;unfold cameBackBy;obtain⟨oe,vs,T,oT,ts,a1,a2,a3,a4,a5,a6,b1,b2,b3,b4,b5,b6⟩:=id q1;refine aC (wpAny_field a1 a4 b1 ?_);rw[if_neg (by simp)];exact A4 I1 q1 λs2 I2 q2=>⟨σ',m',H',a,ex,x,R,I2,rfl,q2.sh⟩
def CXe(P:br)(w:aX):CXT:=λouter H s E e s'=>
 ∃a C H',e=.ref a/\s'.os=s.os/\AllBare s'.gens/\Un (frs outer) [] H H' s.heap s'.heap/\HOk P w H' s'.heap/\lF C a (λb=>s.heap.get? b=none/\H' b=none) s'.heap/\E (.ref C) none H'
def SpG(cl:Nat->af)(K:PySem.W.Frag)(n:Nat)(f:Fn):Sp:=λvs H Q E=>∃sa ns m h ms,vs.length=n/\VRs ⟨cl,K,sa,ns⟩ m H ms vs/\HR ⟨cl,K,sa,ns⟩ m h H /\
 match f ms h with
 |.ok v h'=>∀m' H' v',Ext m H m' H'->HR ⟨cl,K,sa,ns⟩ m' h' H'->VR ⟨cl,K,sa,ns⟩ m' H' v v'->Q v' H'
 |.exc c h'=>∀m' H',Ext m H m' H'->HR ⟨cl,K,sa,ns⟩ m' h' H'->E (.ref (cl c)) none H'
 |.stuck=>False
structure FnG(P:br)(w:aX)(K:PySem.W.Frag)(mg:Str->Option ai)(base:aP)(cl:Nat->af)(k:Nat)(f:af)(fd:bf)(ps:List Str)(gf:Fn):Prop where
 ok:ji P w K mg base (CXe P w) k f fd ps (SpG cl K ps.length gf)
 ar:∀ms h,gf ms h≠.stuck->ms.length=ps.length
theorem zX{E':ai->ak->Prop}{st:List aT}{t:TS}(p:PSs (X.wish E') st t)(f:∀e s',E' e s'->X.xe e s'):PSs X st t:=λpins s σ H D I hw=>
 cN (p pins s σ H D (I.wish E') hw) (λ_ _ q=>SP.unwish q) f
theorem FY{st:List aT}{t:TS}(p:X.Ok->PSs X st t):PSs X st t:=λpins s σ H D I hw=>p I.ok pins s σ H D I hw
theorem Fy{ms:List MV}{vs:List V}{N:List Str}(r:VRs G m H ms vs):SR G m H (ms.map some++bU (N.length-ms.length) none) (start N vs):=by
 refine⟨by simp[start,Paired.length r],λi v e=>?_⟩;have hi:i<ms.length:=by
  by_cases hi:i<ms.length
  ·exact hi
  ·rw[ma (by simpa using hi),jF]at e;split at e <;> cases e
 rw[gB (by simpa using hi),bj]at e;cases e1:ms[i]? with
 |none=>rw[e1]at e;cases e
 |some w=>
   rw[e1]at e;cases e;obtain⟨v',q,rv⟩:=ij r e1;refine⟨v',?_,rv⟩;unfold start;rw[gB (by simpa[←Paired.length r] using hi),bj,q]
   rfl
section
variable {P:br}{w:aX}{K:PySem.W.Frag}{mg:Str->Option ai}{base:aP}{cl:Nat->af}
theorem BT{x qual:Str}{st:aT}{f:af}{fd:bf}{N ps:List Str}{k:Nat}{g:MS}{gf:Fn}(F:Fun K x qual st f fd)(S:bC N ps (bu st))(hgf:gf=fnOf ps.length N.length g)
  (hbody:∀(cdv:ai),fd.code=cdv->∀(A:bB) (outer:List Env) (s:ak) (H:Hp) (E:XK) (sa:af) (ns:List Int),Room k (A.deeper (envOfC qual (bu st) s.heap.objs.size f cdv)) ->
   GSs ⟨cl,K,sa,ns⟩ ET (jG (CXe P w) P w K mg base N qual (bu st) f cdv A outer s H E) (k9 st) g):FnG P w K mg base cl (k + 1) f fd ps gf:=by
 subst hgf;refine⟨?_,λms h q=>?_⟩
 rotate_left
 ·unfold fnOf at q;split at q
  ·assumption
  ·exact absurd rfl q
 obtain⟨oc,od,kV,doc,pm,an,cdv,ct,osl,rfl,lk,hcd⟩:=F.ex;refine Fb lk hcd S (λvs H Q E q=>?_) λA outer s H vs Q E hr hsp=>?_
 ·obtain⟨sa,ns,m,h,ms,hl,_⟩:=q;exact hl
 ·obtain⟨sa,ns,m,h,ms,hl,rv,R,post⟩:=hsp;have hb:=hbody cdv rfl A outer s H E sa ns hr;have S0:=Fy (N:=N) rv;cases e:g (ms.map some++bU (N.length-ms.length) none) h with
  |ok fl h'=>
    refine⟨_,zX (hb (λ_ _=>False) PassesOwn.never) (λ_ _ z=>z.elim),m,h,_,trivial,S0,R,?_⟩;rw[e];unfold fnOf at post;rw[if_pos (show ms.length=ps.length from(Paired.length rv).trans hl)]at post;simp only[bnd,e]at post;intro m' H' x R';cases fl with
    |next σ1=>exact λ_ _=>post m' H' .non x R' rfl
    |ret v=>exact λv' r=>post m' H' v' x R' r
    |brk σ1=>exact post.elim
    |cnt σ1=>exact post.elim
  |exc c h'=>
    unfold fnOf at post;rw[if_pos (show ms.length=ps.length from(Paired.length rv).trans hl)]at post;simp only[bnd,e]at post;refine⟨_,FY λok=>zX (hb (EB ⟨cl,K,sa,ns⟩ _ ET [] m H c h') (EB.passes ok.frames rfl rfl)) ?_,m,h,_,trivial,S0,R,?_⟩
    ·rintro ev s' ⟨σ',m',H',a,_,x,R',I,rfl,q⟩;show aB (aD P w) _ (leaving _ (.ref a)) _ _ s';unfold leaving;refine aC (zf ok.frames rfl rfl I q λs1 I1 q1=>?_);refine A4 I1 q1 λs2 I2 q2=>⟨a,cl c,H',rfl,I2.os,I2.bare,I2.base,I2.hok,q2.sh.imp (λb fb=>⟨fb.new.elim (λz=>absurd z (by simp[jG])) id,fb.un⟩),post m' H' x R'⟩
    ·rw[e];intro pins σ' m' H' a s' _ x R' I q;exact⟨σ',m',H',a,trivial,x,R',I.pins_of (λp hp=>absurd hp (by simp)),rfl,q.imp λb fb=>⟨fb.un,fb.loc,fb.fs,fb.new,fb.ce,λp hp=>fb.pin p (mv _ (by simpa using hp))⟩⟩
  |stuck=>
    unfold fnOf at post;rw[if_pos (show ms.length=ps.length from(Paired.length rv).trans hl)]at post;simp only[bnd,e]at post
theorem bJ{x qual:Str}{st:aT}{f:af}{fd:bf}{N ps:List Str}{k:Nat}{g:MS}{gf:Fn}(F:Fun K x qual st f fd)(S:bC N ps (bu st))(hgf:gf=fnOf ps.length N.length g)
  (hbody:∀(cdv:ai) (A:bB) (outer:List Env) (s:ak) (H:Hp) (E:XK) (sa:af) (ns:List Int),Room k (A.deeper (envOfC qual (bu st) s.heap.objs.size f cdv)) ->
   GSs ⟨cl,K,sa,ns⟩ ET (jG (CXe P w) P w K mg base N qual (bu st) f cdv A outer s H E) (k9 st) g):FnG P w K mg base cl (k + 1) f fd ps gf:=BT F S hgf λcdv _=>hbody cdv
end
abbrev FnX(G:Gb)(X:Cx)(k:Nat)(f:af)(fd:bf)(ps:List Str)(gf:Fn):Prop:=FnG X.prog X.w X.K X.mg X.base G.cl k f fd ps gf
section
variable {k:Nat}{f:af}{fd:bf}{ps:List Str}{gf:Fn}{pins:List (af×aE)}{s:ak}{Q:VK}{us:List ai}{vs:List V}{ms:List MV}
def EXK(G:Gb)(m:List af)(H:Hp)(r:Res MV):XK:=λC _ H'=>match r with
 |.exc c h'=>C=.ref (G.cl c)/\∃m',Ext m H m' H'/\HR G m' h' H'
 |_=>False
theorem BU(hK:X.K=G.K)(rv:VRs G m H ms vs)(R:HR G m h H)(hl:ms.length=ps.length)(ns:gf ms h≠.stuck){Q:VK}(P:∀v h',gf ms h=.ok v h'->∀m' H' v',Ext m H m' H'->HR G m' h' H'->VR G m' H' v v'->Q v' H') :
  SpG G.cl X.K ps.length gf vs H Q (EXK G m H (gf ms h)):=by
 rw[hK];refine⟨G.sa,G.ns,m,h,ms,(Paired.length rv).symm.trans hl,rv,R,?_⟩;cases e:gf ms h with
 |ok v h'=>exact P v h' e
 |exc c h'=>exact λm' H' x R'=>⟨rfl,m',x,R'⟩
 |stuck=>exact absurd e ns
theorem xl(I:Inv X pins σ' H s){r:Res MV}{e:ai}{s':ak}(q:CXe X.prog X.w X.stack H s (EXK G m H r) e s') :
  ∃c h' m' H' a,r=.exc c h'/\e=.ref a/\Ext m H m' H'/\HR G m' h' H'/\Inv X pins σ' H' s'/\Exc X pins H' (G.cl c) a s':=by
 obtain⟨a,C,H',rfl,os,bare,un,hok,sh,ek⟩:=q;cases r with
 |exc c h'=>
   obtain⟨ec,m',x,R'⟩:=ek;cases ec;exact⟨c,h',m',H',a,rfl,rfl,x,R',I.call' os un hok bare (λb z=>absurd z (by simp)),sh.imp λb z=>Fp.of I z.1 z.2⟩
 |ok v h'=>exact ek.elim
 |stuck=>exact ek.elim
theorem uS(F:FnX G X k f fd ps gf)(hr:Room k X.A)(hb:Binds X.K fd ps [])(hK:X.K=G.K)(I:Inv (X.wish E) pins σ' H s)(ex:EX σ')(R:HR G m h H)(rv:VRs G m H ms vs)(r:Vals vs us)
  (P:Post G X E EX m H (gf ms h) λv m' _ H'=>∀v',VR G m' H' v v'->Q v' H'):aB (aD X.prog X.w) X.A (call (.ref f) us) (EP (X.wish E) pins σ' Q) E s:=by
 have ns:gf ms h≠.stuck:=λz=>by rw[z]at P;exact P
 have hl:=F.ar ms h ns;have hu:us.length=ps.length:=by rw[←r.length,←Paired.length rv];exact hl
 have bt:BindsTo s fd ⟨us,[]⟩ (ps.zip us):=by
  have:=hb s us I.kIn (by simpa using hu);simpa using this
 refine wpAny_call (codeAny_mono (F.ok.run X.A X.stack s H ⟨us,[]⟩ us vs Q (EXK G m H (gf ms h)) hr I.unwish.env0 bt r (BU hK rv R hl ns λv h' e m' H' v' x R' q=>?_)) λrr s' hq=>?_)
 ·rw[e]at P;exact P m' H' x R' v' q
 ·cases rr with
  |error ev=>
    obtain⟨c,h',m',H',a,er,rfl,x,R',I',q⟩:=xl I.unwish hq;rw[er]at P;exact P pins σ' m' H' a s' ex x R' I' q
  |ok fl=>
    cases fl with
    |ret u=>exact I.after hq
    |next=>exact False.elim hq
    |brk=>exact False.elim hq
    |cont=>exact False.elim hq
end
section
variable {k:Nat}{f C:af}{fd:bf}{ps:List Str}{gf:Fn}{x:Str}{p pos apos:Pos}{e o:aw}{es:List aw}{ga:MA}{go:ME}
theorem bV(F:FnX G X k f fd ps gf)(hr:Room k X.A)(hm:X.mg x=some (.ref f))(hk:PySem.W.keepIn X.K (.ref f)=true)(hb:Binds X.K fd ps [])(ha:GA G X (e::es) ga)(hg:Gl X x:=by rfl)(hK:X.K=G.K:=by rfl)
  (hdb:(x == ("__debug__":Str))=false:=by decide) (he:aV (e::es) X.env=(false,aO e X.env)::aV es X.env:=by rfl) (hpl:(backTo pos (aV es X.env)).any (·.1)=false:=by rfl) :
  GE G X (.Call (.Name x p) (e::es) [] pos) (bM gf ga):=λE EX pins s σ' H Q I e0=>b8 e0 λm h σ ex S R P=>by
 refine wpAny_Call_Name_kw (pK I hg hm ?_ hdb);refine PySem.W.callWith_K (h₀:=X.base) I.ok.mod.kin hk (thn (ha E EX pos pins s σ' H (λvs H1=>∃m1 h1 ms,HR G m1 h1 H1/\VRs G m1 H1 ms vs/\Post G X E EX m1 H1 (gf ms h1) λv m' _ H'=>∀v',VR G m' H' v v'->Q v' H') I
  (kj ex S R P λms m1 h1 H1 vs x1 R1 r1 P1=>⟨m1,h1,ms,R1,r1,P1⟩)) λus s1 e0=>bA e0 λvs H1 I1 r e4=>e4.elim λm1 e5=>e5.elim λh1 e6=>e6.elim λms e7=>e7.elim λR1 e8=>e8.elim λrv P1=>⟨I1.kIn,?_⟩) he hpl
 exact uS (X:=X) F hr hb hK I1 ex R1 rv r P1
theorem BX{c:Nat}{mth:String}{n:Nat}{x':V}{β:Type}{kk:M β}{Q:β->List af->MH->Hp->Prop}(R:HR G m h H)(r:VR G m H (.ref n) x')
  (P:Post G X E EX m H (bnd (look n) (λob=>match ob with
   |.ins c' fs=>if c'=c/\fs.lookup mth=none then kk else stk
   | _=>stk) h) Q):∃a dx ws,x'=.ref a/\H a=some (.ins (G.cl c) dx ws)/\ws.lookup (aQ mth)=none/\Post G X E EX m H (kk h) Q:=by
 obtain⟨a,ea,rfl⟩:=r;obtain⟨oa,e1,q1,P1⟩:=cy R ea P;cases oa with
 |ins c' fs=>
   dsimp only at P1;split at P1
   ·rename_i cc;obtain⟨rfl,hn⟩:=cc;obtain⟨dx,ws,rf,z⟩:=q1;exact⟨a,dx,ws,rfl,z,BA rf hn,P1⟩
   ·exact P1.elim
 |_=>exact P1.elim
theorem du{pl:Sem Bool}{c:Nat}{mth:String}(ho:GE G X o go)(cC:Cls X.K (G.cl c))(hm:Meth X.K (G.cl c) (aQ mth) f)(F:FnX G X k f fd ps gf)(hr:Room k X.A)(hb:Binds X.K fd ps [])(ha:GA G X (e::es) ga)(hK:X.K=G.K:=by rfl)
  (hst:aV (e::es) X.env=(false,aO e X.env)::aV es X.env:=by rfl) (hpl:(backTo pos (aV es X.env)).any (·.1)=false:=by rfl)
  (ht:aO (.Call (.Attribute o (aQ mth) apos) (e::es) [] pos) X.env=(do
   let ov ←aO o X.env
   standAt apos.atName
   let (f,first) ←holding [ov] (getMethod ov (aQ mth) pl)
   callWith pos f first (backTo pos (aV (e::es) X.env)) (backToKw pos (keywordEach [] X.env))):=by rfl) :
  GE G X (.Call (.Attribute o (aQ mth) apos) (e::es) [] pos) (bG c mth gf go ga):=λE EX pins s σ' H Q I e0=>b8 e0 λm h σ ex S R P=>by
 refine PySem.W.methodCall_KW (pl:=pl) (thn (ho E EX pins s σ' H (λx H1=>∃a dx ws,x=.ref a/\H1 a=some (.ins (G.cl c) dx ws)/\ws.lookup (aQ mth)=none/\∃m1 h1 n,HR G m1 h1 H1/\SR G m1 H1 σ σ'/\VR G m1 H1 (.ref n) x /\
   Post G X E EX m1 H1 (bnd (ga σ) (λxs=>gf (.ref n::xs)) h1) λv m' _ H'=>∀v',VR G m' H' v v'->Q v' H') I (sub ex S R P λv m1 h1 H1 v' x1 R1 r1 P1=>?_)) λu s1 e0=>bA e0 λx H1 I1 rx e4=>e4.elim λa e5=>e5.elim λdx e6=>e6.elim λws e7=>e7.elim λexx e8=>e8.elim λea e9=>e9.elim λl e10=>e10.elim λm1 e11=>e11.elim λh1 e12=>e12.elim λn e13=>e13.elim λR1 e14=>e14.elim λS1 e15=>e15.elim λrn P1=>?_) ht
 ·cases v with
  |ref n=>
    obtain⟨a,dx,ws,e1,e2,e3,P2⟩:=BX R1 r1 P1;exact⟨a,dx,ws,e1,e2,e3,m1,h1,n,R1,S.mono x1,r1,P2⟩
  |_=>exact P1.elim
 ·subst exx;obtain rfl:u=Value.ref a:=rx;refine BV I1 ea cC hm l ?_;refine PySem.W.callWith_K (first:=[.ref a]) (h₀:=X.base) I.ok.mod.kin hm.kp (thn (ha E EX pos pins s1 σ' H1 (λvs H2=>∃m2 h2 ms,HR G m2 h2 H2/\VRs G m2 H2 (.ref n::ms) (.ref a::vs)/\Post G X E EX m2 H2 (gf (.ref n::ms) h2) λv m' _ H'=>∀v',VR G m' H' v v'->Q v' H') I1
   (kj ex S1 R1 P1 λms m2 h2 H2 vs x2 R2 r2 P2=>⟨m2,h2,ms,R2,.cons (x2.vr rn) r2,P2⟩)) λus s2 e0=>bA e0 λvs H2 I2 r e4=>e4.elim λm2 e5=>e5.elim λh2 e6=>e6.elim λms e7=>e7.elim λR2 e8=>e8.elim λrv P2=>⟨I2.kIn,?_⟩) hst hpl
  exact uS (X:=X) (us:=.ref a::us) (vs:=.ref a::vs) F hr hb hK I2 ex R2 rv (.cons rfl r) P2
theorem iR{pl:Sem Bool}{c:Nat}{mth:String}(ho:GE G X o go)(cC:Cls X.K (G.cl c))(hm:Meth X.K (G.cl c) (aQ mth) f)(F:FnX G X k f fd ps gf)(hr:Room k X.A)(hb:Binds X.K fd ps [])(hK:X.K=G.K:=by rfl)
  (ht:aO (.Call (.Attribute o (aQ mth) apos) [] [] pos) X.env=(do
   let ov ←aO o X.env
   standAt apos.atName
   let (f,first) ←holding [ov] (getMethod ov (aQ mth) pl)
   callWith pos f first (backTo pos (aV [] X.env)) (backToKw pos (keywordEach [] X.env))):=by rfl) :
  GE G X (.Call (.Attribute o (aQ mth) apos) [] [] pos) (bG c mth gf go az):=λE EX pins s σ' H Q I e0=>b8 e0 λm h σ ex S R P=>by
 refine PySem.W.methodCall_KW (pl:=pl) (thn (ho E EX pins s σ' H (λx H1=>∃a dx ws,x=.ref a/\H1 a=some (.ins (G.cl c) dx ws)/\ws.lookup (aQ mth)=none/\∃m1 h1 n,HR G m1 h1 H1/\SR G m1 H1 σ σ'/\VR G m1 H1 (.ref n) x /\
   Post G X E EX m1 H1 (bnd (az σ) (λxs=>gf (.ref n::xs)) h1) λv m' _ H'=>∀v',VR G m' H' v v'->Q v' H') I (sub ex S R P λv m1 h1 H1 v' x1 R1 r1 P1=>?_)) λu s1 e0=>bA e0 λx H1 I1 rx e4=>e4.elim λa e5=>e5.elim λdx e6=>e6.elim λws e7=>e7.elim λexx e8=>e8.elim λea e9=>e9.elim λl e10=>e10.elim λm1 e11=>e11.elim λh1 e12=>e12.elim λn e13=>e13.elim λR1 e14=>e14.elim λS1 e15=>e15.elim λrn P1=>?_) ht
 ·cases v with
  |ref n=>
    obtain⟨a,dx,ws,e1,e2,e3,P2⟩:=BX R1 r1 P1;exact⟨a,dx,ws,e1,e2,e3,m1,h1,n,R1,S.mono x1,r1,P2⟩
  |_=>exact P1.elim
 ·subst exx;obtain rfl:u=Value.ref a:=rx;refine BV I1 ea cC hm l ?_;exact PySem.W.callWith_K0 (first:=[.ref a]) I1.kIn hm.kp (uS (X:=X) (us:=[.ref a]) (vs:=[.ref a]) F hr hb hK I1 ex R1 (.cons rn .nil) (.cons rfl .nil) P1)
theorem mW{c:Nat}(M:Mk X.K (G.cl c) f)(F:FnX G X k f fd ps gf)(hr:Room (k+1) X.A)(hm:X.mg x=some (.ref (G.cl c)))(hb:Binds X.K fd ps [])(ha:GA G X (e::es) ga)(hg:Gl X x:=by rfl)(hK:X.K=G.K:=by rfl)
  (hdb:(x == ("__debug__":Str))=false:=by decide) (he:aV (e::es) X.env=(false,aO e X.env)::aV es X.env:=by rfl) (hpl:(backTo pos (aV es X.env)).any (·.1)=false:=by rfl) :
  GE G X (.Call (.Name x p) (e::es) [] pos) (js c gf ga):=λE EX pins s σ' H Q I e0=>b8 e0 λm h σ ex S R P=>by
 refine wpAny_Call_Name_kw (pK I hg hm ?_ hdb);refine PySem.W.callWith_K (h₀:=X.base) I.ok.mod.kin M.kp (thn (ha E EX pos pins s σ' H (λvs H1=>∃m1 h1 ms,HR G m1 h1 H1/\VRs G m1 H1 ms vs/\Post G X E EX m1 H1 (bnd (new (.ins c [])) (λo=>bnd (gf (o::ms)) λv=>match v with
   |.non=>ret o
   | _=>stk) h1) λv m' _ H'=>∀v',VR G m' H' v v'->Q v' H') I
  (kj ex S R P λms m1 h1 H1 vs x1 R1 r1 P1=>⟨m1,h1,ms,R1,r1,P1⟩)) λus s1 e0=>bA e0 λvs H1 I1 r e4=>e4.elim λm1 e5=>e5.elim λh1 e6=>e6.elim λms e7=>e7.elim λR1 e8=>e8.elim λrv P1=>⟨I1.kIn,?_⟩) he hpl
 have I2:=Inv.made (C:=G.cl c) I1;have f1:H1 s1.heap.objs.size=none:=I1.hok.fresh (bo _);have f2:H1 (s1.heap.objs.size+1)=none:=I1.hok.fresh (Nat.le_succ _);have f2':upd H1 s1.heap.objs.size (.own (s1.heap.objs.size+1)) (s1.heap.objs.size+1)=none:=by rw[ba (Nat.succ_ne_self _)];exact f2
 have x2:Ext m1 H1 (m1++[s1.heap.objs.size + 1]) (upd (upd H1 s1.heap.objs.size (.own (s1.heap.objs.size + 1))) (s1.heap.objs.size + 1) (.ins (G.cl c) s1.heap.objs.size [])):=(Ext.side f1).trans (Ext.new (R1.side f1) f2');have R2:HR G (m1++[s1.heap.objs.size + 1]) (h1++[.ins c []]) (upd (upd H1 s1.heap.objs.size (.own (s1.heap.objs.size + 1))) (s1.heap.objs.size + 1) (.ins (G.cl c) s1.heap.objs.size [])):=(R1.side f1).new f2' ⟨_,[],.nil,dw⟩;have P2:Post G X E EX (m1++[s1.heap.objs.size + 1]) (upd (upd H1 s1.heap.objs.size (.own (s1.heap.objs.size + 1))) (s1.heap.objs.size + 1) (.ins (G.cl c) s1.heap.objs.size [])) (bnd (gf (.ref h1.length::ms)) (λv=>match v with
   |.non=>ret (.ref h1.length)
   | _=>stk) (h1++[.ins c []])) λv m' _ H'=>∀v',VR G m' H' v v'->Q v' H':=(Post.bind P1) _ _ x2 R2
 have ns:gf (.ref h1.length::ms) (h1++[.ins c []])≠.stuck:=λz=>by unfold bnd at P2;rw[z]at P2;exact P2
 have hl:=F.ar _ _ ns;have rn:VR G (m1++[s1.heap.objs.size+1]) (upd (upd H1 s1.heap.objs.size (.own (s1.heap.objs.size+1))) (s1.heap.objs.size+1) (.ins (G.cl c) s1.heap.objs.size [])) (.ref h1.length) (.ref (s1.heap.objs.size+1)):=⟨_,by rw[←R1.len];simp,rfl⟩
 have rv2:VRs G (m1++[s1.heap.objs.size+1]) (upd (upd H1 s1.heap.objs.size (.own (s1.heap.objs.size+1))) (s1.heap.objs.size+1) (.ins (G.cl c) s1.heap.objs.size [])) (.ref h1.length::ms) (.ref (s1.heap.objs.size+1)::vs):=.cons rn (x2.vrs rv);have r2:Vals (V.ref (s1.heap.objs.size+1)::vs) (Value.ref (s1.heap.objs.size+1)::us):=.cons rfl r;have hu:(Value.ref (s1.heap.objs.size+1)::us).length=ps.length:=by rw[←r2.length,←Paired.length rv2];exact hl
 refine wpAny_call (C0 (f:=f) I1.kIn M.makes M.init (beq_iff_eq.mp M.fn) (codeAny_mono (F.ok.run _ X.stack _ _ ⟨Value.ref (s1.heap.objs.size + 1)::us,[]⟩ (Value.ref (s1.heap.objs.size + 1)::us) _ (λv H3=>v=.non/\Q (.ref (s1.heap.objs.size + 1)) H3) (EXK G _ _ (gf (.ref h1.length::ms) (h1++[.ins c []]))) (hr.make (G.cl c) us [])
  (I2.unwish.env0.make (G.cl c) us []) (by simpa using hb _ (Value.ref (s1.heap.objs.size + 1)::us) I2.kIn (by simpa using hu)) r2 (BU hK rv2 R2 hl ns λv h' ev m' H' v' x R' q=>?_)) λrr s' hq'=>?_))
 ·have P3:=P2;unfold bnd at P3;rw[ev]at P3;cases v with
  |non=>
    cases(show v'=V.non from q);exact⟨rfl,P3 m' H' x R' _ (x.vr rn)⟩
  |_=>exact P3.elim
 ·cases rr with
  |error ev=>
    obtain⟨c',h',m',H',a,er,rfl,x,R',I',q⟩:=xl (pins:=pins) (σ':=σ') I2.unwish hq';unfold bnd at P2;rw[er]at P2;exact P2 pins σ' m' H' a s' ex x R' I' q
  |ok fl=>
    cases fl with
    |ret u=>
      obtain⟨v,H',I3,rv',ev,q3⟩:=I2.after hq';subst ev;exact⟨rv',⟨V.ref (s1.heap.objs.size+1),H',I3,rfl,q3⟩⟩
    |next=>exact False.elim hq'
    |brk=>exact False.elim hq'
    |cont=>exact False.elim hq'
end
theorem Ig{K:PySem.W.Frag}{hp:aP}{C:af}{bm:List ai}{newId:String}(kx:K.In hp)(q:PySem.W.excIn K C bm newId=true) :
  ∃tl N nm qn bs hd sn sub ab col dd k0 k1 k2 k3 k5 mN,hp.get? C=some (excClassObj nm qn C N bs tl hd sn sub ab col dd k0 k1 k2 k3 k5 newId)/\hp.Ns N mN/\mN "__init__"=none/\OwnTail hp bm tl:=by
 unfold PySem.W.excIn at q;split at q
 ·rename_i ddx cdx slx hox;split at q
  ·rename_i Cx' tlx y0 y1 y2 y3 nx y5 hmx hsx;simp only[ip,beq_iff_eq,Bool.not_eq_true']at q;have hno:=q.2;have hns:=q.1.2;have htl:=q.1.1.2;have hdl:=q.1.1.1.2;have e1:=q.1.1.1.1.1;have e2:=q.1.1.1.1.2;cases cdx with
   |mk nmx bsx mrox nsx qx hdx snx subx abx colx delx=>
     dsimp only at hmx hdl hns hno;subst e1;subst e2;subst hmx;subst hdl;have esl:slx=#[y0,y1,y2,y3,some (.builtin nx),y5]:=by
      cases slx with
      |mk l=>exact congrArg Array.mk hsx
     subst esl;exact⟨tlx,nsx,nmx,qx,bsx,hdx,snx,subx,abx,colx,ddx,y0,y1,y2,y3,y5,_,kx _ _ hox,.of_isNs (PySem.W.isNs_of_in kx hns),PySem.W.nsMap_none_of_in kx hns hno,PySem.W.tail_of_in kx htl⟩
  ·cases q
 ·cases q
theorem FS{P:br}{w:aX}{hp:aP}{a:af}{o:HO}(x:bQ P w H hp a o):∃ob,hp.get? a=some ob:=by
 cases o with
 |lst xs=>obtain⟨_,_,_,_,e⟩:=x;exact⟨_,e⟩
 |tup xs=>obtain⟨_,_,_,_,e,_⟩:=x;exact⟨_,e⟩
 |dK kvs=>obtain⟨_,_,_,_,o,_,_,e,_⟩:=x;exact⟨_,e⟩
 |dT kvs=>obtain⟨_,_,_,_,o,_,_,e,_⟩:=x;exact⟨_,e⟩
 |set S n=>obtain⟨o,_,_,_,e,_⟩:=x;exact⟨_,e⟩
 |ins C dx fs=>obtain⟨_,_,_,e,_⟩:=x;exact⟨_,e⟩
 |own y=>exact x
 |xd fs=>obtain⟨_,⟨_,_,_,e,_⟩,_⟩:=x;exact⟨_,e⟩
 |rng lo hi=>obtain⟨_,_,_,e⟩:=x;exact⟨_,e⟩
 |frz ob u=>exact⟨_,x.1⟩
 |tbl ps=>exact⟨_,x⟩
 |met f y=>exact⟨_,x⟩
 |ext φ=>exact x.2.1
theorem Inv.untracked{pins:List (af×aE)}{s:ak}(I:Inv X pins σ' H s){a:af}(e:s.heap.get? a=none):H a=none:=by
 cases z:H a with
 |none=>rfl
 |some u=>
   obtain⟨o,q⟩:=FS (I.hok a u z);rw[e]at q;cases q
theorem gQ{x:Str}{c:Nat}{bm:List ai}{B newId initId:String}{np cpos pos:Pos}{e:aw}{es:List aw}{ga:MA}(FB:ExcBaseFacts B newId initId bm)(q:PySem.W.excIn X.K (G.cl c) bm newId=true)(hm:X.mg x=some (.ref (G.cl c)))(hd:X.A.handled=none)
  (ha:GA G X (e::es) ga) (hg:Gl X x:=by rfl) (hdb:(x == ("__debug__":Str))=false:=by decide) (he:aV (e::es) X.env=(false,aO e X.env)::aV es X.env:=by rfl) (hpl:(backTo cpos (aV es X.env)).any (·.1)=false:=by rfl) :
  GS G EX X (.Raise (some (.Call (.Name x np) (e::es) [] cpos)) none pos) (fQ c ga):=λE hp pins s σ' H D I e0=>b8 e0 λm h σ ex S R P=>by
 obtain⟨tl,N,nm,qn,bs,hdt,sn,sb,ab,col,dd,k0,k1,k2,k3,k5,mN,oC,oN,ni,T⟩:=Ig I.ok.mod.kin q;refine wpAny_Raise_call_subU (C:=G.cl c) (nm:=nm) (q:=qn) (N:=N) (bs:=bs) (bm:=tl) (hdct:=hdt) (sn:=sn) (sub:=sb) (ab:=ab) (col:=col) (dd:=dd) (k0:=k0) (k1:=k1) (k2:=k2) (k3:=k3) (k5:=k5) FB FB.hasB FB (mN:=mN) (T.hasType FB.hasBase) hd
  (by rw[he];show(false||(backTo cpos (aV es X.env)).any (·.1))=false;rw[hpl];rfl) ni (pK I hg hm ⟨rfl,?_⟩ hdb)
 have hA:=ha E EX cpos pins s σ' H (λvs H1=>∃m1 h1 ms,HR G m1 h1 H1/\VRs G m1 H1 ms vs/\ms.length≤1000/\XP G X E EX m1 H1 c h1) I (kj ex S R P λms m1 h1 H1 vs x1 R1 r1 P1=>by
  split at P1
  ·rename_i hz;exact⟨m1,h1,ms,R1,r1,hz,P1⟩
  ·exact P1.elim)
 rw[show backTo cpos (aV (e::es) (X.wish E).env)=backTo cpos (aV (e::es) X.env) from rfl]at hA;rw[he]at hA ⊢;refine Calls.evalArgs_plain (cN hA (λus s1 e0=>bA e0 λvs H1 I1 r e4=>e4.elim λm1 e5=>e5.elim λh1 e6=>e6.elim λms e7=>e7.elim λR1 e8=>e8.elim λrv e9=>e9.elim λhz P1=>⟨rfl,?_,I1.bk _ _ oC,oN.keeps I1.bk,T.keeps I1.bk,λh' a hx=>?_⟩) λ_ _ y=>y)
 ·show us.length≤bh;rw[←r.length,←Paired.length rv];exact small hz
 ·obtain⟨t,ht,_,_⟩:=hx.there;have I2:Inv X pins σ' H1 { s1 with heap:=h' }:=I1.unwish.kept (t':=s1.toks) hx.keeps;exact P1 pins σ' m1 H1 a _ ex .refl R1 I2 ⟨_,_,ht,rfl,rfl,rfl,by simp,Fp.of I1.unwish hx.new (Inv.untracked I1.unwish hx.new),.inl rfl⟩
section
variable {o e:aw}{go ge:ME}{apos cpos:Pos}
theorem ir(ho:GE G X o go)(he:GE G X e ge)(hbase:attributeBase o (aQ "append") X.env (aO o X.env)=aO o X.env:=by rfl)
  (hfew:((backTo cpos (aV [e] X.env)).all (λx=>!x.1) && (backToKw cpos (keywordEach [] X.env)).all (λx=>x.1.isSome)
   && decide ([e].length + ([]:List Keyword).length + (if ([]:List Keyword).isEmpty then 0 else 1) < 30))=true:=by rfl)
  (hline:(apos.endLine == cpos.line)=true:=by rfl) (hs:aV [e] X.env=[(false,aO e X.env)]:=by rfl):GE G X (.Call (.Attribute o (aQ "append") apos) [e] [] cpos) (gN go ge):=λE EX=>
 eB (ze (X:=X.wish E) PySem.F.plainAttrs_list PySem.F.slot_list_append PySem.F.type_list_append xD (ho E EX) (he.a1 hs E EX) hbase hfew hline hs rfl) λσ' H Q e0=>b8 e0 λm h σ ex S R P=>
  sub ex S R P λv m1 h1 H1 v' x1 R1 r1 P1=>by
   cases v with
   |ref n=>
     obtain⟨aa,ea,rfl⟩:=r1;obtain⟨ob,eo,qo,P2⟩:=cy R1 ea P1;cases ob with
     |lst xs=>
       obtain⟨vs,rr,z⟩:=qo;refine⟨.inl ⟨rfl,vs,SqL.of z⟩,sub ex (S.mono x1) R1 P2 λw m2 h2 H2 w' x2 R2 r2 P3=>?_⟩;have ea2:=x2.get ea;obtain⟨ob2,eo2,qo2,P4⟩:=cy R2 ea2 P3;cases ob2 with
       |lst ys=>
         obtain⟨ws,rs,z2⟩:=qo2;dsimp only at P4;split at P4
         ·rename_i hz;refine⟨aa,ws,w',rfl,rfl,z2,by rw[←Paired.length rs];exact dN hz (big (bo _)),?_⟩;have P5:=oq R2 ea2 P4;have x3:Ext m2 H2 m2 (upd H2 aa (.lst (ws++[w']))):=Ext.upd ea2 z2;exact P5 _ _ x3 (R2.upd ea2 (λo' yy zz=>by rw[z2]at zz;cases zz) ⟨_,x3.vrs (jQ rs (.cons r2 .nil)),dw⟩) _ rfl
         ·exact P4.elim
       |_=>exact P4.elim
     |_=>exact P2.elim
   |_=>exact P1.elim
end
noncomputable def wU:Ty->String->Bool
 |.int,k=>k == "int"||k == "bool"
 |.bool,k=>k == "bool"
 |.str,k=>k == "str"
 |.list,k=>k == "list"
 |.tuple,k=>k == "tuple"
 |.exn _ _,_=>false
structure d9(K:PySem.W.Frag)(C:af):Prop where
 ga:PySem.W.findIn K (.ref C) "__getattribute__"=some (some (.builtin "BaseException.__getattribute__"))
 gt:PySem.W.findIn K (.ref C) "__getattr__"=some none
 sb:PySem.W.subIn K (.ref C) (.type "BaseException")=some true
 fd:PySem.W.findObj K C none "__class__"=some (.bind (.builtin "getset_descriptor.__get__") (.builtin "object.__class__"))
 mr:PySem.W.mroIn K C (.type "object")=some true
 cl:(PySem.W.clsIn K C).isSome=true
 ty:PySem.W.typeIn K (.ref C)=some (.type "type")
inductive KTy(K:PySem.W.Frag)(cl:Nat->af)(c:ai):Ty->Prop where
 |plain {t:Ty}:(∀al cs,t≠.exn al cs)->(["NoneType","bool","int","str","list","tuple"].all λk=>PySem.W.kitOne K (.type k) c == some (wU t k))=true->KTy K cl c t
 |exc {al cs:List Nat}:(∀n∈al,d9 K (cl n)/\PySem.W.kitOne K (.ref (cl n)) c=some (cs.contains n))->KTy K cl c (.exn al cs)
def za(K:PySem.W.Frag)(u:V)(c:ai):List V->Hp->VK->Prop:=λxs H Q=>∃x b,xs=[x,u]/\((∃t,gF K H x t/\PySem.W.kitOne K t c=some b)∨∃a C,x=.ref a/\H a=some (.ext (ExcΦ a C))/\d9 K C/\PySem.W.kitOne K (.ref C) c=some b)/\Q (.bl b) H
def xT(u:V)(c:ai):Prop:=(∃T,u=.ty T/\c=.type T)∨∃C,u=.ref C/\c=.ref C
theorem DQ{u:V}{c:ai}(ru:xT u c):eO X (.builtin "isinstance") (za X.K u c):=by
 rintro pins s σ' H xs us Q I r ⟨x,b,ex,q,hQ⟩;subst ex;obtain⟨v,w,rfl,rx,ry⟩:=vals2 r;have ew:w=c:=by
  rcases ru with⟨T,rfl,rfl⟩|⟨C,rfl,rfl⟩ <;> exact ry
 subst ew;rcases q with⟨t,ty,e⟩|⟨a,C,rfl,ha,ec,e⟩
 ·exact Il I rx ty e λtk=>⟨.bl b,H,I.tok _,rfl,hQ⟩
 ·cases(show v=Value.ref a from rx);obtain⟨ph,_,_⟩:=(show bQ X.prog X.w H s.heap a (.ext (ExcΦ a C)) from I.hok a _ ha);exact PySem.W.kia_one (Cs ec.ga ec.gt ec.sb ec.fd ec.mr ec.cl) I.kIn ph e (λz=>nomatch z) λtk=>⟨.bl b,H,I.tok _,rfl,hQ⟩
theorem KTy.of{K:PySem.W.Frag}{cl:Nat->af}{c:ai}{t:Ty}(k:KTy K cl c t)(ne:∀al cs,t≠.exn al cs){n:String}(hn:n∈["NoneType","bool","int","str","list","tuple"]):PySem.W.kitOne K (.type n) c=some (wU t n):=by
 cases k with
 |plain _ q=>exact beq_iff_eq.mp (vQ.mp q n hn)
 |exc q=>exact absurd rfl (ne _ _)
theorem EN{c:ai}{u:V}{t:Ty}(k:KTy G.K G.cl c t){Q:VK}{x:MV}{x':V}(R:HR G m h H)(rx:VR G m H x x')(P:Post G X E EX m H (gU t x h) λv m' _ H'=>∀v',VR G m' H' v v'->Q v' H'):za G.K u c [x',u] H Q:=by
 by_cases ne:∃al cs,t=.exn al cs
 ·obtain⟨al,cs,rfl⟩:=ne;cases x with
  |ref n=>
    obtain⟨a,ea,rfl⟩:=rx;obtain⟨o,eo,qo,P1⟩:=cy R ea P;cases o with
    |exn c'=>
      dsimp only at P1;split at P1
      ·rename_i hc;cases k with
       |plain z _=>exact absurd rfl (z _ _)
       |exc q=>
         obtain⟨e1,e2⟩:=q c' (by simpa using hc);exact⟨_,_,rfl,.inr ⟨a,_,rfl,qo,e1,e2⟩,Post.here R P1 _ rfl⟩
      ·exact P1.elim
    |_=>exact P1.elim
  |_=>exact P.elim
 ·have ne':∀al cs,t≠.exn al cs:=λal cs z=>ne ⟨al,cs,z⟩;cases x with
  |non=>
    cases(show x'=V.non from rx);refine⟨_,_,rfl,.inl ⟨_,.non,k.of ne' (by decide)⟩,?_⟩
    cases t <;> first|exact Post.here R P _ rfl|exact absurd rfl (ne' _ _)
  |bl b=>
    cases(show x'=V.bl b from rx);refine⟨_,_,rfl,.inl ⟨_,.bl b,k.of ne' (by decide)⟩,?_⟩
    cases t <;> first|exact Post.here R P _ rfl|exact absurd rfl (ne' _ _)
  |int b=>
    cases(show x'=V.int b from rx);refine⟨_,_,rfl,.inl ⟨_,.int b,k.of ne' (by decide)⟩,?_⟩
    cases t <;> first|exact Post.here R P _ rfl|exact absurd rfl (ne' _ _)
  |str b=>
    cases(show x'=V.str b from rx);refine⟨_,_,rfl,.inl ⟨_,.str b,k.of ne' (by decide)⟩,?_⟩
    cases t <;> first|exact Post.here R P _ rfl|exact absurd rfl (ne' _ _)
  |scr _=>exact P.elim
  |any=>exact P.elim
  |tup xs=>
    obtain⟨a,vs,rfl,_,z,_⟩:=rx;refine⟨_,_,rfl,.inl ⟨_,.tup z,k.of ne' (by decide)⟩,?_⟩;cases t <;> first|exact Post.here R P _ rfl|exact absurd rfl (ne' _ _)
  |ref n=>
    obtain⟨a,ea,rfl⟩:=rx;obtain⟨o,eo,qo,P1⟩:=cy R ea P;cases o with
    |lst xs=>
      obtain⟨vs,r,z⟩:=qo;refine⟨_,_,rfl,.inl ⟨_,.lst z,k.of ne' (by decide)⟩,?_⟩;cases t <;> first|exact Post.here R P1 _ rfl|exact absurd rfl (ne' _ _)
    |exn c'=>cases t <;> first|exact P1.elim|exact absurd rfl (ne' _ _)
    |dct _=>cases t <;> exact P1.elim
    |ins _ _=>cases t <;> exact P1.elim
    |frz _=>cases t <;> exact P1.elim
theorem lS{e ce:aw}{ge:ME}{t:Ty}{c:ai}{u:V}{p pos:Pos}(he:GE G X e ge)(hc:∀E,PE (X.wish E) ce (tC u))(cv:xT u c)(k:KTy G.K G.cl c t)(hm:X.mg "isinstance"=none)(hg:Gl X "isinstance":=by rfl)(hK:X.K=G.K:=by rfl)
  (hs:aV [e,ce] X.env=(false,aO e X.env)::aV [ce] X.env:=by rfl) (hs2:aV [ce] X.env=[(false,aO ce X.env)]:=by rfl) (hpl:(backTo pos (aV [ce] X.env)).any (·.1)=false:=by rfl) :
  GE G X (.Call (.Name "isinstance" p) [e,ce] [] pos) (eUn (gU t) ge):=λE EX=>
 eB (vn (X:=X.wish E) (DQ cv) hg hm PyProof.Rows.Boot.«isinstance» (i7 (X:=X.wish E) (he E EX) (i7 (X:=X.wish E) (hc E) qO hs2) hs) (by decide) (by decide) hs hpl) λσ' H Q e0=>b8 e0 λm h σ ex S R P=>
  sub ex S R P λv m1 h1 H1 v' x1 R1 r1 P1=>by
   have:=EN (u:=u) k R1 r1 P1;rw[←hK]at this;exact this
abbrev QD(G:Gb)(D:Ends):MF->List af->MH->Hp->Prop:=λf m' _ H'=>match f with
 |.next σ1=>∀σ1',SR G m' H' σ1 σ1'->D.nx σ1' H'
 |.brk σ1=>∀σ1',SR G m' H' σ1 σ1'->D.bk σ1' H'
 |.cnt σ1=>∀σ1',SR G m' H' σ1 σ1'->D.ct σ1' H'
 |.ret v=>∀v',VR G m' H' v v'->D.rt v' H'
noncomputable def iY(N:List Str)(x:List Str):List Str:=N.map (λn=>if n∈x then aQ "" else n)++x
noncomputable def dD(X:Cx)(x:List Str)(scope:Scope)(cl:List (Str×af))(C:af)(s:ak)(H:Hp)(fp:List af)(pins:List (af×aE)):Cx:=
 { X with N:=iY X.N x,env:=compEnvC scope cl C X.env,s₀:=s,H₀:=H,outer:=X.stack,ex:=fp,fn:=λ_=>false,pn:=X.pn++pins,xe:=λ_ _=>False }
structure eW(X:Cx)(x:List Str)(scope:Scope)(cl:List (Str×af)):Prop where
 clos:closureFor scope X.env=pure cl
 cells:∀n c,cl.lookup n=some c->X.env.cells.lookup n=some c
 kind:scope.kind=.function
 nocell:∀y∈scope.names,y.2≠.cell
 locs:∀y∈scope.names,y.2=.local->scope.names.lookup y.1=some .local
 has:∀y,scope.names.lookup y=some .free->∃c,cl.lookup y=some c
 outk:∀y,scope.names.lookup y=some .free->X.env.kindOf y=some .cell∨X.env.kindOf y=some .free
 nolo:∀n∈X.N,n∉x->scope.names.lookup n≠some .local
 dum:scope.names.lookup (aQ "")=none
 nd:(iY X.N x).Nodup
theorem AV{env:Env}:∀{names:List (Str×NameKind)}{x:Str}{k:NameKind},(∀y∈names,y.2≠.cell)->(names.map λ(n,k)=>if(k == NameKind.free&&env.scope.kind == .function&&env.kindOf n == some .cell) then(n,NameKind.cell) else(n,k)).lookup x=some k ->
  names.lookup x=some k∨(names.lookup x=some .free/\k=.cell)
 |[],_,_,_,e=>by simp at e
 |(n,k0)::r,x,k,nc,e=>by
   have ih:=@AV env r x k (λy hy=>nc y (dO _ hy));by_cases hx:x=n
   ·subst hx;simp only[bz]at e;split at e
    ·rename_i hc;simp only[ip,beq_iff_eq]at hc;refine .inr ⟨by simp[bW,hc.1.1],?_⟩;simp only[bW,beq_self_eq_true,Option.some.injEq]at e;exact e.symm
    ·simp only[bW,beq_self_eq_true]at e ⊢;exact .inl e
   ·have hb:(x == n)=false:=by simpa using hx
    simp only[bz]at e;have e':(r.map λ(n,k)=>if(k == NameKind.free&&env.scope.kind == .function&&env.kindOf n == some .cell) then(n,NameKind.cell) else(n,k)).lookup x=some k:=by
     split at e <;> simpa only[bW,hb] using e
    simp only[bW,hb];exact ih e'
theorem Ct{x:List Str}{scope:Scope}{cl:List (Str×af)}{fp:List af}{pins:List (af×aE)}{s:ak}{hp:aP}{t:Nat}(ok:eW X x scope cl)(I:Inv X pins σ' H s)(hf:∀b∈fp,g4 X pins H b)(hfo:∀b∈fp,∃o,s.heap.get? b=some o)
  (hn:∃mm,hp.Ns s.heap.objs.size mm) (hk:∀b o,s.heap.get? b=some o->hp.get? b=some o):Inv (dD X x scope cl s.heap.objs.size s H fp pins) [] (σ'++bU x.length none) H { s with heap:=hp,toks:=t }:=by
 obtain⟨mm,hn⟩:=hn;have ltC:∀b o,s.heap.get? b=some o->b≠s.heap.objs.size:=λb o e=>cS (bD e);have kd:∀y k,(relabel scope X.env).names.lookup y=some k->scope.names.lookup y=some k∨(scope.names.lookup y=some .free/\k=.cell):=λy k e=>AV ok.nocell e;have nc:∀y,scope.names.lookup y≠some .cell:=λy e=>ok.nocell _ (PySem.mem_of_lookup e) rfl;have stk:∀b,b≠X.env.locals->b∉X.fs->b∉frs X.stack:=λb h1 h2 z=>by
  rcases bK.mp (I.stkSub b z) with y|y
  ·exact h1 y
  ·exact h2 y
 refine ⟨⟨I.ok.mod,ok.kind,I.ok.glob,I.ok.blt,bo _,λy z c e1 e2=>I.ok.inj y z c (ok.cells y c e1) (ok.cells z c e2),λy hy=>?_,(λy c e=>nomatch e),I.ok.hd,I.ok.frames,.inl rfl,λb hb=>⟨?_,λy c e=>?_⟩,I.bs,cL I.ok.bsz I.sz,λb o e hb=>?_,λb hb=>?_,I.stack,I.stkFree⟩,
  rfl,I.bare,Un.kept hk,⟨mm,hn,λi y v e1 e2 e3=>?_⟩,λy c e=>?_,I.hok.fresh (bo _),λy c e=>I.freeC y c (ok.cells y c e),λp hp'=>?_,I.hok.kept hk,?_⟩
 ·have hy':scope.names.lookup y=some .free:=by
   rcases hy with hy|hy
   ·rcases kd y _ hy with z|z
    ·exact absurd z (nc y)
    ·exact z.1
   ·rcases kd y _ hy with z|z
    ·exact z
    ·exact z.1
  exact ok.has y hy'
 ·obtain⟨o,e⟩:=hfo b hb;exact ltC b o e
 ·exact(hf b hb).2.2.2.2.1 y c (ok.cells y c e)
 ·rcases(hf b hb).2.2.2.1 with z|z
  ·exact I.ok.noex b o e z
  ·exact absurd (dN (bD e) (cL I.ok.bsz z)) (jn _)
 ·exact stk b (hf b hb).2.1 (hf b hb).2.2.1
 ·have hi:i<σ'.length:=by
   by_cases hi:i<σ'.length
   ·exact hi
   ·rw[ma (by lia),jF]at e2;split at e2 <;> cases e2
  rw[gB hi]at e2;have e1':(X.N.map λn=>if n∈x then aQ "" else n)[i]?=some y:=by
   have:(iY X.N x)[i]?=some y:=e1;unfold iY at this
   rwa [gB (by simpa[←I.len] using hi)]at this
  rw[bj]at e1';cases en:X.N[i]? with
  |none=>rw[en]at e1';cases e1'
  |some n=>
    rw[en]at e1';have ey:(if n∈x then aQ "" else n)=y:=Option.some.inj e1';by_cases hnx:n∈x
    ·rw[if_pos hnx]at ey;subst ey;exfalso;rcases e3 with z|z|z
     ·rcases kd _ _ z with w|w
      ·rw[ok.dum]at w;cases w
      ·have w:=w.1;rw[ok.dum]at w;cases w
     ·rcases kd _ _ z with w|w
      ·rw[ok.dum]at w;cases w
      ·have w:=w.1;rw[ok.dum]at w;cases w
     ·rcases kd _ _ z with w|w
      ·rw[ok.dum]at w;cases w
      ·have w:=w.1;rw[ok.dum]at w;cases w
    ·rw[if_neg hnx]at ey;subst ey;have fr:scope.names.lookup n=some .free/\((relabel scope X.env).names.lookup n=some .cell∨(relabel scope X.env).names.lookup n=some .free):=by
      rcases e3 with z|z|z
      ·rcases kd _ _ z with w|w
       ·exact absurd w (ok.nolo n (de en) hnx)
       ·exact absurd w.2 (by decide)
      ·rcases kd _ _ z with w|w
       ·exact absurd w (nc n)
       ·exact⟨w.1,.inl z⟩
      ·rcases kd _ _ z with w|w
       ·exact⟨w,.inr z⟩
       ·exact⟨w.1,.inr z⟩
     obtain ⟨m0,hn0,hl0⟩:=I.loc;obtain ⟨u,ru,lk⟩:=hl0 i n v en e2 (by
      rcases ok.outk n fr.1 with z|z
      ·exact .inr (.inl z)
      ·exact .inr (.inr z))
     refine⟨u,ru,?_⟩;obtain⟨c',hc'⟩:=ok.has n fr.1;have hx':=ok.cells n c' hc';rcases lk with⟨k1,_⟩|⟨_,c,ec,o,ho,hd⟩
     ·rcases ok.outk n fr.1 with z|z <;> (rw[k1]at z;cases z)
     ·rw[ec]at hx';cases hx';exact .inr ⟨fr.2,c',hc',o,hk c' o ho,hd⟩
 ·obtain⟨v,o,ho,hd⟩:=I.cell y c (ok.cells y c e);exact⟨v,o,hk c o ho,hd⟩
 ·have hp2:p∈X.pn++pins:=by simpa[dD] using hp'
  obtain⟨a1,a2,a3,a4,a5⟩:=I.pin p hp2;exact⟨hk _ _ a1,a2,ltC _ _ a1,stk _ a3 a4,a5⟩
 ·show(σ'++bU x.length none).length=(iY X.N x).length;simp[iY,I.len]
abbrev Nt(P:br)(w:aX)(A:bB)(env:Env)(R:Result->ak->Prop):ai->ak->Prop:=notedBy (aD P w) A env λe z=>R (.error e) z
theorem Ev{P:br}{w:aX}{A:bB}{R:Result->ak->Prop}{s:ak}{el tg io:aw}{cs:List aw}{sc:Scope}{ps:Pos}{iv ac:ai}{env:Env}(J:Nat->ak->Prop)
  (turn:∀n s,J n s->aB (aD P w) A (pyNext iv) (λr s1=>match r with
   |none=>R (.ok .next) s1
   | some v=>aB (aD P w) A (letOwnedTupleGo tg iv v >>= λ_=>assign tg env v) (λ_ s2=>
     aB (aD P w) A (forIn cs true λc q=>if q=true then do let k ←isTrue c env (aO c env);pure (ForInStep.yield k) else pure (ForInStep.yield q)) (λk s3=>
      if k=true then aB (aD P w) A (aO el env) (λy s4=>aB (aD P w) A (call (.builtin "list.append") [ac,y]) (λ_ s5=>∃n',n'<n/\J n' s5) (Nt P w A env R) s4) (Nt P w A env R) s3
      else ∃n',n' < n/\J n' s3) (Nt P w A env R) s2) (Nt P w A env R) s1) (Nt P w A env R) s)
  (n:Nat) (j:J n s):codeAny (aD P w) A (.compLoop (.ListComp el [⟨tg,io,cs,0⟩] sc ps) 0 iv ac env) R s:=by
 refine codeAny_loop rfl J (λn s j=>?_) n j;show aB _ A ((compTurn (.ListComp el [⟨tg,io,cs,0⟩] sc ps) 0 iv ac env).onRaise (λy=>do noteFrame y env;theTreesLotGoes y)) _ _ s;refine wpAny_noted ?_;rw[compTurn_list];refine aC (wpAny_standAt (aC (cN (turn n s j) (λr s1 q1=>?_) λ_ _ z=>z)));cases r with
 |none=>exact bg q1
 |some v=>
   dsimp only at q1 ⊢;rw[←bind_assoc];refine aC (cN q1 (λ_ s2 q2=>aC (cN q2 (λk s3 q3=>?_) λ_ _ z=>z)) λ_ _ z=>z);cases k with
   |false=>exact bg ⟨rfl,q3⟩
   |true=>exact aC (aC (cN q3 (λy s4 q4=>aC (cN q4 (λ_ s5 q5=>bg (bg ⟨rfl,q5⟩)) λ_ _ z=>z)) λ_ _ z=>z))
theorem Bb:∀(v:List MV) (σ:MSt),cj (nr σ.length v.length) v (σ++bU v.length none)=σ++v.map some
 |[],σ=>by simp[cj]
 |a::v,σ=>by
   have ih:=Bb v (σ++[some a]);simp only[iQ,fG,jc,Nat.zero_add]at ih;simp only[fG,List.range'_succ,cj,gS,bz];have e:(σ++none::bU v.length none:MSt).set σ.length (some a)=σ++[some a]++bU v.length none:=by simp
   rw[e,ih];simp
def tz(G:Gb)(X:Cx)(x:List Str)(scope:Scope)(cl:List (Str×af))(ifs:List aw)(gc:Option ME):Prop:=match ifs,gc with
 |[],none=>True
 |[c],some g=>∀C s H fp pins,GT G (dD X x scope cl C s H fp pins) c g
 |_,_=>False
theorem Ext.sideSet{q:af}{u:HO}(x:Ext m H m' H')(e:H q=none):Ext m H m' (L2.upd H' q u):=
 ⟨x.pre,λa o z n nt=>⟨by rw[ba (dY z e)];exact(x.fr a o z n nt).1,(x.fr a o z n nt).2⟩,λa o u z=>by rw[ba (dY z e)];exact x.fz a o u z⟩
theorem Mn.adopt{q:af}(nt:∀ys,H q≠some (.tup ys)):Mn m H (m++[q]) H:=⟨λ_ _=>zw,λa vs z n=>⟨z,by simp only[fu,cT,not_or];exact⟨n,λy=>nt vs (by rw[←y];exact z)⟩⟩⟩
theorem HR.adopt{q:af}{o:MO}(R:HR G m h H)(nq:q∉m)(nt:∀ys,H q≠some (.tup ys))(nx:∀v,H q=some v->¬TbX v)(ro:OR G (m++[q]) H q o):HR G (m++[q]) (h++[o]) H:=by
 refine⟨by simp[R.len],?_,λn a ob ea eo=>?_,R.scr,R.tab.keep λb u z nb tx=>⟨z,by simp only[fu,cT,not_or];exact⟨nb,λy=>nx u (by rw[←y];exact z) tx⟩⟩⟩
 ·rw[hG];exact⟨R.nd,by simp,λa ha b hb=>by simp at hb;subst hb;intro z;subst z;exact nq ha⟩
 ·rcases mJ ea with ea|⟨rfl,rfl⟩
  ·have eo':h[n]?=some ob:=by
    rcases mJ eo with eo|⟨q',_⟩
    ·exact eo
    ·have:=(bN.mp ea).1;rw[R.len]at this;lia
   exact OR.mono (Mn.adopt nt) rfl (R.ob n a ob ea eo')
  ·have:ob=o:=by
    rcases mJ eo with eo|⟨_,q'⟩
    ·have:=(bN.mp eo).1;rw[←R.len]at this;lia
    ·exact q'
   subst this;exact ro
def CIv(G:Gb)(Y:Cx)(src:Src)(gc:Option ME)(gelt:ME)(σ:MSt)(x:List Str)(fp:List af)(tn:Nat->aP->Prop)(m1:List af)(H2:Hp)(D:af)(all:List MV)(hE:MH)(n:Nat)(s:ak):Prop:=∃k σc H5 m5 h5 acc vs rest,n=src.items.length-k/\k≤src.items.length/\Inv Y [] σc H5 s/\tn k s.heap/\(∀b∈fp,H5 b=none)/\SR G m5 H5 (σ++bU x.length none) σc/\HR G m5 h5 H5/\Ext m1 H2 m5 H5/\D∉m5/\VRs G m5 H5 acc vs/\H5 D=some (.lst vs)/\acc.length≤k/\df src gc gelt σ (src.items.drop k) h5=.ok rest hE/\acc++rest=all
theorem Dd{x:List Str}{one:Bool}{pos:Pos}{tg elt iter:aw}{ifs:List aw}{scope:Scope}{cl:List (Str×af)}{gc:Option ME}{gelt:ME}{src:Src}{J:It}{fp:List af}{it D C:af}{tn:Nat->aP->Prop}{s3 s4:ak}{H2 H3 H4:Hp}{pins:List (af×aE)}{all:List MV}{hE:MH}
  (ok:eW X x scope cl) (helt:∀C s H fp pins,GE G (dD X x scope cl C s H fp pins) elt gelt) (hif:tz G X x scope cl ifs gc) (htg:∀C s H fp pins,GTg G (dD X x scope cl C s H fp pins) tg one (nr X.N.length x.length)) (hcalm:X.calm=true) (T:Turn X.prog X.w X.K tg J fp it tn) (hJ:JOk G J src one x.length m1 H2) (hlen:src.items.length≤100000)
  (hall:df src gc gelt σ src.items h1=.ok all hE) (f3:∀b∈fp,g4 X pins H3 b) (hC:∀b∈fp,b≠C) (hst:∀b∈fp,b∉frs X.stack) (I4:Inv (dD X x scope cl C s3 H3 fp pins) [] (σ'++bU x.length none) H4 s4) (st4:tn 0 s4.heap) (S1:SR G m1 H4 σ σ') (R1:HR G m1 h1 H4) (x4:Ext m1 H2 m1 H4)
  (hD:H2 D=none) (nD:D∉m1) (eD:H4 D=some (.lst [])) (frp:∀b∈fp,H4 b=none) {Rr:Result->ak->Prop}
  (hR:∀σc H5 m5 s5 vs,Inv (dD X x scope cl C s3 H3 fp pins) [] σc H5 s5->HR G m5 hE H5->Ext m1 H2 m5 H5->D∉m5->VRs G m5 H5 all vs->H5 D=some (.lst vs)->Rr (.ok .next) s5) :
  codeAny (aD X.prog X.w) X.A (.compLoop (.ListComp elt [⟨tg,iter,ifs,0⟩] scope pos) 0 (.ref it) (.ref D) (compEnvC scope cl C X.env)) Rr s4:=by
 have len1:σ'.length=X.N.length:=by
  have:=I4.len;simp[dD,iY]at this;exact this
 have lenσ:σ.length=X.N.length:=S1.len.trans len1;have stat:∀{H':Hp}{pl:List (af×aE)},(∀b∈fp,H' b=none)->(∀p∈pl,False)->∀b∈fp,g4 (dD X x scope cl C s3 H3 fp pins) pl H' b:=λhn hpl b hb=>
  ⟨hn b hb,hC b hb,hst b hb,.inl hb,λy c e=>(f3 b hb).2.2.2.2.1 y c (ok.cells y c e),λp hp=>by
   rcases fu.mp hp with z|z
   ·exact(f3 b hb).2.2.2.2.2 p z
   ·exact (hpl p z).elim⟩
 have S1':SR G m1 H4 (σ++bU x.length none) (σ'++bU x.length none):=⟨by simp [S1.len],λi v e=>by
  by_cases hi:i<σ.length
  ·rw[gB hi]at e;obtain⟨v',q,r⟩:=S1.sl i v e;exact⟨v',by rw[gB (by rw[←S1.len];exact hi)];exact q,r⟩
  ·rw[ma (by lia),jF]at e;split at e <;> cases e⟩
 refine Ev (λn s=>CIv G (dD X x scope cl C s3 H3 fp pins) src gc gelt σ x fp tn m1 H2 D all hE n s) ?_ src.items.length ⟨0,_,H4,m1,h1,[],[],all,rfl,fB _,I4,st4,frp,S1',R1,x4,nD,.nil,eD,bo _,hall,rfl⟩;rintro n s ⟨k,σc,H5,m5,h5,acc,vs,rest,rfl,hk,I5,st5,fr5,S5,R5,x5,nD5,ra,eD5,hac,hci,hsum⟩;by_cases hlt:k<src.items.length
 ·have ed:src.items.drop k=src.items[k]::src.items.drop (k+1):=mV hlt;rw[ed]at hci;unfold df at hci;split at hci
  case isFalse=>cases hci
  case isTrue hok=>
  obtain⟨j1,_⟩:=hJ m5 h5 H5 x5 R5 hok;obtain⟨lv,go,yl⟩:=j1 k src.items[k] (by simp[hlt]);generalize src.items[k]=v at lv yl hci;refine cN (T.item (dD X x scope cl C s3 H3 fp pins) rfl rfl rfl hcalm k [] s σc H5 (λ_ _=>False) I5 (stat fr5 λp z=>by cases z) st5 go) (λr s6 q6=>?_) λ_ _ z=>z.elim;obtain⟨w,rfl,q6⟩:=q6;dsimp only;have q7:aB (aD X.prog X.w) X.A (letOwnedTupleGo tg (.ref it) w >>= λ_=>assign tg (compEnvC scope cl C X.env) w) (λ_ s8=>∃σ8 H8 hp7,Inv (dD X x scope cl C s3 H3 fp pins) ([]++kh fp hp7) σ8 H8 s8/\Ext m5 H5 m5 H8/\HR G m5 h5 H8/\SR G m5 H8 (σ++v.map some) σ8/\tn (k+1) hp7) (λ_ _=>False) s6:=by
   refine aC (cN q6 (λ_ s7 e0=>e0.elim λx' e1=>e1.elim λH' e2=>e2.elim λI7 e3=>e3.elim λrw7 e4=>e4.elim λy7 e5=>e5.elim λst7 fr7=>?_) λ_ _ z=>z);obtain⟨xx,RR,rx⟩:=yl x' H' y7;have I8:=I7.pinned (stat fr7 λp z=>by cases z) (T.obj _ _ st7);obtain⟨g,pg,hg⟩:=htg C s3 H3 fp pins (λ_ _=>False);refine cN (pg _ s7 σc H' x' w (λσ9 H9=>H9=H'/\SR G m5 H' (σ++v.map some) σ9) (I8.wish _) rw7 (hg m5 H' v x' _ σc _ (S5.mono xx) rx (by simpa using lv) λσ1' S1'=>⟨rfl,?_⟩)) (λ_ s8 e0=>bA e0 λσ9 H9 I9 e2 S9=>?_) λ_ _ z=>z
   ·have e:=Bb v σ;rw[lenσ,lv]at e;rw[e]at S1';exact S1'
   ·subst e2;exact⟨σ9,H9,s7.heap,I9.unwish,xx,RR,S9,st7⟩
  have again:∀{s9:ak}{H9:Hp}{m9:List af}{h9:MH}{σ9:St}{hp7:aP}{acc9:List MV} {vs9:List V} {rest9:List MV},tn (k+1) hp7->Inv (dD X x scope cl C s3 H3 fp pins) ([]++kh fp hp7) σ9 H9 s9->SR G m9 H9 (σ++v.map some) σ9->HR G m9 h9 H9->Ext m1 H2 m9 H9->D∉m9 ->
    VRs G m9 H9 acc9 vs9->H9 D=some (.lst vs9)->acc9.length≤k+1->df src gc gelt σ (src.items.drop (k+1)) h9=.ok rest9 hE->acc9++rest9=all ->
    ∃n',n'<src.items.length-k/\CIv G (dD X x scope cl C s3 H3 fp pins) src gc gelt σ x fp tn m1 H2 D all hE n' s9:=λ{s9 H9 m9 h9 σ9 hp7 acc9 vs9 rest9} st7 I9 S9 R9 x9 nD9 ra9 eD9 hac9 hci9 hsum9=>by
   have pn:∀b∈fp,∀o,hp7.get? b=some o->s9.heap.get? b=some o/\H9 b=none:=λb hb o e=>
    have z:=I9.pin (b,o) (eN _ (eN _ (uk hb e)))
    ⟨z.1,z.2.1⟩
   refine⟨src.items.length-(k+1),by lia,k+1,σ9,H9,m9,h9,acc9,vs9,rest9,rfl,hlt,I9.pins_of (λp hp=>absurd hp (by simp)),T.keep _ _ _ st7 λb hb o e=>(pn b hb o e).1,λb hb=>?_,?_,R9,x9,nD9,ra9,eD9,hac9,hci9,hsum9⟩
   ·obtain⟨o,e,_⟩:=T.obj _ _ st7 b hb;exact(pn b hb o e).2
   ·refine⟨by have:=S9.len;simp[lv]at this ⊢;exact this,λi v' e=>S9.sl i v' ?_⟩;by_cases hi:i<σ.length
    ·rw[gB hi]at e ⊢;exact e
    ·rw[ma (by lia),jF]at e;split at e <;> cases e
  have body:∀{s8:ak}{H8:Hp}{m8:List af}{h8:MH}{σ8:St}{hp7:aP}{E':ai->ak->Prop},tn (k+1) hp7->Inv (dD X x scope cl C s3 H3 fp pins) ([]++kh fp hp7) σ8 H8 s8->SR G m8 H8 (σ++v.map some) σ8->HR G m8 h8 H8->Ext m5 H5 m8 H8 ->
    bnd (gelt (σ++v.map some)) (λve=>bnd (df src gc gelt σ (src.items.drop (k+1))) λws=>ret (ve::ws)) h8=.ok rest hE ->
    aB (aD X.prog X.w) X.A (aO elt (compEnvC scope cl C X.env)) (λxv s9=>aB (aD X.prog X.w) X.A (call (.builtin "list.append") [.ref D,xv]) (λ_ s10=>∃n',n'<src.items.length-k/\CIv G (dD X x scope cl C s3 H3 fp pins) src gc gelt σ x fp tn m1 H2 D all hE n' s10) E' s9) E' s8:=λ{s8 H8 m8 h8 σ8 hp7 E'} st7 I8 S8 R8 x8 hc8=>by
   obtain⟨eD8,nD8⟩:=x8.fr D _ eD5 nD5 (λ_ z=>nomatch z);obtain⟨ve,h9,rest9,eg,hci9,er⟩:∃ve h9 rest9,gelt (σ++v.map some) h8=.ok ve h9/\df src gc gelt σ (src.items.drop (k+1)) h9=.ok rest9 hE/\rest=ve::rest9:=by
    simp only[bnd]at hc8;cases eg:gelt (σ++v.map some) h8 with
    |ok ve h9=>
      rw[eg]at hc8;dsimp only at hc8;cases ec:df src gc gelt σ (src.items.drop (k+1)) h9 with
      |ok ws h10=>
        rw[ec]at hc8;injection hc8 with e1 e2;subst e1;subst e2;exact⟨ve,h9,ws,rfl,ec,rfl⟩
      |exc c h'=>rw[ec]at hc8;cases hc8
      |stuck=>rw[ec]at hc8;cases hc8
    |exc c h'=>rw[eg]at hc8;cases hc8
    |stuck=>rw[eg]at hc8;cases hc8
   subst er;refine cN (helt C s3 H3 fp pins (λ_ _=>False) ET _ s8 σ8 H8 (λv' H9=>∃m9,Ext m8 H8 m9 H9/\HR G m9 h9 H9/\VR G m9 H9 ve v') (I8.wish _) ⟨m8,h8,σ++v.map some,trivial,S8,R8,by rw[eg];exact λm9 H9 y R9 v' rv=>⟨m9,y,R9,rv⟩⟩) (λxv s9 e0=>e0.elim λv' e1=>e1.elim λH9 e2=>e2.elim λI9 e3=>e3.elim λr9 e4=>e4.elim λm9 e5=>e5.elim λx9 e6=>e6.elim λR9 rv=>?_) λ_ _ z=>z.elim;obtain⟨eD9,nD9⟩:=x9.fr D _ eD8 nD8 (λ_ z=>nomatch z);have x59:Ext m1 H2 m9 H9:=(x5.trans x8).trans x9;refine cN (xD (X:=(dD X x scope cl C s3 H3 fp pins).wish λ_ _=>False) _ s9 σ8 H9 (.ref D) [v'] (.ref D) [xv] (λ_ H10=>H10=upd H9 D (.lst (vs++[v']))) I9 rfl (.cons r9 .nil) ⟨D,vs,v',rfl,rfl,eD9,?_,rfl⟩) (λ_ s10 e0=>bA e0 λv10 H10 I10 _ e10=>?_) λ_ _ z=>z.elim
   ·rw[←Paired.length ra];exact dN (vN hac (dN hlt hlen)) (big (bo _))
   ·subst e10;have mD:Mn m9 H9 m9 (upd H9 D (.lst (vs++[v']))):=Mn.sideSet λys z=>by rw[eD9]at z;cases z
    exact again (acc9:=acc++[ve]) (vs9:=vs++[v']) (rest9:=rest9) st7 I10.unwish ((S8.mono x9).mn mD) (R9.sideSet nD9 (λys z=>by rw[eD9]at z;cases z) (λo' ys z=>by rw[eD9]at z;cases z) (λv z=>by rw[eD9]at z;cases z;exact λy=>y)) (x59.sideSet hD) nD9 (VRs.mono mD (jQ (x9.vrs (x8.vrs ra)) (.cons rv .nil))) dw (by simp;lia) hci9 (by simpa using hsum)
  refine cN q7 (λ_ s8 e0=>e0.elim λσ8 e1=>e1.elim λH8 e2=>e2.elim λhp7 e3=>e3.elim λI8 e4=>e4.elim λx58 e5=>e5.elim λR8 e6=>e6.elim λS8 st7=>?_) λ_ _ z=>z.elim;cases ifs with
  |nil=>cases gc with
    |none=>
      simp only[List.forIn_nil];refine bg ?_;rw[if_pos rfl];exact body st7 I8 S8 R8 x58 hci
    |some g=>exact hif.elim
  |cons c more=>cases more with
    |nil=>cases gc with
      |none=>exact hif.elim
      |some g=>
        have hif:∀C s H fp pins,GT G (dD X x scope cl C s H fp pins) c g:=hif;unfold bnd at hci;cases et:tst g (σ++v.map some) h5 with
        |ok b h6=>
          simp only [et] at hci;refine wpAny_tests_one (cN (hif C s3 H3 fp pins (λ_ _=>False) ET _ s8 _ H8 (λb' H6=>b'=b/\∃m6,Ext m5 H8 m6 H6/\HR G m6 h6 H6) (I8.wish _) ⟨m5,h5,σ++v.map some,trivial,S8,R8,by
            rw [et];exact λm6 H6 y R6=>⟨rfl,m6,y,R6⟩⟩) (λb' s9 e0=>e0.elim λH6 e1=>e1.elim λI9 e2=>e2.elim λeb e3=>e3.elim λm6 e4=>e4.elim λx6 R6=>?_) λ_ _ z=>z.elim)
          subst eb;cases b' with
          |true=>
            rw[if_pos rfl];exact body st7 I9.unwish (S8.mono x6) R6 (x58.trans x6) (by simpa only[bnd,if_true] using hci)
          |false=>
            rw[if_neg cK];obtain⟨eD6,nD6⟩:=(x58.trans x6).fr D _ eD5 nD5 (λ_ z=>nomatch z);exact again st7 I9.unwish (S8.mono x6) R6 (x5.trans (x58.trans x6)) nD6 ((x58.trans x6).vrs ra) eD6 (by lia) (by simpa using hci) hsum
        |exc c h'=>simp only[et]at hci;cases hci
        |stuck=>simp only[et]at hci;cases hci
    |cons _ _=>exact hif.elim
 ·have e:k=src.items.length:=by lia
  subst e;rw[r6]at hci;unfold df at hci;split at hci
  case isFalse=>cases hci
  case isTrue hok=>
  obtain⟨_,stp⟩:=hJ m5 h5 H5 x5 R5 hok;injection hci with e1 e2;subst e1;subst e2;refine cN (T.done (dD X x scope cl C s3 H3 fp pins) rfl rfl rfl hcalm _ [] s σc H5 (λ_ _=>False) I5 (stat fr5 λp z=>by cases z) st5 stp) (λr s6 q6=>?_) λ_ _ z=>z.elim
  obtain⟨rfl,I6⟩:=q6;rw[up]at hsum;subst hsum;exact hR σc H5 m5 s6 vs I6 R5 x5 nD5 ra eD5
theorem zj{x:List Str}{one:Bool}{pos:Pos}{tg elt iter:aw}{ifs:List aw}{scope:Scope}{cl:List (Str×af)}{gi:MI}{gc:Option ME}{gelt:ME}(ok:eW X x scope cl)(hi:GI G X tg iter one x.length gi)
  (helt:∀C s H fp pins,GE G (dD X x scope cl C s H fp pins) elt gelt) (hif:tz G X x scope cl ifs gc) (htg:∀C s H fp pins,GTg G (dD X x scope cl C s H fp pins) tg one (nr X.N.length x.length)) (hcalm:X.calm=true) {pins:List (af×aE)} {s:ak} (I:Inv X pins σ' H s) (ex:EX σ') (S:SR G m H σ σ') (R:HR G m h H)
  {Q:MV->List af->MH->Hp->Prop} (P:Post G X E EX m H (eZ gi gc gelt σ h) Q) {RR:ai->af->Result->ak->Prop}
  (hRR:∀D C s5 H5 m5 h5 v,Inv X pins σ' H5 s5->Fp X pins H5 C->(∃mm,s5.heap.Ns C mm)->Ext m H m5 H5->HR G m5 h5 H5->VR G m5 H5 v (.ref D)->Q v m5 h5 H5->RR (.ref D) C (.ok .next) s5) :
  aB (aD X.prog X.w) X.A (aO iter X.env) (λxv s₁=>aB (aD X.prog X.w) X.A (pyIter xv) (λit s₂=>aB (aD X.prog X.w) X.A (newList []) (λacc s₃=>
   aB (aD X.prog X.w) X.A (newFunctionEnv scope X.env.globals cl [] X.env.qual none .none (some X.env)) (λcenv s₄=>
    codeAny (aD X.prog X.w) X.A (.compStart (.ListComp elt [⟨tg,iter,ifs,0⟩] scope pos) 0 it acc { cenv with scope:=relabel scope X.env }) (RR acc cenv.locals) s₄) E s₃) E s₂) E s₁) E s:=by
 obtain ⟨wi,pw,hw⟩:=hi E EX;refine cN (pw pins s σ' H (λJ H2=>∃src m1 h1,JOk G J src one x.length m1 H2/\HR G m1 h1 H2/\Ext m H m1 H2/\Post G X E EX m1 H2 ((if src.items.length≤100000 then bnd (mf (df src gc gelt σ src.items)) (λvs=>new (.lst vs)) else stk) h1) Q) (I.wish E)
  (hw σ' H _ ⟨m,h,σ,ex,S,R,(Post.bind P).mono λsrc m1 h1 H1 x1 R1 P1 J hJ=>⟨src,m1,h1,hJ,R1,x1,P1⟩⟩)) (λxv s1 q1=>cN q1 (λitv s2 q2=>?_) λ_ _ z=>z) λ_ _ z=>z
 obtain⟨it,fp,tn,J,H2,rfl,I2,T,st2,f2,src,m1,h1,hJ,R1,x1,P1⟩:=q2;have I2:=I2.unwish;have f2:∀b∈fp,g4 X pins H2 b:=f2;split at P1
 case isFalse=>exact P1.elim
 case isTrue hlen=>
 obtain⟨all,hE,hall,P2⟩:∃all hE,df src gc gelt σ src.items h1=.ok all hE/\Post G X E EX m1 H2 (new (.lst all) hE) Q:=by
  unfold bnd mf at P1;cases e:df src gc gelt σ src.items h1 with
  |ok all hE=>rw[e]at P1;exact⟨all,hE,rfl,P1⟩
  |exc c h'=>rw[e]at P1;exact P1.elim
  |stuck=>rw[e]at P1;exact P1.elim
 have fD:H2 s2.heap.objs.size=none:=I2.hok.fresh (bo _);refine wpAny_newObj_type ?_;have I3:=I2.laid (t':=s2.toks) (o:=.lst []) (h':=s2.heap.push { cls:=.type "list",dict:=none,data:=.seq ([]:List ai).toArray }) (λb u e=>bI _ e) (bo _) ⟨fB _,[],0,.nil,eM _ rfl⟩;generalize hs3:({ s2 with heap:=s2.heap.push { cls:=.type "list",dict:=none,data:=.seq ([]:List ai).toArray } }:ak)=s3 at I3 ⊢;have e3:∀b o,s2.heap.get? b=some o->s3.heap.get? b=some o:=λb o e=>by rw[←hs3];exact bI _ e
 have z3:s2.heap.objs.size<s3.heap.objs.size:=by rw[←hs3];simp
 have ffo:∀b∈fp,∃o,s2.heap.get? b=some o:=λb hb=>let ⟨o,e,_⟩:=T.obj 0 _ st2 b hb;⟨o,e⟩;have f3:∀b∈fp,g4 X pins (upd H2 s2.heap.objs.size (.lst [])) b:=λb hb=>by
  obtain⟨o,e⟩:=ffo b hb;exact⟨by rw[ba (cS (bD e))];exact(f2 b hb).1,(f2 b hb).2⟩
 refine wpAny_newFunctionEnv ok.nocell (λy hy=>by simp at hy) (λhp4 ns4 sb4=>?_) ok.kind;have k4:∀b o,s3.heap.get? b=some o->hp4.get? b=some o:=λb o e=>sb4.extBut b o (cS (bD e)) (bI _ e);have I4:=Ct (t:=s3.toks+([]:List (Str×ai)).length) ok I3 f3 (λb hb=>let ⟨o,e⟩:=ffo b hb;⟨o,e3 b o e⟩) ⟨_,ns4⟩ k4;have st4:tn 0 hp4:=T.keep 0 _ _ st2 λb hb o e=>k4 b o (e3 b o e);have stkF:∀b∈fp,b∉frs X.stack:=λb hb z=>by
  rcases bK.mp (I3.stkSub b z) with y|y
  ·exact(f3 b hb).2.1 y
  ·exact(f3 b hb).2.2.1 y
 have loop:=Dd (pos:=pos) (iter:=iter) (C:=s3.heap.objs.size) (s3:=s3) (D:=s2.heap.objs.size) ok helt hif htg hcalm T hJ hlen hall f3 (λb hb=>let ⟨o,e⟩:=ffo b hb;cS (bD (e3 b o e))) stkF I4 st4 ((S.mono x1).mono (Ext.side fD)) (R1.side fD) (Ext.side fD) fD (R1.fresh fD) dw (λb hb=>(f3 b hb).1)
  (Rr:=RR (.ref s2.heap.objs.size) s3.heap.objs.size) λσc H5 m5 s5 vs I5 R5 x5 nD5 ra eD5=>by
   have xA:Ext m1 H2 (m5++[s2.heap.objs.size]) H5:=by
    obtain⟨e,pe⟩:=x5.pre;refine⟨⟨e++[s2.heap.objs.size],by rw[pe];simp⟩,λa o z n nt=>⟨(x5.fr a o z n nt).1,?_⟩,x5.fz⟩;simp only[fu,cT,not_or];exact⟨(x5.fr a o z n nt).2,dY z fD⟩
   have RA:HR G (m5++[s2.heap.objs.size]) (hE++[.lst all]) H5:=R5.adopt nD5 (λys z=>by rw[eD5]at z;cases z) (λv z=>by rw[eD5]at z;cases z;exact λy=>y) ⟨vs,VRs.mono (Mn.adopt (λys z=>by rw[eD5]at z;cases z)) ra,eD5⟩;refine hRR s2.heap.objs.size s3.heap.objs.size s5 H5 (m5++[s2.heap.objs.size]) (hE++[.lst all]) (.ref hE.length) (I3.call' I5.os I5.base I5.hok I5.bare λb hb=>⟨(f3 b hb).2.2.2.1,(f3 b hb).2.1,(f3 b hb).2.2.2.2.1,(f3 b hb).2.2.2.2.2⟩) (Fp.of I3 (mh (bo _)) I5.free) ?_ (x1.trans xA) RA ⟨_,by rw[←R5.len];simp,rfl⟩ (P2 _ _ xA RA);obtain⟨mm,hn,_⟩:=I5.loc;exact⟨mm,hn⟩
 exact codeAny_compStart_list loop (T.self X.A 0 _ _ _ st4 loop)
theorem j6{x:List Str}{one:Bool}{pos:Pos}{tg elt iter:aw}{ifs:List aw}{scope:Scope}{cl:List (Str×af)}{gi:MI}{gc:Option ME}{gelt:ME}(ok:eW X x scope cl)(hi:GI G X tg iter one x.length gi)
  (helt:∀C s H fp pins,GE G (dD X x scope cl C s H fp pins) elt gelt) (hif:tz G X x scope cl ifs gc) (htg:(iY X.N x).Nodup->∀C s H fp pins,GTg G (dD X x scope cl C s H fp pins) tg one (nr X.N.length x.length)) (hcalm:X.calm=true:=by rfl) (hs:∀z,foldedSetIterable iter X.env z=pure z:=by intro _;rfl) :
  GE G X (.ListComp elt [⟨tg,iter,ifs,0⟩] scope pos) (eZ gi gc gelt):=λE EX pins s σ' H Q I e0=>b8 e0 λm h σ ex S R P=>by
 rw[eval_ListComp];refine wpAny_comprehension_free (use:=none) rfl hs ok.clos ok.kind ok.locs ?_;refine zj (RR:=λacc C=>compPost (aD X.prog X.w) X.A E none (EP (X.wish E) pins σ' Q) acc C) ok hi helt hif (htg ok.nd) hcalm I.unwish ex S R P λD C s5 H5 m5 h5 v I5 fC hn x5 R5 rv q=>?_;obtain⟨mm,hn⟩:=hn;refine⟨mm,hn,λh6 hs6=>⟨.ref D,H5,Inv.wish ?_ E,rfl,q _ rv⟩⟩;exact fC.turned (t':=s5.toks) I5 λc o hc e=>hs6.extBut c o hc e
theorem si{x:List Str}{y:Str}{n:Nat}{one:Bool}{py pos spos:Pos}{tg elt iter:aw}{ifs:List aw}{scope:Scope}{cl:List (Str×af)}{gi:MI}{gc:Option ME}{gelt:ME}(ok:eW X x scope cl)(hi:GI G X tg iter one x.length gi)
  (helt:∀C s H fp pins,GE G (dD X x scope cl C s H fp pins) elt gelt) (hif:tz G X x scope cl ifs gc) (htg:(iY X.N x).Nodup->∀C s H fp pins,GTg G (dD X x scope cl C s H fp pins) tg one (nr X.N.length x.length)) (hN:X.N.Nodup) (hy:X.N[n]?=some y:=by rfl) (hl:X.env.scope.names.lookup y=some .local:=by rfl) (hcalm:X.calm=true:=by rfl) (hs:∀z,foldedSetIterable iter X.env z=pure z:=by intro _;rfl)
  (hsw:swapsWith (.ListComp elt [⟨tg,iter,ifs,0⟩] scope pos) (some (.Name y py)) spos.line X.env=pure true:=by rfl) :
  GS G EX X (.Assign [.Name y py] (.ListComp elt [⟨tg,iter,ifs,0⟩] scope pos) spos) (aY n (eZ gi gc gelt)):=λE hp pins s σ' H D I e0=>b8 e0 λm h σ ex S R P=>by
 show aB _ _ (exec _ X.env) _ _ s;rw[exec_Assign_Name_used _ _ _ _ hsw];refine aC (wpAny_standAt (aC ?_));show aB _ X.A (do let _ ←comprehension (.ListComp elt [⟨tg,iter,ifs,0⟩] scope pos) scope X.env _ (newList []) false (aO iter X.env) (some (assign (.Name y py) X.env))) _ _ s;refine aC (cN (wpAny_comprehension_free (use:=some (assign (.Name y py) X.env)) (Q:=λ_ s'=>SP (X.wish E) pins D .next s') rfl hs ok.clos ok.kind ok.locs ?_) (λ_ s' hq=>bg (bg hq)) λ_ _ z=>z);refine zj (RR:=λacc C=>compPost (aD X.prog X.w) X.A E (some (assign (.Name y py) X.env)) (λ_ s'=>SP (X.wish E) pins D .next s') acc C) ok hi helt hif (htg ok.nd) hcalm I.unwish ex S R (Post.bind P) λD' C s5 H5 m5 h5 v I5 fC hn x5 R5 rv q=>?_;obtain⟨mm,oC,es,ep,hoC,hdC,hkC⟩:=hn;have I6:Inv X (pins++[(C,oC)]) σ' H5 s5:=I5.pins_of λp hp=>by
  rcases fu.mp hp with z|z
  ·exact I5.pin p (eN _ z)
  ·cases cT.mp z;exact⟨hoC,fC.un,fC.loc,fC.fs,λv' z=>by rw[hdC]at z;cases z⟩
 refine wpAny_assign_Name (vF (X:=X) (v:=.ref D') I6 hN hy (.inl hl) rfl (λs7 I7=>?_) (.inr hl));have pC:=I7.pin (C,oC) (eN _ (eN _ (cT.mpr rfl)));refine⟨mm,⟨oC,es,ep,pC.1,hdC,hkC⟩,λh8 hs8=>?_⟩;have I8:Inv X pins (σ'.set n (some (.ref D'))) H5 s7:=I7.pins_of λp hp=>I7.pin p (eN _ (mv _ hp));have I9:Inv X pins (σ'.set n (some (.ref D'))) H5 { s7 with heap:=h8 }:=fC.turned (t':=s7.toks) I8 λc o hc e=>hs8.extBut c o hc e;exact⟨_,H5,I9.wish E,Post.here R5 q _ ((S.mono x5).set n rv)⟩
theorem VR.flat_iff{x:MV}{v:V}(na:x≠.any)(r:VR G m H x v):iG v=flat x:=by
 cases x with
 |any=>exact absurd rfl na
 |tup n=>obtain⟨a,vs,q,_⟩:=r;subst q;rfl
 |ref n=>obtain⟨a,_,q⟩:=r;subst q;rfl
 |scr n=>obtain⟨_,q⟩:=r;subst q;rfl
 |non=>cases(show v=V.non from r);rfl
 |bl b=>cases(show v=V.bl b from r);rfl
 |int b=>cases(show v=V.int b from r);rfl
 |str b=>cases(show v=V.str b from r);rfl
theorem VR.eq_iff{x y:MV}{v w:V}(r:VR G m H x v)(q:VR G m H y w)(fx:flat x=true)(fy:flat y=true):eqV v w=eqM x y:=by
 cases x <;> cases y <;> first|(exact absurd fx cK)|(exact absurd fy cK)|(cases r;cases q;rfl)
theorem uc{x:MV}(f:flat x=true):x≠.any:=λz=>by rw[z]at f;cases f
theorem VRs.flat_iff{xs:List MV}{vs:List V}(r:VRs G m H xs vs)(f:xs.all flat=true):vs.all iG=true:=by
 induction r with
 |nil=>rfl
 |cons a t ih=>
   simp only[nh,ip]at f ⊢;exact⟨by rw[VR.flat_iff (uc f.1) a];exact f.1,ih f.2⟩
theorem VRs.in_iff{xs:List MV}{vs:List V}{x:MV}{v:V}(q:VR G m H x v)(fx:flat x=true)(r:VRs G m H xs vs)(fs:xs.all flat=true):inV v vs=inM x xs:=by
 unfold inV inM
 induction r with
 |nil=>rfl
 |cons a t ih=>
   simp only[nh,ip]at fs;simp only[jC,ih fs.2,VR.eq_iff a q fs.1 fx]
def wj(neg:Bool):R2:=λx y H Q=>∃a o,y=.ref a/\DGet H a x o/\Q (.bl (if neg then !o.isSome else o.isSome)) H
theorem tZ(hu:X.A.units+1<cLine):OpR X (d4 .In) (λx y H Q=>rIn X.K false x y H Q∨wj false x y H Q):=by
 refine Do.or ?_;rintro pins s σ2 H x y v u Q I rx ry ⟨a,o,ey,g,q⟩;subst ey;cases ry;exact EV hu I g rx λs3 I3=>⟨.bl o.isSome,H,I3,rfl,q⟩
theorem sj(hu:X.A.units+1<cLine):OpR X (d4 .NotIn) (λx y H Q=>rIn X.K true x y H Q∨wj true x y H Q):=by
 refine HC.or ?_;rintro pins s σ2 H x y v u Q I rx ry ⟨a,o,ey,g,q⟩;subst ey;cases ry;exact C1 hu I g rx λs3 I3=>⟨.bl (!o.isSome),H,I3,rfl,q⟩
theorem k7{neg:Bool}:VO G (oIn neg) (λx y H Q=>rIn G.K neg x y H Q∨wj neg x y H Q):=by
 intro X E EX m h H x y x' y' Q R rx ry P;cases y with
 |ref a=>
   obtain⟨aa,ea,rfl⟩:=ry;obtain⟨oa,e1,q1,P1⟩:=cy R ea P;cases oa with
   |lst xs=>
     obtain⟨vs,r,z⟩:=q1;dsimp only at P1;split at P1
     ·rename_i c;exact .inl ⟨aa,vs,rfl,.inl (SqL.of z),by rw[VR.flat_iff (uc c.1) rx];exact c.1,VRs.flat_iff r c.2,by rw[VRs.in_iff rx c.1 r c.2];exact Post.here R P1 _ rfl⟩
     ·exact P1.elim
   |dct kvs=>
     obtain⟨ws,r,z⟩:=q1;dsimp only at P1;cases x with
     |str k=>
       cases(show x'=V.str k from rx);refine .inr ⟨aa,_,rfl,DGet.k (k:=Sum.inr k) z,?_⟩;have e:(fW ws (Sum.inr k)).isSome=(dget k kvs).isSome:=by rw[←oY,wV r]
       rw[e];exact Post.here R P1 _ rfl
     |_=>exact P1.elim
   |_=>exact P1.elim
 |tup xs=>
   obtain⟨aa,vs,rfl,_,z,r⟩:=ry;have r:=VRl.to r;unfold oIn at P;dsimp only at P;split at P
   ·rename_i c;exact .inl ⟨aa,vs,rfl,.inr (SqT.of z),by rw[VR.flat_iff (uc c.1) rx];exact c.1,VRs.flat_iff r c.2,by rw[VRs.in_iff rx c.1 r c.2];exact Post.here R P _ rfl⟩
   ·exact P.elim
 |_=>exact P.elim
theorem Bg{α β:Type}{Rr:α->β->Prop}:∀(xs:List α) (ys:List β),xs.length=ys.length->(∀(i:Nat) x y,xs[i]?=some x->ys[i]?=some y->Rr x y)->cf Rr xs ys
 |[],[],_,_=>.nil
 |[],_::_,e,_=>by simp at e
 |_::_,[],e,_=>by simp at e
 |x::xs,y::ys,e,f=>.cons (f 0 x y rfl rfl) (Bg xs ys (by simpa using e) λi a b ha hb=>f (i+1) a b (by simpa using ha) (by simpa using hb))
end L2.Rv
namespace L2.Rv
open PySem PySem.Spec PyProof.Rows
variable {G:Gb}{X:Cx}
def mP(env:Env):List (Str×af)->Prop
 |[]=>True
 |(n,c)::r=>env.cells.lookup n=some c/\mP env r
theorem mP.get{env:Env}:∀{cl:List (Str×af)},mP env cl->∀n c,cl.lookup n=some c->env.cells.lookup n=some c
 |[],_,n,c,e=>by simp at e
 |(n',c')::r,k,n,c,e=>by
   by_cases hn:n=n'
   ·subst hn;simp only[bW,beq_self_eq_true]at e;cases e;exact k.1
   ·have hb:(n == n')=false:=by simpa using hn
    simp only[bW,hb]at e;exact mP.get k.2 n c e
noncomputable def zL(N:List Str)(x:List Str)(scope:Scope)(env:Env)(cl:List (Str×af)):Bool:=
 scope.names.all (λy=>y.2 != .cell)&&scope.names.all (λy=>y.2 != .local||scope.names.lookup y.1 == some .local)&&true &&
 scope.names.all (λy=>y.2 != .free||((cl.lookup y.1).isSome&&(env.kindOf y.1 == some .cell||env.kindOf y.1 == some .free))) &&
 N.all (λn=>decide (n∈x)||scope.names.lookup n != some .local)&&(scope.names.lookup (aQ "")).isNone&&decide (iY N x).Nodup
theorem eW.of{x:List Str}{scope:Scope}{cl:List (Str×af)}(h1:closureFor scope X.env=pure cl)(h2:mP X.env cl)(h0:scope.kind=.function)(h3:zL X.N x scope X.env cl=true):eW X x scope cl:=by
 simp only[zL,ip,vQ,Bool.or_eq_true,bne_iff_ne,ne_eq,beq_iff_eq,decide_eq_true_eq,Option.isNone_iff_eq_none]at h3;obtain⟨⟨⟨⟨⟨⟨a1,a2⟩,a3⟩,a4⟩,a5⟩,a6⟩,a7⟩:=h3;refine⟨h1,h2.get,h0,a1,λy hy e=>(a2 y hy).resolve_left (λz=>z e),λy e=>?_,λy e=>?_,λn hn ne=>(a5 n hn).resolve_left ne,a6,a7⟩
 ·have:=(a4 _ (PySem.mem_of_lookup e)).resolve_left (λz=>z rfl);exact ny.mp this.1
 ·exact((a4 _ (PySem.mem_of_lookup e)).resolve_left (λz=>z rfl)).2
theorem Ed{K:PySem.W.Frag}{C:af}{name:Str}{a g:ai}(hc:(PySem.W.clsIn K C).isSome=true)(ha:PySem.W.findIn K (.ref C) name=some (some a))(hg:PySem.W.specialIn K a "__get__"=some (some g))(ht:PySem.W.takesIn K a=some true):PySem.W.findObj K C none name=some (.bind g a):=by
 obtain⟨cd,hc⟩:=ny.mp hc;unfold PySem.W.findObj;rw[hc,Option.bind_some,ha,Option.bind_some];simp[hg,ht]
noncomputable abbrev j4:List ai:=[.type "ValueError",.type "Exception",.type "BaseException",.type "object"]
noncomputable abbrev jy:String:="ValueError.__new__"
end L2.Rv
namespace L2.Rv
open PySem PySem.Spec PyProof.Rows
variable {G:Gb}{m m' m1 m2:List af}{h h' h1 h2:MH}{H H' H1 H2:Hp}{X:Cx}{E:ai->ak->Prop}{EX:St->Prop}{σ:MSt}{σ':St}
theorem Inv.turnedL{pins:List (af×aE)}{s:ak}{fp:List af}{hp:aP}{t:Nat}(I:Inv X pins σ' H s)(f:∀b∈fp,g4 X pins H b)(k:∀c o,c∉fp->s.heap.get? c=some o->hp.get? c=some o):Inv X pins σ' H { s with heap:=hp,toks:=t }:=by
 have nit:∀b u,H b=some u->b∉fp:=λb u e z=>by rw[(f b z).1]at e;cases e
 refine I.step (g':=s.gens) (d':=s.drawn) (ch:=fp) (λb hb=>⟨(f b hb).2.2.2.1,(f b hb).2.1,(f b hb).2.2.2.2.1,(f b hb).2.2.2.2.2⟩) (λb o _ _ hc e _=>k b o hc e) (λb o _ _ hc e _=>⟨o.slots,k b o hc e⟩) (λ_ _ _ _ n=>n)
  (λb o hc e=>⟨o,k b o hc e⟩) (λ_ _ e=>e) (λ_ _ _ e=>e) (λb ps e=>⟨#[],by rw[e];simp⟩) (λmm hm=>?_) (λb u e=>?_) I.bare
 ·obtain⟨o,es,ep,ho,r⟩:=hm;exact⟨o,es,ep,k _ o (λz=>(f _ z).2.1 rfl) ho,r⟩
 ·refine(I.hok b u e).stay (λc v hc q=>k c v ?_ q) (λ_ q=>q) λ_ _ q=>q;rcases hc with z|z
  ·rw[z];exact nit b u e
  ·exact nit c _ z
theorem Inv.trackO{pins:List (af×aE)}{s:ak}{a:af}{v:HO}(I:Inv X pins σ' H s)(f:Fp X pins H a)(ok:bQ X.prog X.w (upd H a v) s.heap a v):Inv X pins σ' (upd H a v) s:=by
 have na:∀b u,H b=some u->b≠a:=λb u e z=>by rw[z,f.un]at e;cases e
 refine⟨I.ok,I.os,I.bare,⟨I.base.keep,I.base.slot,λb o e n hx=>?_,I.base.there,λb xs e=>?_,λb o u e=>?_,λb ps e=>?_⟩,I.loc,I.cell,?_,λx c e=>?_,λp hp=>?_,λb u e=>?_,I.len⟩
 ·rw[ba]
  ·exact I.base.free b o e n hx
  ·intro z;rcases f.new with y|y
   ·exact hx (z▸y)
   ·rw[z,y]at e;cases e
 ·have q:=I.base.tups b xs e;rw[ba (na b _ q)];exact q
 ·have q:=I.base.frzs b o u e;rw[ba (na b _ q)];exact q
 ·obtain⟨mo,q⟩:=I.base.tbls b ps e;exact⟨mo,by rw[ba (na b _ q)];exact q⟩
 ·rw[ba (Ne.symm f.loc)];exact I.free
 ·rw[ba (f.ce x c e)];exact I.freeC x c e
 ·obtain⟨a1,a2,a3,a4,a5⟩:=I.pin p hp;exact⟨a1,by rw[ba (f.pin p hp)];exact a2,a3,a4,a5⟩
 ·by_cases z:b=a
  ·subst z;rw[dw]at e;cases e;exact ok
  ·rw[ba z]at e;refine(I.hok b u e).stay (λ_ _ _ q=>q) (λc q=>?_) λc xs q=>?_
   ·rw[ba (na c _ q)];exact q
   ·rw[ba (na c _ q)];exact q
noncomputable def Itz(K:PySem.W.Frag)(l1 l2:af):It where
 go:=λi H=>∃xs ys x y,SqL K H l1 xs/\SqL K H l2 ys/\xs[i]?=some x/\ys[i]?=some y
 yld:=λi H v H'=>∃T x y,v=.ref T/\H T=none/\H'=upd H T (.tup [x,y])/\(∀xs,SqL K H l1 xs->xs[i]?=some x)/\∀ys,SqL K H l2 ys->ys[i]?=some y
 stop:=λi H=>∃xs ys,SqL K H l1 xs/\SqL K H l2 ys/\(xs.length≤i∨ys.length≤i)
theorem mem5{a b c d e x:af}(h:x∉[a,b,c,d,e]):x≠a/\x≠b/\x≠c/\x≠d/\x≠e:=by simpa using h
theorem F5{P:br}{w:aX}{K:PySem.W.Frag}{elts:List aw}{x1:Nat}{tp:Pos}{z TI TO i1 i2 l1 l2:af}(D:ZipApart z TI TO i1 i2 l1 l2) :
  Turn P w K (.Tuple elts x1 tp) (Itz K l1 l2) [z,TI,TO,i1,i2] z (λi h=>IsZip h z TI TO .none/\IsPair h TI (.ref i1) (.ref i2)/\(∃a b,IsPair h TO a b)/\h.IsListIter i1 l1 i/\h.IsListIter i2 l2 i) where
 mem:=by simp
 obj:=λi h ⟨hz,hTI,⟨a,b,hTO⟩,h1,h2⟩ c hc=>by
  simp only[bK,lL,or_false]at hc;rcases hc with rfl|rfl|rfl|rfl|rfl
  ·exact⟨_,hz,λv y=>by cases(show Data.fields _=Data.cell v from y)⟩
  ·exact⟨_,hTI,λv y=>by cases(show Data.seq _ _=Data.cell v from y)⟩
  ·exact⟨_,hTO,λv y=>by cases(show Data.seq _ _=Data.cell v from y)⟩
  ·obtain⟨o,e,q1,q2⟩:=h1;exact⟨o,e,λv y=>by rw[q2]at y;cases y⟩
  ·obtain⟨o,e,q1,q2⟩:=h2;exact⟨o,e,λv y=>by rw[q2]at y;cases y⟩
 keep:=λi h h' ⟨hz,hTI,⟨a,b,hTO⟩,h1,h2⟩ k=>⟨k z (by simp) _ hz,k TI (by simp) _ hTI,⟨a,b,k TO (by simp) _ hTO⟩,h1.at λo e=>k i1 (by simp) o e,h2.at λo e=>k i2 (by simp) o e⟩
 item:=by
  rintro X hP hw hK hc i pins s σ H E I hf ⟨hz,hTI,⟨a,b,hTO⟩,h1,h2⟩ ⟨xs,ys,x,y,q1,q2,e1,e2⟩;subst hP hw hK;obtain⟨its,rv,p,hzz⟩:=I.list q1;obtain⟨its2,rv2,p2,hzz2⟩:=I.list q2;obtain⟨u,hu,ru⟩:=rv.get e1;obtain⟨u2,hu2,ru2⟩:=rv2.get e2;refine wpAny_pyNext_zip_item D hz hTI hTO h1 h2 p.isList p2.isList (x:=u) (y:=u2) (by simpa using hu) (by simpa using hu2) λhp' a1 a2 a3 a4 a5 a6 kk=>?_;refine⟨_,rfl,wpAny_letOwnedTupleGo_zip a1 λhp2 b1 b2=>?_⟩;have kz:∀c o,c≠z->c≠TO->c≠i1->c≠i2->s.heap.get? c=some o->hp2.get? c=some o:=λc o c1 c2 c3 c4 e=>b2.extBut _ _ c1 (kk c o c1 c2 c3 c4 e);have I1:Inv X pins σ H { s with heap:=hp2,toks:=s.toks }:=Inv.turnedL I hf λc o hc' e=>by
   obtain⟨n1,n2,n3,n4,n5⟩:=mem5 hc';exact kz c o n1 n3 n4 n5 e
  have nT:∀c o,s.heap.get? c=some o->s.heap.objs.size≠c:=λc o e=>jb (bD e);have zT:s.heap.objs.size≠z:=nT z _ hz;have gT:hp2.get? s.heap.objs.size=some { cls:=.type "tuple",data:=.seq #[u,u2] }:=b2.extBut _ _ zT a5;have fT:Fp X pins H s.heap.objs.size:=Fp.of I (mh (bo _)) (I.hok.fresh (bo _));have I2:=Inv.trackO (v:=.tup [x,y]) I1 fT ⟨by show 2≤bh;decide,[u,u2],.cons ru (.cons ru2 .nil),⟨_,gT,rfl,0,rfl⟩⟩;refine⟨.ref s.heap.objs.size,_,I2,rfl,⟨s.heap.objs.size,x,y,rfl,fT.un,rfl,λws hw=>by rw[I.list_inj hw q1];exact e1,λws hw=>by rw[I.list_inj hw q2];exact e2⟩,⟨b1,?_,⟨u,u2,b2.extBut _ _ D.TOz a2⟩,a3.extBut b2.extBut D.i1z,a4.extBut b2.extBut D.i2z⟩,λc hc'=>?_⟩
  ·exact kz _ _ D.TIz D.TITO D.TIi1 D.TIi2 hTI
  ·rw[ba]
   ·exact(hf c hc').1
   ·simp only[bK,lL,or_false]at hc';rcases hc' with rfl|rfl|rfl|rfl|rfl
    ·exact(nT _ _ hz).symm
    ·exact(nT _ _ hTI).symm
    ·exact(nT _ _ hTO).symm
    ·obtain⟨o,e,_⟩:=h1;exact(nT _ _ e).symm
    ·obtain⟨o,e,_⟩:=h2;exact(nT _ _ e).symm
 done:=by
  rintro X hP hw hK hc i pins s σ H E I hf ⟨hz,hTI,⟨a,b,hTO⟩,h1,h2⟩ ⟨xs,ys,q1,q2,e1⟩;subst hP hw hK;obtain⟨its,rv,p,hzz⟩:=I.list q1;obtain⟨its2,rv2,p2,hzz2⟩:=I.list q2;have l1:=rv.length;have l2:=rv2.length;refine wpAny_pyNext_zip_end (I.ok.hd hc) D hz hTI hTO h1 h2 p.isList p2.isList ?_ λhp' kk=>⟨rfl,Inv.turnedL (t:=s.toks) I hf λc o hc' e=>?_⟩
  ·rcases e1 with e1|e1
   ·exact .inl (by simp;lia)
   ·exact .inr (by simp;lia)
  ·obtain⟨n1,n2,n3,n4,n5⟩:=mem5 hc';exact kk c o n1 n3 n4 n5 e
 self:=λ_ _ _ _ _ st h=>wpAny_pyIter_zip st.1 h
theorem Hl{a b:aw}{ta:TA}{elts:List aw}{x1:Nat}{tp p pos:Pos}(hg:Gl X "zip")(hm:X.mg "zip"=none)(ha:PA X [a,b] ta)(hs:aV [a,b] X.env=[(false,aO a X.env),(false,aO b X.env)]:=by rfl)(hs2:aV [b] X.env=[(false,aO b X.env)]:=by rfl) :
  PI X (.Tuple elts x1 tp) (.Call (.Name "zip" p) [a,b] [] pos) (λσ H R=>ta σ H λvs H1=>∃l1 l2 xs ys,vs=[.ref l1,.ref l2]/\SqL X.K H1 l1 xs/\SqL X.K H1 l2 ys/\R (Itz X.K l1 l2) H1):=by
 intro pins s σ H R I t;refine Call_ (jD I hg hm PyProof.Rows.Boot.«zip» (PyProof.Rows.callWith_type1 (thn (ha pos pins s σ H _ I t) λus s1 e0=>bA e0 λvs H1 I1 r1 q1=>?_) (by rw[hs,hs2]) (by rw[hs2];rfl)));obtain⟨l1,l2,xs,ys,rfl,q1,q2,q⟩:=q1;obtain⟨v,w,rfl,rx,ry⟩:=vals2 r1;cases rx;cases ry;obtain⟨its,rv,p1,hz1⟩:=I1.list q1;obtain⟨its2,rv2,p2,hz2⟩:=I1.list q2;have a1:l1<s1.heap.objs.size:=by obtain⟨_,e,_⟩:=p1.isList;exact bD e
 have a2:l2<s1.heap.objs.size:=by obtain⟨_,e,_⟩:=p2.isList;exact bD e
 refine call_zip_2 p1.isList p2.isList λhp hz hTI hTO hi1 hi2 hsz hk=>?_;refine wpAny_pyIter_zip (s:={ s1 with heap:=hp }) hz ?_;refine⟨_,[s1.heap.objs.size+4,s1.heap.objs.size+2,s1.heap.objs.size+3,s1.heap.objs.size,s1.heap.objs.size+1],_,_,H1,rfl,I1.kept (t':=s1.toks) hk,F5 (zipApart_new a1 a2),⟨hz,hTI,⟨_,_,hTO⟩,hi1,hi2⟩,λb hb=>?_,q⟩;have lb:s1.heap.objs.size≤b:=by
  simp only[bK,lL,or_false]at hb;rcases hb with rfl|rfl|rfl|rfl|rfl <;> lia
 exact I1.fpOk lb (I1.hok.fresh lb)
theorem Bx:∀{xs ys:List MV}{i:Nat}{r:List MV},(dM xs ys)[i]?=some r->∃x y,xs[i]?=some x/\ys[i]?=some y/\r=[x,y]
 |[],ys,i,r,e=>by simp[dM]at e
 |_::_,[],i,r,e=>by simp[dM]at e
 |x::xs,y::ys,0,r,e=>by simp[dM]at e;exact⟨x,y,rfl,rfl,e.symm⟩
 |x::xs,y::ys,i+1,r,e=>by
   obtain⟨a,b,h1,h2,h3⟩:=Bx (xs:=xs) (ys:=ys) (i:=i) (by simpa[dM] using e);exact⟨a,b,by simpa using h1,by simpa using h2,h3⟩
theorem zG:∀(xs ys:List MV),(dM xs ys).length=min xs.length ys.length
 |[],ys=>by simp[dM]
 |_::_,[]=>by simp[dM]
 |x::xs,y::ys=>by simp[dM,zG xs ys]
theorem IA{n k:Nat}{a b:af}{xs ys:List MV}(ea:m[n]?=some a)(eb:m[k]?=some b):JOk G (Itz G.K a b) ⟨dM xs ys,[(n,xs),(k,ys)]⟩ false 2 m H:=by
 intro m2 h2 H2 pre R ok;have ea2:m2[n]?=some a:=pre.get ea;have eb2:m2[k]?=some b:=pre.get eb;have eo:h2[n]?=some (.lst xs)/\h2[k]?=some (.lst ys):=by simpa[Src.okIn,iO] using ok
 obtain⟨vs,r,z⟩:=R.ob n a _ ea2 eo.1;obtain⟨ws,r2,z2⟩:=R.ob k b _ eb2 eo.2;refine⟨λi row ei=>?_,⟨vs,ws,SqL.of z,SqL.of z2,?_⟩⟩
 ·obtain⟨x,y,e1,e2,rfl⟩:=Bx ei;obtain⟨v,e3,rv⟩:=ij r e1;obtain⟨w,e4,rw'⟩:=ij r2 e2;refine⟨rfl,⟨vs,ws,v,w,SqL.of z,SqL.of z2,e3,e4⟩,λu H' yy=>?_⟩;obtain⟨T,x',y',rfl,hT,rfl,f1,f2⟩:=yy;have q1:=f1 vs (SqL.of z);have q2:=f2 ws (SqL.of z2);rw[e3]at q1;rw[e4]at q2;cases q1;cases q2;have xx:Ext m2 H2 m2 (upd H2 T (.tup [v,w])):=Ext.side hT;exact⟨xx,R.side hT,T,[v,w],rfl,R.fresh hT,dw,VRl.of (.cons (xx.vr rv) (.cons (xx.vr rw') .nil))⟩
 ·show vs.length≤(dM xs ys).length∨ws.length≤(dM xs ys).length;rw[zG,←Paired.length r,←Paired.length r2];lia
theorem uz{a b:aw}{ga gb:ME}{elts:List aw}{x1:Nat}{tp p pos:Pos}(ha:GE G X a ga)(hb:GE G X b gb)(hm:X.mg "zip"=none)(hg:Gl X "zip":=by rfl)(hs:aV [a,b] X.env=[(false,aO a X.env),(false,aO b X.env)]:=by rfl)
  (hs2:aV [b] X.env=[(false,aO b X.env)]:=by rfl) (hK:X.K=G.K:=by rfl):GI G X (.Tuple elts x1 tp) (.Call (.Name "zip" p) [a,b] [] pos) false 2 (l7 ga gb):=λE EX=>by
 refine⟨_,Hl (X:=X.wish E) hg hm (i7 (X:=X.wish E) (ha E EX) (hb.a1 hs2 E EX) (by show aV [a,b] X.env=(false,aO a X.env)::aV [b] X.env;rw[hs,hs2])) hs hs2,λσ' H R e0=>b8 e0 λm h σ ex S Rr P=>?_⟩;refine sub ex S Rr P λv m1 h1 H1 v' x1 R1 r1 P1=>sub ex (S.mono x1) R1 P1 λw m2 h2 H2 w' x2 R2 r2 P2=>?_;cases v with
 |ref n=>cases w with
   |ref k=>
     obtain⟨aa,ea,rfl⟩:=x2.vr r1;obtain⟨bb,eb,rfl⟩:=r2;obtain⟨oa,e1,q1,P3⟩:=cy R2 ea P2;obtain⟨ob,e2,q2,P4⟩:=cy R2 eb P3;cases oa with
     |lst xs=>cases ob with
       |lst ys=>
         obtain⟨vs,r,z⟩:=q1;obtain⟨ws,r',z'⟩:=q2;refine⟨aa,bb,vs,ws,rfl,SqL.of z,SqL.of z',?_⟩;have J:=Post.here R2 P4 (Itz G.K aa bb) (IA ea eb);rw[←hK]at J;exact J
       |_=>exact P4.elim
     |_=>exact P4.elim
   |_=>exact P2.elim
 |_=>exact P2.elim
def zb(K:PySem.W.Frag):V->V->Hp->VK->Prop:=λx y H Q=>wK K x y H Q∨vm x y H Q
theorem Fr(hu:X.A.units+1<cLine):PGet X (zb X.K):=by
 intro pins s σ H x y v u Q I rx ry q;rcases q with⟨p,xs,i,z,rfl,rfl,hq,he,q⟩|⟨a,w,ex,g,q⟩
 ·cases rx;obtain⟨t,rfl⟩:=ry;obtain⟨its,r,pl,hz⟩:=I.list hq;obtain⟨j,h1,h2,h3,h4,h5⟩:=rR he;obtain⟨w,ew,rw'⟩:=r.get h2;have hl:=r.length;have hn:=l4;have fin:EP X pins σ Q w s:=⟨z,H,I,rw',q⟩
  by_cases h0:0≤i
  ·have hj:i.toNat=j:=by
    rw[seqIndex_of h0 h5]at h1;exact Option.some.inj h1
   exact wpAny_getItem_list pl.isList h0 (by lia) (by rw[hj];simpa using ew) fin
  ·have hj:(i+(its.toArray.size:Int)).toNat=j:=by
    rw[seqIndex_neg (by lia) h4]at h1;rw[cE,←hl];exact Option.some.inj h1
   exact wpAny_getItem_list_neg pl.isList (by lia) (by rw[cE] <;> lia) (by lia) (by rw[hj];simpa using ew) fin
 ·subst ex;cases rx;exact BP hu I g ry λw' s3 I3 rw'=>⟨w,H,I3,rw',q⟩
theorem Hz{β:Type}{k:MV->M β}{Q:β->List af->MH->Hp->Prop}{x y:MV}{x' y':V}{K:PySem.W.Frag}(R:HR G m h H)(rx:VR G m H x x')(ry:VR G m H y y')(P:Post G X E EX m H (bnd (tT x y) k h) Q) :
  zb K x' y' H λv' H'=>H'=H/\∃v,VR G m H v v'/\Post G X E EX m H (k v h) Q:=by
 have P:=Post.bind P;cases x with
 |ref n=>cases y with
   |int i=>
     obtain⟨aa,ea,rfl⟩:=rx;obtain⟨oa,e1,q1,P1⟩:=cy R ea P;cases oa with
     |lst xs=>
       obtain⟨vs,r,z⟩:=q1;dsimp only at P1;cases e:atN xs i with
       |none=>simp only[e]at P1;exact P1.elim
       |some v=>
         simp only[e]at P1;obtain⟨v',e',rv⟩:=ud r e;exact .inl ⟨aa,vs,i,v',rfl,ry,SqL.of z,by rw[mR];exact e',rfl,v,rv,Post.here R P1⟩
     |_=>exact P1.elim
   |str i=>
     obtain⟨aa,ea,rfl⟩:=rx;obtain⟨oa,e1,q1,P1⟩:=cy R ea P;cases oa with
     |dct kvs=>
       obtain⟨ws,r,z⟩:=q1;dsimp only at P1;cases e:dget i kvs with
       |none=>simp only[e]at P1;exact P1.elim
       |some v=>
         simp only[e]at P1;obtain⟨v',e',rv⟩:=(mY (k:=i) r).1 v e;cases(show y'=V.str i from ry);exact .inr ⟨aa,v',rfl,e'▸DGet.k (k:=Sum.inr i) z,rfl,v,rv,Post.here R P1⟩
     |_=>exact P1.elim
   |_=>exact P.elim
 |_=>exact P.elim
theorem ipA{op:Operator}{g:Int->Int->Int}{f:Op2}(hv:∀i j h,f (.int i) (.int j) h=.ok (.int (g i j)) h){β:Type}{k:MV->M β}{Q:β->List af->MH->Hp->Prop}{x y:MV}{x' y':V}(ii:∀h,(∃i,x=.int i)/\(∃j,y=.int j)∨bnd (f x y) k h=.stuck)(R:HR G m h H)(rx:VR G m H x x')(ry:VR G m H y y')(P:Post G X E EX m H (bnd (f x y) k h) Q) :
  ∃i j,x'=.int i/\y'=.int j/\Post G X E EX m H (k (.int (g i j)) h) Q:=by
 rcases ii h with⟨⟨i,rfl⟩,⟨j,rfl⟩⟩|e
 ·refine⟨i,j,rx,ry,?_⟩;have P1:=Post.bind P;rw[hv i j h]at P1;exact Post.here R P1
 ·rw[e]at P;exact P.elim
theorem An{x y:MV}{β:Type}{k:MV->M β}(h:MH):((∃i,x=.int i)/\(∃j,y=.int j))∨bnd (gE x y) k h=.stuck:=by
 cases x <;> cases y <;> first|exact .inl ⟨⟨_,rfl⟩,⟨_,rfl⟩⟩|exact .inr rfl
theorem ue{x y:MV}{β:Type}{k:MV->M β}(h:MH):((∃i,x=.int i)/\(∃j,y=.int j))∨bnd (ot x y) k h=.stuck:=by
 cases x <;> cases y <;> first|exact .inl ⟨⟨_,rfl⟩,⟨_,rfl⟩⟩|exact .inr rfl
section
variable {o i e:aw}{go gi ge:ME}{pos tpos:Pos}{op:Operator}{g:Int->Int->Int}{f:Op2}
theorem yp(hu:X.A.units+1<cLine)(hip:∀E,PIp (X.wish E) op (ipI g))(hv:∀i j h,f (.int i) (.int j) h=.ok (.int (g i j)) h)(hi2:∀(x y:MV) (k:MV->M MF) (h:MH),((∃i,x=.int i)/\(∃j,y=.int j))∨bnd (f x y) k h=.stuck)
  (ho:GE G X o go) (hi:GE G X i gi) (he:GE G X e ge) (hK:X.K=G.K:=by rfl) (ha:∀ov iv new,augStore i ov iv new=(do holding [new,ov,iv] (setItem ov iv new);release [new,ov,iv] [];pure .next):=by intros;rfl) :
  GS G EX X (.AugAssign (.Subscript o i tpos) op e pos) (nO f go gi ge):=λE hp=>
 gI (Ew (X:=X.wish E) (ho E EX) (hi E EX) (Fr hu) (he E EX) (hip E) (hZ hu) ha) λD σ' H e0=>b8 e0 λm h σ ex S R P=>sub ex S R P λx m1 h1 H1 x' x1 R1 r1 P1=>sub ex (S.mono x1) R1 P1 λy m2 h2 H2 y' x2 R2 r2 P2=>by
  have fin:∀v' H',(H'=H2/\∃v,VR G m2 H2 v v'/\Post G X E EX m2 H2 (bnd (ge σ) (λw=>bnd (f v w) λz=>bnd (iU x y z) λ_=>ret (MF.next σ)) h2) (QD G D))->TGe G X E EX ge σ' H' λy_1 H4=>ipI g v' y_1 H4 λz H5=>pD x' y' z H5 λH6=>D.nx σ' H6:=by
   rintro v' H' ⟨rfl,v,rv,P3⟩;refine sub ex ((S.mono x1).mono x2) R2 P3 λw m4 h4 H4 w' x4 R4 r4 P4=>?_;obtain⟨i,j,e1,e2,P5⟩:=ipA (op:=op) (g:=g) hv (hi2 v w _) R4 (x4.vr rv) r4 P4;refine⟨i,j,e1,e2,?_⟩;rcases Az R4 (x4.vr (x2.vr r1)) (x4.vr r2) (show VR G m4 H4 (.int (g i j)) (.int (g i j)) from rfl) P5 with q|q
   ·obtain⟨p,xs,k,j,e1,e2,e3,e4,h4,x5,R5,P6⟩:=q;exact .inl ⟨p,xs,k,j,e1,e2,e3,e4,Post.here R5 P6 σ' ((((S.mono x1).mono x2).mono x4).mono x5)⟩
   ·obtain⟨a,H4,e1,g,h4,x5,R5,P6⟩:=q;exact .inr ⟨a,H4,e1,g,Post.here R5 P6 σ' ((((S.mono x1).mono x2).mono x4).mono x5)⟩
  rcases Hz (K:=G.K) R2 (x2.vr r1) r2 P2 with q|q
  ·obtain⟨p,xs,i,v',e1,e2,e3,e4,q⟩:=q;refine .inl ⟨p,xs,i,v',e1,e2,?_,e4,fin v' H2 q⟩;show SqL X.K H2 p xs;rw[hK];exact e3
  ·obtain⟨a,v',e1,g,q⟩:=q;exact .inr ⟨a,v',e1,g,fin v' H2 q⟩
theorem ut{fl:String}{cs:List Nat}{rd:V->V->Hp->VK->Prop}(hin:∀E,rW (X.wish E) op rd)(hrd:∀x y H Q,ipI g x y H Q->rd x y H Q)(hv:∀i j h,f (.int i) (.int j) h=.ok (.int (g i j)) h)(hi2:∀(x y:MV) (k:MV->M MF) (h:MH),((∃i,x=.int i)/\(∃j,y=.int j))∨bnd (f x y) k h=.stuck)
  (ho:GE G X o go) (he:GE G X e ge) (hf:bc G cs fl) (hK:X.K=G.K:=by rfl):GS G EX X (.AugAssign (.Attribute o (aQ fl) tpos) op e pos) (lR f go cs fl ge):=λE hp=>
 gI (Cc (X:=X.wish E) (ho E EX) (he E EX) (hin E)) λD σ' H e0=>b8 e0 λm h σ ex S R P=>sub ex S R P λx m1 h1 H1 x' x1 R1 r1 P1=>by
  cases x with
  |ref n=>
    obtain⟨aa,ea,rfl⟩:=r1;obtain⟨oa,e1,q1,P2⟩:=cy R1 ea P1;cases oa with
    |ins c fs=>
      obtain⟨dx,ws,r,z⟩:=q1;dsimp only at P2;split at P2
      ·rename_i hc;cases ew:fs.lookup fl with
       |none=>simp only[ew]at P2;exact P2.elim
       |some w=>
         simp only[ew]at P2;obtain⟨w',ew',rw'⟩:=wu r ew;have k:=hf c (by simpa using hc);rw[←hK]at k;refine⟨aa,_,dx,ws,w',rfl,z,k.1,k.2,ew',?_⟩;refine sub ex (S.mono x1) R1 P2 λv m2 h2 H2 v' x2 R2 r2 P3=>hrd _ _ _ _ ?_;obtain⟨i,j,e1,e2,P4⟩:=ipA (op:=op) (g:=g) hv (hi2 w v _) R2 (x2.vr rw') r2 P3;refine⟨i,j,e1,e2,?_⟩;have ea2:=x2.get ea;obtain⟨ob,eo,qo,P5⟩:=cy R2 ea2 P4;cases ob with
         |ins c' fs'=>
           obtain⟨dx',ws',r',z'⟩:=qo;dsimp only at P5;split at P5
           ·rename_i hl;obtain⟨ec,hl⟩:=hl;subst ec;refine⟨dx',ws',z',by rw[←Paired.length r'];exact hl,?_⟩;have P6:=oq R2 ea2 P5;have x3:Ext m2 H2 m2 (upd H2 aa (.ins (G.cl c') dx' (L2.putF (aQ fl) (.int (g i j)) ws'))):=Ext.upd ea2 z';exact P6 _ _ x3 (R2.upd ea2 (λo' ys zz=>by rw[z']at zz;cases zz) ⟨dx',_,FR.mono x3.mn (uj (show VR G m2 H2 (.int (g i j)) (.int (g i j)) from rfl) r'),dw⟩) σ' (((S.mono x1).mono x2).mono x3)
           ·exact P5.elim
         |_=>exact P5.elim
      ·exact P2.elim
    |_=>exact P2.elim
  |_=>exact P1.elim
end
noncomputable def Itd(lo:Int)(n:Nat):It:=⟨λi _=>i<n,λi H x H'=>H'=H/\x=.int (lo-i),λi _=>n≤i⟩
theorem Hq{P:br}{w:aX}{K:PySem.W.Frag}{tg:aw}(it:af)(lo:Int)(n:Nat):Turn P w K tg (Itd lo n) [it] it (λi h=>IsRangeIter h it (lo+(i:Nat)*(-1)) ((n:Int)-(i:Nat)) (-1)) where
 mem:=by simp
 obj:=λi h st b hb=>by
  have e:b=it:=by simpa using hb
  subst e;exact⟨_,st,λv z=>by cases(show Data.fields _=Data.cell v from z)⟩
 keep:=λi h h' st k=>k it (by simp) _ st
 item:=by
  intro X hP hw hK hc i pins s σ H E I hf st hg;subst hP hw hK;obtain⟨f0,f1,f2,f3,f4,f5⟩:=hf it (by simp);have W:=Walks.range (prog:=X.prog) (w:=X.w) (I.ok.hd hc) it lo (-1) n;refine W.item i s _ _ hg st λv h' tk hv st' kk=>?_;obtain⟨t,rfl⟩:=hv;have I1:Inv X pins σ H { s with heap:=h',toks:=tk }:=I.turned (λb o hb e=>kk b o (by simpa using hb) e) f0 f1 f3 f4 f5;refine⟨_,rfl,uA (s:={ s with heap:=h',toks:=tk }) (n:="range_iterator") st' rfl rfl (by decide) ⟨.int (lo-i),H,I1,⟨t,?_⟩,⟨rfl,rfl⟩,st',λb hb=>(hf b hb).1⟩⟩;congr 1
  lia
 done:=by
  intro X hP hw hK hc i pins s σ H E I hf st hg;subst hP hw hK;obtain⟨f0,f1,f2,f3,f4,f5⟩:=hf it (by simp);exact wpAny_pyNext_range_end (I.ok.hd hc) st (by have:n≤i:=hg;lia) λh' eb=>⟨rfl,I.turned (t':=s.toks) (λb o hb e=>eb b o hb e) f0 f1 f3 f4 f5⟩
 self:=λ_ _ _ _ _ st h=>wpAny_pyIter_rangeiter st h
theorem DE{a b c:aw}{ta:TA}{tg:aw}{p pos:Pos}(hg:Gl X "range")(hm:X.mg "range"=none)(ha:PA X [a,b,c] ta)(hs:aV [a,b,c] X.env=(false,aO a X.env)::aV [b,c] X.env:=by rfl)(hpl:(backTo pos (aV [b,c] X.env)).any (·.1)=false:=by rfl) :
  PI X tg (.Call (.Name "range" p) [a,b,c] [] pos) (λσ H R=>ta σ H λvs H1=>∃i j:Int,vs=[.int i,.int j,.int (-1)]/\(-1000000≤i/\i<1000000/\-1000000≤j/\j<1000000)/\R (Itd i (i-j).toNat) H1):=by
 intro pins s σ H R I t;refine Call_ (jD I hg hm boot_range (PyProof.Rows.callWith_type1 (thn (ha pos pins s σ H _ I t) λus s1 e0=>bA e0 λvs H1 I1 r1 q1=>?_) hs hpl));obtain⟨i,j,rfl,bd,q⟩:=q1;cases r1 with
 |cons ra r1=>cases r1 with
   |cons rb r1=>cases r1 with
     |cons rc r1=>
       cases r1;obtain⟨t1,rfl⟩:=ra;obtain⟨t2,rfl⟩:=rb;obtain⟨t3,rfl⟩:=rc;refine call_range_3 (by decide) ?_ (Or.inl (PyProof.noPylong_small (by lia)))
       refine wpAny_pyIter_range (IsRange.new ..) (PySem.W.small_down (by lia) (by lia) (by lia) (by lia)) ?_;have I2:Inv X pins σ H1 { s1 with heap:=s1.heap.push { cls:=.type "range",data:=.fields #[.int i t1,.int j t2,.int (-1) t3] },toks:=s1.toks }:=I1.kept λb o e=>bI _ e;refine ⟨(s1.heap.push { cls:=.type "range",data:=.fields #[.int i t1,.int j t2,.int (-1) t3] }).objs.size,[(s1.heap.push { cls:=.type "range",data:=.fields #[.int i t1,.int j t2,.int (-1) t3] }).objs.size],_,_,H1,rfl,
        I2.kept (t':=s1.toks) λb o e=>bI _ e,Hq _ i (i - j).toNat,?_,λb hb=>?_,q⟩
       ·have e1:i+((0:Nat):Int)*(-1)=i:=by simp
        have e2:(((i-j).toNat:Nat):Int)-((0:Nat):Int)=Builtin.Range.rangeSize i j (-1):=by rw[PySem.W.rangeSize_downNat];lia
        show IsRangeIter _ _ (i+((0:Nat):Int)*(-1)) ((((i-j).toNat:Nat):Int)-((0:Nat):Int)) (-1);rw[e1,e2];exact eM _ rfl
       ·have e:b=(s1.heap.push { cls:=.type "range",data:=.fields #[.int i t1,.int j t2,.int (-1) t3] }).objs.size:=by simpa using hb
        subst e;exact I2.fpOk (bo _) (I2.hok.fresh (bo _))
theorem IV{lo:Int}{n:Nat}:JOk G (Itd lo n) ⟨iX lo n,[]⟩ true 1 m H:=by
 intro m2 h2 H2 _ R ok;refine⟨λi vs ei=>?_,by simp[iX,Itd]⟩;have hi:i<n:=by
  have:=(bN.mp ei).1;simpa[iX] using this
 unfold iX at ei;rw[bj,gR hi]at ei;cases ei;refine⟨rfl,hi,λx H' y=>?_⟩;obtain⟨rfl,y2⟩:=y;exact⟨.refl,R,_,rfl,y2⟩
theorem Dv{tg a b:aw}{ga gb:ME}{j:Nat}{p pos p1 p2:Pos}(ha:GE G X a ga)(hb:GE G X b gb)(hm:X.mg "range"=none)(hg:Gl X "range":=by rfl)
  (hs:aV [a,b,.UnaryOp .USub (.Constant (.int 1) j p1) p2] X.env=(false,aO a X.env)::aV [b,.UnaryOp .USub (.Constant (.int 1) j p1) p2] X.env:=by rfl)
  (hs2:aV [b,.UnaryOp .USub (.Constant (.int 1) j p1) p2] X.env=(false,aO b X.env)::aV [.UnaryOp .USub (.Constant (.int 1) j p1) p2] X.env:=by rfl)
  (hs3:aV [.UnaryOp .USub (.Constant (.int 1) j p1) p2] X.env=[(false,aO (.UnaryOp .USub (.Constant (.int 1) j p1) p2) X.env)]:=by rfl) (hpl:(backTo pos (aV [b,.UnaryOp .USub (.Constant (.int 1) j p1) p2] X.env)).any (·.1)=false:=by rfl) :
  GI G X tg (.Call (.Name "range" p) [a,b,.UnaryOp .USub (.Constant (.int 1) j p1) p2] [] pos) true 1 (rK ga gb):=λE EX=>by
 refine⟨_,DE (X:=X.wish E) hg hm (i7 (X:=X.wish E) (ha E EX) (i7 (X:=X.wish E) (hb E EX) (i7 (X:=X.wish E) (yP zE yo) qO hs3) hs2) hs) hs hpl,λσ' H R e0=>b8 e0 λm h σ ex S Rr P=>?_⟩;refine sub ex S Rr P λv m1 h1 H1 v' x1 R1 r1 P1=>sub ex (S.mono x1) R1 P1 λw m2 h2 H2 w' x2 R2 r2 P2=>?_;cases v with
 |int i=>cases w with
   |int j=>
     cases(show v'=V.int i from r1);cases(show w'=V.int j from r2);dsimp only at P2
     split at P2
     ·rename_i c;exact⟨1,rfl,i,j,rfl,c,Post.here R2 P2 _ IV⟩
     ·exact P2.elim
   |_=>exact P2.elim
 |_=>exact P2.elim
end L2.Rv
namespace L2.Rv
open PySem PySem.Spec PyProof.Rows PySem.W
section
variable {prog:br}{w:aX}{A:bB}{E:ai->ak->Prop}{s:ak}{b fin:Bool}{Q:Bool->ak->Prop}
theorem oz{i:Int}{u:ai}(h:(cn prog w).is (.inl i) u=true):∃t,u=Value.int i t:=by
 rcases ia (show jr (.inl i) u=true from h) with⟨_,t,e,q⟩|⟨_,_,e,_⟩
 ·cases e;exact⟨t,q⟩
 ·cases e
theorem lu{i:Str}{u:ai}(h:(cn prog w).is (.inr i) u=true):∃t,u=Value.str i t:=by
 rcases ia (show jr (.inr i) u=true from h) with⟨_,_,e,_⟩|⟨_,t,e,q⟩
 ·cases e
 ·cases e;exact⟨t,q⟩
theorem D0{x y:List Key}{us vs:List ai}{i:Nat}{c:Bool}(hx:PySem.ItemsAre (cn prog w) x us)(hy:PySem.ItemsAre (cn prog w) y vs)(hl:ltK x y=some c)(hf:fin=decide (us.length<vs.length))(h:Q c s) :
  KatLex prog w A b fin Q (us.zip vs) i s:=by
 induction hx generalizing y vs i with
 |nil=>
   have:c=fin:=by
    rw[hf];cases hy with
    |nil=>simpa[ltK] using hl.symm
    |cons _ _=>simpa[ltK] using hl.symm
   subst this;exact h
 |@cons k u x us hu hx ih=>
  cases hy with
  |nil=>
   have:c=fin:=by rw[hf];simpa[ltK] using hl.symm
   subst this;exact h
  |@cons l v y vs hv hy=>
   rw[lY];refine kat_cons ?_;unfold ltK at hl;have go:∀e:Bool,e=decide (k=l)->KatGo prog w A b fin Q u v (us.zip vs) i e s:=λe he=>by
    by_cases hkl:k=l
    ·rw[if_pos hkl]at hl;have:e=true:=by rw[he];simpa using hkl
     subst this;exact kat_yes (ih hy hl (by rw[hf];simp))
    ·rw[if_neg hkl]at hl;have:e=false:=by rw[he];simpa using hkl
     subst this;refine kat_no ?_;cases k with
     |inl a=>cases l with
       |inl a'=>
         obtain⟨t,rfl⟩:=oz hu;obtain⟨t',rfl⟩:=oz hv;have ec:decide (a<a')=c:=by simpa using hl
         subst ec;cases hb:(b&&i == 0) with
         |true=>exact oneLt_int h
         |false=>exact kat_one _ _ (wpAny_lt_int h)
       |inr a'=>simp at hl
     |inr a=>cases l with
       |inl a'=>simp at hl
       |inr a'=>
         obtain⟨t,rfl⟩:=lu hu;obtain⟨t',rfl⟩:=lu hv;have ec:decide (a.cps.toList<a'.cps.toList)=c:=by simpa using hl
         subst ec;cases hb:(b&&i == 0) with
         |true=>exact oneLt_str h
         |false=>exact kat_one _ _ (PyProof.Rows.lt_str h)
   exact(cn prog w).eqBool (a:=k) (b:=l) hu hv (go _ rfl)
theorem Ht{x y:List Key}{a a':af}{c:Bool}(hx:PySem.IsTupleKey (cn prog w) s.heap x a)(hy:PySem.IsTupleKey (cn prog w) s.heap y a')(hl:ltK x y=some c)(h:Q c s) :
  aB (aD prog w) A (keyLt' (tuples' b) (.ref a) (.ref a')) Q E s:=by
 obtain⟨ox,us,n,e1,_,d1,i1⟩:=hx;obtain⟨oy,vs,n',e2,_,d2,i2⟩:=hy;exact kat_lt e1 d1 e2 d2 (D0 i1 i2 hl (by simp) h)
theorem DO{x y:List Key}{a a':af}{c:Bool}{P:PySem.Fin->ak->Prop}(hx:PySem.IsTupleKey (cn prog w) s.heap x a)(hy:PySem.IsTupleKey (cn prog w) s.heap y a')(hl:ltK x y=some c)
  (h:P (.done (.ret (.bool c))) s):aB (aD prog w) A (Builtin.«tuple.__lt__» ⟨[.ref a,.ref a'],[]⟩) P E s:=by
 have hTb:=hy.typeIs;obtain⟨oa,xs,na,hoa,_,hda,hia⟩:=hx;obtain⟨ob,ys,nb,hob,_,hdb,hib⟩:=hy;show aB _ _ (isInstance (.ref a') (.type "tuple") >>= _) _ _ s;refine aC (wpAny_isInstance hTb isSubtype_tuple_tuple ?_);simp only[gJ,cJ,if_false];refine aC (wpAny_tupleItemsOf hoa hda ?_);refine aC (wpAny_tupleItemsOf hob hdb ?_);refine aC ?_;refine wpAny_forIn_list _
  (λrest r s'=>r.1=none/\s'=s/\∃x' y' xs' ys',rest=List.zip xs' ys'/\PySem.ItemsAre (cn prog w) x' xs'/\PySem.ItemsAre (cn prog w) y' ys'/\ltK x' y'=some c/\decide (xs'.length<ys'.length)=decide (xs.size<ys.size))
  _ ?_ ?_ _ _ ⟨rfl,rfl,x,y,xs.toList,ys.toList,rfl,hia,hib,hl,by simp⟩
 ·rintro⟨u,v⟩ rest r s' ⟨hr,rfl,x',y',xs',ys',hz,hx',hy',hdec,hlen⟩;cases hx' with
  |nil=>simp at hz
  |@cons k1 u' x'' xs'' h1 hx''=>
    cases hy' with
    |nil=>simp at hz
    |@cons k2 v' y'' ys'' h2 hy''=>
      simp only[lY,List.cons.injEq,Prod.mk.injEq]at hz;obtain⟨⟨rfl,rfl⟩,rfl⟩:=hz;refine aC ((cn prog w).eqBool (a:=k1) (b:=k2) h1 h2 ?_);unfold ltK at hdec;by_cases hk:k1=k2
      ·rw[if_pos hk]at hdec;rw[decide_eq_true hk];simp only[gJ,cJ,if_false];exact bg ⟨rfl,rfl,x'',y'',xs'',ys'',rfl,hx'',hy'',hdec,by simpa using hlen⟩
      ·rw[if_neg hk]at hdec;rw[decide_eq_false hk];simp only[Bool.not_false,if_true];refine aC (wpAny_rule (aC ?_));cases k1 with
       |inl i=>cases k2 with
         |inl j=>
           obtain⟨t,rfl⟩:=oz h1;obtain⟨t',rfl⟩:=oz h2;have ec:decide (i<j)=c:=by simpa using hdec
           subst ec;exact(show aB (aD prog w) A (d4 .Lt (.int i t) (.int j t')) _ _ s' from wpAny_lt_int (aC (bg (bg (bg h)))))
         |inr j=>simp at hdec
       |inr i=>cases k2 with
         |inl j=>simp at hdec
         |inr j=>
           obtain⟨t,rfl⟩:=lu h1;obtain⟨t',rfl⟩:=lu h2;have ec:decide (i.cps.toList<j.cps.toList)=c:=by simpa using hdec
           subst ec;exact(show aB (aD prog w) A (d4 .Lt (.str i t) (.str j t')) _ _ s' from PyProof.Rows.lt_str (aC (bg (bg (bg h)))))
 ·rintro⟨r1,r2⟩ s' ⟨hr,rfl,x',y',xs',ys',hz,hx',hy',hdec,hlen⟩;simp only at hr;subst hr;refine bg ?_;have hfin:decide (xs.size<ys.size)=c:=by
   rw[←hlen];cases hx' with
   |nil=>
     cases hy' with
     |nil=>simpa[ltK] using hdec
     |cons _ _=>simpa[ltK] using hdec
   |cons _ _=>
     cases hy' with
     |nil=>simpa[ltK] using hdec
     |cons _ _=>simp at hz
  show P (.done (.ret (.bool (decide (xs.size<ys.size))))) s';rw[hfin];exact h
theorem DD{x y:List Key}{a a':af}{c:Bool}{Q:ai->ak->Prop}(hu:A.units<cLine)(hx:PySem.IsTupleKey (cn prog w) s.heap x a)(hy:PySem.IsTupleKey (cn prog w) s.heap y a')(hl:ltK x y=some c)
  (h:Q (.bool c) s):aB (aD prog w) A (d4 .Lt (.ref a) (.ref a')) Q E s:=
 show aB (aD prog w) A (richCompare .Lt (.ref a) (.ref a')) Q E s from
 wpAny_richCompare_same_room (op:=.Lt) hx.typeIs hy.typeIs PySem.F.slot_tuple_lt (wpAny_call_entry PySem.F.slot_tuple_lt hx.typeIs PySem.F.entry_tuple_lt (DO hx hy hl ⟨_,rfl,(λe=>nomatch e),h⟩) (PySem.F.args_tuple_lt_2 _ _)) hu
theorem Hj{x y:List Key}{a a' p p':af}{o o':aE}{us vs:List ai}{n n':Nat}{c:Bool}(hu:A.units<cLine)(e1:s.heap.get? a=some o)(d1:o.data=.seq (.ref p::us).toArray n)(e2:s.heap.get? a'=some o')(d2:o'.data=.seq (.ref p'::vs).toArray n')
  (hx:PySem.IsTupleKey (cn prog w) s.heap x p) (hy:PySem.IsTupleKey (cn prog w) s.heap y p') (hne:x≠y) (hl:ltK x y=some c) (h:Q c s):aB (aD prog w) A (keyLt' (tuples' false) (.ref a) (.ref a')) Q E s:=by
 refine kat_lt e1 d1 e2 d2 ?_;rw[uB,uB,lY];refine kat_cons (PySem.wpAny_eqBool_tuple hu hx hy ?_);rw[decide_eq_false hne];exact kat_no (kat_one _ _ (DD hu hx hy hl h))
end
theorem Ay{α:Type}{ask:Nat->Nat->Option Bool}{cmp:Nat->Nat->(Bool->ak->Prop)->ak->Prop}{s:ak}{G:α->ak->Prop}(hc:∀i j b (C:Bool->ak->Prop),ask i j=some b->C b s->cmp i j C s) :
  ∀{t:KasT α}{a:α},dq ask t=some a->G a s->t.kasWp cmp G s
 |.ret a,a',e,g=>by
   have:a=a':=by simpa[dq] using e
   subst this;exact g
 |.ask i j k,a',e,g=>by
   unfold dq at e;cases ea:ask i j with
   |none=>rw[ea]at e;cases e
   |some b=>
     rw[ea]at e;exact hc i j b _ ea (Ay hc (t:=k b) e g)
section
variable {prog:br}{w:aX}{A:bB}{E:ai->ak->Prop}{s:ak}{a kS:af}{vs ks:List ai}{f:ai}
abbrev ko(a:af)(h h':aP):Prop:=∀b o,b≠a->h.get? b=some o->h'.get? b=some o
def mI(prog:br)(w:aX)(A:bB)(ks:List ai)(ix:List Nat)(s:ak):Prop:=
 (ks.length < 2/\ix=ci ks.length)∨(2≤ks.length/\ks.length < 64/\∃κ p ask,ix=Array.toList p/\(∀Q:SortKind->ak->Prop,Q κ s->aB (aD prog w) A (keyKind' ks.toArray) Q (λ_ _=>False) s) /\
  (∀i j b (C:Bool->ak->Prop),ask i j=some b->C b s->kas_ask prog w A κ ks i j C s)/\dq ask (kas_sort ks.length)=some p)
noncomputable abbrev picked(vs:List ai)(ix:List Nat):List ai:=ix.map λi=>vs.getD i Value.none
theorem FJ:∀(vs:List ai),picked vs (ci vs.length)=vs:=λvs=>by
 apply kR;intro i;simp only[picked,bj];by_cases h:i<vs.length
 ·rw[gR h];simp[h]
 ·simp[kI h]
abbrev sF(vs:List ai)(ix:List Nat)(st:SortSt):Prop:=(arrOf st).map (·.2)=(picked vs ix).toArray/\(picked vs ix).length=vs.length/\failedOf st=none
theorem AL{ix:List Nat}(hl:ks.length=vs.length)(so:mI prog w A ks ix s) :
  (vs.toArray.size < 2/\sF vs ix (SortSt.mk' general' (ks.toArray.zip vs.toArray) #[] 7 none))∨(¬vs.toArray.size < 2/\∃κ,(∀Q:SortKind->ak->Prop,Q κ s->aB (aD prog w) A (keyKind' ks.toArray) Q (λ_ _=>False) s) /\
   ∀(E:ai->ak->Prop) (Q:Unit × SortSt->ak->Prop),(∀st,sF vs ix st->Q ((),st) s)->aB (aD prog w) A (sortRuns'.run (SortSt.mk' κ (ks.toArray.zip vs.toArray) #[] 7 none)) Q E s):=by
 have hz:vs.toArray.size=vs.length:=by simp
 rcases so with⟨h2,rfl⟩|⟨h2,h64,κ,p,ask,rfl,kd,cm,run⟩
 ·refine .inl ⟨by rw[hz];lia,?_,by simp[picked,hl],rfl⟩;rw[hl,FJ];show(ks.toArray.zip vs.toArray).map (·.2)=_;apply Array.toList_inj.mp;rw[Array.toList_map,Array.toList_zip];exact List.map_snd_zip (pS hl.symm)
 ·refine .inr ⟨by rw[hz];lia,κ,kd,λE Q q=>?_⟩;have run':dq ask (kas_sort vs.length)=some p:=by rw[←hl];exact run
  refine cN (kat_run (Q:=λst' s''=>s''=s/\p.size=vs.length/\arrOf st'=p.map (kas_item (ks.toArray.zip vs.toArray))/\failedOf st'=none) (G:=λp' s''=>p'=p/\s''=s) hl (by lia) (by lia)
   (λp' st' s'' a1 a2 a3 a4=>by obtain ⟨e1,e2⟩:=a4;subst e1;exact ⟨e2,a1,a2,a3⟩) (Ay cm run' ⟨rfl,rfl⟩)) ?_ λ_ _ e=>e
  rintro⟨⟨⟩,st'⟩ s'' ⟨rfl,hp,har,hf⟩;exact q st' ⟨kat_snds hl har,by simp[picked,hp],hf⟩
theorem vk(h:aP)(a:af)(g:aE->aE):ko a h (h.update a g):=λb o hb e=>by rw[me _ _ _ _ hb];exact e
theorem ER{ix:List Nat}{n:Nat}{P:PySem.Fin->ak->Prop}(ho:s.heap.get? a=some (seqObj "list" vs.toArray n))(hz:vs.length≤100000)
  (so:∀h1,ko a s.heap h1->mI prog w A vs ix { s with heap:=h1 })
  (h:∀h2 c,ko a s.heap h2->s.heap.objs.size≤h2.objs.size->(picked vs ix).length=vs.length->h2.get? a=some (seqObj "list" (picked vs ix).toArray c)->P (.done (.ret .none)) { s with heap:=h2 }) :
  aB (aD prog w) A (Builtin.«list.sort» ⟨[.ref a],[]⟩) P E s:=by
 have ha:a<s.heap.objs.size:=bD ho;have hL:vs.length≤bh:=cL hz (by rw[sizeLine_eq];lia);obtain⟨e1,ho1⟩:∃e1,(s.heap.update a (Obj.mapSeq λ_=>(#[]:Array ai))).get? a=some (seqObj "list" #[] e1):=⟨_,get?_update_seq ho λ_=>#[]⟩
 have k3:ko a s.heap (((s.heap.update a (Obj.mapSeq λ_=>(#[]:Array ai))).push (seqObj "tuple" vs.toArray 0)).push (seqObj "list" #[] 0)):=λb o hb e=>
  bI _ (bI _ (vk _ _ _ b o hb e))
 have o3:(((s.heap.update a (Obj.mapSeq λ_=>(#[]:Array ai))).push (seqObj "tuple" vs.toArray 0)).push (seqObj "list" #[] 0)).get? a=some (seqObj "list" #[] e1):=bI _ (bI _ ho1);rw[list_sort_plain];refine aC (listItems_at ho rfl ?_);refine aC (listUpdate_at ho rfl ?_ (by rw[cE];exact hL) (fB _));refine aC (seqEpoch_at ho1 rfl ?_);refine aC (wpAny_newTuple ?_ (by show vs.length≤_;exact hL));refine aC (wpAny_newList ?_ (fB _));refine wpAny_holding ?_;show aB (aD prog w) A _ P E { s with heap:=((s.heap.update a (Obj.mapSeq λ_=>(#[]:Array ai))).push (seqObj "tuple" vs.toArray 0)).push (seqObj "list" #[] 0) };have fin:∀st,sF vs ix st->aB (aD prog w) A (do
   let sorted:=(arrOf st).map (·.2)
   let touched:=(←seqEpoch a) != e1
   Builtin.List.listUpdate (.ref a) λ_=>sorted
   if let some e:=failedOf st then rule "list.sort.comparison-raised";throw e
   if touched then rule "list.sort.modified";raiseError "ValueError" "list modified during sort"
   PySem.ret .none) P E { s with heap:=((s.heap.update a (Obj.mapSeq λ_=>(#[]:Array ai))).push (seqObj "tuple" vs.toArray 0)).push (seqObj "list" #[] 0) }:=λst e0=>e0.elim λhout e1=>e1.elim λhlen hf=>by
  dsimp only;rw[hout];obtain⟨c2,hc2⟩:∃c2,((((s.heap.update a (Obj.mapSeq λ_=>(#[]:Array ai))).push (seqObj "tuple" vs.toArray 0)).push (seqObj "list" #[] 0)).update a (Obj.mapSeq λ_=>(picked vs ix).toArray)).get? a=some (seqObj "list" (picked vs ix).toArray c2):=
   ⟨_,get?_update_seq o3 λ_=>(picked vs ix).toArray⟩
  refine aC (seqEpoch_at o3 rfl ?_);refine aC (listUpdate_at o3 rfl ?_ (fB _) (by show(picked vs ix).toArray.size≤_;rw[cE,hlen];lia));rw[hf];simp only[bne_self_eq_false,cJ,if_false];refine bg (h _ c2 (λb o hb e=>?_) ?_ hlen hc2)
  ·rw[me _ _ _ _ hb];exact k3 b o hb e
  ·rw[lB,size_push',size_push',lB];lia
 dsimp only;rcases AL (ks:=vs) rfl (so _ k3) with⟨h2,st⟩|⟨h2,κ,kd,run⟩
 ·rw[if_pos h2,if_pos h2];refine aC (bg ?_);rw[StateT.run_pure];refine aC (bg ?_);exact fin _ st
 ·rw[if_neg h2,if_neg h2];refine aC (cN (kd (λκ' s'=>κ'=κ/\s'=_) ⟨rfl,rfl⟩) (λκ' s' e0=>e0.elim λe1 e2=>?_) λ_ _ z=>z.elim);subst e1;subst e2;exact aC (run E _ λst q=>fin st q)
def jS(prog:br)(w:aX)(A:bB)(f:ai)(kS:af)(Fin:List ai->ak->Prop):List ai->List ai->ak->Prop
 |[],ks,s=>Fin ks s
 | v::r,ks,s=>aB (aD prog w) A (call f [v]) (λk s'=>∃e,s'.heap.get? kS=some (seqObj "list" ks.toArray e) /\
   ∀h' c,ko kS s'.heap h'->h'.get? kS=some (seqObj "list" (ks++[k]).toArray c)->jS prog w A f kS Fin r (ks++[k]) { s' with heap:=h' }) (λ_ _=>False) s
def vc(prog:br)(w:aX)(A:bB)(vs:List ai)(a kS:af)(e1:Nat)(C:ak->Prop)(ks:List ai)(s:ak):Prop:=
 ∃e ix,s.heap.get? kS=some (seqObj "list" ks.toArray e)/\s.heap.get? a=some (seqObj "list" #[] e1)/\kS≠a/\mI prog w A ks ix s /\
  ∀h2 c,(∀b o,b≠a->b≠kS->s.heap.get? b=some o->h2.get? b=some o)->s.heap.objs.size≤h2.objs.size->(picked vs ix).length=vs.length->h2.get? a=some (seqObj "list" (picked vs ix).toArray c)->C { s with heap:=h2 }
theorem ub{Fin Fin':List ai->ak->Prop}{n:Nat}(hf:∀ks s,ks.length=n->Fin ks s->Fin' ks s):∀{r ks:List ai}{s:ak},ks.length+r.length=n->jS prog w A f kS Fin r ks s->jS prog w A f kS Fin' r ks s
 |[],ks,s,hl,h=>hf ks s (by simpa using hl) h
 |v::r,ks,s,hl,h=>by
   refine cN (show aB (aD prog w) A (call f [v]) _ _ s from h) (λk s' e0=>e0.elim λe e1=>e1.elim λhe q=>⟨e,he,λh' c hk hc=>ub hf (by simp at hl ⊢;lia) (q h' c hk hc)⟩) λ_ _ z=>z
theorem Bi{Fin:List ai->ak->Prop}{body:ai->PUnit->Sem (ForInStep PUnit)}
  (hb:∀x ks (s:ak) (C:ai->ak->Prop),i9 ks < 64->aB (aD prog w) A (call f [x]) (λk s'=>∃e,s'.heap.get? kS=some (seqObj "list" ks.toArray e) /\
    ∀h' c,ko kS s'.heap h'->h'.get? kS=some (seqObj "list" (ks++[k]).toArray c)->C k { s' with heap:=h' }) (λ_ _=>False) s ->
   aB (aD prog w) A (body x ⟨⟩) (λr s'=>r=.yield ⟨⟩/\∃k,C k s') E s):∀(r ks:List ai) (s:ak),ks.length + r.length < 64 ->
   jS prog w A f kS Fin r ks s->aB (aD prog w) A (forIn r PUnit.unit body) (λ_ s'=>∃ks,Fin ks s') E s
 |[],ks,s,hl,h=>by
   rw[List.forIn_nil];exact bg ⟨ks,h⟩
 |x::r,ks,s,hl,h=>by
   rw[fG]at hl;rw[List.forIn_cons];refine aC (cN (hb x ks s (λk s'=>jS prog w A f kS Fin r (ks++[k]) s') (by lia) h) (λq s' hq=>?_) λ_ _ z=>z);obtain⟨rfl,k,h2⟩:=hq;exact Bi hb r (ks++[k]) s' (by rw[iQ,List.length_singleton];lia) h2
theorem Hi{n:Nat}{P:PySem.Fin->ak->Prop}(ho:s.heap.get? a=some (seqObj "list" vs.toArray n))(h64:vs.length<64)
  (h:∀kS e1 h1,ko a s.heap h1->h1.get? a=some (seqObj "list" #[] e1)->h1.get? kS=some (seqObj "list" #[] 0)->s.heap.objs.size≤kS ->
   jS prog w A f kS (vc prog w A vs a kS e1 λs'=>P (.done (.ret .none)) s') vs [] { s with heap:=h1 }) :
  aB (aD prog w) A (ksk_tree a f false) P E s:=by
 have ha:a<s.heap.objs.size:=bD ho;have hL:vs.length≤bh:=by rw[sizeLine_eq];lia
 obtain⟨e1,ho1⟩:∃e1,(s.heap.update a (Obj.mapSeq λ_=>(#[]:Array ai))).get? a=some (seqObj "list" #[] e1):=⟨_,get?_update_seq ho λ_=>#[]⟩
 have hk:=h ((s.heap.update a (Obj.mapSeq λ_=>(#[]:Array ai))).push (seqObj "tuple" vs.toArray 0)).objs.size e1 (((s.heap.update a (Obj.mapSeq λ_=>(#[]:Array ai))).push (seqObj "tuple" vs.toArray 0)).push (seqObj "list" #[] 0))
  (λb o hb e=>bI _ (bI _ (vk _ _ _ b o hb e))) (bI _ (bI _ ho1)) (eM _ rfl) (by rw[size_push',lB];lia)
 unfold ksk_tree;refine aC (listItems_at ho rfl ?_);refine aC (listUpdate_at ho rfl ?_ (by rw[cE];exact hL) (fB _));refine aC (seqEpoch_at ho1 rfl ?_);refine aC (wpAny_newTuple ?_ (by show vs.length≤_;exact hL));refine aC (wpAny_newList ?_ (fB _));refine wpAny_holding ?_;generalize ((s.heap.update a (Obj.mapSeq λ_=>(#[]:Array ai))).push (seqObj "tuple" vs.toArray 0)).objs.size=kS at hk;unfold ksk_rest;refine aC (wpAny_rule ?_)
 first
  |rw[List.forIn_toArray]
  |(rw[←Array.forIn_toList];simp only[uB])
  |rw[←Array.forIn_toList]
 refine aC (cN (Bi (Fin:=λks s'=>ks.length=vs.length/\vc prog w A vs a kS e1 (λs''=>P (.done (.ret .none)) s'') ks s') (λx ks s' C hz hx=>?_) vs [] _ (by simpa using h64) (ub (n:=vs.length) (λks s' e q=>⟨e,q⟩) (by simp) hk)) (λ_ s' hd=>?_) λ_ _ z=>z)
 ·refine aC (wpAny_attempt (cN hx (λk s'' hk=>?_) λ_ _ hF=>hF.elim));obtain⟨e,hK,q⟩:=hk;have ea:(List.toArray ks).push k=List.toArray (ks++[k]):=by simp
  obtain⟨c2,hc2⟩:∃c2,(s''.heap.update kS (Obj.mapSeq (·.push k))).get? kS=some (seqObj "list" (List.toArray (ks++[k])) c2):=⟨_,by rw[←ea];exact get?_update_seq hK (·.push k)⟩
  try dsimp only
  refine aC (listUpdate_at hK rfl ?_ (by rw[cE,sizeLine_eq];lia) (cL (pS (Array.size_push ..)) (by rw[cE,sizeLine_eq];lia)));exact bg ⟨rfl,k,q _ c2 (vk _ _ _) hc2⟩
 ·obtain⟨ks,hl,e,ix,hK,hA,hne,so,fin⟩:=hd
  try dsimp only
  refine aC (listItems_at hK rfl ?_);have tail:∀st,sF vs ix st->aB (aD prog w) A (ksk_tail a false e1 (.ref kS) st) P E s':=λst ⟨hout,hlen,hf⟩=>by
   unfold ksk_tail
   try dsimp only
   simp only[cJ,if_false];rw[hout];have kA:(s'.heap.update kS (Obj.mapSeq λ_=>(#[]:Array ai))).get? a=some (seqObj "list" #[] e1):=by rw[me _ _ _ _ (Ne.symm hne)];exact hA
   obtain⟨c2,hc2⟩:∃c2,((s'.heap.update kS (Obj.mapSeq λ_=>(#[]:Array ai))).update a (Obj.mapSeq λ_=>(picked vs ix).toArray)).get? a=some (seqObj "list" (picked vs ix).toArray c2):=⟨_,get?_update_seq kA λ_=>(picked vs ix).toArray⟩
   refine aC (listUpdate_at hK rfl ?_ (by rw[cE,sizeLine_eq];lia) (fB _));refine aC (wpAny_letGo ?_);refine aC (seqEpoch_at kA rfl ?_);refine aC (listUpdate_at kA rfl ?_ (fB _) (by show(picked vs ix).toArray.size≤_;rw[cE,hlen];lia));rw[hf];simp only[bne_self_eq_false,cJ,if_false];refine bg (fin _ c2 (λb o hb hb2 e=>?_) ?_ hlen hc2)
   ·rw[me _ _ _ _ hb,me _ _ _ _ hb2];exact e
   ·rw[lB,lB];exact bo _
  unfold ksk_end
  try dsimp only
  simp only[cJ,if_false];rcases AL hl so with⟨h2,st⟩|⟨h2,κ,kd,run⟩
  ·rw[if_pos h2,if_pos h2];refine aC (bg ?_);rw[StateT.run_pure];refine aC (bg ?_);exact tail _ st
  ·rw[if_neg h2,if_neg h2];refine aC (cN (kd (λκ' s''=>κ'=κ/\s''=_) ⟨rfl,rfl⟩) (λκ' s'' ⟨e1,e2⟩=>?_) λ_ _ z=>z.elim);subst e1;subst e2;exact aC (run E _ λst q=>tail st q)
theorem CT{l:af}{ix:List Nat}{Q:ai->ak->Prop}(hl:s.heap.IsList l vs.toArray)(hz:vs.length≤100000)
  (so:∀h1,(∀b o,s.heap.get? b=some o->h1.get? b=some o)->mI prog w A.in1.in1 vs ix { s with heap:=h1 })
  (h:∀D h2 c,(∀b o,s.heap.get? b=some o->h2.get? b=some o)->s.heap.get? D=none->(picked vs ix).length=vs.length->h2.get? D=some (seqObj "list" (picked vs ix).toArray c)->Q (.ref D) { s with heap:=h2 }) :
  aB (aD prog w) A (call (.builtin "sorted") [.ref l]) Q E s:=by
 have hL:vs.length≤bh:=cL hz (by rw[sizeLine_eq];lia);refine Calls.call_function_entry kind_sorted plain_sorted entry_sorted (args_sorted1 _) ?_;unfold Builtin.«sorted»;refine aC (m:=checkCount "sorted" 1 1 _) (bg ?_);refine aC (collect_list hl ?_ hL);refine aC (wpAny_newList ?_ hL);have hsz:((s.heap.push (seqObj "list" #[] 0)).update s.heap.objs.size (Obj.mapSeq (·++vs.toArray))).objs.size=s.heap.objs.size+1:=by
  rw[lB,size_push']
 have hoL:(((s.heap.push (seqObj "list" #[] 0)).update s.heap.objs.size (Obj.mapSeq (·++vs.toArray))).push (seqObj "list" vs.toArray 0)).get? (s.heap.objs.size+1)=some (seqObj "list" vs.toArray 0):=by
  rw[←hsz];exact eM _ rfl
 have keep:∀b o,s.heap.get? b=some o->(((s.heap.push (seqObj "list" #[] 0)).update s.heap.objs.size (Obj.mapSeq (·++vs.toArray))).push (seqObj "list" vs.toArray 0)).get? b=some o:=λb o q=>by
  have hlt:b<s.heap.objs.size:=bD q;rw[Heap.get?_push_ne _ _ _ (by rw[hsz];exact cS (Nat.lt_succ_of_lt hlt)),me _ _ _ _ (cS hlt),Heap.get?_push_ne _ _ _ (cS hlt)];exact q
 have nb:∀b o,s.heap.get? b=some o->b≠s.heap.objs.size+1:=λb o e=>cS (Nat.lt_succ_of_lt (bD e));show aB _ _ _ _ _ { s with heap:=((s.heap.push (seqObj "list" #[] 0)).update s.heap.objs.size (Obj.mapSeq (·++vs.toArray))).push (seqObj "list" vs.toArray 0) };rw[hsz];refine aC (wpAny_holding (wpAny_call_entry slot_list_sort ⟨_,hoL,rfl⟩ entry_list_sort ?body (args_list_sort _)))
 case body=>
  refine ER (s:={ s with heap:=((s.heap.push (seqObj "list" #[] 0)).update s.heap.objs.size (Obj.mapSeq (·++vs.toArray))).push (seqObj "list" vs.toArray 0) }) (ix:=ix) hoL hz (λh1 k=>so h1 λb o e=>k b o (nb b o e) (keep b o e)) λh2 c k _ hlen e=>?_;exact⟨_,rfl,bg ⟨_,rfl,h _ h2 c (λb o q=>k b o (nb b o q) (keep b o q)) (mh (Nat.le_succ _)) hlen e⟩⟩
theorem CH{q d:af}{T:String}{n:Nat}{Pi:Nat->ai->Prop}{OK:aP->Prop}{Q:ai->ak->Prop}(K:KdlSrc prog w T d d n Pi OK)(hh:A.handled=none)(hok:OK s.heap)(hn:n<64)
  (h:∀(vs:List ai) h' tk D kS e1,(∀b o,s.heap.get? b=some o->h'.get? b=some o)->ItemsOf Pi vs.toArray n->h'.get? D=some (seqObj "list" #[] e1)->h'.get? kS=some (seqObj "list" #[] 0)->s.heap.get? D=none->s.heap.get? kS=none->D≠kS ->
   jS prog w A.in1.in1 (.ref q) kS (vc prog w A.in1.in1 vs D kS e1 λs'=>Q (.ref D) s') vs [] { s with heap:=h',toks:=tk }) :
  aB (aD prog w) A (call (.builtin "sorted") [.ref d] [(aQ "key",.ref q)]) Q E s:=by
 refine call_function_entry_kw kind_sorted plain_sorted entry_sorted (by ksk_a1) ?_;unfold Builtin.«sorted»;refine aC (m:=checkCount "sorted" 1 1 _) (bg ?_);refine aC (kdu_collect K hh hok (by rw[sizeLine_eq];lia) λh' tk acc hk hit=>?_);have hl:acc.toList.length=n:=by rw[rP];exact hit.1
 have hL:acc.toList.length≤bh:=by rw[hl,sizeLine_eq];lia
 refine aC (wpAny_newList ?_ hL);have hoL:(h'.push (seqObj "list" acc.toList.toArray 0)).get? h'.objs.size=some (seqObj "list" acc.toList.toArray 0):=eM _ rfl;have keep:∀b o,s.heap.get? b=some o->(h'.push (seqObj "list" acc.toList.toArray 0)).get? b=some o:=λb o e=>bI _ (hk b o e);have nD:s.heap.get? h'.objs.size=none:=by
  cases e:s.heap.get? h'.objs.size with
  |none=>rfl
  |some o=>exact absurd (bD (hk _ o e)) (jn _)
 have nb:∀b o,s.heap.get? b=some o->b≠h'.objs.size:=λb o e z=>by rw[z,nD]at e;cases e
 refine aC (wpAny_holding (wpAny_call_entry_kw slot_list_sort ⟨_,hoL,rfl⟩ entry_list_sort ?body (by ksk_a2)))
 case body=>
  show aB (aD prog w) A.in1.in1 (Builtin.«list.sort» ⟨[.ref h'.objs.size],[(aQ "key",.ref q)]⟩) _ _ _;rw[ksk_t1];refine Hi (s:={ s with heap:=h'.push (seqObj "list" acc.toList.toArray 0),toks:=tk }) hoL (by rw[hl];exact hn) λkS e1 h1 k1 eD eK nK=>?_;have nk:∀b o,s.heap.get? b=some o->b≠kS:=λb o e z=>by
   subst z;exact absurd (bD (keep _ o e)) (qg nK)
  have nKs:s.heap.get? kS=none:=by
   cases e:s.heap.get? kS with
   |none=>rfl
   |some o=>exact absurd rfl (nk _ o e)
  have hne:h'.objs.size≠kS:=λz=>by
   have:h'.objs.size<(h'.push (seqObj "list" acc.toList.toArray 0)).objs.size:=bD hoL;rw[z]at this;exact absurd this (qg nK)
  refine ub (n:=acc.toList.length) (λks s' _ z=>?_) (by simp) (h acc.toList h1 tk h'.objs.size kS e1 (λb o e=>k1 b o (nb b o e) (keep b o e)) (by rw[Array.toArray_toList];exact hit) eD eK nD nKs hne);obtain⟨e,ix,z1,z2,z3,z4,z5⟩:=z;exact⟨e,ix,z1,z2,z3,z4,λh2 c y1 y2 y3 y4=>⟨_,rfl,bg ⟨_,rfl,z5 h2 c y1 y2 y3 y4⟩⟩⟩
end
end L2.Rv
namespace L2.Rv
open PySem PySem.Spec PyProof.Rows PySem.W
variable {G:Gb}{m m' m1 m2:List af}{h h' h1 h2:MH}{H H' H1 H2:Hp}{X:Cx}{E:ai->ak->Prop}{EX:St->Prop}{σ:MSt}{σ':St}
theorem bQ.there{P:br}{w:aX}{hp:aP}{a:af}{o:HO}(x:bQ P w H hp a o):∃ob,hp.get? a=some ob:=by
 cases o with
 |lst xs=>obtain⟨_,_,_,_,e⟩:=x;exact⟨_,e⟩
 |tup xs=>obtain⟨_,_,_,ob,e,_⟩:=x;exact⟨_,e⟩
 |dK kvs=>obtain⟨_,_,_,_,o,_,_,e,_⟩:=x;exact⟨_,e⟩
 |dT kvs=>obtain⟨_,_,_,_,o,_,_,e,_⟩:=x;exact⟨_,e⟩
 |set S n=>obtain⟨o,_,_,_,e,_⟩:=x;exact⟨_,e⟩
 |ins C dx fs=>obtain⟨_,_,_,e,_⟩:=x;exact⟨_,e⟩
 |own y=>exact x
 |xd fs=>obtain⟨_,⟨_,_,_,e,_⟩,_⟩:=x;exact⟨_,e⟩
 |rng lo hi=>obtain⟨_,_,_,e⟩:=x;exact⟨_,e⟩
 |frz ob u=>obtain⟨e,_⟩:=x;exact⟨_,e⟩
 |tbl ps=>exact⟨_,x⟩
 |met f y=>exact⟨_,x⟩
 |ext φ=>obtain⟨_,e,_⟩:=x;exact e
theorem HOk.none{P:br}{w:aX}{hp:aP}{a:af}(x:HOk P w H hp)(e:hp.get? a=none):H a=none:=by
 cases q:H a with
 |none=>rfl
 |some u=>obtain⟨o,z⟩:=bQ.there (x a u q);rw[e]at z;cases z
abbrev qj(H:Hp):V->List MKey->Prop:=λx r=>∃a,x=.ref a/\H a=some (.tup (r.map kV))
abbrev pO(H:Hp):V->List MKey->Prop:=λx r=>∃a p vs,x=.ref a/\H a=some (.tup (.ref p::vs))/\H p=some (.tup (r.map kV))
section
variable {P:br}{w:aX}{A:bB}{s:ak}
theorem m7{α β:Type}{R:α->β->Prop}:∀{xs:List α}{ys:List β}{i:Nat}{y:β},cf R xs ys->ys[i]?=some y->∃x,xs[i]?=some x/\R x y
 |_,_,_,_,.nil,e=>by simp at e
 |_,_,0,_,.cons r _,e=>by simp at e;subst e;exact⟨_,rfl,r⟩
 |_,_,i+1,y,.cons _ t,e=>by
   obtain⟨u,h1,h2⟩:=m7 (i:=i) (y:=y) t (by simpa using e);exact⟨u,by simpa using h1,h2⟩
theorem vg{x:V}{xs:List V}{ws:List ai}(v:Vals (x::xs) ws):∃u us,ws=u::us/\aU x u/\Vals xs us:=by
 cases v with
 |cons r q=>exact⟨_,_,rfl,r,q⟩
theorem Ad(ok:HOk P w H s.heap):∀{xs:List V}{rows:List (List MKey)}{us:List ai},cf (qj H) xs rows->Vals xs us->rows.all hU=true ->
  ∃fs:List ai,fs.length=rows.length/\KatTups s.heap us fs/\∀v∈fs,Looks (aD P w) s.heap (typeOf v) (.type "int")
 |_,_,_,.nil,.nil,_=>⟨[],rfl,trivial,λ_ z=>nomatch z⟩
 |_,_,_,@Paired.cons _ _ _ _ row _ rows ⟨a,ex,e⟩ t,v,hf=>by
   subst ex;obtain⟨u,us,rfl,r,q⟩:=vg v;rw[nh,ip]at hf;obtain⟨f1,f2⟩:=hf;obtain⟨fs,hl,kt,ht⟩:=Ad ok t q f2;obtain rfl:u=Value.ref a:=r;obtain⟨_,its,rv,o,h1,hc,n,h3⟩:=(show bQ P w H s.heap a (.tup _) from ok a _ e);cases row with
   |nil=>simp[hU]at f1
   |cons k ks=>
     cases k with
     |inr _=>simp[hU]at f1
     |inl i=>
       rw[bz]at rv;cases rv with
       |cons ri rr=>
         obtain⟨t0,rfl⟩:=(show ∃t,_=Value.int i t from ri);refine⟨.int i t0::fs,by simp[hl],⟨⟨a,o,_,n,rfl,h1,hc,h3,by simp⟩,kt⟩,λv hv=>?_⟩;rcases bK.mp hv with rfl|hv
         ·exact Looks.of_pure rfl
         ·exact ht v hv
theorem y8(ok:HOk P w H s.heap):∀{xs:List V}{rows:List (List MKey)}{us:List ai},cf (pO H) xs rows->Vals xs us ->
  ∃fs:List ai,fs.length=rows.length/\KatTups s.heap us fs/\∀v∈fs,Looks (aD P w) s.heap (typeOf v) (.type "tuple")
 |_,_,_,.nil,.nil=>⟨[],rfl,trivial,λ_ z=>nomatch z⟩
 |_,_,_,.cons (l₂:=rows) ⟨a,p,vs,ex,e,e2⟩ t,v=>by
   subst ex;obtain⟨u,us,rfl,r,q⟩:=vg v;obtain⟨fs,hl,kt,ht⟩:=y8 ok t q;obtain rfl:u=Value.ref a:=r;obtain⟨_,its,rv,o,h1,hc,n,h3⟩:=(show bQ P w H s.heap a (.tup _) from ok a _ e);obtain⟨_,its2,rv2,o2,h12,hc2,n2,h32⟩:=(show bQ P w H s.heap p (.tup _) from ok p _ e2);cases rv with
   |cons ri rr=>
     obtain rfl:=(show _=Value.ref p from ri);refine⟨.ref p::fs,by simp[hl],⟨⟨a,o,_,n,rfl,h1,hc,h3,by simp⟩,kt⟩,λv hv=>?_⟩;rcases bK.mp hv with rfl|hv
     ·rw[←hc2];exact(Looks.ld h12).andThen .now
     ·exact ht v hv
theorem xo{rows:List (List MKey)}{i j:Nat}{b:Bool}(e:iT rows i j=some b):∃x y,rows[i]?=some x/\rows[j]?=some y/\x≠y/\ltK x y=some b:=by
 unfold iT at e;cases ei:rows[i]? with
 |none=>rw[ei]at e;cases e
 |some x=>cases ej:rows[j]? with
   |none=>rw[ei,ej]at e;cases e
   |some y=>
     rw[ei,ej]at e;dsimp only at e;split at e
     ·cases e
     ·exact⟨x,y,rfl,rfl,by assumption,e⟩
theorem uI{rows:List (List MKey)}{ix:List Nat}(e:dA rows=some ix):(rows.length<2/\ix=ci rows.length)∨(2≤rows.length/\rows.length<64/\∃p,ix=Array.toList p/\dq (iT rows) (kas_sort rows.length)=some p):=by
 unfold dA at e;split at e
 ·rename_i h2;cases e;exact .inl ⟨h2,rfl⟩
 ·split at e
  ·rename_i h2 h64;split at e
   ·rename_i p hp;cases e;exact .inr ⟨by lia,h64,p,rfl,hp⟩
   ·cases e
  ·cases e
theorem getD_some{us:List ai}{i:Nat}{u:ai}(e:us[i]?=some u):us.getD i Value.none=u:=by simp[e]
theorem xV{xs:List V}{rows:List (List MKey)}{us:List ai}{ix:List Nat}(ok:HOk P w H s.heap)(r:cf (qj H) xs rows)(v:Vals xs us)(hf:rows.all hU=true)(e:dA rows=some ix):mI P w A us ix s:=by
 have hl:us.length=rows.length:=by rw[←v.length];exact Paired.length r
 rcases uI e with⟨h2,rfl⟩|⟨h2,h64,p,rfl,run⟩
 ·exact .inl ⟨by lia,by rw[hl]⟩
 ·obtain⟨fs,fl,kt,ht⟩:=Ad ok r v hf;refine .inr ⟨by lia,by lia,_,p,iT rows,rfl,λQ q=>kat_kind kt (by lia) ht rfl q,λi j b C ea hc=>?_,by rw[hl];exact run⟩;obtain⟨x,y,ex,ey,_,lt⟩:=xo ea;obtain⟨xv,gx,ax,rfl,hx⟩:=m7 r ex;obtain⟨yv,gy,ay,rfl,hy⟩:=m7 r ey;obtain⟨ux,wx,qx⟩:=v.get gx;obtain⟨uy,wy,qy⟩:=v.get gy;obtain rfl:ux=Value.ref ax:=qx;obtain rfl:uy=Value.ref ay:=qy;unfold kas_ask;rw[getD_some wx,getD_some wy];exact Ht (i4 ok hx) (i4 ok hy) lt hc
theorem C4{xs:List V}{rows:List (List MKey)}{us:List ai}{ix:List Nat}(hu:A.units<cLine)(ok:HOk P w H s.heap)(r:cf (pO H) xs rows)(v:Vals xs us)(e:dA rows=some ix):mI P w A us ix s:=by
 have hl:us.length=rows.length:=by rw[←v.length];exact Paired.length r
 rcases uI e with⟨h2,rfl⟩|⟨h2,h64,p,rfl,run⟩
 ·exact .inl ⟨by lia,by rw[hl]⟩
 ·obtain⟨fs,fl,kt,ht⟩:=y8 ok r v;refine .inr ⟨by lia,by lia,_,p,iT rows,rfl,λQ q=>kat_kind kt (by lia) ht rfl q,λi j b C ea hc=>?_,by rw[hl];exact run⟩;obtain⟨x,y,ex,ey,ne,lt⟩:=xo ea;obtain⟨xv,gx,ax,px,vx,rfl,hx,hx2⟩:=m7 r ex;obtain⟨yv,gy,ay,py,vy,rfl,hy,hy2⟩:=m7 r ey;obtain⟨ux,wx,qx⟩:=v.get gx;obtain⟨uy,wy,qy⟩:=v.get gy;obtain rfl:ux=Value.ref ax:=qx;obtain rfl:uy=Value.ref ay:=qy;unfold kas_ask;rw[getD_some wx,getD_some wy];obtain⟨_,i1,r1,o1,b1,c1,n1,d1⟩:=(show bQ P w H s.heap ax (.tup _) from ok ax _ hx);obtain⟨_,i2,r2,o2,b2,c2,n2,d2⟩:=(show bQ P w H s.heap ay (.tup _) from ok ay _ hy);cases r1 with
  |cons q1 t1=>cases r2 with
    |cons q2 t2=>
      obtain rfl:=(show _=Value.ref px from q1);obtain rfl:=(show _=Value.ref py from q2);exact Hj hu b1 d1 b2 d2 (i4 ok hx2) (i4 ok hy2) ne lt hc
end
noncomputable def jl(xs:List V)(ix:List Nat):List V:=ix.map λi=>xs.getD i .non
def xX:List V->Hp->VK->Prop:=λvs H Q=>∃l xs rows ix,vs=[V.ref l]/\H l=some (.lst xs)/\dA rows=some ix/\((cf (qj H) xs rows/\rows.all hU=true)∨cf (pO H) xs rows) /\
 ∀D,H D=none->Q (.ref D) (upd H D (.lst (jl xs ix)))
theorem uq{xs:List V}{us:List ai}(v:Vals xs us):∀(ix:List Nat),Vals (jl xs ix) (picked us ix)
 |[]=>.nil
 |i::r=>by
   refine .cons ?_ (uq v r);show aU (xs.getD i .non) (us.getD i Value.none);by_cases hi:i<xs.length
   ·obtain⟨u,e,q⟩:=v.get (i:=i) (x:=xs[i]) (by simp[hi]);have e1:xs.getD i .non=xs[i]:=by simp[hi]
    rw[e1,getD_some e];exact q
   ·have e1:xs.getD i .non=.non:=by simp[kI hi]
    have e2:us.getD i Value.none=Value.none:=by
     have:=v.length;simp[show us.length≤i by lia]
    rw[e1,e2];rfl
theorem Ir{rows:List (List MKey)}{ix:List Nat}(e:dA rows=some ix):rows.length<64:=by
 rcases uI e with⟨h2,_⟩|⟨_,h,_⟩ <;> lia
theorem yh(hu:X.A.units+64<cLine):eO X (.builtin "sorted") xX:=by
 rintro pins s σ H vs us Q I rv ⟨l,xs,rows,ix,ev,el,es,rr,hq⟩;subst ev;cases rv with
 |cons q t=>
   cases t;obtain rfl:=(show _=Value.ref l from q);obtain⟨hz,its,n,r,eo⟩:=(show bQ X.prog X.w H s.heap l (.lst xs) from I.hok l _ el);have hlen:xs.length=rows.length:=by rcases rr with⟨a,_⟩|a <;> exact Paired.length a
   have h64:=Ir es;have hu2:X.A.in1.in1.units<cLine:=by show X.A.units+1+1<cLine;lia
   refine CT (vs:=its) (ix:=ix) ⟨_,eo,rfl,n,rfl⟩ (by rw[←r.length];lia) (λh1 k=>?_) λD h2 c k nD hlen eD=>?_
   ·have ok:HOk X.prog X.w H h1:=I.hok.kept k;rcases rr with⟨a,b⟩|a
    ·exact xV (s:={ s with heap:=h1 }) ok a r b es
    ·exact C4 (s:={ s with heap:=h1 }) hu2 ok a r es
   ·have fD:H D=none:=HOk.none I.hok nD;have fp:Fp X pins H D:=Fp.of I nD fD;have I1:Inv X pins σ H { s with heap:=h2 }:=I.kept (t':=s.toks) k;have fp1:Fp X pins H D:=fp;have I2:=Inv.trackO (v:=.lst (jl xs ix)) I1 fp1 ⟨by
     have:(jl xs ix).length=its.length:=by rw[←hlen];simp[jl,picked]
     rw [this,←r.length];exact hz,_,c,uq r ix,eD⟩
    exact⟨.ref D,_,I2,rfl,hq D fD⟩
theorem AK:∀{ys:List MV}{r:List MKey}{vs:List V},km ys=some r->VRs G m H ys vs->vs=r.map kV
 |[],r,vs,e,q=>by cases e;cases q;rfl
 |y::ys,r,vs,e,q=>by
   unfold km at e;cases ey:rD y with
   |none=>rw[ey]at e;cases e
   |some k=>cases er:km ys with
     |none=>rw[ey,er]at e;cases e
     |some ks=>
       rw[ey,er]at e;cases e;cases q with
       |@cons _ v' _ vs' q1 q2=>
         have e2:=AK er q2;cases y <;> first|cases ey|skip
         ·rw[show v'=V.int _ from q1,e2];rfl
         ·rw[show v'=V.str _ from q1,e2];rfl
theorem tX{x:MV}{r:List MKey}{v:V}(e:gH x=some r)(q:VR G m H x v):qj H v r:=by
 cases x <;> first|cases e|skip
 obtain⟨a,vs,e1,_,e2,t⟩:=q;subst e1;exact⟨a,rfl,by rw[e2,AK e t.to]⟩
theorem Fe{x:MV}{r:List MKey}{v:V}(e:va x=some r)(q:VR G m H x v):pO H v r:=by
 cases x <;> first|cases e|skip
 rename_i xs;cases xs with
 |nil=>cases e
 |cons y ys=>
   obtain⟨a,vs,e1,_,e2,t⟩:=q;subst e1;obtain⟨z,zs,e3,q1,_⟩:=(show ∃z zs,vs=z::zs/\VR G m H y z/\VRl G m H ys zs from t);subst e3;obtain⟨p,e4,e5⟩:=tX (show gH y=some r from e) q1;subst e4;exact⟨a,p,zs,rfl,e2,e5⟩
theorem rY{f:MV->Option (List MKey)}{Rr:V->List MKey->Prop}(hf:∀x r v,f x=some r->VR G m H x v->Rr v r):∀{xs:List MV}{rows:List (List MKey)}{vs:List V},fJ f xs=some rows->VRs G m H xs vs->cf Rr vs rows
 |[],rows,vs,e,q=>by cases e;cases q;exact .nil
 |y::ys,rows,vs,e,q=>by
   unfold fJ at e;cases ey:f y with
   |none=>rw[ey]at e;cases e
   |some k=>cases er:fJ f ys with
     |none=>rw[ey,er]at e;cases e
     |some ks=>
       rw[ey,er]at e;cases e;cases q with
       |cons q1 q2=>exact .cons (hf _ _ _ ey q1) (rY hf er q2)
theorem rS{xs:List MV}{vs:List V}(v:VRs G m H xs vs):∀(ix:List Nat),VRs G m H (pick xs ix) (jl vs ix)
 |[]=>.nil
 |i::r=>by
   refine .cons ?_ (rS v r);show VR G m H (xs.getD i .non) (vs.getD i .non);by_cases hi:i<xs.length
   ·obtain⟨u,e,q⟩:=ij v (i:=i) (x:=xs[i]) (by simp[hi]);have e1:xs.getD i .non=xs[i]:=by simp[hi]
    have e2:vs.getD i .non=u:=by simp[e]
    rw[e1,e2];exact q
   ·have hl:=Paired.length v;have e1:xs.getD i .non=.non:=by simp[kI hi]
    have e2:vs.getD i .non=.non:=by simp[show vs.length≤i by lia]
    rw[e1,e2];rfl
theorem Am:VO1 G lO xX:=by
 intro X E EX m h H x x' Q R rx P;cases x <;> first|exact P.elim|skip
 rename_i n;obtain⟨a,ea,rfl⟩:=rx;obtain⟨oa,e1,q1,P1⟩:=cy R ea P;cases oa <;> first|exact P1.elim|skip
 rename_i xs;obtain⟨vs,rv,z⟩:=q1;dsimp only at P1;cases er:fJ gH xs with
 |some rows=>
   rw[er]at P1;dsimp only at P1;split at P1
   ·rename_i hall;cases es:dA rows with
    |none=>rw[es]at P1;exact P1.elim
    |some ix=>
      rw[es]at P1;exact⟨a,vs,rows,ix,rfl,z,es,.inl ⟨rY (λ_ _ _=>tX) er rv,hall⟩,λD hD=>jR R (rS rv ix) P1 hD⟩
   ·exact P1.elim
 |none=>
   rw[er]at P1;dsimp only at P1;cases eh:fJ va xs with
   |none=>rw[eh]at P1;exact P1.elim
   |some rows=>
     rw[eh]at P1;dsimp only at P1;cases es:dA rows with
     |none=>rw[es]at P1;exact P1.elim
     |some ix=>
       rw[es]at P1;exact⟨a,vs,rows,ix,rfl,z,es,.inr (rY (λ_ _ _=>Fe) eh rv),λD hD=>jR R (rS rv ix) P1 hD⟩
structure vL(K:Frag)(mg:Str->Option ai)(cl:Nat->af)(cdv:ai):Prop where
 on:cl 996≠0
 code:∃c,cdv=.ref c/\∃o vs file tf flags tg inF text tt,K.lookup c=some o/\o.cls=.type "code"/\o.data=.fields vs/\vs[11]?=some (.ref (cl 999))/\vs.getD 11 .none=.ref (cl 999)/\vs.getD 18 .none=.str file tf /\
  vs.getD 7 .none=.int flags tg/\vs.getD 9 .none=.bool inF/\vs.getD 10 .none=.int text tt
 blt:∃bm ob,mg "__builtins__"=some (.ref bm)/\bm≠builtinsNs/\bm≠dP/\K.lookup bm=some ob/\ob.cls=.type "module"/\ob.dict=some builtinsNs/\ob.data=.plain
section
variable {M:Model}{A:bB}{pins:List (af×aE)}{s:ak}{params:Arguments}{body:aw}{scope:Scope}{pos:Pos}{cls:List (Str×af)}{Q:ai->ak->Prop}
noncomputable abbrev jg(params:Arguments)(body:aw)(scope:Scope)(cls:List (Str×af))(pm:ai)(c':af)(ctv:ai):aE:=kla_obj "<lambda>" iN params body scope cls pm c' ctv
theorem Inv.addPin{f:af}{o:aE}(I:Inv X pins σ' H s)(e:s.heap.get? f=some o)(n:H f=none)(l:f≠X.env.locals)(fs:f∉X.fs)(d:∀v,o.data≠.cell v):Inv X ((f,o)::pins) σ' H s:=
 I.pins_of λp hp=>by
  rcases bK.mp hp with z|z
  ·subst z;exact⟨e,n,l,fs,d⟩
  ·exact I.pin p (eN _ z)
theorem F0(hL:vL X.K X.mg G.cl X.env.code)(I:Inv X pins σ' H s)(R:HR G m h H)(hp1:(pos.line:Int)=G.cl 998)(hp2:(pos.col:Int)=G.cl 997)(hcl:closureFor scope X.env=pure cls)(hdef:defaultsOf params X.env=([],[]))(hq:X.env.qual++"<lambda>"=iN)
  (k:∀f c' pm ctv H2 s2,Inv X ((f,jg params body scope cls pm c' ctv)::pins) σ' H2 s2->Ext m H m H2->HR G m h H2->H2 c'=some (.ext (LamΦ c'))->c'∉m->Q (.ref f) s2) :
  aB M A (aO (.Lambda params body scope pos) X.env) Q E s:=by
 refine kla_eval hdef ?_;rw[hq];obtain⟨c,ec,o,vs,file,tf,flags,tg,inF,text,tt,a1,a2,a3,a4,a5,a6,a7,a8,a9⟩:=hL.code;obtain⟨bm,ob,b1,b2,b3,b4,b5,b6,b7⟩:=hL.blt;have hg:s.heap.Ns dP X.mg:=I.mod.glob.keeps I.bk;have hbm:=I.bs bm ob (I.ok.mod.kin _ _ b4);have hc:=I.bs c o (I.ok.mod.kin _ _ a1);have hgn:H dP=none:=by
  obtain⟨og,es,ep,e,_⟩:=I.mod.glob;exact(I.bs dP og e).2
 rcases R.tab with t|⟨nP,t⟩
 ·exact absurd t hL.on
 have nn:∀b,H b=none->b≠G.cl 999:=λb e z=>by
  rw[z]at e;rcases t with t|⟨_,_,_,t⟩ <;> (rw[e]at t;cases t)
 have hb:s.heap.BuiltinsAt X.mg (G.cl 999):=⟨bm,ob,b1,b2,b3,nn bm hbm.2,hbm.1,b5,b6,b7⟩;have C:CodeHd s.heap c (G.cl 999):=⟨o,vs,file,tf,flags,tg,inF,text,tt,hc.1,a2,a3,a4,a5,a6,a7,a8,a9,nn c hc.2⟩;rcases t with t|⟨c',nc,ec',t⟩
 ·have hP:s.heap.get? (G.cl 999)=some (tabObj #[]):=I.hok _ _ t;refine kla_makeFunction hcl I.ok.glob hg ec C hP trivial rfl (nn _ hgn) hb λc' ctv h' tk hx hge hlt hrec htb=>?_;have hPs:G.cl 999<s.heap.objs.size:=bD hP;have ncP:c'≠G.cl 999:=λz=>by rw[z]at hge;exact absurd (dN hPs hge) (jn _)
  have fc:H c'=none:=I.hok.fresh hge;have fcm:c'∉m:=R.fresh fc;have e2:#[]++#[rawInt pos.line,rawInt pos.col,Value.ref c']=#[rawInt (G.cl 998),rawInt (G.cl 997),Value.ref c']:=by rw[hp1,hp2];simp
  rw[e2]at htb
  let H2:Hp:=upd (upd H c' (.ext (LamΦ c'))) (G.cl 999) (.tbl #[rawInt (G.cl 998),rawInt (G.cl 997),.ref c'])
  have hH2:∀b,b≠G.cl 999->b≠c'->H2 b=H b:=λb z1 z2=>by show upd _ _ _ b=_;rw[ba z1,ba z2]
  have hH2P:H2 (G.cl 999)=some (.tbl #[rawInt (G.cl 998),rawInt (G.cl 997),.ref c']):=dw;have hH2c:H2 c'=some (.ext (LamΦ c')):=by show upd _ _ _ c'=_;rw[ba ncP,dw]
  have some_ne:∀b u,H b=some u->(∀ps,u≠.tbl ps)->H2 b=some u:=λb u e nt=>by
   rw[hH2 b (λz=>by rw[z,t]at e;cases e;exact nt _ rfl) (dY e fc)];exact e
  have keepU:∀b u,H b=none->s.heap.get? b=some u->(h'.push (jg params body scope cls ((X.mg "__name__").getD .none) c' ctv)).get? b=some u:=λb u n e=>bI _ (hx b u (nn b n) e);have hfs:s.heap.objs.size≤h'.objs.size:=cL hge (mi hlt);have hPh:G.cl 999<h'.objs.size:=bD htb;have I2:Inv X pins σ' H2 { s with heap:=h'.push (jg params body scope cls ((X.mg "__name__").getD .none) c' ctv),toks:=tk }:=by
   refine I.step (ch:=[]) (g':=s.gens) (d':=s.drawn) (λ_ z=>nomatch z) (λb u _ _ _ e n=>keepU b u n e) (λb u _ _ _ e n=>⟨u.slots,keepU b u n e⟩) (λb u _ e n=>?_) (λb u _ e=>?_) (λb xs e=>some_ne b _ e λ_ z=>nomatch z) (λb o u e=>some_ne b _ e λ_ z=>nomatch z) (λb ps e=>?_) (λmm hm=>?_) (λb u e=>?_) I.bare
   ·rw[hH2 b (nn b n) (λz=>by subst z;exact absurd (bD e) (qg hge))];exact n
   ·by_cases hbP:b=G.cl 999
    ·subst hbP;exact⟨_,bI _ htb⟩
    ·exact⟨u,bI _ (hx b u hbP e)⟩
   ·by_cases hbP:b=G.cl 999
    ·subst hbP;rw[t]at e;cases e;exact⟨_,by rw[hH2P,←e2]⟩
    ·exact⟨#[],by rw[hH2 b hbP (dY e fc),e];simp⟩
   ·obtain⟨oo,es,ep,ho,r⟩:=hm;exact⟨oo,es,ep,keepU _ oo I.free ho,r⟩
   ·by_cases hbP:b=G.cl 999
    ·subst hbP;rw[hH2P]at e;cases e;exact bI _ htb
    ·by_cases hbc:b=c'
     ·subst hbc;rw[hH2c]at e;cases e;obtain⟨c₂,oc,ws,tq,z1,z2,z3,z4⟩:=hrec;cases z1;exact⟨⟨oc,ws,tq,bI _ z2,z3,z4⟩,⟨oc,bI _ z2⟩,λp1 p2 ⟨o1,w1,t1,y1,y2,y3⟩ kk=>⟨o1,w1,t1,kk o1 y1,y2,y3⟩⟩
     ·rw[hH2 b hbP hbc]at e;refine(I.hok b u e).stay (λd v hd q=>bI _ (hx d v ?_ q)) (λd q=>some_ne d _ q λ_ z=>nomatch z) λd xs q=>some_ne d _ q λ_ z=>nomatch z;rcases hd with z|z
      ·rw[z];exact hbP
      ·exact λy=>by rw[y,t]at z;cases z
  have x2:Ext m H m H2:=⟨⟨[],by simp⟩,λa u e n nt=>⟨some_ne a u e nt,n⟩,λa o u e=>some_ne a _ e λ_ z=>nomatch z⟩
  have mn:Mn m H m H2:=x2.mn;have R2:HR G m h H2:=⟨R.len,R.nd,λn a ob ea eo=>OR.mono mn (hH2 a (λz=>nP (z▸de ea)) (λz=>fcm (z▸de ea))) (R.ob n a ob ea eo),by
   rcases R.scr with⟨o',z⟩|z
   ·exact .inl ⟨o',some_ne _ _ z λ_ y=>nomatch y⟩
   ·exact .inr z,.inr ⟨nP,.inr ⟨c',fcm,hH2c,hH2P⟩⟩⟩
  refine k h'.objs.size c' _ ctv H2 _ (Inv.addPin I2 (eM _ rfl) ?_ (jb (dN I.lt hfs)) (I.nofs hfs) λv z=>nomatch z) x2 R2 hH2c fcm;rw[hH2 _ (jb hPh) (jb hlt)];exact I.hok.fresh hfs
 ·have hP:s.heap.get? (G.cl 999)=some (tabObj #[rawInt (G.cl 998),rawInt (G.cl 997),.ref c']):=I.hok _ _ t;refine kla_makeFunctionHit (cv:=.ref c') hcl I.ok.glob hg ec C hP trivial ?_ hb λctv h' tk hk hsz=>?_
  ·rw[←hp1,←hp2];simp[codeAmong,rawInt]
  ·have I2:Inv X pins σ' H { s with heap:=h'.push (jg params body scope cls ((X.mg "__name__").getD .none) c' ctv),toks:=tk }:=I.kept λb u e=>bI _ (hk b u e);exact k h'.objs.size c' _ ctv H _ (Inv.addPin I2 (eM _ rfl) (I.hok.fresh hsz) (jb (dN I.lt hsz)) (I.nofs hsz) λv z=>nomatch z) .refl R ec' nc
end
section
variable {pins:List (af×aE)}{s:ak}
theorem Fp.turnedL{bs:List af}{h':aP}{t':Nat}(f:∀b∈bs,Fp X pins H b)(I:Inv X pins σ' H s)(k:∀c o,c∉bs->s.heap.get? c=some o->h'.get? c=some o):Inv X pins σ' H { s with heap:=h',toks:=t' }:=by
 have n0:∀c o,X.s₀.heap.get? c=some o->c∉X.ex->c∉bs:=λc o q hx z=>by
  rcases(f c z).new with y|y
  ·exact hx y
  ·rw[y]at q;cases q
 have ck:∀x c v,X.env.cells.lookup x=some c->s.heap.IsCell c v->h'.IsCell c v:=λx c v q e0=>e0.elim λo e1=>e1.elim λho hd=>⟨o,k c o (λz=>(f c z).ce x c q rfl) ho,hd⟩;refine⟨I.ok,I.os,I.bare,⟨λc o q n hb hx=>k c o (n0 c o q hx) (I.base.keep c o q n hb hx),λc o q n hb hx=>?_,λc o q n hx=>I.base.free c o q n hx,λc o q hx=>?_,I.base.tups,I.base.frzs,I.base.tbls⟩,?_,λx c q=>?_,I.free,I.freeC,λp hp=>?_,λc u e=>?_,I.len⟩
 ·obtain⟨sl,z⟩:=I.base.slot c o q n hb hx;exact⟨sl,k c _ (n0 c o q hx) z⟩
 ·obtain⟨o',z⟩:=I.base.there c o q hx;exact⟨o',k c o' (n0 c o q hx) z⟩
 ·obtain⟨mm,⟨o,es,ep,ho,r⟩,hl⟩:=I.loc;refine⟨mm,⟨o,es,ep,k _ o (λz=>(f _ z).loc rfl) ho,r⟩,λi x v e1 e2 e3=>?_⟩;obtain⟨u,ru,l⟩:=hl i x v e1 e2 e3;refine⟨u,ru,?_⟩;rcases l with l|⟨kk,c,e,z⟩
  ·exact .inl l
  ·exact .inr ⟨kk,c,e,ck x c _ e z⟩
 ·obtain⟨v,z⟩:=I.cell x c q;exact⟨v,ck x c v q z⟩
 ·obtain⟨a1,a2,a3,a4,a5⟩:=I.pin p hp;exact⟨k _ _ (λz=>(f _ z).pin p hp rfl) a1,a2,a3,a4,a5⟩
 ·refine(I.hok c u e).stay (λd v hd q=>k d v ?_ q) (λ_ q=>q) λ_ _ q=>q;rcases hd with z|z
  ·rw[z];exact λy=>by rw[(f c y).un]at e;cases e
  ·exact λy=>by rw[(f d y).un]at z;cases z
noncomputable def kL(X:Cx)(A:bB)(N:List Str)(s:ak)(H:Hp)(env:Env):Cx:=
 { X with A:=A.deeper env,N:=N,s₀:=s,H₀:=H,env:=env,outer:=X.stack,stack:=env::X.stack,ex:=[],calm:=true,fn:=λ_=>false,pn:=[],xe:=λ_ _=>False }
structure pB(X:Cx)(scope:Scope)(nm fv:Str)(i:Nat)(c:af):Prop where
 kind:scope.kind=.function
 co:scope.isCoroutine=false
 gen:scope.isGenerator=false
 loc:scope.names.lookup nm=some .local
 fr:scope.names.lookup fv=some .free
 only:∀x∈scope.names,x.2≠.cell
 one:∀x,scope.names.lookup x=some .free->x=fv
 cl:X.env.cells.lookup fv=some c
 kc:X.env.kindOf fv=some .cell
 ix:X.N[i]?=some fv
 cls:closureFor scope X.env=pure [(fv,c)]
theorem Jd{A:bB}{scope:Scope}{nm fv:Str}{i:Nat}{c c' f:af}{v:V}{u:ai}{hp:aP}{t:Nat}(L:pB X scope nm fv i c)(I:Inv X pins σ' H s)(hh:A.handled=none)(hA:A.frames=X.A.frames)
  (ns:hp.Ns s.heap.objs.size (λx=>[(nm,u)].reverse.lookup x)) (k:∀b o,s.heap.get? b=some o->hp.get? b=some o) (ru:aU v u) :
  Inv (kL X A [nm,fv] s H (envX iN scope s.heap.objs.size f (.ref c') [(fv,c)])) [] [some v,(σ'[i]?).getD none] H { s with heap:=hp,toks:=t }:=by
 have look1:∀x d,([(fv,c)]:List (Str×af)).lookup x=some d->x=fv/\d=c:=λx d e=>by
  rw[bW]at e;cases hx:(x == fv) with
  |true=>rw[hx]at e;cases e;exact⟨eq_of_beq hx,rfl⟩
  |false=>rw[hx]at e;cases e
 obtain ⟨v0,hv0⟩:=I.cell fv c L.cl;have kc:∀w,s.heap.IsCell c w->hp.IsCell c w:=λw e0=>e0.elim λo e1=>e1.elim λho hd=>⟨o,k c o ho,hd⟩;refine ⟨⟨I.ok.mod,L.kind,rfl,rfl,bo _,λx y d h1 h2=>?_,λx hx=>?_,(λx d z=>nomatch z),λ_=>hh,Around.frames_deeper (hA.trans I.ok.frames),.inr ⟨rfl,rfl⟩,(λb z=>nomatch z),I.bs,cL I.ok.bsz I.sz,(λb _ _ z=>nomatch z),(λb z=>nomatch z),I.stack,I.stkFree⟩,
  rfl,I.bare,Un.kept k,⟨_,ns,λj x w e1 e2 e3=>?_⟩,λx d e=>?_,I.hok.fresh (bo _),λx d e=>?_,(λp hp=>nomatch hp),I.hok.kept k,rfl⟩
 ·rw[(look1 x d h1).1,(look1 y d h2).1]
 ·have hx:scope.names.lookup x=some .cell∨scope.names.lookup x=some .free:=hx;rcases hx with hx|hx
  ·exact absurd rfl (L.only _ (PySem.mem_of_lookup hx))
  ·rw[L.one x hx];exact⟨c,by show dQ fv [(fv,c)]=some c;simp⟩
 ·match j,e1,e2 with
  |0,e1,e2=>
    have e1':nm=x:=by simpa[kL] using e1
    subst e1';have e2':v=w:=by simpa using e2
    subst e2';exact⟨u,ru,.inl ⟨L.loc,by show dQ nm [(nm,u)]=some u;simp⟩⟩
  |1,e1,e2=>
    have e1':fv=x:=by simpa[kL] using e1
    subst e1';have e2':(σ'[i]?).getD none=some w:=by simpa using e2
    have e3':σ'[i]?=some (some w):=by
     cases q:σ'[i]? with
     |none=>rw[q]at e2';cases e2'
     |some z=>rw[q]at e2';rw[show z=some w from e2']
    obtain⟨mm,hn,hl⟩:=I.loc;obtain⟨u1,r1,l1⟩:=hl i fv w L.ix e3' (.inr (.inl L.kc));refine⟨u1,r1,?_⟩;rcases l1 with⟨z,_⟩|⟨_,d,e,z⟩
    ·rw[L.kc]at z;cases z
    ·rw[L.cl]at e;cases e;exact .inr ⟨.inr L.fr,c,by show dQ fv [(fv,c)]=some c;simp,kc _ z⟩
  |j+2,e1,_=>simp[kL]at e1
 ·obtain⟨e1,e2⟩:=look1 x d e;rw[e2];exact⟨v0,kc _ hv0⟩
 ·obtain⟨e1,e2⟩:=look1 x d e;rw[e2];exact I.freeC fv c L.cl
theorem IK{A:bB}{params:Arguments}{body:aw}{scope:Scope}{nm fv:Str}{i:Nat}{c c' f:af}{pm ctv:ai}{ke:ME}{k:Str}{t:Tok}{kv:MV}(L:pB X scope nm fv i c)(I:Inv X pins σ' H s)(S:SR G m H σ σ')(R:HR G m h H)
  (hf:(f,jg params body scope [(fv,c)] pm c' ctv)∈pins) (hc':H c'=some (.ext (LamΦ c'))) (hh:A.handled=none) (hA:A.frames=X.A.frames) (hroom:A.depth<recursionLimit)
  (hbind:∀(fd:bf) (v:ai),fd.params=params->fd.defaults=.none->fd.kwdefaults=.none->bindArgs fd ⟨[v],[]⟩=pure [(nm,v)])
  (hbody:∀(L f:af) (cdv:ai) (s:ak) (H:Hp),GE G (kL X A [nm,fv] s H (envX iN scope L f cdv [(fv,c)])) body ke) (he:ke [some (.str k),(σ[i]?).getD none] h=.ok kv h) :
  aB (aD X.prog X.w) A (call (.ref f) [.str k t]) (λu s'=>∃v' H',Inv X pins σ' H' s'/\Ext m H m H'/\HR G m h H'/\aU v' u/\VR G m H' kv v') (λ_ _=>False) s:=by
 have hpf:=I.pin _ (eN _ hf);obtain⟨⟨oc,ws,tq,z1,z2,z3⟩,_,_⟩:=I.hok c' _ hc';refine wpAny_call (kla_callFunE hroom hpf.1 rfl L.co L.gen rfl ⟨c',oc,ws,tq,rfl,z1,z2,z3⟩ ?_);rw[hbind _ _ rfl rfl rfl];refine bg (wpAny_newFunctionEnv L.only (λx hx=>by rw[cT.mp hx];exact L.loc) (λh₁ hns hsb=>⟨I.nolimit.fresh _ hsb,?_⟩) L.kind);have hk₁:∀b o,s.heap.get? b=some o->h₁.get? b=some o:=λb o e=>hsb.extBut b o (cS (bD e)) (bI _ e);have I1:=Jd (A:=A) (f:=f) (c':=c') (v:=.str k) (t:=s.toks+1) L I hh hA hns hk₁ ⟨t,rfl⟩;refine kla_codeExpr ?_;have S1:SR G m H [some (.str k),(σ[i]?).getD none] [some (.str k),(σ'[i]?).getD none]:=by
  refine⟨rfl,λj v e=>?_⟩
  match j,e with
  |0,e=>
    have e':MV.str k=v:=by simpa using e
    subst e';exact⟨.str k,rfl,rfl⟩
  |1,e=>
    have e':(σ[i]?).getD none=some v:=by simpa using e
    have e3:σ[i]?=some (some v):=by
     cases q:σ[i]? with
     |none=>rw[q]at e';cases e'
     |some z=>rw[q]at e';rw[show z=some v from e']
    obtain⟨v',q1,q2⟩:=S.sl i v e3;exact⟨v',by simp[q1],q2⟩
  |j+2,e=>simp at e
 refine cN (hbody s.heap.objs.size f (.ref c') s H (λ_ _=>False) ET [] _ _ H (λv' H'=>∃m',Ext m H m' H'/\HR G m' h H'/\VR G m' H' kv v') (I1.wish _) ⟨m,h,_,trivial,S1,R,by rw[he];exact λm' H' y R' v' r=>⟨m',y,R',r⟩⟩) (λu s' hq=>?_) λ_ _ z=>z.elim;obtain⟨v',H',I',r,m',x,R',rv⟩:=hq;have em:m'=m:=by
  obtain⟨e,pe⟩:=x.pre;have:e.length=0:=by
   have h1:=R'.len;have h2:=R.len;rw[pe,iQ]at h1;lia
  rw[pe,List.eq_nil_of_length_eq_zero this,up]
 subst em;exact⟨v',H',I.call' (s':=s') (ch:=[]) I'.os I'.base I'.hok I'.bare (λb z=>nomatch z),x,R',r,rv⟩
end
end L2.Rv
namespace L2.Rv
open PySem PySem.Spec PyProof.Rows PySem.W
variable {G:Gb}{m m' m1 m2:List af}{h h' h1 h2:MH}{H H' H0 H1 H2:Hp}{X:Cx}{E:ai->ak->Prop}{EX:St->Prop}{σ:MSt}{σ':St}
section
variable {pins:List (af×aE)}{s:ak}{f c' D kS:af}{fo:aE}{e1:Nat}
structure LS(G:Gb)(X:Cx)(σ':St)(m:List af)(h:MH)(H0:Hp)(pins:List (af×aE))(f:af)(fo:aE)(c' D:af)(e1:Nat)(kS:af)(done:List MV)(us:List ai)(H:Hp)(s:ak):Prop where
 inv:∃e,Inv X ((kS,seqObj "list" us.toArray e)::(D,seqObj "list" #[] e1)::(f,fo)::pins) σ' H s
 ext:Ext m H0 m H
 hr:HR G m h H
 vals:∃vs,VRs G m H done vs/\Vals vs us
 cd:H c'=some (.ext (LamΦ c'))
 cm:c'∉m
structure KSt(X:Cx)(pins:List (af×aE))(kS:af):Prop where
 new:kS∈X.ex∨X.s₀.heap.get? kS=none
 ce:∀x c,X.env.cells.lookup x=some c->c≠kS
 pin:∀p∈X.pn++pins,p.1≠kS
theorem KSt.fp{o:aE}(k:KSt X pins kS)(I:Inv X ((kS,o)::pins) σ' H s):Fp X pins H kS:=by
 obtain⟨_,a2,a3,a4,_⟩:=I.pin (kS,o) (eN _ (.head _));exact⟨a2,λz=>a3 z,a4,k.new,λx c e=>k.ce x c e,k.pin⟩
theorem Inv.dropPin{o:aE}(I:Inv X ((kS,o)::pins) σ' H s):Inv X pins σ' H s:=I.pins_of λp hp=>I.pin p (eN _ (.tail _ hp))
theorem y9{ke:ME}{fr:MSt}{k:Str}{r:List Str}{more:List MV}{hE:MH}(e:eR ke fr (k::r) h=.ok more hE):∃kv more',ke (some (.str k)::fr) h=.ok kv h/\eR ke fr r h=.ok more' hE/\more=kv::more':=by
 unfold eR at e;cases ek:ke (some (.str k)::fr) h with
 |ok kv h1=>
   rw[ek]at e;dsimp only at e;split at e
   ·rename_i hh;subst hh;unfold bnd at e;cases er:eR ke fr r h1 with
    |ok more' h2=>
      rw[er]at e;injection e with e1 e2;subst e1;subst e2;exact⟨kv,more',rfl,rfl,rfl⟩
    |exc c h2=>rw[er]at e;cases e
    |stuck=>rw[er]at e;cases e
   ·cases e
 |exc c h1=>rw[ek]at e;cases e
 |stuck=>rw[ek]at e;cases e
theorem AW{ke:ME}{fr:MSt}:∀{r:List Str}{more:List MV}{hE:MH},eR ke fr r h=.ok more hE->hE=h
 |[],more,hE,e=>by unfold eR at e;injection e with _ e2;exact e2.symm
 |k::r,more,hE,e=>by
   obtain⟨_,_,_,e2,_⟩:=y9 e;exact AW e2
theorem yg{ke:ME}{fr:MSt}:∀{r:List Str}{c:Nat}{hE:MH},eR ke fr r h≠.exc c hE
 |[],c,hE,e=>by unfold eR at e;cases e
 |k::r,c,hE,e=>by
   unfold eR at e;cases ek:ke (some (.str k)::fr) h with
   |ok kv h1=>
     rw[ek]at e;dsimp only at e;split at e
     ·unfold bnd at e;cases er:eR ke fr r h with
      |ok more' h2=>rw[er]at e;cases e
      |exc c' h2=>exact yg er
      |stuck=>rw[er]at e;cases e
     ·cases e
   |exc c h1=>rw[ek]at e;cases e
   |stuck=>rw[ek]at e;cases e
theorem zF{A:bB}{params:Arguments}{body:aw}{scope:Scope}{nm fv:Str}{i:Nat}{c:af}{pm ctv:ai}{ke:ME}{Fin:List ai->ak->Prop}(L:pB X scope nm fv i c)(hfo:fo=jg params body scope [(fv,c)] pm c' ctv)
  (hh:A.handled=none) (hA:A.frames=X.A.frames) (hroom:A.depth<recursionLimit) (hbind:∀(fd:bf) (v:ai),fd.params=params->fd.defaults=.none->fd.kwdefaults=.none->bindArgs fd ⟨[v],[]⟩=pure [(nm,v)])
  (hbody:∀(L f:af) (cdv:ai) (s:ak) (H:Hp),GE G (kL X A [nm,fv] s H (envX iN scope L f cdv [(fv,c)])) body ke) (S:SR G m H0 σ σ')
  (K:KSt X ((D,seqObj "list" #[] e1)::(f,fo)::pins) kS):∀{r:List Str}{rv:List ai}{done more:List MV}{us:List ai}{H:Hp}{s:ak},cf (λk v=>∃t,v=Value.str k t) r rv->eR ke [(σ[i]?).getD none] r h=.ok more h ->
   LS G X σ' m h H0 pins f fo c' D e1 kS done us H s->(∀us' H' s',LS G X σ' m h H0 pins f fo c' D e1 kS (done++more) us' H' s'->Fin us' s')->jS X.prog X.w A (.ref f) kS Fin rv us s
 |[],_,done,more,us,H,s,.nil,e,l,fin=>by
   unfold eR at e;injection e with e1 _;subst e1;exact fin us H s (by simpa using l)
 |k::r,_,done,more,us,H,s,.cons ⟨t,ev⟩ q,e,l,fin=>by
   subst ev;obtain⟨kv,more',e2,e3,rfl⟩:=y9 e;obtain⟨e0,I⟩:=l.inv;refine cN (IK (pm:=pm) (ctv:=ctv) L I (S.mono l.ext) l.hr (by rw[←hfo];exact .tail _ (.tail _ (.head _))) l.cd hh hA hroom hbind hbody e2) (λu s' hq=>?_) λ_ _ z=>z;obtain⟨v',H',I',x,R',ru,rv⟩:=hq;obtain⟨vs,z1,z2⟩:=l.vals;refine⟨e0,(I'.pin (kS,_) (eN _ (.head _))).1,λhp cc kb ek=>?_⟩;have fp:=K.fp I';have I2:=fp.turned (t':=s'.toks) (h':=hp) (Inv.dropPin I') kb;refine zF L hfo hh hA hroom hbind hbody S K q e3 ⟨⟨cc,Inv.addPin I2 ek fp.un fp.loc fp.fs λv z=>nomatch z⟩,l.ext.trans x,R',⟨vs++[v'],jQ (x.vrs z1) (.cons rv .nil),jQ z2 (.cons ru .nil)⟩,(x.fr c' _ l.cd l.cm λ_ z=>nomatch z).1,l.cm⟩ λus' H'' s'' l'=>fin us' H'' s'' (by simpa using l')
end
theorem IP{kvs:List (Str×MV)}{ws:List (Key×V)}(r:DR G m H kvs ws):ws.map (·.1)=kvs.map λkv=>(Sum.inr kv.1:Key):=by
 induction r with
 |nil=>rfl
 |cons q _ ih=>rw[bz,bz,ih,q.1]
theorem EC{ws:List (Key×V)}{us:List (Key×ai)}(r:KV ws us):us.map (·.1)=ws.map (·.1):=by
 induction r with
 |nil=>rfl
 |cons q _ ih=>rw[bz,bz,ih,q.1]
theorem A9:∀(l:List (Str×MV)),VRs G m H (l.map λkv=>MV.str kv.1) (l.map λkv=>V.str kv.1)
 |[]=>.nil
 |_::l=>.cons rfl (A9 l)
theorem El{k:Nat}{o:aw}{go ke:ME}{params:Arguments}{body:aw}{scope:Scope}{lpos p pos kp:Pos}{nm fv:Str}{i:Nat}{c:af}(hL:vL X.K X.mg G.cl X.env.code)(ho:GE G X o go)(L:pB X scope nm fv i c)(hm:X.mg "sorted"=none)(hr:Room (k+2) X.A)
  (hp1:(lpos.line:Int)=G.cl 998) (hp2:(lpos.col:Int)=G.cl 997) (hbind:∀(fd:bf) (v:ai),fd.params=params->fd.defaults=.none->fd.kwdefaults=.none->bindArgs fd ⟨[v],[]⟩=pure [(nm,v)])
  (hbody:∀(L f:af) (cdv:ai) (s:ak) (H:Hp),Room k (X.A.in1.in1.deeper (envX iN scope L f cdv [(fv,c)]))->GE G (kL X X.A.in1.in1 [nm,fv] s H (envX iN scope L f cdv [(fv,c)])) body ke)
  (hdef:defaultsOf params X.env=([],[]):=by rfl) (hq:X.env.qual++"<lambda>"=iN:=by rfl) (hg:Gl X "sorted":=by rfl) (hs:aV [o] X.env=[(false,aO o X.env)]:=by rfl) :
  GE G X (.Call (.Name "sorted" p) [o] [⟨some "key",.Lambda params body scope lpos,kp⟩] pos) (rC go i ke):=λE EX pins s σ' H Q I ⟨m,h,σ,ex,S,R,P⟩=>by
 have hrb:∀(L f:af) (cdv:ai),Room k (X.A.in1.in1.deeper (envX iN scope L f cdv [(fv,c)])):=λL f cdv=>⟨hr.hd,by have:=hr.dp;show X.A.depth+1+3*k+5<_;lia,by have:=hr.un;show X.A.units+1+1+3+16*k+200<_;lia⟩
 refine wpAny_Call_Name_kw (jD I hg hm boot_sorted ?_ (by decide) (by decide));refine callWith_kw (thn ((ho.a1 hs E EX) pos pins s σ' H (λvs H1=>∃(d:af) (n:Nat) (kvs:List (Str × MV)) (m1:List af) (h1:MH),vs=[V.ref d]/\m1[n]? = some d/\Ext m H m1 H1/\HR G m1 h1 H1/\h1[n]? = some (.dct kvs)/\kvs.length < 64 /\
   Post G X E EX m1 H1 (bnd (eR ke [(σ[i]?).getD none] (kvs.map (·.1))) (λks=>(match fJ gH ks with
    | some rows=>if rows.all hU=true then (match dA rows with
      |some ix=>new (.lst (pick (kvs.map λkv=>.str kv.1) ix))
      | none=>stk) else stk
    | none=>stk)) h1) λv m' _ H'=>∀v',VR G m' H' v v'->Q v' H') I (sub ex S R P λv m1 h1 H1 v' x1 R1 r1 P1=>?_)) λus s1 ⟨vs,H1,I1,r,d,n,kvs,m1,h1,ev,en,x1,R1,eh,h64,P1⟩=>?_) (by rw [hs];rfl) (by rw [hs];rfl) rfl rfl
 ·cases v <;> first|exact P1.elim|skip
  rename_i n;obtain⟨d,ea,rfl⟩:=r1;obtain⟨oa,e1,q1,P2⟩:=cy R1 ea P1;cases oa <;> first|exact P2.elim|skip
  rename_i kvs;dsimp only at P2;split at P2
  ·rename_i h64;exact⟨d,n,kvs,m1,h1,rfl,ea,x1,R1,e1,h64,P2⟩
  ·exact P2.elim
 ·subst ev;obtain⟨u,us',rfl,ru,rr⟩:=vg r;cases rr;obtain rfl:u=Value.ref d:=ru;have I1':Inv X pins σ' H1 s1:=I1.unwish;refine kws_cons (F0 (X:=X) (M:=aD X.prog X.w) (A:=X.A) (E:=E) hL I1' R1 hp1 hp2 L.cls hdef hq λf c' pm ctv H2 s2 I2 x2 R2 hc cm=>kws_nil ?_);show aB (aD X.prog X.w) X.A (call (.builtin "sorted") [.ref d] [(aQ "key",.ref f)]) _ E s2
  obtain⟨ws,dr,ed⟩:=R2.ob n d _ en eh;obtain⟨_,lo,vs2,kv2,dd⟩:=uE I2.hok ed;have hkeys:vs2.map (·.1)=kvs.map λkv=>(Sum.inr kv.1:Key):=(EC kv2).trans (IP dr);have hlen2:vs2.length=kvs.length:=by have:=congrArg i9 hkeys;simpa using this
  obtain⟨od,es,ep,dd⟩:=dd;have da:s2.heap.DictAt (cn X.prog X.w) d vs2 ep:=⟨od,es,dd⟩;refine CH (kdl_dict (knd:=cn X.prog X.w) (kvs:=vs2) (ep:=ep) lo) hr.hd da (by rw[hlen2];exact h64) λvs hp tk D kS e1 hk hit eD eK nD nK hne=>?_;have prd:cf (λk v=>∃t,v=Value.str k t) (kvs.map (·.1)) vs:=by
   refine Bg _ _ (by have:=hit.1;simp only[cE]at this;simp[this,hlen2]) λj kk v ek ev=>?_;obtain⟨k2,xx,g1,g2⟩:=hit.2 j v (by simpa using ev);have g3:(vs2.map (·.1))[j]?=some k2:=by rw[bj,g1];rfl
   rw[hkeys,bj]at g3;rw[bj]at ek;cases e0:kvs[j]? with
   |none=>rw[e0]at ek;cases ek
   |some kv=>
     rw[e0]at ek g3;cases ek;cases g3;exact lu g2
  have fD:H2 D=none:=HOk.none I2.hok nD;have fK:H2 kS=none:=HOk.none I2.hok nK;have FD:Fp X _ H2 D:=Fp.of I2 nD fD;have FK:Fp X _ H2 kS:=Fp.of I2 nK fK;have I3:Inv X _ σ' H2 { s2 with heap:=hp,toks:=tk }:=I2.kept hk;have I4:=Inv.addPin (Inv.addPin I3 eD fD FD.loc FD.fs λv z=>nomatch z) eK fK FK.loc FK.fs λv z=>nomatch z;have KK:KSt X ((D,seqObj "list" #[] e1)::(f,jg params body scope [(fv,c)] pm c' ctv)::pins) kS:=⟨FK.new,λx c e=>FK.ce x c e,λp hp=>by
   rcases fu.mp hp with z|z
   ·exact FK.pin p (mv _ z)
   ·rcases bK.mp z with y|y
    ·subst y;exact hne
    ·exact FK.pin p (eN _ y)⟩
  cases ek:eR ke [(σ[i]?).getD none] (kvs.map (·.1)) h1 with
  |exc c2 hE=>exact absurd ek yg
  |stuck=>unfold bnd at P1;rw[ek]at P1;exact P1.elim
  |ok more hE=>
    obtain rfl:=AW ek;unfold bnd at P1;rw[ek]at P1;dsimp only at P1;cases er:fJ gH more with
    |none=>rw[er]at P1;exact P1.elim
    |some rows=>
      rw[er]at P1;dsimp only at P1;split at P1
      case isFalse=>exact P1.elim
      case isTrue hall=>
      cases es2:dA rows with
      |none=>rw[es2]at P1;exact P1.elim
      |some ix=>
        rw[es2]at P1;refine zF (A:=X.A.in1.in1) (done:=[]) (us:=[]) L rfl hr.hd rfl (by show X.A.depth<_;exact hr.depth) hbind (λL f cdv s H=>hbody L f cdv s H (hrb L f cdv)) (S.mono (x1.trans x2)) KK prd ek ⟨⟨0,I4⟩,.refl,R2,⟨[],.nil,.nil⟩,hc,cm⟩ λus' H' s' l=>?_;obtain⟨e0,I5⟩:=l.inv;obtain⟨vsk,z1,z2⟩:=l.vals;have gK:=I5.pin (kS,_) (eN _ (.head _));have gD:=I5.pin (D,_) (eN _ (.tail _ (.head _)));refine⟨e0,ix,gK.1,gD.1,Ne.symm hne,xV I5.hok (rY (λ_ _ _=>tX) er (by simpa using z1)) z2 hall es2,λh2 cc kb _ hln eD2=>?_⟩;have I6:=Inv.dropPin (Inv.dropPin I5);have FD':Fp X ((f,jg params body scope [(fv,c)] pm c' ctv)::pins) H' D:=⟨gD.2.1,FD.loc,FD.fs,FD.new,FD.ce,FD.pin⟩;have FK':Fp X ((f,jg params body scope [(fv,c)] pm c' ctv)::pins) H' kS:=⟨gK.2.1,FK.loc,FK.fs,FK.new,FK.ce,FK.pin⟩;have I7:Inv X _ σ' H' { s' with heap:=h2 }:=Fp.turnedL (bs:=[D,kS]) (t':=s'.toks) (λb hb=>by
         rcases bK.mp hb with z|z
         ·subst z;exact FD'
         ·rw [cT.mp z];exact FK') I6 λb o hb e=>kb b o (λz=>hb (by simp [z])) (λz=>hb (by simp [z])) e
        have vv:Vals (kvs.map λkv=>V.str kv.1) vs:=by
         have:∀{l:List (Str×MV)}{us:List ai},cf (λk v=>∃t,v=Value.str k t) (l.map (·.1)) us->Vals (l.map λkv=>V.str kv.1) us:=by
          intro l
          induction l with
          |nil=>intro us q;cases q;exact .nil
          |cons a l ih=>intro us q;cases q with|cons q1 q2=>exact .cons q1 (ih q2)
         exact this prd
        have vr:VRs G m1 H' (kvs.map λkv=>MV.str kv.1) (kvs.map λkv=>V.str kv.1):=A9 kvs;have I8:=Inv.trackO (v:=.lst (jl (kvs.map λkv=>V.str kv.1) ix)) I7 FD' ⟨by
         have:(jl (kvs.map λkv=>V.str kv.1) ix).length=vs.length:=by rw[←hln];simp[jl,picked]
         rw [this,←vv.length,bS];exact small (by lia),_,cc,uq vv ix,eD2⟩
        exact⟨.ref D,_,(Inv.dropPin I8).wish E,rfl,jR l.hr (rS vr ix) (P1.ext (x2.trans l.ext)) gD.2.1⟩
end L2.Rv
namespace L2.Rv
open PySem PySem.Spec PyProof.Rows
variable {G:Gb}{m m' m1 m2:List af}{h h' h1 h2:MH}{H H' H1 H2:Hp}{X:Cx}{E:ai->ak->Prop}{EX:St->Prop}{σ:MSt}{σ':St}
theorem jY{pos:Pos}:GE G X (.Dict [] [] pos) iy:=λE EX=>eB Cv λσ' H Q e0=>b8 e0 λm h σ ex S R P=>λp hp=>by
 have x:=Ext.new (u:=.dK []) R hp;refine P (m++[p]) (upd H p (.dK [])) x (R.new hp ⟨[],.nil,dw⟩) (.ref p) ⟨p,?_,rfl⟩;rw[←R.len];simp
theorem At{xs:List MV}{vs:List V}{lo hi:Option Int}(r:VRs G m H xs vs):VRs G m H (fV xs lo hi) (j7 vs lo hi):=by
 have hl:=Paired.length r;have e:∀(n d:Nat) (o:Option Int),HT.sIx n d o=dF n d o:=λn d o=>by
  unfold HT.sIx dF;cases o with
  |none=>rfl
  |some v=>rfl
 unfold fV j7;rw[e,e,hl];have dr:∀(k:Nat) {xs:List MV} {vs:List V},VRs G m H xs vs->VRs G m H (xs.drop k) (vs.drop k):=by
  intro k
  induction k with
  |zero=>intro xs vs q;exact q
  |succ k ih=>intro xs vs q;cases q with
    |nil=>exact .nil
    |cons q1 q2=>exact ih q2
 have tk:∀(k:Nat) {xs:List MV} {vs:List V},VRs G m H xs vs->VRs G m H (xs.take k) (vs.take k):=by
  intro k
  induction k with
  |zero=>intro xs vs q;exact .nil
  |succ k ih=>intro xs vs q;cases q with
    |nil=>exact .nil
    |cons q1 q2=>exact .cons q1 (ih q2)
 exact tk _ (dr _ r)
def w8:V->Option Int->Option Int->Hp->VK->Prop:=λx lo hi H Q=>∃y:Str,x=.str y/\y.length≤bh/\Q (.str (Txt.slice y lo hi)) H
theorem Ey:SlR X w8:=by
 rintro pins s σ H x v vl vu lo hi sl Q I rx hs pl pu ⟨y,e,hz,q⟩;subst e;obtain⟨t,rfl⟩:=rx;obtain⟨l,el,ml⟩:∃l:Option (Int×Tok),vl=partValue l/\l.map (·.1)=lo:=by
  cases pl with
  |none=>exact⟨none,rfl,rfl⟩
  |int i t=>exact⟨some (i,t),rfl,rfl⟩
 obtain⟨u,eu,mu⟩:∃l:Option (Int×Tok),vu=partValue l/\l.map (·.1)=hi:=by
  cases pu with
  |none=>exact⟨none,rfl,rfl⟩
  |int i t=>exact⟨some (i,t),rfl,rfl⟩
 subst el;subst eu;subst ml;subst mu;refine⟨"str",_,PySem.F.slot_str_getitem.lookup,typeIs_str _ _ _,wpAny_getItem_str_slice (l:=l) (u:=u) (st:=none) (by obtain⟨o,a1,a2,a3⟩:=hs;exact⟨o,a1,a2,a3⟩) rfl ?_⟩;exact post_val_or_str ⟨cL (Txt.slice_le y _ _) hz,λt' k=>⟨.str _,H,I.tok _,⟨_,rfl⟩,q⟩⟩
def tGo(G:Gb)(X:Cx)(E:ai->ak->Prop)(EX:St->Prop):Option ME->TO
 |none=>BB
 |some g=>A6 (TGe G X E EX g)
def GO(G:Gb)(X:Cx):Option aw->Option ME->Prop
 |none,none=>True
 |some e,some g=>GE G X e g
 |_,_=>False
theorem Bo{e:Option aw}{ge:Option ME}(he:GO G X e ge):PO (X.wish E) e (tGo G X E EX ge):=by
 cases e with
 |none=>cases ge with
   |none=>exact D2
   |some _=>exact he.elim
 |some e=>cases ge with
   |none=>exact he.elim
   |some g=>exact DX (he E EX)
theorem xq{β:Type}{ge:Option ME}{k:Option Int->M β}{Q:β->List af->MH->Hp->Prop}(ex:EX σ')(S:SR G m H σ σ')(R:HR G m h H)(P:Post G X E EX m H (bnd (part ge σ) k h) Q){Rr:Option Int->Hp->Prop}
  (hk:∀v m1 h1 H1,Ext m H m1 H1->HR G m1 h1 H1->Post G X E EX m1 H1 (k v h1) Q->Rr v H1):tGo G X E EX ge σ' H Rr:=by
 cases ge with
 |none=>exact hk none m h H .refl R P
 |some g=>
   have P':Post G X E EX m H (bnd (bnd (g σ) λv=>match v with
    |.int i=>ret (some i)
    | _=>stk) k h) Q:=P
   rw[kH]at P';refine sub ex S R P' λv m1 h1 H1 v' x1 R1 r1 P1=>?_;cases v with
   |int i=>cases(show v'=V.int i from r1);exact⟨i,rfl,hk (some i) m1 h1 H1 x1 R1 P1⟩
   |_=>exact P1.elim
def Hg(K:PySem.W.Frag):V->Option Int->Option Int->Hp->VK->Prop:=λx lo hi H Q=>yD K x lo hi H Q∨(w5 K x lo hi H Q∨w8 x lo hi H Q)
theorem yK(n d:Nat)(o:Option Int):HT.sIx n d o=dF n d o:=by
 unfold HT.sIx dF;cases o <;> rfl
theorem jV{a:aw}{lo hi:Option aw}{ga:ME}{gl gh:Option ME}{pos p2:Pos}(ha:GE G X a ga)(hl:GO G X lo gl)(hh:GO G X hi gh)(hK:X.K=G.K:=by rfl) :
  GE G X (.Subscript a (.Slice lo hi none p2) pos) (eSl ga gl gh):=λE EX=>eB (Hd (X:=X.wish E) (r:=Hg X.K) (Gx.or (G2.or Ey)) (ha E EX) (Bo (EX:=EX) hl) (Bo (EX:=EX) hh)) λσ' H Q e0=>b8 e0 λm h σ ex S R P=>
 sub ex S R P λv m1 h1 H1 v' x1 R1 r1 P1=>xq ex (S.mono x1) R1 P1 λl m2 h2 H2 x2 R2 P2=>xq ex ((S.mono x1).mono x2) R2 P2 λu m3 h3 H3 x3 R3 P3=>by
  have r3:=x3.vr (x2.vr r1);rw[hK];cases v with
  |ref n=>
    obtain⟨aa,ea,rfl⟩:=r3;obtain⟨ob,eo,qo,P4⟩:=cy R3 ea P3;cases ob with
    |lst xs=>
      obtain⟨vs,rr,z⟩:=qo;exact .inl ⟨aa,vs,rfl,SqL.of z,λp hp=>jR R3 (At rr) P4 hp⟩
    |_=>exact P4.elim
  |tup xs=>
    obtain⟨aa,vs,rfl,na,z,rr⟩:=r3;have rr':=rr.to;have hlen:=Paired.length rr';unfold iw at P3;dsimp only at P3;split at P3
    ·exact P3.elim
    ·rename_i hw;refine .inr (.inl ⟨aa,vs,rfl,.inl (.inl z),?_,λp hp=>wX R3 (At rr') P3 hp⟩);rw[yK,yK,←hlen];exact hw
  |str y=>
    cases(show v'=V.str y from r3);unfold iw at P3;dsimp only at P3
    split at P3
    ·rename_i hz;exact .inr (.inr ⟨y,rfl,big hz,Post.here R3 P3 _ rfl⟩)
    ·exact P3.elim
  |_=>exact P3.elim
theorem kX{o e f:aw}{go gk gx:ME}{apos cpos:Pos}(hu:X.A.units+1<cLine)(ho:GE G X o go)(he:GE G X e gk)(hf:GE G X f gx)(mm:M2 X o "get" apos e f cpos:=by exact⟨rfl,rfl,rfl,rfl⟩) :
  GE G X (.Call (.Attribute o "get" apos) [e,f] [] cpos) (iE go gk gx):=λE EX=>eB (D1 (X:=X.wish E) hu (ho E EX) (he E EX) (hf E EX) ⟨mm.base,mm.few,mm.line,mm.trees⟩) λσ' H Q e0=>b8 e0 λm h σ ex S R P=>
 sub ex S R P λv m1 h1 H1 v' x1 R1 r1 P1=>by
  cases v with
  |ref n=>
    obtain⟨aa,ea,rfl⟩:=r1;obtain⟨ob,eo,qo,P2⟩:=cy R1 ea P1;cases ob with
    |dct kvs=>
      obtain⟨ws,rr,z⟩:=qo;refine⟨aa,rfl,.inl ⟨ws,.inl z⟩,sub ex (S.mono x1) R1 P2 λy m2 h2 H2 y' x2 R2 r2 P3=>sub ex ((S.mono x1).mono x2) R2 P3 λw m3 h3 H3 w' x3 R3 r3 P4=>?_⟩;cases y with
      |str k=>
        cases(show y'=V.str k from r2);have ea3:=x3.get (x2.get ea);obtain⟨ob3,eo3,qo3,P5⟩:=cy R3 ea3 P4;cases ob3 with
        |dct kvs3=>
          obtain⟨ws3,rr3,z3⟩:=qo3;refine⟨fW ws3 (Sum.inr k),.inl ⟨ws3,Sum.inr k,.inl z3,rfl,rfl⟩,?_⟩;dsimp only at P5;obtain⟨d1,d2⟩:=mY (k:=k) rr3;cases ed:dget k kvs3 with
          |some v0=>
            obtain⟨v0',e1,e2⟩:=d1 v0 ed;rw[e1];rw[ed]at P5;exact Post.here R3 P5 _ e2
          |none=>
            rw[d2 ed];rw[ed]at P5;exact Post.here R3 P5 _ r3
        |_=>exact P5.elim
      |_=>exact P4.elim
    |_=>exact P2.elim
  |_=>exact P1.elim
theorem AI:∀{xs:List MV}{ss:List Str}{vs:List V},jo xs=some ss->VRs G m H xs vs->vs=ss.map V.str
 |[],ss,vs,e,q=>by cases e;cases q;rfl
 |x::xs,ss,vs,e,q=>by
   cases x <;> first|cases e|skip
   rename_i y;cases er:jo xs with
   |none=>simp[jo,er]at e
   |some ks=>
     simp only[jo,er,Option.some.injEq]at e;subst e;cases q with
     |@cons _ v' _ vs' q1 q2=>rw[show v'=V.str y from q1,AI er q2];rfl
theorem yL:∀{ss:List Str}{us:List ai},Vals (ss.map V.str) us->StrsAre us ss
 |[],_,.nil=>.nil
 |y::ss,_,.cons q t=>by
   obtain⟨t0,rfl⟩:=(show ∃t,_=Value.str y t from q);exact .cons y t0 (yL t)
def Gv:V->List V->Hp->VK->Prop:=λx vs H Q=>∃(sep:Str) (l:af) (ss:List Str),x=.str sep/\vs=[.ref l]/\H l=some (.lst (ss.map V.str))/\sep.length≤16/\(ss.map (·.length)).sum+ss.length≤1048576/\Q (.str (Txt.join sep ss)) H
theorem GK:MtR X "str.join" Gv:=by
 rintro pins s σ H x vs v us Q I rx rv ⟨sep,l,ss,e1,e2,el,h1,h2,q⟩;subst e1;subst e2;obtain⟨t,rfl⟩:=rx;obtain⟨u,rfl,ru⟩:=rv.one;obtain rfl:u=Value.ref l:=ru;obtain⟨z,its,n,r,hl,e⟩:=I.lstM el;exact join_listW (items:=its.toArray) ⟨_,e,rfl,n,rfl⟩ (by simpa using yL r) h1 h2 λt' k=>⟨.str _,H,I.tok _,⟨_,rfl⟩,q⟩
theorem HY{o e:aw}{go ge:ME}{apos cpos:Pos}(ho:GE G X o go)(he:GE G X e ge)(hbase:attributeBase o (aQ "join") X.env (aO o X.env)=aO o X.env:=by rfl)
  (hfew:((backTo cpos (aV [e] X.env)).all (λx=>!x.1) && (backToKw cpos (keywordEach [] X.env)).all (λx=>x.1.isSome)
   && decide ([e].length + ([]:List Keyword).length + (if ([]:List Keyword).isEmpty then 0 else 1) < 30))=true:=by rfl)
  (hline:(apos.endLine == cpos.line)=true:=by rfl) (hs:aV [e] X.env=[(false,aO e X.env)]:=by rfl):GE G X (.Call (.Attribute o (aQ "join") apos) [e] [] cpos) (sE go ge):=λE EX=>
 eB (ze (X:=X.wish E) PySem.F.plainAttrs_str PySem.F.slot_str_join PySem.F.type_str_join GK (ho E EX) (he.a1 hs E EX) hbase hfew hline hs rfl) λσ' H Q e0=>b8 e0 λm h σ ex S R P=>
  sub ex S R P λv m1 h1 H1 v' x1 R1 r1 P1=>by
   cases v with
   |str sep=>
     cases(show v'=V.str sep from r1);refine⟨rfl,sub ex (S.mono x1) R1 P1 λw m2 h2 H2 w' x2 R2 r2 P2=>?_⟩;cases w with
     |ref n=>
       obtain⟨aa,ea,rfl⟩:=r2;obtain⟨ob,eo,qo,P3⟩:=cy R2 ea P2;cases ob with
       |lst xs=>
         obtain⟨vs,rr,z⟩:=qo;dsimp only at P3;cases es:jo xs with
         |none=>rw[es]at P3;exact P3.elim
         |some ss=>
           rw[es]at P3;dsimp only at P3;split at P3
           ·rename_i hz;have:=AI es rr;subst this;exact⟨sep,aa,ss,rfl,rfl,z,hz.1,cL hz.2 (by decide),Post.here R2 P3 _ rfl⟩
           ·exact P3.elim
       |_=>exact P3.elim
     |_=>exact P2.elim
   |_=>exact P1.elim
inductive GF(G:Gb)(X:Cx):aw->FP->Prop where
 |lit {x:Str} {j:Nat} {pos:Pos}:GF G X (.Constant (.str x) j pos) (.lit x)
 |pl {e:aw} {g:ME} {pos:Pos} (he:GE G X e g):GF G X (.FormattedValue e (-1) none pos) (.pl g)
 |rp {e:aw} {g:ME} {pos:Pos} (he:GE G X e g):GF G X (.FormattedValue e 114 none pos) (.rp g)
theorem EJ{e:aw}{es:List aw}{env:Env}:evalEach (e::es) env=aO e env::evalEach es env:=rfl
theorem CQ{e:aw}{p:FP}{β:Type}{k:Option Str->M β}{Q:β->List af->MH->Hp->Prop}(g:GF G X e p){pins:List (af×aE)}{s:ak}(I:Inv (X.wish E) pins σ' H s)(ex:EX σ')(S:SR G m H σ σ')(R:HR G m h H)(P:Post G X E EX m H (bnd (jm p σ) k h) Q)
  {W:ai->ak->Prop} (hk:∀(o:Option Str) (y:Str) (t:Tok) m1 h1 H1 s1,Ext m H m1 H1->HR G m1 h1 H1->Inv (X.wish E) pins σ' H1 s1->(∀z,o=some z->y=z)->y.length≤10002->Post G X E EX m1 H1 (k o h1) Q->W (.str y t) s1) :
  aB (aD X.prog X.w) X.A (aO e X.env) W E s:=by
 cases g with
 |@lit x j pos=>
   have P':Post G X E EX m H (bnd (if x.length≤1000 then ret (some x) else stk) k h) Q:=P;split at P'
   ·rename_i hz;refine thn (wW (X:=X.wish E) (x:=x) (j:=j) (pos:=pos) pins s σ' H (λv H1=>v=.str x/\H1=H) I ⟨rfl,rfl⟩) λu s1 ⟨v,H1,I1,r,e1,e2⟩=>?_;subst e1;subst e2;obtain⟨t,rfl⟩:=r;exact hk (some x) x t m h H1 s1 .refl R I1 (λz e=>by injection e) (by lia) P'
   ·exact P'.elim
 |@pl e g pos he=>
   refine wpAny_FormattedValue_plain (thn (he E EX pins s σ' H (λv' H1=>∃v m1 h1,Ext m H m1 H1/\HR G m1 h1 H1/\VR G m1 H1 v v'/\Post G X E EX m1 H1 (bnd ((λv=>match v with
     |.str s=>if s.length≤10000 then ret (some s) else stk
     |.int i=>if i.natAbs.log2<100 then ret (some (aQ (toString i))) else stk
     | _=>stk:MV->M (Option Str)) v) k h1) Q) I (sub ex S R (k:=λv=>bnd ((λv=>match v with
     |.str s=>if s.length≤10000 then ret (some s) else stk
     |.int i=>if i.natAbs.log2<100 then ret (some (aQ (toString i))) else stk
     | _=>stk:MV->M (Option Str)) v) k) (by
       have P':Post G X E EX m H (bnd (bnd (g σ) (λv=>match v with
        |.str s=>if s.length≤10000 then ret (some s) else stk
        |.int i=>if i.natAbs.log2<100 then ret (some (aQ (toString i))) else stk
        | _=>stk:MV->M (Option Str))) k h) Q:=P
       rw [kH] at P';exact P') λv m1 h1 H1 v' x1 R1 r1 P1=>⟨v,m1,h1,x1,R1,r1,P1⟩)) λu s1 ⟨v',H1,I1,ru,v,m1,h1,x1,R1,r1,P1⟩=>?_)
   cases v with
   |str y=>
     cases(show v'=V.str y from r1);obtain⟨t,rfl⟩:=ru;dsimp only at P1
     split at P1
     ·rename_i hz;exact formatField_str (λt' tk=>hk (some y) y t' m1 h1 H1 _ x1 R1 (I1.tok _) (λz e=>by injection e) (by lia) P1) (cL hz (by decide))
     ·exact P1.elim
   |int i=>
     cases(show v'=V.int i from r1);obtain⟨t,rfl⟩:=ru;dsimp only at P1
     split at P1
     ·rename_i hz;refine wpAny_formatField_int (by lia) ?_;refine hk (some (aQ (toString i))) _ _ m1 h1 H1 _ x1 R1 (I1.tok _) (λz e=>by injection e) ?_ P1;have:=int_text_len_1921 (i:=i) (by lia)
      lia
     ·exact P1.elim
   |_=>exact P1.elim
 |@rp e g pos he=>
   refine wpAny_FormattedValue_repr (thn (he E EX pins s σ' H (λv' H1=>∃v m1 h1,Ext m H m1 H1/\HR G m1 h1 H1/\VR G m1 H1 v v'/\Post G X E EX m1 H1 (bnd ((λv=>match v with
     |.str s=>if md s=true then ret none else stk
     | _=>stk:MV->M (Option Str)) v) k h1) Q) I (sub ex S R (k:=λv=>bnd ((λv=>match v with
     |.str s=>if md s=true then ret none else stk
     | _=>stk:MV->M (Option Str)) v) k) (by
       have P':Post G X E EX m H (bnd (bnd (g σ) (λv=>match v with
        |.str s=>if md s=true then ret none else stk
        | _=>stk:MV->M (Option Str))) k h) Q:=P
       rw [kH] at P';exact P') λv m1 h1 H1 v' x1 R1 r1 P1=>⟨v,m1,h1,x1,R1,r1,P1⟩)) λu s1 ⟨v',H1,I1,ru,v,m1,h1,x1,R1,r1,P1⟩=>?_)
   cases v with
   |str y=>
     cases(show v'=V.str y from r1);obtain⟨t,rfl⟩:=ru;dsimp only at P1
     split at P1
     ·rename_i hz;unfold md at hz;rw[ip,decide_eq_true_eq,vQ]at hz;have hl:=PySem.StrLaws.reprText_len y (λc hc=>by simpa using hz.2 c hc);refine pyReprObj_str ?_ (cL (show(reprText y).length≤10002 by lia) (by decide));exact formatField_str (λt' tk=>hk none (reprText y) t' m1 h1 H1 _ x1 R1 (I1.tok _) (λz e=>nomatch e) (by lia) P1) (cL (show(reprText y).length≤10002 by lia) (by decide))
     ·exact P1.elim
   |_=>exact P1.elim
theorem wS{pins:List (af×aE)}{W:Str->ak->Prop}:∀{es:List aw}{ps:List FP},cf (GF G X) es ps->∀{β:Type}{k:List (Option Str)->M β}{Q:β->List af->MH->Hp->Prop}{s:ak}{m:List af}{h:MH}{H:Hp} (acc:Str) (n:Nat) (oa:Option Str),
  Inv (X.wish E) pins σ' H s->EX σ'->SR G m H σ σ'->HR G m h H->Post G X E EX m H (bnd (gY ps σ) k h) Q->acc.length≤10002*n->n+ps.length≤100->(∀z,oa=some z->acc=z) ->
  (∀(xs:List (Option Str)) (out:Str) m1 h1 H1 s1,Ext m H m1 H1->HR G m1 h1 H1->Inv (X.wish E) pins σ' H1 s1->(∀z a,oa=some a->jH a xs=some z->out=z)->out.length≤bh->Post G X E EX m1 H1 (k xs h1) Q->W out s1) ->
  Joins (aD X.prog X.w) X.A E (evalEach es X.env) acc W s
 |_,_,.nil,β,k,Q,s,m,h,H,acc,n,oa,I,ex,S,R,P,hl,hn,ho,hk=>by
   refine hk [] acc m h H s .refl R I (λz a e1 e2=>?_) (cL hl (cL (Nat.mul_le_mul_left _ (show n≤100 by simp at hn;lia)) (by decide))) P;have:=ho a e1;simp only[jH,Option.some.injEq]at e2;rw[this,e2]
 |_,_,.cons (a:=e) (b:=p) (l₁:=es) (l₂:=ps) g tt,β,k,Q,s,m,h,H,acc,n,oa,I,ex,S,R,P,hl,hn,ho,hk=>by
   rw[EJ];have P':Post G X E EX m H (bnd (jm p σ) (λx=>bnd (gY ps σ) λxs=>k (x::xs)) h) Q:=by
    have P0:Post G X E EX m H (bnd (bnd (jm p σ) λx=>bnd (gY ps σ) λxs=>ret (x::xs)) k h) Q:=P;rw[kH]at P0;have e0:(λx=>bnd (bnd (gY ps σ) λxs=>ret (x::xs)) k)=λx=>bnd (gY ps σ) λxs=>k (x::xs):=by
     funext x;rw[kH];rfl
    rw[e0]at P0;exact P0
   refine CQ g I ex S R P' λo y t m1 h1 H1 s1 x1 R1 I1 ho1 hy P1=>?_;have hla:(acc++y).length≤10002*(n+1):=by rw[strLen_append];lia
   refine⟨y,t,rfl,cL hla (cL (Nat.mul_le_mul_left _ (show n+1≤100 by simp at hn;lia)) (by decide)),?_⟩;refine wS tt (acc++y) (n+1) (match oa,o with|some a,some z=>some (a++z)|_,_=>none) I1 ex (S.mono x1) R1 P1 hla (by simp at hn;lia) (λz e=>?_) λxs out m2 h2 H2 s2 x2 R2 I2 hg hz P2=>?_
   ·cases oa with
    |none=>cases e
    |some a=>cases o with
      |none=>cases e
      |some z0=>injection e with e;rw[←e,ho a rfl,ho1 z0 rfl]
   ·refine hk (o::xs) out m2 h2 H2 s2 (x1.trans x2) R2 I2 (λz a e1 e2=>?_) hz P2;subst e1;cases o with
    |none=>simp[jH]at e2
    |some z0=>exact hg z (a++z0) rfl (by simpa[jH] using e2)
theorem qS{e1 e2:aw}{es:List aw}{ps:List FP}{pos:Pos}(hp:cf (GF G X) (e1::e2::es) ps):GE G X (.JoinedStr (e1::e2::es) pos) (jT ps):=λE EX pins s σ' H Q I e0=>b8 e0 λm h σ ex S R P=>by
 unfold jT at P;split at P
 ·rename_i hn;refine wpAny_JoinedStr (wS hp Str.empty 0 (some Str.empty) I ex S R P (by decide) (by lia) (λz e=>by injection e) λxs out m1 h1 H1 s1 x1 R1 I1 hg hz P1=>⟨hz,.str out,H1,I1.tok _,⟨_,rfl⟩,?_⟩);cases eg:jH Str.empty xs with
  |some z=>
    rw[eg]at P1;rw[hg z _ rfl eg];exact Post.here R1 P1 _ rfl
  |none=>
    rw[eg]at P1;exact Post.here R1 P1 _ trivial
 ·exact P.elim
end L2.Rv
namespace L2.Rv
noncomputable section
open PySem (Str)
noncomputable def ow(o:ME):ME:=λσ=>bnd (o σ) λx=>match x with
 |.ref n=>bnd (look n) λob=>match ob with
   |.lst _=>bnd (put n (.lst [])) λ_=>ret .non
   |_=>stk
 |_=>stk
end
end L2.Rv
namespace L2.Rv
open PySem PySem.Spec PyProof.Rows
variable {G:Gb}{m m' m1 m2:List af}{h h' h1 h2:MH}{H H' H1 H2:Hp}{X:Cx}{E:ai->ak->Prop}{EX:St->Prop}{σ:MSt}{σ':St}
section
open PySem.SeqAt PySem.MeetsSeq
open PySem.AutoSeq1 (wpAny_loadPart')
end
section
variable {o e f:aw}{go ge gf:ME}{apos cpos:Pos}
theorem BZ(ho:GE G X o go)(hbase:attributeBase o (aQ "clear") X.env (aO o X.env)=aO o X.env:=by rfl)(hline:(apos.endLine == cpos.line)=true:=by rfl):GE G X (.Call (.Attribute o (aQ "clear") apos) [] [] cpos) (ow go):=λE EX=>
 eB (Je (X:=X.wish E) PySem.F.plainAttrs_list PySem.F.slot_list_clear PySem.F.type_list_clear Iw (ho E EX) hbase hline) λσ' H Q e0=>b8 e0 λm h σ ex S R P=>
  sub ex S R P λv m1 h1 H1 v' x1 R1 r1 P1=>by
   cases v with
   |ref n=>
     obtain⟨aa,ea,rfl⟩:=r1;obtain⟨ob,eo,qo,P2⟩:=cy R1 ea P1;cases ob with
     |lst xs=>
       obtain⟨vs,rr,z⟩:=qo;have P3:=oq R1 ea P2;have x3:Ext m1 H1 m1 (upd H1 aa (.lst [])):=Ext.upd ea z;exact⟨.inl ⟨rfl,vs,SqL.of z⟩,aa,vs,rfl,rfl,z,P3 _ _ x3 (R1.upd ea (λo' yy zz=>by rw[z]at zz;cases zz) ⟨_,.nil,dw⟩) _ rfl⟩
     |_=>exact P2.elim
   |_=>exact P1.elim
end
def VO2(G:Gb)(f:Op2)(r:List V->Hp->VK->Prop):Prop:=∀(X:Cx) (E:ai->ak->Prop) (EX:St->Prop) (m:List af) (h:MH) (H:Hp) (x y:MV) (x' y':V) (Q:VK),HR G m h H->VR G m H x x'->VR G m H y y' ->
 Post G X E EX m H (f x y h) (λv m' _ H'=>∀v',VR G m' H' v v'->Q v' H')->r [x',y'] H Q
section
variable {a b:aw}{ga gb:ME}{x:Str}{p pos:Pos}{id:String}{f:Op2}{r:List V->Hp->VK->Prop}
theorem r8(hc:∀E,eO (X.wish E) (.builtin id) r)(vo:VO2 G f r)(ha:GE G X a ga)(hb:GE G X b gb)(hm:X.mg x=none)(hv:bootBuiltins x=some (.builtin id))(hg:Gl X x:=by rfl)(hn:x≠"__name__":=by decide)(hdb:(x == ("__debug__":Str))=false:=by decide)
  (hs:aV [a,b] X.env=[(false,aO a X.env),(false,aO b X.env)]:=by rfl) (hs2:aV [b] X.env=[(false,aO b X.env)]:=by rfl):GE G X (.Call (.Name x p) [a,b] [] pos) (aj f ga gb):=λE EX=>
 eB (vn (X:=X.wish E) (hc E) hg hm hv (i7 (X:=X.wish E) (ha E EX) (hb.a1 hs2 E EX) (by show aV [a,b] X.env=(false,aO a X.env)::aV [b] X.env;rw[hs,hs2])) hn hdb (by show aV [a,b] X.env=(false,aO a X.env)::aV [b] X.env;rw[hs,hs2]) (by show(backTo pos (aV [b] X.env)).any (·.1)=false;rw[hs2];rfl)) λσ' H Q e0=>b8 e0 λm h σ ex S R P=>
  sub ex S R P λv m1 h1 H1 v' x1 R1 r1 P1=>sub ex (S.mono x1) R1 P1 λw m2 h2 H2 w' x2 R2 r2 P2=>vo _ _ _ _ _ _ _ _ _ _ _ R2 (x2.vr r1) r2 P2
end
def Bp:List V->Hp->VK->Prop:=λxs H Q=>∃i j,xs=[.int i,.int j]/\Q (.int (if j<i then j else i)) H
def xB:List V->Hp->VK->Prop:=λxs H Q=>∃i j,xs=[.int i,.int j]/\Q (.int (if i<j then j else i)) H
theorem Bu(hd:X.A.handled=none):eO X (.builtin "min") Bp:=by
 rintro pins s σ H xs us Q I r ⟨i,j,e,q⟩;subst e;obtain⟨u,w',rfl,⟨t,rfl⟩,⟨t',rfl⟩⟩:=vals2 r;refine min_two_ints hd λh' tk k=>⟨_,H,I.kept k,?_,q⟩
 by_cases hj:j<i
 ·rw[if_pos hj,if_pos hj];exact⟨_,rfl⟩
 ·rw[if_neg hj,if_neg hj];exact⟨_,rfl⟩
theorem A0(hd:X.A.handled=none):eO X (.builtin "max") xB:=by
 rintro pins s σ H xs us Q I r ⟨i,j,e,q⟩;subst e;obtain⟨u,w',rfl,⟨t,rfl⟩,⟨t',rfl⟩⟩:=vals2 r;refine max_two_ints hd λh' tk k=>⟨_,H,I.kept k,?_,q⟩
 by_cases hj:j>i
 ·rw[if_pos hj,if_pos hj];exact⟨_,rfl⟩
 ·rw[if_neg hj,if_neg hj];exact⟨_,rfl⟩
theorem By:VO2 G pI Bp:=by
 intro X E EX m h H x y x' y' Q R rx ry P;cases x with
 |int i=>cases y with
   |int j=>
     cases(show x'=V.int i from rx);cases(show y'=V.int j from ry);exact⟨i,j,rfl,Post.here R P _ rfl⟩
   |_=>exact P.elim
 |_=>exact P.elim
theorem A5:VO2 G qX xB:=by
 intro X E EX m h H x y x' y' Q R rx ry P;cases x with
 |int i=>cases y with
   |int j=>
     cases(show x'=V.int i from rx);cases(show y'=V.int j from ry);exact⟨i,j,rfl,Post.here R P _ rfl⟩
   |_=>exact P.elim
 |_=>exact P.elim
theorem wY:∀{xs:List MV}{is:List Int}{vs:List V},ja xs=some is->VRs G m H xs vs->vs=is.map V.int
 |[],is,vs,e,q=>by cases e;cases q;rfl
 |x::xs,is,vs,e,q=>by
   cases x <;> first|cases e|skip
   rename_i y;cases er:ja xs with
   |none=>simp[ja,er]at e
   |some ks=>
     simp only[ja,er,Option.some.injEq]at e;subst e;cases q with
     |@cons _ v' _ vs' q1 q2=>rw[show v'=V.int y from q1,wY er q2];rfl
theorem yT:∀{is:List Int}{us:List ai},Vals (is.map V.int) us->∃xs:List (Int×Tok),us.toArray=intItems xs.toArray/\xs.map (·.1)=is
 |[],_,.nil=>⟨[],by simp[intItems],rfl⟩
 |i::is,_,.cons q t=>by
   obtain⟨t0,rfl⟩:=(show ∃t,_=Value.int i t from q);obtain⟨xs,e1,e2⟩:=yT t;refine⟨(i,t0)::xs,?_,by simp[e2]⟩;have e3:∀(l:List ai),(Value.int i t0::l).toArray=#[Value.int i t0]++l.toArray:=λl=>by simp
   rw[e3,e1];simp[intItems]
theorem Ag{f:Nat->Int}:∀(k:Nat),f (argBest (λi j=>decide (f i<f j)) k)=di (f 0) ((ci k).map λi=>f (i+1))
 |0=>rfl
 |k+1=>by
   have app:∀(l:List Int) (a b:Int),di a (l++[b])=if b<di a l then b else di a l:=by
    intro l
    induction l with
    |nil=>intro a b;rfl
    |cons c l ih=>intro a b;exact ih _ _
   rw[nj,dm,bz,lH,app,←Ag k];show f (if decide (f (k+1)<f (argBest (λi j=>decide (f i<f j)) k))=true then k+1 else argBest (λi j=>decide (f i<f j)) k)=_;by_cases c:f (k+1)<f (argBest (λi j=>decide (f i<f j)) k)
   ·rw[if_pos (by simpa using c),if_pos c]
   ·rw[if_neg (by simpa using c),if_neg c]
def xr:List V->Hp->VK->Prop:=λvs H Q=>∃(l:af) (i:Int) (is:List Int),vs=[.ref l]/\H l=some (.lst ((i::is).map V.int))/\Q (.int (di i is)) H
theorem yz(hd:X.A.handled=none):eO X (.builtin "min") xr:=by
 rintro pins s σ H vs us Q I r ⟨l,i,is,e,hH,q⟩;subst e;obtain⟨u,rfl,ru⟩:=vals1 r;cases ru;obtain⟨z,its,n,rr,hl,e⟩:=I.lstM hH;obtain⟨xs,e1,e2⟩:=yT rr;have sz:xs.length=is.length+1:=by have:=congrArg i9 e2;simpa using this
 rw[e1]at e;refine min_intList (xs:=xs.toArray) hd ⟨_,e,rfl,n,rfl⟩ (by simp;lia) λv hp tk ev kk=>?_;obtain⟨t,rfl⟩:=intItems_at ev;have na:∀k,k<is.length+1->numAt xs.toArray k=(i::is).getD k 0:=λk hk=>by
  rw[←e2];unfold numAt;simp[List.getD]
 have em:di (numAt xs.toArray 0) ((ci (xs.toArray.size-1)).map λk=>numAt xs.toArray (k+1))=di i is:=by
  have a0:numAt xs.toArray 0=i:=by rw[na 0 (by lia)];rfl
  have a1:(ci (xs.toArray.size-1)).map (λk=>numAt xs.toArray (k+1))=is:=by
   apply kR;intro k;by_cases hk:k<is.length
   ·rw[bj,gR (by simp;lia)];simp only[wk];rw[na (k+1) (by lia)];simp[hk]
   ·rw[mM (by simp;lia),mM (by lia)]
  rw[a0,a1]
 have bst:=Ag (f:=numAt xs.toArray) (xs.toArray.size-1);exact⟨.int (di i is),H,I.kept kk,⟨t,by rw[bst,em]⟩,q⟩
theorem zU:VO1 G nQ xr:=by
 intro X E EX m h H x x' Q R rx P;cases x with
 |ref a=>
   obtain⟨aa,ea,rfl⟩:=rx;obtain⟨o,eo,qo,P1⟩:=cy R ea P;cases o with
   |lst xs=>
     obtain⟨vs,r,z⟩:=qo;dsimp only at P1;cases ei:ja xs with
     |none=>rw[ei]at P1;exact P1.elim
     |some is=>
       rw[ei]at P1;cases is with
       |nil=>exact P1.elim
       |cons i is=>
         dsimp only at P1;split at P1
         ·have:=wY ei r;subst this;exact⟨aa,i,is,rfl,z,Post.here R P1 _ rfl⟩
         ·exact P1.elim
   |_=>exact P1.elim
 |_=>exact P.elim
section
variable {a b c:aw}{ga gb gc:ME}{f g:Op2}{r r':R2}{pos:Pos}
end
theorem bc.two{c d:Nat}{f:String}(a:Cls G.K (G.cl c))(b:dh G.K (G.cl c) (aQ f))(a':Cls G.K (G.cl d))(b':dh G.K (G.cl d) (aQ f)):bc G [c,d] f:=λc' q=>by
 rcases bK.mp q with z|z
 ·subst z;exact⟨a,b⟩
 ·cases cT.mp z;exact⟨a',b'⟩
end L2.Rv
namespace L2.Rv
open PySem PySem.Spec PyProof.Rows
section
variable {prog:br}{w:aX}{A:bB}{E:ai->ak->Prop}{s:ak}{zo P O T j1 j2 l1 l2:af}{k1 k2:Nat}{xs ys:Array ai}{x y:ai}{f:Bool}{oT:aE}
variable {S:af}{i:Nat}
end
variable {G:Gb}{m m' m1 m2:List af}{h h' h1 h2:MH}{H H' H1 H2:Hp}{X:Cx}{E:ai->ak->Prop}{EX:St->Prop}{σ:MSt}{σ':St}
end L2.Rv
namespace L2.Rv
noncomputable section
end
end L2.Rv
namespace L2.Rv
open PySem PySem.Spec PyProof.Rows
variable {G:Gb}{m m' m1 m2:List af}{h h' h1 h2:MH}{H H' H1 H2:Hp}{X:Cx}{E:ai->ak->Prop}{EX:St->Prop}{σ:MSt}{σ':St}
end L2.Rv
namespace L2.Rv
noncomputable section
end
end L2.Rv
namespace L2.Rv
open PySem PySem.Spec PyProof.Rows
variable {G:Gb}{m m' m1 m2:List af}{h h' h1 h2:MH}{H H' H1 H2:Hp}{X:Cx}{E:ai->ak->Prop}{EX:St->Prop}{σ:MSt}{σ':St}
section
open PySem.SeqAt PySem.MeetsSeq PySem.MeetsSeq2 PySem.SeqRoads2
open PySem.AutoSeq1 (wpAny_loadPart')
end
end L2.Rv
namespace L2.Rv
noncomputable section
end
end L2.Rv
namespace L2.Rv
open PySem PySem.Spec PyProof.Rows
section
variable {prog:br}{w:aX}{A:bB}{E:ai->ak->Prop}{s:ak}{z U T p q r l m n:af}
end
end L2.Rv
namespace L2.Rv
open PySem PySem.Spec PyProof.Rows
variable {G:Gb}{m m' m1 m2:List af}{h h' h1 h2:MH}{H H' H1 H2:Hp}{X:Cx}{E:ai->ak->Prop}{EX:St->Prop}{σ:MSt}{σ':St}
end L2.Rv
namespace L2.Rv
noncomputable section
open PySem (Str)
noncomputable def kT(s:Str)(n:Int):Str:=if(n == 1||s.length == 0)=true then s else⟨(bU n.toNat s.cps).foldl (·++·) #[]⟩
noncomputable def oB:Op2:=λx y=>match x,y with
 |.str s,.int n=>if 1≤n/\n≤1000/\s.length*n.toNat≤10000 then ret (.str (kT s n)) else stk
 |_,_=>stk
end
end L2.Rv
namespace L2.Rv
open PySem PySem.Spec PyProof.Rows
variable {G:Gb}{m m' m1 m2:List af}{h h' h1 h2:MH}{H H' H1 H2:Hp}{X:Cx}{E:ai->ak->Prop}{EX:St->Prop}{σ:MSt}{σ':St}
def Av:R2:=λx y H Q=>∃(s:Str) (n:Int),x=.str s/\y=.int n/\1≤n/\n≤1000/\s.length*n.toNat≤10000/\Q (.str (kT s n)) H
theorem yF(a:Array Nat):∀(k:Nat) (acc:Array Nat),(kK (·++·) acc (bU k a)).size=acc.size+k*a.size
 |0,acc=>by simp
 |k+1,acc=>by
   rw[gS,jq,yF a k,Array.size_append,Nat.add_mul];lia
theorem Hu:OpR X (binaryOp .Mult) Av:=by
 rintro pins s σ H x y v u Q I rx ry ⟨i,n,e1,e2,h1,h2,h3,q⟩;subst e1;subst e2;obtain⟨t,rfl⟩:=rx;obtain⟨t',rfl⟩:=ry;have big:i.length*n.toNat≤bh:=cL h3 (by decide);refine PySem.P.mul_str (by
  rw [decide_eq_false (by lia),decide_eq_false (by lia)];rfl) (λ_ _=>?_) (λ_ _=>?_) ?_
 ·have:(i.length:Int)*n≤2 ^ 63-1:=by
   have e:((i.length*n.toNat:Nat):Int)=(i.length:Int)*n:=by
    rw[Int.natCast_mul,Int.toNat_of_nonneg (by lia)]
   lia
  have:=Int.le_ediv_of_mul_le (show 0<n by lia) this
  lia
 ·exact decide_eq_false (Nat.not_lt.mpr big)
 ·rw[if_neg (by lia)];unfold kT at q;split
  ·rename_i c;rw[if_pos c]at q;exact⟨.str i,H,I,⟨t,rfl⟩,q⟩
  ·rename_i c;rw[if_neg c]at q;refine⟨?_,⟨.str _,H,I.tok _,⟨_,rfl⟩,q⟩⟩;show(kK (·++·) #[] (bU n.toNat i.cps)).size≤bh;rw[yF];have:i.cps.size=i.length:=rfl;rw[this,Nat.mul_comm];simpa using big
theorem D4:VO G oB Av:=by
 intro X E EX m h H x y x' y' Q R rx ry P;cases x with
 |str s=>cases y with
   |int n=>
     unfold oB at P;dsimp only at P;split at P
     ·rename_i c;exact⟨s,n,rx,ry,c.1,c.2.1,c.2.2,Post.here R P _ rfl⟩
     ·exact P.elim
   |_=>exact P.elim
 |_=>exact P.elim
end L2.Rv
namespace L2.Rv
noncomputable section
end
end L2.Rv
namespace L2.Rv
open PySem PySem.Spec PyProof.Rows
variable {G:Gb}{X:Cx}{E:ai->ak->Prop}{EX:St->Prop}
end L2.Rv
namespace L2.Rv
noncomputable section
open PySem (Str)
end
end L2.Rv
namespace L2.Rv
open PySem PySem.Spec PyProof.Rows
variable {G:Gb}
end L2.Rv
namespace L2.Rv
noncomputable section
open PySem (Str)
noncomputable def lZ(row:Str×MV->List MV)(e:ME):MI:=λσ=>bnd (e σ) λx=>match x with
 |.ref n=>bnd (look n) λo=>match o with
   |.dct kvs=>bnd (put n (.frz kvs)) λ_=>ret ⟨kvs.map row,[.d n kvs]⟩
   |_=>stk
 |_=>stk
noncomputable abbrev AS(e:ME):MI:=lZ (λkv=>[.str kv.1,kv.2]) e
noncomputable def thaw(s:Src)(f:MF):M MF:=match f,s.stays with
 |.next σ,[.d n kvs]=>bnd (look n) λo=>match o with
   |.frz ks=>bnd (put n (.dct ks)) λ_=>ret (.next σ)
   |_=>stk
 |_,_=>stk
def nI(is:List Nat)(src:MI)(body:MS):MS:=λσ=>bnd (src σ) λs=>bnd (dZ s is body s.items σ) λf=>thaw s f
end
end L2.Rv
namespace L2.Rv
open PySem PySem.Spec PyProof.Rows
variable {G:Gb}{m m' m1 m2:List af}{h h' h1 h2:MH}{H H' H1 H2:Hp}{X:Cx}{E:ai->ak->Prop}{EX:St->Prop}{σ:MSt}{σ':St}
theorem Inv.swapO{pins:List (af×aE)}{s:ak}{a:af}{u v:HO}(I:Inv X pins σ' H s)(e:H a=some u)(n1:∀xs,u≠.tup xs)(n2:∀b,u≠.own b)(n3:∀ps,u≠.tbl ps)(n4:∀o w,X.H₀ a≠some (.frz o w))(ok:bQ X.prog X.w (upd H a v) s.heap a v):Inv X pins σ' (upd H a v) s:=by
 have na:∀b,H b=none->b≠a:=λb q z=>by rw[z,e]at q;cases q
 refine⟨I.ok,I.os,I.bare,⟨I.base.keep,I.base.slot,λb o q n hx=>?_,I.base.there,λb xs q=>?_,λb o w q=>?_,λb ps q=>?_⟩,I.loc,I.cell,?_,λx c q=>?_,λp hp=>?_,λb w q=>?_,I.len⟩
 ·have z:=I.base.free b o q n hx;rw[ba (na b z)];exact z
 ·have z:=I.base.tups b xs q;rw[ba (show b≠a from λy=>n1 xs (Option.some.inj (e.symm.trans (y▸z))))];exact z
 ·have z:=I.base.frzs b o w q;rw[ba (show b≠a from λy=>n4 o w (y▸q))];exact z
 ·obtain⟨mo,z⟩:=I.base.tbls b ps q;exact⟨mo,by rw[ba (show b≠a from λy=>n3 _ (Option.some.inj (e.symm.trans (y▸z))))];exact z⟩
 ·rw[ba (na _ I.free)];exact I.free
 ·rw[ba (na _ (I.freeC x c q))];exact I.freeC x c q
 ·obtain⟨a1,a2,a3,a4,a5⟩:=I.pin p hp;exact⟨a1,by rw[ba (na _ a2)];exact a2,a3,a4,a5⟩
 ·by_cases z:b=a
  ·subst z;rw[dw]at q;cases q;exact ok
  ·rw[ba z]at q;refine(I.hok b w q).stay (λ_ _ _ q=>q) (λc q=>?_) λc xs q=>?_
   ·rw[ba (show c≠a from λy=>n2 b (Option.some.inj (e.symm.trans (y▸q))))];exact q
   ·rw[ba (show c≠a from λy=>n1 xs (Option.some.inj (e.symm.trans (y▸q))))];exact q
theorem Bn{P:br}{w:aX}{H H':Hp}{hp:aP}{a:af}{ws:List (Key×V)}(x:bQ P w H hp a (.dK ws)):bQ P w H' hp a (.dK ws):=x
theorem Inv.freeze{pins:List (af×aE)}{s:ak}{a:af}{ws:List (Key×V)}{o:aE}(I:Inv X pins σ' H s)(e:H a=some (.dK ws))(g:s.heap.get? a=some o):Inv X pins σ' (upd H a (.frz o (.dK ws))) s:=
 Inv.swapO I e (λ_ z=>nomatch z) (λ_ z=>nomatch z) (λ_ z=>nomatch z) (λo w z=>by have:=I.base.frzs a o w z;rw[e]at this;cases this) ⟨g,Bn (show bQ X.prog X.w H s.heap a (.dK ws) from I.hok a _ e)⟩
theorem Inv.thaw{pins:List (af×aE)}{s:ak}{a:af}{ws:List (Key×V)}{o:aE}(I:Inv X pins σ' H s)(f:∀o w,X.H₀ a≠some (.frz o w))(e:H a=some (.frz o (.dK ws))):Inv X pins σ' (upd H a (.dK ws)) s:=
 Inv.swapO I e (λ_ z=>nomatch z) (λ_ z=>nomatch z) (λ_ z=>nomatch z) f (Bn (show bQ X.prog X.w H s.heap a (.frz o (.dK ws)) from I.hok a _ e).2)
noncomputable def Itm(d:af)(o:aE)(ws:List (Key×V)):It where
 go:=λi H=>H d=some (.frz o (.dK ws))/\i<ws.length
 yld:=λi H v H'=>∃T k x,v=.ref T/\H T=none/\H'=upd H T (.tup [kV k,x])/\ws[i]?=some (k,x)
 stop:=λi H=>H d=some (.frz o (.dK ws))/\ws.length≤i
theorem yV{P:br}{w:aX}{H:Hp}{s:ak}{d:af}{o:aE}{ws:List (Key×V)}{es:Array DictEntry}{ep:Nat}(ok:HOk P w H s.heap)(e:H d=some (.frz o (.dK ws)))(ho:o.data=.dict es ep):∃vs,KV ws vs/\s.heap.DictAt (cn P w) d vs ep:=by
 obtain⟨g,_,_,vs,r,o',es',ep',g',x1,x2,x3⟩:=(show bQ P w H s.heap d (.frz o (.dK ws)) from ok d _ e);rw[g]at g';cases g';rw[ho]at x2;cases x2;exact⟨vs,r,o,es,g,x1,ho,x3⟩
theorem Im{P:br}{w:aX}{K:PySem.W.Frag}{elts:List aw}{x1:Nat}{tp:Pos}{it d:af}{o:aE}{ws:List (Key×V)}{es:Array DictEntry}{ep:Nat}(ho:o.data=.dict es ep)(nd:d≠it) :
  Turn P w K (.Tuple elts x1 tp) (Itm d o ws) [it] it (λi h=>∃ok ov,IsItemIter h it d i ws.length ep ok ov) where
 mem:=by simp
 obj:=λi h ⟨ok,ov,hz⟩ c hc=>by
  cases cT.mp hc;exact⟨_,hz,λv y=>by cases(show Data.fields _=Data.cell v from y)⟩
 keep:=λi h h' ⟨ok,ov,hz⟩ k=>⟨ok,ov,k it (by simp) _ hz⟩
 item:=by
  rintro X hP hw hK hc i pins s σ H E I hf ⟨ok,ov,hz⟩ ⟨q1,q2⟩;subst hP hw hK;obtain⟨vs,rv,hm⟩:=yV I.hok q1 ho;have ln:=KV.length rv;obtain⟨⟨k,x⟩,ek⟩:∃p,ws[i]?=some p:=⟨ws[i],by simp[q2]⟩
  obtain⟨⟨k',u⟩,eu,rk,ru⟩:=ij rv ek;dsimp only at rk ru;subst rk;refine wpAny_pyNext_items_item (ln▸hz) hm eu λkey hp' a1 a2 a3 a4 a5=>?_;refine⟨_,rfl,wpAny_letOwnedTupleGo_items a2 λhp2 b1 b2=>?_⟩;have kz:∀c o,c≠it->s.heap.get? c=some o->hp2.get? c=some o:=λc o c1 e=>b2.extBut _ _ c1 (a5 c o c1 e);have I1:Inv X pins σ H { s with heap:=hp2,toks:=s.toks }:=Inv.turnedL I hf λc o hc' e=>kz c o (by simpa using hc') e;have nT:∀c o,s.heap.get? c=some o->s.heap.objs.size≠c:=λc o e=>jb (bD e);have zT:s.heap.objs.size≠it:=nT it _ hz;have gT:hp2.get? s.heap.objs.size=some { cls:=.type "tuple",data:=.seq #[key,u] }:=b2.extBut _ _ zT a3;have fT:Fp X pins H s.heap.objs.size:=Fp.of I (mh (bo _)) (I.hok.fresh (bo _));have rkey:aU (kV k) key:=by
   cases k with
   |inl n=>exact oz a1
   |inr n=>exact lu a1
  have I2:=Inv.trackO (v:=.tup [kV k,x]) I1 fT ⟨by show 2≤bh;decide,[key,u],.cons rkey (.cons ru .nil),⟨_,gT,rfl,0,rfl⟩⟩;refine⟨.ref s.heap.objs.size,_,I2,rfl,⟨s.heap.objs.size,k,x,rfl,fT.un,rfl,ek⟩,⟨key,u,ln▸b1⟩,λc hc'=>?_⟩;cases cT.mp hc';rw[ba zT.symm];exact(hf it (by simp)).1
 done:=by
  rintro X hP hw hK hc i pins s σ H E I hf ⟨ok,ov,hz⟩ ⟨q1,q2⟩;subst hP hw hK;obtain⟨vs,rv,hm⟩:=yV I.hok q1 ho;have ln:=KV.length rv;refine wpAny_pyNext_items_end (I.ok.hd hc) (ln▸hz) hm (mM (by lia)) λhp' kk=>⟨rfl,Inv.turnedL (t:=s.toks) I hf λc o hc' e=>kk c o (by simpa using hc') e⟩
 self:=λ_ _ _ _ _ ⟨_,_,hz⟩ h=>PySem.W.kcp_self hz h
theorem DS{o:aw}{to:TE}{elts:List aw}{x1:Nat}{tp apos cpos:Pos}(ho:PE X o to)(hbase:attributeBase o (aQ "items") X.env (aO o X.env)=aO o X.env)(hline:(apos.endLine == cpos.line)=true) :
  PI X (.Tuple elts x1 tp) (.Call (.Attribute o (aQ "items") apos) [] [] cpos) (λσ H R=>to σ H λx H1=>∃a ws,x=.ref a/\H1 a=some (.dK ws)/\∀ob,(∀o w,X.H₀ a≠some (.frz o w))->R (Itm a ob ws) (upd H1 a (.frz ob (.dK ws)))):=by
 intro pins s σ H R I t;refine wpAny_Call_method0_late hbase hline (thn (ho pins s σ H _ I t) λu s1 e0=>bA e0 λx H1 I1 rx e4=>?_);obtain⟨a,ws,rfl,ea,q⟩:=e4;obtain rfl:u=Value.ref a:=rx;obtain⟨t1,t2,t3⟩:=AJ I1 (.inl ⟨ws,.inl ea⟩);obtain⟨z,hd,vs,rel,dd⟩:=uE I1.hok ea;refine⟨"dict","dict.items",PySem.F.plainAttrs_dict,PySem.F.slot_dict_items,PySem.F.type_dict_items,t1,t2,Calls.callWith_builtin rfl (PySem.evalArgs_none ?_)⟩;refine call_meetsIn PySem.F.slot_dict_items dd.typeIs PySem.F.entry_dict_items (PySem.F.args_dict_items_1 _) (meets_dict_items (cn X.prog X.w) a hd) ⟨⟨vs,dd⟩,?_⟩;obtain⟨ob,es,ep,g,x1,x2,x3⟩:=dd;have la:a<s1.heap.objs.size:=bD g;have g2:(s1.heap.push { cls:=.type "dict_items",data:=.fields #[.ref a] }).get? a=some ob:=bI _ g;refine wpAny_pyIter_items (s:={ s1 with heap:=s1.heap.push { cls:=.type "dict_items",data:=.fields #[.ref a] } }) (knd:=cn X.prog X.w) (kvs:=vs) (ep:=ep) ⟨_,eM _ rfl,rfl,rfl⟩ ⟨ob,es,g2,x1,x2,x3⟩ ?_;have n4:∀o w,X.H₀ a≠some (.frz o w):=λo w z=>by have:=I1.base.frzs a o w z;rw[ea]at this;cases this
 have I2:=Inv.freeze (I1.kept (t':=s1.toks) (h':=(s1.heap.push { cls:=.type "dict_items",data:=.fields #[.ref a] }).push { cls:=.type "dict_itemiterator",data:=.fields #[.none,.bool false,.ref a,.int 0 0,.int vs.length 0,.int ep 0,.none,.none] }) λb o e=>bI _ (bI _ e)) ea (bI _ g2);have sz:s1.heap.objs.size≤(s1.heap.push { cls:=.type "dict_items",data:=.fields #[.ref a] }).objs.size:=by simp[Heap.push]
 have ln:=KV.length rel;have gi:=eM (s1.heap.push { cls:=.type "dict_items",data:=.fields #[.ref a] }) (o:={ cls:=.type "dict_itemiterator",data:=.fields #[.none,.bool false,.ref a,.int 0 0,.int vs.length 0,.int ep 0,.none,.none] }) rfl;have np:a≠(s1.heap.push { cls:=.type "dict_items",data:=.fields #[.ref a] }).objs.size:=cS (dN la sz);generalize (s1.heap.push { cls:=.type "dict_items",data:=.fields #[.ref a] }).objs.size=p at sz gi np;have un:(upd H1 a (.frz ob (.dK ws))) p=none:=by
  rw[ba np.symm];exact I1.hok.fresh sz
 refine⟨p,[p],_,_,_,rfl,I2,Im x2 np,⟨.none,.none,?_⟩,λb hb=>?_,q ob n4⟩
 ·rw[ln];exact gi
 ·cases cT.mp hb;exact I1.fpOk sz un
def Thw(X:Cx)(q:St->Hp->Prop):St->Hp->Prop:=λσ H=>∃a o ws,(∀o w,X.H₀ a≠some (.frz o w))/\H a=some (.frz o (.dK ws))/\q σ (upd H a (.dK ws))
theorem EU{st:aT}{t:TS}(hp:PS X st t):PS X st (λD σ H=>t { nx:=Thw X D.nx,rt:=λ_ _=>False } σ H):=λpins s σ H D I ht=>by
 refine thn (hp pins s σ H _ I ht) λf s' q=>?_;cases f with
 |next=>
   obtain⟨σ1,H1,I1,a,o,ws,f1,e1,d⟩:=q;exact⟨σ1,_,Inv.thaw I1 f1 e1,d⟩
 |brk=>obtain⟨_,_,_,z⟩:=q;exact z.elim
 |cont=>obtain⟨_,_,_,z⟩:=q;exact z.elim
 |ret u=>obtain⟨_,_,_,_,_,z⟩:=q;exact z.elim
theorem Post.bind0{α β:Type}{a:M α}{k:α->M β}{Q:β->List af->MH->Hp->Prop}(P:Post G X E EX m H (bnd a k h) Q):Post G X E EX m H (a h) λv _ h1 _=>Post G X E EX m H (k v h1) Q:=by
 unfold bnd at P;cases e:a h with
 |ok v h1=>
   rw[e]at P;exact λm' H' y _=>P
 |exc c h1=>rw[e]at P;exact P
 |stuck=>rw[e]at P;exact P
theorem Ext.thaw{n:Nat}{a:af}{u v:HO}{ws:List (Key×V)}(x1:Ext m H m1 H1)(ea:m1[n]?=some a)(z:H1 a=some (.dK ws))(x2:Ext m1 (L2.upd H1 a u) m2 H2):Ext m H m2 (L2.upd H2 a v):=by
 obtain⟨e,pe⟩:=x1.pre;obtain⟨f,pf⟩:=x2.pre;refine⟨⟨e++f,by rw[pf,pe];simp⟩,λb o q nb nt=>?_,λb o w q=>?_⟩
 ·obtain⟨q1,n1⟩:=x1.fr b o q nb nt;have ne:b≠a:=λy=>n1 (y▸de ea);obtain⟨q3,n3⟩:=x2.fr b o (by rw[ba ne];exact q1) n1 nt;exact⟨by rw[ba ne];exact q3,n3⟩
 ·have q1:=x1.fz b o w q;have ne:b≠a:=λy=>by rw[y,z]at q1;cases q1
  rw[ba ne];exact x2.fz b o w (by rw[ba ne];exact q1)
structure FzR(one:Bool)(row:Str×MV->List MV)(J:It)(a:af)(o:aE)(ws:List (Key×V)):Prop where
 go:∀i H,H a=some (.frz o (.dK ws))->i<ws.length->J.go i H
 stop:∀i H,H a=some (.frz o (.dK ws))->ws.length≤i->J.stop i H
 yld:∀(G:Gb) (m:List af) (h:MH) (i:Nat) (H:Hp) (v:V) (H':Hp) (s:Str) (x:MV) (x':V),J.yld i H v H'->HR G m h H->ws[i]?=some (Sum.inr s,x')->VR G m H x x'->Ext m H m H'/\HR G m h H'/\Row G m H' one (row (s,x)) v
theorem Hy{tg iter:aw}{go:ME}{pos:Pos}{body:List aT}{gb:MS}{is:List Nat}{one:Bool}{row:Str×MV->List MV}{Jf:af->aE->List (Key×V)->It}(hpi:∀E,PI (X.wish E) tg iter (λσ H R=>TGe G X E ET go σ H λx H1=>∃a ws,x=.ref a/\H1 a=some (.dK ws)/\∀ob,(∀o w,X.H₀ a≠some (.frz o w))->R (Jf a ob ws) (upd H1 a (.frz ob (.dK ws)))))
  (hJ:∀a o ws,FzR one row (Jf a o ws) a o ws) (hg:GTg G X tg one is) (hb:GSs G ET X body gb) (hl2:∀p,is.length=(row p).length) (hc:X.calm=true) (hs:∀x,foldedSetIterable iter X.env x=pure x) :
  GS G ET X (.For tg iter body [] pos) (nI is (lZ row go) gb):=λE hp=>by
 obtain⟨g,pg,hg⟩:=hg E;refine gI (EU (X:=X.wish E) (AD (X:=X.wish E) hp hc (hpi E) pg (hb E hp) hs)) λD σ' H e0=>b8 e0 λm h σ ex S R P=>?_
 let QD:MF->List af->MH->Hp->Prop:=λf m' _ H'=>match f with
  |.next σ1=>∀σ1',SR G m' H' σ1 σ1'->D.nx σ1' H'
  |.brk σ1=>∀σ1',SR G m' H' σ1 σ1'->D.bk σ1' H'
  |.cnt σ1=>∀σ1',SR G m' H' σ1 σ1'->D.ct σ1' H'
  |.ret v=>∀v',VR G m' H' v v'->D.rt v' H'
 have P0:Post G X E ET m H (lZ row go σ h) λs _ h' _=>Post G X E ET m H ((bnd (dZ s is gb s.items σ) λf=>thaw s f) h') QD:=Post.bind0 P;refine sub ex S R P0 λv m1 h1 H1 v' x1 R1 r1 P1=>?_;cases v with
 |ref n=>
   obtain⟨aa,ea,rfl⟩:=r1;obtain⟨oa,eo,q1,P2⟩:=cy R1 ea P1;cases oa with
   |dct kvs=>
     obtain⟨ws,dr,z⟩:=q1;have P3:=oq R1 ea P2;refine⟨aa,ws,rfl,z,λob n4=>?_⟩;have x3:Ext m1 H1 m1 (upd H1 aa (.frz ob (.dK ws))):=Ext.upd ea z;have R3:HR G m1 (h1.set n (.frz kvs)) (upd H1 aa (.frz ob (.dK ws))):=R1.upd ea (λo' ys z'=>by rw[z]at z';cases z') ⟨ws,ob,DR.mono x3.mn dr,dw⟩;have P4:=P3 m1 _ x3 R3;generalize hs:(⟨kvs.map row,[.d n kvs]⟩:Src)=src at P4;have hit:src.items=kvs.map row:=by rw[←hs]
     have P5:=Post.bind0 P4;have lw:kvs.length=ws.length:=Paired.length dr;have li:src.items.length=kvs.length:=by rw[hit,bS]
     have fz:∀{m2 H2},Ext m1 (upd H1 aa (.frz ob (.dK ws))) m2 H2->H2 aa=some (.frz ob (.dK ws)):=λx=>x.fz aa ob _ dw;have fin:∀{m2 h2 H2 σ2 σ2'},Ext m1 (upd H1 aa (.frz ob (.dK ws))) m2 H2->SR G m2 H2 σ2 σ2'->HR G m2 h2 H2->Post G X E ET m H (thaw src (.next σ2) h2) QD->Thw (X.wish E) D.nx σ2' H2:=λ{m2 h2 H2 σ2 σ2'} xx S2 R2 Pt=>by
      have ea2:=xx.get ea;obtain⟨oo,e1,q⟩:=R2.get ea2;have zz:=fz xx;rw[←hs]at Pt;unfold thaw at Pt;simp only[bnd,look,e1]at Pt;cases oo with
      |frz ks=>
        obtain⟨ws',o',dr',z'⟩:=q;rw[zz]at z';cases z';have hn:n<h2.length:=by rw[←R2.len];exact(bN.mp ea2).1
        simp only[bnd,put,hn,if_true]at Pt;have mn:Mn m2 H2 m2 (upd H2 aa (.dK ws)):=⟨λ_ _ q=>q,λc vs z nc=>⟨by rw[ba (show c≠aa from λy=>nc (by rw[y];exact de ea2))];exact z,nc⟩⟩
        exact⟨aa,ob,ws,n4,zz,Pt m2 _ (Ext.thaw x1 ea z xx) (R2.upd ea2 (λo' ys z'=>by rw[zz]at z';cases z') ⟨ws,DR.mono mn dr',dw⟩) σ2' (S2.mn mn)⟩
      |_=>exact Pt.elim
     refine ⟨λk n' σ2' H2=>n'=src.items.length - k/\k≤src.items.length/\∃m2 h2 σ2,Ext m1 (upd H1 aa (.frz ob (.dK ws))) m2 H2/\SR G m2 H2 σ2 σ2'/\HR G m2 h2 H2/\Post G X E ET m H (dZ src is gb (src.items.drop k) σ2 h2) λf _ h' _=>Post G X E ET m H (thaw src f h') QD,
      ⟨src.items.length,rfl,fB _,m1,_,σ,.refl,S.mono (x1.trans x3),R3,P5⟩,?_⟩
     rintro k n' σ2' H2 ⟨rfl,hk,m2,h2,σ2,pre2,S2,R2,P2⟩;by_cases hlt:k<src.items.length
     ·have ed:src.items.drop k=src.items[k]::src.items.drop (k+1):=(mV hlt);rw[ed]at P2;unfold dZ at P2;split at P2
      ·rename_i hok;refine .inr ⟨(hJ aa ob ws).go _ _ (fz pre2) (by lia),λσ4' H4=>∃m4 h4 σ4,Ext m1 (upd H1 aa (.frz ob (.dK ws))) m4 H4/\SR G m4 H4 σ4 σ4'/\HR G m4 h4 H4/\Post G X E ET m H (dZ src is gb (src.items.drop (k+1)) σ4 h4) λf _ h' _=>Post G X E ET m H (thaw src f h') QD,λσ4' H4 q=>⟨src.items.length-(k+1),by lia,rfl,hlt,q⟩,λx H' y=>?_⟩;have hkk:k<kvs.length:=by lia
       obtain⟨⟨s0,v0⟩,e0⟩:∃p,kvs[k]?=some p:=⟨kvs[k],by simp[hkk]⟩
       have eit:src.items[k]=row (s0,v0):=by
        have:src.items[k]?=some (row (s0,v0)):=by rw[hit,bj,e0];rfl
        simpa[hlt] using this
       have ea2:=pre2.get ea;have eo2:h2[n]?=some (.frz kvs):=by
        rw[←hs]at hok;simpa[Src.okIn,iO] using hok
       obtain⟨ws',o',dr',z'⟩:=R2.ob n aa _ ea2 eo2;rw[fz pre2]at z';cases z';obtain⟨⟨k1,v1⟩,e1,r1,r2⟩:=ij dr' e0;dsimp only at r1 r2;subst r1;obtain⟨xx,R3',rx⟩:=(hJ aa ob ws).yld G m2 h2 k H2 x H' s0 v0 v1 y R2 e1 r2;refine hg m2 _ _ _ σ2 σ2' _ (S2.mono xx) rx (by rw[hl2 (s0,v0)]) λσ3' S3=>?_
       have x02:Ext m H m2 H2:=(x1.trans x3).trans pre2;rw[eit]at P2;refine⟨m2,h2,cj is (row (s0,v0)) σ2,trivial,S3,R3',(((Post.bind0 P2).ext x02).ext xx).mono λf m4 h4 H4 x4 R4 P4=>?_⟩;have pre4:Ext m1 (upd H1 aa (.frz ob (.dK ws))) m4 H4:=pre2.trans (xx.trans x4);have x04:Ext m H m4 H4:=x02.trans (xx.trans x4);cases f with
       |next σ4=>exact λσ4' S4=>⟨m4,h4,σ4,pre4,S4,R4,P4⟩
       |cnt σ4=>exact λσ4' S4=>⟨m4,h4,σ4,pre4,S4,R4,P4⟩
       |brk σ4=>exact λσ4' S4=>fin pre4 S4 R4 (P4 m4 H4 x04 R4)
       |ret v=>
         intro v' rv;have P9:=P4 m4 H4 x04 R4;unfold thaw at P9;exact P9.elim
      ·exact P2.elim
     ·have e:k=src.items.length:=by lia
      subst e;rw[r6]at P2;unfold dZ at P2;split at P2
      ·exact .inl ⟨(hJ aa ob ws).stop _ _ (fz pre2) (by lia),fin pre2 S2 R2 (P2 m2 H2 ((x1.trans x3).trans pre2) R2)⟩
      ·exact P2.elim
   |_=>exact P2.elim
 |_=>exact P1.elim
theorem Itm.fz(a:af)(o:aE)(ws:List (Key×V)):FzR false (λkv=>[.str kv.1,kv.2]) (Itm a o ws) a o ws where
 go:=λ_ _ e l=>⟨e,l⟩
 stop:=λ_ _ e l=>⟨e,l⟩
 yld:=λG m h i H v H' s x x' y R e r=>by
  obtain⟨T,ky,xv,rfl,hT,rfl,ek⟩:=y;rw[e]at ek;cases ek;have xx:Ext m H m (upd H T (.tup [kV (Sum.inr s),x'])):=Ext.side hT;exact⟨xx,R.side hT,T,[.str s,x'],rfl,R.fresh hT,dw,VRl.of (.cons rfl (.cons (xx.vr r) .nil))⟩
theorem Cg{o:aw}{go:ME}{elts:List aw}{x1:Nat}{tp apos cpos pos:Pos}{body:List aT}{gb:MS}{is:List Nat}(ho:GE G X o go)(hg:GTg G X (.Tuple elts x1 tp) false is)(hb:GSs G ET X body gb)(hl2:is.length=2:=by rfl)(hc:X.calm=true:=by rfl)(hs:∀x,foldedSetIterable (.Call (.Attribute o (aQ "items") apos) [] [] cpos) X.env x=pure x:=by intro _;rfl)
  (hbase:attributeBase o (aQ "items") X.env (aO o X.env)=aO o X.env:=by rfl) (hline:(apos.endLine == cpos.line)=true:=by rfl) :
  GS G ET X (.For (.Tuple elts x1 tp) (.Call (.Attribute o (aQ "items") apos) [] [] cpos) body [] pos) (nI is (AS go) gb):=
 Hy (λE=>DS (X:=X.wish E) (ho E ET) hbase hline) Itm.fz hg hb (λ_=>hl2) hc hs
theorem Ap{pos:Pos}:GS G EX X (.Return none pos) (bn (eC .non)):=λE hp=>gI (IN (X:=X.wish E)) λD σ' H ⟨m,h,σ,ex,S,R,P⟩=>Post.here R P .non rfl
end L2.Rv
namespace L2.Rv
noncomputable section
open PySem (Str)
noncomputable def pz(is:List Nat)(e:ME):MS:=λσ=>bnd (e σ) λx=>match x with
 |.ref n=>bnd (look n) λo=>match o with
   |.lst xs=>if xs.length=is.length then ret (.next (cj is xs σ)) else stk
   |_=>stk
 |_=>stk
noncomputable def j8:List MV->Option (List (Str×MV))
 |[]=>some []
 | .tup [.str k,v]::r=>(match j8 r with
   |some ps=>some ((k,v)::ps)
   | none=>none)
 |_=>none
noncomputable def mT(ps kvs:List (Str×MV)):List (Str×MV):=ps.foldl (λd p=>dput p.1 p.2 d) kvs
noncomputable def sR:Op1:=λx=>match x with
 |.ref a=>bnd (look a) λo=>match o with
   | .lst xs=>(match j8 xs with
     |some ps=>if ps.length<900 then new (.dct (mT ps [])) else stk
     | none=>stk)
   |_=>stk
 |_=>stk
end
end L2.Rv
namespace L2.Rv
open PySem PySem.Spec PyProof.Rows
section
variable {prog:br}{w:aX}{A:bB}{E:ai->ak->Prop}{s:ak}
theorem xh{it t:af}{items:Array ai}(hne:t≠it):∀(n i:Nat) (s:ak) (Q:List ai->ak->Prop),s.heap.IsListIter it t i->s.heap.IsList t items->i+n≤items.size ->
  (∀h',h'.IsListIter it t (i+n)->nu it s.heap h'->Q ((items.toList.drop i).take n) { s with heap:=h' })->aB (aD prog w) A (draw (.ref it) n) Q E s
 |0,i,s,Q,hit,_,_,hQ=>by
   show aB _ _ (pure []) Q E s;exact bg (by simpa using hQ s.heap hit (Heap.SameBut.refl ..))
 |n+1,i,s,Q,hit,ht,hle,hQ=>by
   have hlt:i<items.size:=by lia
   show aB _ _ (pyNext (.ref it) >>= _) Q E s;refine aC (wpAny_pyNext_list_item hit ht (x:=items[i]) (by simp[hlt]) λh₁ hit₁ hs₁=>?_);refine aC (wpAny_holding (xh hne n (i+1) _ _ hit₁ (ht.extBut hs₁.extBut hne) (by lia) λh₂ hit₂ hs₂=>bg ?_));have hd:items.toList.drop i=items[i]::items.toList.drop (i+1):=by simp[mV,hlt]
   have:=hQ h₂ (by rw[show i+(n+1)=i+1+n by lia];exact hit₂) (hs₁.trans hs₂);rw[hd,List.take_succ_cons]at this;exact this
theorem ED{t:af}{items:Array ai}{Q:List ai->ak->Prop}(hh:A.handled=none)(ht:s.heap.IsList t items)
  (hQ:∀h',Heap.ExtBut s.heap.objs.size s.heap h'->Q items.toList { s with heap:=h' }):aB (aD prog w) A (unpackItems (.ref t) items.size none) Q E s:=by
 have hlt:t≠s.heap.objs.size:=by obtain⟨o,ho,_⟩:=ht;exact cS (bD ho)
 unfold unpackItems;refine aC ?_;unfold notIterableAtAll;refine aC (wpAny_specialOf ht.typeIs PySem.F.slot_list_iter.lookup ?_);refine bg ?_;simp only[cJ,if_false];refine aC (wpAny_holding (wpAny_pyIter_list ht ?_));have ht0:(s.heap.push { cls:=.type "list_iterator",data:=.fields #[.ref t,.int 0 0] }).IsList t items:=ht.at λo e=>bI _ e;refine aC (wpAny_holding (xh hlt items.size 0 _ _ ⟨_,eM _ rfl,rfl,rfl⟩ ht0 (by lia) λh₁ hit₁ hs₁=>?_));have hall:List.take items.size (List.drop 0 items.toList)=items.toList:=by
  rw[List.drop_zero];exact kn (by simp)
 rw[hall];rw[if_neg (by simp)];refine aC (wpAny_holding (wpAny_pyNext_list_end hh hit₁ (ht0.extBut hs₁.extBut hlt) (by simp) λh₂ he₂=>?_));simp only[Option.isSome_none,cJ,if_false];exact bg (hQ h₂ λb o hb e=>he₂ b o hb (hs₁.extBut b o hb (bI _ e)))
theorem DY{env:Env}{elts:List aw}{x1}{pos:Pos}{t:af}{items:Array ai}{Q:Unit->ak->Prop}(hh:A.handled=none)(ht:s.heap.IsList t items)
  (hn:(assignEach elts env).length=items.size) (hstar:(assignEach elts env).findIdx? (·.1)=none)
  (h:∀h',Heap.ExtBut s.heap.objs.size s.heap h'->aB (aD prog w) A (assignInOrder ((assignEach elts env).map (·.2)) items.toList) Q E { s with heap:=h' }) :
  aB (aD prog w) A (assign (.Tuple elts x1 pos) env (.ref t)) Q E s:=by
 rw[assign_Tuple];refine aC (wpAny_standAt ?_);unfold unpack;rw[hn,hstar];exact aC (wpAny_holding (ED hh ht h))
end
def Ho(K:PySem.W.Frag)(n:Nat)(t:L2.TGs):TG:=λv σ H Q=>∃a xs,v=.ref a/\SqL K H a xs/\xs.length=n/\t xs σ H Q
theorem GG{X:Cx}{es:List aw}{k:Nat}{t:L2.TGs}{n:Nat}{pos:Pos}(hc:X.calm=true)(h:PGs X es t)
  (hn:(assignEach es X.env).length=n:=by rfl) (hst:(assignEach es X.env).findIdx? (·.1)=none:=by rfl):PG X (.Tuple es k pos) (Ho X.K n t):=by
 intro pins s σ H v u Q I r hw;obtain⟨a,xs,e1,hq,hl,hw⟩:=hw;subst e1;cases r;obtain⟨its,rv,ht,hz⟩:=I.list hq;refine DY (I.ok.hd hc) ht.isList (by simp[hn,←hl,rv.length]) hst λh' hx=>?_
 have I1:Inv X pins σ H { s with heap:=h' }:=I.kept (t':=s.toks) λb o e=>hx b o (cS (bD e)) e;exact h pins _ σ H xs _ Q I1 (by simpa using rv) hw
variable {G:Gb}{X:Cx}{E:ai->ak->Prop}{EX:St->Prop}
theorem Dc{es:List aw}{k:Nat}{is:List Nat}{e:aw}{ge:ME}{pos pos':Pos}(he:GE G X e ge)(hg:GTn G X es is)(hc:X.calm=true:=by rfl)(hK:X.K=G.K:=by rfl)(hl:(assignEach es X.env).length=is.length:=by rfl)(hst:(assignEach es X.env).findIdx? (·.1)=none:=by rfl)
  (hs:swapsWithSole [.Tuple es k pos'] e pos.line X.env=pure false:=by rfl) (hw:swappedStores [.Tuple es k pos'] e X.env=pure none:=by rfl) (h1:(assignEach [.Tuple es k pos'] X.env).map (·.2)=[assign (.Tuple es k pos') X.env]:=by rfl) :
  GS G EX X (.Assign [.Tuple es k pos'] e pos) (pz is ge):=λE hp=>by
 obtain⟨g,pg,hg⟩:=hg E;refine gI (Ab (X:=X.wish E) (he E EX) (GG (X:=X.wish E) hc pg hl hst) hs hw h1) λD σ' H e0=>b8 e0 λm h σ ex S R P=>?_;refine sub ex S R P λv m1 h1 H1 v' x1 R1 r1 P1=>?_;cases v with
 |ref n=>
   obtain⟨aa,ea,rfl⟩:=r1;obtain⟨oa,eo,q1,P2⟩:=cy R1 ea P1;cases oa with
   |lst xs=>
     obtain⟨vs,r,z⟩:=q1;dsimp only at P2;split at P2
     ·rename_i hz;refine⟨aa,vs,rfl,SqL.of z,by rw[←Paired.length r];exact hz,hg m1 H1 xs vs σ σ' _ (S.mono x1) r hz λσ1' S1=>Post.here R1 P2 σ1' S1⟩
     ·exact P2.elim
   |_=>exact P2.elim
 |_=>exact P1.elim
end L2.Rv
namespace L2.Rv
open PySem PySem.Spec PyProof.Rows
theorem zh:entryFor table "dict.update.loop"=some Builtin.«dict.update.loop»:=entryFor_of_fast (by kernel_rfl)
theorem oX:plainId "dict.update.loop"=true:=by decide +kernel
theorem CU:typeLookup (.type "list") "keys"=pure none:=by rw[typeLookup_type,builtinLookup_eq_fast];kernel_rfl
section
variable {prog:br}{w:aX}{A:bB}{E:ai->ak->Prop}{s:ak}
theorem getAttr?_miss{a:af}{its:Array ai}{n:Nat}{name:Str}{Q:Option ai->ak->Prop}
  (hx:s.heap.get? a=some { cls:=.type "list",data:=.seq its n }) (hmiss:typeLookup (.type "list") name=pure none) (hname:(["__module__","__name__","__qualname__","__doc__","__annotations__"]:List Str).contains name=false) (hA:A.handled=none)
  (h:∀h' tk,(∀b o,s.heap.get? b=some o->h'.get? b=some o)->Q none { s with heap:=h',toks:=tk }) (hsz:name.length+100≤bh:=by size_fits) :
  aB (aD prog w) A (getAttr? (.ref a) name) Q E s:=by
 obtain⟨hp,g,d,tk,os⟩:=s;have hT:∀tk',(⟨hp,g,d,tk',os⟩:ak).TypeIs (.ref a) "list":=λ_=>⟨_,hx,rfl⟩
 have f1:=sub_AttributeError;have f3:=PySem.F.slot_list_getattribute.lookup;have f4:=PySem.F.slot_list_getattribute.bind (.ref a);have f5:=am_list_getattr_none;unfold getAttr? getAttrBy? getAttrBy
 repeat (any_goals (first|assumption|exact hT _|((with_reducible show aB _ _ (call (Value.builtin "list.__getattribute__") _ _) _ _ _);refine call_meets PySem.F.slot_list_getattribute (hT _) am_entry_list_getattribute (PySem.F.args_list_getattribute_2 _ _) (meets_getattribute_miss_list a its n #[] name _ hmiss hname hsz) ⟨hx,hA,λh' tk' e hx'=>?_⟩)|wp_step))
 obtain⟨t',u',he⟩:=hx'.there;show aB _ _ (getattributeRaised _ _ _ _ _ _ _) _ _ _;unfold getattributeRaised
 repeat (any_goals (first|assumption|wp_step))
 exact h _ _ λb o z=>hx'.of.keeps b o z
noncomputable abbrev stores(knd:KeyKind prog w Key)(ps:List (Key×ai))(kvs:List (Key×ai)):List (Key×ai):=ps.foldl (λd p=>stored d p.1 p.2) kvs
def HQ(knd:KeyKind prog w Key)(D it:af)(h:aP)(v:ai)(p:Key×ai):Prop:=∃t key,v=.ref t/\t≠D/\t≠it/\h.IsTuple t #[key,p.2]/\knd.is p.1 key=true
theorem DK(kvs:List (Key×ai))(k:Key)(v:ai):(stored kvs k v).length≤kvs.length+1:=by
 unfold stored;split
 ·rw[bS];lia
 ·simp
theorem yB{knd:KeyKind prog w Key}{R:Result->ak->Prop}{res:ai}{D it l:af}{items:Array ai}(hh:A.handled=none)(n1:l≠it)(n2:l≠D)(n3:it≠D) :
  ∀(ps:List (Key×ai)) (i:Nat) (s:ak) (kvs:List (Key×ai)) (j:Int),i≤items.size->s.heap.IsListIter it l i->s.heap.IsList l items->cf (HQ knd D it s.heap) (items.toList.drop i) ps->s.heap.DictOf knd D kvs->kvs.length+ps.length≤bh ->
  (∀hp tk,hp.DictOf knd D (stores knd ps kvs)->(∀c o,c≠D->c≠it->s.heap.get? c=some o->hp.get? c=some o)->R (.ok (.ret res)) { s with heap:=hp,toks:=tk }) ->
  codeAny (aD prog w) A (.builtin "dict.update.loop" ⟨[.ref D,.ref it,rawInt j,res],[]⟩) R s
 |[],i,s,kvs,j,hi,git,gl,pr,gd,hz,fin=>by
   have hd:items.toList.drop i=[]:=by
    cases e:items.toList.drop i with
    |nil=>rfl
    |cons x xs=>rw[e]at pr;cases pr
   have no:items[i]?=none:=by
    have:=List.drop_eq_nil_iff.mp hd;simp at this ⊢;exact this
   refine codeAny_builtin zh ?_;rw[Around.under_plainId oX _];show aB _ A.in1 (pyNext (.ref it) >>= _) _ _ s;refine aC (wpAny_pyNext_list_end (A:=A.in1) hh git gl no λhp kk=>?_);show aB _ A.in1 (Builtin.Dict.addKeywords D [] >>= λ_=>PySem.ret res) _ _ _;refine aC (bg (bg ?_));exact fin hp s.toks (gd.extBut kk n3.symm) λc o c1 c2 e=>kk c o c2 e
 |p::ps,i,s,kvs,j,hi,git,gl,pr,gd,hz,fin=>by
   cases e:items.toList.drop i with
   |nil=>rw[e]at pr;cases pr
   |cons x xs=>
     rw[e]at pr;cases pr with
     |cons q qs=>
       obtain⟨t,key,rfl,t1,t2,gt,hk⟩:=q;have ex:items[i]?=some (.ref t):=by
        have:=congrArg (·[0]?) e;simpa using this
       have lt:i<items.size:=by
        have:=(Array.getElem?_eq_some_iff.mp ex).1;exact this
       have ed:items.toList.drop (i+1)=xs:=by
        have:=congrArg List.tail e;simpa using this
       refine codeAny_builtin zh ?_;rw[Around.under_plainId oX _];show aB _ A.in1 (pyNext (.ref it) >>= _) _ _ s;refine aC (wpAny_pyNext_list_item (A:=A.in1) git gl ex λh1 git1 s1=>?_);have gt1:h1.IsTuple t #[key,p.2]:=by obtain⟨o,go,r⟩:=gt;exact⟨o,s1.extBut _ _ t2 go,r⟩
       obtain⟨o,go,oc,n,od⟩:=gt1;refine aC (wpAny_holding ?_);refine aC (wpAny_tryCatch ?_);unfold Builtin.Dict.pairItems;refine aC (wpAny_typeOf (T:="tuple") ⟨o,go,oc⟩ ?_);have b1:(Value.type "tuple" == Value.type "list")=false:=by decide
       have b2:(Value.type "tuple" == Value.type "tuple")=true:=by decide
       simp only[b1,b2,Bool.or_true,Bool.false_or,if_true];refine aC (wpAny_seqItems go od ?_);refine bg ?_;show aB _ A.in1 (holding [key,p.2] (dictSet D key p.2)) _ _ _;refine wpAny_holding (wpAny_dictSet_pairs (hsz:=by simp at hz;lia) hk (gd.extBut s1.extBut n3.symm) λh2 gd2 s2=>?_);refine bg ⟨plainId_quiet oX _,?_⟩;have keep:∀c o,c≠D->c≠it->s.heap.get? c=some o->h2.get? c=some o:=λc o c1 c2 e=>(s2.2 c c1).trans (s1.extBut _ _ c2 e);have ls:=DK kvs p.1 p.2;refine yB hh n1 n2 n3 ps (i+1) _ (stored kvs p.1 p.2) (j+1) lt (git1.extBut s2.extBut n3) (gl.at λo e=>keep _ o n2 n1 e) ?_ gd2 (by simp at hz;lia) λhp tk a1 a2=>?_
       ·rw[ed];refine Paired.mapP qs λv r q=>?_;obtain⟨t,key,rfl,t1,t2,⟨o,go,r⟩,hk⟩:=q;exact⟨t,key,rfl,t1,t2,⟨o,keep _ _ t1 t2 go,r⟩,hk⟩
       ·exact fin hp tk a1 λc o c1 c2 e=>a2 c o c1 c2 (keep c o c1 c2 e)
theorem C8{knd:KeyKind prog w Key}{l:af}{its:List ai}{n:Nat}{ps:List (Key×ai)}{Q:ai->ak->Prop}(hh:A.handled=none)(gl:s.heap.get? l=some { cls:=.type "list",data:=.seq its.toArray n })
  (pr:cf (λv (p:Key×ai)=>∃t key,v=.ref t/\s.heap.IsTuple t #[key,p.2]/\knd.is p.1 key=true) its ps) (hz:ps.length≤bh)
  (h:∀h' tk,h'.DictOf knd s.heap.objs.size (stores knd ps [])->(∀c o,s.heap.get? c=some o->h'.get? c=some o)->Q (.ref s.heap.objs.size) { s with heap:=h',toks:=tk }) :
  aB (aD prog w) A (call (.type "dict") [.ref l]) Q E s:=by
 refine callType_codes (Q₁:=λobj s₁=>obj=.ref s.heap.objs.size/\s₁={ s with heap:=s.heap.push { cls:=.type "dict",data:=.dict #[] } }) F.kt_called_dict (F.kt_typeCall_dict_1 _) F.entry_dict_init (kt_code_dict_new _ ⟨rfl,rfl⟩) ?_;rintro obj s₁ ⟨rfl,rfl⟩;have hnew:(s.heap.push { cls:=.type "dict",data:=.dict #[] }).DictOf knd s.heap.objs.size []:=Heap.DictOf.new s.heap;have gl1:(s.heap.push { cls:=.type "dict",data:=.dict #[] }).get? l=some { cls:=.type "list",data:=.seq its.toArray n }:=bI _ gl;refine⟨hnew.typeIs,F.args_dict_init_2 _ _,?_⟩;unfold Builtin.«dict.__init__»;refine aC ?_;unfold Builtin.Dict.selfAndRest;refine aC (wpAny_notOrdered_dict hnew.typeIs ?_);show aB _ _ (pure (s.heap.objs.size,[Value.ref l])) _ _ _;refine bg ?_;show aB _ _ (Builtin.Dict.updateFrom "dict.__init__" s.heap.objs.size (.ref l) [] .none) _ _ _;unfold Builtin.Dict.updateFrom;refine aC (wpAny_typeOf (T:="list") ⟨_,gl1,rfl⟩ ?_);rw[if_pos (by decide)];refine aC (getAttr?_miss gl1 CU (by decide +kernel) hh λh1 tk1 k1=>?_);simp only[Option.isNone_none,if_true];refine aC (wpAny_rule ?_);have lt0:l<s.heap.objs.size:=bD gl;have k0:∀c o,s.heap.get? c=some o->h1.get? c=some o:=λc o e=>k1 c o (bI _ e);have gl2:h1.IsList l its.toArray:=⟨_,k1 _ _ gl1,rfl,n,rfl⟩;have gd1:h1.DictOf knd s.heap.objs.size []:=let ⟨o,es,ep,ho,r⟩:=hnew;⟨o,es,ep,k1 _ _ ho,r⟩;have lt1:s.heap.objs.size<h1.objs.size:=by obtain⟨o,es,ep,ho,r⟩:=gd1;exact bD ho
 refine aC (wpAny_pyIter_list gl2 ?_);refine bg ⟨plainId_quiet oX _,?_⟩;refine yB (A:=A.in1) (knd:=knd) hh (cS (qe lt0 lt1)) (cS lt0) (jb lt1) ps 0 { s with heap:=h1.push { cls:=.type "list_iterator",data:=.fields #[.ref l,.int 0 0] },toks:=tk1 } [] 0 (fB _) ⟨_,eM _ rfl,rfl,rfl⟩ (gl2.at λo e=>bI _ e) ?_ (gd1.push _) (by simpa using hz) λhp tk a1 a2=>?_
 ·rw[List.drop_zero];refine Paired.mapP pr λv r q=>?_;obtain⟨t,key,rfl,⟨o,go,r⟩,hk⟩:=q;have:=bD go;exact⟨t,key,rfl,cS this,cS (qe this lt1),⟨o,bI _ (k0 _ _ go),r⟩,hk⟩
 ·exact ⟨rfl,h hp tk a1 λc o e=>by
   have:=bD e;exact a2 c o (cS this) (cS (qe this lt1)) (bI _ (k0 _ _ e))⟩
end
def PrV(H:Hp):List V->List (Key×V)->Prop:=cf λv p=>∃t,v=.ref t/\H t=some (.tup [kV p.1,p.2])
noncomputable def iJ(ps:List (Key×V))(kvs:List (Key×V)):List (Key×V):=ps.foldl (λd p=>eU d p.1 p.2) kvs
theorem KV.puts{ps:List (Key×V)}{qs:List (Key×ai)}{kvs:List (Key×V)}{vs:List (Key×ai)}(r:KV kvs vs)(h:KV ps qs):KV (iJ ps kvs) (qs.foldl (λd p=>stored d p.1 p.2) vs):=by
 induction h generalizing kvs vs with
 |nil=>exact r
 |@cons p q ps qs x xs ih=>
   have:=ih (r.put p.1 x.2);rw[x.1]at this;show KV (iJ ps (eU kvs p.1 p.2)) _;rw[x.1];exact this
theorem BW:∀(ps kvs:List (Key×V)),(iJ ps kvs).length≤kvs.length+ps.length
 |[],kvs=>by simp[iJ]
 |p::ps,kvs=>by
   have a:=BW ps (eU kvs p.1 p.2);have b:=wG kvs p.1 p.2;show(iJ ps (eU kvs p.1 p.2)).length≤_;simp only[fG];lia
def xK:List V->Hp->VK->Prop:=λxs H Q=>∃a vs ps,xs=[.ref a]/\H a=some (.lst vs)/\PrV H vs ps/\ps.length≤1000/\∀p,H p=none->Q (.ref p) (upd H p (.dK (iJ ps [])))
theorem Ci{X:Cx}{pins:List (af×aE)}{s:ak}{σ:St}{H:Hp}(I:Inv X pins σ H s):∀{vs:List V}{ps:List (Key×V)}{its:List ai},PrV H vs ps->Vals vs its ->
  ∃qs,KV ps qs/\cf (λv (p:Key×ai)=>∃t key,v=.ref t/\s.heap.IsTuple t #[key,p.2]/\(cn X.prog X.w).is p.1 key=true) its qs:=by
 intro vs ps its h1
 induction h1 generalizing its with
 |nil=>intro h2;cases h2;exact⟨[],.nil,.nil⟩
 |@cons v p vs ps x xs ih=>
   intro h2;cases h2 with
   |cons y ys=>?_
   obtain⟨t,rfl,ht⟩:=x;cases y;obtain⟨qs,a,b⟩:=ih ys;obtain⟨_,its,rv,tt⟩:=(show bQ X.prog X.w H s.heap t (.tup [kV p.1,p.2]) from I.hok t _ ht);obtain⟨k,w,rfl,r1,r2⟩:=vals2 rv;exact⟨(p.1,w)::qs,.cons ⟨rfl,r2⟩ a,.cons ⟨t,k,rfl,tt,ku r1⟩ b⟩
theorem FG{X:Cx}(hc:X.calm=true):eO X (.type "dict") xK:=by
 intro pins s σ H xs us Q I r h;obtain⟨a,vs,ps,rfl,ha,pr,hz,q⟩:=h;obtain⟨u,rfl,ru⟩:=vals1 r;cases ru;obtain⟨z,its,n,rv,g⟩:=(show bQ X.prog X.w H s.heap a (.lst vs) from I.hok a _ ha);obtain⟨qs,a1,a2⟩:=Ci I pr rv;have lq:=Paired.length a1;refine C8 (I.ok.hd hc) g a2 (by rw[←lq];exact small hz) λh' tk dd kk=>?_
 have lp:=BW ps [];refine⟨.ref s.heap.objs.size,_,I.laid (a:=s.heap.objs.size) (o:=.dK (iJ ps [])) (t':=tk) kk (bo _) (BJ (by simp at lp;exact cL lp (small hz)) (beq_eq_false_iff_ne.mpr (Ne.symm (cS I.big))) (KV.puts .nil a1) dd),rfl,q _ (I.hok.fresh (bo _))⟩
section
variable {G:Gb}{m:List af}{h:MH}{H:Hp}
theorem Hs{xs:List MV}{vs:List V}{ps:List (Str×MV)}(h1:VRs G m H xs vs):j8 xs=some ps->∃qs,PrV H vs qs/\DR G m H ps qs:=by
 induction h1 generalizing ps with
 |nil=>intro e;cases e;exact⟨[],.nil,.nil⟩
 |@cons x v xs vs r rs ih=>
   intro e;cases x with
   |tup zs=>?_
   |_=>cases e
   unfold j8 at e;split at e
   ·rename_i e0;cases e0
   ·rename_i k y ys e0;injection e0 with e1 e2;cases e1;cases e2
    split at e
    ·rename_i ps' e';cases e;obtain⟨qs,a,b⟩:=ih e';obtain⟨t,ws,rfl,nm,ht,rl⟩:=r;have rl2:=VRl.to rl;cases rl2 with
     |cons r1 rl3=>cases rl3 with
       |cons r2 rl4=>
         cases rl4;cases r1;exact⟨(Sum.inr k,_)::qs,.cons ⟨t,rfl,ht⟩ a,.cons ⟨rfl,r2⟩ b⟩
    ·cases e
   ·cases e
theorem Gj{ps:List (Str×MV)}{qs:List (Key×V)}{kvs:List (Str×MV)}{ws:List (Key×V)}(h1:DR G m H ps qs):DR G m H kvs ws->DR G m H (mT ps kvs) (iJ qs ws):=by
 induction h1 generalizing kvs ws with
 |nil=>exact id
 |@cons p q ps qs x xs ih=>
   intro r;obtain⟨q1,q2⟩:=q;obtain⟨e,rv⟩:=x;cases e;have:=ih (zD (k:=p.1) rv r);exact this
theorem D7:VO1 G sR xK:=by
 intro X E EX m h H x x' Q R rx P;cases x with
 |ref a=>
   obtain⟨aa,ea,rfl⟩:=rx;obtain⟨oa,e1,q1,P1⟩:=cy R ea P;cases oa with
   |lst xs=>
     obtain⟨vs,r,z⟩:=q1;dsimp only at P1;cases e:j8 xs with
     |none=>rw[e]at P1;exact P1.elim
     |some ps=>
       rw[e]at P1;dsimp only at P1;split at P1
       ·rename_i hz;obtain⟨qs,a,b⟩:=Hs r e;refine⟨aa,vs,qs,rfl,z,a,by rw[←Paired.length b];lia,λp hp=>?_⟩;have x:=Ext.new (u:=.dK (iJ qs [])) R hp;refine P1 (m++[p]) (upd H p (.dK (iJ qs []))) x (R.new hp ⟨_,DR.mono x.mn (Gj b .nil),dw⟩) (.ref p) ⟨p,?_,rfl⟩;rw[←R.len];simp
       ·exact P1.elim
   |_=>exact P1.elim
 |_=>exact P.elim
end
end L2.Rv
namespace L2.Rv
open PySem PySem.Spec PyProof.Rows
variable {G:Gb}{X:Cx}{E:ai->ak->Prop}{EX:St->Prop}
end L2.Rv
namespace L2.Rv
open PySem PySem.Builtin PySem.Builtin.Str
end L2.Rv
namespace L2.Rv
noncomputable section
open PySem (Str)
end
end L2.Rv
namespace L2.Rv
open PySem PySem.Spec PyProof.Rows
variable {G:Gb}{X:Cx}{E:ai->ak->Prop}{EX:St->Prop}{m:List af}{h:MH}{H:Hp}
end L2.Rv
namespace L2.Rv
open PySem PySem.Spec PyProof.Rows PySem.W
def qd(P:af)(H:Hp):Prop:=∀b,H b=none∨(∃o xs,H b=some (.frz o (.lst xs)))∨(b=P/\H b=some (.tbl #[]))
theorem F3{P:br}{w:aX}{K:Frag}{mg mb:Str->Option ai}{CX:CXT}{k:Nat}{fa a c tb:af}{fd:bf}{x:Str}{sp:Sp}{s₁:ak}{vs:List ai}{ns:List Int}
  (KX:K.In s₁.heap) (hT:s₁.heap.TableAt c tb #[]) (hKP:K.lookup tb=none) (hns:s₁.heap.Ns dP mg) (hb:s₁.heap.Ns builtinsNs mb) (hbb:∀x:Str,x≠"__name__"->mb x=bootBuiltins x) (hlim:s₁.heap.NoLimit) (hg:s₁.gens=#[])
  (ha:s₁.heap.get? a=some { cls:=.type "list",data:=.seq vs.toArray }) (hi:IntsAre vs ns) (hl:ns.length≤bh) (hr:Room k callerA)
  (F:∀base:aP,K.In base->base.Ns dP mg->ji P w K mg base CX k fa fd [x] sp) (hbind:∀(s:ak) (u:ai),BindsTo s fd ⟨[u],[]⟩ [(x,u)])
  (hsp:∀H:Hp,qd tb H->H tb=some (.tbl #[])->SqL K H a (ns.map V.int)->sp [.ref a] H (λv _=>v=.bl true) λ_ _ _=>False)
  (hCX:∀H e s',CX [] H s₁ (λ_ _ _=>False) e s'->False) :
  codeAny (aD P w) callerA (.call (.ref fa) ⟨[.ref a],[]⟩) (λr s'=>r=.ok (.ret (.bool true))/\OldK s₁.heap s'.heap/\s'.os=s₁.os/\AllBare s'.gens) s₁:=by
 have rv:=xE hi;have lenV:=hi.length;have htb:s₁.heap.get? tb=some { cls:=.none,data:=.fields #[] }:=hT.2;have hta:tb≠a:=λz=>by rw[z,ha]at htb;cases htb
 have core:∀H:Hp,qd tb H->H tb=some (.tbl #[])->SqL K H a (ns.map V.int)->HOk P w H s₁.heap->(∀b,H b≠none->b=a∨b=tb)->(H a≠none->K.lookup a=none) ->
   codeAny (aD P w) callerA (.call (.ref fa) ⟨[.ref a],[]⟩) (λr s'=>r=.ok (.ret (.bool true))/\OldK s₁.heap s'.heap/\s'.os=s₁.os/\AllBare s'.gens) s₁:=by
  intro H hO hH hS hok hA hK;have base_of:∀{b:af}{o:aE},s₁.heap.get? b=some o->H b=none->(jh s₁.heap H).get? b=some o:=λe n=>HD e n;have noA:∀{b:af}{o:aE}{es:Array DictEntry}{ep:Nat},s₁.heap.get? b=some o->o.data=.dict es ep->H b=none:=λ{b o es ep} e d=>by
   cases q:H b with
   |none=>rfl
   |some u=>
     rcases hA b (by rw[q];simp) with e'|e'
     ·subst e';rw[ha]at e;cases e;have d':Data.seq vs.toArray _=Data.dict es ep:=d;cases d'
     ·subst e';rw[htb]at e;cases e;have d':Data.fields _=Data.dict es ep:=d;cases d'
  have nsK:∀{b:af} {m:Str->Option ai},s₁.heap.Ns b m->(jh s₁.heap H).Ns b m:=λ{b m} e0=>e0.elim λo e1=>e1.elim λes e2=>e2.elim λep e3=>e3.elim λe e4=>e4.elim λd r=>⟨o,es,ep,base_of e (noA e d),d,r⟩;have hKb:K.In (jh s₁.heap H):=λb o e=>base_of (KX b o e) (by
   cases q:H b with
   |none=>rfl
   |some u=>
     rcases hA b (by rw[q];simp) with e'|e'
     ·subst e';rw[hK (by rw[q];simp)]at e;cases e
     ·subst e';rw [hKP] at e;cases e)
  have hM:Mod K mg (jh s₁.heap H):=⟨hKb,nsK hns,⟨mb,nsK hb,hbb⟩,let ⟨mc,h1,h2⟩:=hlim;⟨mc,nsK h1,h2⟩⟩;have e0:Env0 P w K mg (jh s₁.heap H) callerA [] s₁ H:=⟨rfl,hM,λb o e=>EW e,pS (C2 _ _),trivial,λb hb=>absurd (show b∈([]:List af) from hb) (by simp),hok,.of_eq hg⟩
  refine codeAny_mono ((F _ hKb (nsK hns)).run callerA [] s₁ H ⟨[.ref a],[]⟩ [.ref a] [.ref a] _ _ hr e0 (hbind s₁ (.ref a)) (.cons rfl .nil) (hsp H hO hH hS)) λr s' h=>?_;cases r with
  |error e=>exact(hCX H e s' h).elim
  |ok fl=>
    cases fl with
    |next=>exact False.elim h
    |brk=>exact False.elim h
    |cont=>exact False.elim h
    |ret u=>
      obtain⟨v,H',os,bare,un,hok',r',q⟩:=h;have q':v=.bl true:=q;subst q';obtain rfl:u=Value.bool true:=r';have kp:∀b o,b≠tb->s₁.heap.get? b=some o->s'.heap.get? b=some o:=λb o hbt e=>by
       cases q:H b with
       |none=>exact un.keep b o e q (by intro z;exact absurd (show b∈([]:List af) from z) (by simp)) (by simp)
       |some u=>
         rcases hO b with z|⟨ob,xs,z⟩|⟨z,_⟩
         ·rw[q]at z;cases z
         ·have z2:=un.frzs b ob _ z;obtain⟨e1,_⟩:=hok b _ z;obtain⟨e2,_⟩:=hok' b _ z2;rw[e]at e1;cases e1;exact e2
         ·exact absurd z hbt
      obtain⟨more,em⟩:=un.tbls tb #[] hH;have em':s'.heap.get? tb=some { cls:=.none,data:=.fields (#[]++more) }:=hok' tb _ em;refine⟨rfl,⟨λb o e=>?_,λb o e=>?_⟩,os,bare⟩
      ·by_cases hbt:b=tb
       ·subst hbt;rw[htb]at e;cases e;exact .inr (.inl ⟨hT.isCodeTable,rfl,#[],more,rfl,em'⟩)
       ·exact .inl (kp b o hbt e)
      ·by_cases hbt:b=tb
       ·subst hbt;exact⟨_,em'⟩
       ·exact⟨o,kp b o hbt e⟩
 cases hk:K.lookup a with
 |some o=>
   have e:=KX a o hk;rw[ha]at e;cases e;refine core (λb=>if b=tb then some (.tbl #[]) else none) (λb=>?_) (if_pos rfl) (.inr ⟨_,vs.toArray,_,hk,rfl,rfl,rfl,by rw[cE,lenV];exact hl,by simpa using rv⟩) (λb u z=>?_) (λb z=>?_) λz=>?_
   ·by_cases hb:b=tb
    ·exact .inr (.inr ⟨hb,if_pos hb⟩)
    ·exact .inl (if_neg hb)
   ·by_cases hb:b=tb
    ·have z':=(if_pos hb).symm.trans z;cases z';subst hb;exact htb
    ·have z':=(if_neg hb).symm.trans z;cases z'
   ·by_cases hb:b=tb
    ·exact .inr hb
    ·exact absurd (if_neg hb) z
   ·exact absurd (if_neg (Ne.symm hta)) z
 |none=>
   refine core (λb=>if b=a then some (.frz { cls:=.type "list",data:=.seq vs.toArray } (.lst (ns.map V.int))) else if b=tb then some (.tbl #[]) else none) (λb=>?_) (by rw[if_neg hta,if_pos rfl]) (.inl (.inr ⟨{ cls:=.type "list",data:=.seq vs.toArray },if_pos rfl⟩)) (λb u z=>?_) (λb z=>?_) λ_=>hk
   ·by_cases hb:b=a
    ·exact .inr (.inl ⟨_,_,if_pos hb⟩)
    ·by_cases hb2:b=tb
     ·exact .inr (.inr ⟨hb2,by dsimp only;rw[if_neg hb,if_pos hb2]⟩)
     ·exact .inl (by dsimp only;rw[if_neg hb,if_neg hb2])
   ·by_cases hb:b=a
    ·have z':=(if_pos hb).symm.trans z;cases z';subst hb;exact⟨ha,by rw[bS];exact hl,vs,_,rv,ha⟩
    ·have z1:(if b=tb then some (HO.tbl #[]) else none)=some u:=(if_neg hb).symm.trans z;by_cases hb2:b=tb
     ·rw[if_pos hb2]at z1;cases z1;subst hb2;exact htb
     ·rw[if_neg hb2]at z1;cases z1
   ·by_cases hb:b=a
    ·exact .inl hb
    ·by_cases hb2:b=tb
     ·exact .inr hb2
     ·exact absurd (by rw[if_neg hb,if_neg hb2]) z
theorem HN{l:OpenLaw}{n k:Nat}{q:br}{loose:List Str}{XP:(Str->Option ai)->aP->Prop}{YP:aX->aP->Prop}{d:DefRec}{K:Params->Frag}{CX:aX->CXT}{tb:af}{sp:aX->Sp}{x:Str}
  (hn:l.most=some n) (hn2:n≤bh) (hdf:d.params.defaults=[]) (hr:Room k callerA)
  (hY:∀(w:aX) (h:aP),YP w h->(K w.params).In h/\h.get? tb=some (tabObj #[]))
  (hK:∀w:aX,(K w.params).lookup tb=none)
  (F:∀(w:aX) (mg:Str->Option ai) (fa:af) (h:aP),(K w.params).In h->h.Ns dP mg->mg d.name=some (.ref fa) ->
   (∃c o vs,(K w.params).lookup c=some o/\o.cls=.type "code"/\o.data=.fields vs/\vs[11]?=some (.ref tb)) /\
   ∃fd:bf,(∀(s:ak) (u:ai),BindsTo s fd ⟨[u],[]⟩ [(x,u)]) /\
    ∀base:aP,(K w.params).In base->base.Ns dP mg->ji l.prog w (K w.params) mg base (CX w) k fa fd [x] (sp w))
  (hsp:∀(w:aX) (H:Hp) (a:af) (ns:List Int),ns.length≤n->qd tb H->H tb=some (.tbl #[])->SqL (K w.params) H a (ns.map V.int)->sp w [.ref a] H (λv _=>v=.bl true) λ_ _ _=>False)
  (hCX:∀(w:aX) (H:Hp) (s:ak) (e:ai) (s':ak),CX w [] H s (λ_ _ _=>False) e s'->False) :
  WalkO q loose XP YP l.row.toRowW d [] (λf vs=>PySem.call f vs):=by
 refine Att.attach_call hn hdf λw s₀ s₁ mg mb fa o pm cd doc a vs ns G Y ho hd hcd hmg hobj hints hlen hg=>?_;obtain⟨KX,ht⟩:=hY w _ Y;obtain⟨⟨c,oc,ws,z1,z2,z3,z4⟩,fd,hb,hF⟩:=F w mg fa _ KX G.T.g hmg;exact F3 KX ⟨⟨oc,ws,KX _ _ z1,z2,z3,z4⟩,ht⟩ (hK w) G.T.g G.T.b G.T.builtins G.T.nolimit hg hobj hints (cL hlen hn2) hr hF hb (λH hO hH hS=>hsp w H a ns hlen hO hH hS) λH e s'=>hCX w H s₁ e s'
noncomputable def KD(K':Params->Frag)(tb:af)(P:Params):Frag:=(K' P).filter λp=>!(ju p.1 tb)
theorem vY(tb b:af):∀K:Frag,(K.filter λp=>!(ju p.1 tb)).lookup b=if b=tb then none else K.lookup b
 |[]=>by simp
 |(a,o)::r=>by
   have ih:=vY tb b r;by_cases ha:a=tb
   ·subst ha;have:(jI (λp:af×aE=>!(ju p.1 a)) ((a,o)::r))=jI (λp=>!(ju p.1 a)) r:=by rw[u8];simp
    rw[this,ih];by_cases hb:b=a
    ·simp[hb]
    ·rw[if_neg hb,if_neg hb,bW];have:(b == a)=false:=by simpa using hb
     rw[this]
   ·have:(jI (λp:af×aE=>!(ju p.1 tb)) ((a,o)::r))=(a,o)::jI (λp=>!(ju p.1 tb)) r:=by
     rw[vG];have:ju a tb=false:=by
      cases q:ju a tb with
      |false=>rfl
      |true=>exact absurd (Nat.eq_of_beq_eq_true q) ha
     simp[this]
    rw[this,bW,bW,ih];by_cases hb:b=a
    ·subst hb;simp[ha]
    ·have:(b == a)=false:=by simpa using hb
     rw[this]
theorem KD_none{K':Params->Frag}{tb:af}{P:Params}:(KD K' tb P).lookup tb=none:=(vY tb tb _).trans (if_pos rfl)
theorem KD_in{K':Params->Frag}{tb:af}{P:Params}{h:aP}(x:(K' P).In h):(KD K' tb P).In h:=λb o e=>by
 have e':=(vY tb b (K' P)).symm.trans e;by_cases hb:b=tb
 ·rw[if_pos hb]at e';cases e'
 ·rw[if_neg hb]at e';exact x b o e'
theorem len1{P:List ai->Prop}(h:∀a,P [a])(us:List ai)(l:us.length=1):P us:=by
 cases us with
 |nil=>cases l
 |cons a us=>cases us with
   |nil=>exact h a
   |cons b us=>cases l
theorem n6{n:Nat}{P:List ai->Prop}(h:∀a us,us.length=n->P (a::us))(us:List ai)(l:us.length=n+1):P us:=by
 cases us with
 |nil=>cases l
 |cons a us=>exact h a us (Nat.succ.inj l)
theorem len2{P:List ai->Prop}(h:∀a b,P [a,b]):∀us:List ai,us.length=2->P us:=n6 λa=>len1 (h a)
theorem len3{P:List ai->Prop}(h:∀a b c,P [a,b,c]):∀us:List ai,us.length=3->P us:=n6 λa=>len2 (h a)
theorem len4{P:List ai->Prop}(h:∀a b c d,P [a,b,c,d]):∀us:List ai,us.length=4->P us:=n6 λa=>len3 (h a)
theorem len5{P:List ai->Prop}(h:∀a b c d e,P [a,b,c,d,e]):∀us:List ai,us.length=5->P us:=n6 λa=>len4 (h a)
theorem len6{P:List ai->Prop}(h:∀a b c d e f,P [a,b,c,d,e,f]):∀us:List ai,us.length=6->P us:=n6 λa=>len5 (h a)
theorem Ij{fd:bf}{v:ai}{p:Pos}(h1:fd.params={ posonlyargs:=[],args:=[{ arg:="name",annotation:=none,pos:=p:PySem.Arg }],vararg:=none,kwonlyargs:=[],kw_defaults:=[],kwarg:=none,defaults:=[] })(h2:fd.defaults=.none)(h3:fd.kwdefaults=.none) :
  bindArgs fd ⟨[v],[]⟩=pure [(aQ "name",v)]:=by
 obtain⟨a,b,c,d,e,f,g,i,j,k,l,n,o,q,r⟩:=fd;simp only at h1 h2 h3;subst h1;subst h2;subst h3;rfl
theorem Cd{scope:Scope}{nm fv:Str}(h:scope.names=[(nm,.local),(fv,.free)]):∀x,scope.names.lookup x=some .free->x=fv:=λx e=>by
 rw[h]at e;simp only[bW]at e;split at e
 ·cases e
 ·split at e
  ·rename_i q;exact eq_of_beq q
  ·simp at e
end L2.Rv
namespace L2.Rv
open PySem (Str)
@[irreducible] def wp{α:Type}(m:M α)(h:MH)(Q:α->MH->Prop)(E:Nat->MH->Prop):Prop:=match m h with
 |.ok a h'=>Q a h'
 |.exc c h'=>E c h'
 |.stuck=>False
abbrev noE:Nat->MH->Prop:=λ_ _=>False
section
variable {α β:Type}{h h':MH}{E:Nat->MH->Prop}
theorem aL(m:M α)(f:α->M β)(Q:β->MH->Prop):wp (bnd m f) h Q E=wp m h (λa h'=>wp (f a) h' Q E) E:=by
 unfold wp bnd;cases m h <;> rfl
theorem bx(a:α)(Q:α->MH->Prop):wp (ret a) h Q E=Q a h:=by unfold wp;rfl
theorem cZ(Q:α->MH->Prop):wp stk h Q E=False:=by unfold wp;rfl
theorem Ix(c:Nat)(Q:α->MH->Prop):wp (rse c) h Q E=E c h:=by unfold wp;rfl
theorem mH(o:MO)(Q:MV->MH->Prop):wp (new o) h Q E=Q (.ref h.length) (h++[o]):=by unfold wp;rfl
theorem yI{n:Nat}{o:MO}(e:h[n]?=some o)(Q:MO->MH->Prop):wp (look n) h Q E=Q o h:=by
 unfold wp look;rw[e]
theorem dk{c:Prop}[Decidable c](a b:M α)(Q:α->MH->Prop):wp (if c then a else b) h Q E=if c then wp a h Q E else wp b h Q E:=by
 by_cases q:c
 ·rw[if_pos q,if_pos q]
 ·rw[if_neg q,if_neg q]
theorem uD{m m':M α}{Q:α->MH->Prop}(e:m h=m' h):wp m h Q E=wp m' h Q E:=by unfold wp;rw[e]
theorem fe{m:M α}{Q Q':α->MH->Prop}{E':Nat->MH->Prop}(w:wp m h Q E)(f:∀a h',Q a h'->Q' a h')(g:∀c h',E c h'->E' c h'):wp m h Q' E':=by
 unfold wp at w ⊢;cases e:m h with
 |ok a h'=>rw[e]at w;exact f a h' w
 |exc c h'=>rw[e]at w;exact g c h' w
 |stuck=>rw[e]at w;exact w
theorem mC{m:M α}{Q:α->MH->Prop}(w:wp m h Q noE):∃a h',m h=.ok a h'/\Q a h':=by
 unfold wp at w;cases e:m h with
 |ok a h'=>rw[e]at w;exact⟨a,h',rfl,w⟩
 |exc c h'=>rw[e]at w;exact w.elim
 |stuck=>rw[e]at w;exact w.elim
theorem cI{m:M α}{a:α}{Q:α->MH->Prop}(e:m h=.ok a h')(q:Q a h'):wp m h Q E:=by
 unfold wp;rw[e];exact q
end
def Pre(h h':MH):Prop:=∃t,h'=h++t
section
variable {h h1 h2:MH}{n:Nat}{o:MO}
theorem Pre.refl:Pre h h:=⟨[],by simp⟩
theorem Pre.trans(a:Pre h h1)(b:Pre h1 h2):Pre h h2:=by
 obtain⟨t,rfl⟩:=a;obtain⟨u,rfl⟩:=b;exact⟨t++u,by simp⟩
theorem Pre.app(o:MO):Pre h (h++[o]):=⟨[o],rfl⟩
theorem Pre.snoc(a:Pre h h1)(o:MO):Pre h (h1++[o]):=a.trans (Pre.app o)
theorem aS(e:h[n]?=some o):n<h.length:=(bN.mp e).1
theorem Pre.get(a:Pre h h1)(e:h[n]?=some o):h1[n]?=some o:=by
 obtain⟨t,rfl⟩:=a;rw[gB (aS e)];exact e
theorem Pre.len(a:Pre h h1):h.length≤h1.length:=by
 obtain⟨t,rfl⟩:=a;simp
theorem Pre.set(a:Pre h h1)(hn:h.length≤n):Pre h (h1.set n o):=by
 obtain⟨t,rfl⟩:=a;exact⟨t.set (n-h.length) o,by rw[List.set_append_right _ _ hn]⟩
theorem dH{g:MH}(e:h[n]?=some o):(h++g)[n]?=some o:=by
 rw[gB (aS e)];exact e
theorem bE:(h++[o])[h.length]?=some o:=by simp
theorem dU(e:n<h.length):(h.set n o)[n]?=some o:=by simp[e]
theorem bL{k:Nat}{o':MO}(e:h[k]?=some o')(ne:n≠k):(h.set n o)[k]?=some o':=by rw[kJ ne];exact e
end
theorem cg{p n:Nat}{b:MS}{vs:List MV}{h:MH}{Q:MV->MH->Prop}{E:Nat->MH->Prop}(hl:vs.length=p)(w:wp (b (vs.map some++bU (n - vs.length) none)) h (λf h'=>match f with
   |.next _=>Q .non h'
   |.ret v=>Q v h'
   | _=>False) E):wp (fnOf p n b vs) h Q E:=by
 unfold fnOf;rw[if_pos hl,aL];refine fe w (λf h' q=>?_) λ_ _ z=>z;cases f <;> dsimp only at q ⊢ <;> first|exact q.elim|(rw[bx];exact q)
theorem dR{s:Src}{is:List Nat}{body:MS}{h:MH}{σ:MSt}{Q:MF->MH->Prop}{E:Nat->MH->Prop}{all:List (List MV)}(I:Nat->MSt->MH->Prop)(hok:∀k σ h,I k σ h->s.okIn h=true)
  (turn:∀k x σ h,all[k]? = some x->I k σ h->wp (body (cj is x σ)) h (λf h'=>match f with
   |.next σ'=>I (k+1) σ' h'
   |.cnt σ'=>I (k+1) σ' h'
   |.brk σ'=>Q (.next σ') h'
   | .ret v=>Q (.ret v) h') E) (last:∀σ h,I all.length σ h->Q (.next σ) h) (h0:I 0 σ h):wp (dZ s is body all σ) h Q E:=by
 have go:∀(d k:Nat) (σ:MSt) (h:MH),all.length-k=d->k≤all.length->I k σ h->wp (dZ s is body (all.drop k) σ) h Q E:=by
  intro d
  induction d with
  |zero=>
    intro k σ h hd hk i;have:k=all.length:=by lia
    subst this;rw[r6];have ok:=hok _ _ _ i;have e:dZ s is body [] σ h=.ok (.next σ) h:=by simp[dZ,ok]
    exact cI e (last σ h i)
  |succ d ih=>
    intro k σ h hd hk i;have hlt:k<all.length:=by lia
    have ok:=hok _ _ _ i;rw [mV hlt];have e:dZ s is body (all[k]::all.drop (k + 1)) σ h=bnd (body (cj is all[k] σ)) (λf=>match f with
     |.next σ'=>dZ s is body (all.drop (k+1)) σ'
     |.cnt σ'=>dZ s is body (all.drop (k+1)) σ'
     |.brk σ'=>ret (.next σ')
     | .ret v=>ret (.ret v)) h:=by
     conv=>lhs;unfold dZ
     rw[if_pos ok]
     try rfl
    rw[uD e,aL];refine fe (turn k all[k] σ h (by simp[hlt]) i) (λf h' q=>?_) λ_ _ z=>z;cases f with
    |next σ'=>exact ih (k+1) σ' h' (by lia) hlt q
    |cnt σ'=>exact ih (k+1) σ' h' (by lia) hlt q
    |brk σ'=>dsimp only at q ⊢;rw[bx];exact q
    |ret v=>dsimp only at q ⊢;rw[bx];exact q
 simpa using go all.length 0 σ h (by lia) (fB _) h0
theorem zc{t:ME}{body:MS}{σ:MSt}{h:MH}{Q:MF->MH->Prop}{E:Nat->MH->Prop}(I:Nat->MSt->MH->Prop)
  (turn:∀k σ h,I k σ h->wp (tst t σ) h (λb h'=>if b=true then wp (body σ) h' (λf h''=>match f with
   |.next σ'=>∃j,j<k/\I j σ' h''
   |.cnt σ'=>∃j,j<k/\I j σ' h''
   |.brk σ'=>Q (.next σ') h''
   | .ret v=>Q (.ret v) h'') E else Q (.next σ) h') E) {k:Nat} (hk:k < 1000) (h0:I k σ h):wp (qI t body σ) h Q E:=by
 have go:∀(n k:Nat) (σ:MSt) (h:MH),k<n->I k σ h->wp (kU t body n σ) h Q E:=by
  intro n
  induction n with
  |zero=>intro k σ h hk;lia
  |succ n ih=>
    intro k σ h hk i;rw[show kU t body (n+1) σ=bnd (tst t σ) _ from rfl,aL];refine fe (turn k σ h i) (λb h' q=>?_) λ_ _ z=>z;cases b with
    |false=>
      rw[if_neg cK]at q ⊢;rw[bx];exact q
    |true=>
      rw[if_pos rfl]at q ⊢;rw[aL];refine fe q (λf h'' q=>?_) λ_ _ z=>z;cases f with
      |next σ'=>obtain⟨j,hj,i⟩:=q;exact ih j σ' h'' (by lia) i
      |cnt σ'=>obtain⟨j,hj,i⟩:=q;exact ih j σ' h'' (by lia) i
      |brk σ'=>dsimp only at q ⊢;rw[bx];exact q
      |ret v=>dsimp only at q ⊢;rw[bx];exact q
 exact go 1000 k σ h hk h0
noncomputable def fi(cond:Option ME)(σ:MSt):M Bool:=match cond with
 |none=>ret true
 |some t=>tst t σ
theorem yW{s:Src}{cond:Option ME}{elt:ME}{σ:MSt}{h:MH}{c:List MV->Bool}{F:List MV->MV->MH->Prop}(hF:∀x v h1 h2,F x v h1->Pre h1 h2->F x v h2)(hok:∀h',Pre h h'->s.okIn h'=true):∀(items:List (List MV)) (h1:MH),Pre h h1 ->
  (∀x∈items,∀h1,Pre h h1->wp (fi cond (σ++x.map some)) h1 (λb h2=>b=c x/\Pre h1 h2) noE) ->
  (∀x∈items,c x=true->∀h1,Pre h h1->wp (elt (σ++x.map some)) h1 (λv h2=>F x v h2/\Pre h1 h2) noE) ->
  wp (df s cond elt σ items) h1 (λvs h2=>vs.length=(items.filter c).length/\(∀(i:Nat) (x:List MV) (v:MV),(items.filter c)[i]?=some x->vs[i]?=some v->F x v h2)/\Pre h1 h2) noE
 |[],h1,p,_,_=>by
   have e:df s cond elt σ [] h1=.ok [] h1:=by simp[df,hok h1 p]
   exact cI e ⟨rfl,λi x v a b=>by simp at a,.refl⟩
 |x::r,h1,p,a1,a2=>by
   have ih:=λh2 p2=>yW hF hok r h2 p2 (λy hy=>a1 y (dO _ hy)) (λy hy=>a2 y (dO _ hy));have e:df s cond elt σ (x::r) h1=bnd (fi cond (σ++x.map some)) (λk=>if k=true then bnd (elt (σ++x.map some)) λv=>bnd (df s cond elt σ r) λws=>ret (v::ws) else df s cond elt σ r) h1:=by
    conv=>lhs;unfold df
    rw[if_pos (hok h1 p)];cases cond <;> rfl
   rw[uD e,aL];refine fe (a1 x fA h1 p) (λb h2 e0=>e0.elim λeb p2=>?_) λ_ _ z=>z;subst eb;cases hc:c x with
   |true=>
     rw[if_pos rfl,aL];refine fe (a2 x fA hc h2 (p.trans p2)) (λv h3 e0=>e0.elim λfv p3=>?_) λ_ _ z=>z;rw[aL];refine fe (ih h3 ((p.trans p2).trans p3)) (λws h4 e0=>e0.elim λq1 e1=>e1.elim λq2 p4=>?_) λ_ _ z=>z;rw[bx];refine⟨by simp[hc,q1],λi y u ey eu=>?_,(p2.trans p3).trans p4⟩;rw[vG hc]at ey;cases i with
     |zero=>simp at ey eu;subst ey;subst eu;exact hF _ _ _ _ fv p4
     |succ i=>exact q2 i y u (by simpa using ey) (by simpa using eu)
   |false=>
     rw[if_neg cK];refine fe (ih h2 (p.trans p2)) (λws h4 e0=>e0.elim λq1 e1=>e1.elim λq2 p4=>?_) λ_ _ z=>z;rw[u8 (by simp[hc])];exact⟨q1,q2,p2.trans p4⟩
theorem Au{α:Type}{m:M α}{h:MH}{Q:α->MH->Prop}{E:Nat->MH->Prop}(w:wp m h Q noE):wp (mf m) h Q E:=by
 obtain⟨a,h',e,q⟩:=mC w;have e2:mf m h=.ok a h':=by simp only[mf,e]
 exact cI e2 q
theorem oJ{src:MI}{cond:Option ME}{elt:ME}{σ:MSt}{h:MH}{Q:MV->MH->Prop}{E:Nat->MH->Prop}{s:Src}{h1:MH}(c:List MV->Bool)(f:List MV->MV)(hs:src σ h=.ok s h1)(hok:∀h',Pre h1 h'->s.okIn h'=true)(hlen:s.items.length≤100000)
  (a1:∀x∈s.items,∀h2,Pre h1 h2->wp (fi cond (σ++x.map some)) h2 (λb h3=>b=c x/\Pre h2 h3) noE)
  (a2:∀x∈s.items,c x=true->∀h2,Pre h1 h2->wp (elt (σ++x.map some)) h2 (λv h3=>v=f x/\Pre h2 h3) noE)
  (q:∀h2,Pre h1 h2->Q (.ref h2.length) (h2++[.lst ((s.items.filter c).map f)])):wp (eZ src cond elt σ) h Q E:=by
 unfold eZ;rw[aL];refine cI hs ?_;rw[if_pos hlen,aL];refine Au (fe (yW (F:=λx v _=>v=f x) (λ_ _ _ _ z _=>z) hok s.items h1 .refl a1 a2) (λvs h2 e0=>e0.elim λq1 e1=>e1.elim λq2 p=>?_) λ_ _ z=>z);rw[mH];have e:vs=(s.items.filter c).map f:=by
  apply kR;intro i;rw[bj];cases ex:(s.items.filter c)[i]? with
  |none=>
    rw[mO]at ex;rw[Option.map_none,mO];lia
  |some x=>
    have hi:i<vs.length:=by rw[q1];exact(bN.mp ex).1
    have ev:vs[i]?=some vs[i]:=by simp[hi]
    rw[ev,q2 i x _ ex ev];rfl
 rw[e];exact q h2 p
theorem EA{e e':ME}{σ:MSt}{h:MH}{i j:Int}{n:Nat}(h1:e σ h=.ok (.int i) h)(h2:e' σ h=.ok (.int j) h)(b1:-1000000≤i/\i≤1000000)(b2:-1000000≤j/\j≤1000000)(hn:(j-i).toNat=n):i5 e e' σ h=.ok ⟨dE i n,[]⟩ h:=by
 have q:-(2 ^ 62)≤i/\i<2 ^ 62/\-(2 ^ 62)≤j/\j<2 ^ 62:=by lia
 simp only[i5,bnd,h1,h2];rw[if_pos q,hn];rfl
theorem kZ{e:ME}{σ:MSt}{h h':MH}{j:Int}{n:Nat}(h1:e σ h=.ok (.int j) h')(b2:-1000000≤j/\j≤1000000)(hn:j.toNat=n):fX e σ h=.ok ⟨dE 0 n,[]⟩ h':=by
 have q:-(2 ^ 62)≤j/\j<2 ^ 62:=by lia
 simp only[fX,bnd,h1];rw[if_pos q,hn];rfl
theorem fE{e:ME}{σ:MSt}{h h':MH}{n:Nat}{xs:List MV}(h1:e σ h=.ok (.ref n) h')(h2:h'[n]?=some (.lst xs)):c9 e σ h=.ok ⟨xs.map λv=>[v],[(n,xs)]⟩ h':=by
 simp only[c9,bnd,h1,look,h2];rfl
theorem ua{e e':ME}{σ:MSt}{h h1 h2:MH}{n k:Nat}{xs ys:List MV}(a1:e σ h=.ok (.ref n) h1)(a2:e' σ h1=.ok (.ref k) h2)(b1:h2[n]?=some (.lst xs))(b2:h2[k]?=some (.lst ys)):l7 e e' σ h=.ok ⟨dM xs ys,[(n,xs),(k,ys)]⟩ h2:=by
 simp only[l7,bnd,a1,a2,look,b1,b2];rfl
theorem GR{e e':ME}{σ:MSt}{h h1 h2:MH}{i j:Int}{n:Nat}(a1:e σ h=.ok (.int i) h1)(a2:e' σ h1=.ok (.int j) h2)(b1:-1000000≤i/\i<1000000/\-1000000≤j/\j<1000000)(hn:(i-j).toNat=n):rK e e' σ h=.ok ⟨iX i n,[]⟩ h2:=by
 simp only[rK,bnd,a1,a2];rw[if_pos b1,hn];rfl
theorem Cf{lo:Int}{n k:Nat}(h:k<n):(iX lo n)[k]?=some [.int (lo-(k:Nat))]:=by
 unfold iX;rw[bj,gR h];rfl
theorem AX{lo:Int}{n:Nat}:(iX lo n).length=n:=by simp[iX]
theorem vD{items:List (List MV)}{h:MH}{n k:Nat}{xs ys:List MV}(e:h[n]?=some (.lst xs))(e':h[k]?=some (.lst ys)):(Src.mk items [(n,xs),(k,ys)]).okIn h=true:=by simp[Src.okIn,iO,e,e']
theorem d6{items:List (List MV)}{h:MH}{n:Nat}{xs:List MV}(e:h[n]?=some (.lst xs)):(Src.mk items [(n,xs)]).okIn h=true:=by simp[Src.okIn,iO,e]
theorem my{lo:Int}{n k:Nat}(h:k<n):(dE lo n)[k]?=some [.int (lo+(k:Nat))]:=by
 unfold dE;rw[bj,gR h];rfl
theorem gM{lo:Int}{n:Nat}:(dE lo n).length=n:=by simp[dE]
theorem vC{lo:Int}{n:Nat}{x:List MV}(h:x∈dE lo n):∃k,k<n/\x=[.int (lo+(k:Nat))]:=by
 unfold dE at h;obtain⟨k,hk,rfl⟩:=bO.mp h;exact⟨k,jk.mp hk,rfl⟩
theorem jd{α:Type}(xs:List α)(k:Nat):atN xs (k:Int)=xs[k]?:=by
 unfold atN;rw[if_pos (Int.natCast_nonneg k),Int.toNat_natCast]
noncomputable def cell(ns:List Int)(k:Int):Int:=ns.getD k.toNat 0
section
variable {α β:Type}{h:MH}{E:Nat->MH->Prop}{σ:MSt}
theorem jZ{c:Prop}[Decidable c]{p:Prop}:(if c then p else False)=(c/\p):=by
 by_cases q:c <;> simp[q]
theorem dB(n:Nat)(Q:MO->MH->Prop):wp (look n) h Q E=(match h[n]? with
  |some o=>Q o h
  | none=>False):=by
 unfold wp look;cases h[n]? <;> first|rfl|(unfold wp;rfl)
theorem lP(n:Nat)(o:MO)(Q:Unit->MH->Prop):wp (put n o) h Q E=(n<h.length/\Q () (h.set n o)):=by
 unfold wp put;by_cases e:n<h.length <;> simp[e]
@[simp] theorem aK(i:Nat)(Q:MV->MH->Prop):wp (ae i σ) h Q E=(match σ[i]? with
  |some (some v)=>Q v h
  | _=>False):=by
 unfold wp ae;cases e:σ[i]? with
 |none=>first|rfl|(unfold wp;rfl)
 |some u=>cases u <;> first|rfl|(unfold wp;rfl)
@[simp] theorem w_c(v:MV)(Q:MV->MH->Prop):wp (eC v σ) h Q E=Q v h:=by unfold wp;rfl
@[simp] theorem bq(f:Op2)(a b:ME)(Q:MV->MH->Prop):wp (aj f a b σ) h Q E=wp (a σ) h (λx h1=>wp (b σ) h1 (λy h2=>wp (f x y) h2 Q E) E) E:=by
 unfold aj;simp only[aL]
@[simp] theorem hX(f:Op1)(a:ME)(Q:MV->MH->Prop):wp (eUn f a σ) h Q E=wp (a σ) h (λx h1=>wp (f x) h1 Q E) E:=by
 unfold eUn;simp only[aL]
theorem I0(g:ME)(Q:Bool->MH->Prop):wp (tst g σ) h Q E=wp (g σ) h (λv h1=>match v with
  |.bl b=>Q b h1
  | _=>False) E:=by
 unfold tst;rw[aL];congr 1;funext v h1;cases v <;> first|rfl|(unfold wp;rfl)
@[simp] theorem cY(g:ME)(Q:Bool->MH->Prop):wp (tst g σ) h Q E=wp (g σ) h (λv h1=>match v with
  |.bl b=>Q b h1
  | _=>False) E:=I0 g Q
@[simp] theorem w_not(a:ME)(Q:MV->MH->Prop):wp (fH a σ) h Q E=wp (tst a σ) h (λb h1=>Q (.bl (!b)) h1) E:=by
 unfold fH;simp only[aL,bx]
@[simp] theorem Jy(a b:ME)(Q:MV->MH->Prop):wp (mE a b σ) h Q E=wp (tst a σ) h (λc h1=>if c=true then wp (b σ) h1 Q E else Q (.bl false) h1) E:=by
 unfold mE;simp only[aL,dk,bx]
@[simp] theorem nB(a b:ME)(Q:MV->MH->Prop):wp (eOr a b σ) h Q E=wp (tst a σ) h (λc h1=>if c=true then Q (.bl true) h1 else wp (b σ) h1 Q E) E:=by
 unfold eOr;simp only[aL,dk,bx]
@[simp] theorem bp(Q:List MV->MH->Prop):wp (az σ) h Q E=Q [] h:=by unfold wp;rfl
@[simp] theorem bv(e:ME)(r:MA)(Q:List MV->MH->Prop):wp (ao e r σ) h Q E=wp (e σ) h (λx h1=>wp (r σ) h1 (λxs h2=>Q (x::xs) h2) E) E:=by
 unfold ao;simp only[aL,bx]
@[simp] theorem sJ(a:MA)(Q:MV->MH->Prop):wp (eT a σ) h Q E=wp (a σ) h (λxs h1=>xs.length≤1000/\Q (.ref h1.length) (h1++[.lst xs])) E:=by
 unfold eT;rw[aL];congr 1;funext xs h1;rw[dk,mH,cZ];by_cases c:xs.length≤1000 <;> simp[c]
@[simp] theorem jJ(a:MA)(Q:MV->MH->Prop):wp (dX a σ) h Q E=wp (a σ) h (λxs h1=>xs.length≤1000/\Q (.tup xs) h1) E:=by
 unfold dX;rw[aL];congr 1;funext xs h1;rw[dk,bx,cZ];by_cases c:xs.length≤1000 <;> simp[c]
@[simp] theorem dG(f:Fn)(a:MA)(Q:MV->MH->Prop):wp (bM f a σ) h Q E=wp (a σ) h (λxs h1=>wp (f xs) h1 Q E) E:=by
 unfold bM;simp only[aL]
@[simp] theorem wC(c:Nat)(f:Fn)(a:MA)(Q:MV->MH->Prop):wp (js c f a σ) h Q E=wp (a σ) h (λxs h1=>wp (f (.ref h1.length::xs)) (h1++[.ins c []]) (λv h2=>v=.non/\Q (.ref h1.length) h2) E) E:=by
 unfold js;simp only[aL,mH];congr 1;funext xs h1;congr 1;funext v h2;cases v <;> simp[bx,cZ]
@[simp] theorem qF(c:Nat)(mth:String)(f:Fn)(o:ME)(a:MA)(Q:MV->MH->Prop):wp (bG c mth f o a σ) h Q E=wp (o σ) h (λx h1=>match x with
  | .ref n=>(match h1[n]? with
    |some (.ins c' fs)=>c'=c/\fs.lookup mth=none/\wp (a σ) h1 (λxs h2=>wp (f (x::xs)) h2 Q E) E
    | _=>False)
  | _=>False) E:=by
 unfold bG;rw[aL];congr 1;funext x h1;cases x with
 |ref n=>
   dsimp only;rw[aL,dB];cases h1[n]? with
   |none=>first|rfl|(unfold wp;rfl)
   |some ob=>cases ob with
     |ins c' fs=>
       dsimp only;rw[dk,aL,cZ];by_cases q:c'=c <;> by_cases q2:fs.lookup mth=none <;> simp[q,q2]
     |_=>first|rfl|(unfold wp;rfl)
 |_=>first|rfl|(unfold wp;rfl)
@[simp] theorem lC(o:ME)(cs:List Nat)(f:String)(Q:MV->MH->Prop):wp (aZ o cs f σ) h Q E=wp (o σ) h (λx h1=>match x with
  | .ref n=>(match h1[n]? with
    | some (.ins c fs)=>cs.contains c=true/\(match fs.lookup f with
      |some v=>Q v h1
      | none=>False)
    | _=>False)
  | _=>False) E:=by
 unfold aZ;rw[aL];congr 1;funext x h1;cases x with
 |ref n=>
   dsimp only;rw[aL,dB];cases h1[n]? with
   |none=>first|rfl|(unfold wp;rfl)
   |some ob=>cases ob with
     |ins c' fs=>
       dsimp only;by_cases q:cs.contains c'=true
       ·rw[if_pos q];cases fs.lookup f <;> simp only[bx,cZ,q,true_and,and_false]
       ·rw[if_neg q];simp only[cZ,q,false_and,cJ]
     |_=>first|rfl|(unfold wp;rfl)
 |_=>first|rfl|(unfold wp;rfl)
@[simp] theorem jj(i j:Int)(Q:MV->MH->Prop):wp (bY (.int i) (.int j)) h Q E=Q (.int (i+j)) h:=by unfold wp;rfl
@[simp] theorem Jl(i j:Str)(Q:MV->MH->Prop):wp (bY (.str i) (.str j)) h Q E=(i.length+j.length≤100000/\Q (.str (i++j)) h):=by
 unfold bY;dsimp only;rw[dk,bx,cZ];by_cases c:i.length+j.length≤100000 <;> simp[c]
@[simp] theorem w6(a b:Nat)(Q:MV->MH->Prop):wp (bY (.ref a) (.ref b)) h Q E=(match h[a]?,h[b]? with
  |some (.lst xs),some (.lst ys)=>xs.length+ys.length≤100000/\Q (.ref h.length) (h++[.lst (xs++ys)])
  | _,_=>False):=by
 unfold bY;dsimp only;rw[aL,dB];cases h[a]? with
 |none=>first|rfl|(unfold wp;rfl)
 |some oa=>
   dsimp only;rw[aL,dB];cases h[b]? with
   |none=>cases oa <;> first|rfl|(unfold wp;rfl)
   |some ob=>cases oa <;> cases ob <;> first|rfl|(unfold wp;rfl)|(dsimp only;rw[dk,mH,cZ];rename_i xs ys;by_cases c:xs.length+ys.length≤100000 <;> simp[c])
@[simp] theorem kM(i j:Int)(Q:MV->MH->Prop):wp (gE (.int i) (.int j)) h Q E=Q (.int (i-j)) h:=by unfold wp;rfl
@[simp] theorem Eh(i j:Int)(Q:MV->MH->Prop):wp (fL (.int i) (.int j)) h Q E=(((-(2 ^ 64)<i/\i<2 ^ 64)∨(-(2 ^ 64)<j/\j<2 ^ 64))/\Q (.int (i*j)) h):=by
 unfold fL;dsimp only;rw[dk,bx,cZ];by_cases c:(-(2 ^ 64)<i/\i<2 ^ 64)∨(-(2 ^ 64)<j/\j<2 ^ 64) <;> simp[c]
@[simp] theorem jM(i j:Int)(Q:MV->MH->Prop):wp (cx (.int i) (.int j)) h Q E=(0<j/\Q (.int (i%j)) h):=by
 unfold cx;dsimp only;rw[dk,bx,cZ];by_cases c:0<j <;> simp[c]
@[simp] theorem kB(i j:Int)(Q:MV->MH->Prop):wp (dS (.int i) (.int j)) h Q E=((0<j/\j<1073741824)/\Q (.int (i/j)) h):=by
 unfold dS;dsimp only;rw[dk,bx,cZ];by_cases c:0<j/\j<1073741824 <;> simp[c]
@[simp] theorem wv(i:Int)(Q:MV->MH->Prop):wp (oI (.int i)) h Q E=Q (.int (-i)) h:=by unfold wp;rfl
@[simp] theorem w_lt(i j:Int)(Q:MV->MH->Prop):wp (oLt (.int i) (.int j)) h Q E=Q (.bl (decide (i<j))) h:=by unfold wp;rfl
@[simp] theorem qB(i j:Int)(Q:MV->MH->Prop):wp (oGt (.int i) (.int j)) h Q E=Q (.bl (decide (j<i))) h:=by unfold wp;rfl
@[simp] theorem Jo(i j:Int)(Q:MV->MH->Prop):wp (oGe (.int i) (.int j)) h Q E=Q (.bl (decide (j≤i))) h:=by unfold wp;rfl
@[simp] theorem Ju(i:Int)(Q:MV->MH->Prop):wp (sT (.int i)) h Q E=Q (.bl false) h:=by unfold wp;rfl
@[simp] theorem JE(i:Int)(Q:MV->MH->Prop):wp (kY (.int i)) h Q E=Q (.bl true) h:=by unfold wp;rfl
@[simp] theorem Jm(Q:MV->MH->Prop):wp (kY .non) h Q E=Q (.bl false) h:=by unfold wp;rfl
@[simp] theorem kg(i j:Int)(Q:MV->MH->Prop):wp (oEq (.int i) (.int j)) h Q E=Q (.bl (decide (i=j))) h:=by
 unfold oEq;rw[if_pos (show n8 (.int i) (.int j)=true from rfl),bx];by_cases e:i=j <;> simp[e]
@[simp] theorem pJ(i j:Int)(Q:MV->MH->Prop):wp (oNe (.int i) (.int j)) h Q E=Q (.bl (!decide (i=j))) h:=by
 unfold oNe;rw[if_pos (show n8 (.int i) (.int j)=true from rfl),bx];by_cases e:i=j <;> simp[e]
@[simp] theorem Jx(i j:Str)(Q:MV->MH->Prop):wp (oNe (.str i) (.str j)) h Q E=Q (.bl (!decide (i=j))) h:=by
 unfold oNe;rw[if_pos (show n8 (.str i) (.str j)=true from rfl),bx];by_cases e:i=j <;> simp[e]
@[simp] theorem fS(a:Nat)(i:Int)(Q:MV->MH->Prop):wp (oIx (.ref a) (.int i)) h Q E=(match h[a]? with
  | some (.lst xs)=>(match atN xs i with
    |some v=>Q v h
    | none=>False)
  | _=>False):=by
 unfold oIx;dsimp only;rw[aL,dB];cases h[a]? with
 |none=>first|rfl|(unfold wp;rfl)
 |some o=>cases o with
   |lst xs=>dsimp only;cases atN xs i <;> first|rfl|(unfold wp;rfl)
   |_=>first|rfl|(unfold wp;rfl)
@[simp] theorem cB(xs:List MV)(i:Int)(Q:MV->MH->Prop):wp (oIx (.tup xs) (.int i)) h Q E=(match atN xs i with
   |some v=>Q v h
   | none=>False):=by
 unfold oIx;dsimp only;cases atN xs i <;> first|rfl|(unfold wp;rfl)
@[simp] theorem tH(a:Nat)(Q:MV->MH->Prop):wp (cz (.ref a)) h Q E=(match h[a]? with
  |some (.lst xs)=>Q (.int xs.length) h
  |some (.dct xs)=>Q (.int xs.length) h
  | _=>False):=by
 unfold cz;dsimp only;rw[aL,dB];cases h[a]? with
 |none=>first|rfl|(unfold wp;rfl)
 |some o=>cases o <;> first|rfl|(unfold wp;rfl)
@[simp] theorem JC(xs:List MV)(Q:MV->MH->Prop):wp (cz (.tup xs)) h Q E=Q (.int xs.length) h:=by unfold wp;rfl
@[simp] theorem Jv(s:Str)(Q:MV->MH->Prop):wp (cz (.str s)) h Q E=(s.length≤100000/\Q (.int s.length) h):=by
 unfold cz;dsimp only;rw[dk,bx,cZ];by_cases c:s.length≤100000 <;> simp[c]
@[simp] theorem Jr(a:Nat)(Q:MV->MH->Prop):wp (mx (.ref a)) h Q E=(match h[a]? with
  |some (.lst xs)=>Q (.ref h.length) (h++[.lst xs])
  | _=>False):=by
 unfold mx;dsimp only;rw[aL,dB];cases h[a]? with
 |none=>first|rfl|(unfold wp;rfl)
 |some o=>cases o <;> first|rfl|(unfold wp;rfl)
@[simp] theorem JF(b:Bool)(Q:MV->MH->Prop):wp (ur (.bl b)) h Q E=Q (.int (if b then 1 else 0)) h:=by unfold wp;rfl
@[simp] theorem oS(neg:Bool)(x:MV)(a:Nat)(Q:MV->MH->Prop):wp (oIn neg x (.ref a)) h Q E=(match h[a]? with
  |some (.lst xs)=>(flat x=true/\xs.all flat=true)/\Q (.bl (if neg then !inM x xs else inM x xs)) h
  | some (.dct kvs)=>(match x with
    |.str k=>Q (.bl (if neg then !(dget k kvs).isSome else(dget k kvs).isSome)) h
    | _=>False)
  | _=>False):=by
 unfold oIn;dsimp only;rw[aL,dB];cases h[a]? with
 |none=>first|rfl|(unfold wp;rfl)
 |some o=>cases o with
   |lst xs=>
     dsimp only;rw[dk,bx,cZ];by_cases c:flat x=true/\xs.all flat=true <;> simp[c]
   |dct kvs=>dsimp only;cases x <;> first|rfl|(unfold wp;rfl)
   |_=>first|rfl|(unfold wp;rfl)
@[simp] theorem kr(a:Nat)(k:Str)(Q:MV->MH->Prop):wp (oIx (.ref a) (.str k)) h Q E=(match h[a]? with
  | some (.dct kvs)=>(match dget k kvs with
    |some v=>Q v h
    | none=>False)
  | _=>False):=by
 unfold oIx;dsimp only;rw[aL,dB];cases h[a]? with
 |none=>first|rfl|(unfold wp;rfl)
 |some o=>cases o with
   |dct xs=>dsimp only;cases dget k xs <;> first|rfl|(unfold wp;rfl)
   |_=>first|rfl|(unfold wp;rfl)
@[simp] theorem JB(s:Str)(i:Int)(Q:MV->MH->Prop):wp (oIx (.str s) (.int i)) h Q E=(s.length≤100000/\(match atN s.cps.toList i with
   |some c=>Q (.str ⟨#[c]⟩) h
   | none=>False)):=by
 unfold oIx;dsimp only;by_cases c:s.length≤100000
 ·rw[if_pos c];simp only[c,true_and];cases atN s.cps.toList i <;> first|rfl|(unfold wp;rfl)
 ·rw[if_neg c,cZ];simp[c]
@[simp] theorem CG(a:Nat)(k:Int)(Q:MV->MH->Prop):wp (fL (.ref a) (.int k)) h Q E=(match h[a]? with
  |some (.lst xs)=>(-1000000≤k/\k≤1000000/\xs.length*k.toNat≤100000)/\Q (.ref h.length) (h++[.lst (bU k.toNat xs).flatten])
  | _=>False):=by
 unfold fL;dsimp only;rw[aL,dB];cases h[a]? with
 |none=>first|rfl|(unfold wp;rfl)
 |some o=>cases o with
   |lst xs=>dsimp only;rw[dk,mH,cZ,jZ]
   |_=>first|rfl|(unfold wp;rfl)
@[simp] theorem xZ(i j:Int)(Q:MV->MH->Prop):wp (pI (.int i) (.int j)) h Q E=Q (.int (if j<i then j else i)) h:=by unfold wp;rfl
@[simp] theorem AF(i j:Int)(Q:MV->MH->Prop):wp (qX (.int i) (.int j)) h Q E=Q (.int (if i<j then j else i)) h:=by unfold wp;rfl
@[simp] theorem Ac(i j:Int)(Q:MV->MH->Prop):wp (ot (.int i) (.int j)) h Q E=Q (.int (i+j)) h:=by unfold wp;rfl
@[simp] theorem zS(a:Nat)(y:MV)(Q:MV->MH->Prop):wp (tT (.ref a) y) h Q E=wp (oIx (.ref a) y) h Q E:=rfl
@[simp] theorem gG(Q:MF->MH->Prop):wp (b9 σ) h Q E=Q (.next σ) h:=by unfold wp;rfl
theorem dL(a b:MS)(Q:MF->MH->Prop):wp (au a b σ) h Q E=wp (a σ) h (λf h1=>match f with
  |.next σ'=>wp (b σ') h1 Q E
  | f=>Q f h1) E:=by
 unfold au;rw[aL];congr 1;funext f h1;cases f <;> first|rfl|(unfold wp;rfl)
@[simp] theorem Jj(a b:MS)(Q:MF->MH->Prop):wp (au a b σ) h Q E=wp (a σ) h (λf h1=>match f with
  |.next σ'=>wp (b σ') h1 Q E
  | f=>Q f h1) E:=dL a b Q
theorem aJ{a b:MS}{Q:MF->MH->Prop}{R:MSt->MH->Prop}(w:wp (a σ) h (λf h1=>∃σ1,f=.next σ1/\R σ1 h1) E)(k:∀σ1 h1,R σ1 h1->wp (b σ1) h1 Q E):wp (au a b σ) h Q E:=by
 rw[dL];refine fe w (λf h1 e0=>e0.elim λσ1 e1=>e1.elim λe r=>?_) λ_ _ z=>z;subst e;exact k σ1 h1 r
@[simp] theorem eI(e:ME)(Q:MF->MH->Prop):wp (cG e σ) h Q E=wp (e σ) h (λ_ h1=>Q (.next σ) h1) E:=by
 unfold cG;simp only[aL,bx]
@[simp] theorem cq(i:Nat)(e:ME)(Q:MF->MH->Prop):wp (aY i e σ) h Q E=wp (e σ) h (λv h1=>Q (.next (σ.set i (some v))) h1) E:=by
 unfold aY;simp only[aL,bx]
@[simp] theorem iB(e:ME)(Q:MF->MH->Prop):wp (bn e σ) h Q E=wp (e σ) h (λv h1=>Q (.ret v) h1) E:=by
 unfold bn;simp only[aL,bx]
@[simp] theorem fM(c:ME)(a b:MS)(Q:MF->MH->Prop):wp (sIf c a b σ) h Q E=wp (tst c σ) h (λk h1=>if k=true then wp (a σ) h1 Q E else wp (b σ) h1 Q E) E:=by
 unfold sIf;simp only[aL,dk]
@[simp] theorem wm(c:Nat)(a:MA)(Q:MF->MH->Prop):wp (fQ c a σ) h Q E=wp (a σ) h (λxs h1=>xs.length≤1000/\E c h1) E:=by
 unfold fQ;rw[aL];congr 1;funext xs h1;rw[dk,Ix,cZ];by_cases q:xs.length≤1000 <;> simp[q]
@[simp] theorem Jp(o:ME)(cs:List Nat)(f:String)(e:ME)(Q:MF->MH->Prop):wp (ee o cs f e σ) h Q E=wp (e σ) h (λv h1=>wp (o σ) h1 (λx h2=>match x with
  | .ref n=>(match h2[n]? with
    |some (.ins c fs)=>(cs.contains c=true/\fs.length<1000)/\n<h2.length/\Q (.next σ) (h2.set n (.ins c (putF f v fs)))
    | _=>False)
  | _=>False) E) E:=by
 unfold ee;rw[aL];congr 1;funext v h1;rw[aL];congr 1;funext x h2;cases x with
 |ref n=>
   dsimp only;rw[aL,dB];cases h2[n]? with
   |none=>first|rfl|(unfold wp;rfl)
   |some ob=>cases ob with
     |ins c fs=>
       dsimp only;rw[dk,aL,lP,cZ];simp only[bx,jZ]
     |_=>first|rfl|(unfold wp;rfl)
 |_=>first|rfl|(unfold wp;rfl)
@[simp] theorem nG(o i e:ME)(Q:MF->MH->Prop):wp (f9 o i e σ) h Q E=wp (e σ) h (λv h1=>wp (o σ) h1 (λx h2=>wp (i σ) h2 (λy h3=>wp (iU x y v) h3 (λ_ h4=>Q (.next σ) h4) E) E) E) E:=by
 unfold f9;simp only[aL,bx]
@[simp] theorem E6(n:Nat)(k:Int)(v:MV)(Q:Unit->MH->Prop):wp (iU (.ref n) (.int k) v) h Q E=(match h[n]? with
  | some (.lst xs)=>(match ixN xs.length k with
    |some j=>n<h.length/\Q () (h.set n (.lst (xs.set j v)))
    | none=>False)
  | _=>False):=by
 unfold iU;dsimp only;rw[aL,dB];cases h[n]? with
 |none=>first|rfl|(unfold wp;rfl)
 |some ob=>cases ob with
   |lst xs=>
     dsimp only;cases ixN xs.length k with
     |none=>first|rfl|(unfold wp;rfl)
     |some j=>dsimp only;rw[lP]
   |_=>first|rfl|(unfold wp;rfl)
@[simp] theorem mQ(n:Nat)(k:Str)(v:MV)(Q:Unit->MH->Prop):wp (iU (.ref n) (.str k) v) h Q E=(match h[n]? with
  |some (.dct kvs)=>kvs.length<1000/\n<h.length/\Q () (h.set n (.dct (dput k v kvs)))
  | _=>False):=by
 unfold iU;dsimp only;rw[aL,dB];cases h[n]? with
 |none=>first|rfl|(unfold wp;rfl)
 |some ob=>cases ob with
   |dct xs=>dsimp only;rw[dk,lP,cZ,jZ]
   |_=>first|rfl|(unfold wp;rfl)
@[simp] theorem wP(f:Op2)(o i e:ME)(Q:MF->MH->Prop):wp (nO f o i e σ) h Q E=wp (o σ) h (λx h1=>wp (i σ) h1 (λy h2=>wp (tT x y) h2 (λu h3=>wp (e σ) h3 (λv h4=>wp (f u v) h4 (λz h5=>wp (iU x y z) h5 (λ_ h6=>Q (.next σ) h6) E) E) E) E) E) E:=by
 unfold nO;simp only[aL,bx]
@[simp] theorem vK(f2:Op2)(o:ME)(cs:List Nat)(f:String)(e:ME)(Q:MF->MH->Prop):wp (lR f2 o cs f e σ) h Q E=wp (o σ) h (λx h1=>match x with
  | .ref n=>(match h1[n]? with
    | some (.ins c fs)=>cs.contains c=true/\(match fs.lookup f with
      | some u=>wp (e σ) h1 (λv h2=>wp (f2 u v) h2 (λz h3=>match h3[n]? with
        |some (.ins c' fs')=>(c'=c/\fs'.length<1000)/\n<h3.length/\Q (.next σ) (h3.set n (.ins c' (putF f z fs')))
        | _=>False) E) E
      | none=>False)
    | _=>False)
  | _=>False) E:=by
 unfold lR;rw[aL];congr 1;funext x h1;cases x with
 |ref n=>
   dsimp only;rw[aL,dB];cases h1[n]? with
   |none=>first|rfl|(unfold wp;rfl)
   |some ob=>cases ob with
     |ins c fs=>
       dsimp only;by_cases q:cs.contains c=true
       ·rw[if_pos q];simp only[q,true_and];cases fs.lookup f with
        |none=>first|rfl|(unfold wp;rfl)
        |some u=>
          dsimp only;rw[aL];congr 1;funext v h2;rw[aL];congr 1;funext z h3;rw[aL,dB];cases h3[n]? with
          |none=>first|rfl|(unfold wp;rfl)
          |some ob=>cases ob with
            |ins c' fs'=>
              dsimp only;rw[dk,aL,lP,cZ];simp only[bx,jZ]
            |_=>first|rfl|(unfold wp;rfl)
       ·rw[if_neg q];simp only[cZ,q,false_and,cJ]
     |_=>first|rfl|(unfold wp;rfl)
 |_=>first|rfl|(unfold wp;rfl)
@[simp] theorem Jq(Q:MV->MH->Prop):wp (iy σ) h Q E=Q (.ref h.length) (h++[.dct []]):=by unfold wp;rfl
@[simp] theorem lN(o e:ME)(Q:MV->MH->Prop):wp (gN o e σ) h Q E=wp (o σ) h (λx h1=>match x with
  | .ref n=>(match h1[n]? with
    | some (.lst _)=>wp (e σ) h1 (λv h2=>match h2[n]? with
      |some (.lst xs)=>xs.length<100000/\n<h2.length/\Q .non (h2.set n (.lst (xs++[v])))
      | _=>False) E
    | _=>False)
  | _=>False) E:=by
 unfold gN;rw[aL];congr 1;funext x h1;cases x with
 |ref n=>
   dsimp only;rw[aL,dB];cases h1[n]? with
   |none=>first|rfl|(unfold wp;rfl)
   |some ob=>cases ob with
     |lst ys=>
       dsimp only;rw[aL];congr 1;funext v h2;unfold zN;dsimp only;rw[aL,dB];cases h2[n]? with
       |none=>first|rfl|(unfold wp;rfl)
       |some ob=>cases ob with
         |lst xs=>
           dsimp only;rw[dk,aL,lP,cZ];by_cases q:xs.length<100000 <;> simp[q,bx]
         |_=>first|rfl|(unfold wp;rfl)
     |_=>first|rfl|(unfold wp;rfl)
 |_=>first|rfl|(unfold wp;rfl)
@[simp] theorem eE(is:List Nat)(src:MI)(body:MS)(Q:MF->MH->Prop):wp (dC is src body σ) h Q E=wp (src σ) h (λs h1=>wp (dZ s is body s.items σ) h1 Q E) E:=by
 unfold dC;simp only[aL]
@[simp] theorem HE(e:ME)(Q:Src->MH->Prop):wp (c9 e σ) h Q E=wp (e σ) h (λx h1=>match x with
  | .ref n=>(match h1[n]? with
    |some (.lst xs)=>Q ⟨xs.map λv=>[v],[(n,xs)]⟩ h1
    | _=>False)
  | _=>False) E:=by
 unfold c9;rw[aL];congr 1;funext x h1;cases x with
 |ref n=>
   dsimp only;rw[aL,dB];cases h1[n]? with
   |none=>first|rfl|(unfold wp;rfl)
   |some ob=>cases ob <;> first|rfl|(unfold wp;rfl)
 |_=>first|rfl|(unfold wp;rfl)
@[simp] theorem Jw(e e':ME)(Q:Src->MH->Prop):wp (i5 e e' σ) h Q E=wp (e σ) h (λx h1=>wp (e' σ) h1 (λy h2=>match x,y with
  |.int i,.int j=>(-(2 ^ 62)≤i/\i<2 ^ 62/\-(2 ^ 62)≤j/\j<2 ^ 62)/\Q ⟨dE i (j-i).toNat,[]⟩ h2
  | _,_=>False) E) E:=by
 unfold i5;rw[aL];congr 1;funext x h1;rw[aL];congr 1;funext y h2;cases x <;> cases y <;> first|rfl|(unfold wp;rfl)|(dsimp only;rw[dk,bx,cZ,jZ])
end
section
variable {h:MH}{E:Nat->MH->Prop}{Q:MV->MH->Prop}{x y:MV}{d:PySem.PyData}
end
noncomputable def zs(l:List Int):List MV:=l.map .int
noncomputable def tab(n:Nat)(f:Nat->Int):List MV:=(ci n).map λk=>.int (f k)
theorem hI(n:Nat)(f:Nat->Int):(tab n f).length=n:=by simp[tab]
theorem sM{n:Nat}{f:Nat->Int}{k:Nat}(h:k<n):(tab n f)[k]?=some (.int (f k)):=by
 unfold tab;rw[bj,gR h];rfl
theorem iM{n:Nat}{f:Nat->Int}{k:Nat}(h:k<n):atN (tab n f) (k:Int)=some (.int (f k)):=by rw[jd,sM h]
theorem Hk{n:Nat}{f:Nat->Int}{k:Nat}(h:n≤k):(tab n f)[k]?=none:=by
 rw[mO,hI];exact h
theorem jt{n:Nat}{f g:Nat->Int}(h:∀k,k<n->f k=g k):tab n f=tab n g:=by
 unfold tab;refine gA λk hk=>?_;rw[h k (jk.mp hk)]
theorem pN{n:Nat}{f:Nat->Int}{k:Nat}{v:Int}:(tab n f).set k (.int v)=tab n (λi=>if i=k then v else f i):=by
 apply kR;intro i;by_cases hi:i<n
 ·rw[sM hi];by_cases e:k=i
  ·subst e;rw[jU (by rw[hI];exact hi),if_pos rfl]
  ·rw[kJ e,sM hi,if_neg (λz=>e z.symm)]
 ·rw[Hk (by lia)];rw[mO,List.length_set,hI];lia
theorem tW(n:Nat)(f:Nat->Int):tab n f++[.int (f n)]=tab (n+1) f:=by
 unfold tab;rw[nj,dm];rfl
theorem pX{n k:Nat}(h:k<n):ixN n (k:Int)=some k:=by
 have:(k:Int)<(n:Int):=by lia
 simp only[ixN];rw[if_pos (by lia),if_pos this];simp
theorem vW:∀(n:Nat) (f g:Nat->Int),dM (tab n f) (tab n g)=(ci n).map λk=>[.int (f k),.int (g k)]:=by
 intro n f g;have go:∀l:List Nat,dM (l.map λk=>.int (f k)) (l.map λk=>.int (g k))=l.map λk=>[MV.int (f k),MV.int (g k)]:=by
  intro l
  induction l with
  |nil=>rfl
  |cons k l ih=>simp only[bz,dM,ih]
 exact go _
noncomputable def d7:Nat->(Nat->Int)->Int
 |0,_=>0
 |n+1,f=>d7 n f+f n
theorem k6:∀{n:Nat}{f g:Nat->Int},(∀k,k<n->f k=g k)->d7 n f=d7 n g
 |0,_,_,_=>rfl
 |n+1,f,g,h=>by
   simp only[d7];rw[k6 (n:=n) λk hk=>h k (by lia),h n (by lia)]
theorem uJ:∀(n:Nat) (f g:Nat->Int),d7 n (λk=>f k+g k)=d7 n f+d7 n g
 |0,_,_=>rfl
 |n+1,f,g=>by
   simp only[d7,uJ n f g];lia
theorem q8:∀{n:Nat}{f:Nat->Int},(∀k,k<n->f k=0)->d7 n f=0
 |0,_,_=>rfl
 |n+1,f,h=>by
   simp only[d7,q8 (n:=n) λk hk=>h k (by lia),h n (by lia)]
   lia
theorem xU{n p:Nat}{f:Nat->Int}(hp:p<n):d7 n (λq=>if q=p then f q else 0)=f p:=by
 induction n with
 |zero=>lia
 |succ n ih=>
   simp only[d7];by_cases e:n=p
   ·subst e;rw[if_pos rfl,q8]
    ·lia
    ·intro k hk;rw[if_neg (by lia)]
   ·rw[if_neg e,ih (by lia)]
    lia
section
variable {α β:Type}{h:MH}{E:Nat->MH->Prop}{σ:MSt}
@[simp] theorem mq(Q:Option Int->MH->Prop):wp (part none σ) h Q E=Q none h:=by unfold wp;rfl
@[simp] theorem mL(g:ME)(Q:Option Int->MH->Prop):wp (part (some g) σ) h Q E=wp (g σ) h (λv h1=>match v with
  |.int i=>Q (some i) h1
  | _=>False) E:=by
 unfold part;dsimp only;rw[aL];congr 1;funext v h1;cases v <;> first|rfl|(unfold wp;rfl)
@[simp] theorem mG(a:ME)(lo hi:Option ME)(Q:MV->MH->Prop):wp (eSl a lo hi σ) h Q E=wp (a σ) h (λx h1=>wp (part lo σ) h1 (λl h2=>wp (part hi σ) h2 (λu h3=>wp (iw x l u) h3 Q E) E) E) E:=by
 unfold eSl;simp only[aL]
@[simp] theorem nH(a:Nat)(lo hi:Option Int)(Q:MV->MH->Prop):wp (iw (.ref a) lo hi) h Q E=(match h[a]? with
  |some (.lst xs)=>Q (.ref h.length) (h++[.lst (fV xs lo hi)])
  | _=>False):=by
 unfold iw;dsimp only;rw[aL,dB];cases h[a]? with
 |none=>first|rfl|(unfold wp;rfl)
 |some o=>cases o <;> first|rfl|(unfold wp;rfl)
@[simp] theorem IJ(xs:List MV)(lo hi:Option Int)(Q:MV->MH->Prop):wp (iw (.tup xs) lo hi) h Q E=(¬(dF xs.length 0 lo=0/\dF xs.length xs.length hi=xs.length)/\Q (.tup (fV xs lo hi)) h):=by
 unfold iw;dsimp only;rw[dk,bx,cZ];by_cases c:dF xs.length 0 lo=0/\dF xs.length xs.length hi=xs.length <;> simp[c]
@[simp] theorem JA(s:Str)(lo hi:Option Int)(Q:MV->MH->Prop):wp (iw (.str s) lo hi) h Q E=(s.length≤100000/\Q (.str (PySem.Txt.slice s lo hi)) h):=by
 unfold iw;dsimp only;rw[dk,bx,cZ];by_cases c:s.length≤100000 <;> simp[c]
@[simp] theorem wM(o k x:ME)(Q:MV->MH->Prop):wp (iE o k x σ) h Q E=wp (o σ) h (λd h1=>match d with
  | .ref n=>(match h1[n]? with
    | some (.dct _)=>wp (k σ) h1 (λy h2=>wp (x σ) h2 (λz h3=>match y with
      | .str s=>(match h3[n]? with
        |some (.dct kvs)=>Q ((dget s kvs).getD z) h3
        | _=>False)
      | _=>False) E) E
    | _=>False)
  | _=>False) E:=by
 unfold iE;rw[aL];congr 1;funext x h1;cases x with
 |ref n=>
   dsimp only;rw[aL,dB];cases h1[n]? with
   |none=>first|rfl|(unfold wp;rfl)
   |some ob=>cases ob with
     |dct ys=>
       dsimp only;rw[aL];congr 1;funext y h2;rw[aL];congr 1;funext z h3;cases y with
       |str s=>
         dsimp only;rw[aL,dB];cases h3[n]? with
         |none=>first|rfl|(unfold wp;rfl)
         |some ob=>cases ob <;> first|rfl|(unfold wp;rfl)
       |_=>first|rfl|(unfold wp;rfl)
     |_=>first|rfl|(unfold wp;rfl)
 |_=>first|rfl|(unfold wp;rfl)
@[simp] theorem Fv(o e:ME)(Q:MV->MH->Prop):wp (sE o e σ) h Q E=wp (o σ) h (λx h1=>match x with
  |.str s=>wp (e σ) h1 (λy h2=>wp (tS (.str s) y) h2 Q E) E
  | _=>False) E:=by
 unfold sE;rw[aL];congr 1;funext x h1;cases x with
 |str s=>dsimp only;rw[aL]
 |_=>first|rfl|(unfold wp;rfl)
theorem GX{sep:Str}{a:Nat}{ss:List Str}{Q:MV->MH->Prop}(e:h[a]?=some (.lst (ss.map .str)))(hs:sep.length≤16)(hz:(ss.map (·.length)).sum+ss.length≤100000)(q:Q (.str (PySem.Txt.join sep ss)) h):wp (tS (.str sep) (.ref a)) h Q E:=by
 have es:∀(l:List Str),jo (l.map .str)=some l:=by
  intro l
  induction l with
  |nil=>rfl
  |cons x l ih=>simp[jo,ih]
 unfold tS;dsimp only;rw[aL,dB];simp only[e,es];rw[if_pos ⟨hs,hz⟩,bx];exact q
@[simp] theorem Jt(s:Str)(Q:Option Str->MH->Prop):wp (jm (.lit s) σ) h Q E=(s.length≤1000/\Q (some s) h):=by
 unfold jm;rw[dk,bx,cZ];by_cases c:s.length≤1000 <;> simp[c]
@[simp] theorem Js(e:ME)(Q:Option Str->MH->Prop):wp (jm (.rp e) σ) h Q E=wp (e σ) h (λv h1=>match v with
  |.str s=>md s=true/\Q none h1
  | _=>False) E:=by
 unfold jm;rw[aL];congr 1;funext v h1;cases v <;> first|rfl|(unfold wp;rfl)|(dsimp only;rw[dk,bx,cZ,jZ])
@[simp] theorem Jn(Q:List (Option Str)->MH->Prop):wp (gY [] σ) h Q E=Q [] h:=by unfold wp;rfl
@[simp] theorem JD(p:FP)(r:List FP)(Q:List (Option Str)->MH->Prop):wp (gY (p::r) σ) h Q E=wp (jm p σ) h (λx h1=>wp (gY r σ) h1 (λxs h2=>Q (x::xs) h2) E) E:=by
 conv=>lhs;unfold gY
 simp only[aL,bx]
@[simp] theorem Jk(ps:List FP)(Q:MV->MH->Prop):wp (jT ps σ) h Q E=(ps.length≤100/\wp (gY ps σ) h (λxs h1=>Q (match jH PySem.Str.empty xs with
  |some s=>.str s
  | none=>.any) h1) E):=by
 unfold jT;rw[dk,aL,cZ,jZ];simp only[bx] <;> rfl
end
def Off(S:List Nat)(h h':MH):Prop:=(∀n o,n∉S->h[n]?=some o->h'[n]?=some o)/\h.length≤h'.length
theorem Pre.off{h h':MH}{S:List Nat}(p:Pre h h'):Off S h h':=⟨λ_ _ _ e=>p.get e,p.len⟩
theorem Off.trans{S:List Nat}{h h1 h2:MH}(a:Off S h h1)(b:Off S h1 h2):Off S h h2:=⟨λn o ns e=>b.1 n o ns (a.1 n o ns e),cL a.2 b.2⟩
theorem Off.mono{S S':List Nat}{h h1:MH}(a:Off S h h1)(s:∀n∈S,n∈S'):Off S' h h1:=⟨λn o ns e=>a.1 n o (λz=>ns (s n z)) e,a.2⟩
theorem Off.refl{S:List Nat}{h:MH}:Off S h h:=⟨λ_ _ _ e=>e,bo _⟩
theorem Off.set{h:MH}{n:Nat}{o:MO}:Off [n] h (h.set n o):=⟨λk _ hk e=>bL e (λz=>hk (by simp[z])),by simp⟩
theorem Off.get{S:List Nat}{h h':MH}{n:Nat}{o:MO}(a:Off S h h')(e:h[n]?=some o)(hn:n∉S):h'[n]?=some o:=a.1 n o hn e
theorem wJ:∀(a b:List Nat),a≠b->a<b∨b<a
 |[],[],h=>absurd rfl h
 |[],_::_,_=>.inl (by simp)
 |_::_,[],_=>.inr (by simp)
 |x::a,y::b,h=>by
   rcases Nat.lt_trichotomy x y with z|z|z
   ·exact .inl (qk.mpr (.inl z))
   ·subst z;have:a≠b:=λe=>h (by rw[e]);rcases wJ a b this with w|w
    ·exact .inl (qk.mpr (.inr ⟨rfl,w⟩))
    ·exact .inr (qk.mpr (.inr ⟨rfl,w⟩))
   ·exact .inr (qk.mpr (.inl z))
theorem zJ{a b:Str}(h:a.cps.toList=b.cps.toList):a=b:=by
 obtain⟨⟨a⟩⟩:=a;obtain⟨⟨b⟩⟩:=b;simp at h;rw[h]
structure Rt where
 nm:Str
 pt:Nat
 am:Int
 dt:Int
instance:Inhabited Rt:=⟨⟨PySem.Str.empty,0,0,0⟩⟩
noncomputable def Rt.val(r:Rt):MV:=.tup [.int r.pt,.int r.am,.int r.dt]
noncomputable def Rt.row(r:Rt):MV:=.tup [.str r.nm,.int r.pt,.int r.am,.int r.dt]
noncomputable def Rt.key(r:Rt):List MKey:=[.inl r.dt,.inr r.nm]
noncomputable def Rt.lt(a b:Rt):Bool:=decide (a.dt<b.dt∨(a.dt=b.dt/\a.nm.cps.toList<b.nm.cps.toList))
theorem Rt.lt_iff{a b:Rt}:a.lt b=true↔a.dt<b.dt∨(a.dt=b.dt/\a.nm.cps.toList<b.nm.cps.toList):=by simp[Rt.lt]
theorem Rt.lt_tr{a b c:Rt}(h1:a.lt b=true)(h2:b.lt c=true):a.lt c=true:=by
 rw[Rt.lt_iff]at *;rcases h1 with h1|⟨h1,h1'⟩ <;> rcases h2 with h2|⟨h2,h2'⟩
 ·exact .inl (by lia)
 ·exact .inl (by lia)
 ·exact .inl (by lia)
 ·exact .inr ⟨by lia,List.lt_trans h1' h2'⟩
theorem Rt.lt_asy{a b:Rt}(h1:a.lt b=true):b.lt a=false:=by
 rw[Rt.lt_iff]at h1;have:¬(b.dt<a.dt∨(b.dt=a.dt/\b.nm.cps.toList<a.nm.cps.toList)):=by
  rcases h1 with h1|⟨h1,h1'⟩
  ·lia
  ·rintro(h|⟨_,h⟩)
   ·lia
   ·exact List.lt_asymm h1' h
 simpa[Rt.lt] using this
theorem Rt.lt_tot{a b:Rt}(hn:a.nm≠b.nm)(h:a.lt b=false):b.lt a=true:=by
 have h':¬(a.dt<b.dt∨(a.dt=b.dt/\a.nm.cps.toList<b.nm.cps.toList)):=λz=>by
  rw[(Rt.lt_iff).mpr z]at h;cases h
 rw[Rt.lt_iff];by_cases e:a.dt=b.dt
 ·refine .inr ⟨e.symm,?_⟩;rcases wJ a.nm.cps.toList b.nm.cps.toList (λz=>hn (zJ z)) with z|z
  ·exact absurd (.inr ⟨e,z⟩) h'
  ·exact z
 ·refine .inl ?_;have:¬a.dt<b.dt:=λz=>h' (.inl z);lia
theorem Fj{a b:Rt}(hn:a.nm≠b.nm):ltK a.key b.key=some (a.lt b):=by
 unfold Rt.key;by_cases e:a.dt=b.dt
 ·simp only[ltK,e,if_true];have:¬((Sum.inr a.nm:MKey)=Sum.inr b.nm):=λz=>hn (by injection z);rw[if_neg this];simp[Rt.lt,e]
 ·have:¬((Sum.inl a.dt:MKey)=Sum.inl b.dt):=λz=>e (by injection z);simp only[ltK];rw[if_neg this];simp[Rt.lt,e]
def Names(rs:List Rt):Prop:=(rs.map (·.nm)).Nodup
theorem Names.get{rs:List Rt}(n:Names rs){i j:Nat}{a b:Rt}(hi:rs[i]?=some a)(hj:rs[j]?=some b)(hne:i≠j):a.nm≠b.nm:=by
 intro z;have e1:(rs.map (·.nm))[i]?=some a.nm:=by simp[hi]
 have e2:(rs.map (·.nm))[j]?=some a.nm:=by simp[hj,z]
 obtain⟨l1,g1⟩:=bN.mp e1;obtain⟨l2,g2⟩:=bN.mp e2;have pw:=nL.mp n;rcases vB hne with q|q
 ·exact pw i j l1 l2 q (g1.trans g2.symm)
 ·exact pw j i l2 l1 q (g2.trans g1.symm)
noncomputable def iS(rs:List Rt):List Nat:=(dA (rs.map Rt.key)).getD []
noncomputable def aged(rs:List Rt):List Rt:=(iS rs).map λi=>rs.getD i default
theorem wI{rs:List Rt}(n:Names rs)(h64:rs.length<64):dA (rs.map Rt.key)=some (iS rs)/\(iS rs).Perm (ci rs.length)/\∀i j,i<j->j<rs.length->∀a b,(aged rs)[i]?=some a->(aged rs)[j]?=some b->a.lt b=true:=by
 by_cases h2:rs.length<2
 ·have e:dA (rs.map Rt.key)=some (ci rs.length):=by
   unfold dA;rw[if_pos (by simpa using h2)];simp
  have e2:iS rs=ci rs.length:=by unfold iS;rw[e];rfl
  refine⟨by rw[e,e2],by rw[e2],λi j hij hj=>by lia⟩
 ·let lt:Nat->Nat->Bool:=λi j=>(rs.getD i default).lt (rs.getD j default)
  have gd:∀i,i<rs.length->rs[i]?=some (rs.getD i default):=λi hi=>by simp[hi]
  have O:SOrd (iT (rs.map Rt.key)) lt rs.length:=by
   refine⟨λi j hi hj hne=>?_,λi j hi hj hne h=>?_,λi j hi hj h=>?_,λi j k hi hj hk h1 h2=>?_⟩
   ·have hn:=n.get (gd i hi) (gd j hj) hne;unfold iT;rw[bj,bj,gd i hi,gd j hj];simp only[wk];rw[if_neg,Fj hn];intro z;unfold Rt.key at z;injection z with _ z;injection z with z _;injection z with z;exact hn z
   ·exact Rt.lt_tot (n.get (gd i hi) (gd j hj) hne) h
   ·exact Rt.lt_asy h
   ·exact Rt.lt_tr h1 h2
  obtain⟨p,q1,q2,q3⟩:=Ae O (by lia);have e:dA (rs.map Rt.key)=some p.toList:=by
   unfold dA;rw[if_neg (by simpa using h2),if_pos (by simpa using h64),bS,q1]
  have e2:iS rs=p.toList:=by unfold iS;rw[e];rfl
  refine⟨by rw[e,e2],by rw[e2];exact q2.list,λi j hij hj a b ha hb=>?_⟩;have hs:=q2.size;have u:=q3 i j hij hj;unfold aged at ha hb;rw[e2,bj]at ha hb;have pi:p.toList[i]?=some (p.getD i 0):=by simp[show i<p.size by lia]
  have pj:p.toList[j]?=some (p.getD j 0):=by simp[show j<p.size by lia]
  rw[pi]at ha;rw[pj]at hb;cases ha;cases hb;exact u
theorem kN{rs:List Rt}(n:Names rs)(h64:rs.length<64):(aged rs).Perm rs:=by
 obtain⟨_,p,_⟩:=wI n h64;have q:=p.map λi=>rs.getD i default;have e:(ci rs.length).map (λi=>rs.getD i default)=rs:=by
  apply kR;intro i;rw[bj];by_cases h:i<rs.length
  ·rw[gR h];simp[h]
  ·simp[kI h]
 rw[e]at q;exact q
theorem lf{rs:List Rt}(n:Names rs)(h64:rs.length<64):(aged rs).length=rs.length:=(kN n h64).length_eq
theorem E8{rs:List Rt}(n:Names rs)(h64:rs.length<64){i:Nat}(h:i∈iS rs):i<rs.length:=by
 obtain⟨_,p,_⟩:=wI n h64;exact jk.mp (p.mem_iff.mp h)
theorem B8{rs:List Rt}(n:Names rs)(h64:rs.length<64)(f:Rt->MV):pick (rs.map f) (iS rs)=(aged rs).map f:=by
 unfold pick aged;rw[bX];refine gA λi hi=>?_;have:=E8 n h64 hi;simp[this]
noncomputable abbrev iu:Str:=aQ "abcdefghijklmnopqrstuvwxyz"
theorem Ec:iu.cps.toList=(ci 26).map (97+·):=rfl
theorem yn:iu.length=26:=rfl
theorem zC{i:Int}(h0:0≤i)(h1:i<26):atN iu.cps.toList i=some (97+i.toNat):=by
 obtain⟨k,rfl⟩:=Int.eq_ofNat_of_zero_le h0;have hk:k<26:=by lia
 rw[jd,Ec,bj,gR hk];simp
theorem v8(a b:Str):(a++b).cps.toList=a.cps.toList++b.cps.toList:=by
 show(a.cps++b.cps).toList=_;simp
theorem B6(a b:Str):(a++b).length=a.length+b.length:=by
 show(a.cps++b.cps).size=_;simp[Str.length]
theorem Gp:∀(ss:List Str),(PySem.Txt.join (aQ "") ss).cps.toList=(ss.map λs=>s.cps.toList).flatten:=by
 intro ss;have e:PySem.Txt.join (aQ "") ss=Str.join (aQ "") ss:=PySem.StrLaws.glued_eq_join _ _;rw[e]
 clear e
 induction ss with
 |nil=>rfl
 |cons x r ih=>
   cases r with
   |nil=>simp[Str.join]
   |cons y r=>
     rw[show Str.join (aQ "") (x::y::r)=x++aQ ""++Str.join (aQ "") (y::r) from rfl,v8,v8,ih];have:(aQ "").cps.toList=[]:=rfl;simp[this]
noncomputable def gj(c:Int):List Nat:=(ci (c%8).toNat).map λ(k:Nat)=>97+((c/31+11*(k:Int)*k+k)%26).toNat
noncomputable def fP(c:Int):Str:=PySem.Txt.join (aQ "") ((gj c).map λx=>⟨#[x]⟩)
theorem FX(c:Int):(fP c).cps.toList=gj c:=by
 unfold fP;rw[Gp,bX];have:((λs:Str=>s.cps.toList)∘λx:Nat=>(⟨#[x]⟩:Str))=λx=>[x]:=rfl;rw[this]
 induction gj c with
 |nil=>rfl
 |cons x l ih=>simp[ih]
theorem HJ(c:Int):(fP c).length=(c%8).toNat:=by
 have:(fP c).length=(fP c).cps.toList.length:=by simp[Str.length]
 rw[this,FX];simp[gj]
noncomputable def iD(c:Int):Int:=c/8%(((c%8).toNat:Int)+1)
noncomputable def oh(c:Int)(k:Nat):Nat:=97+((c/64+5*(k:Int))%26).toNat
noncomputable def f8(c:Int)(k:Nat):Str:=PySem.Txt.slice (fP c) none (some (iD c))++⟨#[oh c k]⟩++PySem.Txt.slice (fP c) (some (iD c)) none
theorem DC{c:Int}{j k:Nat}(hj:j<26)(hk:k<26)(e:f8 c j=f8 c k):j=k:=by
 have e2:=congrArg (λs:Str=>s.cps.toList) e;unfold f8 at e2;simp only[v8]at e2;have e3:=List.append_cancel_right e2;have e4:=List.append_cancel_left e3;have e5:oh c j=oh c k:=by simpa using e4
 unfold oh at e5;have a:=gZ (c/64+5*(j:Int)) (show(26:Int)≠0 by decide);have b:=gZ (c/64+5*(k:Int)) (show(26:Int)≠0 by decide);have e6:(c/64+5*(j:Int))%26=(c/64+5*(k:Int))%26:=by lia
 lia
theorem yq(x:Str)(l u:Option Int):(PySem.Txt.slice x l u).length≤x.length:=PySem.Txt.slice_le x l u
noncomputable def jO(x:Int):Int:=if x%7=6 then x/7%1000001 else x/7%90
noncomputable def se(x:Int):Int:=if x%5=4 then x/5%10000 else x/5%3
theorem Gh(x:Int):0≤jO x/\jO x≤1000000:=by unfold jO;split <;> lia
noncomputable def xg(ns:List Int)(st:Int)(size:Nat)(k:Nat):Rt:=⟨f8 (cell ns 1) k,(cell ns (st+3*k)%size).toNat,jO (cell ns (st+3*k+1)),se (cell ns (st+3*k+2))⟩
noncomputable def dy(ns:List Int)(st:Int)(count size:Nat):List Rt:=(ci count).map (xg ns st size)
theorem uv(ns:List Int)(st:Int)(count size:Nat):(dy ns st count size).length=count:=by simp[dy]
theorem DZ{ns:List Int}{st:Int}{count size:Nat}(h:count≤26):Names (dy ns st count size):=by
 unfold Names dy;rw[bX,List.Nodup,List.pairwise_map];refine List.Pairwise.imp_of_mem (R:=λa b=>a≠b) (λ{a b} ha hb hne e=>hne ?_) List.nodup_range;exact DC (by have:=jk.mp ha;lia) (by have:=jk.mp hb;lia) e
theorem G0{ns:List Int}{st:Int}{count size:Nat}{r:Rt}(hs:1≤size)(h:r∈dy ns st count size):r.pt<size:=by
 unfold dy at h;obtain⟨k,_,rfl⟩:=bO.mp h;show(cell ns (st+3*k)%size).toNat<size;have:=jf (cell ns (st+3*k)) (show(0:Int)<size by lia)
 lia
section
variable {α:Type}{h:MH}{E:Nat->MH->Prop}{Q:MV->MH->Prop}{f:α->MV}{g:α->PySem.PyData}
end
theorem Off.fresh{S:List Nat}{h h1 h2:MH}(a:Off [] h h1)(b:Off S h1 h2)(hS:∀n∈S,h.length≤n):Off [] h h2:=
 ⟨λn o _ e=>b.1 n o (λz=>absurd (aS e) (qg (hS n z))) (a.1 n o (by simp) e),cL a.2 b.2⟩
section
variable {α:Type}
theorem y6{s:Src}{cond:Option ME}{elt:ME}{σ:MSt}{h:MH}{iv:α->List MV}{c:α->Bool}{f:α->MV}(hok:∀h',Pre h h'->s.okIn h'=true):∀(l:List α) (h1:MH),Pre h h1 ->
  (∀x∈l,∀h1,Pre h h1->wp (fi cond (σ++(iv x).map some)) h1 (λb h2=>b=c x/\Pre h1 h2) noE) ->
  (∀x∈l,c x=true->∀h1,Pre h h1->wp (elt (σ++(iv x).map some)) h1 (λv h2=>v=f x/\Pre h1 h2) noE) ->
  wp (df s cond elt σ (l.map iv)) h1 (λvs h2=>vs=(l.filter c).map f/\Pre h1 h2) noE
 |[],h1,p,_,_=>by
   have e:df s cond elt σ [] h1=.ok [] h1:=by simp[df,hok h1 p]
   exact cI e ⟨rfl,.refl⟩
 |x::r,h1,p,a1,a2=>by
   have ih:=λh2 p2=>y6 (iv:=iv) (c:=c) (f:=f) hok r h2 p2 (λy hy=>a1 y (dO _ hy)) (λy hy=>a2 y (dO _ hy));rw[bz];have e:df s cond elt σ (iv x::r.map iv) h1=bnd (fi cond (σ++(iv x).map some)) (λk=>if k=true then bnd (elt (σ++(iv x).map some)) λv=>bnd (df s cond elt σ (r.map iv)) λws=>ret (v::ws) else df s cond elt σ (r.map iv)) h1:=by
    conv=>lhs;unfold df
    rw[if_pos (hok h1 p)];cases cond <;> rfl
   rw[uD e,aL];refine fe (a1 x fA h1 p) (λb h2 e0=>e0.elim λeb p2=>?_) λ_ _ z=>z;subst eb;cases hc:c x with
   |true=>
     rw[if_pos rfl,aL];refine fe (a2 x fA hc h2 (p.trans p2)) (λv h3 e0=>e0.elim λfv p3=>?_) λ_ _ z=>z;rw[aL];refine fe (ih h3 ((p.trans p2).trans p3)) (λws h4 e0=>e0.elim λq1 p4=>?_) λ_ _ z=>z;rw[bx];exact⟨by rw[vG hc,bz,fv,q1],(p2.trans p3).trans p4⟩
   |false=>
     rw[if_neg cK];refine fe (ih h2 (p.trans p2)) (λws h4 e0=>e0.elim λq1 p4=>?_) λ_ _ z=>z;rw[u8 (by simp[hc])];exact⟨q1,p2.trans p4⟩
theorem ki{src:MI}{cond:Option ME}{elt:ME}{σ:MSt}{h:MH}{Q:MV->MH->Prop}{E:Nat->MH->Prop}{s:Src}{h1:MH}(l:List α)(iv:α->List MV)(c:α->Bool)(f:α->MV)(hs:src σ h=.ok s h1)(hi:s.items=l.map iv)(hok:∀h',Pre h1 h'->s.okIn h'=true)(hlen:l.length≤100000)
  (a1:∀x∈l,∀h2,Pre h1 h2->wp (fi cond (σ++(iv x).map some)) h2 (λb h3=>b=c x/\Pre h2 h3) noE)
  (a2:∀x∈l,c x=true->∀h2,Pre h1 h2->wp (elt (σ++(iv x).map some)) h2 (λv h3=>v=f x/\Pre h2 h3) noE)
  (q:∀h2,Pre h1 h2->Q (.ref h2.length) (h2++[.lst ((l.filter c).map f)])):wp (eZ src cond elt σ) h Q E:=by
 unfold eZ;rw[aL];refine cI hs ?_;rw[if_pos (by rw[hi,bS];exact hlen),aL,hi];refine Au (fe (y6 (iv:=iv) (c:=c) (f:=f) hok l h1 .refl a1 a2) (λvs h2 e0=>e0.elim λq1 p=>?_) λ_ _ z=>z);subst q1;rw[mH];exact q h2 p
theorem lU{l:List α}:l.filter (λ_=>true)=l:=ly.mpr λ_ _=>rfl
end
theorem iV{g:ME}{σ:MSt}{h:MH}{v:MV}{h1:MH}(w:wp (g σ) h (λv' h'=>v'=v/\h'=h1) noE):g σ h=.ok v h1:=by
 obtain⟨s',h',e,rfl,rfl⟩:=mC w;exact e
section
variable {h:MH}{E:Nat->MH->Prop}{σ:MSt}
@[simp] theorem yN(o:ME)(Q:MV->MH->Prop):wp (ow o σ) h Q E=wp (o σ) h (λx h1=>match x with
  | .ref n=>(match h1[n]? with
    |some (.lst _)=>n<h1.length/\Q .non (h1.set n (.lst []))
    | _=>False)
  | _=>False) E:=by
 unfold ow;rw[aL];congr 1;funext x h1;cases x with
 |ref n=>
   dsimp only;rw[aL,dB];cases h1[n]? with
   |none=>first|rfl|(unfold wp;rfl)
   |some ob=>cases ob with
     |lst ys=>dsimp only;rw[aL,lP];simp only[bx]
     |_=>first|rfl|(unfold wp;rfl)
 |_=>first|rfl|(unfold wp;rfl)
end
theorem zu{α:Type}{f:α->MV}{g:α->List MV}{k:Nat}:∀{l:List α},(∀x∈l,f x=.tup (g x)/\(g x).length=k)->fU k (l.map f)=some (l.map g)
 |[],_=>rfl
 |x::l,a=>by
   obtain⟨a1,a2⟩:=a x fA;have ih:=zu (f:=f) (g:=g) (k:=k) (l:=l) λy hy=>a y (dO _ hy);rw[bz,a1];simp[fU,a2,ih]
theorem vh{e:ME}{σ:MSt}{h h':MH}{n k:Nat}{xs:List MV}{rs:List (List MV)}(h1:e σ h=.ok (.ref n) h')(h2:h'[n]?=some (.lst xs))(h3:fU k xs=some rs):lM k e σ h=.ok ⟨rs,[(n,xs)]⟩ h':=by
 simp[lM,bnd,h1,look,h2,h3,ret]
theorem AY:∀(l:List Int),ja (zs l)=some l
 |[]=>rfl
 |a::l=>by
   have ih:=AY l;unfold zs at ih ⊢;simp[ja,ih]
theorem BR{h:MH}{E:Nat->MH->Prop}{Q:MV->MH->Prop}{a:Nat}{i:Int}{l:List Int}(e:h[a]?=some (.lst (zs (i::l))))(few:l.length≤10000)(q:Q (.int (di i l)) h):wp (nQ (.ref a)) h Q E:=by
 refine cI (a:=.int (di i l)) (h':=h) ?_ q;simp[nQ,bnd,look,e,AY,few,ret]
abbrev Want:=Nat×Int
noncomputable def Want.v(w:Want):MV:=.tup [.int w.1,.int w.2]
noncomputable def dJ(f:Nat->Int)(am:Int):List Nat->Int
 |[]=>am
 |p::r=>if di (f p) (r.map f)<am then di (f p) (r.map f) else am
noncomputable def lower(f:Nat->Int)(t:Int)(l:List Nat):Nat->Int:=λp=>if p∈l then f p-t else f p
theorem yw(am:Int):∀(l:List Int) (v:Int),di (if v<am then v else am) l=if di v l<am then di v l else am
 |[],v=>rfl
 |c::l,v=>by
   show di (if c<(if v<am then v else am) then c else(if v<am then v else am)) l=if di (if c<v then c else v) l<am then di (if c<v then c else v) l else am
   rw[←yw am l];congr 1
   repeat' split
   all_goals lia
theorem Ai(f:Nat->Int)(am:Int)(p:Nat)(r:List Nat):dJ f am (p::r)=di am ((p::r).map f):=(yw am (r.map f) (f p)).symm
theorem BM:∀(l:List Int) (a:Int),di a l≤a/\(∀x∈l,di a l≤x)/\(di a l=a∨di a l∈l)
 |[],a=>⟨mw _,by simp,.inl rfl⟩
 |c::l,a=>by
   obtain⟨h1,h2,h3⟩:=BM l (if c<a then c else a);have e:di a (c::l)=di (if c<a then c else a) l:=rfl;have e2:(if c<a then c else a)≤a/\(if c<a then c else a)≤c:=by split <;> lia
   rw[e];refine⟨Int.le_trans h1 e2.1,λx hx=>?_,?_⟩
   ·rcases bK.mp hx with rfl|hx
    ·exact Int.le_trans h1 e2.2
    ·exact h2 x hx
   ·rcases h3 with h3|h3
    ·rw[h3];split
     ·exact .inr fA
     ·exact .inl rfl
    ·exact .inr (dO _ h3)
theorem uR{f:Nat->Int}{am:Int}{l:List Nat}:dJ f am l≤am/\(∀p∈l,dJ f am l≤f p)/\(dJ f am l=am∨∃p∈l,dJ f am l=f p):=by
 cases l with
 |nil=>exact⟨mw _,by simp,.inl rfl⟩
 |cons p r=>
   rw[Ai];obtain⟨h1,h2,h3⟩:=BM ((p::r).map f) am;refine⟨h1,λq hq=>h2 _ (dI hq),?_⟩;rcases h3 with h3|h3
   ·exact .inl h3
   ·obtain⟨q,hq,e⟩:=bO.mp h3;exact .inr ⟨q,hq,e.symm⟩
theorem HX{f:Nat->Int}{am:Int}{l:List Nat}(ha:0≤am)(hf:∀p∈l,0≤f p):0≤dJ f am l:=by
 rcases(uR (f:=f) (am:=am) (l:=l)).2.2 with e|⟨p,hp,e⟩
 ·rw[e];exact ha
 ·rw[e];exact hf p hp
theorem Dt(f:Nat->Int)(t:Int)(l:List Nat)(p:Nat):lower f t l p=f p-if p∈l then t else 0:=by
 unfold lower;split <;> lia
theorem Hw{f:Nat->Int}{am:Int}{l:List Nat}{p:Nat}(hp:0≤f p):0≤lower f (dJ f am l) l p:=by
 unfold lower;split
 ·rename_i h;have:=(uR (f:=f) (am:=am) (l:=l)).2.1 p h;lia
 ·exact hp
@[simp] theorem Jz{h:MH}{E:Nat->MH->Prop}(s:Str)(n:Int)(Q:MV->MH->Prop):wp (oB (.str s) (.int n)) h Q E=((1≤n/\n≤1000/\s.length*n.toNat≤10000)/\Q (.str (kT s n)) h):=by
 unfold oB;dsimp only;rw[dk,bx,cZ,jZ]
theorem yk(a:Array Nat):∀(k:Nat) (acc:Array Nat),(kK (·++·) acc (bU k a)).toList=acc.toList++(bU k a.toList).flatten
 |0,acc=>by simp
 |k+1,acc=>by
   rw[gS,jq,yk a k];simp[gS]
theorem Fm(c:Nat){n:Int}(h:1≤n):(kT ⟨#[c]⟩ n).cps.toList=bU n.toNat c:=by
 unfold kT;split
 ·rename_i q;have:n=1:=by
   simp at q;rcases q with q|q
   ·exact q
   ·exact absurd (show(1:Nat)=0 from q) (by decide)
  subst this;rfl
 ·show(kK (·++·) #[] (bU n.toNat #[c])).toList=_;rw[yk];generalize n.toNat=k
  induction k with
  |zero=>rfl
  |succ k ih=>simpa[gS] using ih
end L2.Rv
namespace L2.Rv
section
variable {h:MH}{E:Nat->MH->Prop}{σ:MSt}
end
end L2.Rv
namespace L2.Rv
open PySem (Str)
section
variable {h:MH}{E:Nat->MH->Prop}{σ:MSt}
theorem FN{is:List Nat}{row:Str×MV->List MV}{e:ME}{body:MS}{n:Nat}{kvs:List (Str×MV)}{Q:MF->MH->Prop}(I:Nat->MSt->MH->Prop)(he:e σ h=.ok (.ref n) h)(hd:h[n]?=some (.dct kvs))
  (stay:∀k σ' h',I k σ' h'->h'[n]?=some (.frz kvs))
  (step:∀(k:Nat) (s:Str) (v:MV) (σ':MSt) (h':MH),kvs[k]?=some (s,v)->I k σ' h'->wp (body (cj is (row (s,v)) σ')) h' (λf h2=>∃σ2,f=.next σ2/\I (k+1) σ2 h2) E)
  (fin:∀σ' h',I kvs.length σ' h'->Q (.next σ') (h'.set n (.dct kvs))) (init:I 0 σ (h.set n (.frz kvs))):wp (nI is (lZ row e) body σ) h Q E:=by
 have hn:n<h.length:=(bN.mp hd).1;have e1:lZ row e σ h=.ok ⟨kvs.map row,[.d n kvs]⟩ (h.set n (.frz kvs)):=by
  unfold lZ;simp only[bnd,he,look,hd,put,hn,if_true,ret]
 unfold nI;rw[aL];refine cI e1 ?_;rw[aL];refine dR (λk σ' h'=>I k σ' h') (λk σ' h' i=>by simpa[Src.okIn,iO] using stay k σ' h' i) (λk x σ' h' hx i=>?_) (λσ' h' i=>?_) init
 ·rw[bj]at hx;cases ek:kvs[k]? with
  |none=>rw[ek]at hx;cases hx
  |some p=>
    rw[ek]at hx;cases hx;exact fe (step k p.1 p.2 σ' h' ek i) (λf h2 ⟨σ2,ef,i2⟩=>by subst ef;exact i2) λ_ _ x=>x
 ·rw[bS]at i;have s:=stay _ _ _ i;have hl:n<h'.length:=(bN.mp s).1;have e2:thaw ⟨kvs.map row,[.d n kvs]⟩ (.next σ') h'=.ok (.next σ') (h'.set n (.dct kvs)):=by
   unfold thaw;simp only[bnd,look,s,put,hl,if_true,ret]
  exact cI e2 (fin _ _ i)
end
structure Wn where
 dt:Int
 nm:Str
 rk:Int
 pt:Nat
 am:Int
instance:Inhabited Wn:=⟨⟨0,PySem.Str.empty,0,0,0⟩⟩
noncomputable def Wn.row(r:Wn):MV:=.tup [.int r.dt,.str r.nm,.int r.rk,.int r.pt,.int r.am]
noncomputable def Wn.key(r:Wn):List MKey:=[.inl r.dt,.inr r.nm,.inl r.rk,.inl r.pt,.inl r.am]
def Wn.ltP(a b:Wn):Prop:=a.dt<b.dt∨(a.dt=b.dt/\(a.nm.cps.toList<b.nm.cps.toList∨(a.nm=b.nm/\a.rk<b.rk)))
def Wn.lt(a b:Wn):Bool:=@decide (Wn.ltP a b) (mU _)
theorem Wn.lt_iff{a b:Wn}:a.lt b=true↔a.ltP b:=by unfold Wn.lt;exact @decide_eq_true_iff _ (mU _)
theorem Wn.lt_not{a b:Wn}:a.lt b=false↔¬a.ltP b:=by unfold Wn.lt;exact @decide_eq_false_iff_not _ (mU _)
theorem Wn.lt_tr{a b c:Wn}(h1:a.lt b=true)(h2:b.lt c=true):a.lt c=true:=by
 rw[Wn.lt_iff]at *;rcases h1 with h1|⟨h1,h1'⟩ <;> rcases h2 with h2|⟨h2,h2'⟩
 ·exact .inl (by lia)
 ·exact .inl (by lia)
 ·exact .inl (by lia)
 ·refine .inr ⟨by lia,?_⟩;rcases h1' with x|⟨x,x'⟩ <;> rcases h2' with y|⟨y,y'⟩
  ·exact .inl (List.lt_trans x y)
  ·exact .inl (y▸x)
  ·exact .inl (x▸y)
  ·exact .inr ⟨x.trans y,by lia⟩
theorem Wn.lt_irr(a:Wn):a.lt a=false:=by
 rw[Wn.lt_not];rintro(h|⟨_,h|⟨_,h⟩⟩)
 ·lia
 ·exact List.lt_irrefl _ h
 ·lia
theorem Wn.lt_asy{a b:Wn}(h1:a.lt b=true):b.lt a=false:=by
 cases e:b.lt a with
 |false=>rfl
 |true=>
   have:=Wn.lt_tr h1 e;rw[Wn.lt_irr]at this;cases this
theorem Wn.lt_tot{a b:Wn}(hn:(a.nm,a.rk)≠(b.nm,b.rk))(h:a.lt b=false):b.lt a=true:=by
 rw[Wn.lt_not]at h;rw[Wn.lt_iff];by_cases e:a.dt=b.dt
 ·refine .inr ⟨e.symm,?_⟩;by_cases en:a.nm=b.nm
  ·refine .inr ⟨en.symm,?_⟩;have:a.rk≠b.rk:=λz=>hn (by rw[en,z]);have:¬a.rk<b.rk:=λz=>h (.inr ⟨e,.inr ⟨en,z⟩⟩);lia
  ·rcases wJ a.nm.cps.toList b.nm.cps.toList (λz=>en (zJ z)) with z|z
   ·exact absurd (.inr ⟨e,.inl z⟩) h
   ·exact .inl z
 ·refine .inl ?_;have:¬a.dt<b.dt:=λz=>h (.inl z);lia
theorem Jb{a b:Wn}(hn:(a.nm,a.rk)≠(b.nm,b.rk)):ltK a.key b.key=some (a.lt b):=by
 have nl:∀{a b:Wn},a.lt b=decide (a.dt<b.dt∨(a.dt=b.dt/\(a.nm.cps.toList<b.nm.cps.toList∨(a.nm=b.nm/\a.rk<b.rk)))):=λ{a b}=>by
  unfold Wn.lt Wn.ltP;congr
 unfold Wn.key;rw[nl];by_cases e:a.dt=b.dt
 ·simp only[ltK,e,if_true];by_cases en:a.nm=b.nm
  ·have er:a.rk≠b.rk:=λz=>hn (by rw[en,z]);have:¬((Sum.inl a.rk:MKey)=Sum.inl b.rk):=λz=>er (by injection z);rw[if_pos (by rw[en]),if_neg this];simp[en,List.lt_irrefl]
  ·have:¬((Sum.inr a.nm:MKey)=Sum.inr b.nm):=λz=>en (by injection z);rw[if_neg this];simp[en]
 ·have:¬((Sum.inl a.dt:MKey)=Sum.inl b.dt):=λz=>e (by injection z);simp only[ltK];rw[if_neg this];simp[e]
def WNm(rs:List Wn):Prop:=(rs.map λr=>(r.nm,r.rk)).Nodup
theorem WNm.get{rs:List Wn}(n:WNm rs){i j:Nat}{a b:Wn}(hi:rs[i]?=some a)(hj:rs[j]?=some b)(hne:i≠j):(a.nm,a.rk)≠(b.nm,b.rk):=by
 intro z;have e1:(rs.map λr=>(r.nm,r.rk))[i]?=some (a.nm,a.rk):=by simp[hi]
 have e2:(rs.map λr=>(r.nm,r.rk))[j]?=some (a.nm,a.rk):=by rw[z];simp[hj]
 obtain⟨l1,g1⟩:=bN.mp e1;obtain⟨l2,g2⟩:=bN.mp e2;have pw:=nL.mp n;rcases vB hne with q|q
 ·exact pw i j l1 l2 q (g1.trans g2.symm)
 ·exact pw j i l2 l1 q (g2.trans g1.symm)
noncomputable def jA(rs:List Wn):List Nat:=(dA (rs.map Wn.key)).getD []
noncomputable def que(rs:List Wn):List Wn:=(jA rs).map λi=>rs.getD i default
theorem qU{rs:List Wn}(n:WNm rs)(h64:rs.length<64):dA (rs.map Wn.key)=some (jA rs)/\(jA rs).Perm (ci rs.length)/\∀i j,i<j->j<rs.length->∀a b,(que rs)[i]?=some a->(que rs)[j]?=some b->a.lt b=true:=by
 by_cases h2:rs.length<2
 ·have e:dA (rs.map Wn.key)=some (ci rs.length):=by
   unfold dA;rw[if_pos (by simpa using h2)];simp
  have e2:jA rs=ci rs.length:=by unfold jA;rw[e];rfl
  refine⟨by rw[e,e2],by rw[e2],λi j hij hj=>by lia⟩
 ·let lt:Nat->Nat->Bool:=λi j=>(rs.getD i default).lt (rs.getD j default)
  have gd:∀i,i<rs.length->rs[i]?=some (rs.getD i default):=λi hi=>by simp[hi]
  have O:SOrd (iT (rs.map Wn.key)) lt rs.length:=by
   refine⟨λi j hi hj hne=>?_,λi j hi hj hne h=>?_,λi j hi hj h=>?_,λi j k hi hj hk h1 h2=>?_⟩
   ·have hn:=n.get (gd i hi) (gd j hj) hne;unfold iT;rw[bj,bj,gd i hi,gd j hj];simp only[wk];rw[if_neg,Jb hn];intro z;unfold Wn.key at z;injection z with _ z;injection z with z1 z;injection z with z2 _;injection z1 with z1;injection z2 with z2;exact hn (by rw[z1,z2])
   ·exact Wn.lt_tot (n.get (gd i hi) (gd j hj) hne) h
   ·exact Wn.lt_asy h
   ·exact Wn.lt_tr h1 h2
  obtain⟨p,q1,q2,q3⟩:=Ae O (by lia);have e:dA (rs.map Wn.key)=some p.toList:=by
   unfold dA;rw[if_neg (by simpa using h2),if_pos (by simpa using h64),bS,q1]
  have e2:jA rs=p.toList:=by unfold jA;rw[e];rfl
  refine⟨by rw[e,e2],by rw[e2];exact q2.list,λi j hij hj a b ha hb=>?_⟩;have hs:=q2.size;have u:=q3 i j hij hj;unfold que at ha hb;rw[e2,bj]at ha hb;have pi:p.toList[i]?=some (p.getD i 0):=by simp[show i<p.size by lia]
  have pj:p.toList[j]?=some (p.getD j 0):=by simp[show j<p.size by lia]
  rw[pi]at ha;rw[pj]at hb;cases ha;cases hb;exact u
theorem lI{rs:List Wn}(n:WNm rs)(h64:rs.length<64):(que rs).Perm rs:=by
 obtain⟨_,p,_⟩:=qU n h64;have q:=p.map λi=>rs.getD i default;have e:(ci rs.length).map (λi=>rs.getD i default)=rs:=by
  apply kR;intro i;rw[bj];by_cases h:i<rs.length
  ·rw[gR h];simp[h]
  ·rw[mM (by rw[List.length_range];lia),mM (by lia)];rfl
 rw[e]at q;exact q
theorem wD{rs:List Wn}(n:WNm rs)(h64:rs.length<64):(que rs).length=rs.length:=(lI n h64).length_eq
theorem xy{rs:List Wn}(n:WNm rs)(h64:rs.length<64):(que rs).Pairwise λa b=>a.lt b=true:=by
 obtain⟨_,_,s⟩:=qU n h64;rw[nL];intro i j hi hj hij;have hl:=wD n h64;exact s i j hij (by lia) _ _ (by simp) (by simp)
theorem Ce{rs:List Wn}(n:WNm rs)(h64:rs.length<64)(f:Wn->MV):pick (rs.map f) (jA rs)=(que rs).map f:=by
 unfold pick que;rw[bX];refine gA λi hi=>?_;obtain⟨_,p,_⟩:=qU n h64;have:=jk.mp (p.mem_iff.mp hi);simp[this]
theorem Bt:∀{xs ys:List Wn},xs.Perm ys->xs.Pairwise (λa b=>a.lt b=true)->ys.Pairwise (λa b=>a.lt b=true)->xs=ys
 |[],ys,p,_,_=>(List.nil_perm.mp p).symm
 |x::xs,[],p,_,_=>absurd (List.perm_nil.mp p) (by simp)
 |x::xs,y::ys,p,s1,s2=>by
   obtain⟨a1,b1⟩:=List.pairwise_cons.mp s1;obtain⟨a2,b2⟩:=List.pairwise_cons.mp s2;have e:x=y:=by
    have hx:x∈y::ys:=p.mem_iff.mp fA;have hy:y∈x::xs:=p.mem_iff.mpr fA;rcases bK.mp hx with z|z
    ·exact z
    ·rcases bK.mp hy with w|w
     ·exact w.symm
     ·have:=Wn.lt_asy (a2 x z);rw[a1 y w]at this;cases this
   subst e;rw[Bt (List.Perm.cons_inv p) b1 b2]
theorem Fc{rs rs':List Wn}(n:WNm rs)(h64:rs.length<64)(p:rs.Perm rs'):que rs=que rs':=by
 have n':WNm rs':=(p.map λ(r:Wn)=>(r.nm,r.rk)).nodup_iff.mp n;have h':rs'.length<64:=by rw[←p.length_eq];exact h64
 exact Bt ((lI n h64).trans (p.trans (lI n' h').symm)) (xy n h64) (xy n' h')
theorem Aw{h:MH}{E:Nat->MH->Prop}{Q:MV->MH->Prop}{a:Nat}{rs:List Wn}(n:WNm rs)(h64:rs.length<64)(ha:h[a]?=some (.lst (rs.map Wn.row)))(q:Q (.ref h.length) (h++[.lst ((que rs).map Wn.row)])):wp (lO (.ref a)) h Q E:=by
 have er:∀l:List Wn,fJ gH (l.map Wn.row)=some (l.map Wn.key):=by
  intro l
  induction l with
  |nil=>rfl
  |cons x l ih=>simp only[bz,fJ,gH,Wn.row,km,rD,ih];rfl
 have ea:(rs.map Wn.key).all hU=true:=by simp[Wn.key,hU]
 obtain⟨six,_,_⟩:=qU n h64;have key:lO (.ref a) h=.ok (.ref h.length) (h++[.lst ((que rs).map Wn.row)]):=by
  unfold lO;simp only[bnd,look,ha,er,ea,if_true,six,Ce n h64];rfl
 exact cI key q
section
variable {h:MH}{E:Nat->MH->Prop}{σ:MSt}
theorem Ex{is:List Nat}{e:ME}{Q:MF->MH->Prop}(q:wp (e σ) h (λx h1=>∃n xs,x=.ref n/\h1[n]?=some (.lst xs)/\xs.length=is.length/\Q (.next (cj is xs σ)) h1) E):wp (pz is e σ) h Q E:=by
 unfold pz;rw[aL];refine fe q (λv h1 ⟨n,xs,ev,g,l,q⟩=>?_) λ_ _ z=>z;subst ev;dsimp only;rw[aL,yI g];dsimp only;rw[if_pos l,bx];exact q
theorem zM{f:α->MV}{g:α->Str×MV}(hf:∀x,f x=.tup [.str (g x).1,(g x).2]):∀l:List α,j8 (l.map f)=some (l.map g)
 |[]=>rfl
 |x::l=>by
   rw[bz,hf];unfold j8;rw[zM hf l];rfl
theorem Gz{k:Str}{v:MV}{kvs:List (Str×MV)}(hk:k∉kvs.map (·.1)):dput k v kvs=kvs++[(k,v)]:=by
 have:∀{l:List (Str×MV)},k∉l.map (·.1)->dget k l=none:=by
  intro l
  induction l with
  |nil=>intro _;rfl
  |cons p l ih=>
    intro hl;simp only[bz,bK,not_or]at hl;unfold dget;rw[if_neg λz=>hl.1 z.symm];exact ih hl.2
 unfold dput;rw[this hk];rfl
theorem xO:∀{ps kvs:List (Str×MV)},((kvs++ps).map (·.1)).Nodup->mT ps kvs=kvs++ps
 |[],kvs,_=>by simp[mT]
 |p::ps,kvs,nd=>by
   have hk:p.1∉kvs.map (·.1):=by
    rw[dm,hG]at nd;exact λz=>nd.2.2 _ z _ (by simp) rfl
   show mT ps (dput p.1 p.2 kvs)=_;rw[Gz hk,xO (by simpa using nd)];simp
theorem Ez{n:Nat}{xs:List MV}{ps:List (Str×MV)}{Q:MV->MH->Prop}(g:h[n]?=some (.lst xs))(e:j8 xs=some ps)(nd:(ps.map (·.1)).Nodup)(few:ps.length<900)(q:Q (.ref h.length) (h++[.dct ps])):wp (sR (.ref n)) h Q E:=by
 unfold sR;dsimp only;rw[aL,yI g];dsimp only;rw[e];dsimp only;rw[if_pos few,xO (by simpa using nd)];show wp (new (.dct ps)) h Q E;unfold wp new;exact q
theorem uG{a b:MS}{Q:MF->MH->Prop}(w:wp (a σ) h (λf h1=>∃v,f=.ret v/\Q (.ret v) h1) E):wp (au a b σ) h Q E:=by
 rw[dL];refine fe w (λf h1 z=>?_) λ_ _ z=>z;obtain⟨v,rfl,q⟩:=z;exact q
end
section
variable {h:MH}{E:Nat->MH->Prop}{σ:MSt}
end
end L2.Rv
namespace L2.Rv
noncomputable section
open PySem (Str)
def vi:MS:=(bn (rC (aZ (ae 0) [3] "held") 0 (dX (ao (aZ (aj oIx (aZ (ae 1) [3] "held") (ae 0)) [5,2] "date") (ao (ae 0) az)))))
def mS:Fn:=fnOf 1 1 vi
noncomputable def uM:MS:=(au (ee (ae 0) [4] "book" (ae 1))
  (au (ee (ae 0) [4] "ponds" iy)
  (au (ee (ae 0) [4] "last_day" iy)
  (au (ee (ae 0) [4] "all_days" iy)
  (ee (ae 0) [4] "ran_out" (eC (.int 0)))))))
noncomputable def qm:Fn:=fnOf 2 2 uM
noncomputable def vj:MS:=(bn (aZ (ae 0) [3] "stream"))
noncomputable def jK:Fn:=fnOf 1 1 vj
noncomputable def wH:MS:=(au (f9 (aZ (ae 0) [4] "last_day") (ae 1) (aj bY (iE (aZ (ae 0) [4] "last_day") (ae 1) (eC (.int 0))) (ae 2)))
  (f9 (aZ (ae 0) [4] "all_days") (ae 1) (aj bY (iE (aZ (ae 0) [4] "all_days") (ae 1) (eC (.int 0))) (ae 2))))
noncomputable def mX:Fn:=fnOf 3 3 wH
noncomputable def uY:MS:=(au (sIf (aj (oIn true) (ae 1) (aZ (ae 0) [3] "held")) (fQ 105 (ao (jT [.lit (aQ "there is no right "),.rp (ae 1)]) az)) b9)
  (bn (aj oIx (aZ (ae 0) [3] "held") (ae 1))))
noncomputable def nv:Fn:=fnOf 2 2 uY
noncomputable def wN:MS:=(au (aY 2 (bG 3 "held_right" nv (ae 0) (ao (ae 1) az)))
  (bn (dX (ao (aZ (ae 2) [5,2] "point") (ao (aZ (ae 2) [2] "amount") (ao (aZ (ae 2) [5,2] "date") az))))))
noncomputable def jP:Fn:=fnOf 2 3 wN
def qb:MS:=(au (aY 1 (eT az))
  (au (dC [2] (c9 (bG 3 "names" mS (aZ (ae 0) [4] "book") az)) (au (aY 3 (bG 3 "right" jP (aZ (ae 0) [4] "book") (ao (ae 2) az)))
  (cG (gN (ae 1) (dX (ao (aj oIx (ae 3) (eC (.int 2))) (ao (ae 2) (ao (eC (.int 0)) (ao (aj oIx (ae 3) (eC (.int 0))) (ao (aj oIx (ae 3) (eC (.int 1))) az))))))))))
  (au (nI [2,4] (AS (aZ (ae 0) [4] "ponds")) (cG (gN (ae 1) (dX (ao (aZ (ae 4) [5,2] "date") (ao (ae 2) (ao (eC (.int 1)) (ao (aZ (ae 4) [5,2] "point") (ao (aj gE (aZ (ae 4) [5] "size") (aZ (ae 4) [5] "held_water")) az)))))))))
  (bn (eUn lO (ae 1))))))
def o9:Fn:=fnOf 1 5 qb
noncomputable def uN:MS:=(bn (eUn cz (aZ (ae 0) [1] "runs_to")))
noncomputable def jE:Fn:=fnOf 1 1 uN
noncomputable def wg:MS:=(sIf (eOr (aj oLt (ae 1) (eC (.int 0))) (aj oGe (ae 1) (eUn cz (aZ (ae 0) [1] "runs_to")))) (fQ 103 (ao (eC (.str (aQ "the river has no such point"))) az)) b9)
noncomputable def jx:Fn:=fnOf 2 2 wg
noncomputable def v4:MS:=(au (cG (bG 1 "check_point" jx (ae 0) (ao (ae 1) az)))
  (au (aY 2 (eT az))
  (au (qI (eUn kY (ae 1)) (au (cG (gN (ae 2) (ae 1)))
  (aY 1 (aj oIx (aZ (ae 0) [1] "runs_to") (ae 1)))))
  (bn (ae 2)))))
noncomputable def qK:Fn:=fnOf 2 3 v4
noncomputable def uZ:MS:=(au (cG (bG 1 "check_point" jx (ae 0) (ao (ae 1) az)))
  (bn (aj oIx (aZ (ae 0) [1] "runs_to") (ae 1))))
noncomputable def nV:Fn:=fnOf 2 2 uZ
def we:MS:=(au (sIf (aj oNe (eUn cz (ae 1)) (bG 1 "points" jE (ae 0) az)) (fQ 102 (ao (eC (.str (aQ "a year has one inflow for each point"))) az)) b9)
  (dC [2] (c9 (ae 1)) (sIf (eOr (aj oLt (ae 2) (eC (.int 0))) (aj oGt (ae 2) (eC (.int 1000000)))) (fQ 102 (ao (eC (.str (aQ "an inflow is from 0 to 1000000"))) az)) b9)))
def sQ:Fn:=fnOf 2 3 we
def Bf:MS:=(au (cG (bM sQ (ao (ae 0) (ao (ae 1) az))))
  (au (aY 3 (eZ (l7 (ae 1) (ae 2)) none (aj gE (ae 5) (ae 6))))
  (au (dC [4] (rK (aj gE (bG 1 "points" jE (ae 0) az) (eC (.int 1))) (eC (.int 0))) (nO ot (ae 3) (bG 1 "below" nV (ae 0) (ao (ae 4) az)) (aj oIx (ae 3) (ae 4))))
  (bn (ae 3)))))
def sD:Fn:=fnOf 3 5 Bf
def xu:MS:=(au (aY 3 (bM sD (ao (ae 0) (ao (ae 1) (ao (aj fL (eT (ao (eC (.int 0)) az)) (bG 1 "points" jE (ae 0) az)) az)))))
  (au (aY 4 (eT az))
  (au (dC [5,6] (lM 2 (ae 2)) (au (aY 7 (bG 1 "way" qK (ae 0) (ao (ae 5) az)))
  (au (aY 8 (aj pI (ae 6) (eUn nQ (eZ (c9 (ae 7)) none (aj oIx (ae 3) (ae 10))))))
  (au (dC [9] (c9 (ae 7)) (nO gE (ae 3) (ae 9) (ae 8)))
  (cG (gN (ae 4) (ae 8)))))))
  (bn (dX (ao (ae 4) (ao (ae 3) az)))))))
def qV:Fn:=fnOf 3 10 xu
def sL:MS:=(bn (eZ (l7 (ae 0) (ae 1)) (some (aj oEq (aj oIx (ae 3) (eC (.int 2))) (ae 2))) (dX (ao (aj oIx (ae 3) (eC (.int 1))) (ao (ae 4) az)))))
def oP:Fn:=fnOf 3 3 sL
def sI:MS:=(au (aY 2 (bG 4 "wants_by_age" o9 (ae 0) az))
  (au (aY 3 (bM qV (ao (bG 3 "river" jK (aZ (ae 0) [4] "book") az) (ao (ae 1) (ao (eZ (c9 (ae 2)) none (eSl (ae 9) (some (eC (.int 3))) none)) az)))))
  (au (aY 4 (bM oP (ao (ae 2) (ao (aj oIx (ae 3) (eC (.int 0))) (ao (eC (.int 0)) az)))))
  (au (aY 5 (bM oP (ao (ae 2) (ao (aj oIx (ae 3) (eC (.int 0))) (ao (eC (.int 1)) az)))))
  (au (ee (ae 0) [4] "last_day" iy)
  (au (dC [6,7] (lM 2 (ae 4)) (cG (bG 4 "give" mX (ae 0) (ao (ae 6) (ao (ae 7) az)))))
  (au (dC [6,7] (lM 2 (ae 5)) (au (aY 8 (aj oIx (aZ (ae 0) [4] "ponds") (ae 6)))
  (lR ot (ae 8) [5] "held_water" (ae 7))))
  (au (lR ot (ae 0) [4] "ran_out" (aj oIx (aj oIx (ae 3) (eC (.int 1))) (eC (.int 0))))
  (bn (dX (ao (ae 4) (ao (ae 5) az))))))))))))
def sy:Fn:=fnOf 2 9 sI
noncomputable def vt:MS:=(bn (aZ (ae 0) [4] "ran_out"))
noncomputable def l8:Fn:=fnOf 1 1 vt
noncomputable def pR:MS:=(au (sIf (aj oLt (ae 1) (eUn cz (ae 0))) (bn (aj oIx (ae 0) (ae 1))) b9)
  (bn (eC (.int 0))))
noncomputable def eY:Fn:=fnOf 2 2 pR
def uw:MS:=(bn (aj bY (eT (ao (eC .non) az)) (eZ (i5 (eC (.int 1)) (ae 2)) none (aj cx (bM eY (ao (ae 0) (ao (aj bY (ae 1) (ae 3)) az))) (ae 3)))))
def rG:Fn:=fnOf 3 3 uw
noncomputable def u0:MS:=(au (ee (ae 0) [3] "stream" (ae 1))
  (ee (ae 0) [3] "held" iy))
noncomputable def qH:Fn:=fnOf 2 2 u0
noncomputable def uQ:MS:=(sIf (aj (oIn false) (ae 1) (aZ (ae 0) [3] "held")) (fQ 104 (ao (jT [.lit (aQ "there is a right "),.rp (ae 1)]) az)) b9)
noncomputable def oH:Fn:=fnOf 2 2 uQ
noncomputable def vz:MS:=(au (ee (ae 0) [2] "point" (ae 1))
  (au (ee (ae 0) [2] "amount" (ae 2))
  (ee (ae 0) [2] "date" (ae 3))))
noncomputable def v5:Fn:=fnOf 4 4 vz
noncomputable def AT:MS:=(au (cG (bG 3 "check_free" oH (ae 0) (ao (ae 1) az)))
  (au (cG (bG 1 "check_point" jx (aZ (ae 0) [3] "stream") (ao (ae 2) az)))
  (au (f9 (aZ (ae 0) [3] "held") (ae 1) (js 2 v5 (ao (ae 2) (ao (ae 3) (ao (ae 4) az)))))
  (bn (eUn cz (aZ (ae 0) [3] "held"))))))
noncomputable def pM:Fn:=fnOf 5 5 AT
def vZ:MS:=(au (sIf (eOr (aj oLt (eUn cz (ae 0)) (eC (.int 1))) (aj oGt (eUn cz (ae 0)) (eC (.int 40)))) (fQ 101 (ao (eC (.str (aQ "a river has 1 to 40 points"))) az)) b9)
  (au (sIf (eUn kY (aj oIx (ae 0) (eC (.int 0)))) (fQ 101 (ao (eC (.str (aQ "nothing lies below the mouth"))) az)) b9)
  (dC [1] (i5 (eC (.int 1)) (eUn cz (ae 0))) (au (aY 2 (aj oIx (ae 0) (ae 1)))
  (sIf (eOr (eUn sT (ae 2)) (eOr (aj oLt (ae 2) (eC (.int 0))) (aj oGe (ae 2) (ae 1)))) (fQ 101 (ao (eC (.str (aQ "each point but the mouth has a point of a lesser number below it"))) az)) b9)))))
def t9:Fn:=fnOf 1 3 vZ
def wB:MS:=(au (cG (bM t9 (ao (ae 1) az)))
  (ee (ae 0) [1] "runs_to" (eUn mx (ae 1))))
def nJ:Fn:=fnOf 2 2 wB
def Ak:MS:=(au (aY 2 (js 3 qH (ao (js 1 nJ (ao (eUn mx (ae 0)) az)) az)))
  (au (dC [3] (c9 (ae 1)) (cG (bG 3 "grant" pM (ae 2) (ao (aj oIx (ae 3) (eC (.int 0))) (ao (aj oIx (ae 3) (eC (.int 1))) (ao (aj oIx (ae 3) (eC (.int 2))) (ao (aj oIx (ae 3) (eC (.int 3))) az)))))))
  (bn (ae 2))))
def sN:Fn:=fnOf 2 4 Ak
noncomputable def uf:MS:=(au (aY 2 (eT az))
  (au (qI (eUn kY (ae 1)) (au (cG (gN (ae 2) (ae 1)))
  (aY 1 (aj oIx (ae 0) (ae 1)))))
  (bn (ae 2))))
noncomputable def kf:Fn:=fnOf 2 3 uf
def xf:MS:=(au (aY 3 (eZ (c9 (ae 1)) none (eC (.int 0))))
  (au (dC [4] (fX (eUn cz (ae 1))) (dC [5] (c9 (bM kf (ao (ae 0) (ao (ae 4) az)))) (f9 (ae 3) (ae 5) (aj gE (aj bY (aj oIx (ae 3) (ae 5)) (aj oIx (ae 1) (ae 4))) (aj oIx (ae 2) (ae 4))))))
  (bn (ae 3))))
def nZ:Fn:=fnOf 3 6 xf
def rZ:MS:=(au (aY 3 (eZ (c9 (ae 1)) none (eC (.int 0))))
  (au (aY 4 (eT (ao (eT az) (ao (eT az) az))))
  (au (dC [5] (c9 (ae 2)) (au (aY 6 (bM nZ (ao (ae 0) (ao (ae 1) (ao (ae 3) az)))))
  (au (aY 7 (eUn nQ (aj bY (eT (ao (aj oIx (ae 5) (eC (.int 4))) az)) (eZ (c9 (bM kf (ao (ae 0) (ao (aj oIx (ae 5) (eC (.int 3))) az)))) none (aj oIx (ae 6) (ae 8))))))
  (au (f9 (ae 3) (aj oIx (ae 5) (eC (.int 3))) (aj bY (aj oIx (ae 3) (aj oIx (ae 5) (eC (.int 3)))) (ae 7)))
  (cG (gN (aj oIx (ae 4) (aj oIx (ae 5) (eC (.int 2)))) (dX (ao (aj oIx (ae 5) (eC (.int 1))) (ao (ae 7) az)))))))))
  (bn (dX (ao (ae 4) (ao (aj oIx (bM nZ (ao (ae 0) (ao (ae 1) (ao (ae 3) az)))) (eC (.int 0))) az)))))))
def o0:Fn:=fnOf 3 8 rZ
noncomputable def wb:MS:=(bn (mE (eUn (gU .int) (ae 0)) (fH (eUn (gU .bool) (ae 0)))))
noncomputable def kG:Fn:=fnOf 1 1 wb
def Br:MS:=(au (sIf (eOr (fH (eUn (gU .list) (ae 0))) (aj oNe (eUn cz (ae 0)) (eUn cz (ae 1)))) (bn (eC (.bl false))) b9)
  (au (dC [2,3] (l7 (ae 0) (ae 1)) (au (sIf (eOr (fH (eUn (gU .tuple) (ae 2))) (eOr (aj oNe (eUn cz (ae 2)) (eC (.int 2))) (eOr (fH (eUn (gU .str) (aj oIx (ae 2) (eC (.int 0))))) (fH (bM kG (ao (aj oIx (ae 2) (eC (.int 1))) az)))))) (bn (eC (.bl false))) b9)
  (sIf (eOr (aj oNe (aj oIx (ae 2) (eC (.int 0))) (aj oIx (ae 3) (eC (.int 0)))) (aj oNe (aj oIx (ae 2) (eC (.int 1))) (aj oIx (ae 3) (eC (.int 1))))) (bn (eC (.bl false))) b9)))
  (bn (eC (.bl true)))))
def oK:Fn:=fnOf 2 4 Br
def um:MS:=(au (sIf (eOr (fH (eUn (gU .tuple) (ae 0))) (aj oNe (eUn cz (ae 0)) (eC (.int 2)))) (bn (eC (.bl false))) b9)
  (bn (mE (bM oK (ao (aj oIx (ae 0) (eC (.int 0))) (ao (aj oIx (aj oIx (ae 1) (eC (.int 0))) (eC (.int 0))) az))) (bM oK (ao (aj oIx (ae 0) (eC (.int 1))) (ao (aj oIx (aj oIx (ae 1) (eC (.int 0))) (eC (.int 1))) az))))))
def rO:Fn:=fnOf 2 2 um
noncomputable def v9:MS:=(au (ee (ae 0) [5] "point" (ae 1))
  (au (ee (ae 0) [5] "size" (ae 2))
  (au (ee (ae 0) [5] "date" (ae 3))
  (ee (ae 0) [5] "held_water" (eC (.int 0))))))
noncomputable def vS:Fn:=fnOf 4 4 v9
noncomputable def ul:MS:=(au (sIf (aj (oIn false) (ae 1) (aZ (ae 0) [4] "ponds")) (fQ 104 (ao (jT [.lit (aQ "there is a pond "),.rp (ae 1)]) az)) b9)
  (au (cG (bG 1 "check_point" jx (bG 3 "river" jK (aZ (ae 0) [4] "book") az) (ao (ae 2) az)))
  (au (f9 (aZ (ae 0) [4] "ponds") (ae 1) (js 5 vS (ao (ae 2) (ao (ae 3) (ao (ae 4) az)))))
  (bn (eUn cz (aZ (ae 0) [4] "ponds"))))))
noncomputable def pZ:Fn:=fnOf 5 5 ul
def pb:MS:=(dC [2] (c9 (ae 1)) (cG (bG 4 "dig" pZ (ae 0) (ao (aj oIx (ae 2) (eC (.int 0))) (ao (aj oIx (ae 2) (eC (.int 1))) (ao (aj oIx (ae 2) (eC (.int 2))) (ao (aj oIx (ae 2) (eC (.int 3))) az)))))))
def mZ:Fn:=fnOf 2 3 pb
noncomputable def wL:MS:=(au (cG (bG 3 "right" jP (aZ (ae 0) [4] "book") (ao (ae 1) az)))
  (bn (iE (aZ (ae 0) [4] "all_days") (ae 1) (eC (.int 0)))))
noncomputable def qi:Fn:=fnOf 2 2 wL
noncomputable def vT:MS:=(au (cG (bG 3 "right" jP (aZ (ae 0) [4] "book") (ao (ae 1) az)))
  (bn (iE (aZ (ae 0) [4] "last_day") (ae 1) (eC (.int 0)))))
noncomputable def oG:Fn:=fnOf 2 2 vT
def rh:MS:=(au (dC [3] (c9 (ae 1)) (au (f9 (ae 2) (aj oIx (ae 3) (eC (.int 0))) (aj bY (iE (ae 2) (aj oIx (ae 3) (eC (.int 0))) (eC (.int 0))) (aj oIx (ae 3) (eC (.int 1)))))
  (sIf (eOr (aj oNe (bG 4 "got" oG (ae 0) (ao (aj oIx (ae 3) (eC (.int 0))) az)) (aj oIx (ae 3) (eC (.int 1)))) (aj oNe (bG 4 "account" qi (ae 0) (ao (aj oIx (ae 3) (eC (.int 0))) az)) (aj oIx (ae 2) (aj oIx (ae 3) (eC (.int 0)))))) (bn (eC (.bl false))) b9)))
  (bn (eC (.bl true))))
def tQ:Fn:=fnOf 3 4 rh
def xG:MS:=(au (aY 4 (eT az))
  (au (dC [5] (fX (ae 2)) (au (aY 6 (bM eY (ao (ae 0) (ao (aj bY (ae 1) (aj fL (eC (.int 2)) (ae 5))) az))))
  (au (aY 7 (bM eY (ao (ae 0) (ao (aj bY (aj bY (ae 1) (aj fL (eC (.int 2)) (ae 5))) (eC (.int 1))) az))))
  (au (aY 8 (aj oB (aj oIx (eC (.str (aQ "abcdefgh"))) (ae 5)) (aj bY (eC (.int 1)) (aj cx (aj dS (ae 6) (ae 3)) (eC (.int 8))))))
  (cG (gN (ae 4) (dX (ao (ae 8) (ao (aj cx (ae 6) (ae 3)) (ao (aj oIx (eT (ao (aj cx (aj dS (ae 7) (eC (.int 3))) (eC (.int 200))) (ao (aj cx (aj dS (ae 7) (eC (.int 3))) (eC (.int 1000001))) az))) (eUn ur (aj oEq (aj cx (ae 7) (eC (.int 3))) (eC (.int 2))))) (ao (aj cx (aj dS (ae 7) (eC (.int 7))) (eC (.int 4))) az)))))))))))
  (bn (ae 4))))
def tD:Fn:=fnOf 4 9 xG
def sw:MS:=(au (aY 3 (eZ (c9 (ae 0)) none (dX (ao (aj oIx (ae 5) (eC (.int 3))) (ao (aj oIx (ae 5) (eC (.int 0))) (ao (eC (.int 0)) (ao (aj oIx (ae 5) (eC (.int 1))) (ao (aj oIx (ae 5) (eC (.int 2))) az))))))))
  (au (dC [4] (c9 (ae 1)) (cG (gN (ae 3) (dX (ao (aj oIx (ae 4) (eC (.int 3))) (ao (aj oIx (ae 4) (eC (.int 0))) (ao (eC (.int 1)) (ao (aj oIx (ae 4) (eC (.int 1))) (ao (aj gE (aj oIx (ae 4) (eC (.int 2))) (aj oIx (ae 2) (aj oIx (ae 4) (eC (.int 0))))) az)))))))))
  (bn (eUn lO (ae 3)))))
def pQ:Fn:=fnOf 3 5 sw
def wT:MS:=(au (aY 2 (eC (.str (aQ "abcdefghijklmnopqrstuvwxyz"))))
  (au (aY 3 (sE (eC (.str (aQ ""))) (eZ (fX (aj cx (ae 0) (eC (.int 8)))) none (aj oIx (ae 2) (aj cx (aj bY (aj bY (aj dS (ae 0) (eC (.int 31))) (aj fL (aj fL (eC (.int 11)) (ae 5)) (ae 5))) (ae 5)) (eC (.int 26)))))))
  (au (aY 4 (aj cx (aj dS (ae 0) (eC (.int 8))) (aj bY (eUn cz (ae 3)) (eC (.int 1)))))
  (bn (eZ (fX (ae 1)) none (aj bY (aj bY (eSl (ae 3) none (some (ae 4))) (aj oIx (ae 2) (aj cx (aj bY (aj dS (ae 0) (eC (.int 64))) (aj fL (eC (.int 5)) (ae 5))) (eC (.int 26))))) (eSl (ae 3) (some (ae 4)) none)))))))
def qJ:Fn:=fnOf 2 5 wT
def AZ:MS:=(au (aY 4 (bM qJ (ao (bM eY (ao (ae 0) (ao (eC (.int 1)) az))) (ao (ae 2) az))))
  (au (aY 5 (eT az))
  (au (dC [6] (fX (ae 2)) (au (aY 7 (bM eY (ao (ae 0) (ao (aj bY (aj bY (ae 1) (aj fL (eC (.int 3)) (ae 6))) (eC (.int 1))) az))))
  (au (aY 8 (bM eY (ao (ae 0) (ao (aj bY (aj bY (ae 1) (aj fL (eC (.int 3)) (ae 6))) (eC (.int 2))) az))))
  (au (sIf (aj oEq (aj cx (ae 7) (eC (.int 7))) (eC (.int 6))) (aY 7 (aj cx (aj dS (ae 7) (eC (.int 7))) (eC (.int 1000001)))) (aY 7 (aj cx (aj dS (ae 7) (eC (.int 7))) (eC (.int 90)))))
  (au (sIf (aj oEq (aj cx (ae 8) (eC (.int 5))) (eC (.int 4))) (aY 8 (aj cx (aj dS (ae 8) (eC (.int 5))) (eC (.int 10000)))) (aY 8 (aj cx (aj dS (ae 8) (eC (.int 5))) (eC (.int 3)))))
  (cG (gN (ae 5) (dX (ao (aj oIx (ae 4) (ae 6)) (ao (aj cx (bM eY (ao (ae 0) (ao (aj bY (ae 1) (aj fL (eC (.int 3)) (ae 6))) az))) (ae 3)) (ao (ae 7) (ao (ae 8) az))))))))))))
  (bn (ae 5)))))
def oU:Fn:=fnOf 4 9 AZ
noncomputable def vw:MS:=(au (sIf (aj (oIn true) (ae 1) (aZ (ae 0) [4] "ponds")) (fQ 110 (ao (jT [.lit (aQ "there is no pond "),.rp (ae 1)]) az)) b9)
  (bn (aj oIx (aZ (ae 0) [4] "ponds") (ae 1))))
noncomputable def kQ:Fn:=fnOf 2 2 vw
noncomputable def pA:MS:=(au (aY 4 (bG 4 "pond_called" kQ (ae 0) (ao (ae 1) az)))
  (au (aY 5 (bG 3 "right" jP (aZ (ae 0) [4] "book") (ao (ae 2) az)))
  (au (sIf (aj (oIn true) (aj oIx (ae 5) (eC (.int 0))) (bG 1 "way" qK (bG 3 "river" jK (aZ (ae 0) [4] "book") az) (ao (aZ (ae 4) [5,2] "point") az))) (fQ 111 (ao (eC (.str (aQ "the right's point does not lie below the pond"))) az)) b9)
  (au (aY 6 (aj qX (eC (.int 0)) (aj gE (aj oIx (ae 5) (eC (.int 1))) (bG 4 "got" oG (ae 0) (ao (ae 2) az)))))
  (au (sIf (aj oGt (ae 3) (aZ (ae 4) [5] "held_water")) (fQ 107 (ao (eC (.str (aQ "the amount is more than what is stored"))) az)) b9)
  (au (sIf (aj oGt (ae 3) (ae 6)) (fQ 107 (ao (eC (.str (aQ "the amount is more than what the right lacks"))) az)) b9)
  (au (lR gE (ae 4) [5] "held_water" (ae 3))
  (au (cG (bG 4 "give" mX (ae 0) (ao (ae 2) (ao (ae 3) az))))
  (bn (aZ (ae 4) [5] "held_water"))))))))))
noncomputable def qM:Fn:=fnOf 4 7 pA
def qC:MS:=(au (pz [6,7,8] (ae 4))
  (au (sIf (eOr (aj oEq (eUn cz (ae 2)) (eC (.int 0))) (aj oEq (eUn cz (ae 3)) (eC (.int 0)))) (bn (eC .non)) b9)
  (au (aY 9 (aj oIx (ae 2) (aj cx (ae 5) (eUn cz (ae 2)))))
  (au (aY 10 (aj oIx (ae 3) (aj cx (aj dS (ae 5) (eC (.int 7))) (eUn cz (ae 3)))))
  (au (sIf (aj (oIn true) (aj oIx (ae 10) (eC (.int 1))) (bM kf (ao (ae 1) (ao (aj oIx (ae 9) (eC (.int 1))) az)))) (bn (eC .non)) b9)
  (au (aY 11 (aj pI (aj oIx (ae 6) (aj oIx (ae 9) (eC (.int 0)))) (aj qX (eC (.int 0)) (aj gE (aj oIx (ae 10) (eC (.int 2))) (iE (ae 7) (aj oIx (ae 10) (eC (.int 0))) (eC (.int 0)))))))
  (au (sIf (aj oEq (aj cx (aj dS (ae 5) (eC (.int 3))) (eC (.int 3))) (eC (.int 1))) (aY 11 (aj cx (aj dS (ae 5) (eC (.int 50))) (aj bY (ae 11) (eC (.int 1))))) b9)
  (au (cG (bG 4 "send" qM (ae 0) (ao (aj oIx (ae 9) (eC (.int 0))) (ao (aj oIx (ae 10) (eC (.int 0))) (ao (ae 11) az)))))
  (au (f9 (ae 6) (aj oIx (ae 9) (eC (.int 0))) (aj gE (aj oIx (ae 6) (aj oIx (ae 9) (eC (.int 0)))) (ae 11)))
  (f9 (ae 8) (aj oIx (ae 10) (eC (.int 0))) (aj bY (iE (ae 8) (aj oIx (ae 10) (eC (.int 0))) (eC (.int 0))) (ae 11))))))))))))
def pq:Fn:=fnOf 6 12 qC
noncomputable def wa:MS:=(bn (aZ (bG 4 "pond_called" kQ (ae 0) (ao (ae 1) az)) [5] "held_water"))
noncomputable def oM:Fn:=fnOf 2 2 wa
def sK:MS:=(au (dC [3] (c9 (ae 1)) (au (f9 (ae 2) (aj oIx (ae 3) (eC (.int 0))) (aj bY (aj oIx (ae 2) (aj oIx (ae 3) (eC (.int 0)))) (aj oIx (ae 3) (eC (.int 1)))))
  (sIf (eOr (fH (bM kG (ao (bG 4 "stored" oM (ae 0) (ao (aj oIx (ae 3) (eC (.int 0))) az)) az))) (aj oNe (bG 4 "stored" oM (ae 0) (ao (aj oIx (ae 3) (eC (.int 0))) az)) (aj oIx (ae 2) (aj oIx (ae 3) (eC (.int 0)))))) (bn (eC (.bl false))) b9)))
  (bn (eC (.bl true))))
def qh:Fn:=fnOf 3 4 sK
def sC:MS:=(au (sIf (eOr (aj oEq (eUn cz (ae 0)) (eC (.int 0))) (eOr (aj oEq (eUn cz (ae 1)) (eC (.int 0))) (aj (oIn false) (aj oIx (aj oIx (ae 1) (eC (.int 0))) (eC (.int 0))) (eZ (c9 (eSl (ae 0) (some (eC (.int 1))) none)) none (aj oIx (ae 2) (eC (.int 0))))))) (bn (ae 0)) b9)
  (bn (aj bY (eT (ao (dX (ao (aj oIx (aj oIx (ae 1) (eC (.int 0))) (eC (.int 0))) (ao (aj oIx (aj oIx (ae 0) (eC (.int 0))) (eC (.int 1))) (ao (aj oIx (aj oIx (ae 0) (eC (.int 0))) (eC (.int 2))) (ao (aj oIx (aj oIx (ae 1) (eC (.int 0))) (eC (.int 3))) az))))) az)) (eSl (ae 0) (some (eC (.int 1))) none))))
def sr:Fn:=fnOf 2 2 sC
def BS:MS:=(au (aY 3 (eT az))
  (au (dC [4] (fX (ae 2)) (au (aY 5 (bM eY (ao (ae 0) (ao (aj bY (ae 1) (ae 4)) az))))
  (au (aY 6 (aj cx (aj dS (ae 5) (eC (.int 5))) (eC (.int 60))))
  (au (sIf (aj oEq (aj cx (ae 5) (eC (.int 5))) (eC (.int 4))) (aY 6 (aj cx (aj dS (ae 5) (eC (.int 5))) (eC (.int 1000001)))) b9)
  (cG (gN (ae 3) (ae 6)))))))
  (bn (ae 3))))
def sG:Fn:=fnOf 3 7 BS
def vV:MS:=(au (sIf (aj oGt (ae 13) (eC (.int 0))) (cG (bM pq (ao (ae 6) (ao (ae 2) (ao (ae 12) (ao (ae 3) (ao (eT (ao (ae 7) (ao (ae 11) (ao (ae 10) az)))) (ao (bM eY (ao (ae 0) (ao (aj bY (eC (.int 47)) (ae 13)) az))) az)))))))) b9)
  (au (sIf (aj oEq (ae 13) (eC (.int 1))) (au (cG (bM mZ (ao (ae 6) (ao (eSl (ae 4) (some (eUn oI (eC (.int 1)))) none) az))))
  (aY 12 (ae 4))) b9)
  (au (aY 14 (bM sG (ao (ae 0) (ao (aj bY (eC (.int 27)) (aj fL (eC (.int 7)) (ae 13))) (ao (ae 1) az)))))
  (au (aY 15 (bM o0 (ao (ae 2) (ao (ae 14) (ao (bM pQ (ao (ae 3) (ao (ae 12) (ao (ae 7) az)))) az)))))
  (au (aY 16 (bG 4 "day" sy (ae 6) (ao (ae 14) az)))
  (au (sIf (eOr (fH (bM rO (ao (ae 16) (ao (ae 15) az)))) (fH (bM qh (ao (ae 6) (ao (aj oIx (aj oIx (ae 15) (eC (.int 0))) (eC (.int 1))) (ao (ae 7) az)))))) (bn (eC (.bl false))) b9)
  (au (aY 9 (aj bY (ae 9) (aj oIx (ae 15) (eC (.int 1)))))
  (au (cG (ow (aj oIx (ae 16) (eC (.int 0)))))
  (au (cG (ow (aj oIx (ae 16) (eC (.int 1)))))
  (au (aY 11 (eUn sR (aj oIx (aj oIx (ae 15) (eC (.int 0))) (eC (.int 0)))))
  (au (sIf (fH (bM tQ (ao (ae 6) (ao (aj oIx (aj oIx (ae 15) (eC (.int 0))) (eC (.int 0))) (ao (ae 10) az))))) (bn (eC (.bl false))) b9)
  (sIf (eOr (fH (bM kG (ao (bG 4 "out" l8 (ae 6) az) az))) (aj oNe (bG 4 "out" l8 (ae 6) az) (ae 9))) (bn (eC (.bl false))) b9))))))))))))
def rm:MS:=(au (aY 1 (aj bY (eC (.int 1)) (aj cx (bM eY (ao (ae 0) (ao (eC (.int 0)) az))) (eC (.int 6)))))
  (au (aY 2 (bM rG (ao (ae 0) (ao (eC (.int 1)) (ao (ae 1) az)))))
  (au (aY 3 (bM oU (ao (ae 0) (ao (eC (.int 8)) (ao (aj cx (aj dS (bM eY (ao (ae 0) (ao (eC (.int 0)) az))) (eC (.int 6))) (eC (.int 5))) (ao (ae 1) az))))))
  (au (aY 4 (bM tD (ao (ae 0) (ao (eC (.int 20)) (ao (aj cx (aj dS (bM eY (ao (ae 0) (ao (eC (.int 0)) az))) (eC (.int 30))) (eC (.int 4))) (ao (ae 1) az))))))
  (au (aY 5 (bM eY (ao (ae 0) (ao (eC (.int 26)) az))))
  (au (sIf (aj oEq (aj cx (aj dS (ae 5) (eC (.int 3))) (eC (.int 3))) (eC (.int 1))) (aY 4 (bM sr (ao (ae 4) (ao (ae 3) az)))) b9)
  (au (aY 6 (js 4 qm (ao (bM sN (ao (ae 2) (ao (ae 3) az))) az)))
  (au (cG (bM mZ (ao (ae 6) (ao (eSl (ae 4) none (some (eUn oI (eC (.int 1))))) az))))
  (au (aY 7 iy)
  (au (dC [8] (c9 (ae 4)) (f9 (ae 7) (aj oIx (ae 8) (eC (.int 0))) (eC (.int 0))))
  (au (aY 9 (eC (.int 0)))
  (au (aY 10 iy)
  (au (aY 11 iy)
  (au (aY 12 (eSl (ae 4) none (some (eUn oI (eC (.int 1))))))
  (au (dC [13] (fX (aj bY (eC (.int 1)) (aj cx (ae 5) (eC (.int 3))))) vV)
  (bn (eC (.bl true))))))))))))))))))
def ou:Fn:=fnOf 1 17 rm
end
end L2.Rv
namespace L2.Rv
open PySem PySem.Spec PyProof.Rows
noncomputable def top(i:Nat):aT:=PySem.Challenge.pw_riverdue_k20_a_day.main.body.getD i (.Pass ⟨0,0,0,0⟩)
noncomputable abbrev tK:aT:=cU (top 28) 2
noncomputable abbrev tV:aT:=cU (top 24) 0
noncomputable abbrev tP:aT:=cU (top 28) 1
noncomputable abbrev sx:aT:=cU (top 24) 9
noncomputable abbrev sP:aT:=cU (top 28) 8
noncomputable abbrev rT:aT:=cU (top 28) 3
noncomputable abbrev oZ:aT:=cU (top 24) 10
noncomputable abbrev o6:aT:=cU (top 14) 1
noncomputable abbrev pT:aT:=cU (top 14) 2
noncomputable abbrev rF:aT:=cU (top 14) 4
noncomputable abbrev rN:aT:=cU (top 14) 3
noncomputable abbrev qR:aT:=top 16
noncomputable abbrev sZ:aT:=top 17
noncomputable abbrev q9:aT:=top 19
noncomputable abbrev tU:aT:=top 25
noncomputable abbrev qE:aT:=cU (top 24) 2
noncomputable abbrev qD:aT:=cU (top 24) 7
noncomputable abbrev qq:aT:=top 30
noncomputable abbrev rB:aT:=top 32
noncomputable abbrev rA:aT:=cU (top 28) 0
noncomputable abbrev sX:aT:=cU (top 28) 9
noncomputable abbrev pW:aT:=cU (top 27) 0
noncomputable abbrev rJ:aT:=cU (top 28) 4
noncomputable abbrev rE:aT:=top 15
noncomputable abbrev pV:aT:=cU (top 14) 0
noncomputable abbrev qz:aT:=top 37
noncomputable abbrev sV:aT:=top 33
noncomputable abbrev sS:aT:=top 38
noncomputable abbrev qw:aT:=top 43
noncomputable abbrev qa:aT:=top 31
noncomputable abbrev tw:aT:=top 39
noncomputable abbrev rg:aT:=top 46
noncomputable abbrev qL:aT:=cU (top 23) 0
noncomputable abbrev rM:aT:=cU (top 24) 1
noncomputable abbrev rj:aT:=top 41
noncomputable abbrev sB:aT:=cU (top 24) 6
noncomputable abbrev sW:aT:=cU (top 24) 5
noncomputable abbrev qP:aT:=top 45
noncomputable abbrev qZ:aT:=top 40
noncomputable abbrev pc:aT:=top 42
noncomputable abbrev qc:aT:=top 35
noncomputable abbrev qN:aT:=top 36
noncomputable abbrev tN:aT:=cU (top 24) 8
noncomputable abbrev qf:aT:=cU (top 24) 3
noncomputable abbrev sH:aT:=top 48
noncomputable abbrev p9:aT:=cU (top 24) 4
noncomputable abbrev tO:aT:=top 47
noncomputable abbrev rL:aT:=top 44
noncomputable abbrev qA:aT:=top 34
noncomputable abbrev qr:aT:=top 49
structure Adr where
 zeM:af
 zjb:af
 zaZ:af
 zgZ:af
 zfd:af
 zis:af
 zgn:af
 zhT:af
 zhU:af
 zl5:af
 zhV:af
 zhW:af
 zjz:af
 zgo:af
 zfY:af
 zd1:bf
 zcC:af
 zcz:bf
 zf0:af
 zfP:bf
 zeT:af
 zeN:bf
 zcB:af
 zcy:bf
 zfZ:af
 zfO:bf
 zbE:af
 zbD:bf
 zeb:af
 zea:bf
 zb7:af
 zb6:bf
 zhb:af
 zg0:bf
 zeV:af
 zeP:bf
 zf5:af
 zfU:bf
 znT:af
 znR:bf
 znU:af
 znS:bf
 zdG:af
 zdB:bf
 zf1:af
 zfQ:bf
 zf4:af
 zfT:bf
 zeX:af
 zeR:bf
 zhc:af
 zg1:bf
 zdC:af
 zdx:bf
 zcA:af
 zcx:bf
 zc1:af
 zcY:bf
 zfX:af
 zfN:bf
 zeW:af
 zeQ:bf
 zc2:af
 zcZ:bf
 ziD:af
 zit:bf
 zkt:af
 zkn:bf
 zhd:af
 zg2:bf
 zkq:af
 zkk:bf
 zhi:af
 zg7:bf
 zhf:af
 zg4:bf
 zdF:af
 zdA:bf
 zdE:af
 zdz:bf
 zf2:af
 zfR:bf
 zkr:af
 zkl:bf
 zc0:af
 zcX:bf
 zf3:af
 zfS:bf
 zks:af
 zkm:bf
 zhg:af
 zg5:bf
 zhh:af
 zg6:bf
 zhe:af
 zg3:bf
 zf6:af
 zfV:bf
 zbS:af
 zbR:bf
 zeU:af
 zeO:bf
 ziE:af
 ziu:bf
 zdD:af
 zdy:bf
 zf7:af
 zfW:bf
 ziF:af
 ziv:bf
 ziG:af
 ziw:bf
 zs4:af
 zs3:bf
 tb:af
noncomputable def Adr.cl(a:Adr):Nat->af:=λn=>if n=999 then a.tb else if n=998 then 189 else if n=997 then 37 else if n=996 then 1 else if n=1 then a.zeM else if n=5 then a.zjb else if n=4 then a.zaZ else if n=2 then a.zgZ else if n=3 then a.zfd else if n=100 then a.zis else if n=101 then a.zgn else if n=102 then a.zhT else if n=103 then a.zhU else if n=104 then a.zl5 else if n=105 then a.zhV else if n=107 then a.zhW else if n=110 then a.zjz else if n=111 then a.zgo else 0
structure Txt(K:PySem.W.Frag)(mg:Str->Option ai)(a:Adr):Prop where
 zr5:mg "bool"=none
 zr6:mg "dict"=none
 zs5:mg "int"=none
 zbG:mg "isinstance"=none
 zdL:mg "len"=none
 zoL:mg "list"=none
 zs6:mg "max"=none
 zqI:mg "min"=none
 zdJ:mg "range"=none
 zjA:mg "sorted"=none
 zut:mg "str"=none
 znW:mg "tuple"=none
 zrJ:mg "zip"=none
 zqA:KTy K a.cl (.type "bool") .bool
 zr1:KTy K a.cl (.type "int") .int
 zqB:KTy K a.cl (.type "list") .list
 zr2:KTy K a.cl (.type "str") .str
 zl8:KTy K a.cl (.type "tuple") .tuple
 zhX:∃t,mg "MOST_INFLOW"=some (.int 1000000 t)
 zhY:∃t,mg "MOST_POINTS"=some (.int 40 t)
 zec:∃t,mg "RANK_OF_POND"=some (.int 1 t)
 zdH:∃t,mg "RANK_OF_RIGHT"=some (.int 0 t)
 zqD:mg "River"=some (.ref a.zeM)
 zbh:Cls K a.zeM
 zoK:Mk K a.zeM a.zc2
 za8:dh K a.zeM "runs_to"
 zr4:mg "Pond"=some (.ref a.zjb)
 zbv:Cls K a.zjb
 zqH:Mk K a.zjb a.zdE
 zcn:dh K a.zjb "point"
 zga:dh K a.zjb "size"
 zcP:dh K a.zjb "date"
 zaD:dh K a.zjb "held_water"
 zoI:mg "Office"=some (.ref a.zaZ)
 zak:Cls K a.zaZ
 zm9:Mk K a.zaZ a.zcC
 zaL:dh K a.zaZ "book"
 zaO:dh K a.zaZ "ponds"
 zaV:dh K a.zaZ "last_day"
 zbe:dh K a.zaZ "all_days"
 zbK:dh K a.zaZ "ran_out"
 zqC:mg "Right"=some (.ref a.zgZ)
 zck:Cls K a.zgZ
 zoJ:Mk K a.zgZ a.zc1
 zb0:dh K a.zgZ "point"
 zdK:dh K a.zgZ "amount"
 zco:dh K a.zgZ "date"
 zr3:mg "Book"=some (.ref a.zfd)
 za5:Cls K a.zfd
 zqG:Mk K a.zfd a.zdC
 zcG:dh K a.zfd "stream"
 zbd:dh K a.zfd "held"
 zo5:mg "DueError"=some (.ref a.zis)
 zg9:d9 K a.zis
 zgp:mg "BadRiver"=some (.ref a.zgn)
 zg8:d9 K a.zgn
 zku:mg "BadYear"=some (.ref a.zhT)
 zix:d9 K a.zhT
 zm5:mg "NoPoint"=some (.ref a.zhU)
 ziy:d9 K a.zhU
 znV:mg "Taken"=some (.ref a.zl5)
 zl6:d9 K a.zl5
 zm6:mg "NoRight"=some (.ref a.zhV)
 ziz:d9 K a.zhV
 zkv:mg "TooMuch"=some (.ref a.zhW)
 ziA:d9 K a.zhW
 zoH:mg "NoPond"=some (.ref a.zjz)
 zko:d9 K a.zjz
 zli:mg "NotBelow"=some (.ref a.zgo)
 zha:d9 K a.zgo
 zeS:PySem.W.excIn K a.zgn j4 jy=true
 ziB:PySem.W.excIn K a.zhT j4 jy=true
 zlg:PySem.W.excIn K a.zhU j4 jy=true
 zm4:PySem.W.excIn K a.zjz j4 jy=true
 zlh:PySem.W.excIn K a.zhV j4 jy=true
 zkp:PySem.W.excIn K a.zgo j4 jy=true
 zl7:PySem.W.excIn K a.zl5 j4 jy=true
 ziC:PySem.W.excIn K a.zhW j4 jy=true
 zi4:Fun K "names" "Book.names" tK a.zfY a.zd1
 ziX:Binds K a.zd1 ["self"] []
 zh2:Meth K a.zfd "names" a.zfY
 zem:Fun K "__init__" "Office.__init__" tV a.zcC a.zcz
 zej:Binds K a.zcz ["self","book"] []
 zi6:Fun K "river" "Book.river" tP a.zf0 a.zfP
 zd0:Binds K a.zfP ["self"] []
 zdf:Meth K a.zfd "river" a.zf0
 zhP:Fun K "give" "Office.give" sx a.zeT a.zeN
 zeH:Binds K a.zeN ["self","name","amount"] []
 zed:Meth K a.zaZ "give" a.zeT
 zel:Fun K "held_right" "Book.held_right" sP a.zcB a.zcy
 zei:Binds K a.zcy ["self","name"] []
 zd3:Meth K a.zfd "held_right" a.zcB
 zi5:Fun K "right" "Book.right" rT a.zfZ a.zfO
 zcM:Binds K a.zfO ["self","name"] []
 zcl:Meth K a.zfd "right" a.zfZ
 zcO:Fun K "wants_by_age" "Office.wants_by_age" oZ a.zbE a.zbD
 zcN:Binds K a.zbD ["self"] []
 zcq:Meth K a.zaZ "wants_by_age" a.zbE
 zgF:Fun K "points" "River.points" o6 a.zeb a.zea
 zcF:Binds K a.zea ["self"] []
 zcm:Meth K a.zeM "points" a.zeb
 zdu:Fun K "check_point" "River.check_point" pT a.zb7 a.zb6
 za4:Binds K a.zb6 ["self","point"] []
 zaY:Meth K a.zeM "check_point" a.zb7
 zkh:Fun K "way" "River.way" rF a.zhb a.zg0
 zgS:Binds K a.zg0 ["self","point"] []
 zf9:Meth K a.zeM "way" a.zhb
 zhR:Fun K "below" "River.below" rN a.zeV a.zeP
 zhM:Binds K a.zeP ["self","point"] []
 zgH:Meth K a.zeM "below" a.zeV
 zfJ:Fun K "check_year" "check_year" qR a.zf5 a.zfU
 zi0:Binds K a.zfU ["river","year"] []
 zjc:mg "check_year"=some (.ref a.zf5)
 znP:Fun K "flows" "flows" sZ a.znT a.znR
 zqy:Binds K a.znR ["river","year","taken"] []
 zqE:mg "flows"=some (.ref a.znT)
 znQ:Fun K "serve" "serve" q9 a.znU a.znS
 zqz:Binds K a.znS ["river","year","wants"] []
 zqF:mg "serve"=some (.ref a.znU)
 zcj:Fun K "takes_of_rank" "takes_of_rank" tU a.zdG a.zdB
 zdt:Binds K a.zdB ["wants","takes","rank"] []
 zdI:mg "takes_of_rank"=some (.ref a.zdG)
 zi7:Fun K "day" "Office.day" qE a.zf1 a.zfQ
 ziY:Binds K a.zfQ ["self","year"] []
 zh3:Meth K a.zaZ "day" a.zf1
 zja:Fun K "out" "Office.out" qD a.zf4 a.zfT
 zfD:Binds K a.zfT ["self"] []
 ze0:Meth K a.zaZ "out" a.zf4
 zau:Fun K "_law_cell_at" "_law_cell_at" qq a.zeX a.zeR
 zax:Binds K a.zeR ["script","k"] []
 zay:mg "_law_cell_at"=some (.ref a.zeX)
 zgV:Fun K "_law_below" "_law_below" rB a.zhc a.zg1
 zkc:Binds K a.zg1 ["script","start","size"] []
 zkw:mg "_law_below"=some (.ref a.zhc)
 zfG:Fun K "__init__" "Book.__init__" rA a.zdC a.zdx
 zfB:Binds K a.zdx ["self","river"] []
 zek:Fun K "check_free" "Book.check_free" sX a.zcA a.zcx
 zeh:Binds K a.zcx ["self","name"] []
 zd2:Meth K a.zfd "check_free" a.zcA
 zfb:Fun K "__init__" "Right.__init__" pW a.zc1 a.zcY
 ze8:Binds K a.zcY ["self","point","amount","date"] []
 zi3:Fun K "grant" "Book.grant" rJ a.zfX a.zfN
 ziW:Binds K a.zfN ["self","name","point","amount","date"] []
 zh1:Meth K a.zfd "grant" a.zfX
 zeJ:Fun K "check_below" "check_below" rE a.zeW a.zeQ
 zhN:Binds K a.zeQ ["below"] []
 zhZ:mg "check_below"=some (.ref a.zeW)
 zfc:Fun K "__init__" "River.__init__" pV a.zc2 a.zcZ
 ze9:Binds K a.zcZ ["self","below"] []
 zin:Fun K "_law_book" "_law_book" qz a.ziD a.zit
 zlc:Binds K a.zit ["below","rights"] []
 zlj:mg "_law_book"=some (.ref a.ziD)
 zfM:Fun K "_law_way" "_law_way" sV a.zkt a.zkn
 zhO:Binds K a.zkn ["below","point"] []
 zh0:mg "_law_way"=some (.ref a.zkt)
 zeK:Fun K "_law_flows" "_law_flows" sS a.zhd a.zg2
 zgT:Binds K a.zg2 ["below","year","taken"] []
 zhj:mg "_law_flows"=some (.ref a.zhd)
 zki:Fun K "_law_day" "_law_day" qw a.zkq a.zkk
 zm2:Binds K a.zkk ["below","year","rows"] []
 zm7:mg "_law_day"=some (.ref a.zkq)
 zdw:Fun K "_law_whole" "_law_whole" qa a.zhi a.zg7
 zeI:Binds K a.zg7 ["found"] []
 zeY:mg "_law_whole"=some (.ref a.zhi)
 zeL:Fun K "_law_pairs" "_law_pairs" tw a.zhf a.zg4
 zgU:Binds K a.zg4 ["found","due"] []
 zhk:mg "_law_pairs"=some (.ref a.zhf)
 zdv:Fun K "_law_day_right" "_law_day_right" rg a.zdF a.zdA
 zfF:Binds K a.zdA ["found","due"] []
 zf8:mg "_law_day_right"=some (.ref a.zdF)
 zfI:Fun K "__init__" "Pond.__init__" qL a.zdE a.zdz
 zfE:Binds K a.zdz ["self","point","size","date"] []
 zi8:Fun K "dig" "Office.dig" rM a.zf2 a.zfR
 ziZ:Binds K a.zfR ["self","name","point","size","date"] []
 zh4:Meth K a.zaZ "dig" a.zf2
 zhS:Fun K "_law_dug" "_law_dug" rj a.zkr a.zkl
 zkd:Binds K a.zkl ["office","ponds"] []
 zkx:mg "_law_dug"=some (.ref a.zkr)
 zfa:Fun K "account" "Office.account" sB a.zc0 a.zcX
 ze7:Binds K a.zcX ["self","name"] []
 zen:Meth K a.zaZ "account" a.zc0
 zi9:Fun K "got" "Office.got" sW a.zf3 a.zfS
 zfC:Binds K a.zfS ["self","name"] []
 zeZ:Meth K a.zaZ "got" a.zf3
 zkj:Fun K "_law_got" "_law_got" qP a.zks a.zkm
 zm3:Binds K a.zkm ["office","pairs","sums"] []
 zm8:mg "_law_got"=some (.ref a.zks)
 zgX:Fun K "_law_ponds" "_law_ponds" qZ a.zhg a.zg5
 zkf:Binds K a.zg5 ["script","start","count","size"] []
 zkz:mg "_law_ponds"=some (.ref a.zhg)
 zgY:Fun K "_law_queue" "_law_queue" pc a.zhh a.zg6
 zkg:Binds K a.zg6 ["rights","ponds","stored"] []
 zkA:mg "_law_queue"=some (.ref a.zhh)
 zgW:Fun K "_law_names" "_law_names" qc a.zhe a.zg3
 zke:Binds K a.zg3 ["cell","count"] []
 zky:mg "_law_names"=some (.ref a.zhe)
 zfK:Fun K "_law_rights" "_law_rights" qN a.zf6 a.zfV
 zi1:Binds K a.zfV ["script","start","count","size"] []
 zjd:mg "_law_rights"=some (.ref a.zf6)
 zc8:Fun K "pond_called" "Office.pond_called" tN a.zbS a.zbR
 zbQ:Binds K a.zbR ["self","name"] []
 zbF:Meth K a.zaZ "pond_called" a.zbS
 zhQ:Fun K "send" "Office.send" qf a.zeU a.zeO
 zhL:Binds K a.zeO ["self","pond","name","amount"] []
 zgG:Meth K a.zaZ "send" a.zeU
 zio:Fun K "_law_sent" "_law_sent" sH a.ziE a.ziu
 zld:Binds K a.ziu ["office","below","ponds","rights","told","cell"] []
 zlk:mg "_law_sent"=some (.ref a.ziE)
 zfH:Fun K "stored" "Office.stored" p9 a.zdD a.zdy
 zds:Binds K a.zdy ["self","pond"] []
 zc3:Meth K a.zaZ "stored" a.zdD
 zfL:Fun K "_law_stores" "_law_stores" tO a.zf7 a.zfW
 zi2:Binds K a.zfW ["office","pairs","stored"] []
 zje:mg "_law_stores"=some (.ref a.zf7)
 ziq:Fun K "_law_twin" "_law_twin" rL a.ziF a.ziv
 zle:Binds K a.ziv ["ponds","rights"] []
 zll:mg "_law_twin"=some (.ref a.ziF)
 zir:Fun K "_law_year" "_law_year" qA a.ziG a.ziw
 zlf:Binds K a.ziw ["script","start","size"] []
 zlm:mg "_law_year"=some (.ref a.ziG)
 zus:Fun K "law" "law" qr a.zs4 a.zs3
 zuV:Binds K a.zs3 ["script"] []
 zuW:mg "law"=some (.ref a.zs4)
 lam:vL K mg a.cl a.zd1.code
end L2.Rv
namespace L2.Rv
noncomputable section
open PySem PySem.Spec PyProof.Rows
noncomputable abbrev kS(x:String)(t:Nat):ai:=.str (aQ x) t
noncomputable abbrev kE(P:Params)(x:String)(t:Nat)(v:ai):DictEntry:=⟨PyData.keyHash P (aQ x),kS x t,v⟩
noncomputable abbrev KQc:Array ai:=#[(kS "names" 679),(kS "Book.names" 680),(kS "/claim/cut.py" 681),(.int 188 0),(.int 1 0),(.int 0 0),(.int 0 0),(.int 3 0),(.ref 368),(.bool true),(.int 181 0),(.ref 369),.none,(.ref 370),(.ref 371),(.ref 372),(.int 684 0),(.int 188 0),(kS "/claim/cut.py" 685)]
noncomputable abbrev fO(n q:Str)(s:aT)(m:String)(k:Nat)(c:af):bf:=PySem.W.fnOf n q (nU s) (k9 s) (bu s) .none .none .none (kS m k) none (.ref c) .none
noncomputable abbrev kF(n q:Str)(s:aT)(m:String)(k:Nat)(c:af):aE:=⟨.type "function",none,.func ⟨n,q,nU s,.stmts (k9 s),bu s,3,[],.none,.none,.none,kS m k,none,.ref c,.none,0⟩,#[]⟩
noncomputable abbrev kC(n q f:String)(t l g v a x b c d e i:Nat):aE:=⟨.type "code",none,.fields #[kS n t,kS q (t+1),kS f (t+2),.int l 0,.int g 0,.int 0 0,.int 0 0,.int v 0,.ref a,.bool true,.int x 0,.ref b,.none,.ref c,.ref d,.ref e,.int i 0,.int l 0,kS f (i+1)],#[]⟩
theorem fm{K:PySem.W.Frag}{n q:Str}{m:String}{s:aT}{k:Nat}{f c:af}(l:K.lookup f=some ⟨.type "function",none,.func (fO n q s m k c),#[]⟩:=by kernel_rfl)(x:PySem.W.codeIn K (.ref c) q=true:=by kernel_rfl)(y:PySem.W.keepIn K (.ref f)=true:=by kernel_rfl):Fun K n q s f (fO n q s m k c):=Ep l x y
theorem nA{K:PySem.W.Frag}{C:af}{f:Str}(h:PySem.W.findIn K (.ref C) f=some none:=by kernel_rfl):dh K C f:=h
theorem nN{K:PySem.W.Frag}{h:aP}{mg:Str->Option ai}{x:Str}(X:K.In h)(G:h.Ns dP mg)(e:PySem.W.nsIn K dP x=some none:=by kernel_rfl):mg x=none:=PySem.W.mg_none_of X G e
theorem nR{K:PySem.W.Frag}{h:aP}{mg:Str->Option ai}{x:Str}{v:ai}(X:K.In h)(G:h.Ns dP mg)(e:PySem.W.nsIn K dP x=some (some v):=by kernel_rfl):mg x=some v:=PySem.W.mg_of X G e
theorem nC{K:PySem.W.Frag}{C:af}(a:PySem.W.plainGet K C Str.empty=true:=by kernel_rfl)(b:PySem.W.hasDictIn K C=true:=by kernel_rfl)(c:PySem.W.plainOver K C=true:=by kernel_rfl)(d:PySem.W.findIn K (.ref C) "__setattr__"=some (some (.builtin "object.__setattr__")):=by kernel_rfl):Cls K C:=⟨a,b,c,d⟩
theorem nK{K:PySem.W.Frag}{C f:af}(a:PySem.W.makesIn K C=true:=by kernel_rfl)(b:PySem.W.findIn K (.ref C) "__init__"=some (some (.ref f)):=by kernel_rfl)(c:PySem.W.isFn K (.ref f)=true:=by kernel_rfl)(d:PySem.W.keepIn K (.ref C)=true:=by kernel_rfl):Mk K C f:=⟨a,b,c,d⟩
theorem nM{K:PySem.W.Frag}{C f:af}{m:Str}(a:PySem.W.findIn K (.ref C) m=some (some (.ref f)):=by kernel_rfl)(b:PySem.W.isFn K (.ref f)=true:=by kernel_rfl)(c:PySem.W.keepIn K (.ref f)=true:=by kernel_rfl):Meth K C m f:=⟨a,b,c⟩
theorem nX{K:PySem.W.Frag}{C:af}(s:PySem.W.specialIn K (.builtin "object.__class__") "__get__"=some (some (.builtin "getset_descriptor.__get__")))(t:PySem.W.takesIn K (.builtin "object.__class__")=some true)(a:PySem.W.findIn K (.ref C) "__getattribute__"=some (some (.builtin "BaseException.__getattribute__")):=by kernel_rfl)(b:PySem.W.findIn K (.ref C) "__getattr__"=some none:=by kernel_rfl)(c:PySem.W.subIn K (.ref C) (.type "BaseException")=some true:=by kernel_rfl)(d:PySem.W.findIn K (.ref C) "__class__"=some (some (.builtin "object.__class__")):=by kernel_rfl)(e:PySem.W.mroIn K C (.type "object")=some true:=by kernel_rfl)(f:PySem.W.isClsIn K C=true:=by kernel_rfl)(g:PySem.W.typeIn K (.ref C)=some (.type "type"):=by kernel_rfl):d9 K C:=⟨a,b,c,Ed f d s t,e,f,g⟩
noncomputable def KQ0(P:Params):PySem.W.Frag:=[(2,⟨.none,none,(.dict #[] 0),#[]⟩),
 (3,⟨(.type "dict"),none,(.dict #[kE P "__name__" 165 (kS "law_riverdue_k20_a_day" 760),kE P "__doc__" 166 .none,kE P "__package__" 167 .none,kE P "__loader__" 168 (.builtin "__main__.__loader__#opaque"),kE P "__spec__" 169 .none,kE P "__annotations__" 170 (.ref 6),kE P "__builtins__" 171 (.ref 4),kE P "__file__" 173 (kS "/claim/cut.py" 172),kE P "__cached__" 174 .none,kE P "_wall" 193 (.ref 21),kE P "DueError" 213 (.ref 31),kE P "BadRiver" 229 (.ref 44),kE P "BadYear" 245 (.ref 56),kE P "NoPoint" 261 (.ref 68),kE P "Taken" 277 (.ref 80),kE P "NoRight" 293 (.ref 92),kE P "TooMuch" 309 (.ref 104),kE P "NoPond" 325 (.ref 116),kE P "NotBelow" 341 (.ref 128),kE P "MOST_POINTS" 345 (.int 40 344),kE P "MOST_INFLOW" 347 (.int 1000000 346),kE P "River" 416 (.ref 182),kE P "check_below" 425 (.ref 193),kE P "check_year" 434 (.ref 200),kE P "flows" 440 (.ref 205),kE P "serve" 448 (.ref 210),kE P "RANK_OF_RIGHT" 452 (.int 0 451),kE P "RANK_OF_POND" 454 (.int 1 453),kE P "Pond" 488 (.ref 227),kE P "Office" 610 (.ref 316),kE P "takes_of_rank" 616 (.ref 325),kE P "Right" 651 (.ref 342),kE P "Book" 759 (.ref 426),kE P "_law_cell_at" 769 (.ref 437),kE P "_law_whole" 776 (.ref 444),kE P "_law_below" 782 (.ref 449),kE P "_law_way" 791 (.ref 456),kE P "_law_year" 804 (.ref 463),kE P "_law_names" 810 (.ref 468),kE P "_law_rights" 825 (.ref 475),kE P "_law_book" 835 (.ref 482),kE P "_law_flows" 841 (.ref 487),kE P "_law_pairs" 851 (.ref 494),kE P "_law_ponds" 866 (.ref 501),kE P "_law_dug" 875 (.ref 508),kE P "_law_queue" 881 (.ref 513),kE P "_law_day" 887 (.ref 518),kE P "_law_twin" 893 (.ref 523),kE P "_law_got" 903 (.ref 530),kE P "_law_day_right" 911 (.ref 537),kE P "_law_stores" 921 (.ref 544),kE P "_law_sent" 939 (.ref 551),kE P "law" 962 (.ref 558)] 53),#[]⟩),
 (20,kC "_wall" "_wall" "/claim/cut.py" 187 1 1 3 15 181 16 17 18 19 191),
 (21,kF "_wall" "_wall" (top 0) "__main__" 164 20),
 (30,⟨(.type "dict"),none,(.dict #[kE P "__module__" 203 (kS "riverdue.errors" 194),kE P "__firstlineno__" 207 (.int 5 206),kE P "__static_attributes__" 208 (.ref 29),kE P "__weakref__" 210 (.ref 32),kE P "__doc__" 211 .none] 3),#[]⟩),
 (31,⟨(.type "type"),none,(.cls ⟨"DueError",[(.type "ValueError")],[(.ref 31),(.type "ValueError"),(.type "Exception"),(.type "BaseException"),(.type "object")],30,"DueError",true,[],[(.ref 44),(.ref 56),(.ref 68),(.ref 80),(.ref 92),(.ref 104),(.ref 116),(.ref 128)],false,none,false⟩),#[(some (.ref 22)),none,(some (kS "DueError" 196)),(some (kS "DueError" 204)),(some (.builtin "ValueError.__new__")),(some (.bool true))]⟩),
 (32,⟨(.type "getset_descriptor"),none,(.fields #[(kS "__weakref__" 209),(.ref 31),(.builtin "ExceptionGroup.__weakref__"),.none]),#[]⟩),
 (43,⟨(.type "dict"),none,(.dict #[kE P "__module__" 221 (kS "riverdue.errors" 194),kE P "__firstlineno__" 225 (.int 7 224),kE P "__static_attributes__" 226 (.ref 42),kE P "__doc__" 227 .none] 2),#[]⟩),
 (44,⟨(.type "type"),none,(.cls ⟨"BadRiver",[(.ref 31)],[(.ref 44),(.ref 31),(.type "ValueError"),(.type "Exception"),(.type "BaseException"),(.type "object")],43,"BadRiver",true,[],[],false,none,false⟩),#[(some (.ref 35)),none,(some (kS "BadRiver" 214)),(some (kS "BadRiver" 222)),(some (.builtin "ValueError.__new__")),(some (.bool true))]⟩),
 (55,⟨(.type "dict"),none,(.dict #[kE P "__module__" 237 (kS "riverdue.errors" 194),kE P "__firstlineno__" 241 (.int 9 240),kE P "__static_attributes__" 242 (.ref 54),kE P "__doc__" 243 .none] 2),#[]⟩),
 (56,⟨(.type "type"),none,(.cls ⟨"BadYear",[(.ref 31)],[(.ref 56),(.ref 31),(.type "ValueError"),(.type "Exception"),(.type "BaseException"),(.type "object")],55,"BadYear",true,[],[],false,none,false⟩),#[(some (.ref 47)),none,(some (kS "BadYear" 230)),(some (kS "BadYear" 238)),(some (.builtin "ValueError.__new__")),(some (.bool true))]⟩),
 (67,⟨(.type "dict"),none,(.dict #[kE P "__module__" 253 (kS "riverdue.errors" 194),kE P "__firstlineno__" 257 (.int 11 256),kE P "__static_attributes__" 258 (.ref 66),kE P "__doc__" 259 .none] 2),#[]⟩)]
noncomputable def KQ1(P:Params):PySem.W.Frag:=[(68,⟨(.type "type"),none,(.cls ⟨"NoPoint",[(.ref 31)],[(.ref 68),(.ref 31),(.type "ValueError"),(.type "Exception"),(.type "BaseException"),(.type "object")],67,"NoPoint",true,[],[],false,none,false⟩),#[(some (.ref 59)),none,(some (kS "NoPoint" 246)),(some (kS "NoPoint" 254)),(some (.builtin "ValueError.__new__")),(some (.bool true))]⟩),
 (79,⟨(.type "dict"),none,(.dict #[kE P "__module__" 269 (kS "riverdue.errors" 194),kE P "__firstlineno__" 273 (.int 13 272),kE P "__static_attributes__" 274 (.ref 78),kE P "__doc__" 275 .none] 2),#[]⟩),
 (80,⟨(.type "type"),none,(.cls ⟨"Taken",[(.ref 31)],[(.ref 80),(.ref 31),(.type "ValueError"),(.type "Exception"),(.type "BaseException"),(.type "object")],79,"Taken",true,[],[],false,none,false⟩),#[(some (.ref 71)),none,(some (kS "Taken" 262)),(some (kS "Taken" 270)),(some (.builtin "ValueError.__new__")),(some (.bool true))]⟩),
 (91,⟨(.type "dict"),none,(.dict #[kE P "__module__" 285 (kS "riverdue.errors" 194),kE P "__firstlineno__" 289 (.int 15 288),kE P "__static_attributes__" 290 (.ref 90),kE P "__doc__" 291 .none] 2),#[]⟩),
 (92,⟨(.type "type"),none,(.cls ⟨"NoRight",[(.ref 31)],[(.ref 92),(.ref 31),(.type "ValueError"),(.type "Exception"),(.type "BaseException"),(.type "object")],91,"NoRight",true,[],[],false,none,false⟩),#[(some (.ref 83)),none,(some (kS "NoRight" 278)),(some (kS "NoRight" 286)),(some (.builtin "ValueError.__new__")),(some (.bool true))]⟩),
 (103,⟨(.type "dict"),none,(.dict #[kE P "__module__" 301 (kS "riverdue.errors" 194),kE P "__firstlineno__" 305 (.int 17 304),kE P "__static_attributes__" 306 (.ref 102),kE P "__doc__" 307 .none] 2),#[]⟩),
 (104,⟨(.type "type"),none,(.cls ⟨"TooMuch",[(.ref 31)],[(.ref 104),(.ref 31),(.type "ValueError"),(.type "Exception"),(.type "BaseException"),(.type "object")],103,"TooMuch",true,[],[],false,none,false⟩),#[(some (.ref 95)),none,(some (kS "TooMuch" 294)),(some (kS "TooMuch" 302)),(some (.builtin "ValueError.__new__")),(some (.bool true))]⟩),
 (115,⟨(.type "dict"),none,(.dict #[kE P "__module__" 317 (kS "riverdue.errors" 194),kE P "__firstlineno__" 321 (.int 19 320),kE P "__static_attributes__" 322 (.ref 114),kE P "__doc__" 323 .none] 2),#[]⟩),
 (116,⟨(.type "type"),none,(.cls ⟨"NoPond",[(.ref 31)],[(.ref 116),(.ref 31),(.type "ValueError"),(.type "Exception"),(.type "BaseException"),(.type "object")],115,"NoPond",true,[],[],false,none,false⟩),#[(some (.ref 107)),none,(some (kS "NoPond" 310)),(some (kS "NoPond" 318)),(some (.builtin "ValueError.__new__")),(some (.bool true))]⟩),
 (127,⟨(.type "dict"),none,(.dict #[kE P "__module__" 333 (kS "riverdue.errors" 194),kE P "__firstlineno__" 337 (.int 21 336),kE P "__static_attributes__" 338 (.ref 126),kE P "__doc__" 339 .none] 2),#[]⟩),
 (128,⟨(.type "type"),none,(.cls ⟨"NotBelow",[(.ref 31)],[(.ref 128),(.ref 31),(.type "ValueError"),(.type "Exception"),(.type "BaseException"),(.type "object")],127,"NotBelow",true,[],[],false,none,false⟩),#[(some (.ref 119)),none,(some (kS "NotBelow" 326)),(some (kS "NotBelow" 334)),(some (.builtin "ValueError.__new__")),(some (.bool true))]⟩),
 (143,kC "__init__" "River.__init__" "/claim/cut.py" 360 28 2 3 138 181 139 140 141 142 365)]
noncomputable def KQ2(P:Params):PySem.W.Frag:=[(144,kF "__init__" "River.__init__" pV "riverdue.river" 342 143),
 (150,kC "points" "River.points" "/claim/cut.py" 368 32 1 3 145 181 146 147 148 149 372),
 (151,kF "points" "River.points" o6 "riverdue.river" 342 150),
 (157,kC "check_point" "River.check_point" "/claim/cut.py" 375 35 2 3 152 181 153 154 155 156 380),
 (158,kF "check_point" "River.check_point" pT "riverdue.river" 342 157),
 (164,kC "below" "River.below" "/claim/cut.py" 383 39 2 3 159 181 160 161 162 163 388),
 (165,kF "below" "River.below" rN "riverdue.river" 342 164),
 (171,kC "way" "River.way" "/claim/cut.py" 391 43 2 3 166 181 167 168 169 170 397),
 (172,kF "way" "River.way" rF "riverdue.river" 342 171),
 (178,kC "above" "River.above" "/claim/cut.py" 400 51 2 3 173 181 174 175 176 177 405),
 (179,kF "above" "River.above" (cU (top 14) 5) "riverdue.river" 342 178),
 (181,⟨(.type "dict"),none,(.dict #[kE P "__module__" 355 (kS "riverdue.river" 342),kE P "__firstlineno__" 359 (.int 26 358),kE P "__init__" 367 (.ref 144),kE P "points" 374 (.ref 151),kE P "check_point" 382 (.ref 158),kE P "below" 390 (.ref 165),kE P "way" 399 (.ref 172),kE P "above" 407 (.ref 179),kE P "__static_attributes__" 409 (.ref 180),kE P "__dict__" 411 (.ref 183),kE P "__weakref__" 413 (.ref 184),kE P "__doc__" 414 .none] 4),#[]⟩)]
noncomputable def KQ3(P:Params):PySem.W.Frag:=[(182,⟨(.type "type"),none,(.cls ⟨"River",[(.type "object")],[(.ref 182),(.type "object")],181,"River",true,[],[],false,none,false⟩),#[none,none,(some (kS "River" 348)),(some (kS "River" 356)),(some (.builtin "object.__new__")),(some (.bool true))]⟩),
 (183,⟨(.type "getset_descriptor"),none,(.fields #[(kS "__dict__" 410),(.ref 182),(.builtin "function.__dict__"),(.builtin "function.__dict__#set")]),#[]⟩),
 (184,⟨(.type "getset_descriptor"),none,(.fields #[(kS "__weakref__" 412),(.ref 182),(.builtin "ExceptionGroup.__weakref__"),.none]),#[]⟩),
 (192,kC "check_below" "check_below" "/claim/cut.py" 417 53 1 3 187 181 188 189 190 191 423),
 (193,kF "check_below" "check_below" rE "riverdue.river" 342 192),
 (199,kC "check_year" "check_year" "/claim/cut.py" 426 62 2 3 194 181 195 196 197 198 432),
 (200,kF "check_year" "check_year" qR "riverdue.river" 342 199),
 (204,⟨(.type "code"),none,(.fields #[(kS "flows" 435),(kS "flows" 436),(kS "/claim/cut.py" 437),(.int 68 0),(.int 3 0),(.int 0 0),(.int 0 0),(.int 3 0),(.ref 201),(.bool true),(.int 181 0),(.ref 202),.none,.none,.none,(.ref 203),(.int 438 0),(.int 68 0),(kS "/claim/cut.py" 439)]),#[]⟩),
 (205,kF "flows" "flows" sZ "riverdue.river" 342 204),
 (209,⟨(.type "code"),none,(.fields #[(kS "serve" 443),(kS "serve" 444),(kS "/claim/cut.py" 445),(.int 75 0),(.int 3 0),(.int 0 0),(.int 0 0),(.int 3 0),(.ref 206),(.bool true),(.int 181 0),(.ref 207),.none,.none,.none,(.ref 208),(.int 446 0),(.int 75 0),(kS "/claim/cut.py" 447)]),#[]⟩),
 (210,kF "serve" "serve" q9 "riverdue.dealing" 441 209),
 (223,kC "__init__" "Pond.__init__" "/claim/cut.py" 467 90 4 3 218 181 219 220 221 222 474)]
noncomputable def KQ4(P:Params):PySem.W.Frag:=[(224,kF "__init__" "Pond.__init__" qL "riverdue.office" 449 223),
 (226,⟨(.type "dict"),none,(.dict #[kE P "__module__" 462 (kS "riverdue.office" 449),kE P "__firstlineno__" 466 (.int 88 465),kE P "__init__" 476 (.ref 224),kE P "__static_attributes__" 481 (.ref 225),kE P "__dict__" 483 (.ref 228),kE P "__weakref__" 485 (.ref 229),kE P "__doc__" 486 .none] 4),#[]⟩),
 (227,⟨(.type "type"),none,(.cls ⟨"Pond",[(.type "object")],[(.ref 227),(.type "object")],226,"Pond",true,[],[],false,none,false⟩),#[none,none,(some (kS "Pond" 455)),(some (kS "Pond" 463)),(some (.builtin "object.__new__")),(some (.bool true))]⟩),
 (228,⟨(.type "getset_descriptor"),none,(.fields #[(kS "__dict__" 482),(.ref 227),(.builtin "function.__dict__"),(.builtin "function.__dict__#set")]),#[]⟩),
 (229,⟨(.type "getset_descriptor"),none,(.fields #[(kS "__weakref__" 484),(.ref 227),(.builtin "ExceptionGroup.__weakref__"),.none]),#[]⟩),
 (244,kC "__init__" "Office.__init__" "/claim/cut.py" 501 97 2 3 239 181 240 241 242 243 506),
 (245,kF "__init__" "Office.__init__" tV "riverdue.office" 449 244),
 (251,kC "dig" "Office.dig" "/claim/cut.py" 509 104 5 3 246 181 247 248 249 250 517),
 (252,kF "dig" "Office.dig" rM "riverdue.office" 449 251),
 (256,⟨(.type "code"),none,(.fields #[(kS "day" 520),(kS "Office.day" 521),(kS "/claim/cut.py" 522),(.int 111 0),(.int 2 0),(.int 0 0),(.int 0 0),(.int 3 0),(.ref 253),(.bool true),(.int 181 0),(.ref 254),.none,.none,.none,(.ref 255),(.int 523 0),(.int 111 0),(kS "/claim/cut.py" 524)]),#[]⟩),
 (257,kF "day" "Office.day" qE "riverdue.office" 449 256),
 (263,kC "send" "Office.send" "/claim/cut.py" 526 125 4 3 258 181 259 260 261 262 536)]
noncomputable def KQ5(P:Params):PySem.W.Frag:=[(264,kF "send" "Office.send" qf "riverdue.office" 449 263),
 (270,kC "stored" "Office.stored" "/claim/cut.py" 539 139 2 3 265 181 266 267 268 269 544),
 (271,kF "stored" "Office.stored" p9 "riverdue.office" 449 270),
 (277,kC "got" "Office.got" "/claim/cut.py" 547 142 2 3 272 181 273 274 275 276 552),
 (278,kF "got" "Office.got" sW "riverdue.office" 449 277),
 (284,kC "account" "Office.account" "/claim/cut.py" 555 146 2 3 279 181 280 281 282 283 560),
 (285,kF "account" "Office.account" sB "riverdue.office" 449 284),
 (291,kC "out" "Office.out" "/claim/cut.py" 563 150 1 3 286 181 287 288 289 290 567),
 (292,kF "out" "Office.out" qD "riverdue.office" 449 291),
 (298,kC "pond_called" "Office.pond_called" "/claim/cut.py" 570 153 2 3 293 181 294 295 296 297 575),
 (299,kF "pond_called" "Office.pond_called" tN "riverdue.office" 449 298),
 (305,kC "give" "Office.give" "/claim/cut.py" 578 158 3 3 300 181 301 302 303 304 584)]
noncomputable def KQ6(P:Params):PySem.W.Frag:=[(306,kF "give" "Office.give" sx "riverdue.office" 449 305),
 (312,kC "wants_by_age" "Office.wants_by_age" "/claim/cut.py" 587 162 1 3 307 181 308 309 310 311 595),
 (313,kF "wants_by_age" "Office.wants_by_age" oZ "riverdue.office" 449 312),
 (315,⟨(.type "dict"),none,(.dict #[kE P "__module__" 496 (kS "riverdue.office" 449),kE P "__firstlineno__" 500 (.int 95 499),kE P "__init__" 508 (.ref 245),kE P "dig" 519 (.ref 252),kE P "day" 525 (.ref 257),kE P "send" 538 (.ref 264),kE P "stored" 546 (.ref 271),kE P "got" 554 (.ref 278),kE P "account" 562 (.ref 285),kE P "out" 569 (.ref 292),kE P "pond_called" 577 (.ref 299),kE P "give" 586 (.ref 306),kE P "wants_by_age" 597 (.ref 313),kE P "__static_attributes__" 603 (.ref 314),kE P "__dict__" 605 (.ref 317),kE P "__weakref__" 607 (.ref 318),kE P "__doc__" 608 .none] 4),#[]⟩),
 (316,⟨(.type "type"),none,(.cls ⟨"Office",[(.type "object")],[(.ref 316),(.type "object")],315,"Office",true,[],[],false,none,false⟩),#[none,none,(some (kS "Office" 489)),(some (kS "Office" 497)),(some (.builtin "object.__new__")),(some (.bool true))]⟩),
 (317,⟨(.type "getset_descriptor"),none,(.fields #[(kS "__dict__" 604),(.ref 316),(.builtin "function.__dict__"),(.builtin "function.__dict__#set")]),#[]⟩),
 (318,⟨(.type "getset_descriptor"),none,(.fields #[(kS "__weakref__" 606),(.ref 316),(.builtin "ExceptionGroup.__weakref__"),.none]),#[]⟩),
 (324,⟨(.type "code"),none,(.fields #[(kS "takes_of_rank" 611),(kS "takes_of_rank" 612),(kS "/claim/cut.py" 613),(.int 170 0),(.int 3 0),(.int 0 0),(.int 0 0),(.int 3 0),(.ref 321),(.bool true),(.int 181 0),(.ref 322),.none,.none,.none,(.ref 323),(.int 614 0),(.int 170 0),(kS "/claim/cut.py" 615)]),#[]⟩),
 (325,kF "takes_of_rank" "takes_of_rank" tU "riverdue.office" 449 324),
 (338,kC "__init__" "Right.__init__" "/claim/cut.py" 631 175 4 3 333 181 334 335 336 337 638),
 (339,kF "__init__" "Right.__init__" pW "riverdue.rights" 617 338),
 (341,⟨(.type "dict"),none,(.dict #[kE P "__module__" 626 (kS "riverdue.rights" 617),kE P "__firstlineno__" 630 (.int 173 629),kE P "__init__" 640 (.ref 339),kE P "__static_attributes__" 644 (.ref 340),kE P "__dict__" 646 (.ref 343),kE P "__weakref__" 648 (.ref 344),kE P "__doc__" 649 .none] 4),#[]⟩)]
noncomputable def KQ7(P:Params):PySem.W.Frag:=[(342,⟨(.type "type"),none,(.cls ⟨"Right",[(.type "object")],[(.ref 342),(.type "object")],341,"Right",true,[],[],false,none,false⟩),#[none,none,(some (kS "Right" 619)),(some (kS "Right" 627)),(some (.builtin "object.__new__")),(some (.bool true))]⟩),
 (343,⟨(.type "getset_descriptor"),none,(.fields #[(kS "__dict__" 645),(.ref 342),(.builtin "function.__dict__"),(.builtin "function.__dict__#set")]),#[]⟩),
 (344,⟨(.type "getset_descriptor"),none,(.fields #[(kS "__weakref__" 647),(.ref 342),(.builtin "ExceptionGroup.__weakref__"),.none]),#[]⟩),
 (359,kC "__init__" "Book.__init__" "/claim/cut.py" 664 181 2 3 354 181 355 356 357 358 669),
 (360,kF "__init__" "Book.__init__" rA "riverdue.rights" 617 359),
 (366,kC "river" "Book.river" "/claim/cut.py" 672 185 1 3 361 181 362 363 364 365 676),
 (367,kF "river" "Book.river" tP "riverdue.rights" 617 366),
 (373,kC "names" "Book.names" "/claim/cut.py" 679 188 1 3 368 181 369 370 371 372 684),
 (374,kF "names" "Book.names" tK "riverdue.rights" 617 373),
 (380,kC "right" "Book.right" "/claim/cut.py" 687 191 2 3 375 181 376 377 378 379 693),
 (381,kF "right" "Book.right" rT "riverdue.rights" 617 380),
 (387,kC "grant" "Book.grant" "/claim/cut.py" 696 195 5 3 382 181 383 384 385 386 704)]
noncomputable def KQ8(P:Params):PySem.W.Frag:=[(388,kF "grant" "Book.grant" rJ "riverdue.rights" 617 387),
 (394,kC "drop" "Book.drop" "/claim/cut.py" 707 201 2 3 389 181 390 391 392 393 712),
 (395,kF "drop" "Book.drop" (cU (top 28) 5) "riverdue.rights" 617 394),
 (401,kC "part" "Book.part" "/claim/cut.py" 715 204 4 3 396 181 397 398 399 400 722),
 (402,kF "part" "Book.part" (cU (top 28) 6) "riverdue.rights" 617 401),
 (408,kC "unite" "Book.unite" "/claim/cut.py" 725 207 3 3 403 181 404 405 406 407 731),
 (409,kF "unite" "Book.unite" (cU (top 28) 7) "riverdue.rights" 617 408),
 (415,kC "held_right" "Book.held_right" "/claim/cut.py" 734 210 2 3 410 181 411 412 413 414 739),
 (416,kF "held_right" "Book.held_right" sP "riverdue.rights" 617 415),
 (422,kC "check_free" "Book.check_free" "/claim/cut.py" 742 215 2 3 417 181 418 419 420 421 747),
 (423,kF "check_free" "Book.check_free" sX "riverdue.rights" 617 422),
 (425,⟨(.type "dict"),none,(.dict #[kE P "__module__" 659 (kS "riverdue.rights" 617),kE P "__firstlineno__" 663 (.int 179 662),kE P "__init__" 671 (.ref 360),kE P "river" 678 (.ref 367),kE P "names" 686 (.ref 374),kE P "right" 695 (.ref 381),kE P "grant" 706 (.ref 388),kE P "drop" 714 (.ref 395),kE P "part" 724 (.ref 402),kE P "unite" 733 (.ref 409),kE P "held_right" 741 (.ref 416),kE P "check_free" 749 (.ref 423),kE P "__static_attributes__" 752 (.ref 424),kE P "__dict__" 754 (.ref 427),kE P "__weakref__" 756 (.ref 428),kE P "__doc__" 757 .none] 4),#[]⟩)]
noncomputable def KQ9(P:Params):PySem.W.Frag:=[(426,⟨(.type "type"),none,(.cls ⟨"Book",[(.type "object")],[(.ref 426),(.type "object")],425,"Book",true,[],[],false,none,false⟩),#[none,none,(some (kS "Book" 652)),(some (kS "Book" 660)),(some (.builtin "object.__new__")),(some (.bool true))]⟩),
 (427,⟨(.type "getset_descriptor"),none,(.fields #[(kS "__dict__" 753),(.ref 426),(.builtin "function.__dict__"),(.builtin "function.__dict__#set")]),#[]⟩),
 (428,⟨(.type "getset_descriptor"),none,(.fields #[(kS "__weakref__" 755),(.ref 426),(.builtin "ExceptionGroup.__weakref__"),.none]),#[]⟩),
 (436,kC "_law_cell_at" "_law_cell_at" "/claim/cut.py" 762 219 2 3 431 181 432 433 434 435 767),
 (437,kF "_law_cell_at" "_law_cell_at" qq "law_riverdue_k20_a_day" 760 436),
 (443,kC "_law_whole" "_law_whole" "/claim/cut.py" 770 223 1 3 438 181 439 440 441 442 774),
 (444,kF "_law_whole" "_law_whole" qa "law_riverdue_k20_a_day" 760 443),
 (448,⟨(.type "code"),none,(.fields #[(kS "_law_below" 777),(kS "_law_below" 778),(kS "/claim/cut.py" 779),(.int 225 0),(.int 3 0),(.int 0 0),(.int 0 0),(.int 3 0),(.ref 445),(.bool true),(.int 181 0),(.ref 446),.none,.none,.none,(.ref 447),(.int 780 0),(.int 225 0),(kS "/claim/cut.py" 781)]),#[]⟩),
 (449,kF "_law_below" "_law_below" rB "law_riverdue_k20_a_day" 760 448),
 (455,kC "_law_way" "_law_way" "/claim/cut.py" 783 227 2 3 450 181 451 452 453 454 789),
 (456,kF "_law_way" "_law_way" sV "law_riverdue_k20_a_day" 760 455),
 (462,kC "_law_year" "_law_year" "/claim/cut.py" 792 233 3 3 457 181 458 459 460 461 802)]
noncomputable def KQ10(P:Params):PySem.W.Frag:=[(463,kF "_law_year" "_law_year" qA "law_riverdue_k20_a_day" 760 462),
 (467,⟨(.type "code"),none,(.fields #[(kS "_law_names" 805),(kS "_law_names" 806),(kS "/claim/cut.py" 807),(.int 242 0),(.int 2 0),(.int 0 0),(.int 0 0),(.int 3 0),(.ref 464),(.bool true),(.int 181 0),(.ref 465),.none,.none,.none,(.ref 466),(.int 808 0),(.int 242 0),(kS "/claim/cut.py" 809)]),#[]⟩),
 (468,kF "_law_names" "_law_names" qc "law_riverdue_k20_a_day" 760 467),
 (474,kC "_law_rights" "_law_rights" "/claim/cut.py" 811 247 4 3 469 181 470 471 472 473 823),
 (475,kF "_law_rights" "_law_rights" qN "law_riverdue_k20_a_day" 760 474),
 (481,kC "_law_book" "_law_book" "/claim/cut.py" 826 263 2 3 476 181 477 478 479 480 833),
 (482,kF "_law_book" "_law_book" qz "law_riverdue_k20_a_day" 760 481),
 (486,⟨(.type "code"),none,(.fields #[(kS "_law_flows" 836),(kS "_law_flows" 837),(kS "/claim/cut.py" 838),(.int 268 0),(.int 3 0),(.int 0 0),(.int 0 0),(.int 3 0),(.ref 483),(.bool true),(.int 181 0),(.ref 484),.none,.none,.none,(.ref 485),(.int 839 0),(.int 268 0),(kS "/claim/cut.py" 840)]),#[]⟩),
 (487,kF "_law_flows" "_law_flows" sS "law_riverdue_k20_a_day" 760 486),
 (493,kC "_law_pairs" "_law_pairs" "/claim/cut.py" 842 274 2 3 488 181 489 490 491 492 849),
 (494,kF "_law_pairs" "_law_pairs" tw "law_riverdue_k20_a_day" 760 493),
 (500,kC "_law_ponds" "_law_ponds" "/claim/cut.py" 852 283 4 3 495 181 496 497 498 499 864)]
noncomputable def KQ11(P:Params):PySem.W.Frag:=[(501,kF "_law_ponds" "_law_ponds" qZ "law_riverdue_k20_a_day" 760 500),
 (507,kC "_law_dug" "_law_dug" "/claim/cut.py" 867 291 2 3 502 181 503 504 505 506 873),
 (508,kF "_law_dug" "_law_dug" rj "law_riverdue_k20_a_day" 760 507),
 (512,⟨(.type "code"),none,(.fields #[(kS "_law_queue" 876),(kS "_law_queue" 877),(kS "/claim/cut.py" 878),(.int 294 0),(.int 3 0),(.int 0 0),(.int 0 0),(.int 3 0),(.ref 509),(.bool true),(.int 181 0),(.ref 510),.none,.none,.none,(.ref 511),(.int 879 0),(.int 294 0),(kS "/claim/cut.py" 880)]),#[]⟩),
 (513,kF "_law_queue" "_law_queue" pc "law_riverdue_k20_a_day" 760 512),
 (517,⟨(.type "code"),none,(.fields #[(kS "_law_day" 882),(kS "_law_day" 883),(kS "/claim/cut.py" 884),(.int 299 0),(.int 3 0),(.int 0 0),(.int 0 0),(.int 3 0),(.ref 514),(.bool true),(.int 181 0),(.ref 515),.none,.none,.none,(.ref 516),(.int 885 0),(.int 299 0),(kS "/claim/cut.py" 886)]),#[]⟩),
 (518,kF "_law_day" "_law_day" qw "law_riverdue_k20_a_day" 760 517),
 (522,⟨(.type "code"),none,(.fields #[(kS "_law_twin" 888),(kS "_law_twin" 889),(kS "/claim/cut.py" 890),(.int 308 0),(.int 2 0),(.int 0 0),(.int 0 0),(.int 3 0),(.ref 519),(.bool true),(.int 181 0),(.ref 520),.none,.none,.none,(.ref 521),(.int 891 0),(.int 308 0),(kS "/claim/cut.py" 892)]),#[]⟩),
 (523,kF "_law_twin" "_law_twin" rL "law_riverdue_k20_a_day" 760 522),
 (529,kC "_law_got" "_law_got" "/claim/cut.py" 894 312 3 3 524 181 525 526 527 528 901),
 (530,kF "_law_got" "_law_got" qP "law_riverdue_k20_a_day" 760 529),
 (536,kC "_law_day_right" "_law_day_right" "/claim/cut.py" 904 318 2 3 531 181 532 533 534 535 909)]
noncomputable def KQ12(P:Params):PySem.W.Frag:=[(537,kF "_law_day_right" "_law_day_right" rg "law_riverdue_k20_a_day" 760 536),
 (543,kC "_law_stores" "_law_stores" "/claim/cut.py" 912 322 3 3 538 181 539 540 541 542 919),
 (544,kF "_law_stores" "_law_stores" tO "law_riverdue_k20_a_day" 760 543),
 (550,kC "_law_sent" "_law_sent" "/claim/cut.py" 922 328 6 3 545 181 546 547 548 549 937),
 (551,kF "_law_sent" "_law_sent" sH "law_riverdue_k20_a_day" 760 550),
 (557,kC "law" "law" "/claim/cut.py" 940 342 1 3 552 181 553 554 555 556 960),
 (558,kF "law" "law" qr "law_riverdue_k20_a_day" 760 557),
 (4,⟨(.type "module"),(some 0),.plain,#[]⟩)]
noncomputable def KQ(P:Params):PySem.W.Frag:=KQ0 P++(KQ1 P++(KQ2 P++(KQ3 P++(KQ4 P++(KQ5 P++(KQ6 P++(KQ7 P++(KQ8 P++(KQ9 P++(KQ10 P++(KQ11 P++(KQ12 P++[(369,PySem.W.tabObj #[])]))))))))))))
noncomputable abbrev KM(w:aX):PySem.W.Frag:=KD KQ 369 w.params
noncomputable def KQa:List af:=[2,3,20,21,30,31,32,43,44,55,56,67,68,79,80,91,92,103,104,115,116,127,128,143,144,150,151,157,158,164,165,171,172,178,179,181,182,183,184,192,193,199,200,204,205,209,210,223,224,226,227,228,229,244,245,251,252,256,257,263,264,270,271,277,278,284,285,291,292,298,299,305,306,312,313,315,316,317,318,324,325,338,339,341,342,343,344,359,360,366,367,373,374,380,381,387,388,394,395,401,402,408,409,415,416,422,423,425,426,427,428,436,437,443,444,448,449,455,456,462,463,467,468,474,475,481,482,486,487,493,494,500,501,507,508,512,513,517,518,522,523,529,530,536,537,543,544,550,551,557,558,4,369]
end
end L2.Rv
namespace L2.Rv
open PySem PySem.Spec PyProof.Rows
section
variable {P:br}{w:aX}{K:PySem.W.Frag}{mg:Str->Option ai}{base:aP}{a:Adr}
theorem Ga:bC ["self"] ["self"] (bu tK):=⟨rfl,rfl,rfl,by decide +kernel,rfl,by decide +kernel,by decide +kernel⟩
theorem GM(T:Txt K mg a):FnG P w K mg base a.cl 4 a.zfY a.zd1 ["self"] mS:=by
 refine BT (N:=["self"]) (k:=3) (g:=vi) T.zi4 Ga rfl λcdv hc A outer s H E sa ns hr=>?_;exact(aH (bH (El (k:=1) (nm:="name") (fv:="self") (i:=0) (hc▸T.lam) (bP (f:="held") (ah 0) (bc.one T.za5 T.zbd)) ⟨rfl,rfl,rfl,rfl,rfl,by decide,Cd rfl,rfl,rfl,rfl,rfl⟩ T.zjA hr rfl rfl (λfd v h1 h2 h3=>Ij h1 h2 h3) (λL f cdv s H hr=>(fY (aq (bP (f:="date") (aF (av hr) (bP (f:="held") (ah 1) (bc.one T.za5 T.zbd)) (ah 0)) (bc.two T.zbv T.zcP T.zck T.zco)) (aq (ah 0) aG)))))))
theorem FC:bC ["self","book"] ["self","book"] (bu tV):=⟨rfl,rfl,rfl,by decide +kernel,rfl,by decide +kernel,by decide +kernel⟩
theorem G7(T:Txt K mg a):FnG P w K mg base a.cl 1 a.zcC a.zcz ["self","book"] qm:=by
 refine bJ (N:=["self","book"]) (k:=0) (g:=uM) T.zem FC rfl λcdv A outer s H E sa ns hr=>?_;exact (aA (fI (f:="book") (ah 0) (ah 1) (bc.one T.zak T.zaL))
  (aA (fI (f:="ponds") (ah 0) jY (bc.one T.zak T.zaO))
  (aA (fI (f:="last_day") (ah 0) jY (bc.one T.zak T.zaV))
  (aA (fI (f:="all_days") (ah 0) jY (bc.one T.zak T.zbe))
  (aH (fI (f:="ran_out") (ah 0) ge_int (bc.one T.zak T.zbK)))))))
theorem HB:bC ["self"] ["self"] (bu tP):=⟨rfl,rfl,rfl,by decide +kernel,rfl,by decide +kernel,by decide +kernel⟩
theorem vO(T:Txt K mg a):FnG P w K mg base a.cl 1 a.zf0 a.zfP ["self"] jK:=by
 refine bJ (N:=["self"]) (k:=0) (g:=vj) T.zi6 HB rfl λcdv A outer s H E sa ns hr=>?_;exact(aH (bH (bP (f:="stream") (ah 0) (bc.one T.za5 T.zcG))))
theorem CF:bC ["self","name","amount"] ["self","name","amount"] (bu sx):=⟨rfl,rfl,rfl,by decide +kernel,rfl,by decide +kernel,by decide +kernel⟩
theorem zP(T:Txt K mg a):FnG P w K mg base a.cl 1 a.zeT a.zeN ["self","name","amount"] mX:=by
 refine bJ (N:=["self","name","amount"]) (k:=0) (g:=wH) T.zhP CF rfl λcdv A outer s H E sa ns hr=>?_;exact (aA (iq (bP (f:="last_day") (ah 0) (bc.one T.zak T.zaV)) (ah 1) (aI (λ_=>cD) cH (kX (av hr) (bP (f:="last_day") (ah 0) (bc.one T.zak T.zaV)) (ah 1) ge_int) (ah 2)) (hg:=λE t t' h1 h2=>ib h1 h2 (hZ (av hr))))
  (aH (iq (bP (f:="all_days") (ah 0) (bc.one T.zak T.zbe)) (ah 1) (aI (λ_=>cD) cH (kX (av hr) (bP (f:="all_days") (ah 0) (bc.one T.zak T.zbe)) (ah 1) ge_int) (ah 2)) (hg:=λE t t' h1 h2=>ib h1 h2 (hZ (av hr))))))
theorem CD:bC ["self","name"] ["self","name"] (bu sP):=⟨rfl,rfl,rfl,by decide +kernel,rfl,by decide +kernel,by decide +kernel⟩
theorem FI(T:Txt K mg a):FnG P w K mg base a.cl 1 a.zcB a.zcy ["self","name"] nv:=by
 refine bJ (N:=["self","name"]) (k:=0) (g:=uY) T.zel CD rfl λcdv A outer s H E sa ns hr=>?_;exact (aA (cF (bZ (λ_=>(sj (av hr))) k7 (ah 1) (bP (f:="held") (ah 0) (bc.one T.za5 T.zbd)) rfl) (aH (gQ (c:=105) gP T.zlh T.zm6 hr.hd (aq (qS (.cons .lit (.cons (.rp (ah 1)) Paired.nil))) aG))) cO)
  (aH (bH (aF (av hr) (bP (f:="held") (ah 0) (bc.one T.za5 T.zbd)) (ah 1)))))
theorem yE:bC ["self","name","found"] ["self","name"] (bu rT):=⟨rfl,rfl,rfl,by decide +kernel,rfl,by decide +kernel,by decide +kernel⟩
theorem rQ(T:Txt K mg a):FnG P w K mg base a.cl 2 a.zfZ a.zfO ["self","name"] jP:=by
 refine bJ (N:=["self","name","found"]) (k:=1) (g:=wN) T.zi5 yE rfl λcdv A outer s H E sa ns hr=>?_;exact (aA (bi (n:=2) (du (c:=3) (mth:="held_right") (ah 0) T.za5 T.zd3 (FI T) (hr.mono (by decide)) T.zei (aq (ah 1) aG)) yE.nd)
  (aH (bH (fY (aq (bP (f:="point") (ah 2) (bc.two T.zbv T.zcn T.zck T.zb0)) (aq (bP (f:="amount") (ah 2) (bc.one T.zck T.zdK)) (aq (bP (f:="date") (ah 2) (bc.two T.zbv T.zcP T.zck T.zco)) aG)))))))
theorem l6:bC ["self","wants","name","right","pond"] ["self"] (bu oZ):=⟨rfl,rfl,rfl,by decide +kernel,rfl,by decide +kernel,by decide +kernel⟩
theorem Co(T:Txt K mg a):FnG P w K mg base a.cl 5 a.zbE a.zbD ["self"] o9:=by
 obtain⟨t_RANK_OF_POND,h_RANK_OF_POND⟩:=T.zec;obtain⟨t_RANK_OF_RIGHT,h_RANK_OF_RIGHT⟩:=T.zdH;refine bJ (N:=["self","wants","name","right","pond"]) (k:=4) (g:=qb) T.zcO l6 rfl λcdv A outer s H E sa ns hr=>?_;exact (aA (bi (n:=1) (fN aG) l6.nd)
  (aA (dW (one:=true) (is:=[2]) (fq (iR (c:=3) (mth:="names") (bP (f:="book") (ah 0) (bc.one T.zak T.zaL)) T.za5 T.zh2 (GM T) (hr.mono (by decide)) T.ziX)) (c8 l6.nd) (aA (bi (n:=3) (du (c:=3) (mth:="right") (bP (f:="book") (ah 0) (bc.one T.zak T.zaL)) T.za5 T.zcl (rQ T) (hr.mono (by decide)) T.zcM (aq (ah 2) aG)) l6.nd)
  (aH (cV (ir (ah 1) (fY (aq (aF (av hr) (ah 3) ge_int) (aq (ah 2) (aq (lQ rfl h_RANK_OF_RIGHT ⟨_,rfl⟩) (aq (aF (av hr) (ah 3) ge_int) (aq (aF (av hr) (ah 3) ge_int) aG)))))))))))
  (aA (Cg (is:=[2,4]) (bP (f:="ponds") (ah 0) (bc.one T.zak T.zaO)) (kq (fF (n:=2) (fF (n:=4) jN l6.nd) l6.nd)) (aH (cV (ir (ah 1) (fY (aq (bP (f:="date") (ah 4) (bc.two T.zbv T.zcP T.zck T.zco)) (aq (ah 2) (aq (lQ rfl h_RANK_OF_POND ⟨_,rfl⟩) (aq (bP (f:="point") (ah 4) (bc.two T.zbv T.zcn T.zck T.zb0)) (aq (aI (λ_=>jW) j5 (bP (f:="size") (ah 4) (bc.one T.zbv T.zga)) (bP (f:="held_water") (ah 4) (bc.one T.zbv T.zaD))) aG))))))))))
  (aH (bH (dv (λ_=>yh hr.units) Am (ah 1) T.zjA boot_sorted))))))
theorem F8:bC ["self"] ["self"] (bu o6):=⟨rfl,rfl,rfl,by decide +kernel,rfl,by decide +kernel,by decide +kernel⟩
theorem wE(T:Txt K mg a):FnG P w K mg base a.cl 1 a.zeb a.zea ["self"] jE:=by
 refine bJ (N:=["self"]) (k:=0) (g:=uN) T.zgF F8 rfl λcdv A outer s H E sa ns hr=>?_;exact(aH (bH (dv (λ_=>eJ) eF (bP (f:="runs_to") (ah 0) (bc.one T.zbh T.za8)) T.zdL PySem.boot_len)))
theorem CP:bC ["self","point"] ["self","point"] (bu pT):=⟨rfl,rfl,rfl,by decide +kernel,rfl,by decide +kernel,by decide +kernel⟩
theorem sU(T:Txt K mg a):FnG P w K mg base a.cl 1 a.zb7 a.zb6 ["self","point"] jx:=by
 refine bJ (N:=["self","point"]) (k:=0) (g:=wg) T.zdu CP rfl λcdv A outer s H E sa ns hr=>?_;exact(aH (cF (GW.gt (fh (bZ (λ_=>om) oQ (ah 1) ge_int (cu _)) (gg .Or (bZ (λ_=>BH) yQ (ah 1) (dv (λ_=>eJ) eF (bP (f:="runs_to") (ah 0) (bc.one T.zbh T.za8)) T.zdL PySem.boot_len) (cu _))))) (aH (gQ (c:=103) gP T.zlg T.zm5 hr.hd (aq gW aG))) cO))
theorem wq:bC ["self","point","passed"] ["self","point"] (bu rF):=⟨rfl,rfl,rfl,by decide +kernel,rfl,by decide +kernel,by decide +kernel⟩
theorem xF(T:Txt K mg a):FnG P w K mg base a.cl 2 a.zhb a.zg0 ["self","point"] qK:=by
 refine bJ (N:=["self","point","passed"]) (k:=1) (g:=v4) T.zkh wq rfl λcdv A outer s H E sa ns hr=>?_;exact (aA (cV (du (c:=1) (mth:="check_point") (ah 0) T.zbh T.zaY (sU T) (hr.mono (by decide)) T.za4 (aq (ah 1) aG)))
  (aA (bi (n:=2) (fN aG) wq.nd)
  (aA (Ao (vI (ah 1)) (aA (cV (ir (ah 2) (ah 1)))
  (aH (bi (n:=1) (aF (av hr) (bP (f:="runs_to") (ah 0) (bc.one T.zbh T.za8)) (ah 1)) wq.nd))))
  (aH (bH (ah 2))))))
theorem HS:bC ["self","point"] ["self","point"] (bu rN):=⟨rfl,rfl,rfl,by decide +kernel,rfl,by decide +kernel,by decide +kernel⟩
theorem F9(T:Txt K mg a):FnG P w K mg base a.cl 2 a.zeV a.zeP ["self","point"] nV:=by
 refine bJ (N:=["self","point"]) (k:=1) (g:=uZ) T.zhR HS rfl λcdv A outer s H E sa ns hr=>?_;exact (aA (cV (du (c:=1) (mth:="check_point") (ah 0) T.zbh T.zaY (sU T) (hr.mono (by decide)) T.za4 (aq (ah 1) aG)))
  (aH (bH (aF (av hr) (bP (f:="runs_to") (ah 0) (bc.one T.zbh T.za8)) (ah 1)))))
theorem AH:bC ["river","year","inflow"] ["river","year"] (bu qR):=⟨rfl,rfl,rfl,by decide +kernel,rfl,by decide +kernel,by decide +kernel⟩
theorem IU(T:Txt K mg a):FnG P w K mg base a.cl 2 a.zf5 a.zfU ["river","year"] sQ:=by
 obtain⟨t_MOST_INFLOW,h_MOST_INFLOW⟩:=T.zhX;refine bJ (N:=["river","year","inflow"]) (k:=1) (g:=we) T.zfJ AH rfl λcdv A outer s H E sa ns hr=>?_;exact (aA (cF (bZ (λ_=>(iI hr.units)) iF (dv (λ_=>eJ) eF (ah 1) T.zdL PySem.boot_len) (iR (c:=1) (mth:="points") (ah 0) T.zbh T.zcm (wE T) (hr.mono (by decide)) T.zcF) (cu _)) (aH (gQ (c:=102) gP T.ziB T.zku hr.hd (aq gW aG))) cO)
  (aH (dW (one:=true) (is:=[2]) (fq (ah 1)) (c8 AH.nd) (aH (cF (GW.gt (fh (bZ (λ_=>om) oQ (ah 2) ge_int (cu _)) (gg .Or (bZ (λ_=>nF) oA (ah 2) (lQ rfl h_MOST_INFLOW ⟨_,rfl⟩) (cu _))))) (aH (gQ (c:=102) gP T.ziB T.zku hr.hd (aq gW aG))) cO)))))
theorem vq:bC ["river","year","taken","found","point"] ["river","year","taken"] (bu sZ):=⟨rfl,rfl,rfl,by decide +kernel,rfl,by decide +kernel,by decide +kernel⟩
theorem HZ(T:Txt K mg a):FnG P w K mg base a.cl 3 a.znT a.znR ["river","year","taken"] sD:=by
 refine bJ (N:=["river","year","taken","found","point"]) (k:=2) (g:=Bf) T.znP vq rfl λcdv A outer s H E sa ns hr=>?_;exact (aA (cV (bV (IU T) (hr.mono (by decide)) T.zjc T.zfJ.kp T.zi0 (aq (ah 0) (aq (ah 1) aG))))
  (aA (si (n:=3) (x:=["inflow","gone"]) (one:=false) (eW.of rfl trivial rfl rfl) (uz (ah 1) (ah 2) T.zrJ) (λC s H fp pins=>(aI (λ_=>jW) j5 (ah 5) (ah 6))) trivial (λnd C s H fp pins=>kq (fF (n:=5) (fF (n:=6) jN nd) nd)) vq.nd)
  (aA (dW (one:=true) (is:=[4]) (Dv (aI (λ_=>jW) j5 (iR (c:=1) (mth:="points") (ah 0) T.zbh T.zcm (wE T) (hr.mono (by decide)) T.zcF) ge_int) ge_int T.zdJ) (c8 vq.nd) (aH (yp (av hr) (λ_=>IT) (λ_ _ _=>rfl) (λ_ _ _ h=>ue h) (ah 3) (du (c:=1) (mth:="below") (ah 0) T.zbh T.zgH (F9 T) (hr.mono (by decide)) T.zhM (aq (ah 4) aG)) (aF (av hr) (ah 3) (ah 4)))))
  (aH (bH (ah 3))))))
theorem jz:bC ["river","year","wants","flow","takes","point","amount","way","take","passed"] ["river","year","wants"] (bu q9):=⟨rfl,rfl,rfl,by decide +kernel,rfl,by decide +kernel,by decide +kernel⟩
theorem Fl(T:Txt K mg a):FnG P w K mg base a.cl 4 a.znU a.znS ["river","year","wants"] qV:=by
 refine bJ (N:=["river","year","wants","flow","takes","point","amount","way","take","passed"]) (k:=3) (g:=xu) T.znQ jz rfl λcdv A outer s H E sa ns hr=>?_;exact (aA (bi (n:=3) (bV (HZ T) (hr.mono (by decide)) T.zqE T.znP.kp T.zqy (aq (ah 0) (aq (ah 1) (aq (aI (λ_=>iH) iP (fN (aq ge_int aG)) (iR (c:=1) (mth:="points") (ah 0) T.zbh T.zcm (wE T) (hr.mono (by decide)) T.zcF)) aG)))) jz.nd)
  (aA (bi (n:=4) (fN aG) jz.nd)
  (aA (dW (one:=false) (is:=[5,6]) (wr (k:=2) (ah 2)) (kq (fF (n:=5) (fF (n:=6) jN jz.nd) jz.nd)) (aA (bi (n:=7) (du (c:=1) (mth:="way") (ah 0) T.zbh T.zf9 (xF T) (hr.mono (by decide)) T.zgS (aq (ah 5) aG)) jz.nd)
  (aA (bi (n:=8) (r8 (λ_=>Bu hr.hd) By (ah 6) (dv (λ_=>yz hr.hd) zU (j6 (x:=["passed"]) (one:=true) (eW.of rfl ⟨rfl,trivial⟩ rfl rfl) (fq (ah 7)) (λC s H fp pins=>(aF (av hr) (ah 3) (ah 10))) trivial (λnd C s H fp pins=>c8 nd)) T.zqI boot_min) T.zqI boot_min) jz.nd)
  (aA (dW (one:=true) (is:=[9]) (fq (ah 7)) (c8 jz.nd) (aH (yp (av hr) (λ_=>HP) (λ_ _ _=>rfl) (λ_ _ _ h=>An h) (ah 3) (ah 9) (ah 8))))
  (aH (cV (ir (ah 4) (ah 8))))))))
  (aH (bH (fY (aq (ah 4) (aq (ah 3) aG))))))))
theorem E0:bC ["wants","takes","rank"] ["wants","takes","rank"] (bu tU):=⟨rfl,rfl,rfl,by decide +kernel,rfl,by decide +kernel,by decide +kernel⟩
theorem yO(T:Txt K mg a):FnG P w K mg base a.cl 1 a.zdG a.zdB ["wants","takes","rank"] oP:=by
 refine bJ (N:=["wants","takes","rank"]) (k:=0) (g:=sL) T.zcj E0 rfl λcdv A outer s H E sa ns hr=>?_;exact(aH (bH (j6 (x:=["want","take"]) (one:=false) (eW.of rfl ⟨rfl,trivial⟩ rfl rfl) (uz (ah 0) (ah 1) T.zrJ) (λC s H fp pins=>(fY (aq (aF (av hr) (ah 3) ge_int) (aq (ah 4) aG)))) (λC s H fp pins=>(bZ (λ_=>(hV hr.units)) gX (aF (av hr) (ah 3) ge_int) (ah 2) (cu _))) (λnd C s H fp pins=>kq (fF (n:=3) (fF (n:=4) jN nd) nd)))))
theorem iL:bC ["self","year","wants","served","rights","ponds","name","take","pond"] ["self","year"] (bu qE):=⟨rfl,rfl,rfl,by decide +kernel,rfl,by decide +kernel,by decide +kernel⟩
theorem Dr(T:Txt K mg a):FnG P w K mg base a.cl 6 a.zf1 a.zfQ ["self","year"] sy:=by
 obtain⟨t_RANK_OF_POND,h_RANK_OF_POND⟩:=T.zec;obtain⟨t_RANK_OF_RIGHT,h_RANK_OF_RIGHT⟩:=T.zdH;refine bJ (N:=["self","year","wants","served","rights","ponds","name","take","pond"]) (k:=5) (g:=sI) T.zi7 iL rfl λcdv A outer s H E sa ns hr=>?_;exact (aA (bi (n:=2) (iR (c:=4) (mth:="wants_by_age") (ah 0) T.zak T.zcq (Co T) (hr.mono (by decide)) T.zcN) iL.nd)
  (aA (bi (n:=3) (bV (Fl T) (hr.mono (by decide)) T.zqF T.znQ.kp T.zqz (aq (iR (c:=3) (mth:="river") (bP (f:="book") (ah 0) (bc.one T.zak T.zaL)) T.za5 T.zdf (vO T) (hr.mono (by decide)) T.zd0) (aq (ah 1) (aq (j6 (x:=["want"]) (one:=true) (eW.of rfl trivial rfl rfl) (fq (ah 2)) (λC s H fp pins=>(jV (ah 9) ge_int trivial)) trivial (λnd C s H fp pins=>c8 nd)) aG)))) iL.nd)
  (aA (bi (n:=4) (bV (yO T) (hr.mono (by decide)) T.zdI T.zcj.kp T.zdt (aq (ah 2) (aq (aF (av hr) (ah 3) ge_int) (aq (lQ rfl h_RANK_OF_RIGHT ⟨_,rfl⟩) aG)))) iL.nd)
  (aA (bi (n:=5) (bV (yO T) (hr.mono (by decide)) T.zdI T.zcj.kp T.zdt (aq (ah 2) (aq (aF (av hr) (ah 3) ge_int) (aq (lQ rfl h_RANK_OF_POND ⟨_,rfl⟩) aG)))) iL.nd)
  (aA (fI (f:="last_day") (ah 0) jY (bc.one T.zak T.zaV))
  (aA (dW (one:=false) (is:=[6,7]) (wr (k:=2) (ah 4)) (kq (fF (n:=6) (fF (n:=7) jN iL.nd) iL.nd)) (aH (cV (du (c:=4) (mth:="give") (ah 0) T.zak T.zed (zP T) (hr.mono (by decide)) T.zeH (aq (ah 6) (aq (ah 7) aG))))))
  (aA (dW (one:=false) (is:=[6,7]) (wr (k:=2) (ah 5)) (kq (fF (n:=6) (fF (n:=7) jN iL.nd) iL.nd)) (aA (bi (n:=8) (aF (av hr) (bP (f:="ponds") (ah 0) (bc.one T.zak T.zaO)) (ah 6)) iL.nd)
  (aH (ut (fl:="held_water") (λ_=>Al) (λ_ _ _ _ q=>q) (λ_ _ _=>rfl) (λ_ _ _ h=>ue h) (ah 8) (ah 7) (bc.one T.zbv T.zaD)))))
  (aA (ut (fl:="ran_out") (λ_=>Al) (λ_ _ _ _ q=>q) (λ_ _ _=>rfl) (λ_ _ _ h=>ue h) (ah 0) (aF (av hr) (aF (av hr) (ah 3) ge_int) ge_int) (bc.one T.zak T.zbK))
  (aH (bH (fY (aq (ah 4) (aq (ah 5) aG)))))))))))))
theorem CL:bC ["self"] ["self"] (bu qD):=⟨rfl,rfl,rfl,by decide +kernel,rfl,by decide +kernel,by decide +kernel⟩
theorem BN(T:Txt K mg a):FnG P w K mg base a.cl 1 a.zf4 a.zfT ["self"] l8:=by
 refine bJ (N:=["self"]) (k:=0) (g:=vt) T.zja CL rfl λcdv A outer s H E sa ns hr=>?_;exact(aH (bH (bP (f:="ran_out") (ah 0) (bc.one T.zak T.zbK))))
theorem Fx:bC ["script","k"] ["script","k"] (bu qq):=⟨rfl,rfl,rfl,by decide +kernel,rfl,by decide +kernel,by decide +kernel⟩
theorem gL(T:Txt K mg a):FnG P w K mg base a.cl 1 a.zeX a.zeR ["script","k"] eY:=by
 refine bJ (N:=["script","k"]) (k:=0) (g:=pR) T.zau Fx rfl λcdv A outer s H E sa ns hr=>?_;exact (aA (cF (bZ (λ_=>om) oQ (ah 1) (dv (λ_=>eJ) eF (ah 0) T.zdL PySem.boot_len) (cu _)) (aH (bH (aF (av hr) (ah 0) (ah 1)))) cO)
  (aH (bH ge_int)))
theorem G1:bC ["script","start","size"] ["script","start","size"] (bu rB):=⟨rfl,rfl,rfl,by decide +kernel,rfl,by decide +kernel,by decide +kernel⟩
theorem B9(T:Txt K mg a):FnG P w K mg base a.cl 2 a.zhc a.zg1 ["script","start","size"] rG:=by
 refine bJ (N:=["script","start","size"]) (k:=1) (g:=uw) T.zgV G1 rfl λcdv A outer s H E sa ns hr=>?_;exact(aH (bH (aI (λ_=>cD) cH (fN (aq Iu aG)) (j6 (x:=["k"]) (one:=true) (eW.of rfl ⟨rfl,⟨rfl,trivial⟩⟩ rfl rfl) (AG ge_int (ah 2) T.zdJ) (λC s H fp pins=>(aI (λ_=>cR) cQ (bV (gL T) (hr.mono (by decide)) T.zay T.zau.kp T.zax (aq (ah 0) (aq (aI (λ_=>cD) cH (ah 1) (ah 3)) aG))) (ah 3))) trivial (λnd C s H fp pins=>c8 nd)))))
theorem Gr:bC ["self","river"] ["self","river"] (bu rA):=⟨rfl,rfl,rfl,by decide +kernel,rfl,by decide +kernel,by decide +kernel⟩
theorem FZ(T:Txt K mg a):FnG P w K mg base a.cl 1 a.zdC a.zdx ["self","river"] qH:=by
 refine bJ (N:=["self","river"]) (k:=0) (g:=u0) T.zfG Gr rfl λcdv A outer s H E sa ns hr=>?_;exact (aA (fI (f:="stream") (ah 0) (ah 1) (bc.one T.za5 T.zcG))
  (aH (fI (f:="held") (ah 0) jY (bc.one T.za5 T.zbd))))
theorem GV:bC ["self","name"] ["self","name"] (bu sX):=⟨rfl,rfl,rfl,by decide +kernel,rfl,by decide +kernel,by decide +kernel⟩
theorem Db(T:Txt K mg a):FnG P w K mg base a.cl 1 a.zcA a.zcx ["self","name"] oH:=by
 refine bJ (N:=["self","name"]) (k:=0) (g:=uQ) T.zek GV rfl λcdv A outer s H E sa ns hr=>?_;exact(aH (cF (bZ (λ_=>(tZ (av hr))) k7 (ah 1) (bP (f:="held") (ah 0) (bc.one T.za5 T.zbd)) rfl) (aH (gQ (c:=104) gP T.zl7 T.znV hr.hd (aq (qS (.cons .lit (.cons (.rp (ah 1)) Paired.nil))) aG))) cO))
theorem Fq:bC ["self","point","amount","date"] ["self","point","amount","date"] (bu pW):=⟨rfl,rfl,rfl,by decide +kernel,rfl,by decide +kernel,by decide +kernel⟩
theorem Di(T:Txt K mg a):FnG P w K mg base a.cl 1 a.zc1 a.zcY ["self","point","amount","date"] v5:=by
 refine bJ (N:=["self","point","amount","date"]) (k:=0) (g:=vz) T.zfb Fq rfl λcdv A outer s H E sa ns hr=>?_;exact (aA (fI (f:="point") (ah 0) (ah 1) (bc.one T.zck T.zb0))
  (aA (fI (f:="amount") (ah 0) (ah 2) (bc.one T.zck T.zdK))
  (aH (fI (f:="date") (ah 0) (ah 3) (bc.one T.zck T.zco)))))
theorem HF:bC ["self","name","point","amount","date"] ["self","name","point","amount","date"] (bu rJ):=⟨rfl,rfl,rfl,by decide +kernel,rfl,by decide +kernel,by decide +kernel⟩
theorem DJ(T:Txt K mg a):FnG P w K mg base a.cl 3 a.zfX a.zfN ["self","name","point","amount","date"] pM:=by
 refine bJ (N:=["self","name","point","amount","date"]) (k:=2) (g:=AT) T.zi3 HF rfl λcdv A outer s H E sa ns hr=>?_;exact (aA (cV (du (c:=3) (mth:="check_free") (ah 0) T.za5 T.zd2 (Db T) (hr.mono (by decide)) T.zeh (aq (ah 1) aG)))
  (aA (cV (du (c:=1) (mth:="check_point") (bP (f:="stream") (ah 0) (bc.one T.za5 T.zcG)) T.zbh T.zaY (sU T) (hr.mono (by decide)) T.za4 (aq (ah 2) aG)))
  (aA (iq (bP (f:="held") (ah 0) (bc.one T.za5 T.zbd)) (ah 1) (mW (c:=2) T.zoJ (Di T) (hr.mono (by decide)) T.zqC T.ze8 (aq (ah 2) (aq (ah 3) (aq (ah 4) aG)))) (hg:=λE t t' h1 h2=>ib h1 h2 (hZ (av hr))))
  (aH (bH (dv (λ_=>eJ) eF (bP (f:="held") (ah 0) (bc.one T.za5 T.zbd)) T.zdL PySem.boot_len))))))
theorem uV:bC ["below","point","lower"] ["below"] (bu rE):=⟨rfl,rfl,rfl,by decide +kernel,rfl,by decide +kernel,by decide +kernel⟩
theorem Fu(T:Txt K mg a):FnG P w K mg base a.cl 1 a.zeW a.zeQ ["below"] t9:=by
 obtain⟨t_MOST_POINTS,h_MOST_POINTS⟩:=T.zhY;refine bJ (N:=["below","point","lower"]) (k:=0) (g:=vZ) T.zeJ uV rfl λcdv A outer s H E sa ns hr=>?_;exact (aA (cF (GW.gt (fh (bZ (λ_=>om) oQ (dv (λ_=>eJ) eF (ah 0) T.zdL PySem.boot_len) ge_int (cu _)) (gg .Or (bZ (λ_=>nF) oA (dv (λ_=>eJ) eF (ah 0) T.zdL PySem.boot_len) (lQ rfl h_MOST_POINTS ⟨_,rfl⟩) (cu _))))) (aH (gQ (c:=101) gP T.zeS T.zgp hr.hd (aq gW aG))) cO)
  (aA (cF (vI (aF (av hr) (ah 0) ge_int)) (aH (gQ (c:=101) gP T.zeS T.zgp hr.hd (aq gW aG))) cO)
  (aH (dW (one:=true) (is:=[1]) (AG ge_int (dv (λ_=>eJ) eF (ah 0) T.zdL PySem.boot_len) T.zdJ) (c8 uV.nd) (aA (bi (n:=2) (aF (av hr) (ah 0) (ah 1)) uV.nd)
  (aH (cF (GW.gt (fh (Ds (ah 2)) (fh (bZ (λ_=>om) oQ (ah 2) ge_int (cu _)) (gg .Or (bZ (λ_=>BH) yQ (ah 2) (ah 1) (cu _)))))) (aH (gQ (c:=101) gP T.zeS T.zgp hr.hd (aq gW aG))) cO)))))))
theorem GL:bC ["self","below"] ["self","below"] (bu pV):=⟨rfl,rfl,rfl,by decide +kernel,rfl,by decide +kernel,by decide +kernel⟩
theorem Fd(T:Txt K mg a):FnG P w K mg base a.cl 2 a.zc2 a.zcZ ["self","below"] nJ:=by
 refine bJ (N:=["self","below"]) (k:=1) (g:=wB) T.zfc GL rfl λcdv A outer s H E sa ns hr=>?_;exact (aA (cV (bV (Fu T) (hr.mono (by decide)) T.zhZ T.zeJ.kp T.zhN (aq (ah 1) aG)))
  (aH (fI (f:="runs_to") (ah 0) (tE (λ_=>Bd) zW (ah 1) T.zoL PyProof.Rows.Boot.«list») (bc.one T.zbh T.za8))))
theorem vH:bC ["below","rights","book","right"] ["below","rights"] (bu qz):=⟨rfl,rfl,rfl,by decide +kernel,rfl,by decide +kernel,by decide +kernel⟩
theorem HM(T:Txt K mg a):FnG P w K mg base a.cl 4 a.ziD a.zit ["below","rights"] sN:=by
 refine bJ (N:=["below","rights","book","right"]) (k:=3) (g:=Ak) T.zin vH rfl λcdv A outer s H E sa ns hr=>?_;exact (aA (bi (n:=2) (mW (c:=3) T.zqG (FZ T) (hr.mono (by decide)) T.zr3 T.zfB (aq (mW (c:=1) T.zoK (Fd T) (hr.mono (by decide)) T.zqD T.ze9 (aq (tE (λ_=>Bd) zW (ah 0) T.zoL PyProof.Rows.Boot.«list») aG)) aG)) vH.nd)
  (aA (dW (one:=true) (is:=[3]) (fq (ah 1)) (c8 vH.nd) (aH (cV (du (c:=3) (mth:="grant") (ah 2) T.za5 T.zh1 (DJ T) (hr.mono (by decide)) T.ziW (aq (aF (av hr) (ah 3) ge_int) (aq (aF (av hr) (ah 3) ge_int) (aq (aF (av hr) (ah 3) ge_int) (aq (aF (av hr) (ah 3) ge_int) aG))))))))
  (aH (bH (ah 2)))))
theorem uu:bC ["below","point","found"] ["below","point"] (bu sV):=⟨rfl,rfl,rfl,by decide +kernel,rfl,by decide +kernel,by decide +kernel⟩
theorem wF(T:Txt K mg a):FnG P w K mg base a.cl 1 a.zkt a.zkn ["below","point"] kf:=by
 refine bJ (N:=["below","point","found"]) (k:=0) (g:=uf) T.zfM uu rfl λcdv A outer s H E sa ns hr=>?_;exact (aA (bi (n:=2) (fN aG) uu.nd)
  (aA (Ao (vI (ah 1)) (aA (cV (ir (ah 2) (ah 1)))
  (aH (bi (n:=1) (aF (av hr) (ah 0) (ah 1)) uu.nd))))
  (aH (bH (ah 2)))))
theorem sA:bC ["below","year","taken","found","point","other"] ["below","year","taken"] (bu sS):=⟨rfl,rfl,rfl,by decide +kernel,rfl,by decide +kernel,by decide +kernel⟩
theorem BF(T:Txt K mg a):FnG P w K mg base a.cl 2 a.zhd a.zg2 ["below","year","taken"] nZ:=by
 refine bJ (N:=["below","year","taken","found","point","other"]) (k:=1) (g:=xf) T.zeK sA rfl λcdv A outer s H E sa ns hr=>?_;exact (aA (si (n:=3) (x:=["inflow"]) (one:=true) (eW.of rfl trivial rfl rfl) (fq (ah 1)) (λC s H fp pins=>ge_int) trivial (λnd C s H fp pins=>c8 nd) sA.nd)
  (aA (dW (one:=true) (is:=[4]) (ka (dv (λ_=>eJ) eF (ah 1) T.zdL PySem.boot_len) T.zdJ) (c8 sA.nd) (aH (dW (one:=true) (is:=[5]) (fq (bV (wF T) (hr.mono (by decide)) T.zh0 T.zfM.kp T.zhO (aq (ah 0) (aq (ah 4) aG)))) (c8 sA.nd) (aH (iq (ah 3) (ah 5) (aI (λ_=>jW) j5 (aI (λ_=>cD) cH (aF (av hr) (ah 3) (ah 5)) (aF (av hr) (ah 1) (ah 4))) (aF (av hr) (ah 2) (ah 4))) (hg:=λE t t' h1 h2=>ib h1 h2 (hZ (av hr))))))))
  (aH (bH (ah 3)))))
theorem lK:bC ["below","year","rows","taken","found","row","flow","take"] ["below","year","rows"] (bu qw):=⟨rfl,rfl,rfl,by decide +kernel,rfl,by decide +kernel,by decide +kernel⟩
theorem Ca(T:Txt K mg a):FnG P w K mg base a.cl 3 a.zkq a.zkk ["below","year","rows"] o0:=by
 refine bJ (N:=["below","year","rows","taken","found","row","flow","take"]) (k:=2) (g:=rZ) T.zki lK rfl λcdv A outer s H E sa ns hr=>?_;exact (aA (si (n:=3) (x:=["inflow"]) (one:=true) (eW.of rfl trivial rfl rfl) (fq (ah 1)) (λC s H fp pins=>ge_int) trivial (λnd C s H fp pins=>c8 nd) lK.nd)
  (aA (bi (n:=4) (fN (aq (fN aG) (aq (fN aG) aG))) lK.nd)
  (aA (dW (one:=true) (is:=[5]) (fq (ah 2)) (c8 lK.nd) (aA (bi (n:=6) (bV (BF T) (hr.mono (by decide)) T.zhj T.zeK.kp T.zgT (aq (ah 0) (aq (ah 1) (aq (ah 3) aG)))) lK.nd)
  (aA (bi (n:=7) (dv (λ_=>yz hr.hd) zU (aI (λ_=>cD) cH (fN (aq (aF (av hr) (ah 5) ge_int) aG)) (j6 (x:=["point"]) (one:=true) (eW.of rfl ⟨rfl,trivial⟩ rfl rfl) (fq (bV (wF T) (hr.mono (by decide)) T.zh0 T.zfM.kp T.zhO (aq (ah 0) (aq (aF (av hr) (ah 5) ge_int) aG)))) (λC s H fp pins=>(aF (av hr) (ah 6) (ah 8))) trivial (λnd C s H fp pins=>c8 nd))) T.zqI boot_min) lK.nd)
  (aA (iq (ah 3) (aF (av hr) (ah 5) ge_int) (aI (λ_=>cD) cH (aF (av hr) (ah 3) (aF (av hr) (ah 5) ge_int)) (ah 7)) (hg:=λE t t' h1 h2=>ib h1 h2 (hZ (av hr))))
  (aH (cV (ir (aF (av hr) (ah 4) (aF (av hr) (ah 5) ge_int)) (fY (aq (aF (av hr) (ah 5) ge_int) (aq (ah 7) aG))))))))))
  (aH (bH (fY (aq (ah 4) (aq (aF (av hr) (bV (BF T) (hr.mono (by decide)) T.zhj T.zeK.kp T.zgT (aq (ah 0) (aq (ah 1) (aq (ah 3) aG)))) ge_int) aG))))))))
theorem Iv:bC ["found"] ["found"] (bu qa):=⟨rfl,rfl,rfl,by decide +kernel,rfl,by decide +kernel,by decide +kernel⟩
theorem u9(T:Txt K mg a):FnG P w K mg base a.cl 1 a.zhi a.zg7 ["found"] kG:=by
 refine bJ (N:=["found"]) (k:=0) (g:=wb) T.zdw Iv rfl λcdv A outer s H E sa ns hr=>?_;exact(aH (bH (zA (lS (ah 0) (λE=>mB (v:=.ty "int") rfl T.zs5 PyProof.Rows.Boot.«int» rfl) (.inl ⟨_,rfl,rfl⟩) T.zr1 T.zbG) (Bh (HH (lS (ah 0) (λE=>mB (v:=.ty "bool") rfl T.zr5 PyProof.Rows.Boot.«bool» rfl) (.inl ⟨_,rfl,rfl⟩) T.zqA T.zbG))))))
theorem vP:bC ["found","due","pair","own"] ["found","due"] (bu tw):=⟨rfl,rfl,rfl,by decide +kernel,rfl,by decide +kernel,by decide +kernel⟩
theorem zK(T:Txt K mg a):FnG P w K mg base a.cl 2 a.zhf a.zg4 ["found","due"] oK:=by
 refine bJ (N:=["found","due","pair","own"]) (k:=1) (g:=Br) T.zeL vP rfl λcdv A outer s H E sa ns hr=>?_;exact (aA (cF (GW.gt (fh (i8 (iZ (lS (ah 0) (λE=>mB (v:=.ty "list") rfl T.zoL PyProof.Rows.Boot.«list» rfl) (.inl ⟨_,rfl,rfl⟩) T.zqB T.zbG))) (gg .Or (bZ (λ_=>(iI hr.units)) iF (dv (λ_=>eJ) eF (ah 0) T.zdL PySem.boot_len) (dv (λ_=>eJ) eF (ah 1) T.zdL PySem.boot_len) (cu _))))) (aH (bH gO)) cO)
  (aA (dW (one:=false) (is:=[2,3]) (uz (ah 0) (ah 1) T.zrJ) (kq (fF (n:=2) (fF (n:=3) jN vP.nd) vP.nd)) (aA (cF (GW.gt (fh (i8 (iZ (lS (ah 2) (λE=>mB (v:=.ty "tuple") rfl T.znW PyProof.Rows.Boot.«tuple» rfl) (.inl ⟨_,rfl,rfl⟩) T.zl8 T.zbG))) (fh (bZ (λ_=>(iI hr.units)) iF (dv (λ_=>eJ) eF (ah 2) T.zdL PySem.boot_len) ge_int (cu _)) (fh (i8 (iZ (lS (aF (av hr) (ah 2) ge_int) (λE=>mB (v:=.ty "str") rfl T.zut PyProof.Rows.Boot.«str» rfl) (.inl ⟨_,rfl,rfl⟩) T.zr2 T.zbG))) (gg .Or (i8 (iZ (bV (u9 T) (hr.mono (by decide)) T.zeY T.zdw.kp T.zeI (aq (aF (av hr) (ah 2) ge_int) aG))))))))) (aH (bH gO)) cO)
  (aH (cF (GW.gt (fh (bZ (λ_=>(iI hr.units)) iF (aF (av hr) (ah 2) ge_int) (aF (av hr) (ah 3) ge_int) (cu _)) (gg .Or (bZ (λ_=>(iI hr.units)) iF (aF (av hr) (ah 2) ge_int) (aF (av hr) (ah 3) ge_int) (cu _))))) (aH (bH gO)) cO))))
  (aH (bH gO))))
theorem Gc:bC ["found","due"] ["found","due"] (bu rg):=⟨rfl,rfl,rfl,by decide +kernel,rfl,by decide +kernel,by decide +kernel⟩
theorem Df(T:Txt K mg a):FnG P w K mg base a.cl 3 a.zdF a.zdA ["found","due"] rO:=by
 refine bJ (N:=["found","due"]) (k:=2) (g:=um) T.zdv Gc rfl λcdv A outer s H E sa ns hr=>?_;exact (aA (cF (GW.gt (fh (i8 (iZ (lS (ah 0) (λE=>mB (v:=.ty "tuple") rfl T.znW PyProof.Rows.Boot.«tuple» rfl) (.inl ⟨_,rfl,rfl⟩) T.zl8 T.zbG))) (gg .Or (bZ (λ_=>(iI hr.units)) iF (dv (λ_=>eJ) eF (ah 0) T.zdL PySem.boot_len) ge_int (cu _))))) (aH (bH gO)) cO)
  (aH (bH (zA (bV (zK T) (hr.mono (by decide)) T.zhk T.zeL.kp T.zgU (aq (aF (av hr) (ah 0) ge_int) (aq (aF (av hr) (aF (av hr) (ah 1) ge_int) ge_int) aG))) (Bh (bV (zK T) (hr.mono (by decide)) T.zhk T.zeL.kp T.zgU (aq (aF (av hr) (ah 0) ge_int) (aq (aF (av hr) (aF (av hr) (ah 1) ge_int) ge_int) aG))))))))
theorem DL:bC ["self","point","size","date"] ["self","point","size","date"] (bu qL):=⟨rfl,rfl,rfl,by decide +kernel,rfl,by decide +kernel,by decide +kernel⟩
theorem Ch(T:Txt K mg a):FnG P w K mg base a.cl 1 a.zdE a.zdz ["self","point","size","date"] vS:=by
 refine bJ (N:=["self","point","size","date"]) (k:=0) (g:=v9) T.zfI DL rfl λcdv A outer s H E sa ns hr=>?_;exact (aA (fI (f:="point") (ah 0) (ah 1) (bc.one T.zbv T.zcn))
  (aA (fI (f:="size") (ah 0) (ah 2) (bc.one T.zbv T.zga))
  (aA (fI (f:="date") (ah 0) (ah 3) (bc.one T.zbv T.zcP))
  (aH (fI (f:="held_water") (ah 0) ge_int (bc.one T.zbv T.zaD))))))
theorem Io:bC ["self","name","point","size","date"] ["self","name","point","size","date"] (bu rM):=⟨rfl,rfl,rfl,by decide +kernel,rfl,by decide +kernel,by decide +kernel⟩
theorem Gm(T:Txt K mg a):FnG P w K mg base a.cl 3 a.zf2 a.zfR ["self","name","point","size","date"] pZ:=by
 refine bJ (N:=["self","name","point","size","date"]) (k:=2) (g:=ul) T.zi8 Io rfl λcdv A outer s H E sa ns hr=>?_;exact (aA (cF (bZ (λ_=>(tZ (av hr))) k7 (ah 1) (bP (f:="ponds") (ah 0) (bc.one T.zak T.zaO)) rfl) (aH (gQ (c:=104) gP T.zl7 T.znV hr.hd (aq (qS (.cons .lit (.cons (.rp (ah 1)) Paired.nil))) aG))) cO)
  (aA (cV (du (c:=1) (mth:="check_point") (iR (c:=3) (mth:="river") (bP (f:="book") (ah 0) (bc.one T.zak T.zaL)) T.za5 T.zdf (vO T) (hr.mono (by decide)) T.zd0) T.zbh T.zaY (sU T) (hr.mono (by decide)) T.za4 (aq (ah 2) aG)))
  (aA (iq (bP (f:="ponds") (ah 0) (bc.one T.zak T.zaO)) (ah 1) (mW (c:=5) T.zqH (Ch T) (hr.mono (by decide)) T.zr4 T.zfE (aq (ah 2) (aq (ah 3) (aq (ah 4) aG)))) (hg:=λE t t' h1 h2=>ib h1 h2 (hZ (av hr))))
  (aH (bH (dv (λ_=>eJ) eF (bP (f:="ponds") (ah 0) (bc.one T.zak T.zaO)) T.zdL PySem.boot_len))))))
theorem BK:bC ["office","ponds","pond"] ["office","ponds"] (bu rj):=⟨rfl,rfl,rfl,by decide +kernel,rfl,by decide +kernel,by decide +kernel⟩
theorem zm(T:Txt K mg a):FnG P w K mg base a.cl 4 a.zkr a.zkl ["office","ponds"] mZ:=by
 refine bJ (N:=["office","ponds","pond"]) (k:=3) (g:=pb) T.zhS BK rfl λcdv A outer s H E sa ns hr=>?_;exact(aH (dW (one:=true) (is:=[2]) (fq (ah 1)) (c8 BK.nd) (aH (cV (du (c:=4) (mth:="dig") (ah 0) T.zak T.zh4 (Gm T) (hr.mono (by decide)) T.ziZ (aq (aF (av hr) (ah 2) ge_int) (aq (aF (av hr) (ah 2) ge_int) (aq (aF (av hr) (ah 2) ge_int) (aq (aF (av hr) (ah 2) ge_int) aG)))))))))
theorem C7:bC ["self","name"] ["self","name"] (bu sB):=⟨rfl,rfl,rfl,by decide +kernel,rfl,by decide +kernel,by decide +kernel⟩
theorem Cw(T:Txt K mg a):FnG P w K mg base a.cl 3 a.zc0 a.zcX ["self","name"] qi:=by
 refine bJ (N:=["self","name"]) (k:=2) (g:=wL) T.zfa C7 rfl λcdv A outer s H E sa ns hr=>?_;exact (aA (cV (du (c:=3) (mth:="right") (bP (f:="book") (ah 0) (bc.one T.zak T.zaL)) T.za5 T.zcl (rQ T) (hr.mono (by decide)) T.zcM (aq (ah 1) aG)))
  (aH (bH (kX (av hr) (bP (f:="all_days") (ah 0) (bc.one T.zak T.zbe)) (ah 1) ge_int))))
theorem Hn:bC ["self","name"] ["self","name"] (bu sW):=⟨rfl,rfl,rfl,by decide +kernel,rfl,by decide +kernel,by decide +kernel⟩
theorem BL(T:Txt K mg a):FnG P w K mg base a.cl 3 a.zf3 a.zfS ["self","name"] oG:=by
 refine bJ (N:=["self","name"]) (k:=2) (g:=vT) T.zi9 Hn rfl λcdv A outer s H E sa ns hr=>?_;exact (aA (cV (du (c:=3) (mth:="right") (bP (f:="book") (ah 0) (bc.one T.zak T.zaL)) T.za5 T.zcl (rQ T) (hr.mono (by decide)) T.zcM (aq (ah 1) aG)))
  (aH (bH (kX (av hr) (bP (f:="last_day") (ah 0) (bc.one T.zak T.zaV)) (ah 1) ge_int))))
theorem Bw:bC ["office","pairs","sums","pair"] ["office","pairs","sums"] (bu qP):=⟨rfl,rfl,rfl,by decide +kernel,rfl,by decide +kernel,by decide +kernel⟩
theorem Hx(T:Txt K mg a):FnG P w K mg base a.cl 4 a.zks a.zkm ["office","pairs","sums"] tQ:=by
 refine bJ (N:=["office","pairs","sums","pair"]) (k:=3) (g:=rh) T.zkj Bw rfl λcdv A outer s H E sa ns hr=>?_;exact (aA (dW (one:=true) (is:=[3]) (fq (ah 1)) (c8 Bw.nd) (aA (iq (ah 2) (aF (av hr) (ah 3) ge_int) (aI (λ_=>cD) cH (kX (av hr) (ah 2) (aF (av hr) (ah 3) ge_int) ge_int) (aF (av hr) (ah 3) ge_int)) (hg:=λE t t' h1 h2=>ib h1 h2 (hZ (av hr))))
  (aH (cF (GW.gt (fh (bZ (λ_=>(iI hr.units)) iF (du (c:=4) (mth:="got") (ah 0) T.zak T.zeZ (BL T) (hr.mono (by decide)) T.zfC (aq (aF (av hr) (ah 3) ge_int) aG)) (aF (av hr) (ah 3) ge_int) (cu _)) (gg .Or (bZ (λ_=>(iI hr.units)) iF (du (c:=4) (mth:="account") (ah 0) T.zak T.zen (Cw T) (hr.mono (by decide)) T.ze7 (aq (aF (av hr) (ah 3) ge_int) aG)) (aF (av hr) (ah 2) (aF (av hr) (ah 3) ge_int)) (cu _))))) (aH (bH gO)) cO))))
  (aH (bH gO)))
theorem lD:bC ["script","start","count","size","ponds","k","cell","other","name"] ["script","start","count","size"] (bu qZ):=⟨rfl,rfl,rfl,by decide +kernel,rfl,by decide +kernel,by decide +kernel⟩
theorem CI(T:Txt K mg a):FnG P w K mg base a.cl 2 a.zhg a.zg5 ["script","start","count","size"] tD:=by
 refine bJ (N:=["script","start","count","size","ponds","k","cell","other","name"]) (k:=1) (g:=xG) T.zgX lD rfl λcdv A outer s H E sa ns hr=>?_;exact (aA (bi (n:=4) (fN aG) lD.nd)
  (aA (dW (one:=true) (is:=[5]) (ka (ah 2) T.zdJ) (c8 lD.nd) (aA (bi (n:=6) (bV (gL T) (hr.mono (by decide)) T.zay T.zau.kp T.zax (aq (ah 0) (aq (aI (λ_=>cD) cH (ah 1) (aI (λ_=>iH) iP ge_int (ah 5))) aG))) lD.nd)
  (aA (bi (n:=7) (bV (gL T) (hr.mono (by decide)) T.zay T.zau.kp T.zax (aq (ah 0) (aq (aI (λ_=>cD) cH (aI (λ_=>cD) cH (ah 1) (aI (λ_=>iH) iP ge_int (ah 5))) ge_int) aG))) lD.nd)
  (aA (bi (n:=8) (aI (λ_=>Hu) D4 (aF (av hr) gW (ah 5)) (aI (λ_=>cD) cH ge_int (aI (λ_=>cR) cQ (aI (λ_=>eX) eQ (ah 6) (ah 3)) ge_int))) lD.nd)
  (aH (cV (ir (ah 4) (fY (aq (ah 8) (aq (aI (λ_=>cR) cQ (ah 6) (ah 3)) (aq (aF (av hr) (fN (aq (aI (λ_=>cR) cQ (aI (λ_=>eX) eQ (ah 7) ge_int) ge_int) (aq (aI (λ_=>cR) cQ (aI (λ_=>eX) eQ (ah 7) ge_int) ge_int) aG))) (tE (λ_=>Ie) Dw (Ia (λ_=>(hV hr.units)) gX (aI (λ_=>cR) cQ (ah 7) ge_int) ge_int (cu _)) T.zs5 PyProof.Rows.Boot.«int»)) (aq (aI (λ_=>cR) cQ (aI (λ_=>eX) eQ (ah 7) ge_int) ge_int) aG))))))))))))
  (aH (bH (ah 4)))))
theorem uW:bC ["rights","ponds","stored","rows","pond"] ["rights","ponds","stored"] (bu pc):=⟨rfl,rfl,rfl,by decide +kernel,rfl,by decide +kernel,by decide +kernel⟩
theorem Du(T:Txt K mg a):FnG P w K mg base a.cl 1 a.zhh a.zg6 ["rights","ponds","stored"] pQ:=by
 refine bJ (N:=["rights","ponds","stored","rows","pond"]) (k:=0) (g:=sw) T.zgY uW rfl λcdv A outer s H E sa ns hr=>?_;exact (aA (si (n:=3) (x:=["right"]) (one:=true) (eW.of rfl trivial rfl rfl) (fq (ah 0)) (λC s H fp pins=>(fY (aq (aF (av hr) (ah 5) ge_int) (aq (aF (av hr) (ah 5) ge_int) (aq ge_int (aq (aF (av hr) (ah 5) ge_int) (aq (aF (av hr) (ah 5) ge_int) aG))))))) trivial (λnd C s H fp pins=>c8 nd) uW.nd)
  (aA (dW (one:=true) (is:=[4]) (fq (ah 1)) (c8 uW.nd) (aH (cV (ir (ah 3) (fY (aq (aF (av hr) (ah 4) ge_int) (aq (aF (av hr) (ah 4) ge_int) (aq ge_int (aq (aF (av hr) (ah 4) ge_int) (aq (aI (λ_=>jW) j5 (aF (av hr) (ah 4) ge_int) (aF (av hr) (ah 2) (aF (av hr) (ah 4) ge_int))) aG))))))))))
  (aH (bH (dv (λ_=>yh hr.units) Am (ah 3) T.zjA boot_sorted)))))
theorem sY:bC ["cell","count","letters","stem","place"] ["cell","count"] (bu qc):=⟨rfl,rfl,rfl,by decide +kernel,rfl,by decide +kernel,by decide +kernel⟩
theorem ID(T:Txt K mg a):FnG P w K mg base a.cl 1 a.zhe a.zg3 ["cell","count"] qJ:=by
 refine bJ (N:=["cell","count","letters","stem","place"]) (k:=0) (g:=wT) T.zgW sY rfl λcdv A outer s H E sa ns hr=>?_;exact (aA (bi (n:=2) gW sY.nd)
  (aA (bi (n:=3) (HY gW (j6 (x:=["k"]) (one:=true) (eW.of rfl ⟨rfl,⟨rfl,trivial⟩⟩ rfl rfl) (ka (aI (λ_=>cR) cQ (ah 0) ge_int) T.zdJ) (λC s H fp pins=>(aF (av hr) (ah 2) (aI (λ_=>cR) cQ (aI (λ_=>cD) cH (aI (λ_=>cD) cH (aI (λ_=>eX) eQ (ah 0) ge_int) (aI (λ_=>iH) iP (aI (λ_=>iH) iP ge_int (ah 5)) (ah 5))) (ah 5)) ge_int))) trivial (λnd C s H fp pins=>c8 nd))) sY.nd)
  (aA (bi (n:=4) (aI (λ_=>cR) cQ (aI (λ_=>eX) eQ (ah 0) ge_int) (aI (λ_=>cD) cH (dv (λ_=>eJ) eF (ah 3) T.zdL PySem.boot_len) ge_int)) sY.nd)
  (aH (bH (j6 (x:=["k"]) (one:=true) (eW.of rfl ⟨rfl,⟨rfl,⟨rfl,⟨rfl,trivial⟩⟩⟩⟩ rfl rfl) (ka (ah 1) T.zdJ) (λC s H fp pins=>(aI (λ_=>cD) cH (aI (λ_=>cD) cH (jV (ah 3) trivial (ah 4)) (aF (av hr) (ah 2) (aI (λ_=>cR) cQ (aI (λ_=>cD) cH (aI (λ_=>eX) eQ (ah 0) ge_int) (aI (λ_=>iH) iP ge_int (ah 5))) ge_int))) (jV (ah 3) (ah 4) trivial))) trivial (λnd C s H fp pins=>c8 nd)))))))
theorem iK:bC ["script","start","count","size","names","rights","k","amount","date"] ["script","start","count","size"] (bu qN):=⟨rfl,rfl,rfl,by decide +kernel,rfl,by decide +kernel,by decide +kernel⟩
theorem Hf(T:Txt K mg a):FnG P w K mg base a.cl 2 a.zf6 a.zfV ["script","start","count","size"] oU:=by
 refine bJ (N:=["script","start","count","size","names","rights","k","amount","date"]) (k:=1) (g:=AZ) T.zfK iK rfl λcdv A outer s H E sa ns hr=>?_;exact (aA (bi (n:=4) (bV (ID T) (hr.mono (by decide)) T.zky T.zgW.kp T.zke (aq (bV (gL T) (hr.mono (by decide)) T.zay T.zau.kp T.zax (aq (ah 0) (aq ge_int aG))) (aq (ah 2) aG))) iK.nd)
  (aA (bi (n:=5) (fN aG) iK.nd)
  (aA (dW (one:=true) (is:=[6]) (ka (ah 2) T.zdJ) (c8 iK.nd) (aA (bi (n:=7) (bV (gL T) (hr.mono (by decide)) T.zay T.zau.kp T.zax (aq (ah 0) (aq (aI (λ_=>cD) cH (aI (λ_=>cD) cH (ah 1) (aI (λ_=>iH) iP ge_int (ah 6))) ge_int) aG))) iK.nd)
  (aA (bi (n:=8) (bV (gL T) (hr.mono (by decide)) T.zay T.zau.kp T.zax (aq (ah 0) (aq (aI (λ_=>cD) cH (aI (λ_=>cD) cH (ah 1) (aI (λ_=>iH) iP ge_int (ah 6))) ge_int) aG))) iK.nd)
  (aA (cF (bZ (λ_=>(hV hr.units)) gX (aI (λ_=>cR) cQ (ah 7) ge_int) ge_int (cu _)) (aH (bi (n:=7) (aI (λ_=>cR) cQ (aI (λ_=>eX) eQ (ah 7) ge_int) ge_int) iK.nd)) (aH (bi (n:=7) (aI (λ_=>cR) cQ (aI (λ_=>eX) eQ (ah 7) ge_int) ge_int) iK.nd)))
  (aA (cF (bZ (λ_=>(hV hr.units)) gX (aI (λ_=>cR) cQ (ah 8) ge_int) ge_int (cu _)) (aH (bi (n:=8) (aI (λ_=>cR) cQ (aI (λ_=>eX) eQ (ah 8) ge_int) ge_int) iK.nd)) (aH (bi (n:=8) (aI (λ_=>cR) cQ (aI (λ_=>eX) eQ (ah 8) ge_int) ge_int) iK.nd)))
  (aH (cV (ir (ah 5) (fY (aq (aF (av hr) (ah 4) (ah 6)) (aq (aI (λ_=>cR) cQ (bV (gL T) (hr.mono (by decide)) T.zay T.zau.kp T.zax (aq (ah 0) (aq (aI (λ_=>cD) cH (ah 1) (aI (λ_=>iH) iP ge_int (ah 6))) aG))) (ah 3)) (aq (ah 7) (aq (ah 8) aG)))))))))))))
  (aH (bH (ah 5))))))
theorem E5:bC ["self","name"] ["self","name"] (bu tN):=⟨rfl,rfl,rfl,by decide +kernel,rfl,by decide +kernel,by decide +kernel⟩
theorem Aj(T:Txt K mg a):FnG P w K mg base a.cl 1 a.zbS a.zbR ["self","name"] kQ:=by
 refine bJ (N:=["self","name"]) (k:=0) (g:=vw) T.zc8 E5 rfl λcdv A outer s H E sa ns hr=>?_;exact (aA (cF (bZ (λ_=>(sj (av hr))) k7 (ah 1) (bP (f:="ponds") (ah 0) (bc.one T.zak T.zaO)) rfl) (aH (gQ (c:=110) gP T.zm4 T.zoH hr.hd (aq (qS (.cons .lit (.cons (.rp (ah 1)) Paired.nil))) aG))) cO)
  (aH (bH (aF (av hr) (bP (f:="ponds") (ah 0) (bc.one T.zak T.zaO)) (ah 1)))))
theorem tI:bC ["self","pond","name","amount","source","right","lacks"] ["self","pond","name","amount"] (bu qf):=⟨rfl,rfl,rfl,by decide +kernel,rfl,by decide +kernel,by decide +kernel⟩
theorem He(T:Txt K mg a):FnG P w K mg base a.cl 4 a.zeU a.zeO ["self","pond","name","amount"] qM:=by
 refine bJ (N:=["self","pond","name","amount","source","right","lacks"]) (k:=3) (g:=pA) T.zhQ tI rfl λcdv A outer s H E sa ns hr=>?_;exact (aA (bi (n:=4) (du (c:=4) (mth:="pond_called") (ah 0) T.zak T.zbF (Aj T) (hr.mono (by decide)) T.zbQ (aq (ah 1) aG)) tI.nd)
  (aA (bi (n:=5) (du (c:=3) (mth:="right") (bP (f:="book") (ah 0) (bc.one T.zak T.zaL)) T.za5 T.zcl (rQ T) (hr.mono (by decide)) T.zcM (aq (ah 2) aG)) tI.nd)
  (aA (cF (bZ (λ_=>(sj (av hr))) k7 (aF (av hr) (ah 5) ge_int) (du (c:=1) (mth:="way") (iR (c:=3) (mth:="river") (bP (f:="book") (ah 0) (bc.one T.zak T.zaL)) T.za5 T.zdf (vO T) (hr.mono (by decide)) T.zd0) T.zbh T.zf9 (xF T) (hr.mono (by decide)) T.zgS (aq (bP (f:="point") (ah 4) (bc.two T.zbv T.zcn T.zck T.zb0)) aG)) rfl) (aH (gQ (c:=111) gP T.zkp T.zli hr.hd (aq gW aG))) cO)
  (aA (bi (n:=6) (r8 (λ_=>A0 hr.hd) A5 ge_int (aI (λ_=>jW) j5 (aF (av hr) (ah 5) ge_int) (du (c:=4) (mth:="got") (ah 0) T.zak T.zeZ (BL T) (hr.mono (by decide)) T.zfC (aq (ah 2) aG))) T.zs6 boot_max) tI.nd)
  (aA (cF (bZ (λ_=>nF) oA (ah 3) (bP (f:="held_water") (ah 4) (bc.one T.zbv T.zaD)) (cu _)) (aH (gQ (c:=107) gP T.ziC T.zkv hr.hd (aq gW aG))) cO)
  (aA (cF (bZ (λ_=>nF) oA (ah 3) (ah 6) (cu _)) (aH (gQ (c:=107) gP T.ziC T.zkv hr.hd (aq gW aG))) cO)
  (aA (ut (fl:="held_water") (λ_=>Dk) (λ_ _ _ _ q=>q) (λ_ _ _=>rfl) (λ_ _ _ h=>An h) (ah 4) (ah 3) (bc.one T.zbv T.zaD))
  (aA (cV (du (c:=4) (mth:="give") (ah 0) T.zak T.zed (zP T) (hr.mono (by decide)) T.zeH (aq (ah 2) (aq (ah 3) aG))))
  (aH (bH (bP (f:="held_water") (ah 4) (bc.one T.zbv T.zaD))))))))))))
theorem j3:bC ["office","below","ponds","rights","told","cell","stored","got","sums","pond","right","amount"] ["office","below","ponds","rights","told","cell"] (bu sH):=⟨rfl,rfl,rfl,by decide +kernel,rfl,by decide +kernel,by decide +kernel⟩
theorem Cz(T:Txt K mg a):FnG P w K mg base a.cl 5 a.ziE a.ziu ["office","below","ponds","rights","told","cell"] pq:=by
 refine bJ (N:=["office","below","ponds","rights","told","cell","stored","got","sums","pond","right","amount"]) (k:=4) (g:=qC) T.zio j3 rfl λcdv A outer s H E sa ns hr=>?_;exact (aA (Dc (is:=[6,7,8]) (ah 4) (fF (n:=6) (fF (n:=7) (fF (n:=8) jN j3.nd) j3.nd) j3.nd))
  (aA (cF (GW.gt (fh (bZ (λ_=>(hV hr.units)) gX (dv (λ_=>eJ) eF (ah 2) T.zdL PySem.boot_len) ge_int (cu _)) (gg .Or (bZ (λ_=>(hV hr.units)) gX (dv (λ_=>eJ) eF (ah 3) T.zdL PySem.boot_len) ge_int (cu _))))) (aH Ap) cO)
  (aA (bi (n:=9) (aF (av hr) (ah 2) (aI (λ_=>cR) cQ (ah 5) (dv (λ_=>eJ) eF (ah 2) T.zdL PySem.boot_len))) j3.nd)
  (aA (bi (n:=10) (aF (av hr) (ah 3) (aI (λ_=>cR) cQ (aI (λ_=>eX) eQ (ah 5) ge_int) (dv (λ_=>eJ) eF (ah 3) T.zdL PySem.boot_len))) j3.nd)
  (aA (cF (bZ (λ_=>(sj (av hr))) k7 (aF (av hr) (ah 10) ge_int) (bV (wF T) (hr.mono (by decide)) T.zh0 T.zfM.kp T.zhO (aq (ah 1) (aq (aF (av hr) (ah 9) ge_int) aG))) rfl) (aH Ap) cO)
  (aA (bi (n:=11) (r8 (λ_=>Bu hr.hd) By (aF (av hr) (ah 6) (aF (av hr) (ah 9) ge_int)) (r8 (λ_=>A0 hr.hd) A5 ge_int (aI (λ_=>jW) j5 (aF (av hr) (ah 10) ge_int) (kX (av hr) (ah 7) (aF (av hr) (ah 10) ge_int) ge_int)) T.zs6 boot_max) T.zqI boot_min) j3.nd)
  (aA (cF (bZ (λ_=>(hV hr.units)) gX (aI (λ_=>cR) cQ (aI (λ_=>eX) eQ (ah 5) ge_int) ge_int) ge_int (cu _)) (aH (bi (n:=11) (aI (λ_=>cR) cQ (aI (λ_=>eX) eQ (ah 5) ge_int) (aI (λ_=>cD) cH (ah 11) ge_int)) j3.nd)) cO)
  (aA (cV (du (c:=4) (mth:="send") (ah 0) T.zak T.zgG (He T) (hr.mono (by decide)) T.zhL (aq (aF (av hr) (ah 9) ge_int) (aq (aF (av hr) (ah 10) ge_int) (aq (ah 11) aG)))))
  (aA (iq (ah 6) (aF (av hr) (ah 9) ge_int) (aI (λ_=>jW) j5 (aF (av hr) (ah 6) (aF (av hr) (ah 9) ge_int)) (ah 11)) (hg:=λE t t' h1 h2=>ib h1 h2 (hZ (av hr))))
  (aH (iq (ah 8) (aF (av hr) (ah 10) ge_int) (aI (λ_=>cD) cH (kX (av hr) (ah 8) (aF (av hr) (ah 10) ge_int) ge_int) (ah 11)) (hg:=λE t t' h1 h2=>ib h1 h2 (hZ (av hr))))))))))))))
theorem E4:bC ["self","pond"] ["self","pond"] (bu p9):=⟨rfl,rfl,rfl,by decide +kernel,rfl,by decide +kernel,by decide +kernel⟩
theorem yr(T:Txt K mg a):FnG P w K mg base a.cl 2 a.zdD a.zdy ["self","pond"] oM:=by
 refine bJ (N:=["self","pond"]) (k:=1) (g:=wa) T.zfH E4 rfl λcdv A outer s H E sa ns hr=>?_;exact(aH (bH (bP (f:="held_water") (du (c:=4) (mth:="pond_called") (ah 0) T.zak T.zbF (Aj T) (hr.mono (by decide)) T.zbQ (aq (ah 1) aG)) (bc.one T.zbv T.zaD))))
theorem yM:bC ["office","pairs","stored","pair"] ["office","pairs","stored"] (bu tO):=⟨rfl,rfl,rfl,by decide +kernel,rfl,by decide +kernel,by decide +kernel⟩
theorem CB(T:Txt K mg a):FnG P w K mg base a.cl 3 a.zf7 a.zfW ["office","pairs","stored"] qh:=by
 refine bJ (N:=["office","pairs","stored","pair"]) (k:=2) (g:=sK) T.zfL yM rfl λcdv A outer s H E sa ns hr=>?_;exact (aA (dW (one:=true) (is:=[3]) (fq (ah 1)) (c8 yM.nd) (aA (iq (ah 2) (aF (av hr) (ah 3) ge_int) (aI (λ_=>cD) cH (aF (av hr) (ah 2) (aF (av hr) (ah 3) ge_int)) (aF (av hr) (ah 3) ge_int)) (hg:=λE t t' h1 h2=>ib h1 h2 (hZ (av hr))))
  (aH (cF (GW.gt (fh (i8 (iZ (bV (u9 T) (hr.mono (by decide)) T.zeY T.zdw.kp T.zeI (aq (du (c:=4) (mth:="stored") (ah 0) T.zak T.zc3 (yr T) (hr.mono (by decide)) T.zds (aq (aF (av hr) (ah 3) ge_int) aG)) aG)))) (gg .Or (bZ (λ_=>(iI hr.units)) iF (du (c:=4) (mth:="stored") (ah 0) T.zak T.zc3 (yr T) (hr.mono (by decide)) T.zds (aq (aF (av hr) (ah 3) ge_int) aG)) (aF (av hr) (ah 2) (aF (av hr) (ah 3) ge_int)) (cu _))))) (aH (bH gO)) cO))))
  (aH (bH gO)))
theorem IR:bC ["ponds","rights"] ["ponds","rights"] (bu rL):=⟨rfl,rfl,rfl,by decide +kernel,rfl,by decide +kernel,by decide +kernel⟩
theorem Cq(T:Txt K mg a):FnG P w K mg base a.cl 1 a.ziF a.ziv ["ponds","rights"] sr:=by
 refine bJ (N:=["ponds","rights"]) (k:=0) (g:=sC) T.ziq IR rfl λcdv A outer s H E sa ns hr=>?_;exact (aA (cF (GW.gt (fh (bZ (λ_=>(hV hr.units)) gX (dv (λ_=>eJ) eF (ah 0) T.zdL PySem.boot_len) ge_int (cu _)) (fh (bZ (λ_=>(hV hr.units)) gX (dv (λ_=>eJ) eF (ah 1) T.zdL PySem.boot_len) ge_int (cu _)) (gg .Or (bZ (λ_=>(tZ (av hr))) k7 (aF (av hr) (aF (av hr) (ah 1) ge_int) ge_int) (j6 (x:=["pond"]) (one:=true) (eW.of rfl trivial rfl rfl) (fq (jV (ah 0) ge_int trivial)) (λC s H fp pins=>(aF (av hr) (ah 2) ge_int)) trivial (λnd C s H fp pins=>c8 nd)) rfl))))) (aH (bH (ah 0))) cO)
  (aH (bH (aI (λ_=>cD) cH (fN (aq (fY (aq (aF (av hr) (aF (av hr) (ah 1) ge_int) ge_int) (aq (aF (av hr) (aF (av hr) (ah 0) ge_int) ge_int) (aq (aF (av hr) (aF (av hr) (ah 0) ge_int) ge_int) (aq (aF (av hr) (aF (av hr) (ah 1) ge_int) ge_int) aG))))) aG)) (jV (ah 0) ge_int trivial)))))
theorem l9:bC ["script","start","size","year","k","cell","inflow"] ["script","start","size"] (bu qA):=⟨rfl,rfl,rfl,by decide +kernel,rfl,by decide +kernel,by decide +kernel⟩
theorem Ja(T:Txt K mg a):FnG P w K mg base a.cl 2 a.ziG a.ziw ["script","start","size"] sG:=by
 refine bJ (N:=["script","start","size","year","k","cell","inflow"]) (k:=1) (g:=BS) T.zir l9 rfl λcdv A outer s H E sa ns hr=>?_;exact (aA (bi (n:=3) (fN aG) l9.nd)
  (aA (dW (one:=true) (is:=[4]) (ka (ah 2) T.zdJ) (c8 l9.nd) (aA (bi (n:=5) (bV (gL T) (hr.mono (by decide)) T.zay T.zau.kp T.zax (aq (ah 0) (aq (aI (λ_=>cD) cH (ah 1) (ah 4)) aG))) l9.nd)
  (aA (bi (n:=6) (aI (λ_=>cR) cQ (aI (λ_=>eX) eQ (ah 5) ge_int) ge_int) l9.nd)
  (aA (cF (bZ (λ_=>(hV hr.units)) gX (aI (λ_=>cR) cQ (ah 5) ge_int) ge_int (cu _)) (aH (bi (n:=6) (aI (λ_=>cR) cQ (aI (λ_=>eX) eQ (ah 5) ge_int) ge_int) l9.nd)) cO)
  (aH (cV (ir (ah 3) (ah 6))))))))
  (aH (bH (ah 3)))))
theorem d8:bC ["script","size","below","rights","ponds","cell","office","stored","pond","out","sums","got","dug","k","year","due","found"] ["script"] (bu qr):=⟨rfl,rfl,rfl,by decide +kernel,rfl,by decide +kernel,by decide +kernel⟩
theorem EG(T:Txt K mg a):FnG P w K mg base a.cl 7 a.zs4 a.zs3 ["script"] ou:=by
 refine bJ (N:=["script","size","below","rights","ponds","cell","office","stored","pond","out","sums","got","dug","k","year","due","found"]) (k:=6) (g:=rm) T.zus d8 rfl λcdv A outer s H E sa ns hr=>?_;exact (aA (bi (n:=1) (aI (λ_=>cD) cH ge_int (aI (λ_=>cR) cQ (bV (gL T) (hr.mono (by decide)) T.zay T.zau.kp T.zax (aq (ah 0) (aq ge_int aG))) ge_int)) d8.nd)
  (aA (bi (n:=2) (bV (B9 T) (hr.mono (by decide)) T.zkw T.zgV.kp T.zkc (aq (ah 0) (aq ge_int (aq (ah 1) aG)))) d8.nd)
  (aA (bi (n:=3) (bV (Hf T) (hr.mono (by decide)) T.zjd T.zfK.kp T.zi1 (aq (ah 0) (aq ge_int (aq (aI (λ_=>cR) cQ (aI (λ_=>eX) eQ (bV (gL T) (hr.mono (by decide)) T.zay T.zau.kp T.zax (aq (ah 0) (aq ge_int aG))) ge_int) ge_int) (aq (ah 1) aG))))) d8.nd)
  (aA (bi (n:=4) (bV (CI T) (hr.mono (by decide)) T.zkz T.zgX.kp T.zkf (aq (ah 0) (aq ge_int (aq (aI (λ_=>cR) cQ (aI (λ_=>eX) eQ (bV (gL T) (hr.mono (by decide)) T.zay T.zau.kp T.zax (aq (ah 0) (aq ge_int aG))) ge_int) ge_int) (aq (ah 1) aG))))) d8.nd)
  (aA (bi (n:=5) (bV (gL T) (hr.mono (by decide)) T.zay T.zau.kp T.zax (aq (ah 0) (aq ge_int aG))) d8.nd)
  (aA (cF (bZ (λ_=>(hV hr.units)) gX (aI (λ_=>cR) cQ (aI (λ_=>eX) eQ (ah 5) ge_int) ge_int) ge_int (cu _)) (aH (bi (n:=4) (bV (Cq T) (hr.mono (by decide)) T.zll T.ziq.kp T.zle (aq (ah 4) (aq (ah 3) aG))) d8.nd)) cO)
  (aA (bi (n:=6) (mW (c:=4) T.zm9 (G7 T) (hr.mono (by decide)) T.zoI T.zej (aq (bV (HM T) (hr.mono (by decide)) T.zlj T.zin.kp T.zlc (aq (ah 2) (aq (ah 3) aG))) aG)) d8.nd)
  (aA (cV (bV (zm T) (hr.mono (by decide)) T.zkx T.zhS.kp T.zkd (aq (ah 6) (aq (jV (ah 4) trivial (vJ ge_int)) aG))))
  (aA (bi (n:=7) jY d8.nd)
  (aA (dW (one:=true) (is:=[8]) (fq (ah 4)) (c8 d8.nd) (aH (iq (ah 7) (aF (av hr) (ah 8) ge_int) ge_int (hg:=λE t t' h1 h2=>ib h1 h2 (hZ (av hr))))))
  (aA (bi (n:=9) ge_int d8.nd)
  (aA (bi (n:=10) jY d8.nd)
  (aA (bi (n:=11) jY d8.nd)
  (aA (bi (n:=12) (jV (ah 4) trivial (vJ ge_int)) d8.nd)
  (aA (dW (one:=true) (is:=[13]) (ka (aI (λ_=>cD) cH ge_int (aI (λ_=>cR) cQ (ah 5) ge_int)) T.zdJ) (c8 d8.nd) (aA (cF (bZ (λ_=>nF) oA (ah 13) ge_int (cu _)) (aH (cV (bV (Cz T) (hr.mono (by decide)) T.zlk T.zio.kp T.zld (aq (ah 6) (aq (ah 2) (aq (ah 12) (aq (ah 3) (aq (fN (aq (ah 7) (aq (ah 11) (aq (ah 10) aG)))) (aq (bV (gL T) (hr.mono (by decide)) T.zay T.zau.kp T.zax (aq (ah 0) (aq (aI (λ_=>cD) cH ge_int (ah 13)) aG))) aG))))))))) cO)
  (aA (cF (bZ (λ_=>(hV hr.units)) gX (ah 13) ge_int (cu _)) (aA (cV (bV (zm T) (hr.mono (by decide)) T.zkx T.zhS.kp T.zkd (aq (ah 6) (aq (jV (ah 4) (vJ ge_int) trivial) aG))))
  (aH (bi (n:=12) (ah 4) d8.nd))) cO)
  (aA (bi (n:=14) (bV (Ja T) (hr.mono (by decide)) T.zlm T.zir.kp T.zlf (aq (ah 0) (aq (aI (λ_=>cD) cH ge_int (aI (λ_=>iH) iP ge_int (ah 13))) (aq (ah 1) aG)))) d8.nd)
  (aA (bi (n:=15) (bV (Ca T) (hr.mono (by decide)) T.zm7 T.zki.kp T.zm2 (aq (ah 2) (aq (ah 14) (aq (bV (Du T) (hr.mono (by decide)) T.zkA T.zgY.kp T.zkg (aq (ah 3) (aq (ah 12) (aq (ah 7) aG)))) aG)))) d8.nd)
  (aA (bi (n:=16) (du (c:=4) (mth:="day") (ah 6) T.zak T.zh3 (Dr T) (hr.mono (by decide)) T.ziY (aq (ah 14) aG)) d8.nd)
  (aA (cF (GW.gt (fh (i8 (iZ (bV (Df T) (hr.mono (by decide)) T.zf8 T.zdv.kp T.zfF (aq (ah 16) (aq (ah 15) aG))))) (gg .Or (i8 (iZ (bV (CB T) (hr.mono (by decide)) T.zje T.zfL.kp T.zi2 (aq (ah 6) (aq (aF (av hr) (aF (av hr) (ah 15) ge_int) ge_int) (aq (ah 7) aG))))))))) (aH (bH gO)) cO)
  (aA (bi (n:=9) (aI (λ_=>cD) cH (ah 9) (aF (av hr) (ah 15) ge_int)) d8.nd)
  (aA (cV (BZ (aF (av hr) (ah 16) ge_int)))
  (aA (cV (BZ (aF (av hr) (ah 16) ge_int)))
  (aA (bi (n:=11) (tE (λ_=>FG rfl) D7 (aF (av hr) (aF (av hr) (ah 15) ge_int) ge_int) T.zr6 boot_dict) d8.nd)
  (aA (cF (i8 (iZ (bV (Hx T) (hr.mono (by decide)) T.zm8 T.zkj.kp T.zm3 (aq (ah 6) (aq (aF (av hr) (aF (av hr) (ah 15) ge_int) ge_int) (aq (ah 10) aG)))))) (aH (bH gO)) cO)
  (aH (cF (GW.gt (fh (i8 (iZ (bV (u9 T) (hr.mono (by decide)) T.zeY T.zdw.kp T.zeI (aq (iR (c:=4) (mth:="out") (ah 6) T.zak T.ze0 (BN T) (hr.mono (by decide)) T.zfD) aG)))) (gg .Or (bZ (λ_=>(iI hr.units)) iF (iR (c:=4) (mth:="out") (ah 6) T.zak T.ze0 (BN T) (hr.mono (by decide)) T.zfD) (ah 9) (cu _))))) (aH (bH gO)) cO))))))))))))))
  (aH (bH gO)))))))))))))))))
end
end L2.Rv
namespace L2.Rv
open PySem PySem.Spec PyProof.Rows
open PySem.W
def ui(K:Frag)(tb:af):Sp:=λvs H Q _=>∃(sa:af) (ns:List Int),vs=[.ref sa]/\qd tb H/\H tb=some (.tbl #[])/\SqL K H sa (ns.map V.int)/\ns.length≤63/\∀H',Q (.bl true) H'
noncomputable def AQ:Adr:=⟨182,227,316,342,426,31,44,56,68,80,92,104,116,128,374,fO "names" "Book.names" tK "riverdue.rights" 617 373,245,fO "__init__" "Office.__init__" tV "riverdue.office" 449 244,367,fO "river" "Book.river" tP "riverdue.rights" 617 366,306,fO "give" "Office.give" sx "riverdue.office" 449 305,416,fO "held_right" "Book.held_right" sP "riverdue.rights" 617 415,381,fO "right" "Book.right" rT "riverdue.rights" 617 380,313,fO "wants_by_age" "Office.wants_by_age" oZ "riverdue.office" 449 312,151,fO "points" "River.points" o6 "riverdue.river" 342 150,158,fO "check_point" "River.check_point" pT "riverdue.river" 342 157,172,fO "way" "River.way" rF "riverdue.river" 342 171,165,fO "below" "River.below" rN "riverdue.river" 342 164,200,fO "check_year" "check_year" qR "riverdue.river" 342 199,205,fO "flows" "flows" sZ "riverdue.river" 342 204,210,fO "serve" "serve" q9 "riverdue.dealing" 441 209,325,fO "takes_of_rank" "takes_of_rank" tU "riverdue.office" 449 324,257,fO "day" "Office.day" qE "riverdue.office" 449 256,292,fO "out" "Office.out" qD "riverdue.office" 449 291,437,fO "_law_cell_at" "_law_cell_at" qq "law_riverdue_k20_a_day" 760 436,449,fO "_law_below" "_law_below" rB "law_riverdue_k20_a_day" 760 448,360,fO "__init__" "Book.__init__" rA "riverdue.rights" 617 359,423,fO "check_free" "Book.check_free" sX "riverdue.rights" 617 422,339,fO "__init__" "Right.__init__" pW "riverdue.rights" 617 338,388,fO "grant" "Book.grant" rJ "riverdue.rights" 617 387,193,fO "check_below" "check_below" rE "riverdue.river" 342 192,144,fO "__init__" "River.__init__" pV "riverdue.river" 342 143,482,fO "_law_book" "_law_book" qz "law_riverdue_k20_a_day" 760 481,456,fO "_law_way" "_law_way" sV "law_riverdue_k20_a_day" 760 455,487,fO "_law_flows" "_law_flows" sS "law_riverdue_k20_a_day" 760 486,518,fO "_law_day" "_law_day" qw "law_riverdue_k20_a_day" 760 517,444,fO "_law_whole" "_law_whole" qa "law_riverdue_k20_a_day" 760 443,494,fO "_law_pairs" "_law_pairs" tw "law_riverdue_k20_a_day" 760 493,537,fO "_law_day_right" "_law_day_right" rg "law_riverdue_k20_a_day" 760 536,224,fO "__init__" "Pond.__init__" qL "riverdue.office" 449 223,252,fO "dig" "Office.dig" rM "riverdue.office" 449 251,508,fO "_law_dug" "_law_dug" rj "law_riverdue_k20_a_day" 760 507,285,fO "account" "Office.account" sB "riverdue.office" 449 284,278,fO "got" "Office.got" sW "riverdue.office" 449 277,530,fO "_law_got" "_law_got" qP "law_riverdue_k20_a_day" 760 529,501,fO "_law_ponds" "_law_ponds" qZ "law_riverdue_k20_a_day" 760 500,513,fO "_law_queue" "_law_queue" pc "law_riverdue_k20_a_day" 760 512,468,fO "_law_names" "_law_names" qc "law_riverdue_k20_a_day" 760 467,475,fO "_law_rights" "_law_rights" qN "law_riverdue_k20_a_day" 760 474,299,fO "pond_called" "Office.pond_called" tN "riverdue.office" 449 298,264,fO "send" "Office.send" qf "riverdue.office" 449 263,551,fO "_law_sent" "_law_sent" sH "law_riverdue_k20_a_day" 760 550,271,fO "stored" "Office.stored" p9 "riverdue.office" 449 270,544,fO "_law_stores" "_law_stores" tO "law_riverdue_k20_a_day" 760 543,523,fO "_law_twin" "_law_twin" rL "law_riverdue_k20_a_day" 760 522,463,fO "_law_year" "_law_year" qA "law_riverdue_k20_a_day" 760 462,558,fO "law" "law" qr "law_riverdue_k20_a_day" 760 557,369⟩
theorem all_mk{l:OpenLaw}{w:aX}{h:aP}{mg:Str->Option ai}{fa:af}(X:(KM w).In h)(G:h.Ns dP mg)(hfa:mg "law"=some (.ref fa))
  (hold:∀ns:List Int,ns.length≤63->∃h',ou [.scr ns] []=.ok (.bl true) h') :
  (∃c o vs,(KM w).lookup c=some o/\o.cls=.type "code"/\o.data=.fields vs/\vs[11]?=some (.ref 369))/\∃fd:bf,(∀(s:ak) (v:ai),BindsTo s fd ⟨[v],[]⟩ [("script",v)])/\∀base:aP,(KM w).In base->base.Ns dP mg->ji l.prog w (KM w) mg base (CXe l.prog w) 7 fa fd ["script"] (ui (KM w) 369):=by
 have x_a_law:nsIn (KM w) dP "law"=some (some (.ref 558)):=by kernel_rfl
 have x_lcd:((.ref 373):ai)=.ref 373:=by rfl
 have x_lco:(KM w).lookup 373=some ⟨.type "code",none,.fields KQc,#[]⟩:=by kernel_rfl
 have x_l11:KQc[11]?=some (.ref 369):=by rfl
 have x_l11d:KQc.getD 11 .none=.ref 369:=by rfl
 have x_l18:KQc.getD 18 .none=.str "/claim/cut.py" 685:=by rfl
 have x_l7:KQc.getD 7 .none=.int 3 0:=by rfl
 have x_l9:KQc.getD 9 .none=.bool true:=by rfl
 have x_l10:KQc.getD 10 .none=.int 181 0:=by rfl
 have x_bms:nsIn (KM w) dP "__builtins__"=some (some (.ref 4)):=by kernel_rfl
 have x_bml:(KM w).lookup 4=some ⟨.type "module",some builtinsNs,.plain,#[]⟩:=by kernel_rfl
 have x_bm1:4≠builtinsNs:=by decide
 have x_bm2:4≠dP:=by decide
 have x_sp_cls:specialIn (KM w) (.builtin "object.__class__") "__get__"=some (some (.builtin "getset_descriptor.__get__")):=by kernel_rfl
 have x_tk_cls:takesIn (KM w) (.builtin "object.__class__")=some true:=by kernel_rfl
 obtain rfl:558=fa:=(Value.ref.inj (Option.some.inj (hfa.symm.trans (mg_of X G x_a_law)))).symm;have zg9:d9 (KM w) 31:=nX x_sp_cls x_tk_cls;have zg8:d9 (KM w) 44:=nX x_sp_cls x_tk_cls;have zix:d9 (KM w) 56:=nX x_sp_cls x_tk_cls;have ziy:d9 (KM w) 68:=nX x_sp_cls x_tk_cls;have zl6:d9 (KM w) 80:=nX x_sp_cls x_tk_cls;have ziz:d9 (KM w) 92:=nX x_sp_cls x_tk_cls;have ziA:d9 (KM w) 104:=nX x_sp_cls x_tk_cls;have zko:d9 (KM w) 116:=nX x_sp_cls x_tk_cls;have zha:d9 (KM w) 128:=nX x_sp_cls x_tk_cls;have T:Txt (KM w) mg AQ:={
  zr5:=nN X G
  zr6:=nN X G
  zs5:=nN X G
  zbG:=nN X G
  zdL:=nN X G
  zoL:=nN X G
  zs6:=nN X G
  zqI:=nN X G
  zdJ:=nN X G
  zjA:=nN X G
  zut:=nN X G
  znW:=nN X G
  zrJ:=nN X G
  zqA:=.plain (λal cs z=>nomatch z) (by kernel_rfl)
  zr1:=.plain (λal cs z=>nomatch z) (by kernel_rfl)
  zqB:=.plain (λal cs z=>nomatch z) (by kernel_rfl)
  zr2:=.plain (λal cs z=>nomatch z) (by kernel_rfl)
  zl8:=.plain (λal cs z=>nomatch z) (by kernel_rfl)
  zhX:=⟨346,nR X G⟩
  zhY:=⟨344,nR X G⟩
  zec:=⟨453,nR X G⟩
  zdH:=⟨451,nR X G⟩
  zqD:=nR X G
  zbh:=nC
  zoK:=nK
  za8:=nA
  zr4:=nR X G
  zbv:=nC
  zqH:=nK
  zcn:=nA
  zga:=nA
  zcP:=nA
  zaD:=nA
  zoI:=nR X G
  zak:=nC
  zm9:=nK
  zaL:=nA
  zaO:=nA
  zaV:=nA
  zbe:=nA
  zbK:=nA
  zqC:=nR X G
  zck:=nC
  zoJ:=nK
  zb0:=nA
  zdK:=nA
  zco:=nA
  zr3:=nR X G
  za5:=nC
  zqG:=nK
  zcG:=nA
  zbd:=nA
  zo5:=nR X G
  zg9:=zg9
  zgp:=nR X G
  zg8:=zg8
  zku:=nR X G
  zix:=zix
  zm5:=nR X G
  ziy:=ziy
  znV:=nR X G
  zl6:=zl6
  zm6:=nR X G
  ziz:=ziz
  zkv:=nR X G
  ziA:=ziA
  zoH:=nR X G
  zko:=zko
  zli:=nR X G
  zha:=zha
  zeS:=by kernel_rfl
  ziB:=by kernel_rfl
  zlg:=by kernel_rfl
  zm4:=by kernel_rfl
  zlh:=by kernel_rfl
  zkp:=by kernel_rfl
  zl7:=by kernel_rfl
  ziC:=by kernel_rfl
  zi4:=fm
  ziX:=.all (len1 λ_=>rfl)
  zh2:=nM
  zem:=fm
  zej:=.all (len2 λ_ _=>rfl)
  zi6:=fm
  zd0:=.all (len1 λ_=>rfl)
  zdf:=nM
  zhP:=fm
  zeH:=.all (len3 λ_ _ _=>rfl)
  zed:=nM
  zel:=fm
  zei:=.all (len2 λ_ _=>rfl)
  zd3:=nM
  zi5:=fm
  zcM:=.all (len2 λ_ _=>rfl)
  zcl:=nM
  zcO:=fm
  zcN:=.all (len1 λ_=>rfl)
  zcq:=nM
  zgF:=fm
  zcF:=.all (len1 λ_=>rfl)
  zcm:=nM
  zdu:=fm
  za4:=.all (len2 λ_ _=>rfl)
  zaY:=nM
  zkh:=fm
  zgS:=.all (len2 λ_ _=>rfl)
  zf9:=nM
  zhR:=fm
  zhM:=.all (len2 λ_ _=>rfl)
  zgH:=nM
  zfJ:=fm
  zi0:=.all (len2 λ_ _=>rfl)
  zjc:=nR X G
  znP:=fm
  zqy:=.all (len3 λ_ _ _=>rfl)
  zqE:=nR X G
  znQ:=fm
  zqz:=.all (len3 λ_ _ _=>rfl)
  zqF:=nR X G
  zcj:=fm
  zdt:=.all (len3 λ_ _ _=>rfl)
  zdI:=nR X G
  zi7:=fm
  ziY:=.all (len2 λ_ _=>rfl)
  zh3:=nM
  zja:=fm
  zfD:=.all (len1 λ_=>rfl)
  ze0:=nM
  zau:=fm
  zax:=.all (len2 λ_ _=>rfl)
  zay:=nR X G
  zgV:=fm
  zkc:=.all (len3 λ_ _ _=>rfl)
  zkw:=nR X G
  zfG:=fm
  zfB:=.all (len2 λ_ _=>rfl)
  zek:=fm
  zeh:=.all (len2 λ_ _=>rfl)
  zd2:=nM
  zfb:=fm
  ze8:=.all (len4 λ_ _ _ _=>rfl)
  zi3:=fm
  ziW:=.all (len5 λ_ _ _ _ _=>rfl)
  zh1:=nM
  zeJ:=fm
  zhN:=.all (len1 λ_=>rfl)
  zhZ:=nR X G
  zfc:=fm
  ze9:=.all (len2 λ_ _=>rfl)
  zin:=fm
  zlc:=.all (len2 λ_ _=>rfl)
  zlj:=nR X G
  zfM:=fm
  zhO:=.all (len2 λ_ _=>rfl)
  zh0:=nR X G
  zeK:=fm
  zgT:=.all (len3 λ_ _ _=>rfl)
  zhj:=nR X G
  zki:=fm
  zm2:=.all (len3 λ_ _ _=>rfl)
  zm7:=nR X G
  zdw:=fm
  zeI:=.all (len1 λ_=>rfl)
  zeY:=nR X G
  zeL:=fm
  zgU:=.all (len2 λ_ _=>rfl)
  zhk:=nR X G
  zdv:=fm
  zfF:=.all (len2 λ_ _=>rfl)
  zf8:=nR X G
  zfI:=fm
  zfE:=.all (len4 λ_ _ _ _=>rfl)
  zi8:=fm
  ziZ:=.all (len5 λ_ _ _ _ _=>rfl)
  zh4:=nM
  zhS:=fm
  zkd:=.all (len2 λ_ _=>rfl)
  zkx:=nR X G
  zfa:=fm
  ze7:=.all (len2 λ_ _=>rfl)
  zen:=nM
  zi9:=fm
  zfC:=.all (len2 λ_ _=>rfl)
  zeZ:=nM
  zkj:=fm
  zm3:=.all (len3 λ_ _ _=>rfl)
  zm8:=nR X G
  zgX:=fm
  zkf:=.all (len4 λ_ _ _ _=>rfl)
  zkz:=nR X G
  zgY:=fm
  zkg:=.all (len3 λ_ _ _=>rfl)
  zkA:=nR X G
  zgW:=fm
  zke:=.all (len2 λ_ _=>rfl)
  zky:=nR X G
  zfK:=fm
  zi1:=.all (len4 λ_ _ _ _=>rfl)
  zjd:=nR X G
  zc8:=fm
  zbQ:=.all (len2 λ_ _=>rfl)
  zbF:=nM
  zhQ:=fm
  zhL:=.all (len4 λ_ _ _ _=>rfl)
  zgG:=nM
  zio:=fm
  zld:=.all (len6 λ_ _ _ _ _ _=>rfl)
  zlk:=nR X G
  zfH:=fm
  zds:=.all (len2 λ_ _=>rfl)
  zc3:=nM
  zfL:=fm
  zi2:=.all (len3 λ_ _ _=>rfl)
  zje:=nR X G
  ziq:=fm
  zle:=.all (len2 λ_ _=>rfl)
  zll:=nR X G
  zir:=fm
  zlf:=.all (len3 λ_ _ _=>rfl)
  zlm:=nR X G
  zus:=fm
  zuV:=.all (len1 λ_=>rfl)
  zuW:=nR X G
  lam:=⟨(show(1:Nat)≠0 by decide),⟨373,x_lcd,_,_,_,_,_,_,_,_,_,x_lco,rfl,rfl,x_l11,x_l11d,x_l18,x_l7,x_l9,x_l10⟩,⟨4,_,mg_of X G x_bms,x_bm1,x_bm2,x_bml,rfl,rfl,rfl⟩⟩
 }
 refine⟨⟨373,_,_,x_lco,rfl,rfl,x_l11⟩,?_⟩;refine⟨_,λs v=>.of_eq rfl,λbase _ _=>(EG T).ok.imp λvs H Q E q=>?_⟩;obtain⟨sa,ns,rfl,hO,hH,hS,hl,hQ⟩:=q;obtain⟨h',hh⟩:=hold ns hl;refine⟨sa,ns,[],[],[.scr ns],rfl,.cons ⟨rfl,rfl⟩ .nil,⟨rfl,List.nodup_nil,λn a o e=>by simp at e,?_,.inr ⟨by simp,.inl hH⟩⟩,?_⟩
 ·rcases hS with(hS|⟨o,hS⟩)|hS
  ·rcases hO sa with z|⟨ob,xs,z⟩|⟨_,z⟩ <;> (rw[hS]at z;cases z)
  ·exact .inl ⟨o,hS⟩
  ·exact .inr λH0=>.inr hS
 ·rw[hh];intro m' H' v' _ _ r;cases(show v'=V.bl true from r);exact hQ H'
theorem walk{l:OpenLaw}{q:br}{loose:List Str}{XP:(Str->Option ai)->aP->Prop}{YP:aX->aP->Prop}{d:DefRec}{K:Params->Frag}{tb:af}(hn:l.most=some 63)(hdf:d.params.defaults=[])
  (hY:∀(w:aX) (h:aP),YP w h->(K w.params).In h/\h.get? tb=some (tabObj #[])) (hK:∀w:aX,(K w.params).lookup tb=none)
  (F:∀(w:aX) (mg:Str->Option ai) (fa:af) (h:aP),(K w.params).In h->h.Ns dP mg->mg d.name=some (.ref fa) ->
   (∃c o vs,(K w.params).lookup c=some o/\o.cls=.type "code"/\o.data=.fields vs/\vs[11]?=some (.ref tb)) /\
   ∃fd:bf,(∀(s:ak) (u:ai),BindsTo s fd ⟨[u],[]⟩ [("script",u)])/\∀base:aP,(K w.params).In base->base.Ns dP mg->ji l.prog w (K w.params) mg base (CXe l.prog w) 7 fa fd ["script"] (ui (K w.params) tb)) :
  WalkO q loose XP YP l.row.toRowW d [] (λf vs=>PySem.call f vs):=
 HN (n:=63) (k:=7) (x:="script") (CX:=λw=>CXe l.prog w) (sp:=λw=>ui (K w.params) tb) hn (by decide) hdf ⟨rfl,by decide,by decide⟩ hY hK F (λ_ _ a ns hl hO hH hS=>⟨a,ns,rfl,hO,hH,hS,hl,λ_=>rfl⟩) λ_ _ _ _ _ z=>by obtain⟨_,_,_,_,_,_,_,_,_,y⟩:=z;exact y
end L2.Rv
namespace L2.Rv
open PySem (Str)
theorem ik{ns:List Int}{k:Int}(hk:0≤k){h:MH}{Q:MV->MH->Prop}{E:Nat->MH->Prop}:wp (eY [.scr ns,.int k]) h Q E=Q (.int (cell ns k)) h:=by
 obtain⟨k,rfl⟩:=Int.eq_ofNat_of_zero_le hk;have key:eY [.scr ns,.int k] h=.ok (.int (cell ns k)) h:=by
  by_cases c:k<ns.length
  ·have e:atN ns (k:Int)=some (cell ns k):=by rw[jd];simp[cell,c]
   simp[eY,pR,fnOf,bnd,au,sIf,tst,aj,ae,eUn,cz,oLt,ret,asB,bn,oIx,c,e]
  ·have e:cell ns k=0:=by simp[cell,kI c]
   simp[eY,pR,fnOf,bnd,au,sIf,tst,aj,ae,eUn,cz,oLt,ret,asB,bn,oIx,c,e,b9,eC]
 unfold wp;rw[key]
noncomputable def nats(l:List Nat):List MV:=l.map λ(x:Nat)=>.int (x:Int)
noncomputable def rows(b:List Nat):List MV:=.non::nats b
def Wf(b:List Nat):Prop:=∀(k x:Nat),b[k]?=some x->x≤k
theorem rH(b:List Nat):(nats b).length=b.length:=by simp[nats]
theorem tG(b:List Nat):(rows b).length=b.length+1:=by simp[rows,nats]
theorem pE{b:List Nat}{p x:Nat}(e:b[p]?=some x):(rows b)[p+1]?=some (.int x):=by simp[rows,nats,e]
structure cW(h:MH)(r:Nat)(b:List Nat):Prop where
 ob:∃l,h[r]?=some (.ins 1 [("runs_to",.ref l)])/\h[l]?=some (.lst (rows b))
 wf:Wf b
 few:b.length<40
theorem cW.pre{h h':MH}{r:Nat}{b:List Nat}(R:cW h r b)(p:Pre h h'):cW h' r b:=by
 obtain⟨⟨l,h1,h2⟩,w,f⟩:=R;exact⟨⟨l,p.get h1,p.get h2⟩,w,f⟩
section
variable {h:MH}{r:Nat}{b:List Nat}{Q:MV->MH->Prop}{E:Nat->MH->Prop}
theorem CO{a:Nat}(ha:h[a]?=some (.lst (rows b)))(w:Wf b)(f:b.length<40)(q:Q .non h):wp (t9 [.ref a]) h Q E:=by
 refine cg (by rfl) ?_;have c1:¬((b.length:Int)+1<1):=by lia
 have c2:¬(40<(b.length:Int)+1):=by lia
 have c0:atN (rows b) 0=some .non:=rfl;simp[vZ,ha,tG,c1,c2,c0];refine⟨by lia,?_⟩;refine dR (λk σ h'=>h'=h/\∃x y,σ=[some (.ref a),x,y]) (λ_ _ _ _=>rfl) (λk x σ h' hx ⟨eh,u,v,es⟩=>?_) (λσ h' ⟨eh,u,v,es⟩=>?_) ⟨rfl,_,_,rfl⟩
 ·subst eh;subst es;have hk:k<b.length:=by
   have:=(bN.mp hx).1;rw[gM]at this;lia
  rw[my (by lia)]at hx;cases hx;obtain⟨z,ez⟩:∃z,b[k]?=some z:=⟨b[k],by simp[hk]⟩
  have g:atN (rows b) (1+(k:Int))=some (.int z):=by
   rw[show(1+(k:Int))=((k+1:Nat):Int) by lia,jd];exact pE ez
  have lz:=w k z ez;have d1:¬((z:Int)<0):=by lia
  have d2:¬(1+(k:Int)≤(z:Int)):=by lia
  simp[cj,ha,g,d1,d2]
 ·subst eh;exact q
structure wz(h:MH)(r:Nat)(b:List Nat)(lo:Nat):Prop where
 ob:∃l,h[r]?=some (.ins 1 [("runs_to",.ref l)])/\h[l]?=some (.lst (rows b))/\lo≤l
 lo:lo≤r
 wf:Wf b
 few:b.length<40
theorem wz.at{lo:Nat}(R:wz h r b lo):cW h r b:=by
 obtain⟨⟨l,h1,h2,h3⟩,h4,w,f⟩:=R;exact⟨⟨l,h1,h2⟩,w,f⟩
theorem E1{a:Nat}(ha:h[a]?=some (.lst (rows b)))(w:Wf b)(f:b.length<40)(q:∀h',Pre h h'->wz h' h.length b h.length->Q .non h'):wp (nJ [.ref h.length,.ref a]) (h++[.ins 1 []]) Q E:=by
 unfold nJ;refine cg (by rfl) ?_;have ha':(h++[.ins 1 []])[a]?=some (.lst (rows b)):=dH ha;have la:=aS ha;simp[wB];refine CO ha' w f ?_;simp[ha',putF];exact⟨by lia,q _ ⟨_,rfl⟩ ⟨⟨h.length+1,by simp,by simp,by lia⟩,bo _,w,f⟩⟩
theorem Cn{a:Nat}(ha:h[a]?=some (.lst (rows b)))(w:Wf b)(f:b.length<40)(q:∀h',Pre h h'->cW h' h.length b->Q .non h'):wp (nJ [.ref h.length,.ref a]) (h++[.ins 1 []]) Q E:=
 E1 ha w f λh' p R=>q h' p R.at
theorem tY(R:cW h r b):wp (jE [.ref r]) h Q E=Q (.int ((b.length:Int)+1)) h:=by
 obtain⟨⟨l,h1,h2⟩,w,f⟩:=R;have key:jE [.ref r] h=.ok (.int ((b.length:Int)+1)) h:=by
  simp[jE,uN,fnOf,bnd,bn,eUn,aZ,ae,ret,look,h1,h2,cz,tG]
 unfold wp;rw[key]
theorem tM{p:Int}(R:cW h r b)(h0:0≤p)(hp:p<(b.length:Int)+1):wp (jx [.ref r,.int p]) h Q E=Q .non h:=by
 obtain⟨⟨l,h1,h2⟩,w,f⟩:=R;have n1:¬p<0:=by lia
 have n2:¬(b.length:Int)+1≤p:=by lia
 have key:jx [.ref r,.int p] h=.ok .non h:=by
  simp[jx,wg,fnOf,bnd,sIf,tst,eOr,aj,eC,oLt,oGe,asB,eUn,aZ,ae,ret,look,h1,h2,cz,tG,n1,n2,b9]
 unfold wp;rw[key]
theorem cW.meth(R:cW h r b){f:Fn}{mth:String}{a:MA}{σ:MSt}{i:Nat}(hm:(mth == "runs_to")=false)(hs:σ[i]?=some (some (.ref r))):wp (bG 1 mth f (ae i) a σ) h Q E=wp (a σ) h (λxs h2=>wp (f (.ref r::xs)) h2 Q E) E:=by
 obtain⟨⟨l,h1,h2⟩,w,f⟩:=R;have hm':mth≠"runs_to":=by simpa using hm
 simp[hs,h1,bW,hm,hm']
noncomputable def fZ(b:List Nat):Nat->Nat->List Nat
 |0,_=>[]
 |_+1,0=>[0]
 |f+1,p+1=>(p+1)::fZ b f (b.getD p 0)
noncomputable def aN(b:List Nat)(p:Nat):List Nat:=fZ b (p+1) p
theorem vX{b:List Nat}(w:Wf b):∀{f g p:Nat},p<f->p<g->fZ b f p=fZ b g p
 |0,_,_,h,_=>absurd h (Nat.not_lt_zero _)
 |_,0,_,_,h=>absurd h (Nat.not_lt_zero _)
 |f+1,g+1,0,_,_=>rfl
 |f+1,g+1,p+1,hf,hg=>by
   have le:b.getD p 0≤p:=by
    rw[jL];cases e:b[p]? with
    |none=>simp
    |some x=>simpa using w p x e
   unfold fZ;rw[vX w (f:=f) (g:=g) (p:=b.getD p 0) (by lia) (by lia)]
theorem oE(b:List Nat):aN b 0=[0]:=rfl
theorem nE{b:List Nat}(w:Wf b){p x:Nat}(e:b[p]?=some x):aN b (p+1)=(p+1)::aN b x:=by
 have le:=w p x e;unfold aN;show(p+1)::fZ b (p+1) (b.getD p 0)=_;rw[jL,e];simp only[Option.getD_some];rw[vX w (show x<p+1 by lia) (show x<x+1 by lia)]
theorem xC{b:List Nat}(w:Wf b):∀p,p<b.length+1->(aN b p).length≤p+1:=by
 intro p
 induction p using Nat.strongRecOn with
 |ind p ih=>
   intro hp;cases p with
   |zero=>simp[oE]
   |succ p=>
     obtain⟨x,ex⟩:∃x,b[p]?=some x:=⟨b[p]'(by lia),by simp⟩
     rw[nE w ex];have:=w p x ex;have:=ih x (by lia) (by lia);simp;lia
noncomputable def iz(b:List Nat)(p:Nat):MV:=(rows b).getD p .non
theorem vR(hp:p<b.length+1):atN (rows b) ((p:Nat):Int)=some (iz b p):=by
 rw[jd,iz,jL];have:p<(rows b).length:=by rw[tG];exact hp
 simp[this]
theorem Gn{p:Nat}(R:cW h r b)(hp:p<b.length+1):wp (nV [.ref r,.int p]) h Q E=Q (iz b p) h:=by
 have c:=tM (Q:=λv h'=>v=.non/\h'=h) (E:=noE) (p:=p) R (by lia) (by lia);obtain⟨⟨l,h1,h2⟩,w,f⟩:=R;have key:nV [.ref r,.int p] h=.ok (iz b p) h:=by
  obtain⟨v,h',e,rfl,rfl⟩:=mC (cast c.symm ⟨rfl,rfl⟩);simp[nV,uZ,fnOf,bnd,au,cG,bG,ao,az,ae,ret,look,h1,h2,bW,e,bn,aj,aZ,oIx,vR hp]
 unfold wp;rw[key]
theorem A7{p:Nat}(R:cW h r b)(hp:p<b.length+1)(q:Q (.ref h.length) (h++[.lst (nats (aN b p))])):wp (qK [.ref r,.int p]) h Q E:=by
 refine cg (by rfl) ?_;have c:=λ(Q:MV->MH->Prop)=>tM (Q:=Q) (E:=E) (p:=p) R (by lia) (by lia);unfold v4;rw[dL,eI,R.meth (by decide) rfl];simp[c];obtain⟨⟨l,h1,h2⟩,w,f⟩:=R;refine zc (k:=p+1) (λk σ h'=>∃acc:List Nat,acc.length+k≤100/\h'=h++[.lst (nats acc)]/\((k=0/\acc=aN b p/\σ=[some (.ref r),some .non,some (.ref h.length)])∨∃x:Nat,k=x+1/\x<b.length+1/\acc++aN b x=aN b p/\σ=[some (.ref r),some (.int x),some (.ref h.length)])) ?_ (by lia)
  ⟨[],by simp;lia,rfl,.inr ⟨p,rfl,hp,rfl,rfl⟩⟩
 rintro k σ h' ⟨acc,ha,rfl,⟨rfl,rfl,rfl⟩|⟨x,rfl,hx,e,rfl⟩⟩
 ·simp;exact q
 ·have g1:∀o,(h++[o])[r]?=some (.ins 1 [("runs_to",.ref l)]):=λo=>dH h1;have g2:∀o,(h++[o])[l]?=some (.lst (rows b)):=λo=>dH h2;have la:(nats acc).length<100000:=by rw[rH];lia
  have snoc:nats acc++[.int x]=nats (acc++[x]):=by simp[nats]
  simp[la,g1,g2,snoc,vR hx];cases x with
  |zero=>
    exact⟨0,by lia,acc++[0],by simp;lia,rfl,.inl ⟨rfl,by rw[oE]at e;exact e,rfl⟩⟩
  |succ x=>
    obtain⟨z,ez⟩:∃z,b[x]?=some z:=⟨b[x]'(by lia),by simp⟩
    have lz:=w x z ez;have ev:iz b (x+1)=.int z:=by rw[iz,jL,pE ez];rfl
    exact⟨z+1,by lia,acc++[x+1],by simp;lia,rfl,.inr ⟨z,rfl,by lia,by rw[←e,nE w ez];simp,by rw[ev]⟩⟩
theorem tJ{q:Nat}:∀{l:List Nat},inM (.int q) (nats l)=decide (q∈l)
 |[]=>rfl
 |x::l=>by
   have ih:=@tJ q l;simp only[inM,nats,bz,jC]at ih ⊢;rw[ih];by_cases e:x=q
   ·subst e;simp[eqM]
   ·have e2:¬((x:Int)=(q:Int)):=by lia
    have e3:¬q=x:=λz=>e z.symm;simp[eqM,e2,e3]
theorem Ej(l:List Nat):(nats l).all flat=true:=by simp[nats,flat]
theorem AR(w:Wf b):∀p,p<b.length+1->0∈aN b p:=by
 intro p
 induction p using Nat.strongRecOn with
 |ind p ih=>
   intro hp;cases p with
   |zero=>simp[oE]
   |succ p=>
     obtain⟨x,ex⟩:∃x,b[p]?=some x:=⟨b[p]'(by lia),by simp⟩
     have:=w p x ex;rw[nE w ex];exact dO _ (ih x (by lia) (by lia))
end
noncomputable def ic(ns:List Int)(st:Int)(size:Nat):List Nat:=(ci (size-1)).map λ(k:Nat)=>(cell ns (st+(1+(k:Int)))%(1+(k:Int))).toNat
theorem BC(ns:List Int)(st:Int)(size:Nat):(ic ns st size).length=size-1:=by simp[ic]
theorem Dj(ns:List Int)(st:Int)(size:Nat):Wf (ic ns st size):=by
 intro k x e;unfold ic at e;rw[bj]at e;cases ek:(ci (size-1))[k]? with
 |none=>rw[ek]at e;cases e
 |some j=>
   rw[ek]at e;have hj:j=k:=by
    obtain⟨h1,h2⟩:=bN.mp ek;simpa using h2.symm
   subst hj;have e:(cell ns (st+(1+(j:Int)))%(1+(j:Int))).toNat=x:=Option.some.inj e;have a:=jf (cell ns (st+(1+(j:Int)))) (show(0:Int)<1+(j:Int) by lia)
   lia
theorem EO{n:Nat}{lo:Int}{f:List MV->MV}{g:Nat->Nat}(hf:∀k,k<n->f [.int (lo+(k:Int))]=.int (g k:Int)):(dE lo n).map f=nats ((ci n).map g):=by
 unfold dE nats;rw[bX,bX];refine gA λk hk=>?_;exact hf k (jk.mp hk)
theorem EQ{ns:List Int}{st:Int}{size:Nat}{h:MH}{Q:MV->MH->Prop}{E:Nat->MH->Prop}(h0:0≤st)(hs:1≤size)(hz:size≤1000)(q:∀h',Pre h h'->h.length<h'.length->Q (.ref h'.length) (h'++[.lst (rows (ic ns st size))])):wp (rG [.scr ns,.int st,.int size]) h Q E:=by
 unfold rG;refine cg (by rfl) ?_;simp[uw];have hsrc:i5 (eC (.int 1)) (ae 2) [some (.scr ns),some (.int st),some (.int size)] (h++[.lst [.non]])=.ok ⟨dE 1 (size-1),[]⟩ (h++[.lst [.non]]):=by
  exact EA rfl rfl ⟨by lia,by lia⟩ ⟨by lia,by lia⟩ (by lia)
 refine oJ (λ_=>true) (λx=>match x with
  |[.int k]=>.int (cell ns (st+k)%k)
  | _=>.non) hsrc (λ_ _=>rfl) (by simp [gM];lia) (λx hx h2 p2=>?_) (λx hx _ h2 p2=>?_) λh2 p2=>?_
 ·simp[fi,bx,Pre.refl]
 ·obtain⟨k,hk,rfl⟩:=vC hx;have h1:(0:Int)≤st+(1+(k:Int)):=by lia
  simp[ik h1];exact⟨by lia,.refl⟩
 ·have e:iA (λx=>match x with
   |[MV.int k]=>MV.int (cell ns (st+k)%k)
   | _=>MV.non) (jI (λ_=>true) (dE 1 (size - 1)))=nats (ic ns st size):=by
   rw[ly.mpr λ_ _=>rfl];unfold ic;refine EO λk hk=>?_;have a:=gZ (cell ns (st+(1+(k:Int)))) (show(1+(k:Int))≠0 by lia);simp only[MV.int.injEq];lia
  rw[e];have pl:=p2.len;simp at pl;have g1:(h2++[.lst (nats (ic ns st size))])[h.length]?=some (.lst [.non]):=dH (p2.get bE);have l1:(nats (ic ns st size)).length+1≤100000:=by rw[rH,BC];lia
  simp[g1,l1];refine⟨by lia,?_⟩;have:=q (h2++[.lst (nats (ic ns st size))]) (((Pre.app _).trans p2).snoc _) (by simp;lia);simpa[rows] using this
theorem uC{i:Int}{h:MH}{Q:MV->MH->Prop}{E:Nat->MH->Prop}:wp (kG [.int i]) h Q E=Q (.bl true) h:=by
 have key:kG [.int i] h=.ok (.bl true) h:=by
  simp[kG,wb,fnOf,bnd,bn,mE,fH,tst,asB,eUn,ae,gU,ret]
 unfold wp;rw[key]
section
variable {h:MH}{a:Nat}{b:List Nat}{Q:MV->MH->Prop}{E:Nat->MH->Prop}
theorem re{p:Nat}(ha:h[a]?=some (.lst (rows b)))(w:Wf b)(f:b.length<40)(hp:p<b.length+1)(q:Q (.ref h.length) (h++[.lst (nats (aN b p))])):wp (kf [.ref a,.int p]) h Q E:=by
 unfold kf;refine cg (by rfl) ?_;unfold uf;rw[dL];simp;refine zc (k:=p+1) (λk σ h'=>∃acc:List Nat,acc.length+k≤100/\h'=h++[.lst (nats acc)]/\((k=0/\acc=aN b p/\σ=[some (.ref a),some .non,some (.ref h.length)])∨∃x:Nat,k=x+1/\x<b.length+1/\acc++aN b x=aN b p/\σ=[some (.ref a),some (.int x),some (.ref h.length)])) ?_ (by lia)
  ⟨[],by simp;lia,rfl,.inr ⟨p,rfl,hp,rfl,rfl⟩⟩
 rintro k σ h' ⟨acc,hl,rfl,⟨rfl,rfl,rfl⟩|⟨x,rfl,hx,e,rfl⟩⟩
 ·simp;exact q
 ·have g2:∀o,(h++[o])[a]?=some (.lst (rows b)):=λo=>dH ha;have la:(nats acc).length<100000:=by rw[rH];lia
  have snoc:nats acc++[.int x]=nats (acc++[x]):=by simp[nats]
  simp[la,g2,snoc,vR hx];cases x with
  |zero=>
    exact⟨0,by lia,acc++[0],by simp;lia,rfl,.inl ⟨rfl,by rw[oE]at e;exact e,rfl⟩⟩
  |succ x=>
    obtain⟨z,ez⟩:∃z,b[x]?=some z:=⟨b[x]'(by lia),by simp⟩
    have lz:=w x z ez;have ev:iz b (x+1)=.int z:=by rw[iz,jL,pE ez];rfl
    exact⟨z+1,by lia,acc++[x+1],by simp;lia,rfl,.inr ⟨z,rfl,by lia,by rw[←e,nE w ez];simp,by rw[ev]⟩⟩
end
noncomputable def bF(b:List Nat)(n:Nat)(d:Nat->Int)(p:Nat):Int:=d7 n λq=>if p∈aN b q then d q else 0
noncomputable def chi(b:List Nat)(k p:Nat):Nat->Nat->Bool
 |0,_=>false
 |f+1,q=>if q=p then true else if q≤k then false else chi b k p f (b.getD (q-1) 0)
theorem zx{b:List Nat}(w:Wf b){q:Nat}(hq:0<q):b.getD (q-1) 0<q:=by
 rw[jL];cases e:b[q-1]? with
 |none=>simpa using hq
 |some x=>have:=w (q-1) x e;simp;lia
theorem n9{b:List Nat}{k p q f:Nat}(hf:0<f)(hq:q≤k):chi b k p f q=decide (q=p):=by
 obtain⟨f,rfl⟩:∃g,f=g+1:=⟨f-1,by lia⟩
 unfold chi;by_cases e:q=p
 ·simp[e]
 ·simp[e,hq]
theorem uT{b:List Nat}{k p q f:Nat}(e:¬q=p)(hq:k<q):chi b k p (f+1) q=chi b k p f (b.getD (q-1) 0):=by
 conv=>lhs;unfold chi
 rw[if_neg e,if_neg (Nat.not_le.mpr hq)]
theorem wO{b:List Nat}{p:Nat}:∀(f q:Nat),q<f->chi b 0 p f q=decide (p∈fZ b f q)
 |0,q,h=>by lia
 |f+1,0,_=>by
   unfold chi fZ;by_cases e:p=0
   ·simp[e]
   ·have:¬(0=p):=λz=>e z.symm;simp[e,this]
 |f+1,q+1,h=>by
   unfold chi fZ;by_cases e:q+1=p
   ·subst e;simp
   ·have e':¬p=q+1:=λz=>e z.symm;rw[if_neg e,if_neg (by lia)];simp only[Nat.add_sub_cancel,bK,e',false_or];by_cases hz:b.getD q 0<f
    ·exact wO f _ hz
    ·-- not met where the list is a river;the two agree all the same
     have:∀g q,chi b 0 p g q=decide (p∈fZ b g q):=by
      intro g
      induction g with
      |zero=>intro q;simp[chi,fZ]
      |succ g ih=>
        intro q;cases q with
        |zero=>
          unfold chi fZ;by_cases e:p=0
          ·simp[e]
          ·have:¬(0=p):=λz=>e z.symm;simp[e,this]
        |succ q=>
          unfold chi fZ;by_cases e:q+1=p
          ·subst e;simp
          ·have e':¬p=q+1:=λz=>e z.symm;rw[if_neg e,if_neg (by lia)];simp only[Nat.add_sub_cancel,bK,e',false_or];exact ih _
     exact this f _
theorem BE{b:List Nat}(w:Wf b){c p:Nat}(hc:0<c):∀(f q:Nat),q<f->(if chi b (c-1) p f q=true then(1:Int) else 0)=(if chi b c p f q=true then 1 else 0)+if b.getD (c-1) 0=p/\chi b c c f q=true then 1 else 0
 |0,q,h=>by lia
 |f+1,q,h=>by
   have lc:=zx w hc;by_cases e:q=p
   ·subst e;have h1:chi b (c-1) q (f+1) q=true:=by unfold chi;simp
    have h2:chi b c q (f+1) q=true:=by unfold chi;simp
    rw[if_pos h1,if_pos h2,if_neg]
    ·lia
    ·rintro⟨z,y⟩;unfold chi at y;rw[if_neg (by lia),if_pos (by lia)]at y;cases y
   ·by_cases hq:c<q
    ·have lq:=zx w (show 0<q by lia);have ih:=BE w (p:=p) hc f (b.getD (q-1) 0) (by lia);rw[uT e (show c-1<q by lia),uT e hq,uT (show ¬q=c by lia) hq];exact ih
    ·by_cases hq2:q=c
     ·subst hq2;have f0:0<f:=by lia
      have h1:chi b (q-1) p (f+1) q=decide (b.getD (q-1) 0=p):=by
       conv=>lhs;unfold chi
       rw[if_neg e,if_neg (by lia),n9 f0 (by lia)]
      have h2:chi b q p (f+1) q=false:=by unfold chi;simp[e]
      have h3:chi b q q (f+1) q=true:=by unfold chi;simp
      rw[h1,h2,h3];by_cases z:b.getD (q-1) 0=p <;> simp[z]
     ·have h1:chi b (c-1) p (f+1) q=false:=by rw[n9 (by lia) (by lia)];simp[e]
      have h2:chi b c p (f+1) q=false:=by rw[n9 (by lia) (by lia)];simp[e]
      have h3:chi b c c (f+1) q=false:=by rw[n9 (by lia) (by lia)];simp[hq2]
      rw[h1,h2,h3];simp
noncomputable def i6(b:List Nat)(n:Nat)(d:Nat->Int)(k p:Nat):Int:=d7 n λq=>if chi b k p n q=true then d q else 0
theorem Gd{b:List Nat}{n:Nat}{d:Nat->Int}{p:Nat}(hp:p<n):i6 b n d (n-1) p=d p:=by
 unfold i6;rw[←xU (f:=d) hp];refine k6 λq hq=>?_;rw[n9 (by lia) (by lia)];by_cases e:q=p <;> simp[e]
theorem ite3{A B C:Prop}[Decidable A][Decidable B][Decidable C]{v:Int}(s:(if A then(1:Int) else 0)=(if B then 1 else 0)+if C then 1 else 0):(if A then v else 0)=(if B then v else 0)+if C then v else 0:=by
 by_cases a:A
 ·by_cases b:B
  ·by_cases c:C
   ·rw[if_pos a,if_pos b,if_pos c]at s;lia
   ·rw[if_pos a,if_pos b,if_neg c];lia
  ·by_cases c:C
   ·rw[if_pos a,if_neg b,if_pos c];lia
   ·rw[if_pos a,if_neg b,if_neg c]at s;lia
 ·by_cases b:B
  ·by_cases c:C
   ·rw[if_neg a,if_pos b,if_pos c]at s;lia
   ·rw[if_neg a,if_pos b,if_neg c]at s;lia
  ·by_cases c:C
   ·rw[if_neg a,if_neg b,if_pos c]at s;lia
   ·rw[if_neg a,if_neg b,if_neg c];lia
theorem IL{b:List Nat}(w:Wf b){n c p:Nat}{d:Nat->Int}(hc:0<c):i6 b n d (c-1) p=i6 b n d c p+if b.getD (c-1) 0=p then i6 b n d c c else 0:=by
 unfold i6;have e:(if b.getD (c-1) 0=p then d7 n (λq=>if chi b c c n q=true then d q else 0) else 0)=d7 n (λq=>if b.getD (c-1) 0=p/\chi b c c n q=true then d q else 0):=by
  by_cases z:b.getD (c-1) 0=p
  ·rw[if_pos z];exact k6 λq hq=>by simp only[z,true_and]
  ·rw[if_neg z];exact(q8 λq hq=>by simp only[z,false_and,if_false]).symm
 rw[e,←uJ];refine k6 λq hq=>?_;exact ite3 (BE w (p:=p) hc n q hq)
theorem F6{b:List Nat}(w:Wf b){n q:Nat}(hq:q<n):fZ b n q=aN b q:=vX w hq (uH q)
theorem Cb{b:List Nat}(w:Wf b){n p:Nat}{d:Nat->Int}:i6 b n d 0 p=bF b n d p:=by
 unfold i6 bF;refine k6 λq hq=>?_;rw[wO n q hq,F6 w hq];by_cases e:p∈aN b q <;> simp[e]
section
variable {h:MH}{r:Nat}{b:List Nat}{Q:MV->MH->Prop}{E:Nat->MH->Prop}
theorem Iy{a n:Nat}{y:Nat->Int}(R:cW h r b)(ha:h[a]?=some (.lst (tab n y)))(hn:n=b.length+1)(bd:∀k,k<n->0≤y k/\y k≤1000000)(q:Q .non h):wp (sQ [.ref r,.ref a]) h Q E:=by
 unfold sQ;refine cg (by rfl) ?_;unfold we;refine aJ (R:=λσ h1=>h=h1/\σ=[some (.ref r),some (.ref a),none]) ?_ ?_
 ·rw[fM,cY,bq];simp only[hX,aK,bz,lH,lX,wo,aR,aM,tH,ha,hI];rw[R.meth (by decide) rfl];simp[tY R,hn]
 rintro _ _ ⟨rfl,rfl⟩;rw[eE];refine cI (fE rfl ha) ?_;refine dR (λk σ h'=>h'=h/\∃x,σ=[some (.ref r),some (.ref a),x]) (λ_ _ _ i=>by rw[i.1];exact d6 ha) (λk x σ h' hx ⟨eh,u,es⟩=>?_) (λσ h' ⟨eh,u,es⟩=>?_) ⟨rfl,_,rfl⟩
 ·subst eh;subst es;have hk:k<n:=by
   have:=(bN.mp hx).1;simpa[hI] using this
  rw[bj,sM hk]at hx;cases hx;obtain⟨b1,b2⟩:=bd k hk;have c1:¬y k<0:=by lia
  have c2:¬1000000<y k:=by lia
  simp[cj,c1,c2]
 ·subst eh;exact q
theorem Dg{a c n:Nat}{y t:Nat->Int}(R:cW h r b)(ha:h[a]?=some (.lst (tab n y)))(hc:h[c]?=some (.lst (tab n t)))(hn:n=b.length+1)(bd:∀k,k<n->0≤y k/\y k≤1000000)
  (q:∀h' x,Pre h h'->h.length≤x->h'[x]?=some (.lst (tab n (bF b n λk=>y k-t k)))->Q (.ref x) h'):wp (sD [.ref r,.ref a,.ref c]) h Q E:=by
 unfold sD;refine cg (by rfl) ?_;have few:=R.few;have w:=R.wf;refine aJ (R:=λσ h1=>h=h1/\σ=[some (.ref r),some (.ref a),some (.ref c),none,none]) ?_ ?_
 ·simp;exact Iy R ha hn bd (by simp)
 rintro _ _ ⟨rfl,rfl⟩;refine aJ (R:=λσ h1=>∃h0,Pre h h0/\h1=h0++[.lst (tab n λk=>y k-t k)]/\σ=[some (.ref r),some (.ref a),some (.ref c),some (.ref h0.length),none]) ?_ ?_
 ·rw [cq];refine oJ (λ_=>true) (λx=>match x with
   |[.int i,.int j]=>.int (i-j)
   | _=>.non) (ua rfl rfl ha hc) (λh' p=>vD (p.get ha) (p.get hc)) ?_ (λx hx h2 p2=>?_) (λx hx _ h2 p2=>?_) λh2 p2=>?_
  ·rw[vW];simp;lia
  ·simp[fi,bx,Pre.refl]
  ·rw[vW]at hx;obtain⟨k,hk,rfl⟩:=bO.mp hx;simp;exact .refl
  ·have e:iA (λx=>match x with
    |[MV.int i,MV.int j]=>MV.int (i-j)
    | _=>MV.non) (jI (λ_=>true) (dM (tab n y) (tab n t)))=tab n λk=>y k - t k:=by
    rw[ly.mpr λ_ _=>rfl,vW,bX];rfl
   exact⟨_,rfl,h2,p2,by rw[e],rfl⟩
 rintro _ _ ⟨h0,p0,rfl,rfl⟩;replace R:=R.pre p0;have R1:∀o,cW (h0++[o]) r b:=λo=>R.pre (Pre.app _);refine aJ (R:=λσ h1=>h1=h0++[.lst (tab n (bF b n λk=>y k-t k))]/\∃x,σ=[some (.ref r),some (.ref a),some (.ref c),some (.ref h0.length),x]) ?_ ?_
 ·rw[eE];refine cI (GR (h1:=h0++[.lst (tab n λk=>y k-t k)]) (i:=(b.length:Int)) (j:=0) (n:=b.length) ?_ rfl (by lia) (by lia)) ?_
  ·have w1:wp (aj gE (bG 1 "points" jE (ae 0) az) (eC (.int 1)) [some (.ref r),some (.ref a),some (.ref c),some (.ref h0.length),none]) (h0++[.lst (tab n λk=>y k-t k)]) (λv h1=>v=.int (b.length:Int)/\h1=h0++[.lst (tab n λk=>y k-t k)]) noE:=by
    rw[bq,(R1 _).meth (by decide) rfl];simp[tY (R1 _)]
   obtain⟨v,h1,e,rfl,rfl⟩:=mC w1;exact e
  refine dR (λk σ h1=>k≤b.length/\h1=h0++[.lst (tab n (i6 b n (λk=>y k-t k) (b.length-k)))]/\∃x,σ=[some (.ref r),some (.ref a),some (.ref c),some (.ref h0.length),x]) (λ_ _ _ _=>rfl) (λk x σ h1 hx ⟨hk,eh,u,es⟩=>?_) (λσ h1 ⟨hk,eh,u,es⟩=>?_) ⟨by lia,?_,_,rfl⟩
  ·subst eh;subst es;have hk:k<b.length:=by
    have:=(bN.mp hx).1
    rwa [AX]at this
   rw[Cf hk]at hx;cases hx;obtain⟨c0,hc0⟩:∃c0:Nat,c0=b.length-k:=⟨_,rfl⟩;have ec:(b.length:Int)-(k:Int)=(c0:Int):=by lia
   have hb:=λQ=>Gn (p:=c0) (Q:=Q) (E:=E) (R1 (.lst (tab n (i6 b n (λk=>y k-t k) c0)))) (by lia);rw[←hc0];obtain⟨z,ez⟩:∃z,b[c0-1]?=some z:=⟨b[c0-1]'(by lia),by simp⟩
   have lz:=w (c0-1) z ez;have ev:iz b c0=.int z:=by
    rw[iz,jL,show c0=c0-1+1 by lia,pE ez];rfl
   have ed:b.getD (c0-1) 0=z:=by rw[jL,ez];rfl
   simp only[cj,d0,d5,ec,wP,aK,aR,aM];rw[(R1 _).meth (by decide) rfl];simp only[bv,bp,aK,aR,aM,hb,ev,zS,fS,bE,bq];rw[iM (show z<n by lia)];dsimp only;rw[iM (show c0<n by lia)];simp[hI,pX (show z<n by lia),pN];refine⟨by lia,jt λp hp=>?_⟩;rw[show b.length-(k+1)=c0-1 by lia,IL w (show 0<c0 by lia),ed];by_cases e:p=z
   ·subst e;simp
   ·have e':¬z=p:=λq=>e q.symm;simp[e,e']
  ·rw[AX]at eh;subst eh;subst es;refine⟨_,rfl,?_,u,rfl⟩;rw[Nat.sub_self];congr 3;exact jt λp hp=>Cb w
  ·congr 3;exact jt λp hp=>by rw[show b.length-0=n-1 by lia,Gd hp]
 rintro _ _ ⟨rfl,x,rfl⟩;simp;exact q _ _ (p0.snoc _) p0.len bE
end
noncomputable def fj(ns:List Int)(st:Int)(k:Nat):Int:=if cell ns (st+k)%5=4 then cell ns (st+k)/5%1000001 else cell ns (st+k)/5%60
theorem Bc(ns:List Int)(st:Int)(k:Nat):0≤fj ns st k/\fj ns st k≤1000000:=by
 unfold fj;split <;> lia
theorem Dp{ns:List Int}{st:Int}{size:Nat}{h:MH}{Q:MV->MH->Prop}{E:Nat->MH->Prop}(h0:0≤st)(hz:size≤1000)(q:Q (.ref h.length) (h++[.lst (tab size (fj ns st))])):wp (sG [.scr ns,.int st,.int size]) h Q E:=by
 unfold sG;refine cg (by rfl) ?_;refine aJ (R:=λσ h1=>h1=h++[.lst (tab 0 (fj ns st))]/\σ=[some (.scr ns),some (.int st),some (.int size),some (.ref h.length),none,none,none]) (by simp;rfl) ?_;rintro _ _ ⟨rfl,rfl⟩;refine aJ (R:=λσ h1=>h1=h++[.lst (tab size (fj ns st))]/\∃x y z,σ=[some (.scr ns),some (.int st),some (.int size),some (.ref h.length),x,y,z]) ?_ ?_
 ·rw[eE];refine cI (kZ (n:=size) (h':=h++[.lst (tab 0 (fj ns st))]) rfl ⟨by lia,by lia⟩ (by lia)) ?_;refine dR (λk σ h1=>k≤size/\h1=h++[.lst (tab k (fj ns st))]/\∃x y z,σ=[some (.scr ns),some (.int st),some (.int size),some (.ref h.length),x,y,z]) (λ_ _ _ _=>rfl) (λk x σ h1 hx ⟨hk,eh,u,v,w,es⟩=>?_) (λσ h1 ⟨hk,eh,r⟩=>?_) ⟨by lia,rfl,_,_,_,rfl⟩
  ·subst eh;subst es;have hk:k<size:=by
    have:=(bN.mp hx).1
    rwa [gM]at this
   rw[my hk]at hx;cases hx;have e0:(0:Int)+(k:Int)=k:=by lia
   have hc:(0:Int)≤st+k:=by lia
   have tl:=hI k (fj ns st);by_cases c:cell ns (st+k)%5=4
   ·have ey:fj ns st k=cell ns (st+k)/5%1000001:=by unfold fj;rw[if_pos c]
    simp[cj,e0,ik hc,c,tl,←ey,tW];lia
   ·have ey:fj ns st k=cell ns (st+k)/5%60:=by unfold fj;rw[if_neg c]
    simp[cj,e0,ik hc,c,tl,←ey,tW];lia
  ·rw[gM]at eh;exact⟨σ,rfl,eh,r⟩
 rintro _ _ ⟨rfl,x,y,z,rfl⟩;simp;exact q
theorem tR{b:List Nat}(w:Wf b):∀p,p<b.length+1->(∀x∈aN b p,x≤p)/\(aN b p).Nodup:=by
 intro p
 induction p using Nat.strongRecOn with
 |ind p ih=>
   intro hp;cases p with
   |zero=>simp[oE]
   |succ p=>
     obtain⟨x,ex⟩:∃x,b[p]?=some x:=⟨b[p]'(by lia),by simp⟩
     have lx:=w p x ex;obtain⟨h1,h2⟩:=ih x (by lia) (by lia);rw[nE w ex];refine⟨λy hy=>?_,?_⟩
     ·rcases bK.mp hy with rfl|hy
      ·lia
      ·have:=h1 y hy;lia
     ·rw[gu];exact⟨λhy=>by have:=h1 _ hy;lia,h2⟩
theorem Dq{l:List Nat}{j x p:Nat}(nd:l.Nodup)(e:l[j]?=some x):(if p∈l.take (j+1) then(1:Int) else 0)=(if p∈l.take j then 1 else 0)+if x=p then 1 else 0:=by
 have ex:l.take (j+1)=l.take j++[x]:=by rw[fR,e];rfl
 rw[ex];have nx:x∉l.take j:=by
  intro hx;obtain⟨i,hi⟩:=tu.mp hx;have lj:=(bN.mp e).1;have li:i<j:=by
   have:=(bN.mp hi).1;simp at this;lia
  rw[sf li]at hi;have:=tL nd hi e;lia
 by_cases h1:p∈l.take j
 ·have:¬x=p:=λz=>nx (z▸h1);simp[h1,this]
 ·by_cases h2:x=p
  ·subst h2;simp[h1]
  ·have h3:¬p=x:=λz=>h2 z.symm;simp[h1,h2,h3]
noncomputable def lJ(b:List Nat)(k:Nat)(d:Nat->Int)(p:Nat):Int:=d7 k λq=>if p∈aN b q then d q else 0
theorem Af{h:MH}{bl a c n:Nat}{b:List Nat}{y t:Nat->Int}{Q:MV->MH->Prop}{E:Nat->MH->Prop}(hb:h[bl]?=some (.lst (rows b)))(w:Wf b)(few:b.length<40)(ha:h[a]?=some (.lst (tab n y)))(hc:h[c]?=some (.lst (tab n t)))(hn:n=b.length+1)
  (q:∀h' x,Pre h h'->h.length≤x->h'[x]?=some (.lst (tab n (bF b n λk=>y k-t k)))->Q (.ref x) h'):wp (nZ [.ref bl,.ref a,.ref c]) h Q E:=by
 unfold nZ;refine cg (by rfl) ?_;refine aJ (R:=λσ h1=>∃x,Pre h h1/\h.length≤x/\h1[x]?=some (.lst (tab n (lJ b 0 λk=>y k-t k)))/\σ=[some (.ref bl),some (.ref a),some (.ref c),some (.ref x),none,none]) ?_ ?_
 ·rw[cq];refine oJ (λ_=>true) (λ_=>.int 0) (fE rfl ha) (λh' p=>d6 (p.get ha)) (by simp[hI];lia) (λx hx h2 p2=>?_) (λx hx _ h2 p2=>?_) λh2 p2=>?_
  ·simp[fi,bx,Pre.refl]
  ·simp;exact .refl
  ·refine⟨_,rfl,h2.length,p2.snoc _,p2.len,?_,rfl⟩;rw[ly.mpr λ_ _=>rfl];simp[tab,lJ,d7,bX]
   try rfl
 rintro _ h1 ⟨x,p1,lx,gx,rfl⟩;refine aJ (R:=λσ h2=>∃u v,Pre h h2/\h2[x]?=some (.lst (tab n (lJ b n λk=>y k-t k)))/\σ=[some (.ref bl),some (.ref a),some (.ref c),some (.ref x),u,v]) ?_ ?_
 ·rw[eE];have hs:(eUn cz (ae 1)) [some (.ref bl),some (.ref a),some (.ref c),some (.ref x),none,none] h1=.ok (.int n) h1:=by
   simp[eUn,ae,bnd,ret,cz,look,p1.get ha,hI]
  refine cI (kZ (n:=n) hs ⟨by lia,by lia⟩ (by lia)) ?_;refine dR (λk σ h2=>k≤n/\∃u v,Pre h h2/\h2[x]?=some (.lst (tab n (lJ b k λk=>y k-t k)))/\σ=[some (.ref bl),some (.ref a),some (.ref c),some (.ref x),u,v]) (λ_ _ _ _=>rfl) (λk z σ h2 hx ⟨hk,u,v,p2,gx,es⟩=>?_) (λσ h2 ⟨hk,u,v,r⟩=>?_) ⟨by lia,_,_,p1,gx,rfl⟩
  ·subst es;have hk:k<n:=by
    have:=(bN.mp hx).1
    rwa [gM]at this
   rw[my hk]at hx;cases hx;have e0:(0:Int)+(k:Int)=k:=by lia
   simp only[cj,d0,d5,e0,eE,HE,dG,bv,bp,aK,aR,aM];refine re (p2.get hb) w few (by lia) ?_;simp only[bE];have ndw:=(tR w k (by lia)).2;have mxw:=(tR w k (by lia)).1;have lx2:=aS gx;refine dR (λj σ h3=>∃u v,Pre h h3/\h3[h2.length]?=some (.lst (nats (aN b k)))/\h3[x]?=some (.lst (tab n λp=>lJ b k (λk=>y k-t k) p+if p∈(aN b k).take j then y k-t k else 0))/\v=some (.int k)/\σ=[some (.ref bl),some (.ref a),some (.ref c),some (.ref x),v,u]) (λ_ _ _ i=>by obtain⟨_,_,_,g,_⟩:=i;exact d6 g) (λj z σ h3 hz ⟨u,v,p3,gw,gx3,ev,es⟩=>?_) (λσ h3 ⟨u,v,p3,gw,gx3,ev,es⟩=>?_) ?_
   ·subst ev;subst es;obtain⟨p,hp,rfl⟩:∃p:Nat,(aN b k)[j]?=some p/\z=[.int p]:=by
     rw[bj]at hz;unfold nats at hz;rw[bj]at hz;cases e:(aN b k)[j]? with
     |none=>rw[e]at hz;cases hz
     |some p=>rw[e]at hz;cases hz;exact⟨p,rfl,rfl⟩
    have lp:=mxw p (de hp);have l3:=aS gx3;simp[cj,gx3,iM (show p<n by lia),p3.get ha,p3.get hc,iM hk,hI,pX (show p<n by lia),pN];refine⟨l3,Pre.set p3 lx,bL gw (by lia),?_⟩;rw[dU l3];congr 2;refine jt λi hi=>?_;have st:=ite3 (v:=y k-t k) (Dq (p:=i) ndw hp);by_cases e:i=p
    ·subst e;simp only[if_true]at st ⊢;rw[st];lia
    ·have e':¬p=i:=λq=>e q.symm;simp only[e,e',if_false]at st ⊢;rw[st];lia
   ·subst ev;subst es;refine⟨by lia,_,_,p3,?_,rfl⟩;rw[gx3];congr 2;refine jt λp hp=>?_;have e:(aN b k).take (iA (λv=>[v]) (nats (aN b k))).length=aN b k:=by
     rw[bS,rH,kP]
    rw[e];simp[lJ,d7]
   ·refine⟨_,_,p2.snoc _,bE,?_,rfl,rfl⟩;rw[dH gx];congr 2;exact jt λp hp=>by simp
  ·rw[gM]at r;exact⟨σ,rfl,u,v,r⟩
 rintro _ h2 ⟨u,v,p2,gx,rfl⟩;simp;exact q _ _ p2 lx gx
theorem HW{c:Int}{count:Nat}{h:MH}{Q:MV->MH->Prop}{E:Nat->MH->Prop}(hz:count≤100)(q:∀h',Pre h h'->Q (.ref h'.length) (h'++[.lst ((ci count).map λk=>.str (f8 c k))])):wp (qJ [.int c,.int count]) h Q E:=by
 unfold qJ;refine cg (by rfl) ?_;have m0:=gZ c (show(8:Int)≠0 by decide);have m1:=jf c (show(0:Int)<8 by decide);refine aJ (R:=λσ h1=>h=h1/\σ=[some (.int c),some (.int count),some (.str iu),none,none]) (by simp) ?_;rintro _ _ ⟨rfl,rfl⟩;refine aJ (R:=λσ h1=>Pre h h1/\σ=[some (.int c),some (.int count),some (.str iu),some (.str (fP c)),none]) ?_ ?_
 ·rw[cq,Fv,w_c];dsimp only;have hs:fX (aj cx (ae 0) (eC (.int 8))) [some (.int c),some (.int count),some (.str iu),none,none] h=.ok ⟨dE 0 (c%8).toNat,[]⟩ h:=by
   refine kZ (j:=c%8) ?_ ⟨by lia,by lia⟩ rfl;simp[aj,ae,eC,bnd,ret,cx]
  refine oJ (λ_=>true) (λx=>match x with
   |[.int k]=>.str ⟨#[97+((c/31+11*k*k+k)%26).toNat]⟩
   | _=>.non) hs (λ_ _=>rfl) (by simp [gM];lia) (λx hx h2 p2=>?_) (λx hx _ h2 p2=>?_) λh2 p2=>?_
  ·simp[fi,bx,Pre.refl]
  ·obtain⟨k,hk,rfl⟩:=vC hx;have e0:(0:Int)+(k:Int)=k:=by lia
   have b0:=gZ (c/31+11*(k:Int)*k+k) (show(26:Int)≠0 by decide);have b1:=jf (c/31+11*(k:Int)*k+k) (show(0:Int)<26 by decide);have g:=zC b0 b1;have ll:iu.length≤100000:=by rw[yn];decide
   have c1:(-18446744073709551616:Int)<(k:Int)/\(k:Int)<18446744073709551616:=by lia
   simp[e0,g,ll,c1,Pre.refl]
  ·have e:iA (λx=>match x with
    |[MV.int k]=>MV.str ⟨#[97+((c/31+11*k*k+k)%26).toNat]⟩
    | _=>MV.non) (jI (λ_=>true) (dE 0 (c % 8).toNat))=((gj c).map λx=>(⟨#[x]⟩:Str)).map .str:=by
    rw[ly.mpr λ_ _=>rfl];unfold dE gj;simp only[bX];refine gA λk hk=>?_;simp
   rw[e];refine GX (ss:=(gj c).map λx=>(⟨#[x]⟩:Str)) bE (by decide) ?_ ⟨_,rfl,p2.snoc _,rfl⟩;have l1:((gj c).map λx=>(⟨#[x]⟩:Str)).length≤7:=by simp[gj];lia
   have l2:(((gj c).map λx=>(⟨#[x]⟩:Str)).map (·.length)).sum≤7:=by
    have:((gj c).map λx=>(⟨#[x]⟩:Str)).map (·.length)=bU (gj c).length 1:=by
     rw[bX];apply kR;intro i;by_cases hi:i<(gj c).length
     ·simp[hi,jF];rfl
     ·simp[hi,jF,kI hi]
    rw[this];simp[gj];lia
   lia
 rintro _ h1 ⟨p1,rfl⟩;have sl:=HJ c;have sl2:(fP c).length≤100000:=by lia
 have pl0:=gZ (c/8) (show(((c%8).toNat:Int)+1)≠0 by lia);refine aJ (R:=λσ h2=>h1=h2/\σ=[some (.int c),some (.int count),some (.str iu),some (.str (fP c)),some (.int (iD c))]) ?_ ?_
 ·simp[sl2,sl,iD];lia
 rintro _ _ ⟨rfl,rfl⟩;rw[iB];have hs:fX (ae 1) [some (.int c),some (.int count),some (.str iu),some (.str (fP c)),some (.int (iD c))] h1=.ok ⟨dE 0 count,[]⟩ h1:=kZ (j:=count) rfl ⟨by lia,by lia⟩ (by simp);refine oJ (λ_=>true) (λx=>match x with
  |[.int k]=>.str (f8 c k.toNat)
  | _=>.non) hs (λ_ _=>rfl) (by simp [gM];lia) (λx hx h2 p2=>?_) (λx hx _ h2 p2=>?_) λh2 p2=>?_
 ·simp[fi,bx,Pre.refl]
 ·obtain⟨k,hk,rfl⟩:=vC hx;have e0:(0:Int)+(k:Int)=k:=by lia
  have b0:=gZ (c/64+5*(k:Int)) (show(26:Int)≠0 by decide);have b1:=jf (c/64+5*(k:Int)) (show(0:Int)<26 by decide);have g:=zC b0 b1;have ll:iu.length≤100000:=by rw[yn];decide
  have s1:=yq (fP c) none (some (iD c));have s2:=yq (fP c) (some (iD c)) none;have one:(⟨#[97+((c/64+5*(k:Int))%26).toNat]⟩:Str).length=1:=rfl;have a1:(PySem.Txt.slice (fP c) none (some (iD c))).length+1≤100000:=by lia
  have a2:(PySem.Txt.slice (fP c) none (some (iD c))).length+1+(PySem.Txt.slice (fP c) (some (iD c)) none).length≤100000:=by lia
  simp[e0,g,ll,sl2,one,a1,a2,B6,f8,oh,Pre.refl]
 ·have e:iA (λx=>match x with
   |[MV.int k]=>MV.str (f8 c k.toNat)
   | _=>MV.non) (jI (λ_=>true) (dE 0 count))=(ci count).map λk=>.str (f8 c k):=by
   rw[ly.mpr λ_ _=>rfl];unfold dE;rw[bX];refine gA λk hk=>?_;simp
  rw[e];exact q h2 (p1.trans p2)
theorem EI{ns:List Int}{sv:MV}{st:Int}{count size:Nat}{h:MH}{Q:MV->MH->Prop}{E:Nat->MH->Prop}(cw:∀{k:Int}{h':MH}{Q:MV->MH->Prop}{E:Nat->MH->Prop},0≤k->Pre h h'->wp (eY [sv,.int k]) h' Q E=Q (.int (cell ns k)) h')(h0:0≤st)(hs:1≤size)(hz:count≤100)(q:∀h',Pre h h'->h.length≤h'.length->Q (.ref h'.length) (h'++[.lst ((dy ns st count size).map Rt.row)])) :
  wp (oU [sv,.int st,.int count,.int size]) h Q E:=by
 unfold oU;refine cg (by rfl) ?_;refine aJ (R:=λσ h1=>∃a,Pre h h1/\h1[a]?=some (.lst ((ci count).map λk=>.str (f8 (cell ns 1) k)))/\σ=[some sv,some (.int st),some (.int count),some (.int size),some (.ref a),none,none,none,none]) ?_ ?_
 ·simp[cw (show(0:Int)≤1 by decide) Pre.refl];exact HW hz λh1 p1=>⟨p1.snoc _,by simp⟩
 rintro _ h1 ⟨a,p1,ha,rfl⟩;refine aJ (R:=λσ h2=>h2=h1++[.lst ((dy ns st 0 size).map Rt.row)]/\σ=[some sv,some (.int st),some (.int count),some (.int size),some (.ref a),some (.ref h1.length),none,none,none]) (by simp[dy]) ?_;rintro _ _ ⟨rfl,rfl⟩;refine aJ (R:=λσ h2=>h2=h1++[.lst ((dy ns st count size).map Rt.row)]/\∃x y z,σ=[some sv,some (.int st),some (.int count),some (.int size),some (.ref a),some (.ref h1.length),x,y,z]) ?_ ?_
 ·rw[eE];refine cI (kZ (n:=count) (h':=h1++[.lst ((dy ns st 0 size).map Rt.row)]) rfl ⟨by lia,by lia⟩ (by simp)) ?_;refine dR (λk σ h2=>k≤count/\h2=h1++[.lst ((dy ns st k size).map Rt.row)]/\∃x y z,σ=[some sv,some (.int st),some (.int count),some (.int size),some (.ref a),some (.ref h1.length),x,y,z]) (λ_ _ _ _=>rfl) (λk x σ h2 hx ⟨hk,eh,u,v,w,es⟩=>?_) (λσ h2 ⟨hk,eh,r⟩=>?_) ⟨by lia,rfl,_,_,_,rfl⟩
  ·subst eh;subst es;have hk:k<count:=by
    have:=(bN.mp hx).1
    rwa [gM]at this
   rw[my hk]at hx;cases hx;have e0:(0:Int)+(k:Int)=k:=by lia
   have c0:(0:Int)≤st+3*k:=by lia
   have c1:(0:Int)≤st+3*k+1:=by lia
   have c2:(0:Int)≤st+3*k+2:=by lia
   have ga:∀o,(h1++[o])[a]?=some (.lst ((ci count).map λk=>.str (f8 (cell ns 1) k))):=λo=>dH ha;have gn:atN ((ci count).map λk=>MV.str (f8 (cell ns 1) k)) (k:Int)=some (.str (f8 (cell ns 1) k)):=by
    rw[jd,bj,gR hk];rfl
   have tl:((dy ns st k size).map Rt.row).length<100000:=by rw[bS,uv];lia
   have sz:(0:Int)<size:=by lia
   have m0:=gZ (cell ns (st+3*(k:Int))) (show(size:Int)≠0 by lia);have snoc:(dy ns st k size).map Rt.row++[.tup [.str (f8 (cell ns 1) k),.int (cell ns (st+3*k)%size),.int (jO (cell ns (st+3*k+1))),.int (se (cell ns (st+3*k+2)))]]=(dy ns st (k+1) size).map Rt.row:=by
    unfold dy;rw[nj,dm,dm];simp only[bz,lH];have:((cell ns (st+3*(k:Int))%(size:Int)).toNat:Int)=cell ns (st+3*(k:Int))%(size:Int):=by lia
    unfold Rt.row xg;simp only[this]
   have bm:(-18446744073709551616:Int)<(k:Int)/\(k:Int)<18446744073709551616:=by lia
   generalize hB:h1++[MO.lst ((dy ns st k size).map Rt.row)]=hk1;have pk:Pre h hk1:=hB▸p1.snoc _;simp only[cj,d0,d5,e0];refine aJ (R:=λσ h=>hk1=h/\σ=[some sv,some (.int st),some (.int count),some (.int size),some (.ref a),some (.ref h1.length),some (.int k),some (.int (cell ns (st+3*k+1))),w]) (by simp[cw c1 pk,bm]) ?_;rintro _ _ ⟨rfl,rfl⟩;refine aJ (R:=λσ h=>hk1=h/\σ=[some sv,some (.int st),some (.int count),some (.int size),some (.ref a),some (.ref h1.length),some (.int k),some (.int (cell ns (st+3*k+1))),some (.int (cell ns (st+3*k+2)))]) (by simp[cw c2 pk,bm]) ?_;rintro _ _ ⟨rfl,rfl⟩;refine aJ (R:=λσ h=>hk1=h/\σ=[some sv,some (.int st),some (.int count),some (.int size),some (.ref a),some (.ref h1.length),some (.int k),some (.int (jO (cell ns (st+3*k+1)))),some (.int (cell ns (st+3*k+2)))]) ?_ ?_
   ·unfold jO;by_cases ca:cell ns (st+3*k+1)%7=6 <;> simp[ca]
   rintro _ _ ⟨rfl,rfl⟩;refine aJ (R:=λσ h=>hk1=h/\σ=[some sv,some (.int st),some (.int count),some (.int size),some (.ref a),some (.ref h1.length),some (.int k),some (.int (jO (cell ns (st+3*k+1)))),some (.int (se (cell ns (st+3*k+2))))]) ?_ ?_
   ·unfold se;by_cases cd:cell ns (st+3*k+2)%5=4 <;> simp[cd]
   rintro _ _ ⟨rfl,rfl⟩;subst hB;simp[cw c0 (p1.snoc _),ga,gn,tl,sz,bm,snoc,uv];lia
  ·rw[gM]at eh;exact⟨σ,rfl,eh,r⟩
 rintro _ _ ⟨rfl,x,y,z,rfl⟩;simp;exact q h1 p1 p1.len
theorem DA{ns:List Int}{st:Int}{count size:Nat}{h:MH}{Q:MV->MH->Prop}{E:Nat->MH->Prop}(h0:0≤st)(hs:1≤size)(hz:count≤100)(q:∀h',Pre h h'->h.length≤h'.length->Q (.ref h'.length) (h'++[.lst ((dy ns st count size).map Rt.row)])) :
  wp (oU [.scr ns,.int st,.int count,.int size]) h Q E:=EI (λhk _=>ik hk) h0 hs hz q
abbrev Rid:=Rt×Nat
noncomputable def rtO(r:Rt):MO:=.ins 2 [("point",.int r.pt),("amount",.int r.am),("date",.int r.dt)]
noncomputable def eS(rs:List Rid):List (Str×MV):=rs.map λx=>(x.1.nm,.ref x.2)
structure cP(h:MH)(bk r d:Nat)(rs:List Rid):Prop where
 ob:h[bk]?=some (.ins 3 [("stream",.ref r),("held",.ref d)])
 dc:h[d]?=some (.dct (eS rs))
 it:∀x∈rs,h[x.2]?=some (rtO x.1)
 nd:(rs.map (·.2)).Nodup
 nm:Names (rs.map (·.1))
noncomputable abbrev aW(rs:List Rid):List Rt:=rs.map (·.1)
theorem yX{rs:List Rid}(n:Names (aW rs)){x:Rid}(hx:x∈rs):dget x.1.nm (eS rs)=some (.ref x.2):=by
 induction rs with
 |nil=>cases hx
 |cons y r ih=>
   have n':(y.1.nm::(aW r).map (·.nm)).Nodup:=n;obtain⟨n1,n2⟩:=gu.mp n';show(if y.1.nm=x.1.nm then some (MV.ref y.2) else dget x.1.nm (eS r))=_;rcases bK.mp hx with e|e
   ·subst e;rw[if_pos rfl]
   ·have ne:y.1.nm≠x.1.nm:=λz=>n1 (by rw[z];exact bO.mpr ⟨x.1,bO.mpr ⟨x,e,rfl⟩,rfl⟩);rw[if_neg ne];exact ih n2 e
theorem xS{rs:List Rid}{k:Str}(hk:k∉(aW rs).map (·.nm)):dget k (eS rs)=none:=by
 induction rs with
 |nil=>rfl
 |cons y r ih=>
   simp only[aW,bz,bK,not_or]at hk;show(if y.1.nm=k then some (MV.ref y.2) else dget k (eS r))=none;rw[if_neg (λz=>hk.1 z.symm)];exact ih hk.2
theorem vb(rs:List Rid):(eS rs).length=rs.length:=by simp[eS]
theorem Dx{rs:List Rid}{k:Str}{v:MV}(hk:k∉(aW rs).map (·.nm)):dput k v (eS rs)=eS rs++[(k,v)]:=by
 unfold dput;rw[xS hk];simp
theorem cP.off{h h':MH}{bk r d:Nat}{rs:List Rid}{S:List Nat}(B:cP h bk r d rs)(o:Off S h h')(h1:bk∉S)(h2:d∉S)(h3:∀x∈rs,x.2∉S):cP h' bk r d rs:=
 ⟨o.get B.ob h1,o.get B.dc h2,λx hx=>o.get (B.it x hx) (h3 x hx),B.nd,B.nm⟩
theorem cP.pre{h h':MH}{bk r d:Nat}{rs:List Rid}(B:cP h bk r d rs)(p:Pre h h'):cP h' bk r d rs:=B.off (S:=[]) p.off (by simp) (by simp) (by simp)
theorem cW.off{h h':MH}{r:Nat}{b:List Nat}{S:List Nat}(R:cW h r b)(o:Off S h h')(hS:∀n∈S,∀ob,h[n]?=some ob->(∀xs,ob≠.lst xs)/\∀fs,ob≠.ins 1 fs):cW h' r b:=by
 obtain⟨⟨l,h1,h2⟩,w,f⟩:=R;exact⟨⟨l,o.get h1 (λz=>(hS r z _ h1).2 _ rfl),o.get h2 (λz=>(hS l z _ h2).1 _ rfl)⟩,w,f⟩
noncomputable def own(d:Nat)(rs:List Rid):List Nat:=d::rs.map (·.2)
theorem cP.own_ob{h:MH}{bk r d:Nat}{rs:List Rid}(B:cP h bk r d rs){n:Nat}{o:MO}(hn:n∈own d rs)(e:h[n]?=some o):(∃kvs,o=.dct kvs)∨∃fs,o=.ins 2 fs:=by
 rcases bK.mp hn with z|z
 ·subst z;rw[B.dc]at e;cases e;exact .inl ⟨_,rfl⟩
 ·obtain⟨x,hx,rfl⟩:=bO.mp z;rw[B.it x hx]at e;cases e;exact .inr ⟨_,rfl⟩
theorem cP.river{h h':MH}{bk r d:Nat}{rs:List Rid}{b:List Nat}(B:cP h bk r d rs)(R:cW h r b)(o:Off (own d rs) h h'):cW h' r b:=
 R.off o λn hn ob e=>by
  rcases B.own_ob hn e with⟨_,z⟩|⟨_,z⟩ <;> (subst z;exact⟨(λ_ y=>nomatch y),(λ_ y=>nomatch y)⟩)
theorem D6{d:Nat}{rs:List Rid}{h h':MH}(o:Off [d] h h'):Off (own d rs) h h':=o.mono λn hn=>by rw[cT.mp hn];exact fA
section
variable {h:MH}{bk r d:Nat}{rs:List Rid}{b:List Nat}{Q:MV->MH->Prop}{E:Nat->MH->Prop}
theorem cP.meth(B:cP h bk r d rs){f:Fn}{mth:String}{a:MA}{σ:MSt}{i:Nat}(hm:(mth == "stream")=false/\(mth == "held")=false)(hs:σ[i]?=some (some (.ref bk))):wp (bG 3 mth f (ae i) a σ) h Q E=wp (a σ) h (λxs h2=>wp (f (.ref bk::xs)) h2 Q E) E:=by
 have h1:=B.ob;have hm1:mth≠"stream":=by simpa using hm.1
 have hm2:mth≠"held":=by simpa using hm.2
 have lk:dQ mth [("stream",MV.ref r),("held",MV.ref d)]=none:=by simp only[bW,hm.1,hm.2,oW]
 simp only[qF,aK,hs,h1,lk,true_and]
theorem Fi(B:cP h bk r d rs){x:Rid}(hx:x∈rs):wp (nv [.ref bk,.str x.1.nm]) h Q E=Q (.ref x.2) h:=by
 have g:=yX B.nm hx;have h1:=B.ob;have h2:=B.dc;have key:nv [.ref bk,.str x.1.nm] h=.ok (.ref x.2) h:=by
  simp[nv,uY,fnOf,bnd,au,sIf,tst,aj,ae,aZ,ret,look,h1,h2,bW,oIn,g,asB,b9,bn,oIx]
 unfold wp;rw[key]
theorem Fg(B:cP h bk r d rs){k:Str}(hk:k∉(aW rs).map (·.nm)):wp (oH [.ref bk,.str k]) h Q E=Q .non h:=by
 have g:=xS hk;have h1:=B.ob;have h2:=B.dc;have key:oH [.ref bk,.str k] h=.ok .non h:=by
  simp[oH,uQ,fnOf,bnd,au,sIf,tst,aj,ae,aZ,ret,look,h1,h2,bW,oIn,g,asB,b9]
 unfold wp;rw[key]
theorem pL(B:cP h bk r d rs){x:Rid}(hx:x∈rs):wp (jP [.ref bk,.str x.1.nm]) h Q E=Q x.1.val h:=by
 have key:jP [.ref bk,.str x.1.nm] h=.ok x.1.val h:=by
  have c:=Fi (Q:=λv h'=>v=.ref x.2/\h'=h) (E:=noE) B hx;obtain⟨v,h',e,rfl,rfl⟩:=mC (cast c.symm ⟨rfl,rfl⟩);have h1:=B.ob;have h3:=B.it x hx;unfold rtO at h3;simp[jP,wN,fnOf,bnd,au,aY,bG,ao,az,ae,ret,look,h1,h3,bW,e,bn,dX,aZ,Rt.val]
 unfold wp;rw[key]
theorem B5{r:Nat}(q:∀h',Pre h h'->cP h' h.length r (h.length+1) []->Q .non h'):wp (qH [.ref h.length,.ref r]) (h++[.ins 3 []]) Q E:=by
 unfold qH;refine cg (by rfl) ?_;simp[u0,putF];refine⟨by lia,?_⟩;refine q (h++[.ins 3 [("stream",.ref r),("held",.ref (h.length+1))],.dct []]) ⟨_,rfl⟩ ⟨?_,?_,?_,?_,?_⟩ <;> simp[eS,Names]
theorem Da(B:cP h bk r d rs)(R:cW h r b){x:Rt}(hk:x.nm∉(aW rs).map (·.nm))(hp:x.pt<b.length+1)(hz:rs.length<900)
  (q:∀h' a,Off [d] h h'->h.length≤a->cP h' bk r d (rs++[(x,a)])->Q (.int (rs.length+1)) h'):wp (pM [.ref bk,.str x.nm,.int x.pt,.int x.am,.int x.dt]) h Q E:=by
 unfold pM;refine cg (by rfl) ?_;have h1:=B.ob;have h2:=B.dc;have ld:=aS h2;refine aJ (R:=λσ h'=>h=h'/\σ=[some (.ref bk),some (.str x.nm),some (.int x.pt),some (.int x.am),some (.int x.dt)]) ?_ ?_
 ·rw[eI,B.meth (by decide) rfl];simp[Fg B hk]
 rintro _ _ ⟨rfl,rfl⟩;refine aJ (R:=λσ h'=>h=h'/\σ=[some (.ref bk),some (.str x.nm),some (.int x.pt),some (.int x.am),some (.int x.dt)]) ?_ ?_
 ·have c:=λQ=>tM (Q:=Q) (E:=E) (p:=(x.pt:Int)) R (by lia) (by lia);obtain⟨⟨l,g1,g2⟩,w,f⟩:=R;simp[h1,bW,g1,c]
 rintro _ _ ⟨rfl,rfl⟩;refine aJ (R:=λσ h'=>(∃a,Off [d] h h'/\h.length≤a/\cP h' bk r d (rs++[(x,a)]))/\σ=[some (.ref bk),some (.str x.nm),some (.int x.pt),some (.int x.am),some (.int x.dt)]) ?_ ?_
 ·have g1:∀t,(h++t)[bk]?=some (.ins 3 [("stream",.ref r),("held",.ref d)]):=λt=>dH h1;have g2:∀t,(h++t)[d]?=some (.dct (eS rs)):=λt=>dH h2;have hl:(eS rs).length<1000:=by rw[vb];lia
  simp[v5];refine cg (by rfl) ?_;simp[vz,putF,g1,g2,bW,hl,Dx hk];refine⟨by lia,?_⟩;refine⟨?_,h.length,bo _,?_⟩
  ·exact Off.trans (Pre.off ⟨_,rfl⟩) Off.set
  ·have nb:d≠bk:=λz=>by rw[z,h1]at h2;cases h2
   refine⟨?_,?_,λy hy=>?_,?_,?_⟩
   ·exact bL (dH h1) nb
   ·rw[jU (by simp;lia)];simp[eS]
   ·rcases fu.mp hy with hy|hy
    ·have h3:=B.it y hy;refine bL (dH h3) λz=>?_;rw[z,h3]at h2;cases h2
    ·rw[cT.mp hy];rw[kJ (by lia)];simp[rtO]
   ·rw[dm,hG];refine⟨B.nd,by simp,λa ha c hc=>?_⟩;simp at hc;subst hc;obtain⟨y,hy,rfl⟩:=bO.mp ha;have:=aS (B.it y hy);lia
   ·unfold Names;rw[dm,dm,hG];refine⟨B.nm,by simp,λa ha c hc=>?_⟩;simp at hc;subst hc;intro z;subst z;exact hk ha
 rintro _ h' ⟨⟨a,o,ha,B'⟩,rfl⟩;have h1':=B'.ob;have h2':=B'.dc;have hl:(eS (rs++[(x,a)])).length=rs.length+1:=by rw[vb];simp
 simp[h1',h2',bW,hl];exact q h' a o ha B'
theorem Bm{cs:List Nat}(hcs:cs.contains 2=true)(B:cP h bk r d rs):∀(l:List Rid),(∀x∈l,x∈rs)->eR (dX (ao (aZ (aj oIx (aZ (ae 1) [3] "held") (ae 0)) cs "date") (ao (ae 0) az))) [some (.ref bk)] ((eS l).map (·.1)) h=.ok (l.map λx=>.tup [.int x.1.dt,.str x.1.nm]) h
 |[],_=>rfl
 |x::l,hl=>by
   have hx:=hl x fA;have ih:=Bm hcs B l λy hy=>hl y (dO _ hy);have g:=yX B.nm hx;have h1:=B.ob;have h2:=B.dc;have h3:=B.it x hx;unfold rtO at h3;show eR _ _ (x.1.nm::(eS l).map (·.1)) h=_;unfold eR;have e:dX (ao (aZ (aj oIx (aZ (ae 1) [3] "held") (ae 0)) cs "date") (ao (ae 0) az)) [some (.str x.1.nm),some (.ref bk)] h=.ok (.tup [.int x.1.dt,.str x.1.nm]) h:=by
    simp[dX,ao,az,aZ,aj,ae,bnd,ret,look,h1,h2,h3,bW,oIx,g,-List.contains_eq_mem,hcs]
   rw[e];simp only[if_true];simp[bnd,ih,ret]
theorem IX(B:cP h bk r d rs)(hz:rs.length<64)(q:Q (.ref h.length) (h++[.lst ((aged (aW rs)).map λx=>.str x.nm)])):wp (mS [.ref bk]) h Q E:=by
 unfold mS;refine cg (by rfl) ?_;unfold vi;rw[iB];have h1:=B.ob;have h2:=B.dc;have hz':(aW rs).length<64:=by simpa[aW] using hz
 have ks:=λ{cs:List Nat} (hcs:cs.contains 2=true)=>Bm hcs B rs λ_ hx=>hx;obtain⟨six,_,_⟩:=wI B.nm hz';have er:fJ gH (rs.map λx=>MV.tup [.int x.1.dt,.str x.1.nm])=some ((aW rs).map Rt.key):=by
  have go:∀l:List Rid,fJ gH (l.map λx=>MV.tup [.int x.1.dt,.str x.1.nm])=some ((aW l).map Rt.key):=by
   intro l
   induction l with
   |nil=>rfl
   |cons x l ih=>simp only[bz,fJ,gH,km,rD,ih,aW];rfl
  exact go rs
 have ea:((aW rs).map Rt.key).all hU=true:=by simp[Rt.key,hU]
 have ep:pick ((eS rs).map λkv=>MV.str kv.1) (iS (aW rs))=(aged (aW rs)).map λx=>.str x.nm:=by
  rw[←B8 B.nm hz' (λx=>.str x.nm)];congr 1;simp[eS,aW]
 have key:∀{cs:List Nat},cs.contains 2=true->rC (aZ (ae 0) [3] "held") 0 (dX (ao (aZ (aj oIx (aZ (ae 1) [3] "held") (ae 0)) cs "date") (ao (ae 0) az))) [some (.ref bk)] h=.ok (.ref h.length) (h++[.lst ((aged (aW rs)).map λx=>.str x.nm)]):=λ{cs} hcs=>by
  have o1:aZ (ae 0) [3] "held" [some (.ref bk)] h=.ok (.ref d) h:=by simp[aZ,ae,bnd,ret,look,h1,bW]
  have o2:look d h=.ok (.dct (eS rs)) h:=by simp[look,h2]
  unfold rC;simp only[bnd,o1,o2];rw[if_pos (by rw[vb];exact hz)];have e0:(([some (MV.ref bk)]:MSt)[0]?).getD none=some (.ref bk):=rfl;rw[e0];simp only[bnd,ks hcs,er,six];rw[if_pos ea,ep];rfl
 exact cI (key rfl) q
end
def BkI(h h2:MH)(bk r d:Nat)(b:List Nat)(rts:List Rt):Prop:=∃rs,Off [] h h2/\cP h2 bk r d rs/\aW rs=rts/\cW h2 r b/\(∀x∈rs,h.length≤x.2)
theorem Ip{a l:Nat}{b:List Nat}{rts:List Rt}{h:MH}{Q:MV->MH->Prop}{E:Nat->MH->Prop}(ha:h[a]?=some (.lst (rows b)))(hl:h[l]?=some (.lst (rts.map Rt.row)))(wf:Wf b)(few:b.length<40)(n:Names rts)(hp:∀x∈rts,x.pt<b.length+1)(hz:rts.length<64)
  (q:∀h' bk r d rs,Off [] h h'->cP h' bk r d rs->aW rs=rts->cW h' r b->h.length≤bk->h.length≤d->(∀x∈rs,h.length≤x.2)->Q (.ref bk) h'):wp (sN [.ref a,.ref l]) h Q E:=by
 unfold sN;refine cg (by rfl) ?_;refine aJ (R:=λσ h1=>∃bk r d,Pre h h1/\cP h1 bk r d []/\cW h1 r b/\h.length≤bk/\h.length≤d/\σ=[some (.ref a),some (.ref l),some (.ref bk),none]) ?_ ?_
 ·rw[cq,wC,bv,wC,bv];refine cI (a:=.ref h.length) (h':=h++[.lst (rows b)]) (by simp[eUn,ae,bnd,ret,mx,look,ha,new]) ?_;rw[bp];refine Cn (a:=h.length) bE wf few λh1 p1 R1=>?_;refine⟨rfl,?_⟩;rw[bp];refine B5 λh2 p2 B2=>?_;have p0:=(Pre.app (h:=h) (.lst (rows b))).trans p1;exact⟨rfl,_,rfl,_,_,_,p0.trans p2,B2,R1.pre p2,p0.len,by have:=p0.len;lia,rfl⟩
 rintro _ h1 ⟨bk,r,d,p1,B1,R1,lb,ld,rfl⟩;have hl1:=p1.get hl;refine aJ (R:=λσ h2=>BkI h h2 bk r d b rts/\∃x,σ=[some (.ref a),some (.ref l),some (.ref bk),x]) ?_ ?_
 ·rw[eE];refine cI (fE (n:=l) (h':=h1) rfl hl1) ?_;refine dR (λk σ h2=>BkI h h2 bk r d b (rts.take k)/\∃x,σ=[some (.ref a),some (.ref l),some (.ref bk),x]) (λk σ h2 ⟨⟨rs,o,_⟩,_⟩=>d6 (o.get hl (by simp))) (λk x σ h2 hx ⟨⟨rs,o,B,er,R,hi⟩,u,es⟩=>?_) (λσ h2 ⟨⟨rs,o,B,er,R,hi⟩,i⟩=>?_) ⟨⟨[],p1.off,B1,rfl,R1,by simp⟩,_,rfl⟩
  ·subst es;rw[bj,bj]at hx;cases ek:rts[k]? with
   |none=>rw[ek]at hx;cases hx
   |some y=>
     rw[ek]at hx;cases hx;have hk:=(bN.mp ek).1;have fresh:y.nm∉(aW rs).map (·.nm):=by
      rw[er];intro z;obtain⟨y',hy',e'⟩:=bO.mp z;obtain⟨j,hj⟩:=tu.mp hy';have hjk:j<k:=by
       have:=(bN.mp hj).1;rw[il]at this;lia
      rw[sf hjk]at hj;exact n.get hj ek (by lia) e'
     have lr:rs.length=k:=by
      have:=congrArg i9 er;rw[bS,il]at this;lia
     simp only[cj,eI,d0,d5];rw[B.meth (by decide) rfl];have i0:∀u v w z:MV,atN [u,v,w,z] 0=some u:=λ_ _ _ _=>rfl;have i1:∀u v w z:MV,atN [u,v,w,z] 1=some v:=λ_ _ _ _=>rfl;have i2:∀u v w z:MV,atN [u,v,w,z] 2=some w:=λ_ _ _ _=>rfl;have i3:∀u v w z:MV,atN [u,v,w,z] 3=some z:=λ_ _ _ _=>rfl;simp[Rt.row,i0,i1,i2,i3];refine Da B R fresh (hp y (de ek)) (by lia) λh3 ad o3 hd B3=>?_;have o4:Off [] h h3:=o.fresh o3 (by simp;exact ld);refine⟨rs++[(y,ad)],o4,B3,?_,B.river R (D6 o3),?_⟩
     ·show(rs++[(y,ad)]).map (·.1)=_;rw[dm,show rs.map (·.1)=rts.take k from er,fR,ek];rfl
     ·intro x hx;rcases fu.mp hx with hx|hx
      ·exact hi x hx
      ·rw[cT.mp hx];exact cL o.2 hd
  ·refine⟨σ,rfl,⟨rs,o,B,?_,R,hi⟩,i⟩;rw[er];simp
 rintro _ h2 ⟨⟨rs,o,B,er,R,hi⟩,x,rfl⟩;simp;exact q h2 bk r d rs o B er R lb ld hi
section
variable {h:MH}{bk r d:Nat}{rs:List Rid}{b:List Nat}{Q:MV->MH->Prop}{E:Nat->MH->Prop}
end
theorem zv{α β:Type}{f:α->β}:∀{l:List α},(l.map f).Nodup->∀{x y:α},x∈l->y∈l->f x=f y->x=y
 |[],_,_,_,hx,_,_=>by cases hx
 |a::l,n,x,y,hx,hy,e=>by
   obtain⟨n1,n2⟩:=gu.mp n;rcases bK.mp hx with hx|hx <;> rcases bK.mp hy with hy|hy
   ·rw[hx,hy]
   ·refine absurd ?_ n1;rw[←hx,e];exact bO.mpr ⟨y,hy,rfl⟩
   ·refine absurd ?_ n1;rw[←hy,←e];exact bO.mpr ⟨x,hx,rfl⟩
   ·exact zv n2 hx hy e
section
variable {h:MH}{bk r d:Nat}{rs:List Rid}{b:List Nat}{Q:MV->MH->Prop}{E:Nat->MH->Prop}
end
section
variable {h:MH}{bk r d:Nat}{rs:List Rid}{b:List Nat}{Q:MV->MH->Prop}{E:Nat->MH->Prop}
end
noncomputable def cA(b:List Nat):(Nat->Int)->List Want->Nat->Int
 |f,[]=>f
 |f,w::r=>cA b (lower f (dJ f w.2 (aN b w.1)) (aN b w.1)) r
noncomputable def bR(b:List Nat):(Nat->Int)->List Want->List Int
 |_,[]=>[]
 |f,w::r=>dJ f w.2 (aN b w.1)::bR b (lower f (dJ f w.2 (aN b w.1)) (aN b w.1)) r
theorem A8(b:List Nat)(w:Want):∀(l:List Want) (f:Nat->Int),cA b f (l++[w])=lower (cA b f l) (dJ (cA b f l) w.2 (aN b w.1)) (aN b w.1)
 |[],f=>rfl
 |x::l,f=>A8 b w l _
theorem wc(b:List Nat)(w:Want):∀(l:List Want) (f:Nat->Int),bR b f (l++[w])=bR b f l++[dJ (cA b f l) w.2 (aN b w.1)]
 |[],f=>rfl
 |x::l,f=>by
   show dJ f x.2 (aN b x.1)::bR b _ (l++[w])=_;rw[wc b w l];rfl
theorem rq(b:List Nat):∀(l:List Want) (f:Nat->Int),(bR b f l).length=l.length
 |[],f=>rfl
 |x::l,f=>by
   show(bR b _ l).length+1=_;rw[rq b l];rfl
section
variable {h:MH}{r:Nat}{b:List Nat}{Q:MV->MH->Prop}{E:Nat->MH->Prop}
theorem Em{a c n:Nat}{y:Nat->Int}{ws:List Want}(R:cW h r b)(ha:h[a]?=some (.lst (tab n y)))(hc:h[c]?=some (.lst (ws.map Want.v)))(hn:n=b.length+1)(bd:∀k,k<n->0≤y k/\y k≤1000000)(hp:∀w∈ws,w.1<b.length+1)(few:ws.length<1000)
  (q:∀h' x z,Pre h h'->h.length≤x->h.length≤z->h'[x]?=some (.lst (zs (bR b (bF b n y) ws)))->h'[z]?=some (.lst (tab n (cA b (bF b n y) ws)))->Q (.tup [.ref x,.ref z]) h'):wp (qV [.ref r,.ref a,.ref c]) h Q E:=by
 unfold qV;refine cg (by rfl) ?_;have fewb:=R.few;have wf:=R.wf;refine aJ (R:=λσ h1=>∃x,Pre h h1/\h.length≤x/\h1[x]?=some (.lst (tab n (bF b n y)))/\σ=[some (.ref r),some (.ref a),some (.ref c),some (.ref x),none,none,none,none,none,none]) ?_ ?_
 ·have z0:(bU n [MV.int 0]).flatten=tab n λ_=>0:=by
   have:∀m:Nat,(bU m [MV.int 0]).flatten=tab m λ_=>0:=by
    intro m
    induction m with
    |zero=>rfl
    |succ m ih=>rw[←tW,←ih,List.replicate_succ',List.flatten_append];rfl
   exact this n
  have R1:=R.pre (Pre.app (.lst [MV.int 0]));have n0:((b.length:Int)+1).toNat=n:=by lia
  have m1:(-1000000:Int)≤(b.length:Int)+1/\(b.length:Int)+1≤1000000/\[MV.int 0].length*((b.length:Int)+1).toNat≤100000:=⟨by lia,by lia,by simp;lia⟩
  rw[cq,dG];simp only[bv,bp,aK,aM,aR,bq,sJ,w_c,fG,jc];refine⟨by decide,?_⟩;rw[R1.meth (by decide) rfl,bp,tY R1,CG];simp only[bE,n0,z0];refine⟨⟨by lia,by lia,by simp;lia⟩,?_⟩;have p2:=(Pre.app (h:=h) (.lst [MV.int 0])).snoc (.lst (tab n λ_=>0));refine Dg (R.pre p2) (p2.get ha) bE hn bd λh' x p hx e=>?_;have e0:(λk=>y k-(λ_=>(0:Int)) k)=y:=by funext k;simp
  rw[e0]at e;exact⟨_,rfl,x,p2.trans p,cL p2.len hx,e,rfl⟩
 rintro _ h1 ⟨x,p1,hx,ex,rfl⟩;refine aJ (R:=λσ h2=>h2=h1++[.lst []]/\σ=[some (.ref r),some (.ref a),some (.ref c),some (.ref x),some (.ref h1.length),none,none,none,none,none]) (by simp) ?_;rintro _ _ ⟨rfl,rfl⟩;have lx:=aS ex;generalize ef:bF b n y=f0 at q ex;refine aJ (R:=λσ h2=>(Pre h h2/\h2[x]?=some (.lst (tab n (cA b f0 ws)))/\h2[h1.length]?=some (.lst (zs (bR b f0 ws))))/\∃u1 u2 u3 u4 u5,σ=[some (.ref r),some (.ref a),some (.ref c),some (.ref x),some (.ref h1.length),u1,u2,u3,u4,u5]) ?_ ?_
 ·rw[eE];have hc1:(h1++[MO.lst []])[c]?=some (.lst (ws.map Want.v)):=dH (p1.get hc);refine cI (vh (n:=c) (h':=h1++[.lst []]) (rs:=ws.map λw=>[.int w.1,.int w.2]) rfl hc1 (zu λw _=>⟨rfl,rfl⟩)) ?_;refine dR (λk σ h2=>(Pre h h2/\h2[x]?=some (.lst (tab n (cA b f0 (ws.take k))))/\h2[h1.length]?=some (.lst (zs (bR b f0 (ws.take k)))))/\∃u1 u2 u3 u4 u5,σ=[some (.ref r),some (.ref a),some (.ref c),some (.ref x),some (.ref h1.length),u1,u2,u3,u4,u5])
   (λk σ h2 ⟨⟨p2,_⟩,_⟩=>d6 (p2.get hc)) (λk v σ h2 hv ⟨⟨p2,e2,e3⟩,u1,u2,u3,u4,u5,es⟩=>?_) (λσ h2 ⟨⟨p2,e2,e3⟩,i⟩=>?_) ⟨⟨p1.snoc _,dH ex,bE⟩,_,_,_,_,_,rfl⟩
  ·subst es;rw[bj]at hv;cases ek:ws[k]? with
   |none=>rw[ek]at hv;cases hv
   |some w=>
     rw[ek]at hv;cases hv;have hk:=(bN.mp ek).1;have hw:=hp w (de ek);have R2:=R.pre p2;have tk:ws.take (k+1)=ws.take k++[w]:=by rw[fR,ek];rfl
     have l3:=aS e3;have l2:=aS e2;generalize hf:cA b f0 (ws.take k)=f at e2;generalize ht:bR b f0 (ws.take k)=ts at e3;have lts:ts.length<1000:=by rw[←ht,rq,il];lia
     obtain⟨mono,nd⟩:=tR wf w.1 hw;have wl:=xC wf w.1 hw;simp only[cj,d0,d5];refine aJ (R:=λσ h3=>h3=h2++[.lst (nats (aN b w.1))]/\σ=[some (.ref r),some (.ref a),some (.ref c),some (.ref x),some (.ref h1.length),some (.int w.1),some (.int w.2),some (.ref h2.length),u4,u5]) ?_ ?_
     ·rw[cq,R2.meth (by decide) rfl];simp only[bv,bp,aK,aM,aR];exact A7 R2 hw ⟨_,rfl,rfl,rfl⟩
     rintro _ _ ⟨rfl,rfl⟩;have e2':(h2++[MO.lst (nats (aN b w.1))])[x]?=some (.lst (tab n f)):=dH e2;have e3':(h2++[MO.lst (nats (aN b w.1))])[h1.length]?=some (.lst (zs ts)):=dH e3;obtain⟨p0,pr,ew⟩:∃p0 pr,aN b w.1=p0::pr:=by
      have z:=AR wf w.1 hw;cases e:aN b w.1 with
      |nil=>rw[e]at z;cases z
      |cons p0 pr=>exact⟨p0,pr,rfl⟩
     refine aJ (R:=λσ h3=>Pre (h2++[.lst (nats (aN b w.1))]) h3/\σ=[some (.ref r),some (.ref a),some (.ref c),some (.ref x),some (.ref h1.length),some (.int w.1),some (.int w.2),some (.ref h2.length),some (.int (dJ f w.2 (aN b w.1))),u5]) ?_ ?_
     ·rw[cq,bq,aK];simp only[aM,aR];rw[hX];refine ki (aN b w.1) (λp=>[.int p]) (λ_=>true) (λp=>.int (f p)) (fE (n:=h2.length) (h':=h2++[.lst (nats (aN b w.1))]) rfl bE) (by simp[nats]) (λh' p=>d6 (p.get bE)) (by lia) (λv hv h3 p3=>?_) (λv hv _ h3 p3=>?_) λh3 p3=>?_
      ·simp[fi,bx,Pre.refl]
      ·have g:=p3.get e2';have hvn:v<n:=by have:=mono v hv;lia
       simp[g,iM hvn,Pre.refl]
      ·rw[lU];have e4:(aN b w.1).map (λp=>MV.int (f p))=zs (f p0::pr.map f):=by rw[ew];simp[zs]
       rw[e4];have wl':(aN b w.1).length=pr.length+1:=by rw[ew];rfl
       refine BR bE (by simp;lia) ?_;rw[xZ];refine⟨_,rfl,p3.snoc _,?_⟩;rw[ew];rfl
     rintro _ h3 ⟨p3,rfl⟩;have e5:=p3.get e2';have e6:=p3.get e3';have e7:=p3.get (bE (h:=h2) (o:=MO.lst (nats (aN b w.1))));generalize htk:dJ f w.2 (aN b w.1)=t;have nx:h2.length≠x:=by lia
     have nx1:h1.length≠x:=by lia
     have nx2:h2.length≠h1.length:=by lia
     refine aJ (R:=λσ h4=>(Pre h h4/\h4[x]?=some (.lst (tab n (lower f t (aN b w.1))))/\h4[h1.length]?=some (.lst (zs ts)))/\∃u,σ=[some (.ref r),some (.ref a),some (.ref c),some (.ref x),some (.ref h1.length),some (.int w.1),some (.int w.2),some (.ref h2.length),some (.int t),u]) ?_ ?_
     ·rw[eE];refine cI (fE (n:=h2.length) (h':=h3) rfl e7) ?_;refine dR (λj σ h4=>(Pre h h4/\h4[x]?=some (.lst (tab n (lower f t ((aN b w.1).take j))))/\h4[h1.length]?=some (.lst (zs ts))/\h4[h2.length]?=some (.lst (nats (aN b w.1))))/\∃u,σ=[some (.ref r),some (.ref a),some (.ref c),some (.ref x),some (.ref h1.length),some (.int w.1),some (.int w.2),some (.ref h2.length),some (.int t),u])
       (λj σ h4 ⟨⟨_,_,_,g⟩,_⟩=>d6 g) (λj v σ h4 hv ⟨⟨p4,g1,g2,g3⟩,u,es⟩=>?_) (λσ h4 ⟨⟨p4,g1,g2,g3⟩,i⟩=>?_) ⟨⟨(p2.snoc _).trans p3,?_,e6,e7⟩,_,rfl⟩
      ·subst es;unfold nats at hv;rw[bj,bj]at hv;cases ej:(aN b w.1)[j]? with
       |none=>rw[ej]at hv;cases hv
       |some pj=>
         rw[ej]at hv;cases hv;have hjn:pj<n:=by have:=mono pj (de ej);lia
         have nin:pj∉(aN b w.1).take j:=by
          intro z;obtain⟨i,hi⟩:=tu.mp z;have hij:i<j:=by
           have:=(bN.mp hi).1;rw[il]at this;lia
          rw[sf hij]at hi;have:=(List.getElem?_inj (bN.mp hi).1 nd).mp (hi.trans ej.symm);lia
         have lo:lower f t ((aN b w.1).take j) pj=f pj:=by unfold lower;rw[if_neg nin]
         have tj:(aN b w.1).take (j+1)=(aN b w.1).take j++[pj]:=by rw[fR,ej];rfl
         have st:(tab n (lower f t ((aN b w.1).take j))).set pj (.int (f pj-t))=tab n (lower f t ((aN b w.1).take (j+1))):=by
          rw[pN];refine jt λi _=>?_;unfold lower;rw[tj];by_cases ei:i=pj
          ·subst ei;simp
          ·simp[ei]
         have ix:ixN (tab n (lower f t ((aN b w.1).take j))).length (pj:Int)=some pj:=pX (by rw[hI];exact hjn);have lh:=aS g1;simp only[cj,d0,d5,wP,aK,aM,aR,zS,fS,g1];rw[iM hjn];dsimp only;rw[lo,kM];simp only[E6,g1,ix,st];refine⟨lh,⟨p4.set hx,dU lh,bL g2 (Ne.symm nx1),bL g3 (Ne.symm nx)⟩,_,rfl⟩
      ·refine⟨σ,rfl,⟨p4,?_,g2⟩,i⟩;rw[g1];simp[nats]
      ·rw[e5];have:lower f t ((aN b w.1).take 0)=f:=by funext i;simp[lower]
       rw[this]
     rintro _ h4 ⟨⟨p4,g1,g2⟩,u,rfl⟩;have lh:=aS g2;have sz:(zs ts).length<100000:=by simp[zs];lia
     simp only[eI,lN,aK,aM,aR,g2];have h1l:h.length≤h1.length:=p1.len;have fin:zs ts++[.int t]=zs (bR b f0 (ws.take (k+1))):=by
      rw[tk,wc,hf,ht,htk];simp[zs]
     rw[fin];refine⟨sz,lh,⟨p4.set h1l,bL ?_ nx1,dU lh⟩,_,_,_,_,_,rfl⟩;rw[g1,tk,A8,hf,htk]
  ·rw[bS,kP]at e2 e3;exact⟨σ,rfl,⟨p2,e2,e3⟩,i⟩
 rintro _ h2 ⟨⟨p2,e2,e3⟩,u1,u2,u3,u4,u5,rfl⟩;simp;exact q h2 _ _ p2 p1.len hx e3 e2
end
noncomputable def pv(p:Str×Int):MV:=.tup [.str p.1,.int p.2]
section
variable {h:MH}{bk r d:Nat}{rs:List Rid}{b:List Nat}{Q:MV->MH->Prop}{E:Nat->MH->Prop}
theorem xc(B:cP h bk r d rs):wp (jK [.ref bk]) h Q E↔Q (.ref r) h:=by
 have h1:=B.ob;have key:jK [.ref bk] h=.ok (.ref r) h:=by
  simp[jK,vj,fnOf,bnd,bn,aZ,ae,ret,look,h1,bW]
 unfold wp;rw[key]
end
theorem Ge(ps:List (Str×Int)):dM (ps.map pv) (ps.map pv)=ps.map λp=>[pv p,pv p]:=by
 induction ps with
 |nil=>rfl
 |cons p ps ih=>simp[dM,ih]
theorem BG{h:MH}{a c:Nat}{ps:List (Str×Int)}{Q:MV->MH->Prop}{E:Nat->MH->Prop}(ha:h[a]?=some (.lst (ps.map pv)))(hc:h[c]?=some (.lst (ps.map pv)))(q:Q (.bl true) h):wp (oK [.ref a,.ref c]) h Q E:=by
 unfold oK;refine cg (by rfl) ?_;have a0:∀u v:MV,atN [u,v] 0=some u:=λ_ _=>rfl;have a1:∀u v:MV,atN [u,v] 1=some v:=λ_ _=>rfl;refine aJ (R:=λσ h1=>h=h1/\σ=[some (.ref a),some (.ref c),none,none]) (by simp[ha,hc,gU,aL,dB,bx]) ?_;rintro _ _ ⟨rfl,rfl⟩;refine aJ (R:=λσ h1=>h=h1/\∃x y,σ=[some (.ref a),some (.ref c),x,y]) ?_ ?_
 ·rw[eE];refine cI (ua rfl rfl ha hc) ?_;refine dR (λk σ h1=>h=h1/\∃x y,σ=[some (.ref a),some (.ref c),x,y]) (λk σ h1 ⟨e,_⟩=>e▸vD ha hc) (λk v σ h1 hv ⟨e,x,y,es⟩=>?_) (λσ h1 i=>⟨σ,rfl,i⟩) ⟨rfl,_,_,rfl⟩;subst e;subst es;dsimp only at hv;rw[Ge,bj]at hv;cases ek:ps[k]? with
  |none=>rw[ek]at hv;cases hv
  |some p=>
    rw[ek]at hv;cases hv;simp[cj,pv,a0,a1,uC,gU,aL,dB,bx]
 rintro _ _ ⟨rfl,x,y,rfl⟩;simp;exact q
noncomputable def tkF:List (Nat×Int)->Nat->Int
 |[],_=>0
 |x::r,p=>(if p=x.1 then x.2 else 0)+tkF r p
noncomputable def wsum(b:List Nat):List (Nat×Int)->Nat->Int
 |[],_=>0
 |x::r,p=>(if p∈aN b x.1 then x.2 else 0)+wsum b r p
noncomputable def eV(b:List Nat):(Nat->Int)->List Want->List (Nat×Int)
 |_,[]=>[]
 |f,w::r=>(w.1,dJ f w.2 (aN b w.1))::eV b (lower f (dJ f w.2 (aN b w.1)) (aN b w.1)) r
theorem yu(b:List Nat)(w:Want):∀(l:List Want) (f:Nat->Int),eV b f (l++[w])=eV b f l++[(w.1,dJ (cA b f l) w.2 (aN b w.1))]
 |[],f=>rfl
 |x::l,f=>by
   show(x.1,_)::eV b _ (l++[w])=_;rw[yu b w l];rfl
theorem ye(q:Nat)(t:Int)(p:Nat):∀(l:List (Nat×Int)),tkF (l++[(q,t)]) p=tkF l p+if p=q then t else 0
 |[]=>by simp[tkF]
 |x::l=>by
   show _+tkF (l++[(q,t)]) p=_+tkF l p+_;rw[ye q t p l];lia
theorem Aq{b:List Nat}{x:Nat×Int}:∀{l:List Want}{f:Nat->Int},x∈eV b f l->∃w∈l,w.1=x.1
 |w::l,f,h=>by
   rcases bK.mp h with rfl|h
   ·exact⟨w,fA,rfl⟩
   ·obtain⟨w',h1,h2⟩:=Aq h;exact⟨w',dO _ h1,h2⟩
theorem yA(b:List Nat)(n:Nat)(y z:Nat->Int)(p:Nat):bF b n (λk=>y k+z k) p=bF b n y p+bF b n z p:=by
 unfold bF;rw[←uJ];refine k6 λk _=>?_;dsimp only;split <;> lia
theorem IC{b:List Nat}{n q:Nat}(t:Int)(hq:q<n)(p:Nat):bF b n (λk=>if k=q then t else 0) p=if p∈aN b q then t else 0:=by
 unfold bF;rw[←xU (n:=n) (p:=q) (f:=λk=>if p∈aN b k then t else 0) hq];refine k6 λk _=>?_;by_cases e:k=q <;> simp[e]
theorem yY{b:List Nat}{n:Nat}(p:Nat):∀(l:List (Nat×Int)),(∀x∈l,x.1<n)->bF b n (tkF l) p=wsum b l p
 |[],_=>by
   unfold bF;exact q8 λk _=>by simp[tkF]
 |x::l,h=>by
   have ih:=yY (b:=b) p l λy hy=>h y (dO _ hy);have e:tkF (x::l)=λk=>(λk=>if k=x.1 then x.2 else 0) k+tkF l k:=by funext k;rfl
   rw[e,yA,ih,IC _ (h x fA)];rfl
theorem Ft(b:List Nat)(n:Nat)(y z:Nat->Int)(p:Nat):bF b n (λk=>y k-z k) p=bF b n y p-bF b n z p:=by
 have h:=yA b n (λk=>y k-z k) z p;have e:(λk=>(λk=>y k-z k) k+z k)=y:=by funext k;simp
 rw[e]at h;lia
theorem Bj(b:List Nat)(p:Nat):∀(l:List Want) (f:Nat->Int),cA b f l p=f p-wsum b (eV b f l) p
 |[],f=>by simp[cA,eV,wsum]
 |w::l,f=>by
   show cA b _ l p=f p-(_+wsum b (eV b _ l) p);rw[Bj b p l,Dt];dsimp only;lia
theorem Ba{b:List Nat}{n:Nat}{y:Nat->Int}{l:List Want}(h:∀w∈l,w.1<n):(bF b n λk=>y k-tkF (eV b (bF b n y) l) k)=cA b (bF b n y) l:=by
 funext p;rw[Ft,yY,Bj];intro x hx;obtain⟨w,h1,h2⟩:=Aq hx;rw[←h2];exact h w h1
theorem Ah:∀{n:Nat}{f:Nat->Int},(∀k,k<n->0≤f k)->0≤d7 n f
 |0,f,_=>mw _
 |n+1,f,h=>by
   have ih:=Ah (n:=n) (f:=f) λk hk=>h k (by lia);have:=h n (by lia);simp only[d7];lia
theorem Es{b:List Nat}{n:Nat}{y:Nat->Int}(h:∀k,0≤y k)(p:Nat):0≤bF b n y p:=by
 unfold bF;refine Ah λk _=>?_;split
 ·exact h k
 ·exact mw _
theorem xH{b:List Nat}:∀(l:List Want) {f:Nat->Int},(∀p,0≤f p)->(∀w∈l,0≤w.2)->∀(k:Nat) (w:Want) (t:Int),l[k]?=some w->(bR b f l)[k]?=some t->0≤t/\t≤w.2
 |x::l,f,h,hw,0,w,t,e1,e2=>by
   cases(show some x=some w from e1);cases(show some (dJ f x.2 (aN b x.1))=some t from e2);exact⟨HX (hw x fA) λp _=>h p,uR.1⟩
 |x::l,f,h,hw,k+1,w,t,e1,e2=>xH l (λq=>Hw (h q)) (λw hw'=>hw w (dO _ hw')) k w t (by simpa using e1) (by simpa[bR] using e2)
theorem yS{α β:Type}:∀{xs:List α}{ys:List β}{k:Nat}{v:α×β},(xs.zip ys)[k]?=some v->xs[k]?=some v.1/\ys[k]?=some v.2
 |x::xs,y::ys,0,v,e=>by
   cases(show some (x,y)=some v from e);exact⟨rfl,rfl⟩
 |x::xs,y::ys,k+1,v,e=>by simpa using yS (xs:=xs) (ys:=ys) (k:=k) (v:=v) (by simpa using e)
 |[],ys,k,v,e=>by simp at e
 |x::xs,[],k,v,e=>by simp at e
theorem EH{ns:List Int}{st:Int}{count size:Nat}{r:Rt}(h:r∈dy ns st count size):0≤r.am/\r.am≤1000000:=by
 obtain⟨k,_,rfl⟩:=bO.mp h;exact Gh _
theorem qW(a:Int)(l:List Int):lG (a::l)=a+lG l:=rfl
theorem uX{s:Str}:∀{l:List Str},inM (.str s) (l.map .str)=decide (s∈l)
 |[]=>rfl
 |x::l=>by
   have ih:=@uX s l;simp only[inM,bz,jC]at ih ⊢;rw[ih];by_cases e:x=s
   ·subst e;simp[eqM]
   ·have e3:¬s=x:=λz=>e z.symm;simp[eqM,e,e3]
theorem xb(l:List Str):(l.map MV.str).all flat=true:=by simp[flat]
structure Pd where
 nm:Str
 pt:Int
 sz:Int
 dt:Int
noncomputable def Pd.row(x:Pd):MV:=.tup [.str x.nm,.int x.pt,.int x.sz,.int x.dt]
noncomputable def pH:Str:=aQ "abcdefgh"
theorem Cr{k:Nat}(h:k<8):atN pH.cps.toList (k:Int)=some (97+k):=by
 have:pH.cps.toList=(ci 8).map (97+·):=rfl;rw[jd,this,bj,gR h];rfl
noncomputable def ig(ns:List Int)(st:Int)(size k:Nat):Pd:=
 ⟨kT ⟨#[97+k]⟩ (1+cell ns (st+2*k)/size%8),cell ns (st+2*k)%size,if cell ns (st+2*k+1)%3=2 then cell ns (st+2*k+1)/3%1000001 else cell ns (st+2*k+1)/3%200,cell ns (st+2*k+1)/7%4⟩
noncomputable def fg(ns:List Int)(st:Int)(count size:Nat):List Pd:=(ci count).map (ig ns st size)
theorem Iq(ns:List Int)(st:Int)(size k:Nat):(ig ns st size k).nm.cps.toList=bU (1+cell ns (st+2*k)/size%8).toNat (97+k):=Fm _ (by lia)
theorem DU{ns:List Int}{st:Int}{size j k:Nat}(e:(ig ns st size j).nm=(ig ns st size k).nm):j=k:=by
 have h:=congrArg (λs:Str=>s.cps.toList[0]?) e;simp only[Iq]at h;have p1:0<(1+cell ns (st+2*j)/size%8).toNat:=by lia
 have p2:0<(1+cell ns (st+2*k)/size%8).toNat:=by lia
 simp[jF,p1,p2]at h;exact h
theorem yt{ns:List Int}{st:Int}{size:Nat}:∀count,((fg ns st count size).map (·.nm)).Nodup
 |0=>by simp[fg]
 |n+1=>by
   have ih:=yt (ns:=ns) (st:=st) (size:=size) n;unfold fg at ih ⊢;rw[nj,dm,dm,hG];refine⟨ih,by simp,λa ha c hc=>?_⟩;rw[bX]at ha;obtain⟨j,hj,e⟩:=bO.mp ha;have hj:=jk.mp hj;simp at hc;subst hc;rw[←e];intro z;have:=DU z;lia
theorem Ff{ns:List Int}{st:Int}{count size:Nat}{h:MH}{Q:MV->MH->Prop}{E:Nat->MH->Prop}(h0:0≤st)(hs:1≤size)(hs2:size≤100)(hz:count≤8)(q:∀h',Pre h h'->h'[h.length]?=some (.lst ((fg ns st count size).map Pd.row))->Q (.ref h.length) h') :
  wp (tD [.scr ns,.int st,.int count,.int size]) h Q E:=by
 unfold tD;refine cg (by rfl) ?_;refine aJ (R:=λσ h1=>h1=h++[.lst []]/\σ=[some (.scr ns),some (.int st),some (.int count),some (.int size),some (.ref h.length),none,none,none,none]) (by simp) ?_;rintro _ _ ⟨rfl,rfl⟩;refine aJ (R:=λσ h1=>(Pre h h1/\h1[h.length]?=some (.lst ((fg ns st count size).map Pd.row)))/\∃u v w z,σ=[some (.scr ns),some (.int st),some (.int count),some (.int size),some (.ref h.length),u,v,w,z]) ?_ ?_
 ·rw[eE];refine cI (kZ (n:=count) (j:=count) (h':=h++[.lst []]) rfl ⟨by lia,by lia⟩ (by simp)) ?_;refine dR (λk σ h1=>(Pre h h1/\h1[h.length]?=some (.lst ((fg ns st k size).map Pd.row)))/\∃u v w z,σ=[some (.scr ns),some (.int st),some (.int count),some (.int size),some (.ref h.length),u,v,w,z]) (λ_ _ _ _=>rfl) (λk x σ h1 hx ⟨⟨p1,g1⟩,u,v,w,z,es⟩=>?_) (λσ h1 ⟨⟨p1,g1⟩,r⟩=>?_) ⟨⟨Pre.app _,bE⟩,_,_,_,_,rfl⟩
  ·subst es;have hk:k<count:=by
    have:=(bN.mp hx).1
    rwa [gM]at this
   rw[my hk]at hx;cases hx;have e0:(0:Int)+(k:Int)=k:=by lia
   have c0:(0:Int)≤st+2*k:=by lia
   have c1:(0:Int)≤st+2*k+1:=by lia
   have bm:(-18446744073709551616:Int)<(k:Int)/\(k:Int)<18446744073709551616:=by lia
   have sz:(0:Int)<size:=by lia
   have sz2:(size:Int)<1073741824:=by lia
   have l1:=aS g1;have ga:=Cr (show k<8 by lia);have snoc:(fg ns st (k+1) size).map Pd.row=(fg ns st k size).map Pd.row++[(ig ns st size k).row]:=by
    unfold fg;rw[nj,dm,dm];rfl
   have len:((fg ns st k size).map Pd.row).length<100000:=by simp[fg];lia
   simp only[cj,d0,d5,e0];have oi:∀u v:MV,atN [u,v] 0=some u/\atN [u,v] 1=some v:=λ_ _=>⟨rfl,rfl⟩;refine aJ (R:=λσ h2=>h1=h2/\σ=[some (.scr ns),some (.int st),some (.int count),some (.int size),some (.ref h.length),some (.int k),some (.int (cell ns (st+2*k))),w,z]) (by simp[ik c0]) ?_;rintro _ _ ⟨rfl,rfl⟩;refine aJ (R:=λσ h2=>h1=h2/\σ=[some (.scr ns),some (.int st),some (.int count),some (.int size),some (.ref h.length),some (.int k),some (.int (cell ns (st+2*k))),some (.int (cell ns (st+2*k+1))),z]) (by simp[ik c1]) ?_;rintro _ _ ⟨rfl,rfl⟩;refine aJ (R:=λσ h2=>h1=h2/\σ=[some (.scr ns),some (.int st),some (.int count),some (.int size),some (.ref h.length),some (.int k),some (.int (cell ns (st+2*k))),some (.int (cell ns (st+2*k+1))),some (.str (ig ns st size k).nm)]) ?_ ?_
   ·simp only[cq,bq,w_c,aK,aM,aR];have la:(aQ "abcdefgh")=pH:=rfl;have ll:pH.length=8:=rfl;rw[la];simp[ll,ga,ig];refine⟨⟨by lia,by lia⟩,by lia,by lia,?_⟩;show 1*_≤_;lia
   rintro _ _ ⟨rfl,rfl⟩;have fin:∀a:MV,a=(ig ns st size k).row->(fg ns st k size).map Pd.row++[a]=(fg ns st (k+1) size).map Pd.row:=λa e=>by rw[e,snoc]
   by_cases cb:cell ns (st+2*k+1)%3=2
   ·simp[g1,cb,oi];rw[dH g1];refine⟨by lia,len,by lia,((p1.trans (Pre.app _)).set (bo _)),?_⟩;rw[fin _ (by simp[Pd.row,ig,cb])];exact dU (by simp;lia)
   ·simp[g1,cb,oi];rw[dH g1];refine⟨by lia,len,by lia,((p1.trans (Pre.app _)).set (bo _)),?_⟩;rw[fin _ (by simp[Pd.row,ig,cb])];exact dU (by simp;lia)
  ·rw[gM]at g1;exact⟨σ,rfl,⟨p1,g1⟩,r⟩
 rintro _ h1 ⟨⟨p1,g1⟩,u,v,w,z,rfl⟩;simp;exact q h1 p1 g1
noncomputable def aget(k:Str):List (Str×Int)->Int
 |[]=>0
 |(n,v)::r=>if n=k then v else aget k r
noncomputable def aput(k:Str)(v:Int)(L:List (Str×Int)):List (Str×Int):=if k∈L.map (·.1) then L.map (λp=>if p.1=k then(p.1,v) else p) else L++[(k,v)]
noncomputable def aadd(L:List (Str×Int))(p:Str×Int):List (Str×Int):=aput p.1 (aget p.1 L+p.2) L
noncomputable def asum(k:Str)(ps:List (Str×Int)):Int:=lG (ps.map λp=>if p.1=k then p.2 else 0)
noncomputable def acL(L:List (Str×Int)):List (Str×MV):=L.map λp=>(p.1,.int p.2)
theorem jw{k:Str}:∀{L:List (Str×Int)},dget k (acL L)=if k∈L.map (·.1) then some (.int (aget k L)) else none
 |[]=>rfl
 |(n,v)::L=>by
   have ih:=@jw k L;unfold acL at ih ⊢;simp only[bz,dget,aget];by_cases c:n=k
   ·simp[c]
   ·have c':¬k=n:=λz=>c z.symm;simp only[if_neg c,ih,bK,c',false_or]
theorem uO{k:Str}:∀{L:List (Str×Int)},k∉L.map (·.1)->aget k L=0
 |[],_=>rfl
 |(n,v)::L,h=>by
   simp only[bz,bK,not_or]at h;unfold aget;rw[if_neg λz=>h.1 z.symm,uO h.2]
theorem kW{k:Str}{L:List (Str×Int)}:(dget k (acL L)).getD (.int 0)=.int (aget k L):=by
 rw[jw];split
 ·rfl
 ·rename_i c;rw[uO c];rfl
theorem kO{k:Str}{v:Int}{L:List (Str×Int)}:dput k (.int v) (acL L)=acL (aput k v L):=by
 unfold dput aput;rw[jw];by_cases c:k∈L.map (·.1)
 ·rw[if_pos c,if_pos c];simp only[Option.isSome_some,if_true,acL,bX];refine gA λp hp=>?_;simp only[Function.comp];by_cases e:p.1=k
  ·simp[e]
  ·simp[e]
 ·rw[if_neg c,if_neg c];simp[acL]
theorem zg{j k:Str}{v:Int}(hj:j≠k):∀{L:List (Str×Int)},aget j (L.map λp=>if p.1=k then(p.1,v) else p)=aget j L
 |[]=>rfl
 |(n,u)::L=>by
   have ih:=@zg j k v hj L;simp only[bz];by_cases c:n=k
   ·have:¬n=j:=λz=>hj (z.symm.trans c);simp only[c,if_true,aget,if_neg (show ¬k=j from λz=>hj z.symm),ih]
   ·simp only[if_neg c,aget,ih]
theorem vU{j:Str}{p:Str×Int}:∀{L:List (Str×Int)},j∉L.map (·.1)->aget j (L++[p])=if p.1=j then p.2 else 0
 |[],_=>rfl
 |(n,u)::L,h=>by
   simp only[bz,bK,not_or]at h;simp only[lX,aget,if_neg (show ¬n=j from λz=>h.1 z.symm),vU h.2]
theorem zH{j:Str}{p:Str×Int}:∀{L:List (Str×Int)},j∈L.map (·.1)->aget j (L++[p])=aget j L
 |[],h=>by simp at h
 |(n,u)::L,h=>by
   simp only[lX,aget];by_cases c:n=j
   ·rw[if_pos c,if_pos c]
   ·rw[if_neg c,if_neg c];refine zH ?_;simp only[bz,bK]at h;rcases h with z|z
    ·exact absurd z.symm c
    ·exact z
theorem yH{k:Str}{v:Int}:∀{L:List (Str×Int)},k∈L.map (·.1)->aget k (L.map λp=>if p.1=k then(p.1,v) else p)=v
 |[],h=>by simp at h
 |(n,u)::L,h=>by
   simp only[bz];by_cases c:n=k
   ·simp[c,aget]
   ·simp only[bz,bK]at h;simp only[if_neg c,aget];exact yH (h.resolve_left λz=>c z.symm)
theorem vp{j k:Str}{v:Int}{L:List (Str×Int)}:aget j (aput k v L)=if j=k then v else aget j L:=by
 unfold aput;by_cases c:k∈L.map (·.1)
 ·rw[if_pos c];by_cases e:j=k
  ·subst e;rw[if_pos rfl,yH c]
  ·rw[if_neg e,zg e]
 ·rw[if_neg c];by_cases e:j=k
  ·subst e;rw[if_pos rfl,vU c];simp
  ·rw[if_neg e];by_cases c2:j∈L.map (·.1)
   ·rw[zH c2]
   ·rw[vU c2,uO c2,if_neg λz=>e z.symm]
theorem uL{j:Str}{p:Str×Int}{L:List (Str×Int)}:aget j (aadd L p)=aget j L+if p.1=j then p.2 else 0:=by
 unfold aadd;rw[vp];by_cases e:j=p.1
 ·subst e;simp
 ·rw[if_neg e,if_neg λz=>e z.symm];lia
theorem je{j:Str}:∀{ps:List (Str×Int)}{L:List (Str×Int)},aget j (ps.foldl aadd L)=aget j L+asum j ps
 |[],L=>by simp[asum,lG]
 |p::ps,L=>by
   rw[jq,je,uL];unfold asum;rw[bz,qW];lia
theorem pG{k:Str}{v:Int}{L:List (Str×Int)}:(aput k v L).length≤L.length+1:=by
 unfold aput;split <;> simp
theorem jp:∀{ps:List (Str×Int)}{L:List (Str×Int)},(ps.foldl aadd L).length≤L.length+ps.length
 |[],L=>by simp
 |p::ps,L=>by
   have:=jp (ps:=ps) (L:=aadd L p);have:(aadd L p).length≤L.length+1:=pG;simp only[jq,fG];lia
theorem pP{k:Str}:∀{ps:List (Str×Int)},k∉ps.map (·.1)->asum k ps=0
 |[],_=>rfl
 |p::ps,h=>by
   simp only[bz,bK,not_or]at h;have:=pP (k:=k) (ps:=ps) h.2;unfold asum at this ⊢;rw[bz,qW,this,if_neg λz=>h.1 z.symm];rfl
theorem j9{p:Str×Int}:∀{ps:List (Str×Int)},(ps.map (·.1)).Nodup->p∈ps->asum p.1 ps=p.2
 |[],_,h=>by cases h
 |q::ps,nd,h=>by
   rw[bz,gu]at nd;unfold asum;rw[bz,qW];rcases bK.mp h with rfl|h
   ·have:=pP (k:=p.1) nd.1;unfold asum at this;rw[this,if_pos rfl];lia
   ·have ne:¬q.1=p.1:=λz=>nd.1 (z▸dI h);have:=j9 (p:=p) nd.2 h;unfold asum at this;rw[this,if_neg ne];lia
structure Po where
 nm:Str
 pt:Nat
 sz:Int
 dt:Int
 wt:Int
noncomputable def poO(x:Po):MO:=.ins 5 [("point",.int x.pt),("size",.int x.sz),("date",.int x.dt),("held_water",.int x.wt)]
noncomputable def poL(ps:List (Po×Nat)):List (Str×MV):=ps.map λx=>(x.1.nm,.ref x.2)
noncomputable def Po.add(x:Po)(t:Int):Po:={ x with wt:=x.wt+t }
noncomputable def padd(ps:List (Po×Nat))(p:Str×Int):List (Po×Nat):=ps.map λx=>if x.1.nm=p.1 then(x.1.add p.2,x.2) else x
theorem zd{ps:List (Po×Nat)}{x:Po×Nat}(nd:(ps.map (·.1.nm)).Nodup)(hx:x∈ps):dget x.1.nm (poL ps)=some (.ref x.2):=by
 induction ps with
 |nil=>cases hx
 |cons y ps ih=>
   rw[bz,gu]at nd;unfold poL at ih ⊢;simp only[bz,dget];rcases bK.mp hx with rfl|hx
   ·simp
   ·have c:¬y.1.nm=x.1.nm:=λz=>nd.1 (z▸dI (f:=λz=>z.1.nm) hx);rw[if_neg c];exact ih nd.2 hx
theorem yx{k:Str}:∀{ps:List (Po×Nat)},k∉ps.map (·.1.nm)->dget k (poL ps)=none
 |[],_=>rfl
 |x::ps,h=>by
   simp only[bz,bK,not_or]at h;have:=yx (k:=k) (ps:=ps) h.2;unfold poL at this ⊢;simp only[bz,dget,if_neg (show ¬x.1.nm=k from λz=>h.1 z.symm),this]
theorem Gw{ps:List (Po×Nat)}{p:Str×Int}:poL (padd ps p)=poL ps:=by
 unfold poL padd;rw[bX];refine gA λx _=>?_;simp only[Function.comp];split <;> rfl
theorem zy{ps:List (Po×Nat)}{p:Str×Int}:(padd ps p).map (·.1.nm)=ps.map (·.1.nm):=by
 unfold padd;rw[bX];refine gA λx _=>?_;simp only[Function.comp];split <;> rfl
theorem BO{ps:List (Po×Nat)}{p:Str×Int}:(padd ps p).map (·.2)=ps.map (·.2):=by
 unfold padd;rw[bX];refine gA λx _=>?_;simp only[Function.comp];split <;> rfl
theorem zY:∀{qs:List (Str×Int)}{ps:List (Po×Nat)},(qs.foldl padd ps).map (·.1.nm)=ps.map (·.1.nm)
 |[],_=>rfl
 |q::qs,ps=>by rw[jq,zY,zy]
theorem yi:∀{qs:List (Str×Int)}{ps:List (Po×Nat)},(qs.foldl padd ps).map (·.2)=ps.map (·.2)
 |[],_=>rfl
 |q::qs,ps=>by rw[jq,yi,BO]
theorem pU:∀{qs:List (Str×Int)}{ps:List (Po×Nat)},qs.foldl padd ps=ps.map λx=>(x.1.add (asum x.1.nm qs),x.2)
 |[],ps=>by
   have:(λx:Po×Nat=>(x.1.add (asum x.1.nm []),x.2))=id:=by
    funext x;simp[asum,lG,Po.add]
   rw[this];simp
 |q::qs,ps=>by
   rw[jq,pU];unfold padd;rw[bX];refine gA λx _=>?_;simp only[Function.comp];have e:∀k,asum k (q::qs)=(if q.1=k then q.2 else 0)+asum k qs:=λk=>by unfold asum;rw[bz,qW]
   by_cases c:x.1.nm=q.1
   ·rw[if_pos c,e,if_pos c.symm];simp[Po.add,Int.add_assoc]
   ·rw[if_neg c,e,if_neg λz=>c z.symm];simp
structure OfA(h:MH)(o bk pd ld ad d:Nat)(ro:Int)(ps:List (Po×Nat))(L A:List (Str×Int)):Prop where
 ob:h[o]?=some (.ins 4 [("book",.ref bk),("ponds",.ref pd),("last_day",.ref ld),("all_days",.ref ad),("ran_out",.int ro)])
 pn:h[pd]?=some (.dct (poL ps))
 la:h[ld]?=some (.dct (acL L))
 al:h[ad]?=some (.dct (acL A))
 it:∀x∈ps,h[x.2]?=some (poO x.1)
 nm:(ps.map (·.1.nm)).Nodup
 nd:(ps.map (·.2)).Nodup
 ap:pd≠ld/\pd≠ad/\ld≠ad/\d≠pd/\d≠ld/\d≠ad
structure Sy(h:MH)(o bk pd ld ad r d:Nat)(ro:Int)(ps:List (Po×Nat))(L A:List (Str×Int))(rs:List Rid)(b:List Nat):Prop where
 of:OfA h o bk pd ld ad d ro ps L A
 bk:cP h bk r d rs
 rv:cW h r b
theorem OfA.off{h h':MH}{o bk pd ld ad d:Nat}{ro:Int}{ps:List (Po×Nat)}{L A:List (Str×Int)}(O:OfA h o bk pd ld ad d ro ps L A)(f:Off [] h h'):OfA h' o bk pd ld ad d ro ps L A:=⟨f.get O.ob (by simp),f.get O.pn (by simp),f.get O.la (by simp),f.get O.al (by simp),λx hx=>f.get (O.it x hx) (by simp),O.nm,O.nd,O.ap⟩
theorem Sy.off{h h':MH}{o bk pd ld ad r d:Nat}{ro:Int}{ps:List (Po×Nat)}{L A:List (Str×Int)}{rs:List Rid}{b:List Nat}(S:Sy h o bk pd ld ad r d ro ps L A rs b)(f:Off [] h h'):Sy h' o bk pd ld ad r d ro ps L A rs b:=
 ⟨S.of.off f,S.bk.off f (by simp) (by simp) (by simp),S.rv.off f (by simp)⟩
theorem Sy.pre{h h':MH}{o bk pd ld ad r d:Nat}{ro:Int}{ps:List (Po×Nat)}{L A:List (Str×Int)}{rs:List Rid}{b:List Nat}(S:Sy h o bk pd ld ad r d ro ps L A rs b)(f:Pre h h'):Sy h' o bk pd ld ad r d ro ps L A rs b:=S.off f.off
theorem cX{h:MH}{n m:Nat}{x y:MO}(e:h[n]?=some x)(f:h[m]?=some y)(d:x≠y):n≠m:=λz=>by
 subst z;rw[e]at f;exact d (Option.some.inj f)
section
variable {h:MH}{o bk pd ld ad r d:Nat}{ro:Int}{ps:List (Po×Nat)}{L A:List (Str×Int)}{rs:List Rid}{b:List Nat}{Q:MV->MH->Prop}{E:Nat->MH->Prop}
theorem Sy.book_set(S:Sy h o bk pd ld ad r d ro ps L A rs b){n:Nat}{x y:MO}(e:h[n]?=some x)(nd:n≠d)(k2:∀fs,x≠.ins 2 fs)(k3:∀fs,x≠.ins 3 fs):cP (h.set n y) bk r d rs:=
 S.bk.off (S:=[n]) Off.set (by simp;exact λz=>k3 _ (Option.some.inj ((z▸e).symm.trans S.bk.ob))) (by simpa using nd.symm) λx hx=>by
  simp;exact λz=>k2 _ (Option.some.inj ((z▸e).symm.trans (S.bk.it x hx)))
theorem Sy.river_set(S:Sy h o bk pd ld ad r d ro ps L A rs b){n:Nat}{x y:MO}(e:h[n]?=some x)(k1:∀fs,x≠.ins 1 fs)(kl:∀xs,x≠.lst xs):cW (h.set n y) r b:=
 S.rv.off (S:=[n]) Off.set λm hm ob eo=>by
  rw[cT.mp hm,e]at eo;cases eo;exact⟨kl,k1⟩
theorem Sy.meth(S:Sy h o bk pd ld ad r d ro ps L A rs b){f:Fn}{mth:String}{a:MA}{σ:MSt}{i:Nat}(hm:(mth == "book")=false/\(mth == "ponds")=false/\(mth == "last_day")=false/\(mth == "all_days")=false/\(mth == "ran_out")=false)(hs:σ[i]?=some (some (.ref o))):wp (bG 4 mth f (ae i) a σ) h Q E=wp (a σ) h (λxs h2=>wp (f (.ref o::xs)) h2 Q E) E:=by
 have h1:=S.of.ob;have lk:dQ mth [("book",MV.ref bk),("ponds",MV.ref pd),("last_day",MV.ref ld),("all_days",MV.ref ad),("ran_out",MV.int ro)]=none:=by simp only[bW,hm.1,hm.2.1,hm.2.2.1,hm.2.2.2.1,hm.2.2.2.2,oW]
 simp only[qF,aK,hs,h1,lk,true_and]
theorem cP.methO(B:cP h bk r d rs){f:Fn}{mth:String}{a:MA}{σ:MSt}{o':ME}(hm:(mth == "stream")=false/\(mth == "held")=false)(ho:∀Q':MV->MH->Prop,wp (o' σ) h Q' E=Q' (.ref bk) h):wp (bG 3 mth f o' a σ) h Q E=wp (a σ) h (λxs h2=>wp (f (.ref bk::xs)) h2 Q E) E:=by
 have h1:=B.ob;have lk:dQ mth [("stream",MV.ref r),("held",MV.ref d)]=none:=by simp only[bW,hm.1,hm.2,oW]
 simp only[qF,ho,h1,lk,true_and]
theorem Sy.fbook(S:Sy h o bk pd ld ad r d ro ps L A rs b){σ:MSt}(hs:σ[0]?=some (some (.ref o)))(Q':MV->MH->Prop):wp (aZ (ae 0) [4] "book" σ) h Q' E=Q' (.ref bk) h:=by
 have h1:=S.of.ob;simp[hs,h1,bW]
theorem yZ(S:Sy h o bk pd ld ad r d ro ps L A rs b){x:Rid}(hx:x∈rs)(q:Q (.int (aget x.1.nm L)) h):wp (oG [.ref o,.str x.1.nm]) h Q E:=by
 have h1:=S.of.ob;have h2:=S.of.la;have rw':=λQ'=>pL (Q:=Q') (E:=E) S.bk hx;unfold oG;refine cg (by rfl) ?_;unfold vT;rw[dL,eI,S.bk.methO (by decide) (S.fbook rfl)];show wp (ao (ae 1) az [some (.ref o),some (.str x.1.nm)]) h _ E;simp only[bv,bp,aK,aM,aR,rw'];simp[h1,h2,bW,kW];exact q
theorem Ik(S:Sy h o bk pd ld ad r d ro ps L A rs b){x:Rid}(hx:x∈rs)(q:Q (.int (aget x.1.nm A)) h):wp (qi [.ref o,.str x.1.nm]) h Q E:=by
 have h1:=S.of.ob;have h2:=S.of.al;have rw':=λQ'=>pL (Q:=Q') (E:=E) S.bk hx;unfold qi;refine cg (by rfl) ?_;unfold wL;rw[dL,eI,S.bk.methO (by decide) (S.fbook rfl)];show wp (ao (ae 1) az [some (.ref o),some (.str x.1.nm)]) h _ E;simp only[bv,bp,aK,aM,aR,rw'];simp[h1,h2,bW,kW];exact q
theorem AN(S:Sy h o bk pd ld ad r d ro ps L A rs b):wp (l8 [.ref o]) h Q E↔Q (.int ro) h:=by
 have h1:=S.of.ob;have key:l8 [.ref o] h=.ok (.int ro) h:=by
  simp[l8,vt,fnOf,bnd,bn,aZ,ae,ret,look,h1,bW]
 unfold wp;rw[key]
theorem zQ(S:Sy h o bk pd ld ad r d ro ps L A rs b){x:Po×Nat}(hx:x∈ps):wp (kQ [.ref o,.str x.1.nm]) h Q E↔Q (.ref x.2) h:=by
 have h1:=S.of.ob;have h2:=S.of.pn;have g:=zd S.of.nm hx;have key:kQ [.ref o,.str x.1.nm] h=.ok (.ref x.2) h:=by
  simp[kQ,vw,fnOf,bnd,bn,au,sIf,tst,asB,b9,aZ,ae,aj,oIn,oIx,ret,look,h1,h2,g,bW]
 unfold wp;rw[key]
theorem AB(S:Sy h o bk pd ld ad r d ro ps L A rs b){x:Po×Nat}(hx:x∈ps):wp (oM [.ref o,.str x.1.nm]) h Q E↔Q (.int x.1.wt) h:=by
 have h3:=S.of.it x hx;unfold oM fnOf;rw[if_pos (show[MV.ref o,MV.str x.1.nm].length=2 from rfl),aL];unfold wa;rw[iB,lC];show wp (bG 4 "pond_called" kQ (ae 0) (ao (ae 1) az) [some (.ref o),some (.str x.1.nm)]) h _ E↔_;rw[S.meth (by decide) rfl];simp only[bv,bp,aK,aM,aR];rw[zQ S hx];simp[h3,poO,bW,bx]
theorem xz(S:Sy h o bk pd ld ad r d ro ps L A rs b){k:Str}{t:Int}(l1:L.length<900)(l2:A.length<900)(q:∀h',Off [ld,ad] h h'->Sy h' o bk pd ld ad r d ro ps (aadd L (k,t)) (aadd A (k,t)) rs b->Q .non h'):wp (mX [.ref o,.str k,.int t]) h Q E:=by
 obtain⟨S1,S2,S3⟩:=id S;have h1:=S1.ob;have h2:=S1.la;have h3:=S1.al;have ap:=S1.ap;have n1:=aS h2;have n2:=aS h3;have nol:o≠ld:=cX h1 h2 (by simp);have noa:o≠ad:=cX h1 h3 (by simp);unfold mX;refine cg (by rfl) ?_;unfold wH;have c1:(acL L).length<1000:=by simp[acL];lia
 have c2:(acL A).length<1000:=by simp[acL];lia
 refine aJ (R:=λσ h'=>h'=h.set ld (.dct (acL (aadd L (k,t))))/\σ=[some (.ref o),some (.str k),some (.int t)]) ?_ ?_
 ·simp[h1,h2,bW,kW,c1,kO];exact⟨n1,rfl⟩
 rintro _ _ ⟨rfl,rfl⟩;have g1:(h.set ld (.dct (acL (aadd L (k,t)))))[o]?=_:=bL h1 nol.symm;have g3:(h.set ld (.dct (acL (aadd L (k,t)))))[ad]?=_:=bL h3 ap.2.2.1;have f1:Off [ld] h (h.set ld (.dct (acL (aadd L (k,t))))):=Off.set;have b1:=S.book_set (y:=.dct (acL (aadd L (k,t)))) h2 ap.2.2.2.2.1.symm (λ_=>by simp) (λ_=>by simp);have r1:=S.river_set (y:=.dct (acL (aadd L (k,t)))) h2 (λ_=>by simp) (λ_=>by simp);have gl:(h.set ld (.dct (acL (aadd L (k,t)))))[ld]?=_:=dU n1;have gp:(h.set ld (.dct (acL (aadd L (k,t)))))[pd]?=_:=bL S1.pn ap.1.symm;have gi:∀x∈ps,(h.set ld (.dct (acL (aadd L (k,t)))))[x.2]?=_:=λx hx=>bL (S1.it x hx) (cX h2 (S1.it x hx) (by simp[poO]));generalize h.set ld (.dct (acL (aadd L (k,t))))=h' at g1 g3 f1 b1 r1 gl gp gi;have S':Sy h' o bk pd ld ad r d ro ps (aadd L (k,t)) A rs b:=⟨⟨g1,gp,gl,g3,gi,S1.nm,S1.nd,ap⟩,b1,r1⟩;have n3:=aS g3;simp[g1,g3,bW,kW,c2,kO];refine⟨n3,?_⟩;refine q _ ((f1.mono (by simp)).trans ((Off.set).mono (by simp))) ⟨⟨bL g1 noa.symm,bL gp ap.2.1.symm,bL gl ap.2.2.1.symm,dU n3,λx hx=>bL (gi x hx) (cX g3 (gi x hx) (by simp[poO])),S1.nm,S1.nd,ap⟩,?_,?_⟩
 ·exact S'.book_set g3 ap.2.2.2.2.2.symm (λ_=>by simp) (λ_=>by simp)
 ·exact S'.river_set g3 (λ_=>by simp) (λ_=>by simp)
end
noncomputable def dj(x:Rt):Wn:=⟨x.dt,x.nm,0,x.pt,x.am⟩
noncomputable def ie(x:Po):Wn:=⟨x.dt,x.nm,1,x.pt,x.sz-x.wt⟩
noncomputable def eG(rs:List Rid)(ps:List (Po×Nat)):List Wn:=(aged (aW rs)).map dj++ps.map λx=>ie x.1
theorem lE{rs:List Rid}{ps:List (Po×Nat)}(n:Names (aW rs))(hz:rs.length<64)(np:(ps.map (·.1.nm)).Nodup):WNm (eG rs ps):=by
 have hz':(aW rs).length<64:=by simpa[aW] using hz
 have na:((aged (aW rs)).map (·.nm)).Nodup:=((kN n hz').map λ(x:Rt)=>x.nm).nodup_iff.mpr n;have inj:∀(i:Int),Function.Injective λs:Str=>(s,i):=λi a b e=>(Prod.mk.inj e).1;have pw:∀{l:List Str}{i:Int},l.Nodup->(l.map λs=>(s,i)).Nodup:=λ{l i} nd=>by
  unfold List.Nodup at nd ⊢;rw[List.pairwise_map];exact nd.imp λh z=>h (Prod.mk.inj z).1
 unfold WNm eG;rw[dm,bX,bX,hG];refine⟨?_,?_,?_⟩
 ·have:=pw (i:=0) na;rw[bX]at this;exact this
 ·have:=pw (i:=1) np;rw[bX]at this;exact this
 ·intro a ha c hc e;obtain⟨x,_,rfl⟩:=bO.mp ha;obtain⟨y,_,rfl⟩:=bO.mp hc;exact absurd (Prod.mk.inj e).2 (by simp[dj,ie])
theorem Off.lst{S:List Nat}{h h':MH}{a:Nat}{xs:List MV}(f:Off S h h')(e:h[a]?=some (.lst xs))(hS:∀n∈S,∀ys,h[n]?≠some (.lst ys)):h'[a]?=some (.lst xs):=f.get e λz=>hS a z xs e
section
variable {h:MH}{o bk pd ld ad r d:Nat}{ro:Int}{ps:List (Po×Nat)}{L A:List (Str×Int)}{rs:List Rid}{b:List Nat}{Q:MV->MH->Prop}{E:Nat->MH->Prop}
theorem Eg(S:Sy h o bk pd ld ad r d ro ps L A rs b)(hz:rs.length<40)(hp:ps.length<20)(q:∀h' a,Off [] h h'->h.length≤a->h'[a]?=some (.lst ((que (eG rs ps)).map Wn.row))->Q (.ref a) h'):wp (o9 [.ref o]) h Q E:=by
 obtain⟨S1,S2,S3⟩:=id S;have hz':(aW rs).length<64:=by simp[aW];lia
 have nW:=lE (rs:=rs) (ps:=ps) S2.nm (by lia) S1.nm;have al:(aged (aW rs)).length=rs.length:=by rw[lf S2.nm hz',bS]
 have lW:(eG rs ps).length<64:=by simp[eG,al];lia
 have mem:∀x∈aged (aW rs),∃y∈rs,y.1=x:=λx hx=>by
  have:=(kN S2.nm hz').mem_iff.mp hx;obtain⟨y,hy,e⟩:=bO.mp this;exact⟨y,hy,e⟩
 unfold o9;refine cg (by rfl) ?_;change wp (qb [some (.ref o),none,none,none,none]) _ _ _;unfold qb;refine aJ (R:=λσ h'=>h'=h++[.lst []]/\σ=[some (.ref o),some (.ref h.length),none,none,none]) (by simp) ?_;rintro _ _ ⟨rfl,rfl⟩;have p1:Pre h (h++[.lst []]):=Pre.app _;have g1:(h++[MO.lst []])[h.length]?=some (.lst []):=bE;generalize hw:h.length=w at g1;generalize h++[MO.lst []]=h1 at p1 g1;have k0:∀u v w:MV,atN [u,v,w] 0=some u:=λ_ _ _=>rfl;have k1:∀u v w:MV,atN [u,v,w] 1=some v:=λ_ _ _=>rfl;have k2:∀u v w:MV,atN [u,v,w] 2=some w:=λ_ _ _=>rfl;refine aJ (R:=λσ h'=>(Pre h h'/\h'[w]?=some (.lst (((aged (aW rs)).map dj).map Wn.row)))/\∃u v,σ=[some (.ref o),some (.ref w),u,v,none]) ?_ ?_
 ·rw[eE];have S1':=S.pre p1;have hs:c9 (bG 3 "names" mS (aZ (ae 0) [4] "book") az) [some (.ref o),some (.ref w),none,none,none] h1=.ok ⟨((aged (aW rs)).map λx=>MV.str x.nm).map λv=>[v],[(h1.length,(aged (aW rs)).map λx=>MV.str x.nm)]⟩ (h1++[.lst ((aged (aW rs)).map λx=>.str x.nm)]):=by
   refine fE (iV ?_) bE;rw[S1'.bk.methO (by decide) (S1'.fbook rfl),bp];exact IX S1'.bk (by lia) ⟨rfl,rfl⟩
  refine cI hs ?_;have p2:Pre h (h1++[.lst ((aged (aW rs)).map λx=>.str x.nm)]):=p1.snoc _;have g2:=dH (g:=[.lst ((aged (aW rs)).map λx=>.str x.nm)]) g1;have gn:(h1++[MO.lst ((aged (aW rs)).map λx=>.str x.nm)])[h1.length]?=some (.lst ((aged (aW rs)).map λx=>.str x.nm)):=bE;have nw:w≠h1.length:=by have:=aS g1;lia
  generalize h1.length=nl at gn nw;generalize h1++[MO.lst ((aged (aW rs)).map λx=>.str x.nm)]=h2 at p2 g2 gn;refine dR (λk σ h'=>(Pre h h'/\h'[nl]?=some (.lst ((aged (aW rs)).map λx=>.str x.nm))/\h'[w]?=some (.lst ((((aged (aW rs)).take k).map dj).map Wn.row)))/\∃u v,σ=[some (.ref o),some (.ref w),u,v,none]) (λk σ h' ⟨⟨_,e,_⟩,_⟩=>d6 e) (λk vv σ h' hv ⟨⟨ph,gh,gw⟩,u,v,es⟩=>?_) (λσ h' ⟨⟨ph,gh,gw⟩,u,v,es⟩=>⟨σ,rfl,⟨ph,?_⟩,u,v,es⟩) ⟨⟨p2,gn,by simpa using g2⟩,none,none,rfl⟩
  ·subst es;rw[bj,bj]at hv;cases ek:(aged (aW rs))[k]? with
   |none=>rw[ek]at hv;cases hv
   |some x=>
     rw[ek]at hv;cases hv;obtain⟨y,hy,rfl⟩:=mem x (de ek);have Sh:=S.pre ph;have tk:(aged (aW rs)).take (k+1)=(aged (aW rs)).take k++[y.1]:=by rw[fR,ek];rfl
     simp only[cj,d0,d5];rw[dL,cq,Sh.bk.methO (by decide) (Sh.fbook rfl)];simp only[bv,bp,aK,aM,aR];rw[pL Sh.bk hy];have lw:=aS gw;have ll:((((aged (aW rs)).take k).map dj).map Wn.row).length<100000:=by simp;lia
     simp only[Rt.val,d0,d5,eI,lN,aK,jJ,bv,bp,bq,w_c,cB,k0,k1,k2,aM,aR,gw];refine⟨by simp,ll,lw,⟨ph.set (by lia),?_,?_⟩,_,_,rfl⟩
     ·exact bL gh nw
     ·rw[dU lw,tk];simp[Wn.row,dj]
  ·rw[gw,kn (by simp)]
 rintro _ h2 ⟨⟨p2,gw⟩,u,v,rfl⟩;have Sh:=S.pre p2;have wlt:=aS gw;have hpn:=Sh.of.pn;have npw:pd≠w:=by have:=aS S1.pn;lia
 have e2:aZ (ae 0) [4] "ponds" [some (.ref o),some (.ref w),u,v,none] h2=.ok (.ref pd) h2:=iV (by
  have h1:=Sh.of.ob;simp [h1,bW])
 refine aJ (R:=λσ h'=>(Off [] h h'/\h'[w]?=some (.lst ((eG rs ps).map Wn.row)))/\∃u v x,σ=[some (.ref o),some (.ref w),u,v,x]) ?_ ?_
 ·refine FN (λk σ' h'=>(h'[pd]?=some (.frz (poL ps))/\(∀n ob,n≠pd->h[n]?=some ob->h'[n]?=some ob)/\h.length≤h'.length/\h'[w]?=some (.lst (((aged (aW rs)).map dj++(ps.take k).map λx=>ie x.1).map Wn.row)))/\∃u v x,σ'=[some (.ref o),some (.ref w),u,v,x]) e2 hpn (λk σ' h' ⟨⟨e,_⟩,_⟩=>e) (λk s vv σ' h' hk ⟨⟨e1,e3,e4,e5⟩,u',v',x',es⟩=>?_) (λσ' h' ⟨⟨e1,e3,e4,e5⟩,u',v',x',es⟩=>?_) ⟨⟨dU (aS hpn),λn ob ne e=>bL (p2.get e) ne.symm,by simp;exact p2.len,?_⟩,u,v,none,rfl⟩
  ·subst es;unfold poL at hk;rw[bj]at hk;cases ek:ps[k]? with
   |none=>rw[ek]at hk;cases hk
   |some x=>
     rw[ek]at hk;cases hk;have hx:=de ek;have hxo:=S1.it x hx;have nx:x.2≠pd:=cX hxo S1.pn (by simp[poO])
     have ho:=e3 x.2 _ nx hxo;have tk:ps.take (k+1)=ps.take k++[x]:=by rw[fR,ek];rfl
     have lw:=aS e5;have ll:(((aged (aW rs)).map dj++(ps.take k).map λx=>ie x.1).map Wn.row).length<100000:=by simp;lia
     unfold poO at ho;have lk1:∀a b c d:MV,dQ "point" [("point",a),("size",b),("date",c),("held_water",d)]=some a:=λ_ _ _ _=>rfl;have lk2:∀a b c d:MV,dQ "size" [("point",a),("size",b),("date",c),("held_water",d)]=some b:=λ_ _ _ _=>rfl;have lk3:∀a b c d:MV,dQ "date" [("point",a),("size",b),("date",c),("held_water",d)]=some c:=λ_ _ _ _=>rfl;have lk4:∀a b c d:MV,dQ "held_water" [("point",a),("size",b),("date",c),("held_water",d)]=some d:=λ_ _ _ _=>rfl;have c52:([5,2]:List Nat).contains 5=true:=rfl;have c5:([5]:List Nat).contains 5=true:=rfl;simp only[cj,d0,d5,eI,lN,aK,jJ,bv,bp,bq,w_c,lC,aM,aR,e5,ho,lk1,lk2,lk3,lk4,c52,c5,true_and,kM,e5];refine⟨by simp,ll,lw,_,rfl,⟨bL e1 npw.symm,λn ob ne e=>bL (e3 n ob ne e) (by have:=aS e;lia),by simpa using e4,?_⟩,_,_,_,rfl⟩;rw[dU lw,tk];simp[Wn.row,ie]
  ·refine⟨_,rfl,⟨⟨λn ob _ e=>?_,by simpa using e4⟩,?_⟩,u',v',x',es⟩
   ·by_cases c:n=pd
    ·subst c;rw[S1.pn]at e;cases e;exact dU (aS e1)
    ·exact bL (e3 n ob c e) (λz=>c z.symm)
   ·rw[show(poL ps).length=ps.length by simp[poL],kn (by lia)]at e5;exact bL e5 npw
  ·rw[bL gw npw];simp
 rintro _ h3 ⟨⟨f3,g3⟩,u',v',x',rfl⟩;rw[iB,hX,aK];simp only[aM,aR];exact Aw nW lW g3 (q _ _ (f3.trans (Pre.app _).off) f3.2 bE)
noncomputable def prs(i:Int)(W:List Wn)(T:List Int):List (Str×Int):=((W.zip T).filter λp=>decide (p.1.rk=i)).map λp=>(p.1.nm,p.2)
theorem yC:∀(W:List Wn) (T:List Int),dM (W.map Wn.row) (zs T)=(W.zip T).map λp=>[p.1.row,.int p.2]
 |[],_=>rfl
 |_::_,[]=>rfl
 |w::W,t::T=>by
   have:=yC W T;unfold zs at this ⊢;simp only[bz,dM,lY,this]
theorem xj{w t:Nat}{W:List Wn}{T:List Int}{i:Int}(hw:h[w]?=some (.lst (W.map Wn.row)))(ht:h[t]?=some (.lst (zs T)))(few:W.length≤1000)(q:∀h',Pre h h'->Q (.ref h'.length) (h'++[.lst ((prs i W T).map pv)])):wp (oP [.ref w,.ref t,.int i]) h Q E:=by
 unfold oP;refine cg (by rfl) ?_;change wp (sL [some (.ref w),some (.ref t),some (.int i)]) _ _ _;unfold sL;rw[iB];have m1:∀u v w x z:MV,atN [u,v,w,x,z] 1=some v:=λ_ _ _ _ _=>rfl;have m2:∀u v w x z:MV,atN [u,v,w,x,z] 2=some w:=λ_ _ _ _ _=>rfl;have e1:(ae 0) [some (.ref w),some (.ref t),some (.int i)] h=.ok (.ref w) h:=iV (by simp);have e2:(ae 1) [some (.ref w),some (.ref t),some (.int i)] h=.ok (.ref t) h:=iV (by simp);refine ki (W.zip T) (λp=>[p.1.row,.int p.2]) (λp=>decide (p.1.rk=i)) (λp=>pv (p.1.nm,p.2)) (ua e1 e2 hw ht) (yC W T) (λh' p'=>vD (p'.get hw) (p'.get ht)) (by rw[List.length_zip];lia) (λx hx h2 p2=>?_) (λx hx _ h2 p2=>?_) λh2 p2=>?_
 ·simp[fi,Wn.row,m2,Pre.refl]
 ·simp[Wn.row,m1,pv,Pre.refl]
 ·have:((W.zip T).filter λp=>decide (p.1.rk=i)).map (λp=>pv (p.1.nm,p.2))=(prs i W T).map pv:=by unfold prs;rw[bX];rfl
  rw[this];exact q h2 p2
end
section
variable {h:MH}{o bk pd ld ad r d:Nat}{ro:Int}{ps:List (Po×Nat)}{L A:List (Str×Int)}{rs:List Rid}{b:List Nat}{Q:MV->MH->Prop}{E:Nat->MH->Prop}
theorem Sy.pour(S:Sy h o bk pd ld ad r d ro ps L A rs b){x:Po×Nat}(hx:x∈ps)(t:Int):Sy (h.set x.2 (poO (x.1.add t))) o bk pd ld ad r d ro (padd ps (x.1.nm,t)) L A rs b:=by
 obtain⟨S1,S2,S3⟩:=id S;have h1:=S1.it x hx;have n1:=aS h1;refine⟨⟨bL S1.ob (cX h1 S1.ob (by simp[poO])),?_,bL S1.la (cX h1 S1.la (by simp[poO])),bL S1.al (cX h1 S1.al (by simp[poO])),λy hy=>?_,by rw[zy];exact S1.nm,by rw[BO];exact S1.nd,S1.ap⟩,?_,?_⟩
 ·rw[Gw];exact bL S1.pn (cX h1 S1.pn (by simp[poO]))
 ·unfold padd at hy;obtain⟨z,hz,rfl⟩:=bO.mp hy;by_cases c:z.1.nm=x.1.nm
  ·have:z=x:=by
    obtain⟨i,ei⟩:=oO hz;obtain⟨j,ej⟩:=oO hx;have e1:(ps.map (·.1.nm))[i]?=some x.1.nm:=by rw[bj,ei];simp[c]
    have e2:(ps.map (·.1.nm))[j]?=some x.1.nm:=by rw[bj,ej];rfl
    have:=tL S1.nm e1 e2;subst this;rw[ei]at ej;exact Option.some.inj ej
   subst this;simp only[if_true];exact dU n1
  ·simp only[if_neg c];have ne:x.2≠z.2:=λe=>by
    obtain⟨i,ei⟩:=oO hz;obtain⟨j,ej⟩:=oO hx;have e1:(ps.map (·.2))[i]?=some x.2:=by rw[bj,ei];simp[e]
    have e2:(ps.map (·.2))[j]?=some x.2:=by rw[bj,ej];rfl
    have:=tL S1.nd e1 e2;subst this;rw[ei]at ej;cases ej;exact c rfl
   exact bL (S1.it z hz) ne
 ·exact S.book_set h1 (cX h1 S2.dc (by simp[poO])) (λ_=>by simp[poO]) (λ_=>by simp[poO])
 ·exact S.river_set h1 (λ_=>by simp[poO]) (λ_=>by simp[poO])
theorem Sy.setO(S:Sy h o bk pd ld ad r d ro ps L A rs b){ld':Nat}{ro':Int}{L':List (Str×Int)}(hl:h[ld']?=some (.dct (acL L')))(ap:pd≠ld'/\ld'≠ad/\d≠ld'):Sy (h.set o (.ins 4 [("book",.ref bk),("ponds",.ref pd),("last_day",.ref ld'),("all_days",.ref ad),("ran_out",.int ro')])) o bk pd ld' ad r d ro' ps L' A rs b:=by
 obtain⟨S1,S2,S3⟩:=id S;have h1:=S1.ob;have a:=S1.ap;refine⟨⟨dU (aS h1),bL S1.pn (cX h1 S1.pn (by simp)),bL hl (cX h1 hl (by simp)),bL S1.al (cX h1 S1.al (by simp)),λx hx=>bL (S1.it x hx) (cX h1 (S1.it x hx) (by simp[poO])),S1.nm,S1.nd,⟨ap.1,a.2.1,ap.2.1,a.2.2.2.1,ap.2.2,a.2.2.2.2.2⟩⟩,?_,?_⟩
 ·exact S.book_set h1 (cX h1 S2.dc (by simp)) (λ_=>by simp) (λ_=>by simp)
 ·exact S.river_set h1 (λ_=>by simp) (λ_=>by simp)
noncomputable def bT(rs:List Rid)(ps:List (Po×Nat)):List Wn:=que (eG rs ps)
noncomputable def wsA(W:List Wn):List Want:=W.map λw=>(w.pt,w.am)
theorem DH{i:Int}{W:List Wn}{T:List Int}{p:Str×Int}(hp:p∈prs i W T):∃w∈W,w.rk=i/\w.nm=p.1:=by
 unfold prs at hp;obtain⟨x,hx,rfl⟩:=bO.mp hp;obtain⟨h1,h2⟩:=ol.mp hx;exact⟨x.1,(pF h1).1,by simpa using h2,rfl⟩
theorem su{i:Int}{W:List Wn}{T:List Int}:(prs i W T).length≤W.length:=by
 unfold prs;rw[bS];have:=List.length_filter_le (λp:Wn×Int=>decide (p.1.rk=i)) (W.zip T);rw[List.length_zip]at this;lia
theorem Eu{a n:Nat}{y:Nat->Int}(S:Sy h o bk pd ld ad r d ro ps L A rs b)(hz:rs.length<40)(hp:ps.length<20)(ha:h[a]?=some (.lst (tab n y)))(hn:n=b.length+1)(bd:∀k,k<n->0≤y k/\y k≤1000000)(pr:∀x∈aW rs,x.pt<b.length+1)(pp:∀x∈ps,x.1.pt<b.length+1)(lA:A.length<800)
  (q:∀h' ld' p1 p2,Off (o::ad::ps.map (·.2)) h h'->h.length≤ld'->h.length≤p1->h.length≤p2->p1≠p2 ->
   h'[p1]?=some (.lst ((prs 0 (bT rs ps) (bR b (bF b n y) (wsA (bT rs ps)))).map pv))->h'[p2]?=some (.lst ((prs 1 (bT rs ps) (bR b (bF b n y) (wsA (bT rs ps)))).map pv)) ->
   Sy h' o bk pd ld' ad r d (ro + cA b (bF b n y) (wsA (bT rs ps)) 0) ((prs 1 (bT rs ps) (bR b (bF b n y) (wsA (bT rs ps)))).foldl padd ps) ((prs 0 (bT rs ps) (bR b (bF b n y) (wsA (bT rs ps)))).foldl aadd []) ((prs 0 (bT rs ps) (bR b (bF b n y) (wsA (bT rs ps)))).foldl aadd A) rs b->Q (.tup [.ref p1,.ref p2]) h'):wp (sy [.ref o,.ref a]) h Q E:=by
 obtain⟨S1,S2,S3⟩:=id S;have hz':(aW rs).length<64:=by simp[aW];lia
 have al:(aged (aW rs)).length=rs.length:=by rw[lf S2.nm hz',bS]
 have nW:=lE (rs:=rs) (ps:=ps) S2.nm (by lia) S1.nm;have lW0:(eG rs ps).length<60:=by simp[eG,al];lia
 have lW:(bT rs ps).length<60:=by unfold bT;rw[wD nW (by lia)];exact lW0
 have memW:∀w∈bT rs ps,w∈eG rs ps:=λw hw=>(lI nW (by lia)).mem_iff.mp hw;have ptW:∀w∈wsA (bT rs ps),w.1<b.length+1:=λw hw=>by
  obtain⟨v,hv,rfl⟩:=bO.mp hw;have:=memW v hv;unfold eG at this;rcases fu.mp this with z|z
  ·obtain⟨x,hx,rfl⟩:=bO.mp z;exact pr x ((kN S2.nm hz').mem_iff.mp hx)
  ·obtain⟨x,hx,rfl⟩:=bO.mp z;exact pp x hx
 have nm1:∀{T:List Int}{p:Str×Int},p∈prs 1 (bT rs ps) T->p.1∈ps.map (·.1.nm):=λ{T p} hp=>by
  obtain⟨w,hw,e1,e2⟩:=DH hp;have:=memW w hw;unfold eG at this;rcases fu.mp this with z|z
  ·obtain⟨x,hx,rfl⟩:=bO.mp z;simp[dj]at e1
  ·obtain⟨x,hx,rfl⟩:=bO.mp z;rw[←e2];exact dI (f:=λz=>z.1.nm) hx
 have sl:(wsA (bT rs ps)).length=(bT rs ps).length:=by simp[wsA]
 generalize hW:bT rs ps=W at q lW memW ptW nm1 sl;generalize hT:bR b (bF b n y) (wsA W)=T at q;have few:=S3.few;unfold sy;refine cg (by rfl) ?_;change wp (sI [some (.ref o),some (.ref a),none,none,none,none,none,none,none]) _ _ _;unfold sI;refine aJ (R:=λσ h1=>∃w,Off [] h h1/\h.length≤w/\h1[w]?=some (.lst (W.map Wn.row))/\σ=[some (.ref o),some (.ref a),some (.ref w),none,none,none,none,none,none]) ?_ ?_
 ·rw[cq,S.meth (by decide) rfl,bp];refine Eg S hz hp λh' w f l g=>⟨_,rfl,w,f,l,?_,rfl⟩;rw[←hW];exact g
 rintro _ h1 ⟨w,f1,lw,gw,rfl⟩;have Sa:=S.off f1;have ga1:=f1.get ha (by simp);refine aJ (R:=λσ h2=>∃x z,Pre h1 h2/\h1.length≤x/\h1.length≤z/\h2[x]?=some (.lst (zs T))/\h2[z]?=some (.lst (tab n (cA b (bF b n y) (wsA W))))/\σ=[some (.ref o),some (.ref a),some (.ref w),some (.tup [.ref x,.ref z]),none,none,none,none,none]) ?_ ?_
 ·rw[cq,dG,bv,Sa.bk.methO (by decide) (Sa.fbook rfl),bp,xc Sa.bk,bv,aK];simp only[aM,aR,bv];have e1:(ae 2) [some (.ref o),some (.ref a),some (.ref w),none,none,none,none,none,none] h1=.ok (.ref w) h1:=iV (by simp);refine ki W (λx=>[x.row]) (λ_=>true) (λx=>Want.v (x.pt,x.am)) (fE e1 gw) (by simp) (λh' p'=>d6 (p'.get gw)) (by lia) (λx hx h2 p2=>?_) (λx hx _ h2 p2=>?_) λh2 p2=>?_
  ·simp[fi,bx,Pre.refl]
  ·have c3:¬(dF 5 0 (some 3)=0/\dF 5 5 none=5):=by decide
   rw[mG,aK];simp only[bz,lH,lX,wo,aM,aR,mq,mL,w_c,Wn.row,IJ];exact⟨c3,rfl,.refl⟩
  ·rw[lU,bp];have ew:W.map (λx=>Want.v (x.pt,x.am))=(wsA W).map Want.v:=by unfold wsA;rw[bX];rfl
   rw[ew];refine Em (Sa.rv.pre (p2.snoc _)) ((p2.snoc _).get ga1) bE hn bd ptW (by lia) λh' x z p lx lz ex ez=>?_;have l2:=(p2.snoc (.lst ((wsA W).map Want.v))).len;rw[hT]at ex;exact⟨_,rfl,x,z,(p2.snoc _).trans p,by lia,by lia,ex,ez,rfl⟩
 rintro _ h2 ⟨x,z,p2,lx,lz,ex,ez,rfl⟩;have j0:∀u v:MV,atN [u,v] 0=some u:=λ_ _=>rfl;have j1:∀u v:MV,atN [u,v] 1=some v:=λ_ _=>rfl;have lh1:=f1.2;refine aJ (R:=λσ h3=>∃p1,Pre h2 h3/\h2.length≤p1/\h3[p1]?=some (.lst ((prs 0 W T).map pv))/\σ=[some (.ref o),some (.ref a),some (.ref w),some (.tup [.ref x,.ref z]),some (.ref p1),none,none,none,none]) ?_ ?_
 ·simp only[cq,dG,bv,bp,aK,bq,w_c,aM,aR,cB,j0];exact xj (p2.get gw) ex (by lia) λh' p=>⟨_,rfl,h'.length,p.snoc _,p.len,bE,rfl⟩
 rintro _ h3 ⟨p1,p3,l1,g1,rfl⟩;refine aJ (R:=λσ h4=>∃p2',Pre h3 h4/\h3.length≤p2'/\h4[p2']?=some (.lst ((prs 1 W T).map pv))/\σ=[some (.ref o),some (.ref a),some (.ref w),some (.tup [.ref x,.ref z]),some (.ref p1),some (.ref p2'),none,none,none]) ?_ ?_
 ·simp only[cq,dG,bv,bp,aK,bq,w_c,aM,aR,cB,j0];exact xj ((p2.trans p3).get gw) (p3.get ex) (by lia) λh' p=>⟨_,rfl,h'.length,p.snoc _,p.len,bE,rfl⟩
 rintro _ h4 ⟨q1,p4,lq,gq,rfl⟩;have P:=p2.trans (p3.trans p4);have S4:=Sa.pre P;have g14:=p4.get g1;have ez4:=(p3.trans p4).get ez;have lz4:=aS ez4;have lp14:=aS g14;have ne12:p1≠q1:=by have:=aS g1;lia
 have h2l:=p2.len;have h3l:=p3.len;have h4l:=p4.len;have o4:=S4.of.ob;refine aJ (R:=λσ h5=>∃ld',Off [o] h4 h5/\h4.length≤ld'/\Sy h5 o bk pd ld' ad r d ro ps [] A rs b/\σ=[some (.ref o),some (.ref a),some (.ref w),some (.tup [.ref x,.ref z]),some (.ref p1),some (.ref q1),none,none,none]) ?_ ?_
 ·have S5:=S4.pre (Pre.app (.dct (acL [])));have o5:=S5.of.ob;have n5:=aS o5;have lo4:=aS o4;have lpd:=aS S4.of.pn;have lad:=aS S4.of.al;have ldd:=aS S4.bk.dc;have S6:=S5.setO (ro':=ro) (L':=[]) (ld':=h4.length) bE ⟨by lia,by lia,by lia⟩;have e0:(h4++[MO.dct []])=h4++[.dct (acL [])]:=rfl;simp[o5,e0,putF];refine⟨by simpa using n5,?_,h4.length,bo _,S6⟩;exact((Pre.app _).off).trans Off.set
 rintro _ h5 ⟨ld5,f5,l5,S5,rfl⟩;have keep5:∀{n:Nat}{xs:List MV},h4[n]?=some (.lst xs)->h5[n]?=some (.lst xs):=λe=>f5.lst e λn hn ys z=>by
  rw[cT.mp hn,o4]at z;cases z
 have g15:=keep5 g14;have gq5:=keep5 gq;have ez5:=keep5 ez4;have rows:∀(l:List (Str×Int)),fU 2 (l.map pv)=some (l.map λp=>[.str p.1,.int p.2]):=by
  intro l
  induction l with
  |nil=>rfl
  |cons p l ih=>simp[fU,pv,ih]
 refine aJ (R:=λσ h6=>(Off [ld5,ad] h5 h6/\Sy h6 o bk pd ld5 ad r d ro ps ((prs 0 W T).foldl aadd []) ((prs 0 W T).foldl aadd A) rs b/\h6[p1]?=some (.lst ((prs 0 W T).map pv))/\h6[q1]?=some (.lst ((prs 1 W T).map pv))/\h6[z]?=some (.lst (tab n (cA b (bF b n y) (wsA W)))))/\∃u v,σ=[some (.ref o),some (.ref a),some (.ref w),some (.tup [.ref x,.ref z]),some (.ref p1),some (.ref q1),u,v,none]) ?_ ?_
 ·rw[eE];have e1:(ae 4) [some (.ref o),some (.ref a),some (.ref w),some (.tup [.ref x,.ref z]),some (.ref p1),some (.ref q1),none,none,none] h5=.ok (.ref p1) h5:=iV (by simp);refine cI (vh e1 g15 (rows _)) ?_;refine dR (λk σ h6=>(Off [ld5,ad] h5 h6/\Sy h6 o bk pd ld5 ad r d ro ps (((prs 0 W T).take k).foldl aadd []) (((prs 0 W T).take k).foldl aadd A) rs b/\h6[p1]?=some (.lst ((prs 0 W T).map pv))/\h6[q1]?=some (.lst ((prs 1 W T).map pv))/\h6[z]?=some (.lst (tab n (cA b (bF b n y) (wsA W)))))/\∃u v,σ=[some (.ref o),some (.ref a),some (.ref w),some (.tup [.ref x,.ref z]),some (.ref p1),some (.ref q1),u,v,none]) (λk σ h6 ⟨⟨_,_,e,_⟩,_⟩=>d6 e) (λk vv σ h6 hv ⟨⟨f6,S6,a1,a2,a3⟩,u,v,es⟩=>?_) (λσ h6 ⟨⟨f6,S6,a1,a2,a3⟩,u,v,es⟩=>⟨σ,rfl,?_,u,v,es⟩) ⟨⟨Off.refl,S5,g15,gq5,ez5⟩,none,none,rfl⟩
  ·subst es;rw[bj]at hv;cases ek:(prs 0 W T)[k]? with
   |none=>rw[ek]at hv;cases hv
   |some p=>
     rw[ek]at hv;cases hv;have tk:(prs 0 W T).take (k+1)=(prs 0 W T).take k++[p]:=by rw[fR,ek];rfl
     have kl:=(bN.mp ek).1;have pl:=su (i:=0) (W:=W) (T:=T);have b1:=jp (ps:=(prs 0 W T).take k) (L:=[]);have b2:=jp (ps:=(prs 0 W T).take k) (L:=A);rw[il]at b1 b2;simp only[jc]at b1;simp only[cj,d0,d5];rw[eI,S6.meth (by decide) rfl];simp only[bv,bp,aK,aM,aR];refine xz S6 (by lia) (by lia) λh7 f7 S7=>?_;have keep:∀{n:Nat}{xs:List MV},h6[n]?=some (.lst xs)->h7[n]?=some (.lst xs):=λe=>f7.lst e λn hn ys z=>by
      simp only[bK,lL,or_false]at hn;rcases hn with rfl|rfl
      ·rw[S6.of.la]at z;cases z
      ·rw[S6.of.al]at z;cases z
     refine⟨⟨f6.trans f7,?_,keep a1,keep a2,keep a3⟩,_,_,rfl⟩;rw[tk,nY,nY];exact S7
  ·rw[bS,kn (bo _)]at S6;exact⟨f6,S6,a1,a2,a3⟩
 rintro _ h6 ⟨⟨f6,S6,g16,gq6,ez6⟩,u6,v6,rfl⟩;refine aJ (R:=λσ h7=>(Off (ps.map (·.2)) h6 h7/\Sy h7 o bk pd ld5 ad r d ro ((prs 1 W T).foldl padd ps) ((prs 0 W T).foldl aadd []) ((prs 0 W T).foldl aadd A) rs b/\h7[p1]?=some (.lst ((prs 0 W T).map pv))/\h7[q1]?=some (.lst ((prs 1 W T).map pv))/\h7[z]?=some (.lst (tab n (cA b (bF b n y) (wsA W)))))/\∃u v t,σ=[some (.ref o),some (.ref a),some (.ref w),some (.tup [.ref x,.ref z]),some (.ref p1),some (.ref q1),u,v,t]) ?_ ?_
 ·rw[eE];have e1:(ae 5) [some (.ref o),some (.ref a),some (.ref w),some (.tup [.ref x,.ref z]),some (.ref p1),some (.ref q1),u6,v6,none] h6=.ok (.ref q1) h6:=iV (by simp);refine cI (vh e1 gq6 (rows _)) ?_;refine dR (λk σ h7=>(Off (ps.map (·.2)) h6 h7/\Sy h7 o bk pd ld5 ad r d ro (((prs 1 W T).take k).foldl padd ps) ((prs 0 W T).foldl aadd []) ((prs 0 W T).foldl aadd A) rs b/\h7[p1]?=some (.lst ((prs 0 W T).map pv))/\h7[q1]?=some (.lst ((prs 1 W T).map pv))/\h7[z]?=some (.lst (tab n (cA b (bF b n y) (wsA W)))))/\∃u v t,σ=[some (.ref o),some (.ref a),some (.ref w),some (.tup [.ref x,.ref z]),some (.ref p1),some (.ref q1),u,v,t]) (λk σ h7 ⟨⟨_,_,_,e,_⟩,_⟩=>d6 e) (λk vv σ h7 hv ⟨⟨f7,S7,a1,a2,a3⟩,u,v,t,es⟩=>?_) (λσ h7 ⟨⟨f7,S7,a1,a2,a3⟩,u,v,t,es⟩=>⟨σ,rfl,?_,u,v,t,es⟩) ⟨⟨Off.refl,S6,g16,gq6,ez6⟩,u6,v6,none,rfl⟩
  ·subst es;rw[bj]at hv;cases ek:(prs 1 W T)[k]? with
   |none=>rw[ek]at hv;cases hv
   |some p=>
     rw[ek]at hv;cases hv;have tk:(prs 1 W T).take (k+1)=(prs 1 W T).take k++[p]:=by rw[fR,ek];rfl
     have pn:=nm1 (de ek);rw[←zY (qs:=(prs 1 W T).take k)]at pn;obtain⟨xx,hxx,exx⟩:=bO.mp pn;have hxa:xx.2∈ps.map (·.2):=by
      rw[←yi (qs:=(prs 1 W T).take k)];exact dI hxx
     have hd:=zd S7.of.nm hxx;have ho:=S7.of.it xx hxx;have S8:=S7.pour hxx p.2;have lx:=aS ho;have h7o:=S7.of.ob;have h7p:=S7.of.pn;rw[exx]at hd S8;have c5:([5]:List Nat).contains 5=true:=rfl;have c4:([4]:List Nat).contains 4=true:=rfl;have lk4:∀a b c d:MV,dQ "held_water" [("point",a),("size",b),("date",c),("held_water",d)]=some d:=λ_ _ _ _=>rfl;have lkp:∀a b c d e:MV,dQ "ponds" [("book",a),("ponds",b),("last_day",c),("all_days",d),("ran_out",e)]=some b:=λ_ _ _ _ _=>rfl;have pf:∀(a b c d v:MV),putF "held_water" v [("point",a),("size",b),("date",c),("held_water",d)]=[("point",a),("size",b),("date",c),("held_water",v)]:=λ_ _ _ _ _=>rfl;unfold poO at ho;simp only[cj,d0,d5,dL,cq,bq,lC,aK,aM,aR,h7o,c4,lkp,true_and,kr,h7p,hd,vK,ho,c5,lk4,Ac,pf];have keep:∀{n:Nat}{xs:List MV},h7[n]?=some (.lst xs)->(h7.set xx.2 (poO (xx.1.add p.2)))[n]?=some (.lst xs):=λe=>bL e (cX ho e (by simp));refine⟨by simp,lx,⟨f7.trans (Off.set.mono λn hn=>by rw[cT.mp hn];exact hxa),?_,keep a1,keep a2,keep a3⟩,_,_,_,rfl⟩;rw[tk,nY];exact S8
  ·rw[bS,kn (bo _)]at S7;exact⟨f7,S7,a1,a2,a3⟩
 rintro _ h7 ⟨⟨f7,S7,g17,gq7,ez7⟩,u7,v7,t7,rfl⟩;have h7o:=S7.of.ob;have n7:=aS h7o;have ap7:=S7.of.ap;have S8:=S7.setO (ro':=ro+cA b (bF b n y) (wsA W) 0) S7.of.la ⟨ap7.1,ap7.2.2.1,ap7.2.2.2.2.1⟩;have keep8:∀{y:MO}{n:Nat}{xs:List MV},h7[n]?=some (.lst xs)->(h7.set o y)[n]?=some (.lst xs):=λe=>bL e (cX h7o e (by simp));have lkr:∀a b c d e:MV,dQ "ran_out" [("book",a),("ponds",b),("last_day",c),("all_days",d),("ran_out",e)]=some e:=λ_ _ _ _ _=>rfl;have pfr:∀a b c d e v:MV,putF "ran_out" v [("book",a),("ponds",b),("last_day",c),("all_days",d),("ran_out",e)]=[("book",a),("ponds",b),("last_day",c),("all_days",d),("ran_out",v)]:=λ_ _ _ _ _ _=>rfl;have c4:([4]:List Nat).contains 4=true:=rfl;have t0:atN (tab n (cA b (bF b n y) (wsA W))) 0=some (.int (cA b (bF b n y) (wsA W) 0)):=iM (k:=0) (by lia);simp only[dL,vK,aK,aM,aR,h7o,c4,lkr,true_and,bq,w_c,cB,j1,fS,ez7,t0,Ac,pfr,iB,jJ,bv,bp];refine⟨by simp,n7,by simp,?_⟩;have F:Off (o::ad::ps.map (·.2)) h (h7.set o (.ins 4 [("book",.ref bk),("ponds",.ref pd),("last_day",.ref ld5),("all_days",.ref ad),("ran_out",.int (ro+cA b (bF b n y) (wsA W) 0))])):=by
  refine⟨λm ob hm e=>?_,?_⟩
  ·have hm':m≠o/\m≠ad/\m∉ps.map (·.2):=by simpa[not_or] using hm
   have e1:=f1.get e (by simp);have e4:=P.get e1;have lm:=aS e;have e5:=f5.get e4 (by simpa using hm'.1);have e6:=f6.get e5 (by simp[hm'.2.1];lia);have e7:=f7.get e6 hm'.2.2;exact bL e7 hm'.1.symm
  ·have:=f5.2;have:=f6.2;have:=f7.2;simp;lia
 exact q _ ld5 p1 q1 F (by lia) (by lia) (by lia) ne12 (keep8 g17) (keep8 gq7) S8
end
section
variable {h:MH}{o bk pd ld ad r d:Nat}{ro:Int}{ps:List (Po×Nat)}{L A:List (Str×Int)}{rs:List Rid}{b:List Nat}{Q:MV->MH->Prop}{E:Nat->MH->Prop}
theorem EM(B:cP h bk r d rs)(R:cW h r b)(q:∀h',Pre h h'->Sy h' h.length bk (h.length+1) (h.length+2) (h.length+3) r d 0 [] [] [] rs b->Q .non h'):wp (qm [.ref h.length,.ref bk]) (h++[.ins 4 []]) Q E:=by
 have ld:=aS B.dc;unfold qm;refine cg (by rfl) ?_;simp[uM,putF];refine⟨by lia,by lia,by lia,?_⟩;refine q _ ⟨_,rfl⟩ ⟨⟨?_,?_,?_,?_,?_,by simp,by simp,by lia⟩,B.pre ⟨_,rfl⟩,R.pre ⟨_,rfl⟩⟩ <;> simp[poL,acL]
theorem cW.methR(R:cW h r b){f:Fn}{mth:String}{a:MA}{σ:MSt}{o':ME}(hm:(mth == "runs_to")=false)(ho:∀Q':MV->MH->Prop,wp (o' σ) h Q' E=Q' (.ref r) h):wp (bG 1 mth f o' a σ) h Q E=wp (a σ) h (λxs h2=>wp (f (.ref r::xs)) h2 Q E) E:=by
 obtain⟨⟨l,h1,h2⟩,w,fw⟩:=R;have lk:dQ mth [("runs_to",MV.ref l)]=none:=by simp only[bW,hm,oW]
 simp only[qF,ho,h1,lk,true_and]
theorem Sy.friver(S:Sy h o bk pd ld ad r d ro ps L A rs b){σ:MSt}(hs:σ[0]?=some (some (.ref o)))(Q':MV->MH->Prop):wp (bG 3 "river" jK (aZ (ae 0) [4] "book") az σ) h Q' E=Q' (.ref r) h:=by
 rw[S.bk.methO (by decide) (S.fbook hs),bp];exact propext (xc S.bk)
theorem CY(S:Sy h o bk pd ld ad r d ro ps L A rs b){x:Po}(w0:x.wt=0)(hk:x.nm∉ps.map (·.1.nm))(hp:x.pt<b.length+1)(few:ps.length<900)
  (q:∀h' a,Off [pd] h h'->h.length≤a->Sy h' o bk pd ld ad r d ro (ps++[(x,a)]) L A rs b->Q (.int (ps.length+1)) h'):wp (pZ [.ref o,.str x.nm,.int x.pt,.int x.sz,.int x.dt]) h Q E:=by
 obtain⟨S1,S2,S3⟩:=id S;have h1:=S1.ob;have h2:=S1.pn;have ap:=S1.ap;have g:(dget x.nm (poL ps)).isSome=false:=by rw[yx hk];rfl
 have cp:=λQ'=>tM (Q:=Q') (E:=E) (p:=x.pt) S3 (by lia) (by lia);have lp:=aS h2;unfold pZ;refine cg (by rfl) ?_;unfold ul;refine aJ (R:=λσ h1=>h=h1/\σ=[some (.ref o),some (.str x.nm),some (.int x.pt),some (.int x.sz),some (.int x.dt)]) (by simp[h1,h2,g,bW]) ?_;rintro _ _ ⟨rfl,rfl⟩;refine aJ (R:=λσ h1=>h=h1/\σ=[some (.ref o),some (.str x.nm),some (.int x.pt),some (.int x.sz),some (.int x.dt)]) ?_ ?_
 ·rw[eI,S3.methR (by decide) (S.friver rfl)];simp only[bv,bp,aK,aM,aR,cp];exact⟨_,rfl,by trivial,rfl⟩
 rintro _ _ ⟨rfl,rfl⟩;have dp:dput x.nm (.ref h.length) (poL ps)=poL (ps++[(x,h.length)]):=by
  unfold dput;rw[if_neg (by rw[g];exact cK)];simp[poL]
 have g1:∀t,(h++t)[o]?=some (.ins 4 [("book",.ref bk),("ponds",.ref pd),("last_day",.ref ld),("all_days",.ref ad),("ran_out",.int ro)]):=λt=>dH h1;have g2:∀t,(h++t)[pd]?=some (.dct (poL ps)):=λt=>dH h2;have hl:(poL ps).length<1000:=by simp[poL];lia
 refine aJ (R:=λσ h'=>(∃a,Off [pd] h h'/\h.length≤a/\Sy h' o bk pd ld ad r d ro (ps++[(x,a)]) L A rs b)/\σ=[some (.ref o),some (.str x.nm),some (.int x.pt),some (.int x.sz),some (.int x.dt)]) ?_ ?_
 ·simp[vS];refine cg (by rfl) ?_;simp[v9,putF,g1,g2,bW,hl,dp];have px:poO x=.ins 5 [("point",.int x.pt),("size",.int x.sz),("date",.int x.dt),("held_water",.int 0)]:=by unfold poO;rw[w0]
  rw[←px];have P:Pre h (h++[poO x]):=Pre.app _;have S':=S.pre P;refine⟨by lia,Off.trans P.off Off.set,h.length,bo _,⟨⟨bL S'.of.ob (cX S'.of.pn S'.of.ob (by simp)),?_,bL S'.of.la ap.1,bL S'.of.al ap.2.1,λy hy=>?_,?_,?_,ap⟩,?_,?_⟩⟩
  ·rw[jU (by simp;lia)]
  ·rcases fu.mp hy with hy|hy
   ·exact bL (S'.of.it y hy) (cX S'.of.pn (S'.of.it y hy) (by simp[poO]))
   ·rw[cT.mp hy];exact bL bE (by lia)
  ·rw[dm,hG];refine⟨S1.nm,by simp,λa ha c hc e=>?_⟩;simp at hc;subst hc;exact hk (e▸ha)
  ·rw[dm,hG];refine⟨S1.nd,by simp,λa ha c hc e=>?_⟩;simp at hc;subst hc;obtain⟨y,hy,ey⟩:=bO.mp ha;have:=aS (S1.it y hy);lia
  ·exact S'.book_set S'.of.pn ap.2.2.2.1.symm (λ_=>by simp) (λ_=>by simp)
  ·exact S'.river_set S'.of.pn (λ_=>by simp) (λ_=>by simp)
 rintro _ h3 ⟨⟨a,o3,la,S3'⟩,rfl⟩;have k1:=S3'.of.ob;have k2:=S3'.of.pn;simp[k1,k2,bW,poL];have:=q h3 a o3 la S3';simpa using this
theorem Et(S:Sy h o bk pd ld ad r d ro ps L A rs b){x:Po×Nat}(hx:x∈ps){y:Rid}(hy:y∈rs){t:Int}(pp:x.1.pt<b.length+1)(l1:L.length<900)(l2:A.length<900)
  (nb:y.1.pt∉aN b x.1.pt->∀h',Pre h h'->E 111 h') (tm:y.1.pt∈aN b x.1.pt->(x.1.wt<t∨(if 0<y.1.am-aget y.1.nm L then y.1.am-aget y.1.nm L else 0)<t)->∀h',Pre h h'->E 107 h')
  (q:y.1.pt∈aN b x.1.pt->t≤x.1.wt->t≤(if 0<y.1.am-aget y.1.nm L then y.1.am-aget y.1.nm L else 0)->∀h',Off (ld::ad::ps.map (·.2)) h h'->Sy h' o bk pd ld ad r d ro (padd ps (x.1.nm,-t)) (aadd L (y.1.nm,t)) (aadd A (y.1.nm,t)) rs b->Q (.int (x.1.wt-t)) h'):wp (qM [.ref o,.str x.1.nm,.str y.1.nm,.int t]) h Q E:=by
 obtain⟨S1,S2,S3⟩:=id S;have ho:=S1.it x hx;have i0:∀u v w:MV,atN [u,v,w] 0=some u:=λ_ _ _=>rfl;have i1:∀u v w:MV,atN [u,v,w] 1=some v:=λ_ _ _=>rfl;have c5:([5]:List Nat).contains 5=true:=rfl;have c52:([5,2]:List Nat).contains 5=true:=rfl;have lk1:∀a b c d:MV,dQ "point" [("point",a),("size",b),("date",c),("held_water",d)]=some a:=λ_ _ _ _=>rfl;have lk4:∀a b c d:MV,dQ "held_water" [("point",a),("size",b),("date",c),("held_water",d)]=some d:=λ_ _ _ _=>rfl;have pf:∀(a b c d v:MV),putF "held_water" v [("point",a),("size",b),("date",c),("held_water",d)]=[("point",a),("size",b),("date",c),("held_water",v)]:=λ_ _ _ _ _=>rfl;unfold qM;refine cg (by rfl) ?_;change wp (pA [some (.ref o),some (.str x.1.nm),some (.str y.1.nm),some (.int t),none,none,none]) _ _ _;unfold pA;rw[dL,cq,S.meth (by decide) rfl];simp only[bv,bp,aK,aM,aR];rw[zQ S hx];simp only[d0,d5];rw[dL,cq,S.bk.methO (by decide) (S.fbook rfl)];simp only[bv,bp,aK,aM,aR];rw[pL S2 hy];simp only[d0,d5,Rt.val];unfold poO at ho;rw[dL,fM,cY,bq,bq];simp only[aK,w_c,aM,aR,cB,i0];rw[S3.methR (by decide) (S.friver rfl)];simp only[bv,bp,lC,aK,aM,aR,ho,c52,lk1,true_and];refine A7 S3 pp ?_;have fz:=Ej (aN b x.1.pt);have im:=tJ (q:=y.1.pt) (l:=aN b x.1.pt);have ff:flat (MV.int y.1.pt)=true:=rfl;simp only[oS,bE,ff,fz,im,true_and,if_true];have P:Pre h (h++[.lst (nats (aN b x.1.pt))]):=Pre.app _;have Sp:=S.pre P;have hop:=P.get ho;generalize h++[MO.lst (nats (aN b x.1.pt))]=h1 at P Sp hop;by_cases cw:y.1.pt∈aN b x.1.pt
 ·simp only[cw,decide_true,gJ,cJ,if_false,gG];rw[dL,cq,bq,w_c,bq,bq,aK];simp only[w_c,aM,aR,cB,i1];rw[Sp.meth (by decide) rfl];simp only[bv,bp,aK,aM,aR];refine yZ Sp hy ?_;simp only[kM,AF,d0,d5];generalize hlk:(if 0<y.1.am-aget y.1.nm L then y.1.am-aget y.1.nm L else 0)=lk at tm q;rw[dL,fM,cY,bq];simp only[aK,lC,aM,aR,hop,c5,lk4,true_and,qB];by_cases c1:x.1.wt<t
  ·simp only[c1,decide_true,if_true,wm,bv,bp,w_c];exact⟨by simp,tm cw (.inl c1) h1 P⟩
  ·simp only[c1,decide_false,cJ,if_false,gG];rw[dL,fM,cY,bq];simp only[aK,aM,aR,qB];by_cases c2:lk<t
   ·simp only[c2,decide_true,if_true,wm,bv,bp,w_c];exact⟨by simp,tm cw (.inr c2) h1 P⟩
   ·simp only[c2,decide_false,cJ,if_false,gG];have lx:=aS hop;have Sq:=Sp.pour hx (-t);have ea:poO (x.1.add (-t))=.ins 5 [("point",.int x.1.pt),("size",.int x.1.sz),("date",.int x.1.dt),("held_water",.int (x.1.wt-t))]:=by
     unfold poO Po.add;simp[Int.sub_eq_add_neg]
    rw[dL,vK];simp only[aK,aM,aR,hop,c5,lk4,true_and,kM,pf];refine⟨by simp,lx,?_⟩;rw[←ea];have f2:Off [x.2] h1 (h1.set x.2 (poO (x.1.add (-t)))):=Off.set;have gx:(h1.set x.2 (poO (x.1.add (-t))))[x.2]?=some (poO (x.1.add (-t))):=dU lx;generalize h1.set x.2 (poO (x.1.add (-t)))=h2 at Sq f2 gx;rw[dL,eI,Sq.meth (by decide) rfl];simp only [bv,bp,aK,aM,aR];refine xz Sq l1 l2 λh3 f3 S3'=>?_;have g3:h3[x.2]? = some (poO (x.1.add (-t))):=f3.get gx (by
     simp only [bK,lL,or_false,not_or];exact ⟨cX gx Sq.of.la (by simp [poO]),cX gx Sq.of.al (by simp [poO])⟩)
    rw[ea]at g3;simp only[iB,lC,aK,aM,aR,g3,c5,lk4,true_and];refine q cw (by lia) (by lia) h3 ?_ S3';refine(P.off.trans (f2.mono ?_)).trans (f3.mono ?_)
    ·intro m hm;rw[cT.mp hm];exact dO _ (dO _ (dI hx))
    ·intro m hm;simp only[bK,lL,or_false]at hm;rcases hm with rfl|rfl <;> simp
 ·simp only[cw,decide_false,Bool.not_false,if_true,wm,bv,bp,w_c];exact⟨by simp,nb cw h1 P⟩
end
noncomputable def iC(p:Pd):Po:=⟨p.nm,p.pt.toNat,p.sz,p.dt,0⟩
section
variable {h:MH}{o bk pd ld ad r d:Nat}{ro:Int}{ps:List (Po×Nat)}{L A:List (Str×Int)}{rs:List Rid}{b:List Nat}{Q:MV->MH->Prop}{E:Nat->MH->Prop}
theorem BY{pl:Nat}{po:List Pd}(S:Sy h o bk pd ld ad r d ro ps L A rs b)(hl:h[pl]?=some (.lst (po.map Pd.row)))(nd:(ps.map (·.1.nm)++po.map (·.nm)).Nodup)(hp:∀x∈po,0≤x.pt/\x.pt<(b.length:Int)+1)(few:ps.length+po.length<800)
  (q:∀h' ps',Off [pd] h h'->ps'.map (·.1)=ps.map (·.1)++po.map iC->(∀x∈ps',x∈ps∨h.length≤x.2)->Sy h' o bk pd ld ad r d ro ps' L A rs b->Q .non h'):wp (mZ [.ref o,.ref pl]) h Q E:=by
 unfold mZ;refine cg (by rfl) ?_;change wp (pb [some (.ref o),some (.ref pl),none]) _ _ _;unfold pb;have i0:∀u v w z:MV,atN [u,v,w,z] 0=some u:=λ_ _ _ _=>rfl;have i1:∀u v w z:MV,atN [u,v,w,z] 1=some v:=λ_ _ _ _=>rfl;have i2:∀u v w z:MV,atN [u,v,w,z] 2=some w:=λ_ _ _ _=>rfl;have i3:∀u v w z:MV,atN [u,v,w,z] 3=some z:=λ_ _ _ _=>rfl;rw[eE];refine cI (fE (n:=pl) (h':=h) rfl hl) ?_;refine dR (λk σ h'=>(∃ps',Off [pd] h h'/\ps'.map (·.1)=ps.map (·.1)++(po.take k).map iC/\(∀x∈ps',x∈ps∨h.length≤x.2)/\Sy h' o bk pd ld ad r d ro ps' L A rs b)/\∃u,σ=[some (.ref o),some (.ref pl),u]) (λk σ h' ⟨⟨ps',f,_⟩,_⟩=>d6 (f.lst hl λn hn ys z=>by rw[cT.mp hn,S.of.pn]at z;cases z)) (λk vv σ h' hv ⟨⟨ps',f,e1,e2,S'⟩,u,es⟩=>?_) (λσ h' ⟨⟨ps',f,e1,e2,S'⟩,u,es⟩=>?_) ⟨⟨ps,Off.refl,by simp,λx hx=>.inl hx,S⟩,none,rfl⟩
 ·subst es;rw[bj,bj]at hv;cases ek:po[k]? with
  |none=>rw[ek]at hv;cases hv
  |some x=>
    rw[ek]at hv;cases hv;have hx:=de ek;have kl:=(bN.mp ek).1;have tk:po.take (k+1)=po.take k++[x]:=by rw[fR,ek];rfl
    have nms:ps'.map (·.1.nm)=ps.map (·.1.nm)++(po.take k).map (·.nm):=by
     have:=congrArg (iA Po.nm) e1;rw[bX,dm,bX,bX]at this;exact this
    have fresh:(iC x).nm∉ps'.map (·.1.nm):=by
     rw[nms];have nd2:(ps.map (·.1.nm)++(po.take (k+1)).map (·.nm)).Nodup:=nd.sublist (List.Sublist.append (List.Sublist.refl _) ((oR _ _).map _));rw[tk,dm,←List.append_assoc,hG]at nd2;exact λz=>nd2.2.2 _ z x.nm (by simp) rfl
    have lps:ps'.length=ps.length+k:=by
     have:=congrArg i9 e1;simp[Nat.min_eq_left (mi kl)]at this;exact this
    have hpx:=hp x hx;have ept:(((iC x).pt:Nat):Int)=x.pt:=by simp[iC];lia
    simp only[cj,d0,d5];rw[eI,S'.meth (by decide) rfl];simp only[bv,bp,aK,bq,w_c,aM,aR,Pd.row,cB,i0,i1,i2,i3];rw[←ept];refine CY (x:=iC x) S' rfl fresh (by have:((iC x).pt:Int)=x.pt:=ept;lia) (by lia) λh2 a f2 la S2=>⟨⟨ps'++[(iC x,a)],f.trans f2,?_,?_,S2⟩,_,rfl⟩
    ·rw[dm,e1,tk];simp
    ·intro z hz;rcases fu.mp hz with hz|hz
     ·exact e2 z hz
     ·rw[cT.mp hz];have:=f.2;exact .inr (by show h.length≤a;lia)
 ·rw[bS,bS,kn (bo _)]at e1;exact q h' ps' f e1 e2 S'
end
theorem FL{k:Str}{M:Int}{P:List (Str×Int)}(nd:(P.map (·.1)).Nodup)(m0:0≤M)(hP:∀p∈P,0≤p.2/\(p.1=k->p.2≤M)):0≤asum k P/\asum k P≤M:=by
 by_cases c:k∈P.map (·.1)
 ·obtain⟨p,hp,rfl⟩:=bO.mp c;rw[j9 nd hp];exact⟨(hP p hp).1,(hP p hp).2 rfl⟩
 ·rw[pP c];exact⟨mw _,m0⟩
theorem rV{i:Int}{W:List Wn}{T:List Int}(n:WNm W):((prs i W T).map (·.1)).Nodup:=by
 have go:∀(W:List Wn) (T:List Int),WNm W->((prs i W T).map (·.1)).Nodup/\∀k∈(prs i W T).map (·.1),(k,i)∈W.map λw=>(w.nm,w.rk):=by
  intro W
  induction W with
  |nil=>intro T _;simp[prs]
  |cons w W ih=>
    intro T n;unfold WNm at n;rw[bz,gu]at n;cases T with
    |nil=>simp[prs]
    |cons t T=>
      obtain⟨a1,a2⟩:=ih T n.2;have e:prs i (w::W) (t::T)=if w.rk=i then(w.nm,t)::prs i W T else prs i W T:=by
       unfold prs;rw[lY,List.filter_cons];by_cases c:w.rk=i
       ·simp[c]
       ·simp[c]
      rw[e];by_cases c:w.rk=i
      ·rw[if_pos c,bz];refine⟨gu.mpr ⟨λz=>n.1 ?_,a1⟩,λk hk=>?_⟩
       ·rw[c];exact a2 _ z
       ·rcases bK.mp hk with rfl|hk
        ·rw[←c];simp
        ·exact dO _ (a2 k hk)
      ·rw[if_neg c];exact⟨a1,λk hk=>dO _ (a2 k hk)⟩
 exact(go W T n).1
theorem xp{i:Int}{b:List Nat}{f:Nat->Int}{W:List Wn}{p:Str×Int}(fn:∀p,0≤f p)(am:∀w∈W,0≤w.am)(hp:p∈prs i W (bR b f (wsA W))):∃w∈W,w.rk=i/\w.nm=p.1/\0≤p.2/\p.2≤w.am:=by
 unfold prs at hp;obtain⟨x,hx,rfl⟩:=bO.mp hp;obtain⟨h1,h2⟩:=ol.mp hx;obtain⟨k,ek⟩:=oO h1;obtain⟨e1,e2⟩:=yS ek;have e3:(wsA W)[k]?=some (x.1.pt,x.1.am):=by unfold wsA;rw[bj,e1];rfl
 have:=xH (b:=b) (wsA W) fn (λw hw=>by
  obtain ⟨v,hv,rfl⟩:=bO.mp hw;exact am v hv) k _ _ e3 e2
 exact⟨x.1,de e1,by simpa using h2,rfl,this⟩
theorem w9{rs:List Rid}{ps:List (Po×Nat)}(n:Names (aW rs))(hz:rs.length<40)(np:(ps.map (·.1.nm)).Nodup)(hp:ps.length<20):(bT rs ps).length=rs.length+ps.length:=by
 have hz':(aW rs).length<64:=by simp[aW];lia
 have al:(aged (aW rs)).length=rs.length:=by rw[lf n hz',bS]
 unfold bT;rw[wD (lE n (by lia) np) (by simp[eG,al];lia)];simp[eG,al]
theorem yR{rs:List Rid}{ps:List (Po×Nat)}(n:Names (aW rs))(hz:rs.length<40)(np:(ps.map (·.1.nm)).Nodup)(hp:ps.length<20){w:Wn}:w∈bT rs ps↔(∃x∈rs,w=dj x.1)∨∃x∈ps,w=ie x.1:=by
 have hz':(aW rs).length<64:=by simp[aW];lia
 have al:(aged (aW rs)).length=rs.length:=by rw[lf n hz',bS]
 unfold bT;rw[(lI (lE n (by lia) np) (by simp[eG,al];lia)).mem_iff];unfold eG;rw[fu];constructor
 ·rintro(h|h)
  ·obtain⟨x,hx,rfl⟩:=bO.mp h;obtain⟨y,hy,rfl⟩:=bO.mp ((kN n hz').mem_iff.mp hx);exact .inl ⟨y,hy,rfl⟩
  ·obtain⟨x,hx,rfl⟩:=bO.mp h;exact .inr ⟨x,hx,rfl⟩
 ·rintro(⟨x,hx,rfl⟩|⟨x,hx,rfl⟩)
  ·exact .inl (dI ((kN n hz').mem_iff.mpr (dI hx)))
  ·exact .inr (dI (f:=λx=>ie x.1) hx)
theorem Go{rs:List Rid}{ps:List (Po×Nat)}(n:Names (aW rs))(hz:rs.length<40)(np:(ps.map (·.1.nm)).Nodup)(hp:ps.length<20):WNm (bT rs ps):=by
 have hz':(aW rs).length<64:=by simp[aW];lia
 have al:(aged (aW rs)).length=rs.length:=by rw[lf n hz',bS]
 have nW:=lE n (by lia) np;unfold WNm bT;exact((lI nW (by simp[eG,al];lia)).map λ(r:Wn)=>(r.nm,r.rk)).nodup_iff.mpr nW
theorem CS{i:Int}{W:List Wn}{T:List Int}{w:Wn}(hl:T.length=W.length)(hw:w∈W)(r0:w.rk=i):∃t,(w.nm,t)∈prs i W T:=by
 obtain⟨k,hk,e⟩:=List.mem_iff_getElem.mp hw;refine⟨T[k],bO.mpr ⟨(w,T[k]),ol.mpr ⟨?_,by simp[r0]⟩,rfl⟩⟩;rw[List.mem_iff_getElem];exact⟨k,by simp;lia,by simp[e]⟩
theorem xk{p:Str×Int}:∀{ps:List (Str×Int)},(ps.map (·.1)).Nodup->p∈ps->aget p.1 ps=p.2
 |[],_,h=>by cases h
 |q::ps,nd,h=>by
   rw[bz,gu]at nd;unfold aget;rcases bK.mp h with rfl|h
   ·rw[if_pos rfl]
   ·have ne:¬q.1=p.1:=λz=>nd.1 (by rw[z];exact dI (f:=λz=>z.1) h);rw[if_neg ne,xk nd.2 h]
section
variable {h:MH}{o bk pd ld ad r d:Nat}{ro:Int}{ps:List (Po×Nat)}{L A:List (Str×Int)}{rs:List Rid}{b:List Nat}{Q:MV->MH->Prop}{E:Nat->MH->Prop}
end
theorem t6{k j:Str}{v:Int}{L:List (Str×Int)}:j∈(aput k v L).map (·.1)↔j=k∨j∈L.map (·.1):=by
 unfold aput;by_cases c:k∈L.map (·.1)
 ·rw[if_pos c];have e:(L.map λq=>if q.1=k then(q.1,v) else q).map (·.1)=L.map (·.1):=by
   rw[bX];refine gA λq _=>?_;simp only[Function.comp];split <;> rfl
  rw[e];exact⟨.inr,λz=>z.elim (λz=>z▸c) id⟩
 ·rw[if_neg c,dm,fu];simp;exact Or.comm
theorem B0{i:Int}{W:List Wn}{T:List Int}{w:Wn}(n:WNm W)(hl:T.length=W.length)(hw:w∈W)(r0:w.rk=i):asum w.nm (prs i W T)=aget w.nm (prs i W T):=by
 obtain⟨t,ht⟩:=CS (T:=T) hl hw r0;rw[j9 (rV n) ht,xk (rV n) ht]
section
variable {h:MH}{o bk pd ld ad r d:Nat}{ro:Int}{ps:List (Po×Nat)}{L A:List (Str×Int)}{rs:List Rid}{b:List Nat}
theorem Sy.offk{h':MH}{k:Nat}{kvs:List (Str×MV)}(S:Sy h o bk pd ld ad r d ro ps L A rs b)(e:h[k]?=some (.dct kvs))(n:k≠pd/\k≠ld/\k≠ad/\k≠d)(f:Off [k] h h'):Sy h' o bk pd ld ad r d ro ps L A rs b:=by
 have no:∀{m:Nat}{ob:MO},h[m]?=some ob->(∀kv,ob≠.dct kv)->m∉[k]:=λe' k' z=>by
  rw[cT.mp z,e]at e';exact k' _ (Option.some.inj e').symm
 refine⟨⟨f.get S.of.ob (no S.of.ob (by simp)),f.get S.of.pn (by simp;exact n.1.symm),f.get S.of.la (by simp;exact n.2.1.symm),f.get S.of.al (by simp;exact n.2.2.1.symm),λx hx=>f.get (S.of.it x hx) (no (S.of.it x hx) (by simp[poO])),S.of.nm,S.of.nd,S.of.ap⟩,S.bk.off f (no S.bk.ob (by simp)) (by simp;exact n.2.2.2.symm) λx hx=>no (S.bk.it x hx) (by simp[rtO]),S.rv.off f λm hm ob eo=>?_⟩;rw[cT.mp hm,e]at eo;cases eo
 constructor <;> (intro _ z;cases z)
end
theorem xN{i:Int}{w:Wn}{t:Int}:∀{W:List Wn}{T:List Int},T.length=W.length->prs i (W++[w]) (T++[t])=prs i W T++if w.rk=i then[(w.nm,t)] else[]
 |[],[],_=>by
   by_cases c:w.rk=i <;> simp[prs,c]
 |v::W,u::T,h=>by
   have ih:=xN (i:=i) (w:=w) (t:=t) (W:=W) (T:=T) (by simpa using h);unfold prs at ih ⊢;simp only[lX,lY,List.filter_cons];by_cases c:v.rk=i
   ·simp only[c,decide_true,if_true,bz,lX,ih]
   ·simp only[c,decide_false,cJ,if_false,ih]
theorem Ef{h:MH}{bl a l n:Nat}{b:List Nat}{y:Nat->Int}{A:List Wn}{Q:MV->MH->Prop}{E:Nat->MH->Prop}(hb:h[bl]?=some (.lst (rows b)))(w:Wf b)(few:b.length<40)(ha:h[a]?=some (.lst (tab n y)))(hl:h[l]?=some (.lst (A.map Wn.row)))(hn:n=b.length+1)(rk:∀x∈A,x.rk=0∨x.rk=1)(hz:A.length<64)(hp:∀x∈A,x.pt<b.length+1)
  (q:∀h' c c0 c1,Pre h h'->h.length≤c0->h.length≤c1->h'[c]?=some (.lst [.ref c0,.ref c1])->h'[c0]?=some (.lst ((prs 0 A (bR b (bF b n y) (wsA A))).map pv))->h'[c1]?=some (.lst ((prs 1 A (bR b (bF b n y) (wsA A))).map pv))->Q (.tup [.ref c,.int (cA b (bF b n y) (wsA A) 0)]) h'):wp (o0 [.ref bl,.ref a,.ref l]) h Q E:=by
 unfold o0;refine cg (by rfl) ?_;change wp (rZ [some (.ref bl),some (.ref a),some (.ref l),none,none,none,none,none]) _ _ _;unfold rZ;have hpA:∀x∈A,x.pt<n:=λx hx=>by rw[hn];exact hp x hx
 have r0:∀u v w z s:MV,atN [u,v,w,z,s] 1=some v:=λ_ _ _ _ _=>rfl;have r1:∀u v w z s:MV,atN [u,v,w,z,s] 3=some z:=λ_ _ _ _ _=>rfl;have r2:∀u v w z s:MV,atN [u,v,w,z,s] 4=some s:=λ_ _ _ _ _=>rfl;have r3:∀u v w z s:MV,atN [u,v,w,z,s] 2=some w:=λ_ _ _ _ _=>rfl;refine aJ (R:=λσ h1=>∃t,Pre h h1/\h.length≤t/\h1[t]?=some (.lst (tab n (tkF [])))/\σ=[some (.ref bl),some (.ref a),some (.ref l),some (.ref t),none,none,none,none]) ?_ ?_
 ·rw[cq];refine ki (ci n) (λk=>[.int (y k)]) (λ_=>true) (λ_=>.int 0) (fE (n:=a) (h':=h) rfl ha) (by simp[tab]) (λh' p=>d6 (p.get ha)) (by simp;lia) (λv hv h5 p5=>?_) (λv hv _ h5 p5=>?_) λh5 p5=>?_
  ·simp[fi,bx,Pre.refl]
  ·simp[Pre.refl]
  ·rw[lU];exact⟨_,rfl,h5.length,p5.snoc _,p5.len,bE,rfl⟩
 rintro _ h1 ⟨t,p1,lt,gt,rfl⟩;obtain⟨c0,hc0⟩:∃c0,c0=h1.length:=⟨_,rfl⟩;refine aJ (R:=λσ h2=>(Pre h h2/\h2[t]?=some (.lst (tab n (tkF [])))/\h2[c0+2]?=some (.lst [.ref c0,.ref (c0+1)])/\h2[c0]?=some (.lst [])/\h2[c0+1]?=some (.lst []))/\σ=[some (.ref bl),some (.ref a),some (.ref l),some (.ref t),some (.ref (c0+2)),none,none,none]) ?_ ?_
 ·subst hc0;have lt1:=aS gt;simp;refine⟨p1.trans ⟨_,rfl⟩,?_⟩;rw[gB lt1];exact gt
 have lt1:t<c0:=hc0▸aS gt;have lc:h.length≤c0:=hc0▸p1.len
 clear hc0
 rintro _ h2 ⟨⟨p2,gt2,gc2,gz2,go2⟩,rfl⟩;generalize hf0:bF b n y=f0 at q;have ll:l<h.length:=aS hl;refine aJ (R:=λσ h3=>(Pre h h3/\h3[c0+2]?=some (.lst [.ref c0,.ref (c0+1)])/\h3[t]?=some (.lst (tab n (tkF (eV b f0 (wsA A)))))/\h3[c0]?=some (.lst ((prs 0 A (bR b f0 (wsA A))).map pv))/\h3[c0+1]?=some (.lst ((prs 1 A (bR b f0 (wsA A))).map pv)))/\∃u v w,σ=[some (.ref bl),some (.ref a),some (.ref l),some (.ref t),some (.ref (c0+2)),u,v,w]) ?_ ?_
 ·rw[eE];refine cI (fE (n:=l) (h':=h2) rfl (p2.get hl)) ?_;refine dR (λk σ h5=>(Pre h h5/\h5[c0+2]?=some (.lst [.ref c0,.ref (c0+1)])/\h5[t]?=some (.lst (tab n (tkF (eV b f0 (wsA (A.take k))))))/\h5[c0]?=some (.lst ((prs 0 (A.take k) (bR b f0 (wsA (A.take k)))).map pv))/\h5[c0+1]?=some (.lst ((prs 1 (A.take k) (bR b f0 (wsA (A.take k)))).map pv)))/\∃u v w,σ=[some (.ref bl),some (.ref a),some (.ref l),some (.ref t),some (.ref (c0+2)),u,v,w]) (λk σ h5 ⟨⟨p5,_⟩,_⟩=>d6 (p5.get hl)) (λk v σ h5 hv ⟨⟨p5,g5,t5,z5,o5⟩,u1,u2,u3,es⟩=>?_) (λσ h5 ⟨⟨p5,g5,t5,z5,o5⟩,i⟩=>?_) ⟨⟨p2,gc2,gt2,gz2,go2⟩,_,_,_,rfl⟩
  ·subst es;rw[bj,bj]at hv;cases ek:A[k]? with
   |none=>rw[ek]at hv;cases hv
   |some x=>
     rw[ek]at hv;cases hv;have hx:=hpA x (de ek);have hxb:x.pt<b.length+1:=by lia
     have hrk:=rk x (de ek);have tk:A.take (k+1)=A.take k++[x]:=by rw[fR,ek];rfl
     have hk:=(bN.mp ek).1;have rr:x.row=.tup [.int x.dt,.str x.nm,.int x.rk,.int x.pt,.int x.am]:=rfl;have ew:wsA (A.take (k+1))=wsA (A.take k)++[(x.pt,x.am)]:=by rw[tk];simp[wsA]
     have fl:(bF b n λk_1=>y k_1-tkF (eV b f0 (wsA (A.take k))) k_1)=cA b f0 (wsA (A.take k)):=by
      rw[←hf0];refine Ba λw hw=>?_;obtain⟨z,hz',rfl⟩:=bO.mp hw;exact hpA z (wd hz')
     have ss:eV b f0 (wsA (A.take (k+1)))=eV b f0 (wsA (A.take k))++[(x.pt,dJ (cA b f0 (wsA (A.take k))) x.am (aN b x.pt))]:=by rw[ew,yu]
     have tl:(bR b f0 (wsA (A.take k))).length=(A.take k).length:=by rw[rq];simp[wsA]
     have ps:∀i,prs i (A.take (k+1)) (bR b f0 (wsA (A.take (k+1))))=prs i (A.take k) (bR b f0 (wsA (A.take k)))++if x.rk=i then[(x.nm,dJ (cA b f0 (wsA (A.take k))) x.am (aN b x.pt))] else[]:=λi=>by rw[ew,tk,wc,xN tl]
     have pl:∀i,(prs i (A.take k) (bR b f0 (wsA (A.take k)))).length≤64:=λi=>by
      have:=su (i:=i) (W:=A.take k) (T:=bR b f0 (wsA (A.take k)));rw[il]at this;lia
     generalize hS:eV b f0 (wsA (A.take k))=S at t5 fl ss;generalize hP0:prs 0 (A.take k) (bR b f0 (wsA (A.take k)))=P0 at z5;generalize hP1:prs 1 (A.take k) (bR b f0 (wsA (A.take k)))=P1 at o5;have ps0:=ps 0;have ps1:=ps 1;have pl0:=pl 0;have pl1:=pl 1;rw[hP0]at ps0 pl0;rw[hP1]at ps1 pl1;generalize hf:cA b f0 (wsA (A.take k))=f at fl ps0 ps1 ss
     clear ps pl tl
     simp only[cj,d0,d5];refine aJ (R:=λσ h6=>∃z,Pre h5 h6/\h6[z]?=some (.lst (tab n f))/\σ=[some (.ref bl),some (.ref a),some (.ref l),some (.ref t),some (.ref (c0+2)),some x.row,some (.ref z),u3]) ?_ ?_
     ·rw[cq,dG];simp only[bv,bp,aK,aM,aR];refine Af (p5.get hb) w few (p5.get ha) t5 hn λh' z p hzz e=>?_;rw[fl]at e;exact⟨_,rfl,z,p,e,rfl⟩
     rintro _ h6 ⟨z,p6,e6,rfl⟩;obtain⟨p0,pr,ew'⟩:∃p0 pr,aN b x.pt=p0::pr:=by
      have z:=AR w x.pt hxb;cases e:aN b x.pt with
      |nil=>rw[e]at z;cases z
      |cons p0 pr=>exact⟨p0,pr,rfl⟩
     obtain⟨mono,nd⟩:=tR w x.pt hxb;have wl:=xC w x.pt hxb;refine aJ (R:=λσ h7=>Pre h6 h7/\σ=[some (.ref bl),some (.ref a),some (.ref l),some (.ref t),some (.ref (c0+2)),some x.row,some (.ref z),some (.int (dJ f x.am (aN b x.pt)))]) ?_ ?_
     ·rw[cq,hX,bq];simp only[sJ,bv,bp,bq,aK,w_c,aM,aR,fG,jc,rr,cB,r2];refine⟨by decide,?_⟩;have pp:Pre h6 (h6++[.lst [MV.int x.am]]):=Pre.app _;have b6:=(p5.trans (p6.trans pp)).get hb;have hs:c9 (bM kf (ao (ae 0) (ao (aj oIx (ae 5) (eC (.int 3))) az))) [some (.ref bl),some (.ref a),some (.ref l),some (.ref t),some (.ref (c0+2)),some (.tup [.int x.dt,.str x.nm,.int x.rk,.int x.pt,.int x.am]),some (.ref z),u3] (h6++[.lst [MV.int x.am]])=.ok ⟨(nats (aN b x.pt)).map λv=>[v],[((h6++[MO.lst [MV.int x.am]]).length,nats (aN b x.pt))]⟩ (h6++[.lst [MV.int x.am]]++[.lst (nats (aN b x.pt))]):=by
       refine fE (iV ?_) bE;simp only[dG,bv,bp,bq,aK,w_c,aM,aR,cB,r1];exact re b6 w few hxb ⟨rfl,rfl⟩
      refine ki (aN b x.pt) (λp=>[.int p]) (λ_=>true) (λp=>.int (f p)) hs (by simp[nats]) (λh' p=>d6 (p.get bE)) (by lia) (λv hv h7 p7=>?_) (λv hv _ h7 p7=>?_) λh7 p7=>?_
      ·simp[fi,bx,Pre.refl]
      ·have e7:=((pp.snoc _).trans p7).get e6;have hvn:v<n:=by have:=mono v hv;lia
       simp[e7,iM hvn,Pre.refl]
      ·rw[lU];have a7:(h7++[MO.lst ((aN b x.pt).map λp=>MV.int (f p))])[h6.length]?=some (.lst [.int x.am]):=dH (p7.get (dH bE));have e4:[MV.int x.am]++(aN b x.pt).map (λp=>MV.int (f p))=zs (x.am::(p0::pr).map f):=by rw[ew'];simp[zs]
       have p8:Pre h6 (h7++[MO.lst ((aN b x.pt).map λp=>MV.int (f p))]):=((pp.snoc _).trans p7).snoc _;rw[w6];simp only[a7,bE,e4];refine⟨by simp;lia,?_⟩;refine BR bE (by rw[ew']at wl;simp at wl ⊢;lia) ?_;refine⟨_,rfl,p8.snoc _,?_⟩;rw[ew',Ai];rfl
     rintro _ h7 ⟨p7,rfl⟩;generalize htk:dJ f x.am (aN b x.pt)=tt at ps0 ps1 ss;have q7:Pre h5 h7:=p6.trans p7;have t7:=q7.get t5;have z7:=q7.get z5;have o7:=q7.get o5;have g7:=q7.get g5;have lt7:=aS t7;have st:(tab n (tkF S)).set x.pt (.int (tkF S x.pt+tt))=tab n (tkF (eV b f0 (wsA (A.take (k+1))))):=by
      rw[pN,ss];refine jt λi _=>?_;rw[ye];by_cases ei:i=x.pt
      ·subst ei;simp
      ·simp[ei]
     refine aJ (R:=λσ h8=>h8=h7.set t (.lst (tab n (tkF (eV b f0 (wsA (A.take (k+1)))))))/\σ=[some (.ref bl),some (.ref a),some (.ref l),some (.ref t),some (.ref (c0+2)),some x.row,some (.ref z),some (.int tt)]) ?_ ?_
     ·have ix':ixN n (x.pt:Int)=some x.pt:=pX hx;simp[rr,r1,t7,iM hx,hI,ix',st];exact lt7
     rintro _ _ ⟨rfl,rfl⟩;generalize hTk:tab n (tkF (eV b f0 (wsA (A.take (k+1)))))=Tk;have z8:=bL (o:=MO.lst Tk) z7 (show t≠c0 by lia);have o8:=bL (o:=MO.lst Tk) o7 (show t≠c0+1 by lia);have g8:=bL (o:=MO.lst Tk) g7 (show t≠c0+2 by lia);have t8:=dU (o:=MO.lst Tk) lt7;have p8:Pre h (h7.set t (MO.lst Tk)):=(p5.trans q7).set lt;generalize h7.set t (MO.lst Tk)=h8 at z8 o8 g8 t8 p8;have lz8:=aS z8;have lo8:=aS o8;have x0:atN [MV.ref c0,.ref (c0+1)] 0=some (.ref c0):=rfl;have x1:atN [MV.ref c0,.ref (c0+1)] 1=some (.ref (c0+1)):=rfl;have sz0:(P0.map pv).length<100000:=by rw[bS];lia
     have sz1:(P1.map pv).length<100000:=by rw[bS];lia
     rcases hrk with hr|hr
     ·rw[hr]at ps0 ps1;have e0:P0.map pv++[.tup [.str x.nm,.int tt]]=(prs 0 (A.take (k+1)) (bR b f0 (wsA (A.take (k+1))))).map pv:=by rw[ps0];simp[pv]
      have e1:prs 1 (A.take (k+1)) (bR b f0 (wsA (A.take (k+1))))=P1:=by rw[ps1];simp
      simp only[eI,lN,jJ,bv,bp,bq,aK,w_c,aM,aR,rr,cB,r0,r3,hr,fS,g8,x0,z8,fG,jc,e0];exact⟨by decide,sz0,lz8,⟨p8.set lc,bL g8 (by lia),bL t8 (by lia),dU lz8,by rw[e1];exact bL o8 (by lia)⟩,_,_,_,rfl⟩
     ·rw[hr]at ps0 ps1;have e0:prs 0 (A.take (k+1)) (bR b f0 (wsA (A.take (k+1))))=P0:=by rw[ps0];simp
      have e1:P1.map pv++[.tup [.str x.nm,.int tt]]=(prs 1 (A.take (k+1)) (bR b f0 (wsA (A.take (k+1))))).map pv:=by rw[ps1];simp[pv]
      simp only[eI,lN,jJ,bv,bp,bq,aK,w_c,aM,aR,rr,cB,r0,r3,hr,fS,g8,x1,o8,fG,jc,e1];exact⟨by decide,sz1,lo8,⟨p8.set (by lia),bL g8 (by lia),bL t8 (by lia),by rw[e0];exact bL z8 (by lia),dU lo8⟩,_,_,_,rfl⟩
  ·rw[bS,bS,kP]at t5 z5 o5;exact⟨σ,rfl,⟨p5,g5,t5,z5,o5⟩,i⟩
 rintro _ h3 ⟨⟨p3,g3,t3,z3,o3⟩,u,v,w',rfl⟩;simp only[iB,jJ,bv,bp,bq,aK,w_c,dG,aM,aR];refine Af (p3.get hb) w few (p3.get ha) t3 hn λh' z p hzz e=>?_;have fl:(bF b n λk_1=>y k_1-tkF (eV b f0 (wsA A)) k_1)=cA b f0 (wsA A):=by
  rw[←hf0];refine Ba λw hw=>?_;obtain⟨z,hz',rfl⟩:=bO.mp hw;exact hpA z hz'
 rw[fl]at e;have t0:atN (tab n (cA b f0 (wsA A))) 0=some (.int (cA b f0 (wsA A) 0)):=iM (k:=0) (by lia);simp only[fS,e,t0];exact⟨by simp,q h' (c0+2) c0 (c0+1) (p3.trans p) lc (by lia) (p.get g3) (p.get z3) (p.get o3)⟩
noncomputable def gC(K0:List (Str×Int))(z:Pd):Wn:=⟨z.dt,z.nm,1,z.pt.toNat,z.sz-aget z.nm K0⟩
section
variable {h:MH}{Q:MV->MH->Prop}{E:Nat->MH->Prop}{l pl sd:Nat}{rts:List Rt}{po:List Pd}{K0:List (Str×Int)}
theorem D9(hl:h[l]?=some (.lst (rts.map Rt.row)))(hp:h[pl]?=some (.lst (po.map Pd.row)))(hs:h[sd]?=some (.dct (acL K0)))(m0:∀z∈po,z.nm∈K0.map (·.1)/\0≤z.pt)(nW:WNm (rts.map dj++po.map (gC K0)))(lW:(rts.map dj++po.map (gC K0)).length<64)
  (q:∀h' a,Pre h h'->h'[a]?=some (.lst ((que (rts.map dj++po.map (gC K0))).map Wn.row))->Q (.ref a) h'):wp (pQ [.ref l,.ref pl,.ref sd]) h Q E:=by
 have i0:∀u v w z:MV,atN [u,v,w,z] 0=some u:=λ_ _ _ _=>rfl;have i1:∀u v w z:MV,atN [u,v,w,z] 1=some v:=λ_ _ _ _=>rfl;have i2:∀u v w z:MV,atN [u,v,w,z] 2=some w:=λ_ _ _ _=>rfl;have i3:∀u v w z:MV,atN [u,v,w,z] 3=some z:=λ_ _ _ _=>rfl;simp only[iQ,bS]at lW;unfold pQ;refine cg (by rfl) ?_;change wp (sw [some (.ref l),some (.ref pl),some (.ref sd),none,none]) _ _ _;unfold sw;refine aJ (R:=λσ h1=>∃w,Pre h h1/\h.length≤w/\h1[w]?=some (.lst ((rts.map dj).map Wn.row))/\σ=[some (.ref l),some (.ref pl),some (.ref sd),some (.ref w),none]) ?_ ?_
 ·rw[cq];refine ki rts (λx=>[x.row]) (λ_=>true) (λx=>(dj x).row) (fE (n:=l) (h':=h) rfl hl) (by simp) (λh' p=>d6 (p.get hl)) (by lia) (λv hv h5 p5=>?_) (λv hv _ h5 p5=>?_) λh5 p5=>?_
  ·simp[fi,bx,Pre.refl]
  ·simp[Rt.row,i0,i1,i2,i3,Pre.refl,dj,Wn.row]
  ·rw[lU];refine⟨_,rfl,h5.length,p5.snoc _,p5.len,?_,rfl⟩;rw[bE,bX];rfl
 rintro _ h1 ⟨w,p1,lw,gw,rfl⟩;have nw:pl≠w:=by have:=aS hp;lia
 have nw2:sd≠w:=by have:=aS hs;lia
 refine aJ (R:=λσ h2=>(Pre h h2/\h2[w]?=some (.lst ((rts.map dj++po.map (gC K0)).map Wn.row)))/\∃u,σ=[some (.ref l),some (.ref pl),some (.ref sd),some (.ref w),u]) ?_ ?_
 ·rw[eE];refine cI (fE (n:=pl) (h':=h1) rfl (p1.get hp)) ?_;refine dR (λk σ h2=>(Pre h h2/\h2[w]?=some (.lst ((rts.map dj++(po.take k).map (gC K0)).map Wn.row)))/\∃u,σ=[some (.ref l),some (.ref pl),some (.ref sd),some (.ref w),u]) (λk σ h2 ⟨⟨p2,_⟩,_⟩=>d6 (p2.get hp)) (λk v σ h2 hv ⟨⟨p2,g2⟩,u,es⟩=>?_) (λσ h2 ⟨⟨p2,g2⟩,i⟩=>?_) ⟨⟨p1,by simpa using gw⟩,_,rfl⟩
  ·subst es;rw[bj,bj]at hv;cases ek:po[k]? with
   |none=>rw[ek]at hv;cases hv
   |some z=>
     rw[ek]at hv;cases hv;obtain⟨mz,z0⟩:=m0 z (de ek);have tk:po.take (k+1)=po.take k++[z]:=by rw[fR,ek];rfl
     have e9:dget z.nm (acL K0)=some (.int (aget z.nm K0)):=by rw[jw,if_pos mz]
     have gs:=p2.get hs;have l2:=aS g2;have sz:((rts.map dj++(po.take k).map (gC K0)).map Wn.row).length<100000:=by simp;lia
     have zp:((z.pt.toNat:Nat):Int)=z.pt:=by lia
     have fin:(rts.map dj++(po.take k).map (gC K0)).map Wn.row++[.tup [.int z.dt,.str z.nm,.int 1,.int z.pt,.int (z.sz-aget z.nm K0)]]=(rts.map dj++(po.take (k+1)).map (gC K0)).map Wn.row:=by
      rw[tk];simp[gC,Wn.row,zp]
     have rz:z.row=.tup [.str z.nm,.int z.pt,.int z.sz,.int z.dt]:=rfl;simp only[cj,d0,d5,eI,lN,jJ,bv,bp,bq,aK,w_c,kM,cB,kr,rz,i0,i1,i2,i3,gs,e9,g2,fin,aM,aR];exact⟨by simp,sz,l2,⟨p2.set lw,dU l2⟩,_,rfl⟩
  ·rw[bS,bS,kP]at g2;exact⟨σ,rfl,⟨p2,g2⟩,i⟩
 rintro _ h2 ⟨⟨p2,g2⟩,u,rfl⟩;rw[iB,hX,aK];simp only[aM,aR];exact Aw nW (by simpa using lW) g2 (q _ _ (p2.snoc _) bE)
end
theorem zI{K P:List (Str×Int)}{k:Nat}{p:Str×Int}(nd:(P.map (·.1)).Nodup)(e:P[k]?=some p):aget p.1 ((P.take (k+1)).foldl aadd K)=aget p.1 K+p.2:=by
 have tk:P.take (k+1)=P.take k++[p]:=by rw[fR,e];rfl
 rw[je,j9 (nd.sublist ((oR _ _).map _)) (by rw[tk];simp)]
section
variable {h:MH}{o bk pd ld ad r d c sd:Nat}{ro:Int}{ps:List (Po×Nat)}{L A K P:List (Str×Int)}{rs:List Rid}{b:List Nat}{Q:MV->MH->Prop}{E:Nat->MH->Prop}
theorem uF{P K:List (Str×Int)}{k:Str}:k∈K.map (·.1)->k∈(P.foldl aadd K).map (·.1):=by
 induction P generalizing K with
 |nil=>exact id
 |cons p P ih=>exact λz=>ih (t6.mpr (.inr z))
theorem EE(S:Sy h o bk pd ld ad r d ro ps L A rs b)(hc:h[c]?=some (.lst (P.map pv)))(hs:h[sd]?=some (.dct (acL K)))(n0:sd≠pd/\sd≠ld/\sd≠ad/\sd≠d)(nd:(P.map (·.1)).Nodup)(m0:∀p∈P,p.1∈K.map (·.1))(c0:∀p∈P,∃x∈ps,x.1.nm=p.1/\x.1.wt=aget p.1 K+p.2)(few:K.length+P.length<900)
  (q:∀h',Off [sd] h h'->h'[sd]?=some (.dct (acL (P.foldl aadd K)))->Q (.bl true) h'):wp (qh [.ref o,.ref c,.ref sd]) h Q E:=by
 have j0:∀u v:MV,atN [u,v] 0=some u:=λ_ _=>rfl;have j1:∀u v:MV,atN [u,v] 1=some v:=λ_ _=>rfl;unfold qh;refine cg (by rfl) ?_;change wp (sK [some (.ref o),some (.ref c),some (.ref sd),none]) _ _ _;unfold sK;have ncs:c≠sd:=cX hc hs (by simp);have kc:∀{h':MH},Off [sd] h h'->h'[c]?=some (.lst (P.map pv)):=λf=>f.get hc (by simpa using ncs);refine aJ (R:=λσ h'=>(Off [sd] h h'/\h'[sd]?=some (.dct (acL (P.foldl aadd K))))/\∃u,σ=[some (.ref o),some (.ref c),some (.ref sd),u]) ?_ (by rintro _ h' ⟨⟨f,g⟩,u,rfl⟩;simp;exact q h' f g);rw[eE];refine cI (fE (n:=c) (h':=h) rfl hc) ?_;refine dR (λk σ h'=>(Off [sd] h h'/\h'[sd]?=some (.dct (acL ((P.take k).foldl aadd K))))/\∃u,σ=[some (.ref o),some (.ref c),some (.ref sd),u]) (λk σ h' ⟨⟨f,_⟩,_⟩=>d6 (kc f)) (λk v σ h' hv ⟨⟨f,g⟩,u,es⟩=>?_) (λσ h' ⟨⟨f,g⟩,i⟩=>?_) ⟨⟨Off.refl,hs⟩,_,rfl⟩
 ·subst es;rw[bj,bj]at hv;cases ek:P[k]? with
  |none=>rw[ek]at hv;cases hv
  |some p=>
    rw[ek]at hv;cases hv;have hp:=de ek;obtain⟨x,hx,en,ew⟩:=c0 p hp;have tk:P.take (k+1)=P.take k++[p]:=by rw[fR,ek];rfl
    have ag:=zI (K:=K) nd ek;have fk:(P.take (k+1)).foldl aadd K=aput p.1 (aget p.1 ((P.take k).foldl aadd K)+p.2) ((P.take k).foldl aadd K):=by rw[tk,nY];rfl
    have lk:=jp (ps:=P.take k) (L:=K);rw[il]at lk;have mk:=uF (P:=P.take k) (m0 p hp);generalize hKk:(P.take k).foldl aadd K=Kk at g fk lk mk;have e9:dget p.1 (acL Kk)=some (.int (aget p.1 Kk)):=by rw[jw,if_pos mk]
    have lg:=aS g;have zl:(acL Kk).length<1000:=by simp[acL];lia
    simp only[cj,d0,d5];refine aJ (R:=λσ h2=>h'.set sd (.dct (acL ((P.take (k+1)).foldl aadd K)))=h2/\σ=[some (.ref o),some (.ref c),some (.ref sd),some (pv p)]) ?_ ?_
    ·simp only[nG,bq,aK,w_c,cB,kr,pv,j0,j1,g,e9,jj,mQ,kO,aM,aR,fk];exact⟨zl,lg,_,rfl,trivial,rfl⟩
    rintro _ _ ⟨rfl,rfl⟩;have g2:(h'.set sd (.dct (acL ((P.take (k+1)).foldl aadd K))))[sd]?=some (.dct (acL ((P.take (k+1)).foldl aadd K))):=dU lg;have f2:Off [sd] h (h'.set sd (.dct (acL ((P.take (k+1)).foldl aadd K)))):=f.trans Off.set;generalize h'.set sd (.dct (acL ((P.take (k+1)).foldl aadd K)))=h2 at g2 f2;have S2:=S.offk hs n0 f2;have e8:dget x.1.nm (acL ((P.take (k+1)).foldl aadd K))=some (.int x.1.wt):=by
     rw[en,jw,if_pos (uF (m0 p hp)),ag,ew]
    have pe:pv p=.tup [.str x.1.nm,.int p.2]:=by rw[en];rfl
    rw[pe,fM,cY,nB,cY,w_not,cY,dG,bv,S2.meth (by decide) rfl];simp only[bv,bp,bq,aK,w_c,cB,j0,aM,aR];refine(AB S2 hx).mpr ?_;simp only[uC,gJ,cJ,if_false];rw[S2.meth (by decide) rfl];simp only[bv,bp,bq,aK,w_c,cB,j0,aM,aR];refine(AB S2 hx).mpr ?_;simp only[kr,g2,e8,pJ,decide_true,gJ,cJ,if_false,gG];exact⟨⟨f2,trivial⟩,_,rfl⟩
 ·rw[bS,bS,kP]at g;exact⟨σ,rfl,⟨f,g⟩,i⟩
theorem Dy(S:Sy h o bk pd ld ad r d ro ps L A rs b)(hc:h[c]?=some (.lst (P.map pv)))(hs:h[sd]?=some (.dct (acL K)))(n0:sd≠pd/\sd≠ld/\sd≠ad/\sd≠d)(nd:(P.map (·.1)).Nodup)(c0:∀p∈P,∃y∈rs,y.1.nm=p.1/\aget p.1 L=p.2/\aget p.1 A=aget p.1 K+p.2)(few:K.length+P.length<900)
  (q:∀h',Off [sd] h h'->h'[sd]?=some (.dct (acL (P.foldl aadd K)))->Q (.bl true) h'):wp (tQ [.ref o,.ref c,.ref sd]) h Q E:=by
 have j0:∀u v:MV,atN [u,v] 0=some u:=λ_ _=>rfl;have j1:∀u v:MV,atN [u,v] 1=some v:=λ_ _=>rfl;unfold tQ;refine cg (by rfl) ?_;change wp (rh [some (.ref o),some (.ref c),some (.ref sd),none]) _ _ _;unfold rh;have ncs:c≠sd:=cX hc hs (by simp);have kc:∀{h':MH},Off [sd] h h'->h'[c]?=some (.lst (P.map pv)):=λf=>f.get hc (by simpa using ncs);refine aJ (R:=λσ h'=>(Off [sd] h h'/\h'[sd]?=some (.dct (acL (P.foldl aadd K))))/\∃u,σ=[some (.ref o),some (.ref c),some (.ref sd),u]) ?_ (by rintro _ h' ⟨⟨f,g⟩,u,rfl⟩;simp;exact q h' f g);rw[eE];refine cI (fE (n:=c) (h':=h) rfl hc) ?_;refine dR (λk σ h'=>(Off [sd] h h'/\h'[sd]?=some (.dct (acL ((P.take k).foldl aadd K))))/\∃u,σ=[some (.ref o),some (.ref c),some (.ref sd),u]) (λk σ h' ⟨⟨f,_⟩,_⟩=>d6 (kc f)) (λk v σ h' hv ⟨⟨f,g⟩,u,es⟩=>?_) (λσ h' ⟨⟨f,g⟩,i⟩=>?_) ⟨⟨Off.refl,hs⟩,_,rfl⟩
 ·subst es;rw[bj,bj]at hv;cases ek:P[k]? with
  |none=>rw[ek]at hv;cases hv
  |some p=>
    rw[ek]at hv;cases hv;have hp:=de ek;obtain⟨y,hy,en,eL,eA⟩:=c0 p hp;have tk:P.take (k+1)=P.take k++[p]:=by rw[fR,ek];rfl
    have ag:=zI (K:=K) nd ek;have fk:(P.take (k+1)).foldl aadd K=aput p.1 (aget p.1 ((P.take k).foldl aadd K)+p.2) ((P.take k).foldl aadd K):=by rw[tk,nY];rfl
    have lk:=jp (ps:=P.take k) (L:=K);rw[il]at lk;have mk2:p.1∈((P.take (k+1)).foldl aadd K).map (·.1):=by rw[fk];exact t6.mpr (.inl rfl)
    generalize hKk:(P.take k).foldl aadd K=Kk at g fk lk;have lg:=aS g;have zl:(acL Kk).length<1000:=by simp[acL];lia
    simp only[cj,d0,d5];refine aJ (R:=λσ h2=>h'.set sd (.dct (acL ((P.take (k+1)).foldl aadd K)))=h2/\σ=[some (.ref o),some (.ref c),some (.ref sd),some (pv p)]) ?_ ?_
    ·simp only[nG,bq,aK,w_c,cB,wM,pv,j0,j1,g,kW,jj,mQ,kO,aM,aR,fk];exact⟨zl,lg,_,rfl,trivial,rfl⟩
    rintro _ _ ⟨rfl,rfl⟩;have g2:(h'.set sd (.dct (acL ((P.take (k+1)).foldl aadd K))))[sd]?=some (.dct (acL ((P.take (k+1)).foldl aadd K))):=dU lg;have f2:Off [sd] h (h'.set sd (.dct (acL ((P.take (k+1)).foldl aadd K)))):=f.trans Off.set;generalize h'.set sd (.dct (acL ((P.take (k+1)).foldl aadd K)))=h2 at g2 f2;have S2:=S.offk hs n0 f2;have e8:dget y.1.nm (acL ((P.take (k+1)).foldl aadd K))=some (.int (aget y.1.nm A)):=by rw[en,jw,if_pos mk2,ag,eA]
    have eL':aget y.1.nm L=p.2:=by rw[en];exact eL
    have pe:pv p=.tup [.str y.1.nm,.int p.2]:=by rw[en];rfl
    rw[pe,fM,cY,nB,cY,bq,S2.meth (by decide) rfl];simp only[bv,bp,bq,aK,w_c,cB,j0,aM,aR];refine yZ S2 hy ?_;simp only[j1,pJ,eL',decide_true,gJ,cJ,if_false];rw[S2.meth (by decide) rfl];simp only[bv,bp,bq,aK,w_c,cB,j0,aM,aR];refine Ik S2 hy ?_;simp only[kr,g2,e8,pJ,decide_true,gJ,cJ,if_false,gG];exact⟨⟨f2,trivial⟩,_,rfl⟩
 ·rw[bS,bS,kP]at g;exact⟨σ,rfl,⟨f,g⟩,i⟩
end
theorem Fs{h:MH}{p1 p2 c c0 c1:Nat}{P0 P1:List (Str×Int)}{i:Int}{Q:MV->MH->Prop}{E:Nat->MH->Prop}(h1:h[p1]?=some (.lst (P0.map pv)))(h2:h[p2]?=some (.lst (P1.map pv)))(hc:h[c]?=some (.lst [.ref c0,.ref c1]))(h3:h[c0]?=some (.lst (P0.map pv)))(h4:h[c1]?=some (.lst (P1.map pv)))(q:Q (.bl true) h) :
  wp (rO [.tup [.ref p1,.ref p2],.tup [.ref c,.int i]]) h Q E:=by
 have j0:∀u v:MV,atN [u,v] 0=some u:=λ_ _=>rfl;have j1:∀u v:MV,atN [u,v] 1=some v:=λ_ _=>rfl;unfold rO;refine cg (by rfl) ?_;unfold um;rw[dL];simp[gU,bx];rw[j0,j0];simp only[fS,hc,j0];refine BG h1 h3 ?_;simp only[if_true,j1,fS,hc];exact BG h2 h4 q
structure Ex20(h:MH)(a l pl dg sd sm gd:Nat)(b:List Nat)(rts:List Rt)(po dl:List Pd)(K M G:List (Str×Int)):Prop where
 be:h[a]?=some (.lst (rows b))
 ri:h[l]?=some (.lst (rts.map Rt.row))
 pn:h[pl]?=some (.lst (po.map Pd.row))
 dn:h[dg]?=some (.lst (dl.map Pd.row))
 e0:h[sd]?=some (.dct (acL K))
 e1:h[sm]?=some (.dct (acL M))
 e2:h[gd]?=some (.dct (acL G))
 ne:sd≠sm/\gd≠sd/\gd≠sm
def NA(k pd ld ad d:Nat):Prop:=k≠pd/\k≠ld/\k≠ad/\k≠d
structure R20(m:Nat)(po dl:List Pd)(ps:List (Po×Nat))(A K M:List (Str×Int))(rts:List Rt):Prop where
 pp:ps.map (λx=>(x.1.nm,x.1.pt,x.1.sz,x.1.dt))=dl.map (λz=>(z.nm,z.pt.toNat,z.sz,z.dt))
 w0:∀x∈ps,x.1.wt=aget x.1.nm K/\0≤x.1.wt/\x.1.wt≤x.1.sz
 k0:∀z∈po,z.nm∈K.map (·.1)/\(z.nm∉dl.map (·.nm)->aget z.nm K=0)
 sb:∀z∈dl,z∈po
 s:∀y∈rts,aget y.nm A=aget y.nm M
 ln:A.length≤m/\K.length≤m/\M.length≤m
section
variable {h h':MH}{o bk pd ld ad r d a l pl dg sd sm gd m:Nat}{ro:Int}{ps:List (Po×Nat)}{L A K M G:List (Str×Int)}{rs:List Rid}{b:List Nat}{rts:List Rt}{po dl:List Pd}{Q:MV->MH->Prop}{E:Nat->MH->Prop}
theorem Ex20.off{S:List Nat}(X:Ex20 h a l pl dg sd sm gd b rts po dl K M G)(f:Off S h h')(nS:∀n∈S,∀ys,h[n]?≠some (.lst ys))(n0:sd∉S)(n1:sm∉S)(n2:gd∉S):Ex20 h' a l pl dg sd sm gd b rts po dl K M G:=
 ⟨f.lst X.be nS,f.lst X.ri nS,f.lst X.pn nS,f.lst X.dn nS,f.get X.e0 n0,f.get X.e1 n1,f.get X.e2 n2,X.ne⟩
theorem Ex20.pre(X:Ex20 h a l pl dg sd sm gd b rts po dl K M G)(f:Pre h h'):Ex20 h' a l pl dg sd sm gd b rts po dl K M G:=X.off (S:=[]) f.off (by simp) (by simp) (by simp) (by simp)
theorem Ex20.set0{K':List (Str×Int)}(X:Ex20 h a l pl dg sd sm gd b rts po dl K M G)(f:Off [sd] h h')(g:h'[sd]?=some (.dct (acL K'))):Ex20 h' a l pl dg sd sm gd b rts po dl K' M G:=by
 have nS:∀n∈[sd],∀ys,h[n]?≠some (.lst ys):=λn hn ys z=>by rw[cT.mp hn,X.e0]at z;cases z
 exact⟨f.lst X.be nS,f.lst X.ri nS,f.lst X.pn nS,f.lst X.dn nS,g,f.get X.e1 (by simp;exact X.ne.1.symm),f.get X.e2 (by simp;exact X.ne.2.1),X.ne⟩
theorem Ex20.set1{M':List (Str×Int)}(X:Ex20 h a l pl dg sd sm gd b rts po dl K M G)(f:Off [sm] h h')(g:h'[sm]?=some (.dct (acL M'))):Ex20 h' a l pl dg sd sm gd b rts po dl K M' G:=by
 have nS:∀n∈[sm],∀ys,h[n]?≠some (.lst ys):=λn hn ys z=>by rw[cT.mp hn,X.e1]at z;cases z
 exact⟨f.lst X.be nS,f.lst X.ri nS,f.lst X.pn nS,f.lst X.dn nS,f.get X.e0 (by simp;exact X.ne.1),g,f.get X.e2 (by simp;exact X.ne.2.2),X.ne⟩
theorem R20.mono(R:R20 m po dl ps A K M rts){m':Nat}(h:m≤m'):R20 m' po dl ps A K M rts:=by
 obtain⟨l1,l2,l3⟩:=R.ln;exact⟨R.pp,R.w0,R.k0,R.sb,R.s,⟨by lia,by lia,by lia⟩⟩
theorem R20.inP(R:R20 m po dl ps A K M rts){k:Str}:k∈ps.map (·.1.nm)↔k∈dl.map (·.nm):=by
 have:=congrArg (iA Prod.fst) R.pp;rw[bX,bX]at this;exact iff_of_eq (congrArg (k∈·) this)
theorem R20.send(R:R20 m po dl ps A K M rts){x:Po×Nat}{y:Rt}{t:Int}(hx:x∈ps)(t0:0≤t)(t1:t≤x.1.wt) :
  R20 (m+1) po dl (padd ps (x.1.nm,-t)) (aadd A (y.nm,t)) (aput x.1.nm (aget x.1.nm K-t) K) (aadd M (y.nm,t)) rts:=by
 obtain⟨l1,l2,l3⟩:=R.ln;have xm:=dI (f:=λz:Po×Nat=>z.1.nm) hx;refine⟨?_,λz hz=>?_,λz hz=>?_,R.sb,λz hz=>?_,?_⟩
 ·rw[←R.pp];unfold padd;rw[bX];refine gA λz _=>?_;simp only[Function.comp];split <;> rfl
 ·unfold padd at hz;obtain⟨z0,hz0,e⟩:=bO.mp hz;obtain⟨k,k1,k2⟩:=R.w0 z0 hz0;have kx:=(R.w0 x hx).1;rw[vp];by_cases cc:z0.1.nm=x.1.nm
  ·rw[if_pos cc]at e;subst e;have e2:(z0.1.add (-t)).nm=x.1.nm:=cc;rw[if_pos e2];have e3:z0.1.wt=x.1.wt:=by rw[k,kx,cc]
   show z0.1.wt+-t=_/\0≤z0.1.wt+-t/\z0.1.wt+-t≤z0.1.sz;rw[←kx];exact⟨by lia,by lia,by lia⟩
  ·rw[if_neg cc]at e;subst e;rw[if_neg cc];exact⟨k,k1,k2⟩
 ·obtain⟨a1,a2⟩:=R.k0 z hz;refine⟨t6.mpr (.inr a1),λn=>?_⟩;have ne:¬z.nm=x.1.nm:=λe=>n (e▸R.inP.mp xm);rw[vp,if_neg ne];exact a2 n
 ·rw[uL,uL,R.s z hz]
 ·have a:=pG (k:=x.1.nm) (v:=aget x.1.nm K-t) (L:=K);have d:(aadd M (y.nm,t)).length≤M.length+1:=pG;have e:(aadd A (y.nm,t)).length≤A.length+1:=pG;exact⟨by lia,by lia,by lia⟩
theorem Fw{tl:Nat}{c:Int}(S:Sy h o bk pd ld ad r d ro ps L A rs b)(X:Ex20 h a l pl dg sd sm gd b rts po dl K M G)(R:R20 m po dl ps A K M rts)(er:aW rs=rts)(g:∀y∈rts,aget y.nm L=aget y.nm G)(ht:h[tl]?=some (.lst [.ref sd,.ref gd,.ref sm]))(n0:NA sd pd ld ad d)(n1:NA sm pd ld ad d)(n2:NA gd pd ld ad d)
  (w:Wf b) (few:b.length<40) (hp:∀z∈dl,0≤z.pt/\z.pt<(b.length:Int)+1) (hm:m<400) (hL:L.length<400)
  (q:∀h' ps' L' A' K' M',Sy h' o bk pd ld ad r d ro ps' L' A' rs b->Ex20 h' a l pl dg sd sm gd b rts po dl K' M' G->R20 (m+1) po dl ps' A' K' M' rts->Q .non h'):wp (pq [.ref o,.ref a,.ref dg,.ref l,.ref tl,.int c]) h Q E:=by
 have same:∀h',Pre h h'->Q .non h':=λh' p=>q h' _ _ _ _ _ (S.pre p) (X.pre p) (R.mono (by lia));have i0:∀u v w z:MV,atN [u,v,w,z] 0=some u:=λ_ _ _ _=>rfl;have i1:∀u v w z:MV,atN [u,v,w,z] 1=some v:=λ_ _ _ _=>rfl;have i2:∀u v w z:MV,atN [u,v,w,z] 2=some w:=λ_ _ _ _=>rfl;unfold pq;refine cg (by rfl) ?_;change wp (qC [some (.ref o),some (.ref a),some (.ref dg),some (.ref l),some (.ref tl),some (.int c),none,none,none,none,none,none]) _ _ _;unfold qC;refine aJ (R:=λσ h'=>h=h'/\σ=[some (.ref o),some (.ref a),some (.ref dg),some (.ref l),some (.ref tl),some (.int c),some (.ref sd),some (.ref gd),some (.ref sm),none,none,none]) ?_ ?_
 ·refine Ex ?_;simp only[aK,aM,aR];exact⟨tl,_,rfl,ht,rfl,_,rfl,trivial,rfl⟩
 rintro _ _ ⟨rfl,rfl⟩;have gd1:=X.dn;have gl1:=X.ri;by_cases cd:dl=[]
 ·refine uG ?_;simp[gd1,cd];exact same h .refl
 by_cases cr:rts=[]
 ·refine uG ?_;simp[gd1,gl1,cd,cr];exact same h .refl
 refine aJ (R:=λσ h'=>h=h'/\σ=[some (.ref o),some (.ref a),some (.ref dg),some (.ref l),some (.ref tl),some (.int c),some (.ref sd),some (.ref gd),some (.ref sm),none,none,none]) ?_ ?_
 ·simp[gd1,gl1,cd,cr]
 rintro _ _ ⟨rfl,rfl⟩;have dl0:0<dl.length:=List.length_pos_iff.mpr cd;have rt0:0<rts.length:=List.length_pos_iff.mpr cr;have u1:=gZ c (show(dl.length:Int)≠0 by lia);have u2:=jf c (show(0:Int)<dl.length by lia);obtain⟨i,hi,li⟩:∃i:Nat,c%(dl.length:Int)=(i:Int)/\i<dl.length:=⟨(c%(dl.length:Int)).toNat,by lia,by lia⟩
 have v1:=gZ (c/7) (show(rts.length:Int)≠0 by lia);have v2:=jf (c/7) (show(0:Int)<rts.length by lia);obtain⟨j,hj,lj⟩:∃j:Nat,c/7%(rts.length:Int)=(j:Int)/\j<rts.length:=⟨(c/7%(rts.length:Int)).toNat,by lia,by lia⟩
 obtain⟨z,ez⟩:∃z,dl[i]?=some z:=⟨_,List.getElem?_eq_getElem li⟩;obtain⟨y,ey⟩:∃y,rts[j]?=some y:=⟨_,List.getElem?_eq_getElem lj⟩;have hz:=de ez;have hy:=de ey;have gz:atN (dl.map Pd.row) (i:Int)=some z.row:=by rw[jd,bj,ez];rfl
 have gy:atN (rts.map Rt.row) (j:Int)=some y.row:=by rw[jd,bj,ey];rfl
 refine aJ (R:=λσ h'=>h=h'/\σ=[some (.ref o),some (.ref a),some (.ref dg),some (.ref l),some (.ref tl),some (.int c),some (.ref sd),some (.ref gd),some (.ref sm),some z.row,none,none]) ?_ ?_
 ·simp only[cq,bq,hX,aK,tH,gd1,bS,jM,hi,fS,gz,aM,aR];exact⟨by lia,_,rfl,trivial,rfl⟩
 rintro _ _ ⟨rfl,rfl⟩;refine aJ (R:=λσ h'=>h=h'/\σ=[some (.ref o),some (.ref a),some (.ref dg),some (.ref l),some (.ref tl),some (.int c),some (.ref sd),some (.ref gd),some (.ref sm),some z.row,some y.row,none]) ?_ ?_
 ·simp only[cq,bq,hX,aK,w_c,kB,tH,gl1,bS,jM,hj,fS,gy,aM,aR];exact⟨by decide,by lia,_,rfl,trivial,rfl⟩
 rintro _ _ ⟨rfl,rfl⟩;have rz:z.row=.tup [.str z.nm,.int z.pt,.int z.sz,.int z.dt]:=rfl;have ry:y.row=.tup [.str y.nm,.int y.pt,.int y.am,.int y.dt]:=rfl;obtain⟨p,ep,lp⟩:∃p:Nat,z.pt=(p:Int)/\p<b.length+1:=by
  have:=hp z hz;exact⟨z.pt.toNat,by lia,by lia⟩
 obtain⟨x,hx,ex⟩:∃x∈ps,(x.1.nm,x.1.pt,x.1.sz,x.1.dt)=(z.nm,z.pt.toNat,z.sz,z.dt):=by
  have:(z.nm,z.pt.toNat,z.sz,z.dt)∈ps.map (λx=>(x.1.nm,x.1.pt,x.1.sz,x.1.dt)):=by rw[R.pp];exact dI (f:=λz:Pd=>(z.nm,z.pt.toNat,z.sz,z.dt)) hz
  obtain⟨x,hx,e⟩:=bO.mp this;exact⟨x,hx,e⟩
 have ex1:x.1.nm=z.nm:=congrArg Prod.fst ex;have ex2:x.1.pt=p:=(congrArg (λt=>t.2.1) ex).trans (by show z.pt.toNat=p;lia);obtain⟨y',hy',rfl⟩:∃y'∈rs,y'.1=y:=by rw[←er]at hy;exact bO.mp hy
 obtain⟨xw,xw0,xw1⟩:=R.w0 x hx;by_cases cw:y'.1.pt∉aN b p
 ·refine uG ?_;simp only[fM,cY,bq,aK,w_c,cB,rz,ry,i1,dG,bv,bp,ep,aM,aR];refine re X.be w few lp ?_;simp only[oS,bE,tJ,cw];refine⟨⟨rfl,by simp[nats,flat]⟩,?_⟩;simp;exact same _ (Pre.app _)
 replace cw:=Classical.not_not.mp cw;refine aJ (R:=λσ h'=>Pre h h'/\σ=[some (.ref o),some (.ref a),some (.ref dg),some (.ref l),some (.ref tl),some (.int c),some (.ref sd),some (.ref gd),some (.ref sm),some z.row,some y'.1.row,none]) ?_ ?_
 ·simp only[fM,cY,bq,aK,w_c,cB,rz,ry,i1,dG,bv,bp,ep,aM,aR];refine re X.be w few lp ?_;simp only[oS,bE,tJ,cw];refine⟨⟨rfl,by simp[nats,flat]⟩,?_⟩;simp;exact Pre.app _
 rintro _ h1 ⟨p1,rfl⟩;replace S:=S.pre p1;replace X:=X.pre p1
 clear same p1 gd1 gl1 ht
 have g0:=X.e0;have g1:=X.e1;have g2:=X.e2;have zk:=(R.k0 z (R.sb z hz)).1;have e9:dget z.nm (acL K)=some (.int x.1.wt):=by rw[jw,if_pos zk,xw,ex1]
 have gy2:=g _ hy;generalize hla:(if 0<y'.1.am-aget y'.1.nm L then y'.1.am-aget y'.1.nm L else 0)=la;have la0:0≤la:=by rw[←hla];split <;> lia
 refine aJ (R:=λσ h'=>h1=h'/\σ=[some (.ref o),some (.ref a),some (.ref dg),some (.ref l),some (.ref tl),some (.int c),some (.ref sd),some (.ref gd),some (.ref sm),some z.row,some y'.1.row,some (.int (if la<x.1.wt then la else x.1.wt))]) ?_ ?_
 ·simp only[cq,bq,aK,w_c,cB,kr,rz,ry,i0,i2,g0,e9,g2,wM,kW,←gy2,kM,AF,xZ,hla,aM,aR];exact⟨_,rfl,trivial,rfl⟩
 rintro _ _ ⟨rfl,rfl⟩;refine aJ (R:=λσ h'=>∃t,h1=h'/\0≤t/\t≤x.1.wt/\t≤la/\σ=[some (.ref o),some (.ref a),some (.ref dg),some (.ref l),some (.ref tl),some (.int c),some (.ref sd),some (.ref gd),some (.ref sm),some z.row,some y'.1.row,some (.int t)]) ?_ ?_
 ·obtain⟨t,et,t0,t1,t2⟩:∃t,(if la<x.1.wt then la else x.1.wt)=t/\0≤t/\t≤x.1.wt/\t≤la:=⟨_,rfl,by split <;> lia,by split <;> lia,by split <;> lia⟩
  rw[et];have s1:=gZ (c/50) (show t+1≠0 by lia);have s2:=jf (c/50) (show 0<t+1 by lia);rw[fM];by_cases c3:c/3%3=1
  ·simp only[cY,bq,aK,w_c,kB,jM,kg,c3,decide_true,if_true,cq,jj,aM,aR];exact⟨by decide,by decide,by decide,by lia,_,rfl,_,trivial,s1,by lia,by lia,rfl⟩
  ·simp only[cY,bq,aK,w_c,kB,jM,kg,c3,decide_false,cJ,if_false,gG,aM,aR];exact⟨by decide,by decide,_,rfl,t,trivial,t0,t1,t2,rfl⟩
 rintro _ _ ⟨t,rfl,t0,t1,t2,rfl⟩;obtain⟨ln1,ln2,ln3⟩:=R.ln;have nS:∀{n:Nat}{ob:MO},h1[n]?=some ob->n≠ld->n≠ad->(∀fs,ob≠.ins 5 fs)->n∉ld::ad::ps.map (·.2):=λe a1 a2 a3 hn=>by
  rcases bK.mp hn with hn|hn
  ·exact a1 hn
  rcases bK.mp hn with hn|hn
  ·exact a2 hn
  obtain⟨x,hx,rfl⟩:=bO.mp hn;rw[S.of.it x hx]at e;exact a3 _ (Option.some.inj e).symm
 refine aJ (R:=λσ h'=>(Sy h' o bk pd ld ad r d ro (padd ps (x.1.nm,-t)) (aadd L (y'.1.nm,t)) (aadd A (y'.1.nm,t)) rs b/\Ex20 h' a l pl dg sd sm gd b rts po dl K M G)/\σ=[some (.ref o),some (.ref a),some (.ref dg),some (.ref l),some (.ref tl),some (.int c),some (.ref sd),some (.ref gd),some (.ref sm),some z.row,some y'.1.row,some (.int t)]) ?_ ?_
 ·rw[eI,S.meth (by decide) rfl];simp only[bv,bp,bq,aK,w_c,cB,rz,ry,i0,←ex1,aM,aR];refine Et S hx hy' (by lia) (by lia) (by lia) (λz=>absurd (ex2▸cw) z) (λ_ z=>?_) (λ_ _ _ h' f S'=>⟨_,rfl,⟨S',X.off f (λn hn ys z=>nS z (cX z S.of.la (by simp)) (cX z S.of.al (by simp)) (by simp) hn) (nS X.e0 n0.2.1 n0.2.2.1 (by simp)) (nS X.e1 n1.2.1 n1.2.2.1 (by simp)) (nS X.e2 n2.2.1 n2.2.2.1 (by simp))⟩,rfl⟩);rw[hla]at z;rcases z with z|z <;> lia
 clear nS g0 g1 g2 S X
 rintro _ h2 ⟨⟨S,X⟩,rfl⟩;have g0:=X.e0;have l0:=aS g0;have z0:(acL K).length<1000:=by simp[acL];lia
 have z1:(acL M).length<1000:=by simp[acL];lia
 have R2:=R.send (y:=y'.1) hx t0 t1;rw[ex1]at R2;have xw':aget z.nm K=x.1.wt:=by rw[xw,ex1]
 refine aJ (R:=λσ h'=>h2.set sd (.dct (acL (aput z.nm (aget z.nm K-t) K)))=h'/\σ=[some (.ref o),some (.ref a),some (.ref dg),some (.ref l),some (.ref tl),some (.int c),some (.ref sd),some (.ref gd),some (.ref sm),some z.row,some y'.1.row,some (.int t)]) ?_ ?_
 ·simp only[nG,bq,aK,w_c,cB,kr,rz,i0,g0,e9,kM,mQ,kO,xw',aM,aR];exact⟨z0,l0,_,rfl,trivial,rfl⟩
 rintro _ _ ⟨rfl,rfl⟩;have f3:Off [sd] h2 (h2.set sd (.dct (acL (aput z.nm (aget z.nm K-t) K)))):=Off.set;have X3:=X.set0 f3 (dU l0);have S3:=S.offk g0 n0 f3;generalize h2.set sd (.dct (acL (aput z.nm (aget z.nm K-t) K)))=h3 at f3 X3 S3;have g3:=X3.e1;have l3:=aS g3;simp only[nG,bq,aK,w_c,cB,ry,i0,g3,wM,kW,jj,mQ,kO,aM,aR];rw[ex1]at S3;exact⟨z1,l3,q _ _ _ _ _ _ (S3.offk g3 n1 Off.set) (X3.set1 Off.set (dU l3)) R2⟩
end
section
variable {m:Nat}{ps ps':List (Po×Nat)}{A K M:List (Str×Int)}{rs:List Rid}{b:List Nat}{rts:List Rt}{po dl dz:List Pd}
theorem R20.dig(R:R20 m po dl ps A K M rts)(nd:((dl++dz).map (·.nm)).Nodup)(sub:∀z∈dz,z∈po/\0≤z.sz)(e:ps'.map (·.1)=ps.map (·.1)++dz.map iC):R20 m po (dl++dz) ps' A K M rts:=by
 refine⟨?_,λx hx=>?_,λz hz=>?_,λz hz=>?_,R.s,R.ln⟩
 ·have e1:=congrArg (iA λx:Po=>(x.nm,x.pt,x.sz,x.dt)) e;rw[bX,dm,bX,bX]at e1;rw[dm,←R.pp];exact e1
 ·have:x.1∈ps.map (·.1)++dz.map iC:=by rw[←e];exact dI hx
  rcases fu.mp this with z|z
  ·obtain⟨x0,hx0,e0⟩:=bO.mp z;rw[←e0];exact R.w0 x0 hx0
  ·obtain⟨z,hz,e0⟩:=bO.mp z;have s:=sub z hz;rw[←e0];refine⟨?_,mw _,s.2⟩;have k:=(R.k0 z s.1).2 λz'=>by
    rw[dm,hG]at nd;exact nd.2.2 _ z' _ (dI hz) rfl
   exact k.symm
 ·obtain⟨a1,a2⟩:=R.k0 z hz;exact⟨a1,λn=>a2 λz'=>n (by rw[dm];exact mv _ z')⟩
 ·rcases fu.mp hz with z'|z'
  ·exact R.sb z z'
  ·exact(sub z z').1
theorem R20.que(R:R20 m po dl ps A K M rts)(er:aW rs=rts)(n:Names (aW rs))(np:(ps.map (·.1.nm)).Nodup)(hz:rs.length≤4)(hp:ps.length≤3) :
  que (rts.map dj++dl.map (gC K))=bT rs ps/\WNm (rts.map dj++dl.map (gC K))/\(rts.map dj++dl.map (gC K)).length<64:=by
 have eP:ps.map (λx=>ie x.1)=dl.map (gC K):=by
  have e1:=congrArg (iA λt:Str×Nat×Int×Int=>(⟨t.2.2.2,t.1,1,t.2.1,t.2.2.1-aget t.1 K⟩:Wn)) R.pp;rw[bX,bX]at e1;refine Eq.trans (gA λx hx=>?_) e1;simp only[Function.comp,ie,(R.w0 x hx).1]
 have pm:(eG rs ps).Perm (rts.map dj++dl.map (gC K)):=by
  unfold eG;rw[eP,←er];exact((kN n (by simp[aW];lia)).map _).append_right _
 have nW:=lE (rs:=rs) (ps:=ps) n (by lia) np;have al:(aged (aW rs)).length=rs.length:=by rw[lf n (by simp[aW];lia),bS]
 have lW:(eG rs ps).length<64:=by simp[eG,al];lia
 refine⟨(Fc nW lW pm).symm,?_,by rw[←pm.length_eq];exact lW⟩;exact(pm.map _).nodup_iff.mp nW
theorem R20.day{f:Nat->Int}(R:R20 m po dl ps A K M rts)(er:aW rs=rts)(n:Names (aW rs))(np:(ps.map (·.1.nm)).Nodup)(hz:rs.length≤4)(hp:ps.length≤3)(am0:∀x∈rts,0≤x.am)(fn:∀p,0≤f p){P0 P1:List (Str×Int)}(e0:P0=prs 0 (bT rs ps) (bR b f (wsA (bT rs ps))))(e1:P1=prs 1 (bT rs ps) (bR b f (wsA (bT rs ps)))) :
  R20 (m+7) po dl (P1.foldl padd ps) (P0.foldl aadd A) (P1.foldl aadd K) (P0.foldl aadd M) rts/\(∀y∈rts,aget y.nm (P0.foldl aadd [])=aget y.nm P0)/\(∀p∈P1,p.1∈K.map (·.1))/\(∀p∈P1,∃x∈P1.foldl padd ps,x.1.nm=p.1/\x.1.wt=aget p.1 K+p.2) /\
  (∀p∈P0,∃y∈rs,y.1.nm=p.1/\aget p.1 (P0.foldl aadd [])=p.2/\aget p.1 (P0.foldl aadd A)=aget p.1 M+p.2)/\(P0.map (·.1)).Nodup/\(P1.map (·.1)).Nodup/\P0.length≤7/\P1.length≤7/\(P0.foldl aadd []).length≤7:=by
 have mem:=λw=>yR n (by lia) np (by lia) (w:=w);have wn:=Go n (by lia) np (by lia:ps.length<20);have len:=w9 n (by lia) np (by lia:ps.length<20);have tl:(bR b f (wsA (bT rs ps))).length=(bT rs ps).length:=by rw[rq];simp[wsA]
 have am:∀w∈bT rs ps,0≤w.am:=λw hw=>by
  rcases(mem w).mp hw with⟨x,hx,rfl⟩|⟨x,hx,rfl⟩
  ·exact am0 _ (er▸dI hx)
  ·have:=R.w0 x hx;simp only[ie];lia
 have l0:=su (i:=0) (W:=bT rs ps) (T:=bR b f (wsA (bT rs ps)));have l1:=su (i:=1) (W:=bT rs ps) (T:=bR b f (wsA (bT rs ps)));have nd0:=rV (i:=0) (T:=bR b f (wsA (bT rs ps))) wn;have nd1:=rV (i:=1) (T:=bR b f (wsA (bT rs ps))) wn;have q1:∀p∈P1,∃x∈ps,x.1.nm=p.1/\0≤p.2/\p.2≤x.1.sz-x.1.wt:=λp h=>by
  rw[e1]at h;obtain⟨w,hw,r,e,a,b⟩:=xp fn am h;rcases(mem w).mp hw with⟨x,hx,rfl⟩|⟨x,hx,rfl⟩
  ·cases r
  ·exact⟨x,hx,e,a,b⟩
 have q0:∀p∈P0,∃y∈rs,y.1.nm=p.1:=λp h=>by
  rw[e0]at h;obtain⟨w,hw,r,e,a,b⟩:=xp fn am h;rcases(mem w).mp hw with⟨x,hx,rfl⟩|⟨x,hx,rfl⟩
  ·exact⟨x,hx,e⟩
  ·cases r
 have ga:∀y∈rts,asum y.nm P0=aget y.nm P0:=λy hy=>by
  rw[←er]at hy;obtain⟨y',hy',rfl⟩:=bO.mp hy;rw[e0];exact B0 wn tl ((mem (dj y'.1)).mpr (.inl ⟨y',hy',rfl⟩)) rfl
 rw[←e0]at l0 nd0;rw[←e1]at l1 nd1
 clear e0 e1 mem wn tl am am0
 obtain⟨m1,m2,m3⟩:=R.ln;have a1:=jp (ps:=P0) (L:=A);have a2:=jp (ps:=P1) (L:=K);have a3:=jp (ps:=P0) (L:=M);have a4:=jp (ps:=P0) (L:=[]);simp only[jc]at a4;have n0:∀k,aget k []=0:=λ_=>rfl;have inP:=λk=>R.inP (k:=k);refine⟨⟨?_,λx hx=>?_,λz hz=>?_,R.sb,λy hy=>?_,⟨by lia,by lia,by lia⟩⟩,λy hy=>?_,λp h=>?_,λp h=>?_,λp h=>?_,nd0,nd1,by lia,by lia,by lia⟩
 ·rw[pU,bX];exact R.pp
 ·rw[pU]at hx;obtain⟨x0,hx0,rfl⟩:=bO.mp hx;obtain⟨b1,b2,b3⟩:=R.w0 x0 hx0;have bd:=FL (k:=x0.1.nm) (M:=x0.1.sz-x0.1.wt) nd1 (by lia) λp h=>by
   obtain⟨x,hx,c1,c2,c3⟩:=q1 p h;refine⟨c2,λe=>?_⟩;have:x=x0:=zv np hx hx0 (c1.trans e);rw[this]at c3;exact c3
  show x0.1.wt+asum x0.1.nm P1=aget x0.1.nm (P1.foldl aadd K)/\0≤x0.1.wt+asum x0.1.nm P1/\x0.1.wt+asum x0.1.nm P1≤x0.1.sz;rw[je,←b1];exact⟨rfl,by lia,by lia⟩
 ·obtain⟨c1,c2⟩:=R.k0 z hz;refine⟨uF c1,λnn=>?_⟩;rw[je,c2 nn,pP λz'=>nn ?_]
  ·rfl
  ·obtain⟨p,hp,e⟩:=bO.mp z';obtain⟨x,hx,c,_⟩:=q1 p hp;exact(inP _).mp (by rw[←e,←c];exact dI (f:=λz:Po×Nat=>z.1.nm) hx)
 ·rw[je,je,R.s y hy]
 ·rw[je,ga y hy,n0];lia
 ·obtain⟨x,hx,c,_⟩:=q1 p h;obtain⟨z,hz,e⟩:=bO.mp ((inP _).mp (dI (f:=λz:Po×Nat=>z.1.nm) hx));rw[←c,←e];exact(R.k0 z (R.sb z hz)).1
 ·obtain⟨x,hx,c,_⟩:=q1 p h;refine⟨(x.1.add (asum x.1.nm P1),x.2),by rw[pU];exact dI (f:=λx:Po×Nat=>(x.1.add (asum x.1.nm P1),x.2)) hx,c,?_⟩;show x.1.wt+asum x.1.nm P1=_;rw[(R.w0 x hx).1,c,j9 nd1 h]
 ·obtain⟨y,hy,e⟩:=q0 p h;have s:=R.s y.1 (er▸dI hy);rw[e]at s;refine⟨y,hy,e,?_,?_⟩
  ·rw[je,j9 nd0 h,n0];lia
  ·rw[je,j9 nd0 h,s]
end
theorem DM{α:Type}(xs:List α):fV xs (some 1) none=xs.drop 1:=by
 cases xs with
 |nil=>rfl
 |cons x xs=>
   have:dF (x::xs).length 0 (some 1)=1:=by simp[dF]
   unfold fV;rw[this];simp[dF]
theorem GC{α:Type}(xs:List α):fV xs none (some (-1))=xs.take (xs.length-1):=by
 have:dF xs.length xs.length (some (-1))=xs.length-1:=by simp[dF];lia
 unfold fV;rw[this];simp[dF]
theorem B4{α:Type}(xs:List α):fV xs (some (-1)) none=xs.drop (xs.length-1):=by
 have:dF xs.length 0 (some (-1))=xs.length-1:=by simp[dF];lia
 unfold fV;rw[this];simp only[dF];exact kn (by simp)
theorem F7{h:MH}{pl l:Nat}{po:List Pd}{rts:List Rt}{Q:MV->MH->Prop}{E:Nat->MH->Prop}(hp:h[pl]?=some (.lst (po.map Pd.row)))(hl:h[l]?=some (.lst (rts.map Rt.row)))(nd:(po.map (·.nm)).Nodup)(few:po.length≤3)
  (q:∀h' p' (po':List Pd),Pre h h'->h'[p']?=some (.lst (po'.map Pd.row))->(po'.map (·.nm)).Nodup->po'.length=po.length->(∀z∈po',∃z0∈po,z.pt=z0.pt/\z.sz=z0.sz)->Q (.ref p') h'):wp (sr [.ref pl,.ref l]) h Q E:=by
 have i0:∀u v w z:MV,atN [u,v,w,z] 0=some u:=λ_ _ _ _=>rfl;have i1:∀u v w z:MV,atN [u,v,w,z] 1=some v:=λ_ _ _ _=>rfl;have i2:∀u v w z:MV,atN [u,v,w,z] 2=some w:=λ_ _ _ _=>rfl;have i3:∀u v w z:MV,atN [u,v,w,z] 3=some z:=λ_ _ _ _=>rfl;unfold sr;refine cg (by rfl) ?_;change wp (sC [some (.ref pl),some (.ref l)]) _ _ _;unfold sC;have same:∀h',Pre h h'->Q (.ref pl) h':=λh' p=>q h' pl po p (p.get hp) nd rfl λz hz=>⟨z,hz,rfl,rfl⟩;cases po with
 |nil=>
   rw[dL];simp[hp];exact same h .refl
 |cons z po=>cases rts with
   |nil=>
     rw[dL];simp[hp,hl];exact same h .refl
   |cons x rts=>
     have gx:atN ((x::rts).map Rt.row) 0=some x.row:=rfl;have gz:atN ((z::po).map Pd.row) 0=some z.row:=rfl;have rx:x.row=.tup [.str x.nm,.int x.pt,.int x.am,.int x.dt]:=rfl;have rz:∀z:Pd,z.row=.tup [.str z.nm,.int z.pt,.int z.sz,.int z.dt]:=λ_=>rfl;have ct:fV ((z::po).map Pd.row) (some 1) none=po.map Pd.row:=by rw[DM];rfl
     have l0:¬(((z::po).map Pd.row).length:Int)=0:=by simp;lia
     have l1:¬(((x::rts).map Rt.row).length:Int)=0:=by simp;lia
     have nd2:=nd;rw[bz,gu]at nd2;have e1:c9 (eSl (ae 0) (some (eC (.int 1))) none) [some (.ref pl),some (.ref l)] h=.ok ⟨(po.map Pd.row).map λv=>[v],[(h.length,po.map Pd.row)]⟩ (h++[.lst (po.map Pd.row)]):=by
      refine fE (iV ?_) bE;simp only[mG,aK,mq,mL,w_c,nH,hp,ct,aM]
      first|exact⟨trivial,rfl⟩|exact⟨trivial,trivial⟩
     rw[dL,fM];simp only[cY,nB,bq,hX,aK,w_c,tH,hp,hl,kg,l0,l1,decide_false,cJ,if_false,fS,gx,rx,cB,i0,aM,aR];simp only[fG]at few;refine ki po (λx=>[x.row]) (λ_=>true) (λx=>.str x.nm) e1 (by simp) (λh' p=>d6 (p.get bE)) (by lia) (λv hv h5 p5=>?_) (λv hv _ h5 p5=>?_) λh5 p5=>?_
     ·simp[fi,bx,Pre.refl]
     ·simp[rz,i0,Pre.refl]
     ·rw[lU];have p6:Pre h (h5++[MO.lst (po.map λx=>.str x.nm)]):=(((Pre.app _).trans p5).snoc _);have g6:(h5++[MO.lst (po.map λx=>.str x.nm)])[h5.length]?=some (.lst ((po.map (·.nm)).map .str)):=by rw[bE,bX];rfl
      generalize h5++[MO.lst (po.map λx=>.str x.nm)]=h6 at p6 g6;by_cases c:x.nm∈po.map (·.nm)
      ·simp only[oS,g6,uX,c];refine⟨⟨rfl,xb _⟩,?_⟩;simp;exact same h6 p6
      ·simp only[oS,g6,uX,c];refine⟨⟨rfl,xb _⟩,?_⟩;have hp6:=p6.get hp;have hl6:=p6.get hl;simp only[decide_false,cJ,if_false,gG,iB,bq,sJ,bv,bp,jJ,aK,w_c,fS,hp6,hl6,gx,gz,rx,rz,cB,i0,i1,i2,i3,aM,aR];refine⟨by simp,by simp,?_⟩;have g7:(h6++[MO.lst [.tup [.str x.nm,.int z.pt,.int z.sz,.int x.dt]]])[h6.length]?=some (.lst [.tup [.str x.nm,.int z.pt,.int z.sz,.int x.dt]]):=bE;have p7:Pre h (h6++[MO.lst [.tup [.str x.nm,.int z.pt,.int z.sz,.int x.dt]]]):=p6.snoc _;generalize h6++[MO.lst [.tup [.str x.nm,.int z.pt,.int z.sz,.int x.dt]]]=h7 at g7 p7;have hp7:=p7.get hp;simp only[mG,aK,mq,mL,w_c,nH,hp7,ct,aM];have g8:(h7++[MO.lst (po.map Pd.row)])[h6.length]?=some (.lst [.tup [.str x.nm,.int z.pt,.int z.sz,.int x.dt]]):=dH g7;have g9:(h7++[MO.lst (po.map Pd.row)])[h7.length]?=some (.lst (po.map Pd.row)):=bE;simp only[w6,g8,g9];refine⟨by simp;lia,q _ _ (⟨x.nm,z.pt,z.sz,x.dt⟩::po) ((p7.snoc _).snoc _) (by rw[bE];rfl) ?_ (by simp) λy hy=>?_⟩
       ·rw[bz,gu];exact⟨c,nd2.2⟩
       ·rcases bK.mp hy with rfl|hy
        ·exact⟨z,fA,rfl,rfl⟩
        ·exact⟨y,dO _ hy,rfl,rfl⟩
noncomputable abbrev P20(ns:List Int)(size a l pl:Nat)(cc:Int)(o sd:Nat)(t8:Option MV)(ro:Int)(sm gd dg:Nat)(t:List (Option MV)):MSt:=some (.scr ns)::some (.int size)::some (.ref a)::some (.ref l)::some (.ref pl)::some (.int cc)::some (.ref o)::some (.ref sd)::t8::some (.int ro)::some (.ref sm)::some (.ref gd)::some (.ref dg)::t
theorem Sy.clr{h h':MH}{o bk pd ld ad r d p rl:Nat}{ro:Int}{ps:List (Po×Nat)}{L A:List (Str×Int)}{rs:List Rid}{b:List Nat}{xs:List MV}(S:Sy h o bk pd ld ad r d ro ps L A rs b)(e:h[p]?=some (.lst xs))(h1:h[r]?=some (.ins 1 [("runs_to",.ref rl)]))(h2:h[rl]?=some (.lst (rows b)))(ne:rl≠p)(f:Off [p] h h'):Sy h' o bk pd ld ad r d ro ps L A rs b/\h'[r]?=some (.ins 1 [("runs_to",.ref rl)])/\h'[rl]?=some (.lst (rows b)):=by
 have no:∀{m:Nat}{ob:MO},h[m]?=some ob->(∀kv,ob≠.lst kv)->m∉[p]:=λe' k' z=>by
  rw[cT.mp z,e]at e';exact k' _ (Option.some.inj e').symm
 have r1:=f.get h1 (no h1 (by simp));have r2:=f.get h2 (by simpa using ne);exact⟨⟨⟨f.get S.of.ob (no S.of.ob (by simp)),f.get S.of.pn (no S.of.pn (by simp)),f.get S.of.la (no S.of.la (by simp)),f.get S.of.al (no S.of.al (by simp)),λx hx=>f.get (S.of.it x hx) (no (S.of.it x hx) (by simp[poO])),S.of.nm,S.of.nd,S.of.ap⟩,S.bk.off f (no S.bk.ob (by simp)) (no S.bk.dc (by simp)) λx hx=>no (S.bk.it x hx) (by simp[rtO]),⟨⟨rl,r1,r2⟩,S.rv.wf,S.rv.few⟩⟩,r1,r2⟩
theorem F4{ns:List Int}{size:Nat}{cc:Int}{o bk pd ld ad r d a l pl dg sd sm gd k:Nat}{ro:Int}{b:List Nat}{po:List Pd}{h:MH}{ps:List (Po×Nat)}{L A K M G:List (Str×Int)}{rs:List Rid}{rts:List Rt}{t8 t14 t15 t16:Option MV}
  (S:Sy h o bk pd ld ad r d ro ps L A rs b) (X:Ex20 h a l pl dg sd sm gd b rts po (if k≤1 then po.take (po.length-1) else po) K M G) (R:R20 (10+20*k) po (if k≤1 then po.take (po.length-1) else po) ps A K M rts) (g:∀y∈rts,aget y.nm L=aget y.nm G) (hL:L.length<400) (n0:NA sd pd ld ad d) (n1:NA sm pd ld ad d) (n2:NA gd pd ld ad d)
  (hk:k<3) (er:aW rs=rts) (rl:rs.length≤4) (pt:∀x∈aW rs,x.pt<b.length+1) (am0:∀x∈rts,0≤x.am) (bw:Wf b) (few:b.length<40) (hn:size=b.length+1) (pnd:(po.map (·.nm)).Nodup) (ppt:∀z∈po,0≤z.pt/\z.pt<(b.length:Int)+1/\0≤z.sz) (pl3:po.length≤3) :
  wp (vV (P20 ns size a l pl cc o sd t8 ro sm gd dg [some (.int k),t14,t15,t16])) h (λf h=>∃σ,f=.next σ/\∃dg gd ld ro ps L A K M G,Sy h o bk pd ld ad r d ro ps L A rs b/\Ex20 h a l pl dg sd sm gd b rts po (if k+1≤1 then po.take (po.length-1) else po) K M G/\R20 (10+20*(k+1)) po (if k+1≤1 then po.take (po.length-1) else po) ps A K M rts/\(∀y∈rts,aget y.nm L=aget y.nm G)/\L.length<400/\NA sd pd ld ad d/\NA sm pd ld ad d/\NA gd pd ld ad d/\∃t13 t14 t15 t16,σ=P20 ns size a l pl cc o sd t8 ro sm gd dg [t13,t14,t15,t16]) noE:=by
 unfold vV;have j0:∀u v:MV,atN [u,v] 0=some u:=λ_ _=>rfl;have j1:∀u v:MV,atN [u,v] 1=some v:=λ_ _=>rfl;have sub0:∀z∈po.take (po.length-1),z∈po:=λz hz=>wd hz;have nm:Names (aW rs):=S.bk.nm;refine aJ (R:=λσ h=>(∃ps L A K M,Sy h o bk pd ld ad r d ro ps L A rs b/\Ex20 h a l pl dg sd sm gd b rts po (if k≤1 then po.take (po.length-1) else po) K M G/\R20 (10+20*k+1) po (if k≤1 then po.take (po.length-1) else po) ps A K M rts)/\σ=P20 ns size a l pl cc o sd t8 ro sm gd dg [some (.int k),t14,t15,t16]) ?_ ?_
 ·rw[fM];by_cases c:k=0
  ·have c':¬(0:Int)<k:=by lia
   simp only[cY,bq,aK,w_c,qB,c',decide_false,cJ,if_false,gG,aM,aR];exact⟨_,rfl,⟨ps,L,A,K,M,S,X,R.mono (by lia)⟩,rfl⟩
  ·have c':(0:Int)<k:=by lia
   simp only[cY,bq,aK,w_c,qB,c',decide_true,if_true,eI,dG,bv,bp,sJ,aM,aR];refine⟨by simp,?_⟩;simp only[bv,bp,bq,aK,w_c,jj,ik (show(0:Int)≤47+k by lia),aM,aR];have p1:Pre h (h++[.lst [.ref sd,.ref gd,.ref sm]]):=Pre.app _;refine Fw (S.pre p1) (X.pre p1) R er g bE n0 n1 n2 bw few (λz hz=>?_) (by lia) hL λh' ps' L' A' K' M' S' X' R'=>⟨_,rfl,⟨ps',L',A',K',M',S',X',R'⟩,rfl⟩
   have:=ppt z (R.sb z hz);exact⟨this.1,this.2.1⟩
 clear S X R g hL
 rintro _ h ⟨⟨ps,L,A,K,M,S,X,R⟩,rfl⟩;refine aJ (R:=λσ h=>(∃dg ps,Sy h o bk pd ld ad r d ro ps L A rs b/\Ex20 h a l pl dg sd sm gd b rts po (if k+1≤1 then po.take (po.length-1) else po) K M G/\R20 (10+20*k+1) po (if k+1≤1 then po.take (po.length-1) else po) ps A K M rts/\σ=P20 ns size a l pl cc o sd t8 ro sm gd dg [some (.int k),t14,t15,t16])) ?_ ?_
 ·rw[fM];by_cases c:k=1
  ·subst c;rw[if_pos (by lia)]at X R;rw[if_neg (by lia)];have gp:=X.pn;simp only[cY,bq,aK,w_c,kg,aM,aR];have e1:decide (((1:Nat):Int)=1)=true:=by decide
   rw[e1,if_pos rfl,dL];have cl:fV (po.map Pd.row) (some (-1)) none=(po.drop (po.length-1)).map Pd.row:=by rw[B4,bS,List.map_drop]
   simp only[eI,dG,bv,bp,mG,aK,mq,mL,hX,w_c,wv,nH,gp,cl,aM,aR];have p1:Pre h (h++[.lst ((po.drop (po.length-1)).map Pd.row)]):=Pre.app _;have S1:=S.pre p1;have X1:=X.pre p1;have td:=List.take_append_drop (po.length-1) po;have pnd2:((po.take (po.length-1)++po.drop (po.length-1)).map (·.nm)).Nodup:=by rw[td];exact pnd
   have sub:∀z∈po.drop (po.length-1),z∈po:=λz hz=>List.mem_of_mem_drop hz;have nme:ps.map (·.1.nm)=(po.take (po.length-1)).map (·.nm):=by
    have:=congrArg (iA Prod.fst) R.pp;rw[bX,bX]at this;exact this
   have lps:ps.length≤3:=by
    have:=congrArg i9 nme;simp at this
    lia
   refine BY S1 bE (by rw[nme,←dm];exact pnd2) (λz hz=>⟨(ppt z (sub z hz)).1,(ppt z (sub z hz)).2.1⟩) (by simp;lia) λh' ps' f e1 e2 S'=>?_;have no:∀{n:Nat}{ob:MO},(h++[MO.lst ((po.drop (po.length-1)).map Pd.row)])[n]?=some ob->(∀kv,ob≠.dct kv)->n∉[pd]:=λe' k' z=>by
    rw[cT.mp z,S1.of.pn]at e';exact k' _ (Option.some.inj e').symm
   have X2:=X1.off f (λn hn ys z=>no z (by simp) hn) (by simp;exact n0.1) (by simp;exact n1.1) (by simp;exact n2.1);have R2:=R.dig (dz:=po.drop (po.length-1)) pnd2 (λz hz=>⟨sub z hz,(ppt z (sub z hz)).2.2⟩) e1;rw[td]at R2;simp only[cq,aK,aM,aR];exact⟨_,rfl,pl,ps',S',⟨X2.be,X2.ri,X2.pn,X2.pn,X2.e0,X2.e1,X2.e2,X2.ne⟩,R2,rfl⟩
  ·have c2:(if k+1≤1 then po.take (po.length-1) else po)=(if k≤1 then po.take (po.length-1) else po):=by
    by_cases c3:k=0
    ·subst c3;rfl
    ·rw[if_neg (by lia),if_neg (by lia)]
   have c':¬(k:Int)=1:=by lia
   rw[c2];simp only[cY,bq,aK,w_c,kg,c',decide_false,cJ,if_false,gG,aM,aR];exact⟨_,rfl,dg,ps,S,X,R,rfl⟩
 clear S X R
 rintro _ h ⟨dg,ps,S,X,R,rfl⟩;generalize hdl:(if k+1≤1 then po.take (po.length-1) else po)=dl at X R;obtain⟨ln1,ln2,ln3⟩:=R.ln;have lps:ps.length≤3:=by
  have e:=congrArg i9 R.pp;simp at e;have:dl.length≤po.length:=by rw[←hdl];split <;> simp
  lia
 have np:=S.of.nm;refine aJ (R:=λσ h'=>∃ya,Pre h h'/\h'[ya]?=some (.lst (tab size (fj ns (27+7*k))))/\σ=P20 ns size a l pl cc o sd t8 ro sm gd dg [some (.int k),some (.ref ya),t15,t16]) ?_ ?_
 ·simp only[cq,dG,bv,bp,aK,bq,w_c,jj,Eh,aM,aR];exact⟨.inl ⟨by decide,by decide⟩,Dp (by lia) (by lia) ⟨_,rfl,h.length,Pre.app _,bE,rfl⟩⟩
 rintro _ h1 ⟨ya,p1,gya,rfl⟩;replace S:=S.pre p1;replace X:=X.pre p1
 clear p1 h
 obtain⟨eq,nW,lW⟩:=R.que er nm np rl lps;have mem:=λw=>yR nm (by lia) np (by lia) (w:=w);have yb:=λk' (_:k'<size)=>Bc ns (27+7*k) k';have fn:∀p,0≤bF b size (fj ns (27+7*k)) p:=Es λk'=>(Bc ns (27+7*k) k').1;obtain⟨P0,e0⟩:∃P0,P0=prs 0 (bT rs ps) (bR b (bF b size (fj ns (27+7*k))) (wsA (bT rs ps))):=⟨_,rfl⟩;obtain⟨P1,e1⟩:∃P1,P1=prs 1 (bT rs ps) (bR b (bF b size (fj ns (27+7*k))) (wsA (bT rs ps))):=⟨_,rfl⟩;obtain⟨R2,g2,mK,st,gt,nd0,nd1,l0,l1,l2⟩:=R.day er nm np rl lps am0 fn e0 e1;obtain⟨out,eo⟩:∃out,out=cA b (bF b size (fj ns (27+7*k))) (wsA (bT rs ps)) 0:=⟨_,rfl⟩;refine aJ (R:=λσ h'=>∃c c0 c1,Pre h1 h'/\h'[c]?=some (.lst [.ref c0,.ref c1])/\h'[c0]?=some (.lst (P0.map pv))/\h'[c1]?=some (.lst (P1.map pv))/\σ=P20 ns size a l pl cc o sd t8 ro sm gd dg [some (.int k),some (.ref ya),some (.tup [.ref c,.int out]),t16]) ?_ ?_
 ·simp only[cq,dG,bv,bp,aK,aM,aR];refine D9 X.ri X.dn X.e0 (λz hz=>⟨(R.k0 z (R.sb z hz)).1,(ppt z (R.sb z hz)).1⟩) nW lW λh2 q p2 gq=>?_;rw[eq]at gq;have ql:=w9 nm (by lia) np (by lia:ps.length<20);refine Ef (p2.get X.be) bw few (p2.get gya) gq hn (λw hw=>?_) (by lia) (λw hw=>?_) λh3 c c0 c1 p3 _ _ gc gc0 gc1=>?_
  ·rcases(mem w).mp hw with⟨x,hx,rfl⟩|⟨x,hx,rfl⟩
   ·exact .inl rfl
   ·exact .inr rfl
  ·rcases(mem w).mp hw with⟨x,hx,rfl⟩|⟨x,hx,rfl⟩
   ·exact pt _ (dI hx)
   ·have:(x.1.nm,x.1.pt,x.1.sz,x.1.dt)∈dl.map (λz=>(z.nm,z.pt.toNat,z.sz,z.dt)):=by rw[←R.pp];exact dI (f:=λx:Po×Nat=>(x.1.nm,x.1.pt,x.1.sz,x.1.dt)) hx
    obtain⟨z,hz,e⟩:=bO.mp this;have ez:z.pt.toNat=x.1.pt:=congrArg (λt=>t.2.1) e;have:=ppt z (R.sb z hz);simp only[ie]
    lia
  ·rw[←e0]at gc0;rw[←e1]at gc1;rw[←eo];exact⟨_,rfl,c,c0,c1,p2.trans p3,gc,gc0,gc1,rfl⟩
 rintro _ h2 ⟨c,c0,c1,p2,gc,gc0,gc1,rfl⟩;replace S:=S.pre p2;replace X:=X.pre p2;replace gya:=p2.get gya
 clear p2 h1 eq nW lW
 have pps:∀x∈ps,x.1.pt<b.length+1:=λx hx=>by
  have:(x.1.nm,x.1.pt,x.1.sz,x.1.dt)∈dl.map (λz=>(z.nm,z.pt.toNat,z.sz,z.dt)):=by rw[←R.pp];exact dI (f:=λx:Po×Nat=>(x.1.nm,x.1.pt,x.1.sz,x.1.dt)) hx
  obtain⟨z,hz,e⟩:=bO.mp this;have ez:z.pt.toNat=x.1.pt:=congrArg (λt=>t.2.1) e;have:=ppt z (R.sb z hz)
  lia
 refine aJ (R:=λσ h'=>∃ld' p1 p2 rv,(Sy h' o bk pd ld' ad r d (ro+out) (P1.foldl padd ps) (P0.foldl aadd []) (P0.foldl aadd A) rs b/\Ex20 h' a l pl dg sd sm gd b rts po dl K M G/\h'[c]?=some (.lst [.ref c0,.ref c1])/\h'[c0]?=some (.lst (P0.map pv))/\h'[c1]?=some (.lst (P1.map pv))/\h'[p1]?=some (.lst (P0.map pv))/\h'[p2]?=some (.lst (P1.map pv))/\h'[r]?=some (.ins 1 [("runs_to",.ref rv)])/\h'[rv]?=some (.lst (rows b)))/\(h2.length≤ld'/\h2.length≤p1/\h2.length≤p2/\p1≠p2/\rv<h2.length)/\σ=P20 ns size a l pl cc o sd t8 ro sm gd dg [some (.int k),some (.ref ya),some (.tup [.ref c,.int out]),some (.tup [.ref p1,.ref p2])]) ?_ ?_
 ·rw[cq,S.meth (by decide) rfl];simp only[bv,bp,aK,aM,aR];refine Eu S (by lia) (by lia) gya hn yb pt pps (by lia) λh3 ld3 p1 p2 f q1 q2 q3 q4 g1 g2 S3=>?_;rw[←e0]at g1 S3;rw[←e1]at g2 S3;rw[←eo]at S3;have no:∀{n:Nat}{ob:MO},h2[n]?=some ob->n≠ad->(∀fs,ob≠.ins 4 fs)->(∀fs,ob≠.ins 5 fs)->n∉o::ad::ps.map (·.2):=λe a1 a2 a3 hn=>by
   rcases bK.mp hn with hn|hn
   ·rw[hn,S.of.ob]at e;exact a2 _ (Option.some.inj e).symm
   rcases bK.mp hn with hn|hn
   ·exact a1 hn
   obtain⟨x,hx,rfl⟩:=bO.mp hn;rw[S.of.it x hx]at e;exact a3 _ (Option.some.inj e).symm
  have nl:∀n∈o::ad::ps.map (·.2),∀ys,h2[n]?≠some (.lst ys):=λn hn ys z=>no z (cX z S.of.al (by simp)) (by simp) (by simp) hn;obtain⟨⟨rv,r1,r2⟩,_,_⟩:=S.rv;exact⟨_,rfl,ld3,p1,p2,rv,⟨S3,X.off f nl (no X.e0 n0.2.2.1 (by simp) (by simp)) (no X.e1 n1.2.2.1 (by simp) (by simp)) (no X.e2 n2.2.2.1 (by simp) (by simp)),f.lst gc nl,f.lst gc0 nl,f.lst gc1 nl,g1,g2,f.get r1 (no r1 (cX r1 S.of.al (by simp)) (by simp) (by simp)),f.lst r2 nl⟩,⟨q1,q2,q3,q4,aS r2⟩,rfl⟩
 have la:=aS X.be;have ll:=aS X.ri;have lp:=aS X.pn;have ldg:=aS X.dn;have lsd:=aS X.e0;have lsm:=aS X.e1;have lgd:=aS X.e2;have lc:=aS gc;have lc0:=aS gc0;have lc1:=aS gc1;have lad:=aS S.of.al;have lpd:=aS S.of.pn;have ldd:=aS S.bk.dc
 clear S X gc gc0 gc1 gya
 rintro _ h3 ⟨ld',p1,p2,rv,⟨S,X,gc,gc0,gc1,gp1,gp2,gr,gv⟩,⟨q1,q2,q3,q4,q5⟩,rfl⟩;have m0:NA sd pd ld' ad d:=⟨n0.1,by lia,n0.2.2.1,n0.2.2.2⟩
 have m1:NA sm pd ld' ad d:=⟨n1.1,by lia,n1.2.2.1,n1.2.2.2⟩
 have x0:atN [MV.ref c0,.ref c1] 0=some (.ref c0):=rfl;have x1:atN [MV.ref c0,.ref c1] 1=some (.ref c1):=rfl;refine aJ (R:=λσ h'=>(Sy h' o bk pd ld' ad r d (ro+out) (P1.foldl padd ps) (P0.foldl aadd []) (P0.foldl aadd A) rs b/\Ex20 h' a l pl dg sd sm gd b rts po dl (P1.foldl aadd K) M G/\h'[c]?=some (.lst [.ref c0,.ref c1])/\h'[c0]?=some (.lst (P0.map pv))/\h'[p1]?=some (.lst (P0.map pv))/\h'[p2]?=some (.lst (P1.map pv))/\h'[r]?=some (.ins 1 [("runs_to",.ref rv)])/\h'[rv]?=some (.lst (rows b)))/\σ=P20 ns size a l pl cc o sd t8 ro sm gd dg [some (.int k),some (.ref ya),some (.tup [.ref c,.int out]),some (.tup [.ref p1,.ref p2])]) ?_ ?_
 ·rw[fM,cY,nB,cY,w_not,cY,dG];simp only[bv,bp,aK,aM,aR];refine Fs gp1 gp2 gc gc0 gc1 ?_;simp only[gJ,cJ,if_false,w_not,cY,dG,bv,bp,aK,bq,w_c,cB,j0,fS,gc,x1,aM,aR];refine EE S gc1 X.e0 m0 nd1 mK st (by lia) λh' f gs=>?_;have nl:∀n∈[sd],∀ys,h3[n]?≠some (.lst ys):=λn hn ys z=>by rw[cT.mp hn,X.e0]at z;cases z
  simp only[gJ,cJ,if_false,gG];exact⟨_,rfl,⟨S.offk X.e0 m0 f,X.set0 f gs,f.lst gc nl,f.lst gc0 nl,f.lst gp1 nl,f.lst gp2 nl,f.get gr (by simp;exact cX gr X.e0 (by simp)),f.lst gv nl⟩,rfl⟩
 clear S X gc gc0 gc1 gp1 gp2 gr gv st mK
 rintro _ h4 ⟨⟨S,X,gc,gc0,gp1,gp2,gr,gv⟩,rfl⟩;refine aJ (R:=λσ h'=>h4=h'/\σ=P20 ns size a l pl cc o sd t8 (ro+out) sm gd dg [some (.int k),some (.ref ya),some (.tup [.ref c,.int out]),some (.tup [.ref p1,.ref p2])]) ?_ ?_
 ·simp only[cq,bq,aK,w_c,cB,j1,jj,aM,aR];exact⟨_,rfl,trivial,rfl⟩
 rintro _ _ ⟨rfl,rfl⟩;have clr:∀{h h':MH}{p:Nat},Ex20 h a l pl dg sd sm gd b rts po dl (P1.foldl aadd K) M G->Off [p] h h'->p≠a->p≠l->p≠pl->p≠dg->p≠sd->p≠sm->p≠gd->Ex20 h' a l pl dg sd sm gd b rts po dl (P1.foldl aadd K) M G:=λX f c1 c2 c3 c4 c5 c6 c7=>⟨f.get X.be (by simp;exact c1.symm),f.get X.ri (by simp;exact c2.symm),f.get X.pn (by simp;exact c3.symm),f.get X.dn (by simp;exact c4.symm),f.get X.e0 (by simp;exact c5.symm),f.get X.e1 (by simp;exact c6.symm),f.get X.e2 (by simp;exact c7.symm),X.ne⟩
 refine aJ (R:=λσ h'=>(Sy h' o bk pd ld' ad r d (ro+out) (P1.foldl padd ps) (P0.foldl aadd []) (P0.foldl aadd A) rs b/\Ex20 h' a l pl dg sd sm gd b rts po dl (P1.foldl aadd K) M G/\h'[c]?=some (.lst [.ref c0,.ref c1])/\h'[c0]?=some (.lst (P0.map pv))/\h'[p2]?=some (.lst (P1.map pv))/\h'[r]?=some (.ins 1 [("runs_to",.ref rv)])/\h'[rv]?=some (.lst (rows b)))/\σ=P20 ns size a l pl cc o sd t8 (ro+out) sm gd dg [some (.int k),some (.ref ya),some (.tup [.ref c,.int out]),some (.tup [.ref p1,.ref p2])]) ?_ ?_
 ·have lg:=aS gp1;have f:Off [p1] h4 (h4.set p1 (.lst [])):=Off.set;simp only[eI,yN,bq,aK,w_c,cB,j0,gp1,aM,aR];obtain⟨S',r1,r2⟩:=S.clr gp1 gr gv (by lia) f;exact⟨lg,_,rfl,⟨S',clr X f (by lia) (by lia) (by lia) (by lia) (by lia) (by lia) (by lia),f.get gc (by simp;lia),f.get gc0 (by simp;lia),f.get gp2 (by simp;lia),r1,r2⟩,rfl⟩
 clear S X gc gc0 gp1 gp2 gr gv
 rintro _ h5 ⟨⟨S,X,gc,gc0,gp2,gr,gv⟩,rfl⟩;refine aJ (R:=λσ h'=>(Sy h' o bk pd ld' ad r d (ro+out) (P1.foldl padd ps) (P0.foldl aadd []) (P0.foldl aadd A) rs b/\Ex20 h' a l pl dg sd sm gd b rts po dl (P1.foldl aadd K) M G/\h'[c]?=some (.lst [.ref c0,.ref c1])/\h'[c0]?=some (.lst (P0.map pv)))/\σ=P20 ns size a l pl cc o sd t8 (ro+out) sm gd dg [some (.int k),some (.ref ya),some (.tup [.ref c,.int out]),some (.tup [.ref p1,.ref p2])]) ?_ ?_
 ·have lg:=aS gp2;have f:Off [p2] h5 (h5.set p2 (.lst [])):=Off.set;simp only[eI,yN,bq,aK,w_c,cB,j1,gp2,aM,aR];obtain⟨S',r1,r2⟩:=S.clr gp2 gr gv (by lia) f;exact⟨lg,_,rfl,⟨S',clr X f (by lia) (by lia) (by lia) (by lia) (by lia) (by lia) (by lia),f.get gc (by simp;lia),f.get gc0 (by simp;lia)⟩,rfl⟩
 clear S X gc gc0 gp2 gr gv clr
 rintro _ h6 ⟨⟨S,X,gc,gc0⟩,rfl⟩;refine aJ (R:=λσ h'=>(∃gd,Sy h' o bk pd ld' ad r d (ro+out) (P1.foldl padd ps) (P0.foldl aadd []) (P0.foldl aadd A) rs b/\Ex20 h' a l pl dg sd sm gd b rts po dl (P1.foldl aadd K) M P0/\NA gd pd ld' ad d/\h'[c]?=some (.lst [.ref c0,.ref c1])/\h'[c0]?=some (.lst (P0.map pv))/\σ=P20 ns size a l pl cc o sd t8 (ro+out) sm gd dg [some (.int k),some (.ref ya),some (.tup [.ref c,.int out]),some (.tup [.ref p1,.ref p2])])) ?_ ?_
 ·simp only[cq,hX,bq,aK,w_c,cB,j0,fS,gc,x0,aM,aR];have acn:(acL P0).map (·.1)=P0.map (·.1):=by unfold acL;rw[bX];rfl
  refine Ez gc0 (zM (f:=pv) (g:=λp=>(p.1,.int p.2)) (λp=>rfl) P0) (by rw[←acn]at nd0;exact nd0) (by simp;lia) ?_;have pa:Pre h6 (h6++[.dct (P0.map λp=>(p.1,MV.int p.2))]):=Pre.app _;have X1:=X.pre pa;have z1:=aS X.e0;have z2:=aS X.e1;have z3:=aS S.of.pn;have z4:=aS S.of.la;have z5:=aS S.of.al;have z6:=aS S.bk.dc;exact⟨_,rfl,h6.length,S.pre pa,⟨X1.be,X1.ri,X1.pn,X1.dn,X1.e0,X1.e1,bE,X.ne.1,by lia,by lia⟩,⟨by lia,by lia,by lia,by lia⟩,pa.get gc,pa.get gc0,rfl⟩
 clear S X gc gc0 la ll lp ldg lsd lsm lgd lc lc0 lc1 lad lpd ldd q1 q2 q3 q4 q5
 rintro _ h7 ⟨gd,S,X,m2,gc,gc0,rfl⟩;refine aJ (R:=λσ h'=>(Sy h' o bk pd ld' ad r d (ro+out) (P1.foldl padd ps) (P0.foldl aadd []) (P0.foldl aadd A) rs b/\Ex20 h' a l pl dg sd sm gd b rts po dl (P1.foldl aadd K) (P0.foldl aadd M) P0)/\σ=P20 ns size a l pl cc o sd t8 (ro+out) sm gd dg [some (.int k),some (.ref ya),some (.tup [.ref c,.int out]),some (.tup [.ref p1,.ref p2])]) ?_ ?_
 ·rw[fM,cY,w_not,cY,dG];simp only[bv,bp,aK,bq,w_c,cB,j0,fS,gc,x0,aM,aR];refine Dy S gc0 X.e1 m1 nd0 gt (by lia) λh' f gs=>?_;simp only[gJ,cJ,if_false,gG];exact⟨_,rfl,⟨S.offk X.e1 m1 f,X.set1 f gs⟩,rfl⟩
 clear S X gc gc0
 rintro _ h8 ⟨⟨S,X⟩,rfl⟩;rw[fM,cY,nB,cY,w_not,cY,dG,bv,S.meth (by decide) rfl,bp];refine(AN S).mpr ?_;simp only[bp,uC,gJ,cJ,if_false];rw[bq,S.meth (by decide) rfl,bp];refine(AN S).mpr ?_;simp only[aK,pJ,decide_true,gJ,cJ,if_false,gG,aM,aR];exact⟨_,rfl,dg,gd,ld',ro+out,_,_,_,_,_,_,S,X,R2.mono (by lia),g2,by lia,m0,m1,m2,_,_,_,_,rfl⟩
theorem law_true:∀ns:List Int,ns.length≤63->∃h',ou [.scr ns] []=.ok (.bl true) h':=by
 intro ns hns
 suffices w:wp (ou [.scr ns]) [] (λv _=>v=.bl true) noE by
  obtain⟨v,h',e,rfl⟩:=mC w;exact⟨h',e⟩
 unfold ou;refine cg (by rfl) ?_;obtain⟨size,hsz,s1,s6⟩:∃size:Nat,1+cell ns 0%6=(size:Int)/\1≤size/\size≤6:=⟨(1+cell ns 0%6).toNat,by lia,by lia,by lia⟩
 obtain⟨count,hc,c4⟩:∃count:Nat,cell ns 0/6%5=(count:Int)/\count≤4:=⟨(cell ns 0/6%5).toNat,by lia,by lia⟩
 obtain⟨cp,hcp,cp3⟩:∃cp:Nat,cell ns 0/30%4=(cp:Int)/\cp≤3:=⟨(cell ns 0/30%4).toNat,by lia,by lia⟩
 obtain⟨days,hdy,d3⟩:∃days:Nat,1+cell ns 26%3=(days:Int)/\days≤3:=⟨(1+cell ns 26%3).toNat,by lia,by lia⟩
 have bl:=BC ns 1 size;have bw:=Dj ns 1 size;generalize hb:ic ns 1 size=b at bl bw;have hn:size=b.length+1:=by lia
 have few:b.length<40:=by lia
 clear bl hns
 change wp (rm [some (.scr ns),none,none,none,none,none,none,none,none,none,none,none,none,none,none,none,none]) _ _ _;unfold rm;refine aJ (R:=λσ h=>σ=[some (.scr ns),some (.int size),none,none,none,none,none,none,none,none,none,none,none,none,none,none,none]/\h=[]) (by simp[ik,hsz]) ?_;rintro _ _ ⟨rfl,rfl⟩
 clear hsz
 refine aJ (R:=λσ h=>∃a,h[a]?=some (.lst (rows b))/\σ=[some (.scr ns),some (.int size),some (.ref a),none,none,none,none,none,none,none,none,none,none,none,none,none,none]) ?_ ?_
 ·simp;refine EQ (by decide) s1 (by lia) λh1 p1 l1=>?_;rw[hb];simp
 rintro _ h1 ⟨a,ha1,rfl⟩;refine aJ (R:=λσ h=>∃l,Pre h1 h/\h[l]?=some (.lst ((dy ns 8 count size).map Rt.row))/\σ=[some (.scr ns),some (.int size),some (.ref a),some (.ref l),none,none,none,none,none,none,none,none,none,none,none,none,none]) ?_ ?_
 ·simp only[cq,dG,bv,bp,aK,w_c,bq,aM,aR,ik (show(0:Int)≤0 by decide),kB,jM,jj,hc];refine⟨by decide,by decide,?_⟩;exact DA (by decide) s1 (by lia) λh3 p3 l3=>⟨_,rfl,h3.length,p3.snoc _,bE,rfl⟩
 rintro _ h2 ⟨l,p2,hl2,rfl⟩
 clear hc
 have ha2:=p2.get ha1;have nm:Names (dy ns 8 count size):=DZ (by lia);have pt:∀x∈dy ns 8 count size,x.pt<b.length+1:=λx hx=>by rw[←hn];exact G0 s1 hx
 have rl:(dy ns 8 count size).length=count:=uv _ _ _ _;have am0:∀x∈dy ns 8 count size,0≤x.am:=λx hx=>(EH hx).1;generalize hrts:dy ns 8 count size=rts at nm pt rl am0 hl2;refine aJ (R:=λσ h=>∃pl,Pre h2 h/\h[pl]?=some (.lst ((fg ns 20 cp size).map Pd.row))/\σ=[some (.scr ns),some (.int size),some (.ref a),some (.ref l),some (.ref pl),none,none,none,none,none,none,none,none,none,none,none,none]) ?_ ?_
 ·simp only[cq,dG,bv,bp,aK,w_c,bq,aM,aR,ik (show(0:Int)≤0 by decide),kB,jM,jj,hcp];refine⟨by decide,by decide,?_⟩;exact Ff (by decide) s1 (by lia) (by lia) λh3 p3 g3=>⟨_,rfl,h2.length,p3,g3,rfl⟩
 rintro _ h3 ⟨pl,p3,hp3,rfl⟩
 clear hcp
 have ha3:=p3.get ha2;have hl3:=p3.get hl2;have pnd:((fg ns 20 cp size).map (·.nm)).Nodup:=yt cp;have ppt:∀x∈fg ns 20 cp size,0≤x.pt/\x.pt<(b.length:Int)+1/\0≤x.sz:=λx hx=>by
  obtain⟨k,_,rfl⟩:=bO.mp hx;have u:=gZ (cell ns (20+2*k)) (show(size:Int)≠0 by lia);have v:=jf (cell ns (20+2*k)) (show(0:Int)<size by lia);simp only[ig];refine⟨by lia,by lia,?_⟩;split <;> lia
 have plen:(fg ns 20 cp size).length=cp:=by simp[fg]
 generalize hpo:fg ns 20 cp size=po at pnd ppt plen hp3;refine aJ (R:=λσ h=>h3=h/\σ=[some (.scr ns),some (.int size),some (.ref a),some (.ref l),some (.ref pl),some (.int (cell ns 26)),none,none,none,none,none,none,none,none,none,none,none]) (by simp[ik]) ?_;rintro _ _ ⟨rfl,rfl⟩;refine aJ (R:=λσ h=>∃(pl:Nat) (po:List Pd),Pre h3 h/\h[pl]?=some (.lst (po.map Pd.row))/\(po.map (·.nm)).Nodup/\po.length≤3/\(∀x∈po,0≤x.pt/\x.pt<(b.length:Int)+1/\0≤x.sz)/\σ=[some (.scr ns),some (.int size),some (.ref a),some (.ref l),some (.ref pl),some (.int (cell ns 26)),none,none,none,none,none,none,none,none,none,none,none]) ?_ ?_
 ·rw[fM];by_cases c:cell ns 26/3%3=1
  ·simp only[cY,bq,aK,w_c,kB,jM,kg,c,decide_true,if_true,cq,dG,bv,bp,aM,aR];refine⟨by decide,by decide,F7 hp3 hl3 pnd (by lia) λh' p' po' p g n1 n2 n3=>⟨_,rfl,p',po',p,g,n1,by lia,λx hx=>?_,rfl⟩⟩;obtain⟨z,hz,e1,e2⟩:=n3 x hx;rw[e1,e2];exact ppt z hz
  ·simp only[cY,bq,aK,w_c,kB,jM,kg,c,decide_false,cJ,if_false,gG,aM,aR];exact⟨by decide,by decide,_,rfl,pl,po,.refl,hp3,pnd,by lia,ppt,rfl⟩
 clear hp3 pnd ppt plen
 rintro _ h4 ⟨pl,po,p4,hp4,pnd,pl3,ppt,rfl⟩;have ha4:=p4.get ha3;have hl4:=p4.get hl3;refine aJ (R:=λσ h=>∃o bk pd ld ad r d rs,(h[a]?=some (.lst (rows b))/\h[l]?=some (.lst (rts.map Rt.row))/\h[pl]?=some (.lst (po.map Pd.row)))/\Sy h o bk pd ld ad r d 0 [] [] [] rs b/\aW rs=rts/\σ=[some (.scr ns),some (.int size),some (.ref a),some (.ref l),some (.ref pl),some (.int (cell ns 26)),some (.ref o),none,none,none,none,none,none,none,none,none,none]) ?_ ?_
 ·simp only[cq,wC,dG,bv,bp,aK,aM,aR];refine Ip ha4 hl4 bw few nm pt (by lia) λh5 bk r d rs f B er R lb ld hi=>?_;exact EM B R λh' p S=>⟨rfl,_,rfl,h5.length,bk,_,_,_,r,d,rs,⟨p.get (f.get ha4 (by simp)),p.get (f.get hl4 (by simp)),p.get (f.get hp4 (by simp))⟩,S,er,rfl⟩
 clear ha4 hl4 hp4
 rintro _ h5 ⟨o,bk,pd,ld,ad,r,d,rs,⟨ha,hl,hp⟩,S,er,rfl⟩;have lr:rs.length=count:=by
  have:=congrArg i9 er;simpa[aW,rl] using this
 have cm:fV (po.map Pd.row) none (some (-1))=(po.take (po.length-1)).map Pd.row:=by rw[GC,bS,List.map_take]
 have td:=List.take_append_drop (po.length-1) po;have sub:∀z∈po.take (po.length-1),z∈po:=λz hz=>wd hz;have pnd1:((po.take (po.length-1)).map (·.nm)).Nodup:=pnd.sublist ((oR _ _).map _);obtain⟨K,hK⟩:∃K:List (Str×Int),K=po.map λz=>(z.nm,0):=⟨_,rfl⟩;have kz:∀k,aget k K=0:=λk=>by
  rw[hK]
  clear hK pnd pl3 ppt hp cm td sub pnd1
  induction po with
  |nil=>rfl
  |cons z po ih=>
    simp only[bz,aget];split
    ·rfl
    ·exact ih
 have R0:R20 10 po [] [] [] K [] rts:=⟨rfl,by simp,λz hz=>⟨by rw[hK,bX];exact dI (f:=λz:Pd=>z.nm) hz,λ_=>kz _⟩,by simp,λ_ _=>rfl,⟨by simp,by rw[hK];simp;lia,by simp⟩⟩
 refine aJ (R:=λσ h=>(∃ps,(h[a]?=some (.lst (rows b))/\h[l]?=some (.lst (rts.map Rt.row))/\h[pl]?=some (.lst (po.map Pd.row)))/\Sy h o bk pd ld ad r d 0 ps [] [] rs b/\R20 10 po (po.take (po.length-1)) ps [] K [] rts)/\σ=[some (.scr ns),some (.int size),some (.ref a),some (.ref l),some (.ref pl),some (.int (cell ns 26)),some (.ref o),none,none,none,none,none,none,none,none,none,none]) ?_ ?_
 ·simp only[eI,dG,bv,bp,mG,aK,mq,mL,hX,w_c,wv,nH,hp,cm,aM,aR];have p1:Pre h5 (h5++[.lst ((po.take (po.length-1)).map Pd.row)]):=Pre.app _;have S1:=S.pre p1;refine BY S1 bE (by simpa using pnd1) (λz hz=>⟨(ppt z (sub z hz)).1,(ppt z (sub z hz)).2.1⟩) (by simp;lia) λh' ps' f e1 e2 S'=>?_;have kp:∀{n:Nat}{xs:List MV},h5[n]?=some (.lst xs)->h'[n]?=some (.lst xs):=λe=>f.lst (p1.get e) λn hn ys z=>by
   rw[cT.mp hn,S1.of.pn]at z;cases z
  exact⟨_,rfl,⟨ps',⟨kp ha,kp hl,kp hp⟩,S',R0.dig (dl:=[]) (by simpa using pnd1) (λz hz=>⟨sub z hz,(ppt z (sub z hz)).2.2⟩) (by simpa using e1)⟩,rfl⟩
 clear ha hl hp S R0 kz
 rintro _ h6 ⟨⟨ps,⟨ha,hl,hp⟩,S,R⟩,rfl⟩;refine aJ (R:=λσ h=>h6++[.dct []]=h/\σ=[some (.scr ns),some (.int size),some (.ref a),some (.ref l),some (.ref pl),some (.int (cell ns 26)),some (.ref o),some (.ref h6.length),none,none,none,none,none,none,none,none,none]) (by simp) ?_;rintro _ _ ⟨rfl,rfl⟩;refine aJ (R:=λσ h=>(∃sd,(h[a]?=some (.lst (rows b))/\h[l]?=some (.lst (rts.map Rt.row))/\h[pl]?=some (.lst (po.map Pd.row))/\h[sd]?=some (.dct (acL K)))/\Sy h o bk pd ld ad r d 0 ps [] [] rs b/\NA sd pd ld ad d/\∃t8,σ=[some (.scr ns),some (.int size),some (.ref a),some (.ref l),some (.ref pl),some (.int (cell ns 26)),some (.ref o),some (.ref sd),t8,none,none,none,none,none,none,none,none])) ?_ ?_
 ·have p1:Pre h6 (h6++[.dct []]):=Pre.app _;have z1:=aS S.of.pn;have z2:=aS S.of.la;have z3:=aS S.of.al;have z4:=aS S.bk.dc;have na:NA h6.length pd ld ad d:=⟨by lia,by lia,by lia,by lia⟩
  have g1:(h6++[MO.dct []])[h6.length]?=some (.dct (acL [])):=bE;have S1:=S.pre p1;have ha1:=p1.get ha;have hl1:=p1.get hl;have hp1:=p1.get hp;generalize h6.length=sd at g1 na;generalize h6++[MO.dct []]=h7 at g1 S1 ha1 hl1 hp1;have ob:∀{h:MH}{n:Nat}{xs:List MV},Off [sd] h7 h->h7[n]?=some (.lst xs)->h[n]?=some (.lst xs):=λf e=>f.get e (by simp;exact cX e g1 (by simp));rw[eE];refine cI (fE (n:=pl) (h':=h7) rfl hp1) ?_;refine dR (λk σ h=>(Off [sd] h7 h/\h[sd]?=some (.dct (acL ((po.take k).map λz=>(z.nm,0)))))/\∃t8,σ=[some (.scr ns),some (.int size),some (.ref a),some (.ref l),some (.ref pl),some (.int (cell ns 26)),some (.ref o),some (.ref sd),t8,none,none,none,none,none,none,none,none]) (λk σ h ⟨⟨f,_⟩,_⟩=>d6 (ob f hp1)) (λk v σ h hv ⟨⟨f,gs⟩,t8,es⟩=>?_) (λσ h ⟨⟨f,gs⟩,t8,es⟩=>?_) ⟨⟨Off.refl,g1⟩,none,rfl⟩
  ·subst es;rw[bj,bj]at hv;cases ek:po[k]? with
   |none=>rw[ek]at hv;cases hv
   |some z=>
     rw[ek]at hv;cases hv;have i0:∀u v w z:MV,atN [u,v,w,z] 0=some u:=λ_ _ _ _=>rfl;have tk:po.take (k+1)=po.take k++[z]:=by rw[fR,ek];rfl
     have rz:z.row=.tup [.str z.nm,.int z.pt,.int z.sz,.int z.dt]:=rfl;have fr:z.nm∉((po.take k).map λz=>(z.nm,(0:Int))).map (·.1):=λm=>by
      have n2:((po.take (k+1)).map (·.nm)).Nodup:=pnd.sublist ((oR _ _).map _);rw[tk,dm,hG]at n2;rw[bX]at m;exact n2.2.2 _ m _ (by simp) rfl
     have ea:aput z.nm 0 ((po.take k).map λz=>(z.nm,0))=(po.take (k+1)).map λz=>(z.nm,0):=by
      unfold aput;rw[if_neg fr,tk];simp
     have lg:=aS gs;have zl:(acL ((po.take k).map λz=>(z.nm,0))).length<1000:=by simp[acL];lia
     simp only[cj,d0,d5,nG,bq,aK,w_c,rz,cB,i0,mQ,gs,kO,ea,aM,aR];exact⟨zl,lg,⟨f.trans Off.set,dU lg⟩,_,rfl⟩
  ·rw[bS,bS,kP,←hK]at gs;exact⟨σ,rfl,sd,⟨ob f ha1,ob f hl1,ob f hp1,gs⟩,S1.offk g1 na f,na,t8,es⟩
 clear ha hl hp S
 rintro _ h7 ⟨sd,⟨ha,hl,hp,hs⟩,S,n0,t8,rfl⟩;refine aJ (R:=λσ h=>h7=h/\σ=[some (.scr ns),some (.int size),some (.ref a),some (.ref l),some (.ref pl),some (.int (cell ns 26)),some (.ref o),some (.ref sd),t8,some (.int 0),none,none,none,none,none,none,none]) (by simp) ?_;rintro _ _ ⟨rfl,rfl⟩;refine aJ (R:=λσ h=>h7++[.dct []]=h/\σ=[some (.scr ns),some (.int size),some (.ref a),some (.ref l),some (.ref pl),some (.int (cell ns 26)),some (.ref o),some (.ref sd),t8,some (.int 0),some (.ref h7.length),none,none,none,none,none,none]) (by simp) ?_;rintro _ _ ⟨rfl,rfl⟩;refine aJ (R:=λσ h=>h7++[.dct []]++[.dct []]=h/\σ=[some (.scr ns),some (.int size),some (.ref a),some (.ref l),some (.ref pl),some (.int (cell ns 26)),some (.ref o),some (.ref sd),t8,some (.int 0),some (.ref h7.length),some (.ref (h7.length+1)),none,none,none,none,none]) (by simp) ?_;rintro _ _ ⟨rfl,rfl⟩;refine aJ (R:=λσ h=>∃dg sm gd,Sy h o bk pd ld ad r d 0 ps [] [] rs b/\Ex20 h a l pl dg sd sm gd b rts po (po.take (po.length-1)) K [] []/\NA sm pd ld ad d/\NA gd pd ld ad d/\σ=P20 ns size a l pl (cell ns 26) o sd t8 0 sm gd dg [none,none,none,none]) ?_ ?_
 ·have p1:Pre h7 (h7++[.dct []]++[.dct []]):=(Pre.app _).snoc _;have z1:=aS S.of.pn;have z2:=aS S.of.la;have z3:=aS S.of.al;have z4:=aS S.bk.dc;have z5:=aS hs;have g1:(h7++[MO.dct []]++[MO.dct []])[h7.length]?=some (.dct (acL [])):=dH bE;have g2:(h7++[MO.dct []]++[MO.dct []])[h7.length+1]?=some (.dct (acL [])):=by
   have e:h7.length+1=(h7++[MO.dct []]).length:=by simp
   rw[e,bE];rfl
  have S1:=S.pre p1;have ha1:=p1.get ha;have hl1:=p1.get hl;have hp1:=p1.get hp;have hs1:=p1.get hs;generalize h7++[MO.dct []]++[MO.dct []]=h8 at g1 g2 S1 ha1 hl1 hp1 hs1;have p2:Pre h8 (h8++[.lst ((po.take (po.length-1)).map Pd.row)]):=Pre.app _;simp only[cq,mG,aK,mq,mL,hX,w_c,wv,nH,hp1,cm,aM,aR];exact⟨_,rfl,h8.length,h7.length,h7.length+1,S1.pre p2,⟨p2.get ha1,p2.get hl1,p2.get hp1,bE,p2.get hs1,p2.get g1,p2.get g2,by lia,by lia,by lia⟩,⟨by lia,by lia,by lia,by lia⟩,⟨by lia,by lia,by lia,by lia⟩,rfl⟩
 clear ha hl hp hs S
 rintro _ h8 ⟨dg,sm,gd,S,X,n1,n2,rfl⟩;refine aJ (R:=λσ h=>True) ?_ ?_
 ·rw[eE];refine cI (kZ (n:=days) (j:=days) (h':=h8) (iV (by simp[hdy])) ⟨by lia,by lia⟩ (by simp)) ?_;refine dR (λk σ h=>∃dg gd ld ro ps L A K M G,Sy h o bk pd ld ad r d ro ps L A rs b/\Ex20 h a l pl dg sd sm gd b rts po (if k≤1 then po.take (po.length-1) else po) K M G/\R20 (10+20*k) po (if k≤1 then po.take (po.length-1) else po) ps A K M rts/\(∀y∈rts,aget y.nm L=aget y.nm G)/\L.length<400/\NA sd pd ld ad d/\NA sm pd ld ad d/\NA gd pd ld ad d/\∃t13 t14 t15 t16,σ=P20 ns size a l pl (cell ns 26) o sd t8 ro sm gd dg [t13,t14,t15,t16]) (λ_ _ _ _=>rfl) (λk x σ h hx J=>?_) (λσ h _=>⟨σ,rfl,trivial⟩) ⟨dg,gd,ld,0,ps,[],[],K,[],[],S,X,R,λ_ _=>rfl,by decide,n0,n1,n2,none,none,none,none,rfl⟩;obtain⟨dg,gd,ld,ro,ps,L,A,K,M,G,S,X,R,g,hL,n0,n1,n2,t13,t14,t15,t16,rfl⟩:=J;have hk:k<days:=by
   have:=(bN.mp hx).1
   rwa [gM]at this
  rw[my hk]at hx;cases hx;have e0:(0:Int)+(k:Int)=k:=by lia
  simp only[cj,d0,d5,e0];exact fe (F4 S X R g hL n0 n1 n2 (by lia) er (by lia) (er▸pt) am0 bw few hn pnd ppt pl3) (λf h' z=>by obtain⟨σ,rfl,z⟩:=z;exact z) λ_ _ z=>z
 rintro σ h _;simp
end L2.Rv
namespace PySem.W.Fast
def tw8706903224263996475:=0
def tw11758463178007705638:=0
def tw18108389169923380528:=0
def tw6282356997763887741:=0
def tw13826292193133974704:=0
def tw7754367779290303309:=0
def tw1762190123458165513:=0
def tw17671547257199949148:=0
def tw13579524652904152600:=0
def tw12399915373336497372:=0
def tw17776382378289709696:=0
def tw6849625409983950618:=0
def tw1877327541345153821:=0
def tw11433947587938746017:=0
def tw14339683951196450395:=0
def tw13853626467093080764:=0
def tw6718525663044494877:=0
def tw16821508751499307038:=0
def tw5167333203806524589:=0
def tw2106276841446125924:=0
def tw533175685621495163:=0
def tw2336856776788497024:=0
def tw8585937015515494039:=0
def tw807867310129527477:=0
def tw16694341642425324133:=0
def tw2701698575195423889:=0
def tw248542466144247485:=0
def tw12110878146772028185:=0
def tw11799472102293032012:=0
def tw13886519964207306902:=0
def tw9601929482944294967:=0
def tw13863742800696182569:=0
def tw2240539305517406508:=0
def tw3907090055670451022:=0
def tw11402886732634340453:=0
def tw7615967908053743176:=0
def tw9309360666783308888:=0
def tw16387933029197751894:=0
def tw1054854964361580667:=0
def tw13610341072402799168:=0
def tw3622038864226063719:=0
def tw11773286989509259951:=0
def tw16120631521518546793:=0
def tw10156186371136447844:=0
def tw276995634024850461:=0
def tw13013288482123590178:=0
def tw1458930324184209834:=0
def tw10257495101747511073:=0
def tw4588659521574567311:=0
def tw15949185691103967335:=0
def tw1982139229275137167:=0
def tw5986466429332229695:=0
def tw11211663426694103239:=0
def tw18366950104893539555:=0
def tw15578308540686947010:=0
def tw3214241922448791837:=0
def tw2556845198292375593:=0
def tw14621604746353785564:=0
def tw16250919756798342372:=0
def tw11020741561192401043:=0
def tw4094900862310384865:=0
def tw12682247194314837620:=0
def tw6620227449215874852:=0
def tw6162985283690289571:=0
def tw4192277426076383859:=0
def tw1778869671828492354:=0
def tw5775654965466000713:=0
def tw13980256325686174116:=0
def tw13972389146778680756:=0
def tw7473592785822608966:=0
def tw2784896685632574048:=0
def tw12875094543336884248:=0
def tw17297625733757975312:=0
def tw15372382587267783650:=0
def tw3409947891948337123:=0
def tw4729346416927033233:=0
def tw16521702737291701652:=0
def tw7571207147439309268:=0
def tw2993156702724083792:=0
def tw5170790957972818268:=0
def tw7281204729424588445:=0
def tw2565141079705168072:=0
def tw5139694468305544335:=0
def tw1033039636569946610:=0
def tw3333938221756510602:=0
def tw9535811344645448693:=0
def tw8861531942195126536:=0
def tw16253180737976062890:=0
def tw4414737173797432514:=0
def tw9655694390586852323:=0
def tw3962489814172972183:=0
def tw5823509986117549407:=0
def tw2171071004614432555:=0
def tw17304004493979687599:=0
def tw18445189474593248007:=0
def tw14642371827196259247:=0
def tw12177865247608353621:=0
def tw16981730230179576379:=0
def tw6899272670371267844:=0
def tw750388115914463983:=0
def tw5244630569030824305:=0
def tw14679971347583998953:=0
def tw10458025155521402525:=0
def tw12428761501114285677:=0
def tw16320485745922268865:=0
def tw2082340884805146205:=0
def tw15285203177404018782:=0
def tw15965951328707498688:=0
def tw5390213271306230034:=0
def tw17169747418030206413:=0
def tw8861204653446137307:=0
def tw4504245578560169634:=0
def tw15277345507636597739:=0
def tw8478950105601139065:=0
def tw14461062613669391495:=0
def tw101057535301764438:=0
def tw702752589151319211:=0
def tw3978596483496195090:=0
def tw5770939908230958278:=0
def tw15415510427891312406:=0
def tw8926557278905714682:=0
def tw10950884443192425897:=0
def tw8000550241166670713:=0
def tw14682408925157365454:=0
def tw583537775214505289:=0
def tw8048973369167460750:=0
def tw15144634597795498677:=0
def tw2919974690418173680:=0
def tw16972866248647783258:=0
def tw7161571584213996926:=0
def tw2373016897403401525:=0
def tw5968059712227922313:=0
def tw8101974454304280623:=0
def tw5253670614867059893:=0
def tw879125790785317056:=0
def tw6536229414719260859:=0
def tw3067410641837632146:=0
def tw2063026937907386750:=0
def tw10717428777455703398:=0
def tw15143934837501270841:=0
def tw14050037658253168322:=0
def tw13193069161080539021:=0
def tw4720912887988969269:=0
def tw3366725667646525374:=0
def tw4929742279838501242:=0
def tw11839966765888236722:=0
def tw17285951526445493676:=0
def tw13787479905353958357:=0
def tw13206358769188700562:=0
def tw12128388878818248515:=0
def tw9635480244580768905:=0
def tw14825555852025421566:=0
def tw5456340207018457231:=0
def tw2809792161119354245:=0
def tw14901450618859691685:=0
def tw6443482881824541343:=0
def tw14489630163001176832:=0
def tw2616363766664254787:=0
def tw945627885986534025:=0
def tw331117521325432350:=0
def tw16157778558966304724:=0
def tw15872031176064159681:=0
def tw4113602646122730290:=0
def tw15076056562634690333:=0
def tw15936732076435837504:=0
def tw13297402163145904902:=0
def tw12918032404581569848:=0
def tw1582696068388286304:=0
def tw7410002919360000716:=0
def tw13433625522419466772:=0
def tw14952616597911826350:=0
def tw7408411745318773012:=0
def tw2490364105405176164:=0
def tw2169074441256235792:=0
def tw13865832163988673504:=0
def tw1627036961101363744:=0
def tw2591660543068660027:=0
def tw282819571678326960:=0
def tw8819830568705849444:=0
def tw1380612547533176062:=0
def tw3640316142998181009:=0
def tw14705870083691899685:=0
def tw1608279753249635824:=0
def tw17725345051223913056:=0
def tw466163965849864693:=0
def tw9592898430870499104:=0
def tw6014942043264919376:=0
def tw5647209219272931161:=0
def tw14015052980916890300:=0
def tw2668406362973850365:=0
def tw2082285143522341670:=0
def tw17310068957739840040:=0
def tw17206392479753518548:=0
def tw16972639270562691294:=0
def tw10319097939178229880:=0
def tw9478515911316720251:=0
def tw10214807946833873340:=0
def tw14939966309146895190:=0
def tw14090868083614255459:=0
def tw12332983259710608801:=0
def tw13429219574246813819:=0
def tw10050415463464547773:=0
def tw10678186639088439094:=0
def tw3497209602517304323:=0
def tw15249323791804033777:=0
def tw12228121889789976448:=0
def tw14344054292744069402:=0
def tw7035243490835270569:=0
def tw1867936268061423113:=0
def tw3082198899517163171:=0
def tw18023725716083370727:=0
def tw4325950938115900726:=0
def tw9703689000284146055:=0
def tw16114855029116401328:=0
def tw13180201432501104782:=0
def tw5576329587681976713:=0
def tw3941739147184306168:=0
def tw4374258988428277487:=0
def tw14682715686945551148:=0
def tw161666455898016702:=0
def tw5245465401139451744:=0
def tw13644841520551387101:=0
def tw16152185204928269785:=0
def tw165133471368981455:=0
def tw10787117424121911922:=0
def tw6037903597823322419:=0
def tw1647293164056176524:=0
def tw1097266691821105620:=0
def tw12618435574237141952:=0
def tw3140759447475782265:=0
def tw17300258051361915252:=0
def tw7864065945325897035:=0
def tw55533096199231764:=0
def tw17768030731944520727:=0
def tw1741540641888641971:=0
def tw9322880817387970128:=0
def tw3483998407905449835:=0
def tw13006783558325967111:=0
def tw12575997634143785920:=0
def tw16087001045794321696:=0
def tw7540670081978033045:=0
def tw4781687201195185123:=0
def tw2526768014056325714:=0
def tw1840782575663885235:=0
def tw13910831398167642641:=0
def tw12447023400870504314:=0
def tw7949347805064611201:=0
def tw1108362274542776773:=0
def tw9349836055836589448:=0
def tw18134503142661563726:=0
def tw773568310269992154:=0
def tw3236972202519499118:=0
def tw12997431196064712194:=0
def tw6745609352133639403:=0
def tw6914777489446701983:=0
def tw6315014357427798182:=0
def tw12321675023643025459:=0
def tw1034086103544395484:=0
def tw5741626178733459147:=0
def tw17002634734505724036:=0
def tw2733867278868494273:=0
def tw11916398963631134809:=0
def tw17022033738099737141:=0
def tw15792462238658038594:=0
def tw18018802188171197470:=0
def tw13025036883855068397:=0
def tw9335916035732578428:=0
def tw4359675236806095724:=0
def tw8754238122887453217:=0
def tw4525015975619340200:=0
def tw18274943493046301187:=0
def tw15463177474699752486:=0
def tw18230696470002945394:=0
def tw9417635556594375466:=0
def tw5993509387802229945:=0
def tw17166427762428207490:=0
def tw909397142871051010:=0
def tw882266650404821632:=0
def tw8560332443149627065:=0
def tw14317728136488345381:=0
def tw12531280956550157646:=0
def tw9238804143542823217:=0
def tw10778070558573300559:=0
def tw1070286621321810805:=0
def tw9536678636968670100:=0
def tw16266500553996932546:=0
def tw14424131599874393858:=0
def tw12113000010524387855:=0
def tw7190799561320709352:=0
def tw15705372277413838983:=0
def tw17323553996627968482:=0
def tw16978842117220180578:=0
def tw4685516993387994343:=0
def tw17149310341271987896:=0
def tw15686303477703267638:=0
def tw329688511075257044:=0
def tw14803895632282417873:=0
def tw11307007197375714265:=0
def tw12159603180921613752:=0
def tw10908687617697216502:=0
def tw3891798318110763465:=0
def tw3883513526966605391:=0
def tw6978383979097721420:=0
def tw15617451905097907051:=0
def tw7449747231310403517:=0
def tw16169033560524643862:=0
def tw10877149298843143365:=0
def tw6187173686647967123:=0
def tw9965572140640000321:=0
def tw2506314039416723219:=0
def tw17791576287468416179:=0
def tw8470652532575359225:=0
def tw6763486211190205707:=0
def tw2236602738956908664:=0
def tw13304948226739225509:=0
def tw644349327171036685:=0
def tw499987155284538200:=0
def tw13825556961177007628:=0
def tw3300719090818291649:=0
def tw4325501062402814681:=0
def tw11376170220037852832:=0
def tw5058296515010877654:=0
def tw7483954331281495811:=0
def tw9851619084419160337:=0
def tw769450698741976758:=0
def tw5522372674780806497:=0
def tw501314758493789779:=0
def tw3173130280386754877:=0
end PySem.W.Fast
open PySem PySem.W PyProof.Rows
set_option maxRecDepth 100000 in
set_option maxHeartbeats 0 in
theorem PySem.Challenge.cw_riverdue_k20_a_day_holds : PySem.Challenge.rw_riverdue_k20_a_day.Holds := by
 w_on; o_law; o_head (PySem.W.kHook L2.Rv.KQ L2.Rv.KQa (fun _ => by kernel_rfl)); (case hw => w_witness2)
 refine L2.Rv.walk (l := PySem.Challenge.rw_riverdue_k20_a_day) (K := L2.Rv.KD L2.Rv.KQ 369) (tb := 369) rfl rfl (fun w h Y => ⟨L2.Rv.KD_in (PySem.W.kIn_of Y), PySem.W.kIn_of Y 369 _ (by kernel_rfl)⟩) (fun w => L2.Rv.KD_none) ?F
 case F => exact fun w mg fa h KX G hmg => L2.Rv.all_mk KX G hmg L2.Rv.law_true
